import PyProof.Rows.All
import Wide.All
import OpenK.AllK
import Wide.FinOn
import Lean
import PyProof.EqAt
import PyProof.EqKinds
import PyProof.TupleCall
import PyProof.DictRoadsH
import PyProof.TupleKey
import PyProof.NeKinds
import PyProof.ZipIter
import KE.KRevIter
import PyProof.ListRange
import KE.LcSums
import PyProof.Rows.MinMaxN
import KE.KTryDeep
import PyProof.ExcArgsOwn
import PyProof.ExcAttrAll.ValueError
import KE.KIntText
import PyProof.JoinWalk
import PyProof.StrCalls
import KE.KDictSum
import KE.KIsAll
import KE.RegKIsAll
import PySem.Challenge.RW_evenmix_k42_whole_between_or_cut
set_option linter.all false
set_option maxRecDepth 100000
namespace L2
open PySem
abbrev mH:=Int × List Int
section
variable {prog:Program}{w:World}
abbrev inner (prog:Program) (w:World):=PySem.intKind prog w
def gU (h:Heap) (k:mH) (a:Addr):Prop :=
 ∃o n t b,h.get? a=some o∧o.cls=.type "tuple"∧o.data=.seq #[.int k.1 t,.ref b] n∧IsTupleKey (inner prog w) h k.2 b
def qu (prog:Program) (w:World) (k:mH):Int:=reduceHash (Builtin.Tuple.tupleHashOf [hashInt k.1,tupleKeyHash (inner prog w) k.2])
theorem gU.ty {s:Shared}{k:mH}{a:Addr} (x:gU (prog:=prog) (w:=w) s.heap k a):s.TypeIs (.ref a) "tuple":=by
 obtain ⟨o,n,t,b,e,c,_⟩:=x
 exact⟨o,e,c⟩
theorem gU.uniq {h:Heap}{a:Addr}{x y:mH} (hx:gU (prog:=prog) (w:=w) h x a) (hy:gU (prog:=prog) (w:=w) h y a):x=y:=by
 obtain ⟨o,n,t,b,e,c,d,i⟩:=hx
 obtain ⟨o',n',t',b',e',c',d',i'⟩:=hy
 rw[e] at e'
 cases e'
 rw[d] at d'
 injection d' with q1 _
 have q2:=congrArg Array.toList q1
 injection q2 with q3 q4
 injection q3 with q5 _
 injection q4 with q6 _
 injection q6 with q7
 subst q7
 exact Prod.ext q5 (i.inj i')
theorem gU.stays {h h':Heap}{k:mH}{a d:Addr}{o:Obj}{es ep} (x:gU (prog:=prog) (w:=w) h k a) (ho:h.get? d=some o) (hd:o.data=.dict es ep) (hs:Heap.SameBut d h h'):gU (prog:=prog) (w:=w) h' k a:=by
 obtain ⟨o',n,t,b,e,c,q,i⟩:=x
 have ne:a≠d:=fun z=>by
  rw[z,ho] at e
  cases e
  rw[hd] at q
  exact nomatch q
 exact⟨o',n,t,b,(hs.2 a ne).trans e,c,q,i.keeps ho hd hs⟩
theorem xS {p1 p2:Program}{w1 w2:World}{ks:List Int}{vs:List Value} (h:ItemsAre (intKind p1 w1) ks vs):ItemsAre (intKind p2 w2) ks vs:=by
 induction h with
 | nil=>exact .nil
 | cons a _ ih=>exact .cons a ih
theorem wH {p1 p2:Program}{w1 w2:World}{h:Heap}{ks:List Int}{a:Addr} (x:IsTupleKey (intKind p1 w1) h ks a):IsTupleKey (intKind p2 w2) h ks a:=by
 obtain ⟨o,it,n,e1,e2,e3,e4⟩:=x
 exact⟨o,it,n,e1,e2,e3,xS e4⟩
variable {A:Around}{E:Value→Shared→Prop}{s:Shared}
theorem zE {k:mH}{a:Addr}{Q:Int→Shared→Prop} (hu:A.units+2<cLine) (hk:gU (prog:=prog) (w:=w) s.heap k a) (h:Q (qu prog w k) { s with toks:=s.toks+(k.2.length+3) }):wpAny (model prog w) A (pyHash (.ref a)) Q E s:=by
 have ty:=hk.ty
 obtain ⟨o,n,t,b,ho,_,hd,hi⟩:=hk
 unfold pyHash
 first | unfold pyHashByItsType | skip
 first | refine wpAny_bind (wpAny_cRoomFor_or (.inr (by omega)) ?_) | skip
 refine (wpAny_bind (wpAny_specialOf ty F.slot_tuple_hash.lookup ?_))
 show wpAny (model prog w) A (if (some (Value.builtin "tuple.__hash__") == some Value.none)=true then _ else _) Q E s
 rw[if_neg (fun z=>by rw[beq_builtin_none] at z;cases z)]
 refine (wpAny_bind (wpAny_specialOf ty F.slot_tuple_hash.lookup ?_))
 show wpAny (model prog w) A (callSpecialIfBoundUnlessNone? (.ref a) "__hash__" _ >>= _) Q E s
 refine wpAny_bind (wpAny_callSpecialIfBoundUnlessNone?_slot ty F.slot_tuple_hash (wpAny_call_entry F.slot_tuple_hash ty F.entry_tuple_hash ?_ (F.args_tuple_hash_1 _)))
 show wpAny (model prog w) _ (Builtin.Tuple.tupleItemsOf (.ref a) >>= _) _ _ s
 refine wpAny_bind (wpAny_tupleItemsOf ho hd (wpAny_bind ?_))
 rw[← Array.forIn_toList]
 refine wpAny_forIn_list _ (fun rest (z:Array Int) s'=>(rest=[.int k.1 t,.ref b]∧z.toList=[]∧s'=s)∨(rest=[.ref b]∧z.toList=[hashInt k.1]∧s'={ s with toks:=s.toks+1 })∨(rest=[]∧z.toList=[hashInt k.1,tupleKeyHash (inner prog w) k.2]∧s'={ s with toks:=s.toks+1+(k.2.length+1) })) _ ?_ ?_ _ _ (.inl ⟨rfl,rfl,rfl⟩)
 ·rintro x rest z s' (⟨e1,e2,rfl⟩ | ⟨e1,e2,rfl⟩ | ⟨e1,_⟩)
  ·cases e1
   refine wpAny_bind ((inner prog w).pyHash (k:=k.1) (by simp [inner,intKind,Value.isInt]) ?_)
   first
    | exact wpAny_pure (.inr (.inl ⟨rfl,by simp [e2];rfl,rfl⟩))
    | exact wpAny_bind (wpAny_pure (wpAny_pure (.inr (.inl ⟨rfl,by simp [e2];rfl,rfl⟩))))
  ·cases e1
   refine wpAny_bind (wpAny_pyHash_tuple (knd:=inner prog w) (ks:=k.2) (by first | omega | (show A.in1.units<cLine;show A.units+1<cLine;omega)) hi ?_)
   first
    | exact wpAny_pure (.inr (.inr ⟨rfl,by simp [e2],rfl⟩))
    | exact wpAny_bind (wpAny_pure (wpAny_pure (.inr (.inr ⟨rfl,by simp [e2],rfl⟩))))
  ·cases e1
 ·rintro z s' (⟨e1,_⟩ | ⟨e1,_⟩ | ⟨_,e2,rfl⟩)
  ·cases e1
  ·cases e1
  show wpAny (model prog w) _ (retInt (Builtin.Tuple.tupleHashOf z.toList)) _ _ _
  rw[e2]
  refine wpAny_ret_mkInt ?_
  unfold qu reduceHash at h
  generalize Builtin.Tuple.tupleHashOf [hashInt k.1,tupleKeyHash (inner prog w) k.2]=m at h ⊢
  rw[show s.toks+(k.2.length+3)=s.toks+1+(k.2.length+1)+1 by omega] at h
  show wpAny (model prog w) A (if (decide (-(2:Int) ^ 63≤m) && decide (m<2 ^ 63))=true then _ else _) Q E _
  by_cases hr:(decide (-(2:Int) ^ 63≤m) && decide (m<2 ^ 63))=true
  ·rw[if_pos hr] at h ⊢
   exact wpAny_pure h
  ·rw[if_neg hr] at h ⊢
   exact wpAny_bind (wpAny_rule (wpAny_pure h))
theorem Dd {x y:mH}{a b:Addr} (hu:A.units+2<cLine) (hx:gU (prog:=prog) (w:=w) s.heap x a) (hy:gU (prog:=prog) (w:=w) s.heap y b):SeqAt.EqAt A s (.ref a) (.ref b) (decide (x=y)):=by
 by_cases hab:a=b
 ·subst hab
  rw[hx.uniq hy,decide_eq_true rfl]
  exact SeqAt.EqAt.same _
 ·obtain ⟨o1,n1,t1,b1,g1,c1,d1,i1⟩:=hx
  obtain ⟨o2,n2,t2,b2,g2,c2,d2,i2⟩:=hy
  have r1:s.heap.IsTuple a #[.int x.1 t1,.ref b1]:=⟨o1,g1,c1,n1,d1⟩
  have r2:s.heap.IsTuple b #[.int y.1 t2,.ref b2]:=⟨o2,g2,c2,n2,d2⟩
  have inn:SeqAt.EqAt A.in1 s (.ref b1) (.ref b2) (decide (x.2=y.2)):=fun prog' w' E' Q' q=>by
   have:=wpAny_eqBool_tuple (prog:=prog') (w:=w') (knd:=intKind prog' w') (A:=A.in1) (E:=E') (s:=s) (x:=x.2) (y:=y.2) (a:=b1) (b:=b2) (Q:=Q') (by show A.units+1<cLine;omega) (wH i1) (wH i2) q
   exact this
  have key:=SeqAt.RcAt.tuples (A:=A) (e:=fun j=>if j=0 then decide (x.1=y.1) else decide (x.2=y.2)) r1 r2 (by omega) (fun j h1 h2=>by
   have hj:j=0∨j=1:=by simp at h1;omega
   rcases hj with rfl | rfl
   ·have:=SeqAt.EqAt.int_int (A:=A.in1) (s:=s) x.1 t1 y.1 t2
    rw[show (x.1 == y.1)=decide (x.1=y.1) from rfl] at this
    exact this
   ·exact inn)
  refine SeqAt.EqAt.of_refs hab ?_
  have e:decide (x=y)=((List.range (min (#[Value.int x.1 t1,Value.ref b1]:Array Value).size (#[Value.int y.1 t2,Value.ref b2]:Array Value).size)).all (fun j=>if j=0 then decide (x.1=y.1) else decide (x.2=y.2)) && (#[Value.int x.1 t1,Value.ref b1]:Array Value).size == (#[Value.int y.1 t2,Value.ref b2]:Array Value).size):=by
   rw[show (List.range (min (#[Value.int x.1 t1,Value.ref b1]:Array Value).size (#[Value.int y.1 t2,Value.ref b2]:Array Value).size))=[0,1] from rfl]
   rw[Bool.eq_iff_iff]
   simp [Prod.ext_iff]
  rw[e]
  exact key
theorem wJ {ks:List Int}{a:Addr}{n:Nat}{Q:Bool→Shared→Prop} (hk:IsTupleKey (inner prog w) s.heap ks a) (h:Q true s):wpAny (model prog w) A (eqIsQuiet (n+1) (.ref a)) Q E s:=by
 have ty:=hk.typeIs
 obtain ⟨o,it,m,ho,_,hd,hi⟩:=hk
 unfold eqIsQuiet
 refine (wpAny_bind (wpAny_specialOf ty F.slot_tuple_eq.lookup ?_))
 show wpAny (model prog w) A (isInstance (.ref a) (.type "tuple") >>= _) Q E s
 refine (wpAny_bind (wpAny_isInstance ty isSubtype_tuple_tuple ?_))
 simp only[Bool.not_true,Bool.false_eq_true,if_false]
 refine (wpAny_bind (wpAny_seqItems ho hd (wpAny_bind ?_)))
 show wpAny (model prog w) A (forIn it _ _) _ E s
 rw[← Array.forIn_toList]
 refine wpAny_forIn_list _ (fun rest r s'=>(r.1=none∧s'=s)∧∀v∈rest,carriedByValue v=true) _ ?_ ?_ _ _ ⟨⟨rfl,rfl⟩,hi.byValue⟩
 ·rintro v rest r s' ⟨⟨hr,rfl⟩,hall⟩
  rw[eqIsQuiet_byValue _ (hall v List.mem_cons_self)]
  refine wpAny_bind (wpAny_pure ?_)
  simp only[Bool.not_true,Bool.false_eq_true,if_false]
  exact wpAny_pure ⟨⟨rfl,rfl⟩,fun u hu=>hall u (List.mem_cons_of_mem _ hu)⟩
 ·rintro ⟨r1,r2⟩ s' ⟨⟨hr,rfl⟩,_⟩
  simp only at hr
  subst hr
  exact wpAny_pure h
theorem xa {k:mH}{a:Addr}{Q:Bool→Shared→Prop} (hk:gU (prog:=prog) (w:=w) s.heap k a) (h:Q true s):wpAny (model prog w) A (eqIsQuiet 8 (.ref a)) Q E s:=by
 have ty:=hk.ty
 obtain ⟨o,n,t,b,ho,_,hd,hi⟩:=hk
 unfold eqIsQuiet
 refine (wpAny_bind (wpAny_specialOf ty F.slot_tuple_eq.lookup ?_))
 show wpAny (model prog w) A (isInstance (.ref a) (.type "tuple") >>= _) Q E s
 refine (wpAny_bind (wpAny_isInstance ty isSubtype_tuple_tuple ?_))
 simp only[Bool.not_true,Bool.false_eq_true,if_false]
 refine (wpAny_bind (wpAny_seqItems ho hd (wpAny_bind ?_)))
 show wpAny (model prog w) A (forIn (#[Value.int k.1 t,Value.ref b]:Array Value) _ _) _ E s
 rw[← Array.forIn_toList]
 refine wpAny_forIn_list _ (fun rest r s'=>(r.1=none∧s'=s)∧∀v∈rest,v=.int k.1 t∨v=.ref b) _ ?_ ?_ _ _ ⟨⟨rfl,rfl⟩,fun v hv=>by simpa using hv⟩
 ·rintro v rest r s' ⟨⟨hr,rfl⟩,hall⟩
  rcases hall v List.mem_cons_self with rfl | rfl
  ·rw[eqIsQuiet_byValue _ rfl]
   refine wpAny_bind (wpAny_pure ?_)
   simp only[Bool.not_true,Bool.false_eq_true,if_false]
   exact wpAny_pure ⟨⟨rfl,rfl⟩,fun u hu=>hall u (List.mem_cons_of_mem _ hu)⟩
  ·refine wpAny_bind (wJ hi ?_)
   simp only[Bool.not_true,Bool.false_eq_true,if_false]
   exact wpAny_pure ⟨⟨rfl,rfl⟩,fun u hu=>hall u (List.mem_cons_of_mem _ hu)⟩
 ·rintro ⟨r1,r2⟩ s' ⟨⟨hr,rfl⟩,_⟩
  simp only at hr
  subst hr
  exact wpAny_pure h
end
def Bk (prog:Program) (w:World):HeapKind prog w mH where
 is:=gU (prog:=prog) (w:=w)
 hash:=qu prog w
 draws:=fun k=>k.2.length+3
 room:=fun A=>A.units+2<cLine
 inj:=fun hx hy=>hx.uniq hy
 keeps:=fun x ho hd hs=>x.stays ho hd hs
 pyHash:=fun hu hk h=>zE hu hk h
 eqBool:=fun hu hx hy h=>Dd hu hx hy _ _ _ _ h
 quiet:=fun hk h=>xa hk h
end L2
set_option Elab.async false
namespace L2
open PySem PySem.Spec PyProof.Rows
abbrev Key:=Sum Int Str
def pT:Key→Value→Bool
 | .inl k,v=>Value.isInt k v
 | .inr x,v=>Value.isStrOf x v
def Ic (w:World):Key→Int
 | .inl k=>hashInt k
 | .inr x=>hashStr w x
theorem cU:∀{k:Key}{v:Value},pT k v=true→(∃i t,k=Sum.inl i∧v=Value.int i t)∨(∃x t,k=Sum.inr x∧v=Value.str x t)
 | .inl i,v,h=>by
  obtain ⟨t,e⟩:=Value.isInt_shape (k:=i) (v:=v) h
  exact .inl ⟨i,t,rfl,e⟩
 | .inr x,v,h=>by
  obtain ⟨t,e⟩:=Value.isStrOf_shape (x:=x) (v:=v) h
  exact .inr ⟨x,t,rfl,e⟩
theorem zF (i:Int) (t:Tok):pT (.inl i) (.int i t)=true:=by simp [pT,Value.isInt]
theorem zB (x:Str) (t:Tok):pT (.inr x) (.str x t)=true:=by simp [pT,Value.isStrOf]
theorem GN (a b:Int):decide ((Sum.inl a:Key)=Sum.inl b)=(a == b):=by
 by_cases e:a=b
 ·subst e;simp
 ·have h:¬ (Sum.inl a:Key)=Sum.inl b:=fun q=>e (Sum.inl.inj q)
  rw[decide_eq_false h]
  exact (beq_eq_false_iff_ne.mpr e).symm
theorem GX (a b:Str):decide ((Sum.inr a:Key)=Sum.inr b)=decide (a=b):=by
 by_cases e:a=b
 ·subst e;simp
 ·have h:¬ (Sum.inr a:Key)=Sum.inr b:=fun q=>e (Sum.inr.inj q)
  rw[decide_eq_false h,decide_eq_false e]
theorem Fz (a:Int) (b:Str):decide ((Sum.inl a:Key)=Sum.inr b)=false:=decide_eq_false (fun q=>nomatch q)
theorem FZ (a:Str) (b:Int):decide ((Sum.inr a:Key)=Sum.inl b)=false:=decide_eq_false (fun q=>nomatch q)
def dU (prog:Program) (w:World):PySem.KeyKind prog w Key where
 is:=pT
 hash:=Ic w
 inj:=fun v a b ha hb=>by
  rcases cU ha with ⟨i,t,rfl,rfl⟩ | ⟨x,t,rfl,rfl⟩
  ·rcases cU hb with ⟨j,u,rfl,e⟩ | ⟨y,u,rfl,e⟩
   ·injection e with e1 _;rw[e1]
   ·exact nomatch e
  ·rcases cU hb with ⟨j,u,rfl,e⟩ | ⟨y,u,rfl,e⟩
   ·exact nomatch e
   ·injection e with e1 _;rw[e1]
 byValue:=fun k v h=>by
  rcases cU h with ⟨i,t,rfl,rfl⟩ | ⟨x,t,rfl,rfl⟩<;>rfl
 pyHash:=fun hv h=>by
  rcases cU hv with ⟨i,t,rfl,rfl⟩ | ⟨x,t,rfl,rfl⟩
  ·exact wpAny_pyHash_int h
  ·exact wpAny_pyHash_str h
 eqBool:=fun hu hv h=>by
  rcases cU hu with ⟨i,t,rfl,rfl⟩ | ⟨x,t,rfl,rfl⟩
  ·rcases cU hv with ⟨j,u,rfl,rfl⟩ | ⟨y,u,rfl,rfl⟩
   ·rw[GN] at h;exact wpAny_eqBool_int h
   ·rw[Fz] at h;exact SeqAt.EqAt.int_str i t y u _ _ _ _ h
  ·rcases cU hv with ⟨j,u,rfl,rfl⟩ | ⟨y,u,rfl,rfl⟩
   ·rw[FZ] at h;exact SeqAt.EqAt.str_int x t j u _ _ _ _ h
   ·rw[GX] at h;exact wpAny_eqBool_str h
 «strs»:=fun k x t v h=>by
  rcases cU h with ⟨i,u,rfl,e⟩ | ⟨y,u,rfl,e⟩
  ·exact nomatch e
  ·injection e with e1 _
   subst e1
   cases v<;>rfl
theorem wQ (prog:Program) (w:World) (k:Key) (v:Value):(dU prog w).is k v=pT k v:=rfl
theorem vW (prog:Program) (w:World) (i:Int) (t:Tok):(dU prog w).is (.inl i) (.int i t)=true:=zF i t
theorem vg (prog:Program) (w:World) (x:Str) (t:Tok):(dU prog w).is (.inr x) (.str x t)=true:=zB x t
end L2
namespace L2
open PySem PySem.Spec PyProof.Rows
inductive V where
 | non | bl (b:Bool) | int (i:Int) | str (x:Str) | byt (b:Array UInt8) | flt (b:UInt64) | ref (a:Addr) | ty (n:String)
 deriving DecidableEq
def RelV:V→Value→Prop
 | .non,u=>u=Value.none
 | .bl b,u=>u=Value.bool b
 | .int i,u=>∃t,u=Value.int i t
 | .str x,u=>∃t,u=Value.str x t
 | .byt b,u=>∃t,u=Value.bytes b t
 | .flt b,u=>∃t,u=Value.float b t
 | .ref a,u=>u=Value.ref a
 | .ty n,u=>u=Value.type n
abbrev Vals:List V→List Value→Prop:=Paired RelV
theorem Vals.length {xs:List V}{us:List Value} (r:Vals xs us):xs.length=us.length:=Paired.length r
theorem Vals.get:∀{xs:List V}{us:List Value}{i:Nat}{x:V},Vals xs us→xs[i]?=some x→∃u,us[i]?=some u∧RelV x u
 | _,_,_,_,.nil,e=>by simp at e
 | _,_,0,_,.cons r _,e=>by simp at e;subst e;exact⟨_,rfl,r⟩
 | _,_,i+1,x,.cons _ t,e=>by
  obtain ⟨u,h1,h2⟩:=Vals.get (i:=i) (x:=x) t (by simpa using e)
  exact⟨u,by simpa using h1,h2⟩
theorem Vals.set {x:V}{u:Value} (r:RelV x u):∀{xs:List V}{us:List Value} (i:Nat),Vals xs us→Vals (xs.set i x) (us.set i u)
 | _,_,_,.nil=>.nil
 | _,_,0,.cons _ t=>.cons r t
 | _,_,i+1,.cons q t=>.cons q (Vals.set r i t)
theorem Vals.append:∀{xs ys:List V}{us ws:List Value},Vals xs us→Vals ys ws→Vals (xs++ys) (us++ws)
 | _,_,_,_,.nil,s=>s
 | _,_,_,_,.cons r t,s=>.cons r (Vals.append t s)
theorem Vals.take:∀{xs:List V}{us:List Value} (n:Nat),Vals xs us→Vals (xs.take n) (us.take n)
 | _,_,0,_=>.nil
 | _,_,_+1,.nil=>.nil
 | _,_,n+1,.cons r t=>.cons r (Vals.take n t)
theorem Vals.drop:∀{xs:List V}{us:List Value} (n:Nat),Vals xs us→Vals (xs.drop n) (us.drop n)
 | _,_,0,r=>r
 | _,_,_+1,.nil=>.nil
 | _,_,n+1,.cons _ t=>Vals.drop n t
def jY:Option V→Option Value→Prop
 | some v,some u=>RelV v u
 | none,none=>True
 | _,_=>False
def KV {κ:Type}:List (κ × V)→List (κ × Value)→Prop:=Paired fun (p:κ × V) (q:κ × Value)=>p.1=q.1∧RelV p.2 q.2
def kV:Key→V
 | .inl i=>.int i
 | .inr x=>.str x
inductive HO where
  | lst (xs:List V)
  | tup (xs:List V)
  | dK (kvs:List (Key × V)) | dT (kvs:List (List Key × V))
  | set (S:Int→Bool) (n:Nat)
  | ins (C dx:Addr) (fs:List (Str × V))
  | own (x:Addr)
  | xd (fs:List (Str × V))
  | met (f x:Addr)
  | rng (lo hi:Int)
  | frz (o:Obj) (u:HO)
  | tbl (ps:Array Value)
  | ext (φ:Heap→Prop)
 | memo (φ:Int→List Int→Int→Prop) (ks:List mH)
abbrev Hp:=Addr→Option HO
def upd (H:Hp) (a:Addr) (o:HO):Hp:=fun b=>if b=a then some o else H b
theorem aK {H:Hp}{a:Addr}{o:HO}:upd H a o a=some o:=by unfold upd;rw[if_pos rfl]
theorem aI {H:Hp}{a b:Addr}{o:HO} (h:b≠a):upd H a o b=H b:=by unfold upd;rw[if_neg h]
theorem Hh {H:Hp}{a b:Addr}{o u:HO} (h:H a=some o) (h':H b=some u) (d:o≠u):a≠b:=by
 intro e;subst e;rw[h] at h';exact d (Option.some.inj h')
theorem bu {H:Hp}{a b:Addr}{o:HO} (h:H a=some o) (h':H b=none):a≠b:=by
 intro e;subst e;rw[h] at h';cases h'
def Ii (k:mH):Bool:=decide (0≤k.1) && decide (k.1<8) && decide (k.2.length≤5) && k.2.all fun e=>decide (0≤e) && decide (e<7)
def uK (H:Hp) (φ:Int→List Int→Int→Prop) (x:mH × Addr × Value):Prop:=∃b n t,H x.2.1=some (.tup [.int x.1.1,.ref b])∧H b=some (.tup (x.1.2.map V.int))∧x.2.2=.int n t∧φ x.1.1 x.1.2 n∧Ii x.1=true
section
variable (P:Program) (w:World)
def dD (H:Hp) (h:Heap) (a:Addr):HO→Prop
 | .lst xs=>xs.length≤sizeLine∧∃(its:List Value) (n:Nat),Vals xs its∧h.get? a=some { cls:=.type "list",data:=.seq its.toArray n }
 | .tup xs=>xs.length≤sizeLine∧∃its:List Value,Vals xs its∧IsTup h a its.toArray
 | .dK kvs=>kvs.length≤sizeLine∧(a == sysModules)=false∧∃vs,KV kvs vs∧h.DictOf (dU P w) a vs
 | .dT kvs=>kvs.length≤sizeLine∧(a == sysModules)=false∧∃xs:List (List Key × Addr × Value),
   Paired (fun (p:List Key × V) (q:List Key × Addr × Value)=>p.1=q.1∧H q.2.1=some (.tup (p.1.map kV))∧RelV p.2 q.2.2) kvs xs ∧
   ∃o es ep,h.get? a=some o∧o.ExactDict∧o.data=.dict es ep∧es.toList=xs.map (entryOfKey (tupleKind (dU P w)))∧(xs.map (·.1)).Nodup
 | .set S n=>h.SetOf (intKind P w) a S n
 | .ins C dx fs=>H dx=some (.own a)∧fs.length≤1000∧dx≠a∧h.get? a=some (PySem.W.instObj C dx) ∧
   ∃mA,h.Ns1 dx mA∧(∀f,jY (fs.lookup f) (mA f))∧PySem.Within mA (fs.map (·.1))
 | .own _=>∃o,h.get? a=some o
 | .xd fs=>∃mA,h.Ns1 a mA∧∀f,jY (fs.lookup f) (mA f)
 | .rng lo hi=>∃t u v,h.get? a=some { cls:=.type "range",data:=.fields #[.int lo t,.int hi u,.int 1 v] }
 | .frz o u=>h.get? a=some o∧dD H h a u
 | .tbl ps=>h.get? a=some { cls:=.none,data:=.fields ps }
 | .met f x=>h.get? a=some (PySem.W.methodObj (.ref f) (.ref x))
 | .memo φ ks=>(a == sysModules)=false∧∃xs:List (mH × Addr × Value),(∀x∈xs,uK H φ x)∧(∀k∈ks,k∈xs.map (·.1)) ∧
   ∃o es ep,h.get? a=some o∧o.ExactDict∧o.data=.dict es ep∧es.toList=xs.map (entryOfKey (Bk P w))∧(xs.map (·.1)).Nodup
 | .ext φ=>φ h∧(∃o,h.get? a=some o)∧∀h1 h2:Heap,φ h1→(∀o,h1.get? a=some o→h2.get? a=some o)→φ h2
def HOk (H:Hp) (h:Heap):Prop:=∀a o,H a=some o→dD P w H h a o
end
section
variable {P:Program}{w:World}{H H':Hp}{h h':Heap}{a:Addr}{o:HO}
theorem dD.lt (x:dD P w H h a o):a<h.objs.size:=by
 cases o with
 | lst xs=>obtain ⟨_,_,_,_,e⟩:=x;exact Heap.lt_size e
 | tup xs=>obtain ⟨_,_,_,p⟩:=x;exact p.lt
 | dK kvs=>obtain ⟨_,_,_,_,o,_,_,e,_⟩:=x;exact Heap.lt_size e
 | dT kvs=>obtain ⟨_,_,_,_,o,_,_,e,_⟩:=x;exact Heap.lt_size e
 | set S n=>obtain ⟨o,_,_,_,e,_⟩:=x;exact Heap.lt_size e
 | ins C dx fs=>obtain ⟨_,_,_,e,_⟩:=x;exact Heap.lt_size e
 | own y=>obtain ⟨_,e⟩:=x;exact Heap.lt_size e
 | xd fs=>obtain ⟨_,⟨_,_,_,e,_⟩,_⟩:=x;exact Heap.lt_size e
 | rng lo hi=>obtain ⟨_,_,_,e⟩:=x;exact Heap.lt_size e
 | frz ob u=>obtain ⟨e,_⟩:=x;exact Heap.lt_size e
 | tbl ps=>exact Heap.lt_size (show h.get? a=some _ from x)
 | met f y=>exact Heap.lt_size (show h.get? a=some _ from x)
 | ext φ=>obtain ⟨_,⟨_,e⟩,_⟩:=x;exact Heap.lt_size e
 | memo φ ks=>obtain ⟨_,_,_,_,_,_,_,e,_⟩:=x;exact Heap.lt_size e
theorem Paired.FT {α β:Type}{F G:α→β→Prop}:∀{l₁:List α}{l₂:List β},Paired F l₁ l₂→(∀a b,F a b→G a b)→Paired G l₁ l₂
 | _,_,.nil,_=>.nil
 | _,_,.cons r t,f=>.cons (f _ _ r) (Paired.FT t f)
theorem dD.oO (x:dD P w H h a o) (k:∀b u,(b=a∨H b=some (.own a))→h.get? b=some u→h'.get? b=some u)
  (ho:∀b,H b=some (.own a)→H' b=some (.own a)) (ht:∀b xs,H b=some (.tup xs)→H' b=some (.tup xs)):dD P w H' h' a o:=by
 induction o with
 | lst xs=>obtain ⟨z,its,n,r,e⟩:=x;exact⟨z,its,n,r,k _ _ (.inl rfl) e⟩
 | tup xs=>obtain ⟨z,its,r,ob,e,c⟩:=x;exact⟨z,its,r,ob,k _ _ (.inl rfl) e,c⟩
 | dK kvs=>obtain ⟨z,y,vs,r,ob,es,ep,e,c⟩:=x;exact⟨z,y,vs,r,ob,es,ep,k _ _ (.inl rfl) e,c⟩
 | dT kvs =>
  obtain ⟨z,y,xs,r,ob,es,ep,e,c⟩:=x
  exact⟨z,y,xs,Paired.FT r fun p q z=>⟨z.1,ht _ _ z.2.1,z.2.2⟩,ob,es,ep,k _ _ (.inl rfl) e,c⟩
 | set S n=>obtain ⟨ob,es,ep,t,e,c⟩:=x;exact⟨ob,es,ep,t,k _ _ (.inl rfl) e,c⟩
 | ins C dx fs =>
  obtain ⟨d,z,ne,e,mA,⟨od,es,ep,e2,c⟩,r⟩:=x
  exact⟨ho _ d,z,ne,k _ _ (.inl rfl) e,mA,⟨od,es,ep,k _ _ (.inr d) e2,c⟩,r⟩
 | own y=>obtain ⟨ob,e⟩:=x;exact⟨ob,k _ _ (.inl rfl) e⟩
 | xd fs=>obtain ⟨mA,⟨od,es,ep,e,c⟩,r⟩:=x;exact⟨mA,⟨od,es,ep,k _ _ (.inl rfl) e,c⟩,r⟩
 | rng lo hi=>obtain ⟨t,u,v,e⟩:=x;exact⟨t,u,v,k _ _ (.inl rfl) e⟩
 | frz ob u ih=>obtain ⟨e,q⟩:=x;exact⟨k _ _ (.inl rfl) e,ih q⟩
 | tbl ps =>
  have e:h.get? a=some { cls:=.none,data:=.fields ps }:=x
  show h'.get? a=some { cls:=.none,data:=.fields ps }
  exact k a _ (.inl rfl) e
 | met f y =>
  have e:h.get? a=some (PySem.W.methodObj (.ref f) (.ref y)):=x
  show h'.get? a=some (PySem.W.methodObj (.ref f) (.ref y))
  exact k a _ (.inl rfl) e
 | memo φ ks =>
  obtain ⟨y,xs,hx,hk,ob,es,ep,e,c⟩:=x
  exact⟨y,xs,fun z hz=>let ⟨b,n,t,q1,q2,q3⟩:=hx z hz;⟨b,n,t,ht _ _ q1,ht _ _ q2,q3⟩,hk,ob,es,ep,k _ _ (.inl rfl) e,c⟩
 | ext φ=>obtain ⟨p,⟨o,e⟩,st⟩:=x;exact⟨st _ _ p fun o q=>k _ _ (.inl rfl) q,⟨o,k _ _ (.inl rfl) e⟩,st⟩
theorem HOk.lt (x:HOk P w H h) (e:H a=some o):a<h.objs.size:=(x a o e).lt
theorem HOk.fresh (x:HOk P w H h) (e:h.objs.size≤a):H a=none:=by
 cases q:H a with
 | none=>rfl
 | some u=>exact absurd (Nat.lt_of_lt_of_le (x.lt q) e) (Nat.lt_irrefl _)
theorem HOk.kept (x:HOk P w H h) (k:∀b u,h.get? b=some u→h'.get? b=some u):HOk P w H h':=fun a o e =>
 (x a o e).oO (fun b u _ q=>k b u q) (fun _ q=>q) fun _ _ q=>q
theorem HOk.laid (x:HOk P w H h) (k:∀b u,h.get? b=some u→h'.get? b=some u) (hp:h.objs.size≤a) (new:dD P w (upd H a o) h' a o):HOk P w (upd H a o) h':=fun b u e=>by
 have hn:=x.fresh hp
 by_cases hb:b=a
 ·subst hb;rw[aK] at e;cases e;exact new
 ·rw[aI hb] at e
  exact (x b u e).oO (fun c v _ q=>k c v q) (fun c q=>by rw[aI (bu q hn)];exact q) fun c xs q=>by rw[aI (bu q hn)];exact q
end
def Rd (H:Hp) (a:Addr) (u:HO):Prop:=H a=some u∨∃o,H a=some (.frz o u)
theorem Rd.ok {P:Program}{w:World}{H:Hp}{h:Heap}{a:Addr}{u:HO} (r:Rd H a u) (x:HOk P w H h):dD P w H h a u:=by
 rcases r with r | ⟨o,r⟩
 ·exact x a u r
 ·obtain ⟨_,q⟩:=x a _ r
  exact q
def Mut:Option HO→Prop
 | some (.lst _)=>True
 | some (.dK _)=>True
 | some (.dT _)=>True
 | some (.set _ _)=>True
 | some (.ins _ _ _)=>True
 | some (.ext _)=>True
 | some (.memo _ _)=>True
 | _=>False
section
variable {P:Program}{w:World}{H:Hp}{h h':Heap}{x e:Addr}{o':HO}
theorem HOk.write (ok:HOk P w H h) (mu:Mut (H x)) (he:e=x∨H e=some (.own x)) (k:∀b u,b≠e→h.get? b=some u→h'.get? b=some u) (heo:∃u,h'.get? e=some u)
  (new:dD P w (upd H x o') h' x o'):HOk P w (upd H x o') h':=fun b u q=>by
 have nown:∀c y,H c=some (.own y)→c≠x:=fun c y r z=>by subst z;rw[r] at mu;exact mu
 have ntup:∀c xs,H c=some (.tup xs)→c≠x:=fun c xs r z=>by subst z;rw[r] at mu;exact mu
 by_cases hb:b=x
 ·subst hb;rw[aK] at q;cases q;exact new
 ·rw[aI hb] at q
  by_cases hbe:b=e
  ·have q':H b=some (.own x):=by
    rcases he with z | z
    ·exact absurd (hbe.trans z) hb
    ·rw[hbe];exact z
   rw[q] at q';cases q'
   obtain ⟨v,hv⟩:=heo
   exact⟨v,by rw[hbe];exact hv⟩
  ·refine (ok b u q).oO (fun c v hc r=>k c v ?_ r) (fun c r=>by rw[aI (nown c b r)];exact r) fun c xs r=>by rw[aI (ntup c xs r)];exact r
   rcases hc with rfl | hc
   ·exact hbe
   ·rintro rfl
    rcases he with z | z
    ·exact nown c b hc z
    ·rw[hc] at z;cases z;exact hb rfl
end
structure Un (fs ex:List Addr) (H H':Hp) (h h':Heap):Prop where
 keep:∀b o,h.get? b=some o→H b=none→b∉fs→b∉ex→h'.get? b=some o
 slot:∀b o,h.get? b=some o→H b=none→b∈fs→b∉ex→∃sl,h'.get? b=some { o with slots:=sl }
 free:∀b o,h.get? b=some o→H b=none→b∉ex→H' b=none
 there:∀b o,h.get? b=some o→b∉ex→∃o',h'.get? b=some o'
 tups:∀b xs,H b=some (.tup xs)→H' b=some (.tup xs)
 frzs:∀b o u,H b=some (.frz o u)→H' b=some (.frz o u)
 tbls:∀b ps,H b=some (.tbl ps)→∃more,H' b=some (.tbl (ps++more))
section
variable {fs fs' ex ex':List Addr}{H H1 H2:Hp}{h h1 h2 h':Heap}{a x e:Addr}{o:HO}
theorem Un.any (u:Un fs ex H H1 h h1) {b:Addr}{ob:Obj} (q:h.get? b=some ob) (n:H b=none) (hx:b∉ex):∃sl,h1.get? b=some { ob with slots:=sl }:=by
 by_cases hb:b∈fs
 ·exact u.slot b ob q n hb hx
 ·exact⟨ob.slots,u.keep b ob q n hb hx⟩
theorem Un.kept (k:∀b u,h.get? b=some u→h'.get? b=some u):Un fs ex H H h h' :=
 ⟨fun b ob q _ _ _=>k b ob q,fun b ob q _ _ _=>⟨ob.slots,k b ob q⟩,fun _ _ _ n _=>n,fun b ob q _=>⟨ob,k b ob q⟩,fun _ _ q=>q,fun _ _ _ q=>q,fun _ ps q=>⟨#[],by rw[q];simp⟩⟩
theorem Un.refl:Un fs ex H H h h:=Un.kept fun _ _ q=>q
theorem Un.laid (k:∀b u,h.get? b=some u→h'.get? b=some u) (hp:h.objs.size≤a) (hn:H a=none):Un fs ex H (upd H a o) h h' where
 keep:=fun b u q _ _ _=>k b u q
 slot:=fun b u q _ _ _=>⟨u.slots,k b u q⟩
 free:=fun b u q n _=>by rw[aI (Nat.ne_of_lt (Nat.lt_of_lt_of_le (Heap.lt_size q) hp))];exact n
 there:=fun b u q _=>⟨u,k b u q⟩
 tups:=fun b xs q=>by rw[aI (bu q hn)];exact q
 frzs:=fun b u xs q=>by rw[aI (bu q hn)];exact q
 tbls:=fun b ps q=>⟨#[],by rw[aI (bu q hn),q];simp⟩
theorem Un.write (mu:Mut (H x)) (he:e=x∨H e=some (.own x)) (k:∀b u,b≠e→h.get? b=some u→h'.get? b=some u) (heo:∃u,h'.get? e=some u):Un fs ex H (upd H x o) h h':=by
 have hx:∀b,H b=none→b≠x:=fun b n z=>by subst z;rw[n] at mu;exact mu
 have hb:∀b,H b=none→b≠e:=fun b n z=>by
  subst z
  rcases he with r | r
  ·exact hx b n r
  ·rw[n] at r;cases r
 have hm:∀b u,H b=some u→¬ Mut (some u)→b≠x:=fun b u q nm z=>by subst z;rw[q] at mu;exact nm mu
 refine⟨fun b u q n _ _=>k b u (hb b n) q,fun b u q n _ _=>⟨u.slots,k b u (hb b n) q⟩,fun b u q n _=>by rw[aI (hx b n)];exact n,fun b u q _=>?_,
  fun b xs q=>by rw[aI (hm b _ q fun z=>z)];exact q,fun b u xs q=>by rw[aI (hm b _ q fun z=>z)];exact q,fun b ps q=>⟨#[],by rw[aI (hm b _ q fun z=>z),q];simp⟩⟩
 by_cases hbe:b=e
 ·subst hbe;exact heo
 ·exact⟨u,k b u hbe q⟩
theorem Un.mono (u:Un fs ex H H1 h h1) (hs:∀b∈fs,b∈fs') (hx:∀b∈ex,b∈ex'):Un fs' ex' H H1 h h1 :=
 ⟨fun b ob q n hb he=>u.keep b ob q n (fun z=>hb (hs b z)) fun z=>he (hx b z),fun _ _ q n _ he=>u.any q n fun z=>he (hx _ z),fun b ob q n he=>u.free b ob q n fun z=>he (hx b z),fun b ob q he=>u.there b ob q fun z=>he (hx b z),u.tups,u.frzs,u.tbls⟩
end
def trk (h:Heap) (H:Hp):List Addr:=(List.range h.objs.size).filter fun a=>(H a).isSome
def ur (h:Heap) (H:Hp):Heap:=PySem.W.hideAll h (trk h H)
theorem zV (h:Heap) (H:Hp):(ur h H).objs.size=h.objs.size:=PySem.W.hideAll_size _ _
theorem AU {h:Heap}{H:Hp}{b:Addr}{o:Obj} (e:h.get? b=some o) (n:H b=none):(ur h H).get? b=some o :=
 PySem.W.hideAll_get _ e fun hm=>by
  have q:(H b).isSome=true:=(List.mem_filter.mp hm).2
  rw[n] at q;simp at q
theorem C1 {h:Heap}{H:Hp}{b:Addr}{o:Obj} (e:(ur h H).get? b=some o):h.get? b=some o∧H b=none:=by
 have e':h.get? b=some o:=PySem.W.of_hideAll (trk h H) e
 refine⟨e',?_⟩
 cases q:H b with
 | none=>rfl
 | some x =>
  have hm:b∈trk h H:=List.mem_filter.mpr ⟨List.mem_range.mpr (Heap.lt_size e'),by simp [q]⟩
  have z:(ur h H).get? b=none:=PySem.W.hideAll_none (trk h H) hm
  rw[z] at e;cases e
def DM (g h:Heap) (L:Addr):List (Addr × Obj):=(List.range h.objs.size).filterMap fun a=>if a=L∨(g.get? a).isSome=true then none else (h.get? a).map fun o=>(a,o)
def rest (g h:Heap) (L d:Addr):List (Addr × Obj):=(DM g h L).filter fun p=>decide (p.1≠d)
end L2
namespace L2
open PySem PySem.Spec PyProof.Rows
structure Mod (K:PySem.W.Frag) (mg:Str→Option Value) (base:Heap):Prop where
 kin:K.In base
 glob:base.Ns mainGlobals mg
 blt:∃mb,base.Ns builtinsNs mb∧∀x:Str,x≠"__name__"→mb x=bootBuiltins x
 nolimit:base.NoLimit
structure Cx where
 prog:Program
 w:World
 K:PySem.W.Frag
 mg:Str→Option Value
 base:Heap
 A:Around
 N:List Str
 s₀:Shared
 H₀:Hp
 env:Env
 outer:List Env
 stack:List Env
 ex:List Addr
 fn:Str→Bool
 calm:Bool
 pn:List (Addr × Obj)
 xe:Value→Shared→Prop
def frs (l:List Env):List Addr:=l.filterMap (·.frame)
abbrev Cx.fs (X:Cx):List Addr:=frs X.outer
def Vis (sc:Scope) (x:Str):Prop:=sc.names.lookup x=some .local∨sc.names.lookup x=some .cell∨sc.names.lookup x=some .free
def Loc (sc:Scope) (x:Str):Prop:=sc.names.lookup x=some .local∨sc.names.lookup x=some .cell
def Look (env:Env) (h:Heap) (m:Str→Option Value) (x:Str) (u:Value):Prop :=
 (env.kindOf x=some .local∧m x=some u)∨((env.kindOf x=some .cell∨env.kindOf x=some .free)∧∃c,env.cells.lookup x=some c∧h.IsCell c (some u))
structure Cx.Ok (X:Cx):Prop where
 mod:Mod X.K X.mg X.base
 kind:X.env.scope.kind=.function
 glob:X.env.globals=mainGlobals
 blt:X.env.builtins=builtinsNs
 above:X.s₀.heap.objs.size≤X.env.locals
 inj:∀x y c,X.env.cells.lookup x=some c→X.env.cells.lookup y=some c→x=y
 has:∀x,(X.env.kindOf x=some .cell∨X.env.kindOf x=some .free)→∃c,X.env.cells.lookup x=some c
 cab:∀x c,X.fn x=true→X.env.cells.lookup x=some c→X.s₀.heap.objs.size≤c
 hd:X.calm=true→X.A.handled=none
 frames:X.A.frames=some X.stack
 stk:X.stack=X.outer∨(X.stack=X.env::X.outer∧X.env.frame=some X.env.locals)
 exf:∀b∈X.ex,b≠X.env.locals∧∀x c,X.env.cells.lookup x=some c→c≠b
 bs:∀b o,X.base.get? b=some o→X.s₀.heap.get? b=some o∧X.H₀ b=none
 bsz:X.base.objs.size≤X.s₀.heap.objs.size
 noex:∀b o,X.base.get? b=some o→b∉X.ex
 exfs:∀b∈X.ex,b∉X.fs
 nB:X.s₀.heap.FunFrames X.base X.outer
 frf:∀b∈X.fs,X.H₀ b=none
structure Inv (X:Cx) (pins:List (Addr × Obj)) (σ:List (Option V)) (H:Hp) (s:Shared):Prop where
 ok:X.Ok
 os:s.os=X.s₀.os
 bare:AllBare s.gens
 base:Un X.fs X.ex X.H₀ H X.s₀.heap s.heap
 loc:∃m,s.heap.Ns X.env.locals m∧∀(i:Nat) (x:Str) (v:V),X.N[i]?=some x→σ[i]?=some (some v)→Vis X.env.scope x→∃u,RelV v u∧Look X.env s.heap m x u
 cell:∀x c,X.env.cells.lookup x=some c→∃v,s.heap.IsCell c v
 free:H X.env.locals=none
 freeC:∀x c,X.env.cells.lookup x=some c→H c=none
 pin:∀p∈X.pn++pins,s.heap.get? p.1=some p.2∧H p.1=none∧p.1≠X.env.locals∧p.1∉X.fs∧∀v,p.2.data≠.cell v
 hok:HOk X.prog X.w H s.heap
 len:σ.length=X.N.length
section
variable {X:Cx}{pins:List (Addr × Obj)}{σ:List (Option V)}{H H':Hp}{s:Shared}{h':Heap}
theorem Cx.Ok.Ik (ok:X.Ok) {b:Addr}{o:Obj} (e:X.base.get? b=some o):b∉X.fs:=fun hb=>by
 have:=(ok.nB.mem hb).1
 rw[e] at this;cases this
theorem Inv.bs (I:Inv X pins σ H s):∀b o,X.base.get? b=some o→s.heap.get? b=some o∧H b=none:=fun b o e =>
 ⟨I.base.keep b o (I.ok.bs b o e).1 (I.ok.bs b o e).2 (I.ok.Ik e) (I.ok.noex b o e),I.base.free b o (I.ok.bs b o e).1 (I.ok.bs b o e).2 (I.ok.noex b o e)⟩
theorem Inv.bk (I:Inv X pins σ H s):∀b o,X.base.get? b=some o→s.heap.get? b=some o:=fun b o e=>(I.bs b o e).1
theorem Inv.mod (I:Inv X pins σ H s):Mod X.K X.mg X.base:=I.ok.mod
theorem Inv.kIn (I:Inv X pins σ H s):X.K.In s.heap:=I.ok.mod.kin.keeps I.bk
theorem Inv.fr (I:Inv X pins σ H s):∃m,Fr X.base X.env.locals s.heap m :=
 let ⟨m,hn,_⟩:=I.loc
 ⟨m,hn,I.bk,Nat.le_trans I.ok.bsz I.ok.above⟩
theorem Inv.lt (I:Inv X pins σ H s):X.env.locals<s.heap.objs.size:=let ⟨_,hn,_⟩:=I.loc;hn.lt
theorem Inv.sz (I:Inv X pins σ H s):X.s₀.heap.objs.size≤s.heap.objs.size:=Nat.le_trans I.ok.above (Nat.le_of_lt I.lt)
theorem Inv.HA (I:Inv X pins σ H s) {a:Addr} (h:s.heap.objs.size≤a):a∉X.fs:=fun hb=>by
 obtain ⟨_,o,ho,_⟩:=I.ok.nB.mem hb
 exact absurd (Nat.lt_of_lt_of_le (Heap.lt_size ho) (Nat.le_trans I.sz h)) (Nat.lt_irrefl _)
theorem Inv.cne (I:Inv X pins σ H s):∀x c,X.env.cells.lookup x=some c→c≠X.env.locals:=fun x c e z=>by
 obtain ⟨v,o,ho,hd⟩:=I.cell x c e
 obtain ⟨m,⟨o',es,ep,ho',hd',_⟩,_⟩:=I.loc
 rw[z,ho'] at ho;cases ho;rw[hd'] at hd;cases hd
theorem Inv.nB (I:Inv X pins σ H s):s.heap.FunFrames X.base X.outer:=by
 have all:∀(l:List Env),(∀b∈frs l,b∈X.fs)→X.s₀.heap.FunFrames X.base l→s.heap.FunFrames X.base l:=by
  intro l
  induction l with
  | nil=>intro _ _;trivial
  | cons env r ih =>
   intro hs hl
   obtain ⟨hk,⟨L,o,hf,hn,ho,hd⟩,hr⟩:=hl
   have hL:L∈X.fs:=hs L (by unfold frs;rw[List.filterMap_cons,hf];exact List.mem_cons_self)
   obtain ⟨sl,e⟩:=I.base.slot L o ho (I.ok.frf L hL) hL fun z=>I.ok.exfs L z hL
   exact⟨hk,⟨L,_,hf,hn,e,hd⟩,ih (fun b hb=>hs b (by unfold frs;rw[List.filterMap_cons,hf];exact List.mem_cons_of_mem _ hb)) hr⟩
 exact all X.outer (fun _ hb=>hb) I.ok.nB
theorem Inv.stack (I:Inv X pins σ H s):s.heap.FunFrames X.base X.stack:=by
 rcases I.ok.stk with e | ⟨e,hf⟩
 ·rw[e];exact I.nB
 ·rw[e]
  obtain ⟨m,hn,_⟩:=I.loc
  refine .cons (by rw[I.ok.kind];decide) hf hn ?_ I.nB
  exact Heap.get?_none_of_le (Nat.le_trans I.ok.bsz I.ok.above)
theorem Inv.pI (I:Inv X pins σ H s):∀b∈frs X.stack,b∈X.env.locals::X.fs:=fun b hb=>by
 rcases I.ok.stk with e | ⟨e,hf⟩
 ·rw[e] at hb;exact List.mem_cons_of_mem _ hb
 ·rw[e] at hb
  unfold frs at hb
  rw[List.filterMap_cons,hf] at hb
  exact hb
theorem Inv.ue (I:Inv X pins σ H s):∀b∈frs X.stack,H b=none:=fun b hb=>by
 rcases List.mem_cons.mp (I.pI b hb) with e | hb
 ·rw[e];exact I.free
 ·obtain ⟨_,o,ho,_⟩:=I.ok.nB.mem hb
  exact I.base.free b o ho (I.ok.frf b hb) fun z=>I.ok.exfs b z hb
theorem Inv.step {g':Array GenState}{t':Nat}{d':Drawn}{ch:List Addr} (I:Inv X pins σ H s)
  (hch:∀b∈ch,(b∈X.ex∨X.s₀.heap.objs.size≤b)∧b≠X.env.locals∧(∀x c,X.env.cells.lookup x=some c→c≠b)∧∀p∈X.pn++pins,p.1≠b)
  (keep:∀b o,b≠X.env.locals→b∉X.fs→b∉ch→s.heap.get? b=some o→H b=none→h'.get? b=some o)
  (slot:∀b o,b≠X.env.locals→b∈X.fs→b∉ch→s.heap.get? b=some o→H b=none→∃sl,h'.get? b=some { o with slots:=sl }) (free:∀b o,b∉ch→s.heap.get? b=some o→H b=none→H' b=none)
  (there:∀b o,b∉ch→s.heap.get? b=some o→∃o',h'.get? b=some o')
  (tups:∀b xs,H b=some (.tup xs)→H' b=some (.tup xs)) (frzs:∀b o u,H b=some (.frz o u)→H' b=some (.frz o u)) (tbls:∀b ps,H b=some (.tbl ps)→∃more,H' b=some (.tbl (ps++more)))
  (ns:∀m,s.heap.Ns X.env.locals m→h'.Ns X.env.locals m) (hok:HOk X.prog X.w H' h') (hg:AllBare g') :
  Inv X pins σ H' { s with heap:=h',gens:=g',drawn:=d',toks:=t' }:=by
 have neL:∀b o,X.s₀.heap.get? b=some o→b≠X.env.locals:=fun b o e=>Nat.ne_of_lt (Nat.lt_of_lt_of_le (Heap.lt_size e) I.ok.above)
 have neC:∀b o,X.s₀.heap.get? b=some o→b∉X.ex→b∉ch:=fun b o e hx hb=>by
  rcases (hch b hb).1 with z | z
  ·exact hx z
  ·exact absurd (Nat.lt_of_lt_of_le (Heap.lt_size e) z) (Nat.lt_irrefl _)
 have cellK:∀x c,X.env.cells.lookup x=some c→∀v,s.heap.IsCell c v→h'.IsCell c v:=fun x c e v ⟨o,ho,hd⟩=>by
  have nch:c∉ch:=fun z=>(hch c z).2.2.1 x c e rfl
  by_cases hc:c∈X.fs
  ·obtain ⟨sl,q⟩:=slot c o (I.cne x c e) hc nch ho (I.freeC x c e)
   exact⟨_,q,hd⟩
  ·exact⟨o,keep c o (I.cne x c e) hc nch ho (I.freeC x c e),hd⟩
 refine⟨I.ok,I.os,hg,⟨fun b o e n hb hx=>?_,fun b o e n hb hx=>?_,fun b o e n hx=>?_,fun b o e hx=>?_,fun b xs e=>tups b xs (I.base.tups b xs e),fun b o xs e=>frzs b o xs (I.base.frzs b o xs e),fun b ps e=>?_⟩,?_,fun x c e=>?_,?_,fun x c e=>?_,fun p hp=>?_,hok,I.len⟩
 ·exact keep b o (neL b o e) hb (neC b o e hx) (I.base.keep b o e n hb hx) (I.base.free b o e n hx)
 ·obtain ⟨sl,e1⟩:=I.base.slot b o e n hb hx
  obtain ⟨sl',e2⟩:=slot b _ (neL b o e) hb (neC b o e hx) e1 (I.base.free b o e n hx)
  exact⟨sl',e2⟩
 ·obtain ⟨o',e1⟩:=I.base.there b o e hx
  exact free b o' (neC b o e hx) e1 (I.base.free b o e n hx)
 ·obtain ⟨o',e1⟩:=I.base.there b o e hx
  exact there b o' (neC b o e hx) e1
 ·obtain ⟨m1,e1⟩:=I.base.tbls b ps e
  obtain ⟨m2,e2⟩:=tbls b _ e1
  exact⟨m1++m2,by rw[e2,Array.append_assoc]⟩
 ·obtain ⟨m,hn,hl⟩:=I.loc
  refine⟨m,ns m hn,fun i x v e1 e2 e3=>?_⟩
  obtain ⟨u,r,l⟩:=hl i x v e1 e2 e3
  refine⟨u,r,?_⟩
  rcases l with l | ⟨k,c,e,z⟩
  ·exact .inl l
  ·exact .inr ⟨k,c,e,cellK x c e _ z⟩
 ·obtain ⟨v,z⟩:=I.cell x c e
  exact⟨v,cellK x c e v z⟩
 ·obtain ⟨m,⟨o,_,_,ho,_⟩,_⟩:=I.loc
  exact free _ o (fun z=>(hch _ z).2.1 rfl) ho I.free
 ·obtain ⟨v,o,ho,hd⟩:=I.cell x c e
  exact free c o (fun z=>(hch c z).2.2.1 x c e rfl) ho (I.freeC x c e)
 ·obtain ⟨e,n,ne,nf,d⟩:=I.pin p hp
  have nch:p.1∉ch:=fun z=>(hch p.1 z).2.2.2 p hp rfl
  exact⟨keep p.1 p.2 ne nf nch e n,free p.1 p.2 nch e n,ne,nf,d⟩
theorem Inv.un {t':Nat} (I:Inv X pins σ H s) (u:Un X.fs [] H H' s.heap h') (hok:HOk X.prog X.w H' h'):Inv X pins σ H' { s with heap:=h',toks:=t' }:=by
 obtain ⟨m,⟨o,es,ep,ho,r⟩,_⟩:=id I.loc
 obtain ⟨sl,hL⟩:=u.any ho I.free (by simp)
 exact I.step (g':=s.gens) (d':=s.drawn) (ch:=[]) (fun _ z=>nomatch z) (fun b o _ hb _ e n=>u.keep b o e n hb (by simp)) (fun b o _ hb _ e n=>u.slot b o e n hb (by simp)) (fun b o _ e n=>u.free b o e n (by simp)) (fun b o _ e=>u.there b o e (by simp)) u.tups u.frzs u.tbls (fun m' hm=>by
  obtain ⟨o',es',ep',ho',r'⟩:=hm
  rw[ho] at ho';cases ho'
  exact⟨_,es',ep',hL,r'⟩) hok I.bare
theorem Inv.call {g':Array GenState}{t':Nat}{d':Drawn}{ch:List Addr} (I:Inv X pins σ H s) (u:Un (frs X.stack) ch H H' s.heap h') (hok:HOk X.prog X.w H' h') (hg:AllBare g')
  (hch:∀b∈ch,(b∈X.ex∨X.s₀.heap.objs.size≤b)∧b≠X.env.locals∧(∀x c,X.env.cells.lookup x=some c→c≠b)∧∀p∈X.pn++pins,p.1≠b) :
  Inv X pins σ H' { s with heap:=h',gens:=g',drawn:=d',toks:=t' }:=by
 obtain ⟨m,⟨o,es,ep,ho,r⟩,_⟩:=id I.loc
 obtain ⟨sl,hL⟩:=u.any ho I.free fun z=>(hch _ z).2.1 rfl
 exact I.step (ch:=ch) hch (fun b o hL hb hc e n=>u.keep b o e n (fun z=>(List.mem_cons.mp (I.pI b z)).elim hL hb) hc) (fun b o _ _ hc e n=>u.any e n hc) (fun b o hc e n=>u.free b o e n hc) (fun b o hc e=>u.there b o e hc) u.tups u.frzs u.tbls (fun m' hm=>by
  obtain ⟨o',es',ep',ho',r'⟩:=hm
  rw[ho] at ho';cases ho'
  exact⟨_,es',ep',hL,r'⟩) hok hg
theorem Inv.turned {t':Nat}{it:Addr} (I:Inv X pins σ H s) (k:∀b o,b≠it→s.heap.get? b=some o→h'.get? b=some o) (hn:H it=none) (hL:it≠X.env.locals)
  (h1:it∈X.ex∨X.s₀.heap.objs.size≤it) (h2:∀x c,X.env.cells.lookup x=some c→c≠it) (h3:∀p∈X.pn++pins,p.1≠it):Inv X pins σ H { s with heap:=h',toks:=t' }:=by
 have nit:∀b u,H b=some u→b≠it:=fun b u e z=>by rw[z,hn] at e;cases e
 refine I.step (g':=s.gens) (d':=s.drawn) (ch:=[it]) (fun b hb=>?_) (fun b o _ _ hc e _=>k b o (fun z=>hc (by simp [z])) e) (fun b o _ _ hc e _=>⟨o.slots,k b o (fun z=>hc (by simp [z])) e⟩) (fun _ _ _ _ n=>n)
  (fun b o hc e=>⟨o,k b o (fun z=>hc (by simp [z])) e⟩) (fun _ _ e=>e) (fun _ _ _ e=>e) (fun b ps e=>⟨#[],by rw[e];simp⟩) (fun m hm=>?_) (fun b u e=>?_) I.bare
 ·have e:b=it:=by simpa using hb
  subst e
  exact⟨h1,hL,h2,h3⟩
 ·obtain ⟨o,es,ep,ho,r⟩:=hm
  exact⟨o,es,ep,k _ o (Ne.symm hL) ho,r⟩
 ·refine (I.hok b u e).oO (fun c v hc q=>k c v ?_ q) (fun _ q=>q) fun _ _ q=>q
  rcases hc with z | z
  ·rw[z];exact nit b u e
  ·exact nit c _ z
theorem Inv.tok (I:Inv X pins σ H s) (t:Nat):Inv X pins σ H { s with toks:=t }:=I.un (h':=s.heap) (t':=t) Un.refl I.hok
theorem Inv.kept {t':Nat} (I:Inv X pins σ H s) (k:∀b u,s.heap.get? b=some u→h'.get? b=some u):Inv X pins σ H { s with heap:=h',toks:=t' }:=I.un (Un.kept k) (I.hok.kept k)
theorem Inv.laid {a:Addr}{o:HO}{t':Nat} (I:Inv X pins σ H s) (k:∀b u,s.heap.get? b=some u→h'.get? b=some u) (hp:s.heap.objs.size≤a) (new:dD X.prog X.w (upd H a o) h' a o) :
  Inv X pins σ (upd H a o) { s with heap:=h',toks:=t' }:=I.un (Un.laid k hp (I.hok.fresh hp)) (I.hok.laid k hp new)
theorem Inv.write {x e:Addr}{o:HO}{t':Nat} (I:Inv X pins σ H s) (mu:Mut (H x)) (he:e=x∨H e=some (.own x)) (k:∀b u,b≠e→s.heap.get? b=some u→h'.get? b=some u) (heo:∃u,h'.get? e=some u)
  (new:dD X.prog X.w (upd H x o) h' x o):Inv X pins σ (upd H x o) { s with heap:=h',toks:=t' }:=I.un (Un.write mu he k heo) (I.hok.write mu he k heo new)
theorem Inv.weak {σ':List (Option V)} (I:Inv X pins σ H s) (hl:σ'.length=σ.length) (w:∀(i:Nat) v,σ'[i]?=some (some v)→σ[i]?=some (some v)):Inv X pins σ' H s :=
 ⟨I.ok,I.os,I.bare,I.base,let ⟨m,hn,hl'⟩:=I.loc;⟨m,hn,fun i x v e1 e2 e3=>hl' i x v e1 (w i v e2) e3⟩,I.cell,I.free,I.freeC,I.pin,I.hok,hl.trans I.len⟩
theorem Inv.oR {pins':List (Addr × Obj)} (I:Inv X pins σ H s) (h:∀p∈pins',s.heap.get? p.1=some p.2∧H p.1=none∧p.1≠X.env.locals∧p.1∉X.fs∧∀v,p.2.data≠.cell v):Inv X pins' σ H s :=
 ⟨I.ok,I.os,I.bare,I.base,I.loc,I.cell,I.free,I.freeC,fun p hp=>(List.mem_append.mp hp).elim (fun z=>I.pin p (List.mem_append_left _ z)) (h p),I.hok,I.len⟩
theorem uX {N:List Str} (hN:N.Nodup) {i j:Nat}{x:Str} (a:N[i]?=some x) (b:N[j]?=some x):i=j:=by
 obtain ⟨h1,e1⟩:=List.getElem?_eq_some_iff.mp a
 obtain ⟨h2,e2⟩:=List.getElem?_eq_some_iff.mp b
 exact (List.getElem_inj hN).mp (e1.trans e2.symm)
theorem sj {M:Model}{A:Around}{E:Value→Shared→Prop}{i:Nat}{x:Str}{v:V}{u:Value}{Q:Unit→Shared→Prop} (I:Inv X pins σ H s) (hN:X.N.Nodup) (hi:X.N[i]?=some x) (hx:Loc X.env.scope x) (r:RelV v u)
  (h:∀s',Inv X pins (σ.set i (some v)) H s'→(∃a,Heap.SameBut a s.heap s'.heap∧(a=X.env.locals∨X.env.cells.lookup x=some a))→Q () s') (hf:X.fn x=true∨X.env.scope.names.lookup x=some .local:=by first | exact .inl rfl | exact .inr rfl | assumption):wpAny M A (storeName X.env x u) Q E s:=by
 obtain ⟨m,hn,hl⟩:=id I.loc
 have hcls:(X.env.scope.kind == .class || (X.env.scope.kind == .module && X.env.locals != X.env.globals))=false:=by rw[I.ok.kind];rfl
 have hiσ:i<σ.length:=by rw[I.len];exact (List.getElem?_eq_some_iff.mp hi).1
 have cne:=I.cne
 have tracked:∀{a:Addr}{h':Heap},(∃o,s.heap.get? a=some o∧H a=none)→Heap.SameBut a s.heap h'→HOk X.prog X.w H h':=fun {a h'} ha hs b ob e=>by
  obtain ⟨_,_,hfree⟩:=ha
  refine (I.hok b ob e).oO (fun c w' hc q=>(hs.2 c ?_).trans q) (fun _ q=>q) fun _ _ q=>q
  rintro rfl
  rcases hc with rfl | hc
  ·rw[hfree] at e;cases e
  ·rw[hfree] at hc;cases hc
 rcases hx with hk | hk
 ·refine wpAny_storeName_local hk hn (fun h' hn' hs=>?_) hcls
  obtain ⟨oL,_,_,hoL,_⟩:=id hn
  refine h _ ⟨I.ok,I.os,I.bare,⟨fun b o e n hb hx=>?_,fun b o e n hb hx=>?_,I.base.free,fun b o e hx=>?_,I.base.tups,I.base.frzs,I.base.tbls⟩,⟨_,hn',fun j y v' e1 e2 e3=>?_⟩,fun y c e=>?_,I.free,I.freeC,fun p hp=>?_,tracked ⟨oL,hoL,I.free⟩ hs,by simpa using I.len⟩ ⟨_,hs,.inl rfl⟩
  ·exact (hs.2 b (Nat.ne_of_lt (Nat.lt_of_lt_of_le (Heap.lt_size e) I.ok.above))).trans (I.base.keep b o e n hb hx)
  ·obtain ⟨sl,e1⟩:=I.base.slot b o e n hb hx
   exact⟨sl,(hs.2 b (Nat.ne_of_lt (Nat.lt_of_lt_of_le (Heap.lt_size e) I.ok.above))).trans e1⟩
  ·obtain ⟨o',e1⟩:=I.base.there b o e hx
   exact⟨o',(hs.2 b (Nat.ne_of_lt (Nat.lt_of_lt_of_le (Heap.lt_size e) I.ok.above))).trans e1⟩
  ·by_cases hj:j=i
   ·subst hj
    rw[hi] at e1;cases e1
    rw[List.getElem?_set_self hiσ] at e2
    cases e2
    exact⟨u,r,.inl ⟨hk,by simp⟩⟩
   ·rw[List.getElem?_set_ne (Ne.symm hj)] at e2
    obtain ⟨u',r',q⟩:=hl j y v' e1 e2 e3
    refine⟨u',r',?_⟩
    rcases q with ⟨k,e⟩ | ⟨k,c,e,z⟩
    ·refine .inl ⟨k,?_⟩
     have:y≠x:=fun e=>hj (uX hN e1 (e▸hi))
     simp [this,e]
    ·exact .inr ⟨k,c,e,z.sameBut hs (cne y c e)⟩
  ·obtain ⟨w',z⟩:=I.cell y c e
   exact⟨w',z.sameBut hs (cne y c e)⟩
  ·obtain ⟨e,n,ne,nf,d⟩:=I.pin p hp
   exact⟨(hs.2 p.1 ne).trans e,n,ne,nf,d⟩
 ·have hfn:X.fn x=true:=by
   rcases hf with z | z
   ·exact z
   ·rw[z] at hk;cases hk
  obtain ⟨c,hc⟩:=I.ok.has x (.inl hk)
  obtain ⟨w',z⟩:=I.cell x c hc
  refine wpAny_storeName_cell I.ok.kind hk hc z (fun h' hc' hs=>?_)
  obtain ⟨oc,hoc,hocd⟩:=id z
  refine h { s with heap:=h' } ⟨I.ok,I.os,I.bare,⟨fun b o e n hb hx=>?_,fun b o e n hb hx=>?_,I.base.free,fun b o e hx=>?_,I.base.tups,I.base.frzs,I.base.tbls⟩,⟨m,hn.sameBut hs (Ne.symm (cne x c hc)),fun j y v' e1 e2 e3=>?_⟩,fun y c' e=>?_,I.free,I.freeC,fun p hp=>?_,tracked ⟨oc,hoc,I.freeC x c hc⟩ hs,by simpa using I.len⟩ ⟨c,hs,.inr hc⟩
  ·exact (hs.2 b (Nat.ne_of_lt (Nat.lt_of_lt_of_le (Heap.lt_size e) (I.ok.cab x c hfn hc)))).trans (I.base.keep b o e n hb hx)
  ·obtain ⟨sl,e1⟩:=I.base.slot b o e n hb hx
   exact⟨sl,(hs.2 b (Nat.ne_of_lt (Nat.lt_of_lt_of_le (Heap.lt_size e) (I.ok.cab x c hfn hc)))).trans e1⟩
  ·obtain ⟨o',e1⟩:=I.base.there b o e hx
   exact⟨o',(hs.2 b (Nat.ne_of_lt (Nat.lt_of_lt_of_le (Heap.lt_size e) (I.ok.cab x c hfn hc)))).trans e1⟩
  ·by_cases hj:j=i
   ·subst hj
    rw[hi] at e1;cases e1
    rw[List.getElem?_set_self hiσ] at e2
    cases e2
    exact⟨u,r,.inr ⟨.inl hk,c,hc,hc'⟩⟩
   ·rw[List.getElem?_set_ne (Ne.symm hj)] at e2
    obtain ⟨u',r',q⟩:=hl j y v' e1 e2 e3
    refine⟨u',r',?_⟩
    rcases q with q | ⟨k,c',e,z'⟩
    ·exact .inl q
    ·refine .inr ⟨k,c',e,z'.sameBut hs ?_⟩
     rintro rfl
     exact hj (uX hN e1 (I.ok.inj _ _ _ e hc▸hi))
  ·by_cases hcc:c'=c
   ·subst hcc;exact⟨_,hc'⟩
   ·obtain ⟨w2,z2⟩:=I.cell y c' e
    exact⟨w2,z2.sameBut hs hcc⟩
  ·obtain ⟨e,n,ne,nf,d⟩:=I.pin p hp
   refine⟨(hs.2 p.1 ?_).trans e,n,ne,nf,d⟩
   intro q
   rw[q,hoc] at e
   have q':oc=p.2:=Option.some.inj e
   exact d w' (by rw[← q'];exact hocd)
theorem vA {M:Model}{A:Around}{E:Value→Shared→Prop}{i:Nat}{x:Str}{v:V}{u:Value}{Q:Unit→Shared→Prop} (I:Inv X pins σ H s) (hN:X.N.Nodup) (hi:X.N[i]?=some x) (hx:Loc X.env.scope x) (r:RelV v u)
  (h:∀s',Inv X pins (σ.set i (some v)) H s'→Q () s') (hf:X.fn x=true∨X.env.scope.names.lookup x=some .local:=by first | exact .inl rfl | exact .inr rfl | assumption):wpAny M A (storeName X.env x u) Q E s :=
 sj I hN hi hx r (fun s' I' _=>h s' I') hf
theorem Inv.Fn {s':Shared}{ch:List Addr} (I:Inv X pins σ H s) (ho:s'.os=s.os) (u:Un (frs X.stack) ch H H' s.heap s'.heap) (hok:HOk X.prog X.w H' s'.heap) (hg:AllBare s'.gens)
  (hch:∀b∈ch,(b∈X.ex∨X.s₀.heap.objs.size≤b)∧b≠X.env.locals∧(∀x c,X.env.cells.lookup x=some c→c≠b)∧∀p∈X.pn++pins,p.1≠b):Inv X pins σ H' s':=by
 obtain ⟨h',g',d',t',o'⟩:=s'
 have e:o'=s.os:=ho
 subst e
 exact I.call (g':=g') (t':=t') (d':=d') u hok hg hch
end
abbrev XK:=Value→Option Addr→Hp→Prop
abbrev St:=List (Option V)
abbrev VK:=V→Hp→Prop
abbrev TE:=St→Hp→VK→Prop
abbrev TT:=St→Hp→(Bool→Hp→Prop)→Prop
abbrev TA:=St→Hp→(List V→Hp→Prop)→Prop
structure Ends where
 nx:St→Hp→Prop
 rt:VK
 bk:St→Hp→Prop:=fun _ _=>False
 ct:St→Hp→Prop:=fun _ _=>False
abbrev TS:=Ends→St→Hp→Prop
def EP (X:Cx) (pins:List (Addr × Obj)) (σ:St) (Q:VK) (u:Value) (s':Shared):Prop:=∃v H',Inv X pins σ H' s'∧RelV v u∧Q v H'
def TP (X:Cx) (pins:List (Addr × Obj)) (σ:St) (Q:Bool→Hp→Prop) (b:Bool) (s':Shared):Prop:=∃H',Inv X pins σ H' s'∧Q b H'
def AP (X:Cx) (pins:List (Addr × Obj)) (σ:St) (Q:List V→Hp→Prop) (us:List Value) (s':Shared):Prop:=∃vs H',Inv X pins σ H' s'∧Vals vs us∧Q vs H'
def SP (X:Cx) (pins:List (Addr × Obj)) (D:Ends) (f:Flow) (s':Shared):Prop :=
 match f with
 | .next=>∃σ' H',Inv X pins σ' H' s'∧D.nx σ' H'
 | .brk=>∃σ' H',Inv X pins σ' H' s'∧D.bk σ' H'
 | .cont=>∃σ' H',Inv X pins σ' H' s'∧D.ct σ' H'
 | .ret u=>∃v σ' H',Inv X pins σ' H' s'∧RelV v u∧D.rt v H'
def PE (X:Cx) (e:Expr) (t:TE):Prop :=
 ∀(pins:List (Addr × Obj)) (s:Shared) (σ:St) (H:Hp) (Q:VK),Inv X pins σ H s→t σ H Q→wpAny (model X.prog X.w) X.A (eval e X.env) (EP X pins σ Q) X.xe s
def PT (X:Cx) (e:Expr) (t:TT):Prop :=
 ∀(pins:List (Addr × Obj)) (s:Shared) (σ:St) (H:Hp) (Q:Bool→Hp→Prop),Inv X pins σ H s→t σ H Q→wpAny (model X.prog X.w) X.A (isTrue e X.env (eval e X.env)) (TP X pins σ Q) X.xe s
def PW (X:Cx) (e:Expr) (t:TT):Prop :=
 ∀(whole:Sem Value) (pins:List (Addr × Obj)) (s:Shared) (σ:St) (H:Hp) (Q:Bool→Hp→Prop),Inv X pins σ H s→t σ H Q→wpAny (model X.prog X.w) X.A (isTrue e X.env whole) (TP X pins σ Q) X.xe s
theorem PW.pt {X:Cx}{e:Expr}{t:TT} (h:PW X e t):PT X e t:=h _
def PA (X:Cx) (es:List Expr) (t:TA):Prop :=
 ∀(pos:Pos) (pins:List (Addr × Obj)) (s:Shared) (σ:St) (H:Hp) (Q:List V→Hp→Prop),Inv X pins σ H s→t σ H Q→wpAny (model X.prog X.w) X.A (spliced (backTo pos (starEach es X.env))) (AP X pins σ Q) X.xe s
def PS (X:Cx) (st:Stmt) (t:TS):Prop :=
 ∀(pins:List (Addr × Obj)) (s:Shared) (σ:St) (H:Hp) (D:Ends),Inv X pins σ H s→t D σ H→wpAny (model X.prog X.w) X.A (exec st X.env) (SP X pins D) X.xe s
def PSs (X:Cx) (st:List Stmt) (t:TS):Prop :=
 ∀(pins:List (Addr × Obj)) (s:Shared) (σ:St) (H:Hp) (D:Ends),Inv X pins σ H s→t D σ H→wpAny (model X.prog X.w) X.A (execs st X.env) (SP X pins D) X.xe s
theorem thn {α:Type}{t:Sem α}{Q Q':α→Shared→Prop}{M:Model}{A:Around}{E:Value→Shared→Prop}{s:Shared} (h:wpAny M A t Q E s) (hQ:∀a s,Q a s→Q' a s):wpAny M A t Q' E s:=wpAny_mono h hQ fun _ _ x=>x
end L2
namespace L2
open PySem PySem.Spec PyProof.Rows
section
variable {X:Cx}
theorem bin {a b:Expr}{ta tb:TE} (ha:PE X a ta) (hb:PE X b tb) {pins:List (Addr × Obj)}{s:Shared}{σ:St}{H:Hp}{R:V→V→Hp→Prop} (I:Inv X pins σ H s) (h:ta σ H fun x H1=>tb σ H1 fun y H2=>R x y H2)
  {α:Type}{Q:α→Shared→Prop}{f:Value→Value→Sem α}
  (hf:∀v u s2 x y H2,Inv X pins σ H2 s2→RelV x v→RelV y u→R x y H2→wpAny (model X.prog X.w) X.A (f v u) Q X.xe s2) :
  wpAny (model X.prog X.w) X.A (eval a X.env) (fun v s₁=>wpAny (model X.prog X.w) X.A (eval b X.env) (fun u s₂=>wpAny (model X.prog X.w) X.A (f v u) Q X.xe s₂) X.xe s₁) X.xe s:=by
 refine thn (ha pins s σ H _ I h) fun v s1 ⟨x,H1,I1,r1,q1⟩=>?_
 refine thn (hb pins s1 σ H1 _ I1 q1) fun u s2 ⟨y,H2,I2,r2,q2⟩=>?_
 exact hf v u s2 x y H2 I2 r1 r2 q2
def eU (i:Nat):TE:=fun σ H Q=>∃v,σ[i]?=some (some v)∧Q v H
def tC (v:V):TE:=fun _ H Q=>Q v H
theorem FG {i:Nat}{x:Str}{pos:Pos} (hN:X.N[i]?=some x) (hv:Vis X.env.scope x) (hd:(x == ("__debug__" : Str))=false:=by decide) (hcd:(x == ("__classdict__" : Str))=false:=by decide):PE X (.Name x pos) (eU i):=by
 intro pins s σ H Q I h
 obtain ⟨v,e,h⟩:=h
 obtain ⟨m,hn,hl⟩:=I.loc
 obtain ⟨u,r,l⟩:=hl i x v hN e hv
 have fin:EP X pins σ Q u s:=⟨v,H,I,r,h⟩
 rcases l with ⟨hk,hm⟩ | ⟨hk,c,hc,hcell⟩
 ·exact wpAny_Name (wpAny_loadName_local I.ok.kind hk hn hm fin) hd
 ·rcases hk with hk | hk
  ·exact wpAny_Name (wpAny_loadName_cell I.ok.kind hk hc hcell fin) hd
  ·exact wpAny_Name (wpAny_loadName_free I.ok.kind hk hc hcell fin hcd) hd
theorem ar {i j pos}:PE X (.Constant (.int i) j pos) (tC (.int i)):=fun _ _ _ H _ I h=>wpAny_Constant_int ⟨.int i,H,I.tok _,⟨_,rfl⟩,h⟩
theorem kZ {b j pos}:PE X (.Constant (.bool b) j pos) (tC (.bl b)):=fun _ _ _ H _ I h=>Constant_bool ⟨.bl b,H,I,rfl,h⟩
theorem lZ {j pos}:PE X (.Constant .none j pos) (tC .non):=fun _ _ _ H _ I h=>Constant_none ⟨.non,H,I,rfl,h⟩
theorem lN {x j pos}:PE X (.Constant (.str x) j pos) (tC (.str x)):=fun _ _ _ H _ I h=>Calls.Constant_str ⟨.str x,H,I.tok _,⟨_,rfl⟩,h⟩
def Gl (X:Cx) (x:Str):Prop:=X.env.kindOf x=some .globalImplicit
theorem tH {E:Value→Shared→Prop}{pins:List (Addr × Obj)}{s:Shared}{σ:St}{H:Hp}{x:Str}{u:Value}{pos:Pos}{Q:Value→Shared→Prop} (I:Inv X pins σ H s) (hg:Gl X x) (hm:X.mg x=some u) (h:Q u s)
  (hd:(x == ("__debug__" : Str))=false:=by decide):wpAny (model X.prog X.w) X.A (eval (.Name x pos) X.env) Q E s :=
 Calls.Name_function_global I.ok.kind hg (Calls.loadGlobal_global (by rw[I.ok.glob];exact I.mod.glob.keeps I.bk) hm h) hd
theorem nj {E:Value→Shared→Prop}{pins:List (Addr × Obj)}{s:Shared}{σ:St}{H:Hp}{x:Str}{u:Value}{pos:Pos}{Q:Value→Shared→Prop} (I:Inv X pins σ H s) (hg:Gl X x) (hm:X.mg x=none) (hv:bootBuiltins x=some u) (h:Q u s)
  (hn:x≠"__name__":=by decide) (hd:(x == ("__debug__" : Str))=false:=by decide):wpAny (model X.prog X.w) X.A (eval (.Name x pos) X.env) Q E s:=by
 obtain ⟨mb,h1,h2⟩:=I.mod.blt
 exact Calls.Name_function_global I.ok.kind hg (Calls.loadGlobal_builtin (by rw[I.ok.glob];exact I.mod.glob.keeps I.bk) hm (by rw[I.ok.blt];exact h1.keeps I.bk) ((h2 x hn).trans hv) h) hd
theorem kS {x:Str}{v:V}{u:Value}{pos:Pos} (hg:Gl X x) (hm:X.mg x=none) (hv:bootBuiltins x=some u) (r:RelV v u) (hn:x≠"__name__":=by decide) (hd:(x == ("__debug__" : Str))=false:=by decide):PE X (.Name x pos) (tC v) :=
 fun _ _ _ H _ I h=>nj I hg hm hv ⟨v,H,I,r,h⟩ hn hd
variable {a b:Expr}{ta tb:TE}{pos:Pos}
def PC (X:Cx) (op:CmpOp) (a b:Expr) (t:TE):Prop :=
 ∀(pins:List (Addr × Obj)) (s:Shared) (σ:St) (H:Hp) (Q:VK),Inv X pins σ H s→t σ H Q →
  wpAny (model X.prog X.w) X.A (eval a X.env) (fun v s₁=>wpAny (model X.prog X.w) X.A (eval b X.env) (fun u s₂=>wpAny (model X.prog X.w) X.A (compareOp op v u) (EP X pins σ Q) X.xe s₂) X.xe s₁) X.xe s
theorem Bj (b:Expr) {op:CmpOp} (h:op≠.In) (h2:op≠.NotIn):behindInMarks op b=false:=by
 have e1:(op == CmpOp.In)=false:=by cases op<;>first | rfl | exact absurd rfl h
 have e2:(op == CmpOp.NotIn)=false:=by cases op<;>first | rfl | exact absurd rfl h2
 cases b<;>simp [behindInMarks,e1,e2]
def tB (t:TE):TT:=fun σ H Q=>t σ H fun x H1=>∃c,x=.bl c∧Q c H1
theorem FY {op:CmpOp}{t:TE} (h:PC X op a b t) (h1:behindInMarks op b=false:=by first | exact Bj _ (by decide) (by decide) | rfl):PT X (.Compare a [op] [b] pos) (tB t):=by
 intro pins s σ H Q I hw
 refine wpAny_isTrue_Compare1 (thn (h pins s σ H _ I hw) fun v s1 h1=>thn h1 fun u s2 h2=>thn h2 fun c s3 ⟨x,H1,I1,r1,q1⟩=>?_) h1
 obtain ⟨d,rfl,q⟩:=q1
 cases r1
 exact wpAny_truthy_bool ⟨H1,I1,q⟩
theorem jr {e:Expr}{t:TE} (h:PE X e t) (he:∀whole,isTrue e X.env whole=(do let v ← whole;standAt e.pos;holding [v] (truthy v)):=by intro _;rfl):PT X e (tB t):=by
 intro pins s σ H Q I hw
 refine isTrue_plain (thn (h pins s σ H _ I hw) fun v s1 ⟨x,H1,I1,r1,q1⟩=>?_) (he _)
 obtain ⟨d,rfl,q⟩:=q1
 cases r1
 exact wpAny_truthy_bool ⟨H1,I1,q⟩
variable {tA tB':TT}{rest:List Expr}
def HP (t u:TT):TT:=fun σ H Q=>t σ H fun c H1=>if c=true then u σ H1 Q else Q false H1
def tOr (t u:TT):TT:=fun σ H Q=>t σ H fun c H1=>if c=true then Q true H1 else u σ H1 Q
def HG (t:TT):TT:=fun σ H Q=>t σ H fun c H1=>Q (!c) H1
theorem mq (ha:PT X a tA):PW X (.BoolOp .And [a] pos) tA:=by
 intro wh pins s σ H Q I h
 refine isTrue_and (thn (ha pins s σ H Q I h) fun c s1 e=>?_)
 cases c with
 | true=>exact isTrue_and_nil e
 | false=>exact e
theorem kl (ha:PT X a tA):PW X (.BoolOp .Or [a] pos) tA:=by
 intro wh pins s σ H Q I h
 refine isTrue_or (thn (ha pins s σ H Q I h) fun c s1 e=>?_)
 cases c with
 | false=>exact isTrue_or_nil e
 | true=>exact e
theorem pk (ha:PT X a tA) (hb:PW X (.BoolOp .And (b::rest) pos) tB'):PW X (.BoolOp .And (a::b::rest) pos) (HP tA tB'):=by
 intro wh pins s σ H Q I h
 refine isTrue_and (thn (ha pins s σ H _ I h) fun c s1 ⟨H1,I1,q1⟩=>?_)
 cases c with
 | true=>exact hb wh pins s1 σ H1 Q I1 q1
 | false=>exact⟨H1,I1,q1⟩
theorem lu (ha:PT X a tA) (hb:PW X (.BoolOp .Or (b::rest) pos) tB'):PW X (.BoolOp .Or (a::b::rest) pos) (tOr tA tB'):=by
 intro wh pins s σ H Q I h
 refine isTrue_or (thn (ha pins s σ H _ I h) fun c s1 ⟨H1,I1,q1⟩=>?_)
 cases c with
 | true=>exact⟨H1,I1,q1⟩
 | false=>exact hb wh pins s1 σ H1 Q I1 q1
theorem iF (ha:PT X a tA):PT X (.UnaryOp .Not a pos) (HG tA):=by
 intro pins s σ H Q I h
 exact isTrue_not (ha pins s σ H (fun c H1=>Q (!c) H1) I h)
def Fg (ta tb:TE):TE:=fun σ H Q=>ta σ H fun x H1=>∃c,x=.bl c∧if c=true then tb σ H1 Q else Q (.bl false) H1
def EE (ta:TE):TE:=fun σ H Q=>ta σ H fun x H1=>∃c,x=.bl c∧Q (.bl (!c)) H1
theorem xG {op}{t:TE} (h:PE X a t):PE X (.BoolOp op [a] pos) t:=fun pins s σ H Q I hw=>BoolOp_one (h pins s σ H Q I hw)
theorem xP (ha:PE X a ta) (hb:PE X (.BoolOp .And (b::rest) pos) tb):PE X (.BoolOp .And (a::b::rest) pos) (Fg ta tb):=by
 intro pins s σ H Q I h
 refine BoolOp_and (thn (ha pins s σ H _ I h) fun v s1 ⟨x,H1,I1,r1,q1⟩=>?_)
 obtain ⟨c,rfl,q1⟩:=q1
 cases r1
 refine wpAny_truthy_bool ?_
 cases c with
 | true=>exact hb pins s1 σ H1 Q I1 q1
 | false=>exact⟨.bl false,H1,I1,rfl,q1⟩
theorem Fv (ha:PE X a ta):PE X (.UnaryOp .Not a pos) (EE ta):=by
 intro pins s σ H Q I h
 refine UnaryOp_ (thn (ha pins s σ H _ I h) fun v s1 ⟨x,H1,I1,r1,q1⟩=>?_)
 obtain ⟨c,rfl,q1⟩:=q1
 cases r1
 exact not_of (wpAny_truthy_bool ⟨.bl (!c),H1,I1,rfl,q1⟩)
def tIf (t:TT) (ta tb:TE):TE:=fun σ H Q=>t σ H fun c H1=>if c=true then ta σ H1 Q else tb σ H1 Q
theorem u9 {c:Expr} (hc:PT X c tA) (ha:PE X a ta) (hb:PE X b tb):PE X (.IfExp c a b pos) (tIf tA ta tb):=by
 intro pins s σ H Q I h
 refine wpAny_IfExp (thn (hc pins s σ H _ I h) fun d s1 ⟨H1,I1,q1⟩=>?_)
 cases d with
 | true=>exact ha pins s1 σ H1 Q I1 q1
 | false=>exact hb pins s1 σ H1 Q I1 q1
end
end L2
namespace L2
open PySem PySem.Spec PyProof.Rows
def SqL (K:PySem.W.Frag) (H:Hp) (a:Addr) (xs:List V):Prop :=
 Rd H a (.lst xs) ∨
  ∃(o:Obj) (its:Array Value) (n:Nat),K.lookup a=some o∧o.cls=.type "list"∧o.dict=none∧o.data=.seq its n∧its.size≤sizeLine∧Vals xs its.toList
def SqT (K:PySem.W.Frag) (H:Hp) (a:Addr) (xs:List V):Prop :=
 Rd H a (.tup xs) ∨
  ∃(o:Obj) (its:Array Value) (n:Nat),K.lookup a=some o∧o.cls=.type "tuple"∧o.data=.seq its n∧its.size≤sizeLine∧Vals xs its.toList
def Ij:Value→Option V
 | .none=>some .non
 | .bool b=>some (.bl b)
 | .int i _=>some (.int i)
 | .str x _=>some (.str x)
 | .bytes b _=>some (.byt b)
 | .float b _=>some (.flt b)
 | .ref a=>some (.ref a)
 | .type n=>some (.ty n)
 | _=>none
theorem RelV.abs {x:V}{u:Value} (r:RelV x u):Ij u=some x:=by
 cases x with
 | non=>cases r;rfl
 | bl _=>cases r;rfl
 | int _=>obtain ⟨t,rfl⟩:=r;rfl
 | str _=>obtain ⟨t,rfl⟩:=r;rfl
 | byt _=>obtain ⟨t,rfl⟩:=r;rfl
 | flt _=>obtain ⟨t,rfl⟩:=r;rfl
 | ref _=>cases r;rfl
 | ty _=>cases r;rfl
theorem RelV.inj {x y:V}{u:Value} (r:RelV x u) (q:RelV y u):x=y:=Option.some.inj (r.abs.symm.trans q.abs)
theorem Vals.inj:∀{xs ys:List V}{us:List Value},Vals xs us→Vals ys us→xs=ys
 | _,_,_,.nil,.nil=>rfl
 | _,_,_,.cons r t,.cons r' t'=>by rw[r.inj r',Vals.inj t t']
section
variable {X:Cx}{pins:List (Addr × Obj)}{σ:St}{H:Hp}{s:Shared}{a:Addr}{xs ys:List V}
theorem SqL.of {K:PySem.W.Frag} (h:H a=some (.lst xs)):SqL K H a xs:=.inl (.inl h)
theorem SqT.of {K:PySem.W.Frag} (h:H a=some (.tup xs)):SqT K H a xs:=.inl (.inl h)
theorem Inv.list (I:Inv X pins σ H s) (h:SqL X.K H a xs):∃its:List Value,Vals xs its∧PlainL s.heap a its.toArray∧xs.length≤sizeLine:=by
 rcases h with h | ⟨o,its,n,hk,hc,hd,hs,hz,r⟩
 ·obtain ⟨z,its,n,r,e⟩:=h.ok I.hok
  exact⟨its,r,⟨_,n,e,rfl,rfl,rfl⟩,z⟩
 ·refine⟨its.toList,r,⟨o,n,I.kIn a o hk,hc,hd,by simpa using hs⟩,?_⟩
  have e:=r.length
  simp only[Array.length_toList] at e
  omega
theorem Inv.tuple (I:Inv X pins σ H s) (h:SqT X.K H a xs):∃its:List Value,Vals xs its∧IsTup s.heap a its.toArray∧xs.length≤sizeLine:=by
 rcases h with h | ⟨o,its,n,hk,hc,hs,hz,r⟩
 ·obtain ⟨z,its,r,p⟩:=h.ok I.hok
  exact⟨its,r,p,z⟩
 ·refine⟨its.toList,r,⟨o,I.kIn a o hk,hc,n,by simpa using hs⟩,?_⟩
  have e:=r.length
  simp only[Array.length_toList] at e
  omega
theorem Inv.js (I:Inv X pins σ H s) (h:SqL X.K H a xs) (h':SqL X.K H a ys):xs=ys:=by
 obtain ⟨its,r,⟨o,n,e,_,_,d⟩,_⟩:=I.list h
 obtain ⟨its',r',⟨o',n',e',_,_,d'⟩,_⟩:=I.list h'
 rw[e] at e';cases e'
 rw[d] at d'
 injection d' with d1 _
 have:its=its':=by simpa using congrArg Array.toList d1
 subst this
 exact r.inj r'
theorem Inv.zu (I:Inv X pins σ H s) (h:SqT X.K H a xs) (h':SqT X.K H a ys):xs=ys:=by
 obtain ⟨its,r,⟨o,e,_,n,d⟩,_⟩:=I.tuple h
 obtain ⟨its',r',⟨o',e',_,n',d'⟩,_⟩:=I.tuple h'
 rw[e] at e';cases e'
 rw[d] at d'
 injection d' with d1 _
 have:its=its':=by simpa using congrArg Array.toList d1
 subst this
 exact r.inj r'
end
abbrev Cx.oP (X:Cx) (E:Value→Shared→Prop):Cx:={ X with xe:=E }
abbrev Cx.nox (X:Cx):Cx:=X.oP fun _ _=>False
theorem Cx.Ok.oP {X:Cx} (ok:X.Ok) (E:Value→Shared→Prop):(X.oP E).Ok :=
 ⟨ok.mod,ok.kind,ok.glob,ok.blt,ok.above,ok.inj,ok.has,ok.cab,ok.hd,ok.frames,ok.stk,ok.exf,ok.bs,ok.bsz,ok.noex,ok.exfs,ok.nB,ok.frf⟩
theorem Cx.Ok.jm {X:Cx}{E:Value→Shared→Prop} (ok:(X.oP E).Ok):X.Ok :=
 ⟨ok.mod,ok.kind,ok.glob,ok.blt,ok.above,ok.inj,ok.has,ok.cab,ok.hd,ok.frames,ok.stk,ok.exf,ok.bs,ok.bsz,ok.noex,ok.exfs,ok.nB,ok.frf⟩
section
variable {X:Cx}{pins:List (Addr × Obj)}{σ:St}{H:Hp}{s:Shared}{E:Value→Shared→Prop}
theorem Inv.oP (I:Inv X pins σ H s) (E:Value→Shared→Prop):Inv (X.oP E) pins σ H s:=⟨I.ok.oP E,I.os,I.bare,I.base,I.loc,I.cell,I.free,I.freeC,I.pin,I.hok,I.len⟩
theorem Inv.jm (I:Inv (X.oP E) pins σ H s):Inv X pins σ H s:=⟨I.ok.jm,I.os,I.bare,I.base,I.loc,I.cell,I.free,I.freeC,I.pin,I.hok,I.len⟩
theorem SP.jm {D:Ends}{f:Flow}{s':Shared} (h:SP (X.oP E) pins D f s'):SP X pins D f s':=by
 cases f with
 | next=>obtain ⟨σ',H',I,q⟩:=h;exact⟨σ',H',I.jm,q⟩
 | brk=>obtain ⟨σ',H',I,q⟩:=h;exact⟨σ',H',I.jm,q⟩
 | cont=>obtain ⟨σ',H',I,q⟩:=h;exact⟨σ',H',I.jm,q⟩
 | ret u=>obtain ⟨v,σ',H',I,r,q⟩:=h;exact⟨v,σ',H',I.jm,r,q⟩
theorem PT.nox {e:Expr}{t:TT} (h:PT X.nox e t):PT X e t:=fun pins s σ H Q I hw =>
 wpAny_mono (h pins s σ H Q (I.oP _) hw) (fun _ _ ⟨H',I',q⟩=>⟨H',I'.jm,q⟩) fun _ _ z=>False.elim z
theorem PSs.nox {st:List Stmt}{t:TS} (h:PSs X.nox st t):PSs X st t:=fun pins s σ H D I hw =>
 wpAny_mono (h pins s σ H D (I.oP _) hw) (fun _ _ q=>q.jm) fun _ _ z=>False.elim z
end
section
variable {X:Cx}{st:Stmt}{rest:List Stmt}{t u:TS}{e:Expr}{te:TE}{pos:Pos}
def EJ:TS:=fun D σ H=>D.nx σ H
def t8 (t u:TS):TS:=fun D σ H=>t { D with nx:=u D } σ H
theorem cw:PSs X [] EJ:=fun _ _ σ H _ I h=>wpAny_execs_nil ⟨σ,H,I,h⟩
theorem ak (h1:PS X st t) (h2:PSs X rest u):PSs X (st::rest) (t8 t u):=by
 intro pins s σ H D I h
 refine wpAny_execs_cons (thn (h1 pins s σ H { D with nx:=u D } I h) fun f s1 q=>?_)
 cases f with
 | next =>
  obtain ⟨σ',H',I',q⟩:=q
  exact h2 pins s1 σ' H' D I' q
 | ret v=>exact q
 | brk=>exact q
 | cont=>exact q
theorem aA (h1:PS X st t):PSs X [st] t:=by
 intro pins s σ H D I h
 refine wpAny_execs_cons (thn (h1 pins s σ H D I h) fun f s1 q=>?_)
 cases f with
 | next=>exact wpAny_execs_nil q
 | ret v=>exact q
 | brk=>exact q
 | cont=>exact q
theorem Inv.quiet {pins:List (Addr × Obj)}{σ:St}{H:Hp}{s:Shared} (I:Inv X pins σ H s):interactive X.env=false:=by simp [interactive,I.ok.kind]
def qD (te:TE):TS:=fun D σ H=>te σ H fun _ H1=>D.nx σ H1
theorem eA (he:PE X e te) (hs:swapsWith e none pos.line X.env=pure false:=by rfl):PS X (.Expr e pos) (qD te):=by
 intro pins s σ H D I h
 exact wpAny_Expr_any (thn (he pins s σ H _ I h) fun v s1 ⟨x,H1,I1,r1,q1⟩=>⟨σ,H1,I1,q1⟩) I.quiet hs
def HE (te:TE):TS:=fun D σ H=>te σ H D.rt
theorem bg (he:PE X e te):PS X (.Return (some e) pos) (HE te):=by
 intro pins s σ H D I h
 exact wpAny_Return_some (thn (he pins s σ H _ I h) fun v s1 ⟨x,H1,I1,r1,q1⟩=>⟨x,σ,H1,I1,r1,q1⟩)
def Hn:TS:=fun D _ H=>D.rt .non H
def FO (c:TT) (t u:TS):TS:=fun D σ H=>c σ H fun b H1=>if b=true then t D σ H1 else u D σ H1
theorem fG {c:Expr}{a b:List Stmt}{tc:TT} (hc:PT X c tc) (ha:PSs X a t) (hb:PSs X b u):PS X (.If c a b pos) (FO tc t u):=by
 intro pins s σ H D I h
 refine wpAny_If (thn (hc pins s σ H _ I h) fun d s1 ⟨H1,I1,q1⟩=>?_)
 cases d with
 | true=>exact ha pins s1 σ H1 D I1 q1
 | false=>exact hb pins s1 σ H1 D I1 q1
end
abbrev TG:=V→St→Hp→(St→Hp→Prop)→Prop
abbrev TGs:=List V→St→Hp→(St→Hp→Prop)→Prop
def PG (X:Cx) (target:Expr) (t:TG):Prop :=
 ∀(pins:List (Addr × Obj)) (s:Shared) (σ:St) (H:Hp) (v:V) (u:Value) (Q:St→Hp→Prop),Inv X pins σ H s→RelV v u→t v σ H Q →
  wpAny (model X.prog X.w) X.A (assign target X.env u) (fun _ s'=>∃σ' H',Inv X pins σ' H' s'∧Q σ' H') X.xe s
def PGs (X:Cx) (ts:List Expr) (t:TGs):Prop :=
 ∀(pins:List (Addr × Obj)) (s:Shared) (σ:St) (H:Hp) (vs:List V) (us:List Value) (Q:St→Hp→Prop),Inv X pins σ H s→Vals vs us→t vs σ H Q →
  wpAny (model X.prog X.w) X.A (assignInOrder ((assignEach ts X.env).map (·.2)) us) (fun _ s'=>∃σ' H',Inv X pins σ' H' s'∧Q σ' H') X.xe s
abbrev FK:=V→V→V→Hp→(Hp→Prop)→Prop
def Hu (X:Cx) (t:FK):Prop :=
 ∀(pins:List (Addr × Obj)) (s:Shared) (σ:St) (H:Hp) (o i v:V) (ov iv u:Value) (Q:Hp→Prop),Inv X pins σ H s→RelV o ov→RelV i iv→RelV v u→t o i v H Q →
  wpAny (model X.prog X.w) X.A (setItem ov iv u) (fun _ s'=>∃H',Inv X pins σ H' s'∧Q H') X.xe s
section
variable {X:Cx}{pos:Pos}
def gH (i:Nat):TG:=fun v σ H Q=>Q (σ.set i (some v)) H
theorem aH {i:Nat}{x:Str} (hN:X.N.Nodup) (hi:X.N[i]?=some x) (hx:Loc X.env.scope x) (hf:X.fn x=true∨X.env.scope.names.lookup x=some .local:=by first | exact .inl rfl | exact .inr rfl | assumption):PG X (.Name x pos) (gH i):=by
 intro pins s σ H v u Q I r h
 exact wpAny_assign_Name (vA I hN hi hx r (fun s' I'=>⟨_,H,I',h⟩) hf)
def De:TGs:=fun vs σ H Q=>vs=[]∧Q σ H
def vM (t:TG) (u:TGs):TGs:=fun vs σ H Q=>∃v r,vs=v::r∧t v σ H fun σ' H'=>u r σ' H' Q
theorem jS:PGs X [] De:=by
 intro pins s σ H vs us Q I r h
 obtain ⟨e,h⟩:=h
 subst e
 cases r
 exact assignInOrder_nil ⟨σ,H,I,h⟩
theorem cF {e:Expr}{es:List Expr}{t:TG}{u:TGs} (h1:PG X e t) (h2:PGs X es u)
  (hs:(assignEach (e::es) X.env).map (·.2)=assign e X.env::(assignEach es X.env).map (·.2):=by rfl):PGs X (e::es) (vM t u):=by
 intro pins s σ H vs us Q I r h
 obtain ⟨v,vr,e1,h⟩:=h
 subst e1
 cases r with
 | cons r rr =>
  rw[hs]
  refine assignInOrder_cons (thn (h1 pins s σ H _ _ _ I r h) fun _ s1 ⟨σ1,H1,I1,q1⟩=>?_)
  exact h2 pins s1 σ1 H1 _ _ Q I1 rr q1
def Dt (K:PySem.W.Frag) (n:Nat) (t:TGs):TG:=fun v σ H Q=>∃a xs,v=.ref a∧SqT K H a xs∧xs.length=n∧t xs σ H Q
theorem Gx {es:List Expr}{k:Nat}{t:TGs}{n:Nat} (hc:X.calm=true) (h:PGs X es t)
  (hn:(assignEach es X.env).length=n:=by rfl) (hst:(assignEach es X.env).findIdx? (·.1)=none:=by rfl):PG X (.Tuple es k pos) (Dt X.K n t):=by
 intro pins s σ H v u Q I r hw
 obtain ⟨a,xs,e1,hq,hl,hw⟩:=hw
 subst e1
 cases r
 obtain ⟨its,rv,ht,hz⟩:=I.tuple hq
 refine assign_Tuple_tuple (I.ok.hd hc) ht (by simp [hn,← hl,rv.length]) hst fun h' hx=>?_
 have I1:Inv X pins σ H { s with heap:=h' }:=I.kept (t':=s.toks) fun b o e=>hx b o (Nat.ne_of_lt (Heap.lt_size e)) e
 exact h pins _ σ H xs _ Q I1 (by simpa using rv) hw
def zw (to ti:TE) (t:FK):TG:=fun v σ H Q=>to σ H fun o H1=>ti σ H1 fun i H2=>t o i v H2 fun H3=>Q σ H3
theorem ku {o i:Expr}{to ti:TE}{t:FK} (ho:PE X o to) (hi:PE X i ti) (hs:Hu X t)
  (ha:∀v,assign (.Subscript o i pos) X.env v=(do
   let ov ← holding [v] (eval o X.env)
   let iv ← holding [v,ov] (eval i X.env)
   standAt pos
   holding [v,ov,iv] (setItem ov iv v)
   release [v,ov,iv] []):=by intro _;rfl):PG X (.Subscript o i pos) (zw to ti t):=by
 intro pins s σ H v u Q I r h
 rw[ha]
 refine wpAny_bind (wpAny_holding (thn (ho pins s σ H _ I h) fun ov s1 ⟨x,H1,I1,r1,q1⟩=>?_))
 refine wpAny_bind (wpAny_holding (thn (hi pins s1 σ H1 _ I1 q1) fun iv s2 ⟨y,H2,I2,r2,q2⟩=>?_))
 refine wpAny_bind (wpAny_standAt (wpAny_bind (wpAny_holding (thn (hs pins s2 σ H2 x y v ov iv u _ I2 r1 r2 r q2) fun _ s3 ⟨H3,I3,q3⟩=>?_))))
 exact wpAny_release ⟨σ,H3,I3,q3⟩
def jX (te:TE) (g:TG):TS:=fun D σ H=>te σ H fun x H1=>g x σ H1 D.nx
theorem iM {tg e:Expr}{te:TE}{g:TG} (he:PE X e te) (hg:PG X tg g) (hs:swapsWithSole [tg] e pos.line X.env=pure false:=by rfl) (hw:swappedStores [tg] e X.env=pure none:=by rfl)
  (h1:(assignEach [tg] X.env).map (·.2)=[assign tg X.env]:=by rfl):PS X (.Assign [tg] e pos) (jX te g):=by
 intro pins s σ H D I h
 refine wpAny_Assign_stores (thn (he pins s σ H _ I h) fun v s1 ⟨x,H1,I1,r1,q1⟩=>?_) hs hw
 rw[h1]
 exact thn (hg pins s1 σ H1 x v _ I1 r1 q1) fun _ s2 q=>q
theorem aP {i:Nat}{x:Str}{e:Expr}{te:TE}{pos':Pos} (hN:X.N.Nodup) (hi:X.N[i]?=some x) (hx:Loc X.env.scope x) (he:PE X e te) (hs:swapsWith e (some (.Name x pos')) pos.line X.env=pure false:=by rfl) (hf:X.fn x=true∨X.env.scope.names.lookup x=some .local:=by first | exact .inl rfl | exact .inr rfl | assumption) :
  PS X (.Assign [.Name x pos'] e pos) (jX te (gH i)):=by
 intro pins s σ H D I h
 refine wpAny_Assign_Name (thn (he pins s σ H _ I h) fun v s1 ⟨y,H1,I1,r1,q1⟩=>?_) hs
 exact vA I1 hN hi hx r1 (fun s2 I2=>⟨_,H1,I2,q1⟩) hf
end
section
variable {X:Cx}{pos:Pos}
def BV (c:TT) (tb:TS):TS:=fun D σ H=>∃W:Nat→St→Hp→Prop,(∃m,W m σ H)∧∀m σ H,W m σ H →
 c σ H fun b H1=>if b=true then ∃N:St→Hp→Prop,(∀σ' H',N σ' H'→∃m',m' < m∧W m' σ' H')∧tb { D with nx:=N,ct:=N,bk:=D.nx } σ H1 else D.nx σ H1
theorem qy {c:Expr}{body:List Stmt}{tc:TT}{tb:TS} (hp:PassesOwn (model X.prog X.w) X.A X.env X.xe) (hc:PT X c tc) (hb:PSs X body tb):PS X (.While c body [] pos) (BV tc tb):=by
 intro pins s σ H D I h
 obtain ⟨W,⟨m0,w0⟩,turn⟩:=h
 refine wpAny_While (codeAny_whileLoop (fun n s'=>∃σ' H',Inv X pins σ' H' s'∧W n σ' H') ?_ m0 ⟨σ,H,I,w0⟩)
 rintro n s1 ⟨σ1,H1,I1,w1⟩
 refine wpAny_passesOwn hp (thn (hc pins s1 σ1 H1 _ I1 (turn n σ1 H1 w1)) fun b s2 ⟨H2,I2,q2⟩=>?_)
 cases b with
 | true =>
  obtain ⟨N,hN,q2⟩:=q2
  rw[if_pos rfl]
  refine wpAny_passesOwn hp (thn (hb pins s2 σ1 H2 _ I2 q2) fun f s3 q3=>?_)
  cases f with
  | next =>
   obtain ⟨σ3,H3,I3,n3⟩:=q3
   obtain ⟨m',hm,w3⟩:=hN σ3 H3 n3
   exact⟨m',hm,σ3,H3,I3,w3⟩
  | cont =>
   obtain ⟨σ3,H3,I3,n3⟩:=q3
   obtain ⟨m',hm,w3⟩:=hN σ3 H3 n3
   exact⟨m',hm,σ3,H3,I3,w3⟩
  | brk=>exact q3
  | ret v=>exact q3
 | false =>
  rw[if_neg Bool.false_ne_true]
  exact wpAny_execs_nil ⟨σ1,H2,I2,q2⟩
end
structure It where
 go:Nat→Hp→Prop
 yld:Nat→Hp→V→Hp→Prop
 stop:Nat→Hp→Prop
def qN (X:Cx) (pins:List (Addr × Obj)) (H:Hp) (b:Addr):Prop :=
 H b=none∧b≠X.env.locals∧b∉X.fs∧(b∈X.ex∨X.s₀.heap.objs.size≤b)∧(∀x c,X.env.cells.lookup x=some c→c≠b)∧∀p∈X.pn++pins,p.1≠b
theorem Inv.BR {X:Cx}{pins:List (Addr × Obj)}{σ:St}{H H':Hp}{s:Shared}{b:Addr} (I:Inv X pins σ H s) (hb:s.heap.objs.size≤b) (hn:H' b=none):qN X pins H' b:=by
 refine⟨hn,Nat.ne_of_gt (Nat.lt_of_lt_of_le I.lt hb),I.HA hb,.inr (Nat.le_trans I.sz hb),fun x c e z=>?_,fun p hp z=>?_⟩
 ·obtain ⟨v,q⟩:=I.cell x c e
  exact absurd (Nat.lt_of_lt_of_le q.lt (by rw[z];exact hb)) (Nat.lt_irrefl _)
 ·exact absurd (Nat.lt_of_lt_of_le (Heap.lt_size (I.pin p hp).1) (by rw[z];exact hb)) (Nat.lt_irrefl _)
structure Turn (P:Program) (w:World) (K:PySem.W.Frag) (tg:Expr) (J:It) (fp:List Addr) (it:Addr) (tn:Nat→Heap→Prop):Prop where
 mem:it∈fp
 obj:∀i h,tn i h→∀b∈fp,∃o,h.get? b=some o∧∀v,o.data≠.cell v
 keep:∀i h h',tn i h→(∀b∈fp,∀o,h.get? b=some o→h'.get? b=some o)→tn i h'
 item:∀(X:Cx),X.prog=P→X.w=w→X.K=K→X.calm=true→∀(i:Nat) (pins:List (Addr × Obj)) (s:Shared) (σ:St) (H:Hp) (E:Value→Shared→Prop),Inv X pins σ H s→(∀b∈fp,qN X pins H b)→tn i s.heap→J.go i H →
  wpAny (model P w) X.A (pyNext (.ref it)) (fun r s1=>∃u,r=some u ∧
   wpAny (model P w) X.A (letOwnedTupleGo tg (.ref it) u) (fun _ s2=>∃x H',Inv X pins σ H' s2∧RelV x u∧J.yld i H x H'∧tn (i+1) s2.heap∧∀b∈fp,H' b=none) E s1) E s
 done:∀(X:Cx),X.prog=P→X.w=w→X.K=K→X.calm=true→∀(i:Nat) (pins:List (Addr × Obj)) (s:Shared) (σ:St) (H:Hp) (E:Value→Shared→Prop),Inv X pins σ H s→(∀b∈fp,qN X pins H b)→tn i s.heap→J.stop i H →
  wpAny (model P w) X.A (pyNext (.ref it)) (fun r s1=>r=none∧Inv X pins σ H s1) E s
 self:∀(A:Around) (i:Nat) (s:Shared) (Q:Value→Shared→Prop) (E:Value→Shared→Prop),tn i s.heap→Q (.ref it) s→wpAny (model P w) A (pyIter (.ref it)) Q E s
abbrev TI:=St→Hp→(It→Hp→Prop)→Prop
def PIE (X:Cx) (pins:List (Addr × Obj)) (σ:St) (tg:Expr) (R:It→Hp→Prop) (itv:Value) (s2:Shared):Prop :=
 ∃(it:Addr) (fp:List Addr) (tn:Nat→Heap→Prop) (J:It) (H':Hp),itv=.ref it∧Inv X pins σ H' s2∧Turn X.prog X.w X.K tg J fp it tn∧tn 0 s2.heap∧(∀b∈fp,qN X pins H' b)∧R J H'
def PI (X:Cx) (tg iter:Expr) (wi:TI):Prop :=
 ∀(pins:List (Addr × Obj)) (s:Shared) (σ:St) (H:Hp) (R:It→Hp→Prop),Inv X pins σ H s→wi σ H R →
  wpAny (model X.prog X.w) X.A (eval iter X.env) (fun v s1=>wpAny (model X.prog X.w) X.A (pyIter v) (PIE X pins σ tg R) X.xe s1) X.xe s
theorem Cq {M:Model}{A:Around}{E:Value→Shared→Prop}{s:Shared}{tg:Expr}{it:Addr}{u:Value}{o:Obj}{n:String}{vs:Array Value}{Q:Unit→Shared→Prop} (ho:s.heap.get? it=some o) (hc:o.cls=.type n) (hd:o.data=.fields vs)
  (hn:["enumerate","zip","dict_itemiterator","dict_reverseitemiterator","odict_iterator","itertools.zip_longest","itertools.pairwise"].contains n=false) (hQ:Q () s):wpAny M A (letOwnedTupleGo tg (.ref it) u) Q E s:=by
 unfold letOwnedTupleGo
 cases tg<;>first
  | exact wpAny_pure hQ
  | (cases u<;>first
    | exact wpAny_pure hQ
    | (refine wpAny_bind (wpAny_load ho ?_)
       rw[hc,hd]
       show wpAny M A (if (["enumerate","zip","dict_itemiterator","dict_reverseitemiterator","odict_iterator","itertools.zip_longest","itertools.pairwise"].contains n && vs[0]? == some (rawInt _))=true then _ else _) Q E s
       rw[if_neg (by intro h;rw[hn,Bool.false_and] at h;cases h)]
       exact wpAny_pure hQ))
def Itl (K:PySem.W.Frag) (a:Addr):It :=
 ⟨fun i H=>∃xs x,SqL K H a xs∧xs[i]?=some x,fun i H x H'=>H'=H∧∀xs,SqL K H a xs→xs[i]?=some x,fun i H=>∃xs,SqL K H a xs∧xs.length≤i⟩
def Itt (K:PySem.W.Frag) (a:Addr):It :=
 ⟨fun i H=>∃xs x,SqT K H a xs∧xs[i]?=some x,fun i H x H'=>H'=H∧∀xs,SqT K H a xs→xs[i]?=some x,fun i H=>∃xs,SqT K H a xs∧xs.length≤i⟩
def Itr (lo:Int) (n:Nat):It:=⟨fun i _=>i<n,fun i H x H'=>H'=H∧x=.int (lo+i),fun i _=>n≤i⟩
theorem zH {P:Program}{w:World}{K:PySem.W.Frag}{tg:Expr} (a it:Addr):Turn P w K tg (Itl K a) [it] it (fun i h=>h.IsListIter it a i) where
 mem:=by simp
 obj:=fun i h st b hb=>by
  have e:b=it:=by simpa using hb
  subst e
  obtain ⟨o,e,c,d⟩:=st
  exact⟨o,e,fun v z=>by rw[d] at z;cases z⟩
 keep:=fun i h h' st k=>st.at fun o e=>k it (by simp) o e
 item:=by
  intro X hP hw hK hc i pins s σ H E I hf st hg
  subst hP hw hK
  obtain ⟨xs,x,hq,hx⟩:=hg
  obtain ⟨its,rv,p,hz⟩:=I.list hq
  obtain ⟨u,hu,ru⟩:=rv.get hx
  obtain ⟨f0,f1,f2,f3,f4,f5⟩:=hf it (by simp)
  refine wpAny_pyNext_list_item st p.isList (x:=u) (by simpa using hu) fun h' st' sb=>?_
  have I1:Inv X pins σ H { s with heap:=h' }:=I.turned (t':=s.toks) (fun b o hb e=>(sb.2 b hb).trans e) f0 f1 f3 f4 f5
  obtain ⟨o,e,c,d⟩:=id st'
  exact⟨u,rfl,Cq (s:={ s with heap:=h' }) e c d (by decide) ⟨x,H,I1,ru,⟨rfl,fun ys hy=>by rw[I.js hy hq];exact hx⟩,st',fun b hb=>(hf b hb).1⟩⟩
 done:=by
  intro X hP hw hK hc i pins s σ H E I hf st hg
  subst hP hw hK
  obtain ⟨xs,hq,hx⟩:=hg
  obtain ⟨its,rv,p,hz⟩:=I.list hq
  obtain ⟨f0,f1,f2,f3,f4,f5⟩:=hf it (by simp)
  have hl:=rv.length
  exact wpAny_pyNext_list_end (I.ok.hd hc) st p.isList (by simp;omega) fun h' eb=>⟨rfl,I.turned (t':=s.toks) (fun b o hb e=>eb b o hb e) f0 f1 f3 f4 f5⟩
 self:=fun _ _ _ _ _ st h=>wpAny_pyIter_listiter st h
theorem xf {P:Program}{w:World}{K:PySem.W.Frag}{tg:Expr} (a it:Addr):Turn P w K tg (Itt K a) [it] it (fun i h=>h.IsTupleIter it a i) where
 mem:=by simp
 obj:=fun i h st b hb=>by
  have e:b=it:=by simpa using hb
  subst e
  obtain ⟨o,e,c,d⟩:=st
  exact⟨o,e,fun v z=>by rw[d] at z;cases z⟩
 keep:=fun i h h' st k=>st.at fun o e=>k it (by simp) o e
 item:=by
  intro X hP hw hK hc i pins s σ H E I hf st hg
  subst hP hw hK
  obtain ⟨xs,x,hq,hx⟩:=hg
  obtain ⟨its,rv,p,hz⟩:=I.tuple hq
  obtain ⟨u,hu,ru⟩:=rv.get hx
  obtain ⟨f0,f1,f2,f3,f4,f5⟩:=hf it (by simp)
  refine wpAny_pyNext_tuple_item st (show s.heap.IsTuple a its.toArray from p) (x:=u) (by simpa using hu) fun h' st' sb=>?_
  have I1:Inv X pins σ H { s with heap:=h' }:=I.turned (t':=s.toks) (fun b o hb e=>(sb.2 b hb).trans e) f0 f1 f3 f4 f5
  obtain ⟨o,e,c,d⟩:=id st'
  exact⟨u,rfl,Cq (s:={ s with heap:=h' }) e c d (by decide) ⟨x,H,I1,ru,⟨rfl,fun ys hy=>by rw[I.zu hy hq];exact hx⟩,st',fun b hb=>(hf b hb).1⟩⟩
 done:=by
  intro X hP hw hK hc i pins s σ H E I hf st hg
  subst hP hw hK
  obtain ⟨xs,hq,hx⟩:=hg
  obtain ⟨its,rv,p,hz⟩:=I.tuple hq
  obtain ⟨f0,f1,f2,f3,f4,f5⟩:=hf it (by simp)
  have hl:=rv.length
  exact wpAny_pyNext_tuple_end (I.ok.hd hc) st (show s.heap.IsTuple a its.toArray from p) (by simp;omega) fun h' eb=>⟨rfl,I.turned (t':=s.toks) (fun b o hb e=>eb b o hb e) f0 f1 f3 f4 f5⟩
 self:=fun _ _ _ _ _ st h=>wpAny_pyIter_tupleiter st h
theorem xq {P:Program}{w:World}{K:PySem.W.Frag}{tg:Expr} (it:Addr) (lo:Int) (n:Nat):Turn P w K tg (Itr lo n) [it] it (fun i h=>IsRangeIter h it (lo+(i:Nat)*1) ((n:Int) - (i:Nat)) 1) where
 mem:=by simp
 obj:=fun i h st b hb=>by
  have e:b=it:=by simpa using hb
  subst e
  exact⟨_,st,fun v z=>by
   have z':Data.fields _=Data.cell v:=z
   cases z'⟩
 keep:=fun i h h' st k=>k it (by simp) _ st
 item:=by
  intro X hP hw hK hc i pins s σ H E I hf st hg
  subst hP hw hK
  obtain ⟨f0,f1,f2,f3,f4,f5⟩:=hf it (by simp)
  have W:=Walks.range (prog:=X.prog) (w:=X.w) (I.ok.hd hc) it lo 1 n
  refine W.item i s _ _ hg st fun v h' tk hv st' kk=>?_
  obtain ⟨t,rfl⟩:=hv
  have I1:Inv X pins σ H { s with heap:=h',toks:=tk }:=I.turned (fun b o hb e=>kk b o (by simpa using hb) e) f0 f1 f3 f4 f5
  refine⟨_,rfl,Cq (s:={ s with heap:=h',toks:=tk }) (n:="range_iterator") st' rfl rfl (by decide) ⟨.int (lo+i),H,I1,⟨t,?_⟩,⟨rfl,rfl⟩,st',fun b hb=>(hf b hb).1⟩⟩
  rw[Int.mul_one]
 done:=by
  intro X hP hw hK hc i pins s σ H E I hf st hg
  subst hP hw hK
  obtain ⟨f0,f1,f2,f3,f4,f5⟩:=hf it (by simp)
  exact wpAny_pyNext_range_end (I.ok.hd hc) st (by have:n≤i:=hg;omega) fun h' eb=>⟨rfl,I.turned (t':=s.toks) (fun b o hb e=>eb b o hb e) f0 f1 f3 f4 f5⟩
 self:=fun _ _ _ _ _ st h=>wpAny_pyIter_rangeiter st h
end L2
namespace L2
open PySem PySem.Spec PyProof.Rows
section
variable {X:Cx}{tg:Expr}
def Bu (K:PySem.W.Frag) (tl:TE):TI:=fun σ H R=>tl σ H fun x H1=>∃a,x=.ref a∧(∃xs,SqL K H1 a xs)∧R (Itl K a) H1
def Ga (K:PySem.W.Frag) (tl:TE):TI:=fun σ H R=>tl σ H fun x H1=>∃a,x=.ref a∧(∃xs,SqT K H1 a xs)∧R (Itt K a) H1
theorem Dg {l:Expr}{tl:TE} (hl:PE X l tl):PI X tg l (Bu X.K tl):=by
 intro pins s σ H R I h
 refine thn (hl pins s σ H _ I h) fun v s1 ⟨x,H1,I1,r1,q1⟩=>?_
 obtain ⟨a,e,⟨xs,hq⟩,q⟩:=q1
 subst e
 cases r1
 obtain ⟨its,rv,p,hz⟩:=I1.list hq
 refine wpAny_pyIter_list p.isList ?_
 refine⟨s1.heap.objs.size,[s1.heap.objs.size],_,_,H1,rfl,I1.kept (t':=s1.toks) fun b o e=>Heap.get?_push_of_some _ e,zH a _,⟨_,Heap.get?_push_size _ rfl,rfl,rfl⟩,fun b hb=>?_,q⟩
 have e:b=s1.heap.objs.size:=by simpa using hb
 subst e
 exact I1.BR (Nat.le_refl _) (I1.hok.fresh (Nat.le_refl _))
theorem Gk {l:Expr}{tl:TE} (hl:PE X l tl):PI X tg l (Ga X.K tl):=by
 intro pins s σ H R I h
 refine thn (hl pins s σ H _ I h) fun v s1 ⟨x,H1,I1,r1,q1⟩=>?_
 obtain ⟨a,e,⟨xs,hq⟩,q⟩:=q1
 subst e
 cases r1
 obtain ⟨its,rv,p,hz⟩:=I1.tuple hq
 refine wpAny_pyIter_tuple (show s1.heap.IsTuple a its.toArray from p) ?_
 refine⟨s1.heap.objs.size,[s1.heap.objs.size],_,_,H1,rfl,I1.kept (t':=s1.toks) fun b o e=>Heap.get?_push_of_some _ e,xf a _,⟨_,Heap.get?_push_size _ rfl,rfl,rfl⟩,fun b hb=>?_,q⟩
 have e:b=s1.heap.objs.size:=by simpa using hb
 subst e
 exact I1.BR (Nat.le_refl _) (I1.hok.fresh (Nat.le_refl _))
theorem Ar {pins:List (Addr × Obj)}{σ:St}{H:Hp}{s:Shared}{R:It→Hp→Prop}{E:Value→Shared→Prop}{lo hi:Int}{t u v:Tok}{tk:Nat} (I:Inv X pins σ H s) (h1 : -(2 ^ 62)≤lo) (h2:lo<2 ^ 62) (h3 : -(2 ^ 62)≤hi) (h4:hi<2 ^ 62)
  (q:R (Itr lo (hi - lo).toNat) H):wpAny (model X.prog X.w) X.A (pyIter (.ref s.heap.objs.size)) (PIE X pins σ tg R) E { s with heap:=s.heap.push { cls:=.type "range",data:=.fields #[.int lo t,.int hi u,.int 1 v] },toks:=tk }:=by
 refine wpAny_pyIter_range (IsRange.new ..) (small_one h1 h2 h3 h4) ?_
 have I1:Inv X pins σ H { s with heap:=s.heap.push { cls:=.type "range",data:=.fields #[.int lo t,.int hi u,.int 1 v] },toks:=tk }:=I.kept fun b o e=>Heap.get?_push_of_some _ e
 refine⟨(s.heap.push { cls:=.type "range",data:=.fields #[.int lo t,.int hi u,.int 1 v] }).objs.size,[(s.heap.push { cls:=.type "range",data:=.fields #[.int lo t,.int hi u,.int 1 v] }).objs.size],_,_,H,rfl,
  I1.kept (t':=tk) fun b o e=>Heap.get?_push_of_some _ e,xq _ lo (hi - lo).toNat,?_,fun b hb=>?_,q⟩
 ·have e1:lo+((0:Nat):Int)*1=lo:=by simp
  have e2:(((hi - lo).toNat:Nat):Int) - ((0:Nat):Int)=Builtin.Range.rangeSize lo hi 1:=by rw[rangeSize_one];split<;>omega
  show IsRangeIter _ _ (lo+((0:Nat):Int)*1) ((((hi - lo).toNat:Nat):Int) - ((0:Nat):Int)) 1
  rw[e1,e2]
  exact Heap.get?_push_size _ rfl
 ·have e:b=(s.heap.push { cls:=.type "range",data:=.fields #[.int lo t,.int hi u,.int 1 v] }).objs.size:=by simpa using hb
  subst e
  exact I1.BR (Nat.le_refl _) (I1.hok.fresh (Nat.le_refl _))
def EF (ta:TA):TI:=fun σ H R=>ta σ H fun vs H1=>∃j:Int,vs=[.int j]∧-(2 ^ 62)≤j∧j<2 ^ 62∧R (Itr 0 j.toNat) H1
theorem br {a:Expr}{ta:TA}{p pos:Pos} (hg:Gl X "range") (hm:X.mg "range" = none) (ha:PA X [a] ta) (hs:starEach [a] X.env=[(false,eval a X.env)]:=by rfl):PI X tg (.Call (.Name "range" p) [a] [] pos) (EF ta):=by
 intro pins s σ H R I h
 refine Call_ (nj I hg hm boot_range (PyProof.Rows.callWith_type1 (thn (ha pos pins s σ H _ I h) fun us s1 ⟨vs,H1,I1,r1,q1⟩=>?_) hs rfl))
 obtain ⟨j,e,q1,q2,q⟩:=q1
 subst e
 cases r1 with
 | cons r rr =>
  cases rr
  obtain ⟨t,rfl⟩:=r
  exact call_range_1 (Ar I1 (by omega) (by omega) q1 q2 (by simpa using q))
def GG (wi:TI) (g:TG) (tb:TS):TS:=fun D σ H=>wi σ H fun J H1=>∃W:Nat→Nat→St→Hp→Prop,(∃m,W 0 m σ H1)∧∀i m σ H,W i m σ H →
 (J.stop i H∧D.nx σ H)∨(J.go i H∧∃N:St→Hp→Prop,(∀σ' H',N σ' H'→∃m',m' < m∧W (i+1) m' σ' H')∧∀x H',J.yld i H x H'→g x σ H' fun σ2 H2=>tb { D with nx:=N,ct:=N,bk:=D.nx } σ2 H2)
def kd (fp:List Addr) (h:Heap):List (Addr × Obj):=fp.filterMap fun b=>(h.get? b).map fun o=>(b,o)
theorem jM {fp:List Addr}{h:Heap}{b:Addr}{o:Obj} (hb:b∈fp) (e:h.get? b=some o):(b,o)∈kd fp h:=List.mem_filterMap.mpr ⟨b,hb,by rw[e];rfl⟩
theorem sL {fp:List Addr}{h:Heap}{p:Addr × Obj} (hp:p∈kd fp h):p.1∈fp∧h.get? p.1=some p.2:=by
 obtain ⟨b,hb,e⟩:=List.mem_filterMap.mp hp
 cases q:h.get? b with
 | none=>rw[q] at e;cases e
 | some o =>
  rw[q] at e
  have e':(b,o)=p:=Option.some.inj e
  subst e'
  exact⟨hb,q⟩
theorem Inv.pinned {pins:List (Addr × Obj)}{σ:St}{H:Hp}{s:Shared}{fp:List Addr} (I:Inv X pins σ H s) (hf:∀b∈fp,qN X pins H b) (ho:∀b∈fp,∃o,s.heap.get? b=some o∧∀v,o.data≠.cell v):Inv X (pins++kd fp s.heap) σ H s :=
 I.oR fun p hp=>(List.mem_append.mp hp).elim (fun z=>I.pin p (List.mem_append_right _ z)) fun z=>by
  obtain ⟨hb,e⟩:=sL z
  obtain ⟨f0,f1,f2,_⟩:=hf p.1 hb
  obtain ⟨o,e',d⟩:=ho p.1 hb
  rw[e] at e';cases e'
  exact⟨e,f0,f1,f2,d⟩
theorem Inv.mI {pins pl:List (Addr × Obj)}{σ:St}{H:Hp}{s:Shared} (I:Inv X (pins++pl) σ H s):Inv X pins σ H s:=I.oR fun p hp=>I.pin p (List.mem_append_right _ (List.mem_append_left _ hp))
theorem eK {iter:Expr}{body:List Stmt}{wi:TI}{g:TG}{tb:TS}{pos:Pos} (hp:PassesOwn (model X.prog X.w) X.A X.env X.xe) (hc:X.calm=true) (hi:PI X tg iter wi) (hg:PG X tg g) (hb:PSs X body tb)
  (hs:∀x,foldedSetIterable iter X.env x=pure x:=by intro _;rfl):PS X (.For tg iter body [] pos) (GG wi g tb):=by
 intro pins s σ H D I h
 refine wpAny_For (thn (hi pins s σ H _ I h) fun v s1 h1=>thn h1 fun itv s2 h2=>?_) hs
 obtain ⟨it,fp,tn,J,H2,e,I2,T,st2,f2,W,⟨m0,w0⟩,turn⟩:=h2
 subst e
 have stat:∀{H':Hp},(∀b∈fp,H' b=none)→∀b∈fp,qN X pins H' b:=fun hn b hb=>⟨hn b hb,(f2 b hb).2⟩
 refine codeAny_forLoop_any (fun n s'=>∃i σ' H',Inv X pins σ' H' s'∧tn i s'.heap∧(∀b∈fp,H' b=none)∧W i n σ' H') ?_ m0 ⟨0,σ,H2,I2,st2,fun b hb=>(f2 b hb).1,w0⟩
 rintro n s3 ⟨i,σ3,H3,I3,st3,fr3,w3⟩
 rcases turn i n σ3 H3 w3 with ⟨stop,qn⟩ | ⟨go,N,hN,step⟩
 ·refine wpAny_passesOwn hp (thn (T.done X rfl rfl rfl hc i pins s3 σ3 H3 X.xe I3 (stat fr3) st3 stop) fun r s4 ⟨hr,I4⟩=>?_)
  subst hr
  exact wpAny_execs_nil ⟨σ3,H3,I4,qn⟩
 ·refine wpAny_passesOwn hp (thn (T.item X rfl rfl rfl hc i pins s3 σ3 H3 X.xe I3 (stat fr3) st3 go) fun r s4 ⟨u,hr,h4⟩=>?_)
  subst hr
  refine wpAny_passesOwn hp (thn h4 fun _ s5 ⟨x,H5,I5,r5,y5,st5,fr5⟩=>?_)
  have I5':=I5.pinned (stat fr5) (T.obj _ _ st5)
  refine wpAny_passesOwn hp (thn (hg _ s5 σ3 H5 x u _ I5' r5 (step x H5 y5)) fun _ s6 ⟨σ6,H6,I6,q6⟩=>?_)
  refine wpAny_passesOwn hp (thn (hb _ s6 σ6 H6 _ I6 q6) fun f s7 q7=>?_)
  have again:∀{σ7:St}{H7:Hp},Inv X (pins++kd fp s5.heap) σ7 H7 s7→N σ7 H7→∃m,m<n∧∃i σ' H',Inv X pins σ' H' s7∧tn i s7.heap∧(∀b∈fp,H' b=none)∧W i m σ' H':=fun {σ7 H7} I7 n7=>by
   obtain ⟨m',hm,w7⟩:=hN σ7 H7 n7
   refine⟨m',hm,i+1,σ7,H7,I7.mI,T.keep _ _ _ st5 fun b hb o e=>(I7.pin (b,o) (List.mem_append_right _ (List.mem_append_right _ (jM hb e)))).1,fun b hb=>?_,w7⟩
   obtain ⟨o,e,d⟩:=T.obj _ _ st5 b hb
   exact (I7.pin (b,o) (List.mem_append_right _ (List.mem_append_right _ (jM hb e)))).2.1
  cases f with
  | next=>obtain ⟨σ7,H7,I7,n7⟩:=q7;exact again I7 n7
  | cont=>obtain ⟨σ7,H7,I7,n7⟩:=q7;exact again I7 n7
  | brk=>obtain ⟨σ7,H7,I7,q7⟩:=q7;exact⟨σ7,H7,I7.mI,q7⟩
  | ret v=>obtain ⟨x7,σ7,H7,I7,r7,q7⟩:=q7;exact⟨x7,σ7,H7,I7.mI,r7,q7⟩
end
end L2
namespace L2
open PySem PySem.Spec PyProof.Rows
abbrev R2:=V→V→Hp→VK→Prop
def OpR (X:Cx) (f:Value→Value→Sem Value) (r:R2):Prop :=
 ∀(pins:List (Addr × Obj)) (s:Shared) (σ:St) (H:Hp) (x y:V) (v u:Value) (Q:VK),Inv X pins σ H s→RelV x v→RelV y u→r x y H Q →
  wpAny (model X.prog X.w) X.A (f v u) (EP X pins σ Q) X.xe s
def UnR (X:Cx) (f:Value→Sem Value) (r:V→Hp→VK→Prop):Prop :=
 ∀(pins:List (Addr × Obj)) (s:Shared) (σ:St) (H:Hp) (x:V) (v:Value) (Q:VK),Inv X pins σ H s→RelV x v→r x H Q →
  wpAny (model X.prog X.w) X.A (f v) (EP X pins σ Q) X.xe s
def iK (X:Cx) (f:Value) (r:List V→Hp→VK→Prop):Prop :=
 ∀(pins:List (Addr × Obj)) (s:Shared) (σ:St) (H:Hp) (xs:List V) (us:List Value) (Q:VK),Inv X pins σ H s→Vals xs us→r xs H Q →
  wpAny (model X.prog X.w) X.A (call f us) (EP X pins σ Q) X.xe s
def tOp (r:R2) (ta tb:TE):TE:=fun σ H Q=>ta σ H fun x H1=>tb σ H1 fun y H2=>r x y H2 Q
def tUn (r:V→Hp→VK→Prop) (ta:TE):TE:=fun σ H Q=>ta σ H fun x H1=>r x H1 Q
def rI (C:Int→Int→Prop) (g:Int→Int→V):R2:=fun x y H Q=>∃i j,x=.int i∧y=.int j∧C i j∧Q (g i j) H
def rI0 (g:Int→Int→V):R2:=fun x y H Q=>∃i j,x=.int i∧y=.int j∧Q (g i j) H
def rU (g:Int→V):V→Hp→VK→Prop:=fun x H Q=>∃i,x=.int i∧Q (g i) H
section
variable {X:Cx}{a b c:Expr}{ta tb tc:TE}{pos:Pos}
theorem Gu (ha:PE X a ta) (hb:PE X b tb) {pins:List (Addr × Obj)}{s:Shared}{σ:St}{H:Hp}{R:V→V→Hp→Prop} (I:Inv X pins σ H s)
  (h:ta σ H fun x H1=>tb σ H1 fun y H2=>R x y H2) {Q:Value→Shared→Prop}{f:Value→Value→Sem Value}
  (hf:∀v u s2 x y H2,Inv X pins σ H2 s2→RelV x v→RelV y u→R x y H2→wpAny (model X.prog X.w) X.A (f v u) Q X.xe s2) :
  wpAny (model X.prog X.w) X.A (eval a X.env) (fun v s₁=>wpAny (model X.prog X.w) X.A (eval b X.env) (fun u s₂=>wpAny (model X.prog X.w) X.A (f v u) Q X.xe s₂) X.xe s₁) X.xe s:=by
 refine thn (ha pins s σ H _ I h) fun v s1 ⟨x,H1,I1,r1,q1⟩=>?_
 refine thn (hb pins s1 σ H1 _ I1 q1) fun u s2 ⟨y,H2,I2,r2,q2⟩=>?_
 exact hf v u s2 x y H2 I2 r1 r2 q2
theorem aD {op:Operator}{r:R2} (ho:OpR X (binaryOp op) r) (ha:PE X a ta) (hb:PE X b tb):PE X (.BinOp a op b pos) (tOp r ta tb):=by
 intro pins s σ H Q I h
 exact wpAny_BinOp (Gu ha hb I h fun v u s2 x y H2 I2 rx ry q=>ho pins s2 σ H2 x y v u Q I2 rx ry q)
theorem ya {op:UnaryOp}{r:V→Hp→VK→Prop} (ho:UnR X (unaryOp op) r) (ha:PE X a ta):PE X (.UnaryOp op a pos) (tUn r ta):=by
 intro pins s σ H Q I h
 exact UnaryOp_ (thn (ha pins s σ H _ I h) fun v s1 ⟨x,H1,I1,r1,q1⟩=>ho pins s1 σ H1 x v Q I1 r1 q1)
theorem opI {f:Value→Value→Sem Value}{C:Int→Int→Prop}{g:Int→Int→Int}
  (rule:∀(i j:Int) (t u:Tok) (s:Shared) (Q:Value→Shared→Prop) (E:Value→Shared→Prop),C i j→Q (.int (g i j) s.toks) { s with toks:=s.toks+1 }→wpAny (model X.prog X.w) X.A (f (.int i t) (.int j u)) Q E s) :
  OpR X f (rI C fun i j=>.int (g i j)):=by
 intro pins s σ H x y v u Q I rx ry h
 obtain ⟨i,j,rfl,rfl,hc,q⟩:=h
 obtain ⟨t,rfl⟩:=rx
 obtain ⟨t',rfl⟩:=ry
 exact rule i j t t' s _ _ hc ⟨.int (g i j),H,I.tok _,⟨_,rfl⟩,q⟩
theorem Hq {f:Value→Value→Sem Value}{g:Int→Int→Int}
  (rule:∀(i j:Int) (t u:Tok) (s:Shared) (Q:Value→Shared→Prop) (E:Value→Shared→Prop),Q (.int (g i j) s.toks) { s with toks:=s.toks+1 }→wpAny (model X.prog X.w) X.A (f (.int i t) (.int j u)) Q E s) :
  OpR X f (rI0 fun i j=>.int (g i j)):=by
 intro pins s σ H x y v u Q I rx ry h
 obtain ⟨i,j,rfl,rfl,q⟩:=h
 obtain ⟨t,rfl⟩:=rx
 obtain ⟨t',rfl⟩:=ry
 exact rule i j t t' s _ _ ⟨.int (g i j),H,I.tok _,⟨_,rfl⟩,q⟩
theorem Dv {f:Value→Value→Sem Value}{g:Int→Int→Bool}
  (rule:∀(i j:Int) (t u:Tok) (s:Shared) (Q:Value→Shared→Prop) (E:Value→Shared→Prop),Q (.bool (g i j)) s→wpAny (model X.prog X.w) X.A (f (.int i t) (.int j u)) Q E s) :
  OpR X f (rI0 fun i j=>.bl (g i j)):=by
 intro pins s σ H x y v u Q I rx ry h
 obtain ⟨i,j,rfl,rfl,q⟩:=h
 obtain ⟨t,rfl⟩:=rx
 obtain ⟨t',rfl⟩:=ry
 exact rule i j t t' s _ _ ⟨.bl (g i j),H,I,rfl,q⟩
def HZ (i j:Int):Prop:=0≤j∧j≤1000000∧i.natAbs<2 ^ 64
theorem cA:OpR X (binaryOp .Add) (rI0 fun i j=>.int (i+j)):=Hq fun _ _ _ _ _ _ _ q=>add_int q
theorem gS:OpR X (binaryOp .Sub) (rI0 fun i j=>.int (i - j)):=Hq fun _ _ _ _ _ _ _ q=>sub_int q
theorem cz:OpR X (binaryOp .Mod) (rI (fun _ j=>0<j) fun i j=>.int (i % j)):=opI fun i j _ _ _ _ _ hc q=>by
 have h1:(0:Int)<j:=hc
 exact mod_int' (by omega) (by rw[Int.fmod_eq_emod_of_nonneg i (by omega)];exact q)
theorem ux:OpR X (binaryOp .Pow) (rI HZ fun i j=>.int (i ^ j.toNat)):=opI fun _ _ _ _ _ _ _ hc q=>pow_int_small hc.1 hc.2.1 hc.2.2 q
theorem unI {f:Value→Sem Value}{g:Int→Int}
  (rule:∀(i:Int) (t:Tok) (s:Shared) (Q:Value→Shared→Prop) (E:Value→Shared→Prop),Q (.int (g i) s.toks) { s with toks:=s.toks+1 }→wpAny (model X.prog X.w) X.A (f (.int i t)) Q E s) :
  UnR X f (rU fun i=>.int (g i)):=by
 intro pins s σ H x v Q I rx h
 obtain ⟨i,rfl,q⟩:=h
 obtain ⟨t,rfl⟩:=rx
 exact rule i t s _ _ ⟨.int (g i),H,I.tok _,⟨_,rfl⟩,q⟩
theorem tV:UnR X (unaryOp .USub) (rU fun i=>.int (-i)):=unI fun _ _ _ _ _ q=>neg_int q
end
def aY:V→V→Bool
 | .non,.non=>true | .non,.int _=>true | .int _,.non=>true | .non,.bl _=>true | .bl _,.non=>true | .non,.str _=>true | .str _,.non=>true
 | .int _,.int _=>true | .bl _,.bl _=>true | .str _,.str _=>true | .byt _,.byt _=>true
 | .int _,.str _=>true | .str _,.int _=>true | .bl _,.str _=>true | .str _,.bl _=>true
 | _,_=>false
def rEq:R2:=fun x y H Q=>aY x y=true∧Q (.bl (decide (x=y))) H
def rNe:R2:=fun x y H Q=>aY x y=true∧Q (.bl (!decide (x=y))) H
theorem yM {i j:Int}:decide (V.int i=V.int j)=(i == j):=by
 rw[Bool.eq_iff_iff]
 simp
theorem Ai {i j:Bool}:decide (V.bl i=V.bl j)=(i == j):=by
 rw[Bool.eq_iff_iff]
 simp
theorem zb {i j:Str}:decide (V.str i=V.str j)=(i == j):=by
 rw[Bool.eq_iff_iff]
 simp
theorem yw {i j:Array UInt8}:decide (V.byt i=V.byt j)=(i.toList == j.toList):=by
 rw[Bool.eq_iff_iff]
 cases i
 cases j
 simp
section
variable {X:Cx}{a b c:Expr}{ta tb tc:TE}{pos:Pos}
theorem bx {pins:List (Addr × Obj)}{σ:St}{H:Hp}{s:Shared}{Q:VK}{k k':Bool} (I:Inv X pins σ H s) (q:Q (.bl k) H) (e:k=k'):EP X pins σ Q (.bool k') s:=by
 subst e
 exact⟨.bl k,H,I,rfl,q⟩
theorem qh:OpR X (compareOp .Eq) rEq:=by
 intro pins s σ H x y v u Q I rx ry h
 obtain ⟨hs,q⟩:=h
 cases x with
 | non =>
  cases rx
  cases y with
  | non=>cases ry;exact PySem.EqNone.eq_none_none (bx I q (by simp))
  | bl j=>cases ry;exact PySem.EqNone.eq_none_bool (bx I q (by simp))
  | int j=>obtain ⟨t',rfl⟩:=ry;exact PySem.EqNone.eq_none_int (bx I q (by simp))
  | str j=>obtain ⟨t',rfl⟩:=ry;exact PySem.EqNone.eq_none_str (bx I q (by simp))
  | _=>exact absurd (show false=true from hs) Bool.false_ne_true
 | bl i =>
  cases rx
  cases y with
  | non=>cases ry;exact PySem.EqNone.eq_bool_none (bx I q (by simp))
  | bl j=>cases ry;exact eq_bool (bx I q Ai)
  | str j=>obtain ⟨t',rfl⟩:=ry;exact PySem.EqMixed.eq_bool_str (bx I q (by simp))
  | _=>exact absurd (show false=true from hs) Bool.false_ne_true
 | int i =>
  obtain ⟨t,rfl⟩:=rx
  cases y with
  | non=>cases ry;exact PySem.EqNone.eq_int_none (bx I q (by simp))
  | int j=>obtain ⟨t',rfl⟩:=ry;exact eq_int (bx I q yM)
  | str j=>obtain ⟨t',rfl⟩:=ry;exact PySem.EqMixed.eq_int_str (bx I q (by simp))
  | _=>exact absurd (show false=true from hs) Bool.false_ne_true
 | str i =>
  obtain ⟨t,rfl⟩:=rx
  cases y with
  | non=>cases ry;exact PySem.EqNone.eq_str_none (bx I q (by simp))
  | bl j=>cases ry;exact PySem.EqMixed.eq_str_bool (bx I q (by simp))
  | int j=>obtain ⟨t',rfl⟩:=ry;exact PySem.EqMixed.eq_str_int (bx I q (by simp))
  | str j=>obtain ⟨t',rfl⟩:=ry;exact eq_str (bx I q zb)
  | _=>exact absurd (show false=true from hs) Bool.false_ne_true
 | byt i =>
  obtain ⟨t,rfl⟩:=rx
  cases y with
  | byt j=>obtain ⟨t',rfl⟩:=ry;exact PySem.W.eq_bytes (bx I q yw)
  | _=>exact absurd (show false=true from hs) Bool.false_ne_true
 | _=>cases y<;>exact absurd (show false=true from hs) Bool.false_ne_true
theorem vc:OpR X (compareOp .NotEq) rNe:=by
 intro pins s σ H x y v u Q I rx ry h
 obtain ⟨hs,q⟩:=h
 cases x with
 | non =>
  cases rx
  cases y with
  | non=>cases ry;exact PySem.EqNone.ne_none_none (bx I q (by simp))
  | bl j=>cases ry;exact PySem.EqNone.ne_none_bool (bx I q (by simp))
  | int j=>obtain ⟨t',rfl⟩:=ry;exact PySem.EqNone.ne_none_int (bx I q (by simp))
  | str j=>obtain ⟨t',rfl⟩:=ry;exact PySem.EqNone.ne_none_str (bx I q (by simp))
  | _=>exact absurd (show false=true from hs) Bool.false_ne_true
 | bl i =>
  cases rx
  cases y with
  | non=>cases ry;exact PySem.EqNone.ne_bool_none (bx I q (by simp))
  | bl j=>cases ry;exact ne_bool (bx I q (congrArg not Ai))
  | str j=>obtain ⟨t',rfl⟩:=ry;exact PySem.EqMixed.ne_bool_str (bx I q (by simp))
  | _=>exact absurd (show false=true from hs) Bool.false_ne_true
 | int i =>
  obtain ⟨t,rfl⟩:=rx
  cases y with
  | non=>cases ry;exact PySem.EqNone.ne_int_none (bx I q (by simp))
  | int j=>obtain ⟨t',rfl⟩:=ry;exact ne_int (bx I q (congrArg not yM))
  | str j=>obtain ⟨t',rfl⟩:=ry;exact PySem.EqMixed.ne_int_str (bx I q (by simp))
  | _=>exact absurd (show false=true from hs) Bool.false_ne_true
 | str i =>
  obtain ⟨t,rfl⟩:=rx
  cases y with
  | non=>cases ry;exact PySem.EqNone.ne_str_none (bx I q (by simp))
  | bl j=>cases ry;exact PySem.EqMixed.ne_str_bool (bx I q (by simp))
  | int j=>obtain ⟨t',rfl⟩:=ry;exact PySem.EqMixed.ne_str_int (bx I q (by simp))
  | str j=>obtain ⟨t',rfl⟩:=ry;exact ne_str (bx I q (congrArg not zb))
  | _=>exact absurd (show false=true from hs) Bool.false_ne_true
 | byt i =>
  obtain ⟨t,rfl⟩:=rx
  cases y with
  | byt j=>obtain ⟨t',rfl⟩:=ry;exact PySem.W.ne_bytes (bx I q (congrArg not yw))
  | _=>exact absurd (show false=true from hs) Bool.false_ne_true
 | _=>cases y<;>exact absurd (show false=true from hs) Bool.false_ne_true
theorem vp:OpR X (compareOp .Lt) (rI0 fun i j=>.bl (decide (i<j))):=Dv fun _ _ _ _ _ _ _ q=>lt_int q
theorem Cy:OpR X (compareOp .LtE) (rI0 fun i j=>.bl (decide (i≤j))):=Dv fun _ _ _ _ _ _ _ q=>le_int q
theorem we:OpR X (compareOp .Gt) (rI0 fun i j=>.bl (decide (j<i))):=Dv fun _ _ _ _ _ _ _ q=>gt_int q
theorem HS:OpR X (compareOp .GtE) (rI0 fun i j=>.bl (decide (j≤i))):=Dv fun _ _ _ _ _ _ _ q=>ge_int q
theorem B9:OpR X (compareOp .Is) (fun x y H Q=>y=.non∧Q (.bl (decide (x=.non))) H):=by
 intro pins s σ H x y v u Q I rx ry h
 obtain ⟨rfl,q⟩:=h
 cases ry
 refine is_none_gen (bx I q ?_)
 cases x<;>first
  | (cases rx;rfl)
  | (obtain ⟨t,rfl⟩:=rx;rfl)
theorem zo:OpR X (compareOp .IsNot) (fun x y H Q=>y=.non∧Q (.bl (!decide (x=.non))) H):=by
 intro pins s σ H x y v u Q I rx ry h
 obtain ⟨rfl,q⟩:=h
 cases ry
 refine isnot_none_gen (bx I q ?_)
 cases x<;>first
  | (cases rx;rfl)
  | (obtain ⟨t,rfl⟩:=rx;rfl)
theorem bK (b:Expr) {op:CmpOp} (h:op≠.In:=by decide) (h2:op≠.NotIn:=by decide):behindInMarks op b=false:=by
 have e1:(op == CmpOp.In)=false:=by cases op<;>first | rfl | exact absurd rfl h
 have e2:(op == CmpOp.NotIn)=false:=by cases op<;>first | rfl | exact absurd rfl h2
 cases b<;>simp [behindInMarks,e1,e2]
theorem mO {op:CmpOp}{r:R2} (ho:OpR X (compareOp op) r) (ha:PE X a ta) (hb:PE X b tb) (hm:behindInMarks op b=false):PE X (.Compare a [op] [b] pos) (tOp r ta tb):=by
 intro pins s σ H Q I h
 exact wpAny_Compare1 (Gu ha hb I h fun v u s2 x y H2 I2 rx ry q=>ho pins s2 σ H2 x y v u Q I2 rx ry q) hm
def Bz (t:TE):TT:=fun σ H Q=>t σ H fun x H'=>∃k,x=.bl k∧Q k H'
theorem bt {op:CmpOp}{r:R2} (ho:OpR X (compareOp op) r) (ha:PE X a ta) (hb:PE X b tb) (hm:behindInMarks op b=false):PT X (.Compare a [op] [b] pos) (Bz (tOp r ta tb)):=by
 intro pins s σ H Q I h
 refine wpAny_isTrue_Compare1 (thn (ha pins s σ H _ I h) fun v s1 ⟨x,H1,I1,r1,q1⟩=>thn (hb pins s1 σ H1 _ I1 q1) fun u s2 ⟨y,H2,I2,r2,q2⟩ =>
  thn (ho pins s2 σ H2 x y v u _ I2 r1 r2 q2) fun c s3 ⟨z,H3,I3,r3,k,e,q3⟩=>?_) hm
 subst e
 cases r3
 exact wpAny_truthy_bool ⟨H3,I3,q3⟩
def CN (r r':R2) (ta tb tc:TE):TE:=fun σ H Q=>ta σ H fun x H1=>tb σ H1 fun y H2=>r x y H2 fun z H3=>∃k,z=.bl k ∧
 (if k=true then tc σ H3 fun w' H4=>r' y w' H4 Q else Q (.bl false) H3)
theorem v5 {op op':CmpOp}{r r':R2} (ho:OpR X (compareOp op) r) (ho':OpR X (compareOp op') r') (ha:PE X a ta) (hb:PE X b tb) (hc:PE X c tc)
  (hm:lastMarks [op,op'] [b,c]=false:=by with_unfolding_all rfl):PT X (.Compare a [op,op'] [b,c] pos) (Bz (CN r r' ta tb tc)):=by
 intro pins s σ H Q I h
 refine isTrue_chain (thn (ha pins s σ H _ I h) fun v s1 ⟨x,H1,I1,r1,q1⟩=>test_link (thn (hb pins s1 σ H1 _ I1 q1) fun u s2 ⟨y,H2,I2,r2,q2⟩ =>
  thn (ho pins s2 σ H2 x y v u _ I2 r1 r2 q2) fun d s3 ⟨z,H3,I3,r3,k,e,q3⟩=>?_)) hm
 subst e
 cases r3
 refine wpAny_truthy_bool ?_
 cases k with
 | false =>
  obtain ⟨k',e',q'⟩:=q3
  cases e'
  exact ite_ff ⟨H3,I3,q'⟩
 | true =>
  refine ite_tt (test_last (thn (hc pins s3 σ H3 _ I3 q3) fun w' s4 ⟨z',H4,I4,r4,q4⟩=>thn (ho' pins s4 σ H4 y z' u w' _ I4 r2 r4 q4) fun d' s5 ⟨z2,H5,I5,r5,k2,e2,q5⟩=>?_))
  subst e2
  cases r5
  exact wpAny_truthy_bool ⟨H5,I5,q5⟩
theorem uU:(sizeLine:Nat)<2 ^ 63:=by rw[sizeLine_eq];decide
theorem vals1 {x:V}{us:List Value} (r:Vals [x] us):∃u,us=[u]∧RelV x u:=by
 cases r with
 | cons r1 r2=>cases r2;exact⟨_,rfl,r1⟩
theorem vals2 {x y:V}{us:List Value} (r:Vals [x,y] us):∃u w',us=[u,w']∧RelV x u∧RelV y w':=by
 cases r with
 | cons r1 r2 =>
  cases r2 with
  | cons r3 r4=>cases r4;exact⟨_,_,rfl,r1,r3⟩
theorem zP (hc:X.calm=true):iK X (.builtin "min") (fun xs H Q=>∃i j,xs=[.int i,.int j]∧Q (.int (if j<i then j else i)) H):=by
 intro pins s σ H xs us Q I r h
 obtain ⟨i,j,rfl,q⟩:=h
 obtain ⟨u,w',rfl,⟨t,rfl⟩,⟨t',rfl⟩⟩:=vals2 r
 refine min_two_ints (I.ok.hd hc) fun h' tk k=>⟨_,H,I.kept k,?_,q⟩
 by_cases hj:j<i
 ·rw[if_pos hj,if_pos hj];exact⟨_,rfl⟩
 ·rw[if_neg hj,if_neg hj];exact⟨_,rfl⟩
end
end L2
namespace L2
open PySem PySem.Spec PyProof.Rows
structure xg (h:Heap) (x dx C:Addr) (mA:Str→Option Value):Prop where
 obj:h.get? x=some (PySem.W.instObj C dx)
 ns:h.Ns1 dx mA
 ne:dx≠x
theorem zx {h:Heap}{dx:Addr}{mA:Str→Option Value} (n:h.Ns1 dx mA):∃od,h.get? dx=some od∧∀name,PySem.W.lookIn name od=some (mA name):=by
 obtain ⟨o,es,ep,ho,hd,hk,_,hm⟩:=n
 refine⟨o,ho,fun name=>?_⟩
 have e:=hm name
 unfold nsFind findBy at e
 rw[← Array.find?_toList] at e
 unfold PySem.W.lookIn
 rw[hd]
 dsimp only
 split
 ·rename_i y q
  rw[q] at e
  exact congrArg some e
 ·rename_i q
  rw[q] at e
  have a:es.toList.any (·.refKey)=false:=by
   rw[List.any_eq_false]
   intro y hy
   obtain ⟨z,t,hkey⟩:=hk y (Array.mem_toList_iff.mp hy)
   simp [DictEntry.refKey,hkey]
  have a':¬ es.toList.any (·.refKey)=true:=by rw[a];exact Bool.false_ne_true
  rw[if_neg a']
  exact congrArg some e
theorem xg.look {h:Heap}{x dx C:Addr}{mA:Str→Option Value} (I:xg h x dx C mA):∃od,PySem.W.InstAt h x (PySem.W.instObj C dx) C (some od)∧∀name,PySem.W.lookIn name od=some (mA name) :=
 let ⟨od,ho,hl⟩:=zx I.ns
 ⟨od,⟨I.obj,rfl,rfl,ho⟩,hl⟩
section
variable {prog:Program}{w:World}{A:Around}{E:Value→Shared→Prop}{s:Shared}{K:PySem.W.Frag}{x dx C f:Addr}{mA:Str→Option Value}{name:Str}{v:Value}
theorem get_map {expr:Bool}{Q:Value→Shared→Prop} (X:K.In s.heap) (I:xg s.heap x dx C mA) (hg:PySem.W.plainGet K C name=true) (hh:PySem.W.hasDictIn K C=true)
  (ha:PySem.W.findIn K (.ref C) name=some none) (hv:mA name=some v) (hv':PySem.W.handedIn v=true) (h:Q v { s with toks:=s.toks+1 }) :
  wpAny (model prog w) A (getAttr (.ref x) name expr) Q E s:=by
 obtain ⟨od,J,hl⟩:=I.look
 exact PySem.W.get_value X J (PySem.W.plainGet_of hg).1 (PySem.W.findObj_own hh ha rfl (by rw[hl,hv])) hv' h
theorem Bm {pl:Sem Bool}{Q:Value × List Value→Shared→Prop} (X:K.In s.heap) (I:xg s.heap x dx C mA) (hg:PySem.W.plainGet K C name=true)
  (hf:PySem.W.findIn K (.ref C) name=some (some (.ref f))) (ht:PySem.W.isFn K (.ref f)=true) (hv:mA name=none) (h:Q (.ref f,[.ref x]) s) :
  wpAny (model prog w) A (getMethod (.ref x) name pl) Q E s:=by
 obtain ⟨od,J,hl⟩:=I.look
 exact PySem.W.method_fn X J (PySem.W.plainGet_of hg).1 (PySem.W.plainGet_of hg).2 hf (beq_iff_eq.mp ht) (by show (PySem.W.lookIn name od).map (·.isSome)=some false;rw[hl,hv];rfl) h
theorem DX {ns:List Str}{Q:Unit→Shared→Prop} (X:K.In s.heap) (I:xg s.heap x dx C mA)
  (hs:PySem.W.findIn K (.ref C) "__setattr__" = some (some (.builtin "object.__setattr__"))) (hp:PySem.W.plainOver K C=true) (ht:PySem.W.takerIn K C name=some none) (hh:PySem.W.hasDictIn K C=true)
  (hw:PySem.Within mA ns) (hsz:ns.length≤sizeLine)
  (h:∀h',xg h' x dx C (fun y=>if y=name then some v else mA y)→Heap.SameBut dx s.heap h'→Q () { s with heap:=h',toks:=s.toks+2 }) :
  wpAny (model prog w) A (setAttr (.ref x) name v) Q E s:=by
 obtain ⟨od,J,hl⟩:=I.look
 refine PySem.W.set_plain X J hs (PySem.W.osa_open (s:={ s with toks:=s.toks+1 }) (r:=none) X J hp ht fun b=>?_)
 obtain ⟨cd,hc,hd'⟩:=PySem.W.any_some hh
 have hx:s.heap.get? x=some ⟨.ref C,some dx,.plain,#[]⟩:=I.obj
 refine wpAny_bind (wpAny_pure (wpAny_bind (wpAny_bind (wpAny_loadPart hx (wpAny_bind (PySem.W.Looks.here (s:={ s with toks:=s.toks+1 }) (PySem.W.looks_clsIn X hc) ?_))))))
 rw[hd']
 refine wpAny_pure (a:=some dx) (wpAny_bind (wpAny_pure (wpAny_bind ?_)))
 refine wpAny_nsSet1 (s:={ s with toks:=s.toks+1 }) I.ns fun h' hn2 hs2=>?_
 obtain ⟨oD,esD,epD,hoD,hdD,hcD⟩:=hn2.count (PySem.Within.cons name v hw)
 refine wpAny_bind (wpAny_lookBehind hoD (by rw[hdD];exact pastItsLine_dict (Nat.le_trans hcD (by rw[List.length_cons];omega))) ?_)
 exact wpAny_pure (h _ ⟨(hs2.2 _ (Ne.symm I.ne)).trans I.obj,hn2,I.ne⟩ hs2)
theorem AA {R:Result→Shared→Prop}{vs:List Value}{kw:List (Str × Value)} (X:K.In s.heap) (hm:PySem.W.makesIn K C=true)
  (hi:PySem.W.findIn K (.ref C) "__init__" = some (some (.ref f))) (hf:PySem.W.typeIn K (.ref f)=some (.type "function"))
  (h:codeAny (model prog w) (A.under (.builtin "type.__call__" ⟨.ref C::vs,kw⟩)) (.call (.ref f) ⟨.ref (s.heap.objs.size+1)::vs,kw⟩) (PySem.W.InitBack (s.heap.objs.size+1) R)
   { s with heap:=(s.heap.push PySem.W.emptyDict).push (PySem.W.instObj C s.heap.objs.size) }) :
  codeAny (model prog w) A (.call (.ref C) ⟨vs,kw⟩) R s:=by
 obtain ⟨hh,g,d,t,os⟩:=s
 exact PySem.W.make_core (PySem.W.makes_of X hm) (PySem.W.looks_findIn X hi) (fun self=>PySem.W.bind_fn X self hf) (.inl rfl) h
end
def jl (f:Str) (v:V):List (Str × V)→List (Str × V)
 | []=>[(f,v)]
 | (g,x)::r=>if g=f then (g,v)::r else (g,x)::jl f v r
theorem nX (f g:Str) (v:V):∀fs:List (Str × V),(jl f v fs).lookup g=if g=f then some v else fs.lookup g
 | []=>by
  show List.lookup g [(f,v)]=_
  by_cases h:g=f
  ·have hb:(g == f)=true:=beq_iff_eq.mpr h
   simp only[List.lookup,hb,if_pos h]
  ·have hb:(g == f)=false:=beq_eq_false_iff_ne.mpr h
   simp only[List.lookup,hb,if_neg h]
 | (k,x)::r=>by
  have ih:=nX f g v r
  rw[show jl f v ((k,x)::r)=(if k=f then (k,v)::r else (k,x)::jl f v r) from rfl]
  by_cases hk:k=f
  ·rw[if_pos hk]
   by_cases h:g=k
   ·have hb:(g == k)=true:=beq_iff_eq.mpr h
    simp only[List.lookup,hb,if_pos (h.trans hk)]
   ·have hb:(g == k)=false:=beq_eq_false_iff_ne.mpr h
    simp only[List.lookup,hb,if_neg (fun e:g=f=>h (e.trans hk.symm))]
  ·rw[if_neg hk]
   by_cases h:g=k
   ·have hb:(g == k)=true:=beq_iff_eq.mpr h
    simp only[List.lookup,hb,if_neg (fun e:g=f=>hk (h.symm.trans e))]
   ·have hb:(g == k)=false:=beq_eq_false_iff_ne.mpr h
    simp only[List.lookup,hb]
    exact ih
theorem nu (f:Str) (v:V):∀fs:List (Str × V),f∈(jl f v fs).map (·.1)∧∀g,g∈fs.map (·.1)→g∈(jl f v fs).map (·.1)
 | []=>⟨by simp [jl],fun g h=>by simp at h⟩
 | (k,x)::r=>by
  obtain ⟨i1,i2⟩:=nu f v r
  rw[show jl f v ((k,x)::r)=(if k=f then (k,v)::r else (k,x)::jl f v r) from rfl]
  by_cases hk:k=f
  ·rw[if_pos hk]
   subst hk
   exact⟨by simp,fun g h=>by simpa using h⟩
  ·rw[if_neg hk]
   refine⟨?_,fun g h=>?_⟩
   ·rw[List.map_cons]
    exact List.mem_cons_of_mem _ i1
   ·rw[List.map_cons] at h ⊢
    rcases List.mem_cons.mp h with e | e
    ·exact List.mem_cons.mpr (.inl e)
    ·exact List.mem_cons_of_mem _ (i2 g e)
theorem n0 (f:Str) (v:V):∀fs:List (Str × V),(jl f v fs).length≤fs.length+1
 | []=>by simp [jl]
 | (k,x)::r=>by
  have ih:=n0 f v r
  rw[show jl f v ((k,x)::r)=(if k=f then (k,v)::r else (k,x)::jl f v r) from rfl]
  by_cases hk:k=f
  ·rw[if_pos hk,List.length_cons,List.length_cons];omega
  ·rw[if_neg hk,List.length_cons,List.length_cons];omega
theorem jY.some_of {v:V}{o:Option Value} (r:jY (some v) o):∃u,o=some u∧RelV v u:=by
 cases o with
 | none=>exact (show False from r).elim
 | some u=>exact⟨u,rfl,r⟩
theorem jY.none_of {o:Option Value} (r:jY none o):o=none:=by
 cases o with
 | none=>rfl
 | some u=>exact (show False from r).elim
theorem Ae {v:V}{u:Value} (r:RelV v u):PySem.W.handedIn u=true:=by
 cases v with
 | non=>cases (show u=Value.none from r);rfl
 | bl b=>cases (show u=Value.bool b from r);rfl
 | int i=>obtain ⟨t,e⟩:=(show ∃t,u=Value.int i t from r);cases e;rfl
 | str x=>obtain ⟨t,e⟩:=(show ∃t,u=Value.str x t from r);cases e;rfl
 | byt b=>obtain ⟨t,e⟩:=(show ∃t,u=Value.bytes b t from r);cases e;rfl
 | flt b=>obtain ⟨t,e⟩:=(show ∃t,u=Value.float b t from r);cases e;rfl
 | ref a=>cases (show u=Value.ref a from r);rfl
 | ty n=>cases (show u=Value.type n from r);rfl
section
variable {P:Program}{w:World}{H H':Hp}{h h':Heap}{a C dx:Addr}{fs fs':List (Str × V)}
theorem o9 (hok:HOk P w H h) (e:H a=some (.ins C dx fs)):∃mA,xg h a dx C mA∧(∀f,jY (fs.lookup f) (mA f))∧PySem.Within mA (fs.map (·.1))∧fs.length≤1000∧H dx=some (.own a):=by
 obtain ⟨d,z,ne,ob,mA,n,r,q⟩:=(show dD P w H h a (.ins C dx fs) from hok a _ e)
 exact⟨mA,⟨ob,n,ne⟩,r,q,z,d⟩
end
structure Cls (K:PySem.W.Frag) (C:Addr):Prop where
 pg:PySem.W.plainGet K C Str.empty=true
 hd:PySem.W.hasDictIn K C=true
 po:PySem.W.plainOver K C=true
 sa:PySem.W.findIn K (.ref C) "__setattr__" = some (some (.builtin "object.__setattr__"))
theorem Cls.get {K:PySem.W.Frag}{C:Addr} (c:Cls K C) (f:Str):PySem.W.plainGet K C f=true:=c.pg
def cL (K:PySem.W.Frag) (C:Addr) (f:Str):Prop:=PySem.W.findIn K (.ref C) f=some none
theorem cL.Hc {K:PySem.W.Frag}{C:Addr}{f:Str} (n:cL K C f):PySem.W.takerIn K C f=some none:=by
 unfold PySem.W.takerIn
 rw[show PySem.W.findIn K (.ref C) f=some none from n]
 rfl
structure Meth (K:PySem.W.Frag) (C:Addr) (m:Str) (f:Addr):Prop where
 at_:PySem.W.findIn K (.ref C) m=some (some (.ref f))
 fn:PySem.W.isFn K (.ref f)=true
 kp:PySem.W.keepIn K (.ref f)=true
section
variable {X:Cx}{pins:List (Addr × Obj)}{σ:St}{H:Hp}{s:Shared}{a C dx:Addr}{fs:List (Str × V)}{f:Str}{v:V}{A:Around}{E:Value→Shared→Prop}
theorem xC {b:Bool}{Q:Value→Shared→Prop} (I:Inv X pins σ H s) (e:H a=some (.ins C dx fs)) (c:Cls X.K C) (n:cL X.K C f) (l:fs.lookup f=some v)
  (h:∀u s',Inv X pins σ H s'→RelV v u→Q u s'):wpAny (model X.prog X.w) A (getAttr (.ref a) f b) Q E s:=by
 obtain ⟨mA,O,r,_,_,_⟩:=o9 I.hok e
 obtain ⟨u,hu,ru⟩:=jY.some_of (v:=v) (o:=mA f) (by rw[← l];exact r f)
 exact get_map I.kIn O (c.get f) c.hd n hu (Ae ru) (h u _ (I.tok _) ru)
theorem lG {m:Str}{g:Addr}{pl:Sem Bool}{Q:Value × List Value→Shared→Prop} (I:Inv X pins σ H s) (e:H a=some (.ins C dx fs)) (c:Cls X.K C) (k:Meth X.K C m g) (l:fs.lookup m=none)
  (h:Q (.ref g,[.ref a]) s):wpAny (model X.prog X.w) A (getMethod (.ref a) m pl) Q E s:=by
 obtain ⟨mA,O,r,_,_,_⟩:=o9 I.hok e
 have hn:mA m=none:=jY.none_of (by rw[← l];exact r m)
 exact Bm I.kIn O (c.get m) k.at_ k.fn hn h
theorem xn {y:V}{u:Value}{Q:Unit→Shared→Prop} (I:Inv X pins σ H s) (e:H a=some (.ins C dx fs)) (c:Cls X.K C) (n:cL X.K C f) (hl:fs.length<1000) (ry:RelV y u)
  (h:∀s',Inv X pins σ (upd H a (.ins C dx (jl f y fs))) s'→Q () s'):wpAny (model X.prog X.w) A (setAttr (.ref a) f u) Q E s:=by
 obtain ⟨mA,O,r,wi,_,ho⟩:=o9 I.hok e
 have hz:(fs.map (·.1)).length≤sizeLine:=by rw[List.length_map,sizeLine_eq];omega
 refine DX I.kIn O c.sa c.po n.Hc c.hd wi hz fun h' O' sb=>h _ ?_
 have hd:∃o,h'.get? dx=some o:=let ⟨o,_,_,e',_⟩:=O'.ns;⟨o,e'⟩
 refine I.write (x:=a) (e:=dx) (by rw[e];exact True.intro) (.inr ho) (fun b q hb z=>(sb.2 b hb).trans z) hd ?_
 refine⟨by rw[aI O.ne];exact ho,?_,O.ne,O'.obj,_,O'.ns,fun g=>?_,fun g hg=>?_⟩
 ·have:=n0 f y fs;omega
 ·show jY ((jl f y fs).lookup g) (if g=f then some u else mA g)
  rw[nX]
  by_cases q:g=f
  ·rw[if_pos q,if_pos q];exact ry
  ·rw[if_neg q,if_neg q];exact r g
 ·by_cases q:g=f
  ·rw[q];exact (nu f y fs).1
  ·refine (nu f y fs).2 g (wi g fun z=>hg ?_)
   show (if g=f then some u else mA g)=none
   rw[if_neg q];exact z
theorem Inv.made (I:Inv X pins σ H s):Inv X pins σ (upd (upd H s.heap.objs.size (.own (s.heap.objs.size+1))) (s.heap.objs.size+1) (.ins C s.heap.objs.size []))
  { s with heap:=(s.heap.push PySem.W.emptyDict).push (PySem.W.instObj C s.heap.objs.size) }:=by
 have e1:(s.heap.push PySem.W.emptyDict).get? s.heap.objs.size=some PySem.W.emptyDict:=Heap.get?_push_size s.heap rfl
 have e2:((s.heap.push PySem.W.emptyDict).push (PySem.W.instObj C s.heap.objs.size)).get? (s.heap.objs.size+1)=some (PySem.W.instObj C s.heap.objs.size):=by
  have:=Heap.get?_push_size (s.heap.push PySem.W.emptyDict) (o:=PySem.W.instObj C s.heap.objs.size) rfl
  rwa [Heap.size_push] at this
 have e3:(s.heap.push PySem.W.emptyDict).Ns s.heap.objs.size (fun _=>none):=⟨PySem.W.emptyDict,#[],_,e1,rfl,(fun e he=>absurd he (by simp)),fun _=>rfl⟩
 have I1:=I.laid (a:=s.heap.objs.size) (o:=.own (s.heap.objs.size+1)) (h':=s.heap.push PySem.W.emptyDict) (t':=s.toks) (fun b u q=>Heap.get?_push_of_some _ q) (Nat.le_refl _) ⟨_,e1⟩
 refine I1.laid (a:=s.heap.objs.size+1) (o:=.ins C s.heap.objs.size []) (t':=s.toks) (fun b u q=>Heap.get?_push_of_some _ q) (Nat.le_of_eq (Heap.size_push _ _)) ?_
 have ne:s.heap.objs.size≠s.heap.objs.size+1:=Nat.ne_of_lt (Nat.lt_succ_self _)
 refine⟨by rw[aI ne,aK],Nat.zero_le _,ne,e2,fun _=>none,(Heap.Ns1.of_empty e3).at fun o q=>Heap.get?_push_of_some _ q,fun _=>True.intro,fun y hy=>absurd rfl hy⟩
theorem DR {prog:Program}{w:World}{env:Env}{e:Expr}{f:Str}{pos:Pos}{s:Shared}{Q:Value→Shared→Prop} (hb:attributeBase e f env (eval e env)=eval e env)
  (h:wpAny (model prog w) A (eval e env) (fun o s₁=>wpAny (model prog w) A (getAttr o f true) Q E s₁) E s):wpAny (model prog w) A (eval (.Attribute e f pos) env) Q E s :=
 Attribute_any_ h (by rw[arm_eval_Attribute,hb])
end
def uv (K:PySem.W.Frag) (ta:TE) (f:Str):TE:=fun σ H Q=>ta σ H fun x H1=>∃a C dx fs v,x=.ref a∧H1 a=some (.ins C dx fs)∧Cls K C∧cL K C f∧fs.lookup f=some v∧Q v H1
def wY (K:PySem.W.Frag) (ta tv:TE) (f:Str):TS:=fun D σ H=>tv σ H fun y H1=>ta σ H1 fun x H2=>∃a C dx fs,x=.ref a∧H2 a=some (.ins C dx fs)∧Cls K C∧cL K C f∧fs.length<1000 ∧
 D.nx σ (upd H2 a (.ins C dx (jl f y fs)))
section
variable {X:Cx}{o e value:Expr}{f:Str}{pos pos' tpos:Pos}{ta tv:TE}
theorem FR (he:PE X e ta) (hb:attributeBase e f X.env (eval e X.env)=eval e X.env):PE X (.Attribute e f pos) (uv X.K ta f):=by
 intro pins s σ H Q I h
 refine DR hb (thn (he pins s σ H _ I h) fun u s1 ⟨x,H1,I1,rx,a,C,dx,fs,v,ex,ea,c,n,l,q⟩=>?_)
 subst ex
 obtain rfl:u=Value.ref a:=rx
 exact xC I1 ea c n l fun u' s2 I2 ru=>⟨v,H1,I2,ru,q⟩
theorem GU (ha:PE X o ta) (hv:PE X value tv) (hs:swapsWith value (some (.Attribute o f pos')) pos.line X.env=pure false):PS X (.Assign [.Attribute o f pos'] value pos) (wY X.K ta tv f):=by
 intro pins s σ H D I h
 refine plainObj_wpAny_Assign_Attribute (thn (hv pins s σ H _ I h) fun u s1 ⟨y,H1,I1,ry,q⟩=>thn (ha pins s1 σ H1 _ I1 q) fun ov s2 ⟨x,H2,I2,rx,a,C,dx,fs,ex,ea,c,n,l,q2⟩=>?_) hs
 subst ex
 obtain rfl:ov=Value.ref a:=rx
 exact xn I2 ea c n l ry fun s3 I3=>⟨σ,_,I3,q2⟩
theorem EI {pl:Sem Bool}{m:Str}{apos:Pos}{args:List Expr}{pins:List (Addr × Obj)}{s:Shared}{σ:St}{H:Hp}{Q:Value→Shared→Prop}{te:TE} (he:PE X e te) (I:Inv X pins σ H s)
  (h:te σ H fun x H1=>∃a C dx fs g,x=.ref a∧H1 a=some (.ins C dx fs)∧Cls X.K C∧Meth X.K C m g∧fs.lookup m=none ∧
   ∀s1,Inv X pins σ H1 s1→wpAny (model X.prog X.w) X.A (callWith pos (.ref g) [.ref a] (backTo pos (starEach args X.env)) (backToKw pos (keywordEach [] X.env))) Q X.xe s1)
  (ht:eval (.Call (.Attribute e m apos) args [] pos) X.env=(do
   let ov ← eval e X.env
   standAt apos.atName
   let (f,first) ← holding [ov] (getMethod ov m pl)
   callWith pos f first (backTo pos (starEach args X.env)) (backToKw pos (keywordEach [] X.env)))) :
  wpAny (model X.prog X.w) X.A (eval (.Call (.Attribute e m apos) args [] pos) X.env) Q X.xe s:=by
 refine PySem.W.methodCall_KW (pl:=pl) (thn (he pins s σ H _ I h) fun u s1 ⟨x,H1,I1,rx,a,C,dx,fs,g,ex,ea,c,k,l,q⟩=>?_) ht
 subst ex
 obtain rfl:u=Value.ref a:=rx
 exact lG I1 ea c k l (q s1 I1)
end
section
variable {X:Cx}{pins:List (Addr × Obj)}{σ:St}{H:Hp}{s:Shared}{A:Around}{E:Value→Shared→Prop}{Q:Value→Shared→Prop}{c:Value}{b:Bool}
inductive kX (K:PySem.W.Frag) (H:Hp):V→Value→Prop where
 | non:kX K H .non (.type "NoneType")
 | bl (x:Bool):kX K H (.bl x) (.type "bool")
 | int (i:Int):kX K H (.int i) (.type "int")
 | str (x:Str):kX K H (.str x) (.type "str")
 | flt (x:UInt64):kX K H (.flt x) (.type "float")
 | lst {a:Addr}{xs:List V} (e:H a=some (.lst xs)):kX K H (.ref a) (.type "list")
 | frz {a:Addr}{o:Obj}{xs:List V} (e:H a=some (.frz o (.lst xs))):kX K H (.ref a) (.type "list")
 | tup {a:Addr}{xs:List V} (e:H a=some (.tup xs)):kX K H (.ref a) (.type "tuple")
 | dK {a:Addr}{kvs:List (Key × V)} (e:H a=some (.dK kvs)):kX K H (.ref a) (.type "dict")
 | dT {a:Addr}{kvs:List (List Key × V)} (e:H a=some (.dT kvs)):kX K H (.ref a) (.type "dict")
 | ins {a C dx:Addr}{fs:List (Str × V)} (e:H a=some (.ins C dx fs)) (cl:Cls K C) (ha:PySem.W.findIn K (.ref C) "__class__" = some (some (.builtin "object.__class__")))
   (hn:PySem.W.specialIn K (.builtin "object.__class__") "__get__" = some (some (.builtin "getset_descriptor.__get__"))) (htk:PySem.W.takesIn K (.builtin "object.__class__")=some true)
   (hm:PySem.W.mroIn K C (.type "object")=some true):kX K H (.ref a) (.ref C)
theorem Ad {x:V}{u t:Value} (I:Inv X pins σ H s) (rx:RelV x u) (ty:kX X.K H x t) (e:PySem.W.kitOne X.K t c=some b) (h:∀tk,Q (.bool b) { s with toks:=tk }) :
  wpAny (model X.prog X.w) A (call (.builtin "isinstance") [u,c]) Q E s:=by
 cases ty with
 | non=>cases (show u=Value.none from rx);exact PySem.W.kia_one PySem.W.kitx_none I.kIn True.intro e (fun z=>nomatch z) h
 | bl y=>cases (show u=Value.bool y from rx);exact PySem.W.kia_one PySem.W.kitx_bool I.kIn True.intro e (fun z=>nomatch z) h
 | int i=>obtain ⟨t,q⟩:=(show ∃t,u=Value.int i t from rx);cases q;exact PySem.W.kia_one PySem.W.kitx_int I.kIn True.intro e (fun z=>nomatch z) h
 | str y=>obtain ⟨t,q⟩:=(show ∃t,u=Value.str y t from rx);cases q;exact PySem.W.kia_one PySem.W.kitx_str I.kIn True.intro e (fun z=>nomatch z) h
 | flt y=>obtain ⟨t,q⟩:=(show ∃t,u=Value.float y t from rx);cases q;exact PySem.W.kia_one PySem.W.kitx_float I.kIn True.intro e (fun z=>nomatch z) h
 | @lst a xs ea =>
  cases (show u=Value.ref a from rx)
  obtain ⟨_,_,n,_,h1⟩:=(show dD X.prog X.w H s.heap a (.lst xs) from I.hok a _ ea)
  exact PySem.W.kia_one PySem.W.kitx_list I.kIn ⟨_,h1,rfl⟩ e (fun z=>nomatch z) h
 | @frz a ob xs ea =>
  cases (show u=Value.ref a from rx)
  obtain ⟨_,_,_,n,_,h1⟩:=(show dD X.prog X.w H s.heap a (.frz ob (.lst xs)) from I.hok a _ ea)
  exact PySem.W.kia_one PySem.W.kitx_list I.kIn ⟨_,h1,rfl⟩ e (fun z=>nomatch z) h
 | @tup a xs ea =>
  cases (show u=Value.ref a from rx)
  obtain ⟨_,_,_,p⟩:=(show dD X.prog X.w H s.heap a (.tup xs) from I.hok a _ ea)
  obtain ⟨o,h1,h2,_⟩:=p
  exact PySem.W.kia_one PySem.W.kitx_tuple I.kIn ⟨o,h1,h2⟩ e (fun z=>nomatch z) h
 | @dK a kvs ea =>
  cases (show u=Value.ref a from rx)
  obtain ⟨_,_,vs,_,p⟩:=(show dD X.prog X.w H s.heap a (.dK kvs) from I.hok a _ ea)
  obtain ⟨o,es,ep,h1,h2,_⟩:=p
  exact PySem.W.kia_one PySem.W.kitx_dict I.kIn ⟨o,h1,h2.1⟩ e (fun z=>nomatch z) h
 | @dT a kvs ea =>
  cases (show u=Value.ref a from rx)
  obtain ⟨_,_,xs,_,o,es,ep,h1,h2,_⟩:=(show dD X.prog X.w H s.heap a (.dT kvs) from I.hok a _ ea)
  exact PySem.W.kia_one PySem.W.kitx_dict I.kIn ⟨o,h1,h2.1⟩ e (fun z=>nomatch z) h
 | @ins a C dx fs ea cl ha hn htk hm =>
  cases (show u=Value.ref a from rx)
  obtain ⟨mA,O,_⟩:=o9 I.hok ea
  obtain ⟨od,J,_⟩:=O.look
  exact PySem.W.kia_one (PySem.W.kitx_own (cl.get _) cl.hd ha hn htk hm) I.kIn J e (fun z=>nomatch z) h
end
end L2
namespace L2
open PySem PySem.Spec PyProof.Rows
structure hV (k:Nat) (A:Around):Prop where
 hd:A.handled=none
 dp:A.depth+3*k+5<recursionLimit
 un:A.units+16*k+200<cLine
theorem hV.mono {j k:Nat}{A:Around} (r:hV k A) (h:j≤k):hV j A:=⟨r.hd,by have:=r.dp;omega,by have:=r.un;omega⟩
theorem hV.deeper {k:Nat}{A:Around} (r:hV (k+1) A) (env:Env):hV k (A.deeper env) :=
 ⟨r.hd,by have:=r.dp;show A.depth+1+3*k+5<_;omega,by have:=r.un;show A.units+3+16*k+200<_;omega⟩
theorem wX {A:Around}{C:Addr}{us:List Value}{kw:List (Str × Value)}:(A.under (.builtin "type.__call__" ⟨.ref C::us,kw⟩)).depth=A.depth+1:=by
 first | rfl | simp [Around.under,Code.weight,Code.isCreation,Code.isGuard,Code.isCaller,Code.frames,Code.isFrame,guardIds]
theorem xm {A:Around}{C:Addr}{us:List Value}{kw:List (Str × Value)}:(A.under (.builtin "type.__call__" ⟨.ref C::us,kw⟩)).units=A.units+1:=by
 first | rfl | simp [Around.under,Code.cUnits,Code.frames,Code.isFrame]
theorem hV.make {k:Nat}{A:Around} (r:hV (k+1) A) (C:Addr) (us:List Value) (kw:List (Str × Value)):hV k (A.under (.builtin "type.__call__" ⟨.ref C::us,kw⟩)) :=
 ⟨r.hd,by have:=r.dp;rw[wX];omega,by have:=r.un;rw[xm];omega⟩
theorem hV.depth {k:Nat}{A:Around} (r:hV k A):A.depth<recursionLimit:=by have:=r.dp;omega
theorem hV.units {k:Nat}{A:Around} (r:hV k A):A.units+64<cLine:=by have:=r.un;omega
def lI:TA:=fun _ H Q=>Q [] H
def eZ (ta:TE) (tr:TA):TA:=fun σ H Q=>ta σ H fun x H1=>tr σ H1 fun xs H2=>Q (x::xs) H2
section
variable {X:Cx}{e:Expr}{es:List Expr}{te:TE}{t:TA}{pos:Pos}
theorem aj:PA X [] lI:=fun _ _ _ _ H Q I h=>Calls.spliced_nil ⟨[],H,I,.nil,h⟩
theorem af (ha:PE X e te) (hr:PA X es t) (hs:starEach (e::es) X.env=(false,eval e X.env)::starEach es X.env:=by rfl):PA X (e::es) (eZ te t):=by
 intro pos pins s σ H Q I h
 rw[hs]
 show wpAny _ _ (spliced ((false,eval e X.env)::backTo pos (starEach es X.env))) _ _ s
 refine Calls.spliced_cons (thn (ha pins s σ H _ I h) fun u s1 ⟨x,H1,I1,r1,q1⟩=>?_)
 exact thn (hr pos pins s1 σ H1 _ I1 q1) fun us s2 ⟨xs,H2,I2,r2,q2⟩=>⟨x::xs,H2,I2,.cons r1 r2,q2⟩
def Hw (t:TA):TE:=fun σ H Q=>t σ H fun xs H1=>xs.length≤sizeLine∧∀p,H1 p=none→Q (.ref p) (upd H1 p (.tup xs))
def Gg (t:TA):TE:=fun σ H Q=>t σ H fun xs H1=>xs.length≤sizeLine∧∀p,H1 p=none→Q (.ref p) (upd H1 p (.lst xs))
theorem nM {x1} (h:PA X es t):PE X (.Tuple es x1 pos) (Hw t):=by
 intro pins s σ H Q I hq
 refine wpAny_Tuple_spliced (thn (h pos pins s σ H _ I hq) fun us s1 ⟨xs,H1,I1,r,z,q⟩=>⟨by rw[← r.length];exact z,?_⟩)
 have hf:H1 s1.heap.objs.size=none:=I1.hok.fresh (Nat.le_refl _)
 refine⟨.ref s1.heap.objs.size,upd H1 s1.heap.objs.size (.tup xs),I1.laid (t':=s1.toks) (fun b u e=>Heap.get?_push_of_some _ e) (Nat.le_refl _) ?_,rfl,q _ hf⟩
 exact⟨z,us,r,⟨_,Heap.get?_push_size _ rfl,rfl,_,rfl⟩⟩
theorem bM (h:PA X es t):PE X (.List es pos) (Gg t):=by
 intro pins s σ H Q I hq
 refine wpAny_List_spliced (thn (h pos pins s σ H _ I hq) fun us s1 ⟨xs,H1,I1,r,z,q⟩=>⟨by rw[← r.length];exact z,?_⟩)
 have hf:H1 s1.heap.objs.size=none:=I1.hok.fresh (Nat.le_refl _)
 refine⟨.ref s1.heap.objs.size,upd H1 s1.heap.objs.size (.lst xs),I1.laid (t':=s1.toks) (fun b u e=>Heap.get?_push_of_some _ e) (Nat.le_refl _) ?_,rfl,q _ hf⟩
 exact⟨z,us,0,r,Heap.get?_push_size _ rfl⟩
end
abbrev Sp:=List V→Hp→VK→XK→Prop
abbrev CXT:=List Env→Hp→Shared→XK→Value→Shared→Prop
structure xF (P:Program) (w:World) (K:PySem.W.Frag) (mg:Str→Option Value) (base:Heap) (A:Around) (outer:List Env) (s:Shared) (H:Hp):Prop where
 frames:A.frames=some outer
 mod:Mod K mg base
 bs:∀b o,base.get? b=some o→s.heap.get? b=some o∧H b=none
 bsz:base.objs.size≤s.heap.objs.size
 nB:s.heap.FunFrames base outer
 frf:∀b∈frs outer,H b=none
 hok:HOk P w H s.heap
 bare:AllBare s.gens
def CE (outer:List Env) (P:Program) (w:World) (H:Hp) (s:Shared) (Q:VK) (u:Value) (s':Shared):Prop :=
 ∃v H',s'.os=s.os∧AllBare s'.gens∧Un (frs outer) [] H H' s.heap s'.heap∧HOk P w H' s'.heap∧RelV v u∧Q v H'
def CR (CX:CXT) (outer:List Env) (P:Program) (w:World) (H:Hp) (s:Shared) (Q:VK) (E:XK) (r:Result) (s':Shared):Prop :=
 match r with
 | .ok (.ret u)=>CE outer P w H s Q u s'
 | .ok _=>False
 | .error e=>CX outer H s E e s'
structure bc (P:Program) (w:World) (K:PySem.W.Frag) (mg:Str→Option Value) (base:Heap) (CX:CXT) (k:Nat) (f:Addr) (fd:FuncData) (ps:List Str) (sp:Sp):Prop where
 len:∀vs H Q E,sp vs H Q E→vs.length=ps.length
 run:∀(A:Around) (outer:List Env) (s:Shared) (H:Hp) (args:Args) (us:List Value) (vs:List V) (Q:VK) (E:XK),hV k A→xF P w K mg base A outer s H→BindsTo s fd args (ps.zip us)→Vals vs us→sp vs H Q E →
  codeAny (model P w) A (.call (.ref f) args) (CR CX outer P w H s Q E) s
theorem bc.mono {P:Program}{w:World}{K:PySem.W.Frag}{mg:Str→Option Value}{base:Heap}{CX:CXT}{j k:Nat}{f:Addr}{fd:FuncData}{ps:List Str}{sp:Sp} (F:bc P w K mg base CX j f fd ps sp) (h:j≤k) :
  bc P w K mg base CX k f fd ps sp:=⟨F.len,fun A outer s H args us vs Q E hr=>F.run A outer s H args us vs Q E (hr.mono h)⟩
theorem bc.imp {P:Program}{w:World}{K:PySem.W.Frag}{mg:Str→Option Value}{base:Heap}{CX:CXT}{k:Nat}{f:Addr}{fd:FuncData}{ps:List Str}{sp sp':Sp} (F:bc P w K mg base CX k f fd ps sp)
  (h:∀vs H Q E,sp' vs H Q E→sp vs H Q E):bc P w K mg base CX k f fd ps sp' :=
 ⟨fun vs H Q E q=>F.len vs H Q E (h _ _ _ _ q),fun A outer s H args us vs Q E hr he hb hv hs=>F.run A outer s H args us vs Q E hr he hb hv (h _ _ _ _ hs)⟩
theorem xF.make {P:Program}{w:World}{K:PySem.W.Frag}{mg:Str→Option Value}{base:Heap}{A:Around}{outer:List Env}{s:Shared}{H:Hp} (e:xF P w K mg base A outer s H) (C:Addr) (us:List Value) (kw:List (Str × Value)) :
  xF P w K mg base (A.under (.builtin "type.__call__" ⟨.ref C::us,kw⟩)) outer s H:=⟨by first | exact e.frames | (simpa [Around.under,Code.envs,Code.isFrame,pushEnvs] using e.frames),e.mod,e.bs,e.bsz,e.nB,e.frf,e.hok,e.bare⟩
section
variable {X:Cx}{pins:List (Addr × Obj)}{σ:St}{H:Hp}{s s':Shared}
theorem Inv.xQ (I:Inv X pins σ H s):xF X.prog X.w X.K X.mg X.base X.A X.stack s H :=
 ⟨I.ok.frames,I.ok.mod,I.bs,Nat.le_trans I.ok.bsz I.sz,I.stack,I.ue,I.hok,I.bare⟩
theorem Inv.after {Q:VK}{u:Value} (I:Inv X pins σ H s) (h:CE X.stack X.prog X.w H s Q u s'):EP X pins σ Q u s':=by
 obtain ⟨v,H',os,bare,un,hok,r,q⟩:=h
 obtain ⟨hh,g,d,t,os'⟩:=s'
 obtain rfl:os'=s.os:=os
 exact⟨v,H',I.call (h':=hh) (g':=g) (d':=d) (t':=t) (ch:=[]) un hok bare (fun b z=>absurd z (by simp)),r,q⟩
end
def rR (sp:Sp) (dvs:List V) (E:XK) (t:TA):TE:=fun σ H Q=>t σ H fun vs H1=>sp (vs++dvs) H1 Q E
def uV (C:Addr) (m:Str) (sp:Sp) (dvs:List V) (E:XK) (ta:TE) (t:TA):TE:=fun σ H Q=>ta σ H fun x H1=>∃a dx fs,x=.ref a∧H1 a=some (.ins C dx fs)∧fs.lookup m=none ∧
 t σ H1 fun vs H2=>sp (x::(vs++dvs)) H2 Q E
def Cg (C:Addr) (sp:Sp) (dvs:List V) (E:XK) (t:TA):TE:=fun σ H Q=>t σ H fun vs H1=>∀x dx,H1 x=none→H1 dx=none→dx≠x →
 sp (.ref x::(vs++dvs)) (upd (upd H1 dx (.own x)) x (.ins C dx [])) (fun v H2=>v=.non∧Q (.ref x) H2) E
def Binds (K:PySem.W.Frag) (fd:FuncData) (ps:List Str) (ds:List Value):Prop :=
 ∀(s:Shared) (us:List Value),K.In s.heap→(us++ds).length=ps.length→BindsTo s fd ⟨us,[]⟩ (ps.zip (us++ds))
theorem Binds.all {K:PySem.W.Frag}{fd:FuncData}{ps:List Str} (h:∀us:List Value,us.length=ps.length→bindArgs fd ⟨us,[]⟩=pure (ps.zip us)):Binds K fd ps []:=fun s us _ hl=>by
 rw[List.append_nil] at hl ⊢
 exact .of_eq (h us hl)
def Passes (CX:CXT) (X:Cx) (E:XK):Prop:=∀(pins:List (Addr × Obj)) (σ:St) (H:Hp) (s:Shared) (e:Value) (s':Shared),Inv X pins σ H s→CX X.stack H s E e s'→X.xe e s'
section
variable {X:Cx}{CX:CXT}{k:Nat}{f C:Addr}{fd:FuncData}{ps:List Str}{sp:Sp}{dvs:List V}{ds:List Value}{E:XK}{x m:Str}{p pos apos:Pos}{e o:Expr}{es:List Expr}{ta:TE}{t:TA}
theorem xl {pins:List (Addr × Obj)}{σ:St}{H:Hp}{s:Shared}{Q:VK}{us:List Value}{vs:List V} (F:bc X.prog X.w X.K X.mg X.base CX k f fd ps sp) (hr:hV k X.A) (hb:Binds X.K fd ps ds) (hd:Vals dvs ds) (hx:Passes CX X E)
  (I:Inv X pins σ H s) (r:Vals vs us) (h:sp (vs++dvs) H Q E):wpAny (model X.prog X.w) X.A (call (.ref f) us) (EP X pins σ Q) X.xe s:=by
 have r2:Vals (vs++dvs) (us++ds):=r.append hd
 have hl:(us++ds).length=ps.length:=by rw[← r2.length];exact F.len _ _ _ _ h
 refine wpAny_call (codeAny_mono (F.run X.A X.stack s H ⟨us,[]⟩ (us++ds) (vs++dvs) Q E hr I.xQ (hb s us I.kIn hl) r2 h) fun r s' hq=>?_)
 cases r with
 | error e=>exact hx pins σ H s e s' I hq
 | ok fl =>
  cases fl with
  | ret u=>exact I.after hq
  | next=>exact False.elim hq
  | brk=>exact False.elim hq
  | cont=>exact False.elim hq
theorem aR (F:bc X.prog X.w X.K X.mg X.base CX k f fd ps sp) (hr:hV k X.A) (hg:Gl X x) (hm:X.mg x=some (.ref f)) (hk:PySem.W.keepIn X.K (.ref f)=true) (hb:Binds X.K fd ps ds) (hd:Vals dvs ds) (hx:Passes CX X E)
  (ha:PA X (e::es) t) (hdb:(x == ("__debug__" : Str))=false:=by decide) (he:starEach (e::es) X.env=(false,eval e X.env)::starEach es X.env:=by rfl) (hpl:(backTo pos (starEach es X.env)).any (·.1)=false:=by rfl) :
  PE X (.Call (.Name x p) (e::es) [] pos) (rR sp dvs E t):=by
 intro pins s σ H Q I h
 refine wpAny_Call_Name_kw (tH I hg hm ?_ hdb)
 refine PySem.W.callWith_K (h₀:=X.base) I.ok.mod.kin hk (thn (ha pos pins s σ H _ I h) fun us s1 ⟨vs,H1,I1,r,q⟩=>⟨I1.kIn,?_⟩) he hpl
 exact xl F hr hb hd hx I1 r q
theorem yp {pl:Sem Bool} (he:PE X o ta) (c:Cls X.K C) (hm:Meth X.K C m f) (F:bc X.prog X.w X.K X.mg X.base CX k f fd ps sp) (hr:hV k X.A) (hb:Binds X.K fd ps ds) (hd:Vals dvs ds) (hx:Passes CX X E) (ha:PA X (e::es) t)
  (hst:starEach (e::es) X.env=(false,eval e X.env)::starEach es X.env:=by rfl) (hpl:(backTo pos (starEach es X.env)).any (·.1)=false:=by rfl)
  (ht:eval (.Call (.Attribute o m apos) (e::es) [] pos) X.env=(do
   let ov ← eval o X.env
   standAt apos.atName
   let (f,first) ← holding [ov] (getMethod ov m pl)
   callWith pos f first (backTo pos (starEach (e::es) X.env)) (backToKw pos (keywordEach [] X.env))):=by rfl) :
  PE X (.Call (.Attribute o m apos) (e::es) [] pos) (uV C m sp dvs E ta t):=by
 intro pins s σ H Q I h
 refine PySem.W.methodCall_KW (pl:=pl) (thn (he pins s σ H _ I h) fun u s1 ⟨x,H1,I1,rx,a,dx,fs,ex,ea,l,q⟩=>?_) ht
 subst ex
 obtain rfl:u=Value.ref a:=rx
 refine lG I1 ea c hm l ?_
 refine PySem.W.callWith_K (first:=[.ref a]) (h₀:=X.base) I.ok.mod.kin hm.kp (thn (ha pos pins s1 σ H1 _ I1 q) fun us s2 ⟨vs,H2,I2,r,q2⟩=>⟨I2.kIn,?_⟩) hst hpl
 exact xl (us:=.ref a::us) (vs:=.ref a::vs) F hr hb hd hx I2 (.cons rfl r) q2
theorem wt {pl:Sem Bool} (he:PE X o ta) (c:Cls X.K C) (hm:Meth X.K C m f) (F:bc X.prog X.w X.K X.mg X.base CX k f fd ps sp) (hr:hV k X.A) (hb:Binds X.K fd ps ds) (hd:Vals dvs ds) (hx:Passes CX X E)
  (ht:eval (.Call (.Attribute o m apos) [] [] pos) X.env=(do
   let ov ← eval o X.env
   standAt apos.atName
   let (f,first) ← holding [ov] (getMethod ov m pl)
   callWith pos f first (backTo pos (starEach [] X.env)) (backToKw pos (keywordEach [] X.env))):=by rfl) :
  PE X (.Call (.Attribute o m apos) [] [] pos) (uV C m sp dvs E ta lI):=by
 intro pins s σ H Q I h
 refine PySem.W.methodCall_KW (pl:=pl) (thn (he pins s σ H _ I h) fun u s1 ⟨x,H1,I1,rx,a,dx,fs,ex,ea,l,q⟩=>?_) ht
 subst ex
 obtain rfl:u=Value.ref a:=rx
 refine lG I1 ea c hm l ?_
 exact PySem.W.callWith_K0 (first:=[.ref a]) I1.kIn hm.kp (xl (us:=[.ref a]) (vs:=[.ref a]) F hr hb hd hx I1 (.cons rfl .nil) q)
structure Mk (K:PySem.W.Frag) (C f:Addr):Prop where
 makes:PySem.W.makesIn K C=true
 init:PySem.W.findIn K (.ref C) "__init__" = some (some (.ref f))
 fn:PySem.W.isFn K (.ref f)=true
 kp:PySem.W.keepIn K (.ref C)=true
theorem CK {pins:List (Addr × Obj)}{σ:St}{H:Hp}{s:Shared}{Q:VK}{us:List Value}{vs:List V} (M:Mk X.K C f) (F:bc X.prog X.w X.K X.mg X.base CX k f fd ps sp) (hr:hV (k+1) X.A) (hb:Binds X.K fd ps ds) (hd:Vals dvs ds)
  (hx:Passes CX X E) (I:Inv X pins σ H s) (r:Vals vs us)
  (h:∀x dx,H x=none→H dx=none→dx≠x→sp (.ref x::(vs++dvs)) (upd (upd H dx (.own x)) x (.ins C dx [])) (fun v H2=>v=.non∧Q (.ref x) H2) E) :
  wpAny (model X.prog X.w) X.A (call (.ref C) us) (EP X pins σ Q) X.xe s:=by
 have hq:=h (s.heap.objs.size+1) s.heap.objs.size (I.hok.fresh (Nat.le_succ _)) (I.hok.fresh (Nat.le_refl _)) (Nat.ne_of_lt (Nat.lt_succ_self _))
 have I2:=Inv.made (C:=C) I
 have r2:Vals (V.ref (s.heap.objs.size+1)::(vs++dvs)) (Value.ref (s.heap.objs.size+1)::(us++ds)):=.cons rfl (r.append hd)
 have hl:(Value.ref (s.heap.objs.size+1)::us++ds).length=ps.length:=by
  have e:=r2.length
  rw[F.len _ _ _ _ hq] at e
  exact e.symm
 refine wpAny_call (AA (f:=f) I.kIn M.makes M.init (beq_iff_eq.mp M.fn) (codeAny_mono (F.run _ X.stack _ _ ⟨Value.ref (s.heap.objs.size+1)::us,[]⟩ (Value.ref (s.heap.objs.size+1)::(us++ds)) _ _ E (hr.make C us [])
  (I2.xQ.make C us []) (hb _ (Value.ref (s.heap.objs.size+1)::us) I2.kIn hl) r2 hq) fun r s' hq'=>?_))
 cases r with
 | error e=>exact hx pins σ _ _ e s' I2 hq'
 | ok fl =>
  cases fl with
  | ret u =>
   obtain ⟨v,H',I3,rv,ev,q3⟩:=I2.after hq'
   subst ev
   exact⟨rv,⟨V.ref (s.heap.objs.size+1),H',I3,rfl,q3⟩⟩
  | next=>exact False.elim hq'
  | brk=>exact False.elim hq'
  | cont=>exact False.elim hq'
theorem yh (M:Mk X.K C f) (F:bc X.prog X.w X.K X.mg X.base CX k f fd ps sp) (hr:hV (k+1) X.A) (hg:Gl X x) (hm:X.mg x=some (.ref C)) (hb:Binds X.K fd ps ds) (hd:Vals dvs ds) (hx:Passes CX X E)
  (ha:PA X (e::es) t) (hdb:(x == ("__debug__" : Str))=false:=by decide) (he:starEach (e::es) X.env=(false,eval e X.env)::starEach es X.env:=by rfl) (hpl:(backTo pos (starEach es X.env)).any (·.1)=false:=by rfl) :
  PE X (.Call (.Name x p) (e::es) [] pos) (Cg C sp dvs E t):=by
 intro pins s σ H Q I h
 refine wpAny_Call_Name_kw (tH I hg hm ?_ hdb)
 refine PySem.W.callWith_K (h₀:=X.base) I.ok.mod.kin M.kp (thn (ha pos pins s σ H _ I h) fun us s1 ⟨vs,H1,I1,r,q⟩=>⟨I1.kIn,?_⟩) he hpl
 exact CK M F hr hb hd hx I1 r q
end
section
variable {X:Cx}{CX:CXT}{k:Nat}{f C:Addr}{fd:FuncData}{ps ks:List Str}{sp:Sp}{E:XK}{x m:Str}{p pos apos kpos:Pos}{e o:Expr}{es:List Expr}{kws:List Keyword}{te ta:TE}{t tk:TA}{nm:Option Str}
variable {g:List Value→List Value→List Value}{gV:List V→List V→List V}
end
structure bb (N P:List Str) (sc:Scope):Prop where
 kind:sc.kind=.function
 co:sc.isCoroutine=false
 gen:sc.isGenerator=false
 nd:N.Nodup
 pre:N.take P.length=P
 par:∀x∈P,sc.names.lookup x=some .local∨sc.names.lookup x=some .cell
 nofree:∀y∈sc.names,y.2≠.free
theorem sC {kindOf:Str→Option NameKind}{x:Str}:∀{binds:List (Str × Value)}{m:Str→Option Value},(∀v,(x,v)∉binds)→bindL kindOf binds m x=m x
 | [],_,_=>rfl
 | (n,v)::r,m,h=>by
  unfold bindL
  rw[sC fun w hw=>h w (List.mem_cons_of_mem _ hw)]
  split
  ·have:x≠n:=by rintro rfl;exact h v List.mem_cons_self
   simp [this]
  ·rfl
theorem rY {kindOf:Str→Option NameKind}{x:Str}:∀{binds:List (Str × Value)}{m:Str→Option Value},(∀v,(x,v)∉binds)→bindC kindOf binds m x=m x
 | [],_,_=>rfl
 | (n,v)::r,m,h=>by
  unfold bindC
  rw[rY fun w hw=>h w (List.mem_cons_of_mem _ hw)]
  split
  ·rfl
  ·have:x≠n:=by rintro rfl;exact h v List.mem_cons_self
   simp [this]
theorem sX {kindOf:Str→Option NameKind}{x:Str}{v:Value}:∀{P:List Str}{vs:List Value}{i:Nat}{m:Str→Option Value},P.Nodup→P[i]?=some x→vs[i]?=some v→kindOf x=some .local →
  bindL kindOf (P.zip vs) m x=some v
 | [],_,_,_,_,h,_,_=>by simp at h
 | _::_,[],_,_,_,_,h,_=>by simp at h
 | p::P,w::vs,0,m,nd,h1,h2,hk=>by
  simp at h1 h2;subst h1;subst h2
  show bindL kindOf ((p,w)::P.zip vs) m p=_
  unfold bindL
  rw[sC fun v hv=>(List.nodup_cons.mp nd).1 (List.of_mem_zip hv).1,if_pos hk]
  simp
 | p::P,w::vs,i+1,m,nd,h1,h2,hk=>by
  show bindL kindOf ((p,w)::P.zip vs) m x=_
  unfold bindL
  exact sX (i:=i) (List.nodup_cons.mp nd).2 (by simpa using h1) (by simpa using h2) hk
theorem tj {kindOf:Str→Option NameKind}{x:Str}{v:Value}:∀{P:List Str}{vs:List Value}{i:Nat}{m:Str→Option Value},P.Nodup→P[i]?=some x→vs[i]?=some v→kindOf x≠some .local →
  bindC kindOf (P.zip vs) m x=some v
 | [],_,_,_,_,h,_,_=>by simp at h
 | _::_,[],_,_,_,_,h,_=>by simp at h
 | p::P,w::vs,0,m,nd,h1,h2,hk=>by
  simp at h1 h2;subst h1;subst h2
  show bindC kindOf ((p,w)::P.zip vs) m p=_
  unfold bindC
  rw[rY fun v hv=>(List.nodup_cons.mp nd).1 (List.of_mem_zip hv).1,if_neg hk]
  simp
 | p::P,w::vs,i+1,m,nd,h1,h2,hk=>by
  show bindC kindOf ((p,w)::P.zip vs) m x=_
  unfold bindC
  exact tj (i:=i) (List.nodup_cons.mp nd).2 (by simpa using h1) (by simpa using h2) hk
def start (N:List Str) (vs:List V):St:=vs.map some++List.replicate (N.length - vs.length) none
def nF (CX:CXT) (P:Program) (w:World) (K:PySem.W.Frag) (mg:Str→Option Value) (base:Heap) (N:List Str) (qual:Str) (scope:Scope) (f:Addr) (cd:Value) (A:Around) (outer:List Env) (s:Shared) (H:Hp) (E:XK):Cx where
 prog:=P
 w:=w
 K:=K
 mg:=mg
 base:=base
 A:=A.deeper (envOfC qual scope s.heap.objs.size f cd)
 N:=N
 s₀:=s
 H₀:=H
 env:=envOfC qual scope s.heap.objs.size f cd
 outer:=outer
 stack:=envOfC qual scope s.heap.objs.size f cd::outer
 ex:=[]
 calm:=true
 fn:=fun _=>true
 pn:=[]
 xe:=fun e s'=>wpAny (model P w) (A.deeper (envOfC qual scope s.heap.objs.size f cd)) (leaving (envOfC qual scope s.heap.objs.size f cd) e) (fun _ s''=>CX outer H s E e s'') (fun e' s''=>CX outer H s E e' s'') s'
theorem vv {sc:Scope}{n:Nat}{x:Str} (h:sc.names.lookup x=some .cell):∃c,(cellsFrom n sc.names []).lookup x=some c:=by
 have q:=PySem.W.cellsFrom_some sc.names n [] (.inl h)
 exact Option.isSome_iff_exists.mp q
theorem zU {CX:CXT}{P:Program}{w:World}{K:PySem.W.Frag}{mg:Str→Option Value}{base:Heap}{N ps:List Str}{qual:Str}{scope:Scope}{f:Addr}{cd:Value}{A:Around}{outer:List Env}{s s1:Shared}{H:Hp}{E:XK}{us:List Value}{vs:List V}
  (S:bb N ps scope) (hd:A.handled=none) (e0:xF P w K mg base A outer s H) (hl:vs.length=ps.length) (r:Vals vs us)
  (x:InCallC s s.heap.objs.size (bindL (envOfC qual scope s.heap.objs.size f cd).kindOf (ps.zip us) fun _=>none) (cellsFrom (s.heap.objs.size+1) scope.names []) (bindC (envOfC qual scope s.heap.objs.size f cd).kindOf (ps.zip us) fun _=>none) s1) :
  Inv (nF CX P w K mg base N qual scope f cd A outer s H E) [] (start N vs) H s1:=by
 have hpl:ps.length≤N.length:=by have:=congrArg List.length S.pre;rw[List.length_take] at this;omega
 obtain ⟨h1,tk,rfl,hk⟩:=x.done
 have noA:∀b:Addr,b∉(nF CX P w K mg base N qual scope f cd A outer s H E).ex:=fun b z=>absurd (show b∈([]:List Addr) from z) (by simp)
 refine⟨⟨e0.mod,S.kind,rfl,rfl,Nat.le_refl _,fun y z c h1 h2=>?_,fun y hy=>?_,fun y c _ h=>?_,fun _=>hd,Around.frames_deeper e0.frames,.inr ⟨rfl,rfl⟩,fun b z=>absurd z (noA b),e0.bs,e0.bsz,fun b _ _=>noA b,fun b z=>absurd z (noA b),e0.nB,e0.frf⟩,
  rfl,e0.bare,Un.kept hk,⟨_,x.toInCall.ns,fun i y v h1 h2 h3=>?_⟩,fun y c h=>⟨_,x.cell y c h⟩,e0.hok.fresh (Nat.le_refl _),fun y c h=>?_,fun p hp=>absurd (show p∈([]:List (Addr × Obj)) from hp) (by simp),e0.hok.kept hk,?_⟩
 ·exact name_of_addr x.apart (PySem.mem_of_lookup h1) (PySem.mem_of_lookup h2)
 ·have hy:scope.names.lookup y=some .cell∨scope.names.lookup y=some .free:=hy
  rcases hy with hy | hy
  ·exact vv hy
  ·exact absurd rfl (S.nofree _ (PySem.mem_of_lookup hy))
 ·exact Nat.le_of_lt (x.above y c (PySem.mem_of_lookup h))
 ·have hi:i<vs.length:=by
   unfold start at h2
   by_cases hi:i<vs.length
   ·exact hi
   ·rw[List.getElem?_append_right (by simpa using hi)] at h2
    rw[List.getElem?_replicate] at h2
    split at h2<;>cases h2
  have ha:vs[i]?=some v:=by
   unfold start at h2
   rw[List.getElem?_append_left (by simpa using hi),List.getElem?_map] at h2
   cases e:vs[i]? with
   | none=>rw[e] at h2;cases h2
   | some a=>rw[e] at h2;cases h2;rfl
  obtain ⟨u,hu,rv⟩:=r.get ha
  have hp:ps[i]?=some y:=by
   rw[← S.pre,List.getElem?_take_of_lt (by omega)];exact h1
  have ndP:ps.Nodup:=by rw[← S.pre];exact S.nd.sublist (List.take_sublist _ _)
  refine⟨u,rv,?_⟩
  rcases S.par y (List.mem_of_getElem? hp) with k | k
  ·exact .inl ⟨k,sX ndP hp hu k⟩
  ·obtain ⟨c,e⟩:=vv (n:=s.heap.objs.size+1) k
   refine .inr ⟨.inl k,c,e,?_⟩
   have q:=x.cell y c e
   rw[tj ndP hp hu (by show scope.names.lookup y≠_;rw[k];decide)] at q
   exact q
 ·exact e0.hok.fresh (Nat.le_of_lt (x.above y c (PySem.mem_of_lookup h)))
 ·unfold start
  show _=N.length
  rw[List.length_append,List.length_map,List.length_replicate]
  omega
theorem Ey {CX:CXT}{P:Program}{w:World}{K:PySem.W.Frag}{mg:Str→Option Value}{base:Heap}{k:Nat}{f:Addr}{name qual:Str}{params:Arguments}{body:List Stmt}{scope:Scope}{dV kV doc pm cdv ct oc:Value}{an od:Option Addr}
  {osl:Array (Option Value)}{N ps:List Str}{sp:Sp} (lk:K.lookup f=some ⟨oc,od,.func (PySem.W.fnOf name qual params body scope dV kV doc pm an cdv ct),osl⟩) (hcd:PySem.W.codeIn K cdv qual=true) (S:bb N ps scope)
  (len:∀vs H Q E,sp vs H Q E→vs.length=ps.length)
  (hbody:∀(A:Around) (outer:List Env) (s:Shared) (H:Hp) (vs:List V) (Q:VK) (E:XK),hV k (A.deeper (envOfC qual scope s.heap.objs.size f cdv))→sp vs H Q E →
   ∃t,PSs (nF CX P w K mg base N qual scope f cdv A outer s H E) body t∧t { nx:=fun _ H'=>Q .non H',rt:=Q } (start N vs) H) :
  bc P w K mg base CX (k+1) f (PySem.W.fnOf name qual params body scope dV kV doc pm an cdv ct) ps sp:=by
 refine⟨len,fun A outer s H args us vs Q E hr e0 hb r hsp=>?_⟩
 have hl:=len _ _ _ _ hsp
 have KX:K.In s.heap:=e0.mod.kin.keeps fun b o e=>(e0.bs b o e).1
 have lim:s.heap.NoLimit:=e0.mod.nolimit.keeps fun b o e=>(e0.bs b o e).1
 have hkind:∀y∈ps.zip us,scope.names.lookup y.1=some .local∨(scope.names.lookup y.1=some .cell∧((cellsFrom (s.heap.objs.size+1) scope.names []).lookup y.1).isSome=true):=fun ⟨n,v⟩ hy=>by
  rcases S.par n (List.of_mem_zip hy).1 with q | q
  ·exact .inl q
  ·exact .inr ⟨q,PySem.W.cellsFrom_some _ _ _ (.inl q)⟩
 refine codeAny_call_function hr.depth (KX _ _ lk) rfl S.co S.gen rfl (PySem.W.codeRec_of KX hcd) (hb _ _ _ _ ?_)
 refine wpAny_newFunctionEnv_cells S.kind hkind fun env he s1 x=>?_
 subst he
 refine⟨lim.keeps x.toInCall.keep,codeAny_func ?_⟩
 obtain ⟨t,ht,hq⟩:=hbody A outer s H vs Q E (hr.deeper _) hsp
 have I:Inv (nF CX P w K mg base N qual scope f cdv A outer s H E) [] (start N vs) H s1:=zU S hr.hd e0 hl r x
 refine wpAny_mono (ht [] s1 (start N vs) H _ I hq) (fun fl s' hs=>?_) fun e s' hs=>hs
 have fin:∀{σ':St}{H':Hp}{v:V}{u:Value},Inv (nF CX P w K mg base N qual scope f cdv A outer s H E) [] σ' H' s'→RelV v u→Q v H'→CE outer P w H s Q u s' :=
  fun {σ' H' v u} J rv q=>⟨v,H',J.os,J.bare,J.base,J.hok,rv,q⟩
 cases fl with
 | ret u =>
  obtain ⟨v,σ',H',J,rv,q⟩:=hs
  exact fin J rv q
 | next =>
  obtain ⟨σ',H',J,q⟩:=hs
  exact fin (v:=V.non) (u:=Value.none) J rfl q
 | brk =>
  obtain ⟨_,_,_,q⟩:=hs
  exact False.elim q
 | cont =>
  obtain ⟨_,_,_,q⟩:=hs
  exact False.elim q
end L2
namespace L2
open PySem PySem.Spec PyProof.Rows
section
variable {X:Cx}{x:Str}{p pos:Pos}{e:Expr}{es:List Expr}{t:TA}{id T:String}{r:List V→Hp→VK→Prop}
def tCB (r:List V→Hp→VK→Prop) (t:TA):TE:=fun σ H Q=>t σ H fun vs H1=>r vs H1 Q
theorem aB (hc:iK X (.builtin id) r) (hg:Gl X x) (hm:X.mg x=none) (hv:bootBuiltins x=some (.builtin id)) (ha:PA X (e::es) t) (hn:x≠"__name__":=by decide) (hdb:(x == ("__debug__" : Str))=false:=by decide)
  (he:starEach (e::es) X.env=(false,eval e X.env)::starEach es X.env:=by rfl) (hpl:(backTo pos (starEach es X.env)).any (·.1)=false:=by rfl):PE X (.Call (.Name x p) (e::es) [] pos) (tCB r t):=by
 intro pins s σ H Q I h
 refine wpAny_Call_Name_kw (nj I hg hm hv ?_ hn hdb)
 exact PyProof.Rows.callWith_builtin1 (thn (ha pos pins s σ H _ I h) fun us s1 ⟨vs,H1,I1,r1,q1⟩=>hc pins s1 σ H1 vs us Q I1 r1 q1) he hpl
theorem gL (hc:iK X (.type T) r) (hg:Gl X x) (hm:X.mg x=none) (hv:bootBuiltins x=some (.type T)) (ha:PA X (e::es) t) (hn:x≠"__name__":=by decide) (hdb:(x == ("__debug__" : Str))=false:=by decide)
  (he:starEach (e::es) X.env=(false,eval e X.env)::starEach es X.env:=by rfl) (hpl:(backTo pos (starEach es X.env)).any (·.1)=false:=by rfl):PE X (.Call (.Name x p) (e::es) [] pos) (tCB r t):=by
 intro pins s σ H Q I h
 refine wpAny_Call_Name_kw (nj I hg hm hv ?_ hn hdb)
 exact PyProof.Rows.callWith_type1 (thn (ha pos pins s σ H _ I h) fun us s1 ⟨vs,H1,I1,r1,q1⟩=>hc pins s1 σ H1 vs us Q I1 r1 q1) he hpl
end
end L2
namespace HT
open PySem PyProof.Rows
section
open PySem.SeqAt
open PySem.AutoSeq1 (wpAny_loadPart')
open PySem.MeetsSeq PySem.MeetsSeq2 PySem.MeetsSeq3
end
section
variable {prog:Program}{w:World}{A:Around}{E:Value→Shared→Prop}{s:Shared}
def sIx (n d:Nat):Option Int→Nat
 | none=>d
 | some v=>if v<0 then (v+(n:Int)).toNat else min v.toNat n
theorem me (n d:Nat):sIx n d none=d:=rfl
theorem jP (n d k:Nat):sIx n d (some (k:Int))=min k n:=by
 show (if (k:Int)<0 then ((k:Int)+(n:Int)).toNat else min (k:Int).toNat n)=min k n
 rw[if_neg (by omega),Int.toNat_natCast]
theorem FP (n d:Nat) (hd:d≤n) (o:Option Int):sIx n d o≤n:=by
 cases o with
 | none=>exact hd
 | some v =>
  show (if v<0 then (v+(n:Int)).toNat else min v.toNat n)≤n
  by_cases hv:v<0
  ·rw[if_pos hv];omega
  ·rw[if_neg hv];exact Nat.min_le_right _ _
theorem yB (v:Int) (n d:Nat):(if v<0 then max (v+(n:Int)) 0 else min v (n:Int))=((sIx n d (some v):Nat):Int):=by
 show (if v<0 then max (v+(n:Int)) 0 else min v (n:Int))=(((if v<0 then (v+(n:Int)).toNat else min v.toNat n):Nat):Int)
 by_cases hv:v<0
 ·simp only[if_pos hv];omega
 ·simp only[if_neg hv];omega
theorem wN (lo hi:Option Int) (n:Nat):Builtin.Slice.sliceAdjust lo hi 1 (n:Int)=(((sIx n 0 lo:Nat):Int),((sIx n n hi:Nat):Int)):=by
 have h1:¬ ((1:Int)<0):=by omega
 unfold Builtin.Slice.sliceAdjust
 simp only[h1,if_false]
 refine Prod.ext ?_ ?_
 ·cases lo with
  | none=>rfl
  | some v=>exact yB v n 0
 ·cases hi with
  | none=>rfl
  | some v=>exact yB v n n
theorem w8 (i j:Nat):Builtin.Slice.slicePlaces (i:Int) (j:Int) 1=j - i:=by
 unfold Builtin.Slice.slicePlaces
 have h1:(1:Int)>0:=by omega
 simp only[h1,if_true,Int.ediv_one]
 split<;>omega
theorem pG {v:Value}{o:Option Int}{Q:Option Int→Shared→Prop} (p:IsPart v o) (h:Q o s):wpAny (model prog w) A (Builtin.Slice.slicePartIndex v) Q E s:=by
 cases p with
 | none=>exact slicePart_none h
 | int i t=>exact slicePart_int h
theorem m6 {sl:Addr}{vl vu:Value}{lo hi:Option Int}{n:Nat}{Q:Int × Int × Nat→Shared→Prop} (hs:s.heap.IsSliceOf sl vl vu .none) (pl:IsPart vl lo) (pu:IsPart vu hi)
  (h:Q (((sIx n 0 lo:Nat):Int),1,sIx n n hi - sIx n 0 lo) s):wpAny (model prog w) A (Builtin.Slice.sliceApplied (.ref sl) (pure (n:Int))) Q E s:=by
 obtain ⟨os,hos,hcs,hds⟩:=id hs
 unfold Builtin.Slice.sliceApplied Builtin.Slice.sliceFields
 refine wpAny_bind (wpAny_bind (wpAny_field hos hds (x:=vl) rfl (wpAny_bind (wpAny_field hos hds (x:=vu) rfl (wpAny_bind (wpAny_field hos hds (x:=.none) rfl (wpAny_pure ?_)))))))
 refine wpAny_bind (slicePart_none ?_)
 show wpAny _ _ (if ((1:Int) == 0)=true then _ else _) _ _ s
 rw[if_neg (by decide)]
 refine wpAny_bind (pG pl (wpAny_bind (pG pu (wpAny_bind (wpAny_pure ?_)))))
 show wpAny _ _ (match Builtin.Slice.sliceAdjust lo hi 1 (n:Int) with | (lo,hi)=>pure (lo,(1:Int),Builtin.Slice.slicePlaces lo hi 1)) _ _ s
 rw[wN lo hi n]
 show wpAny _ _ (pure (((sIx n 0 lo:Nat):Int),(1:Int),Builtin.Slice.slicePlaces ((sIx n 0 lo:Nat):Int) ((sIx n n hi:Nat):Int) 1)) _ _ s
 rw[w8]
 exact wpAny_pure h
theorem BH (xs:Array Value) (i k:Nat):((List.range k).filterMap fun (m:Nat)=>xs[((i:Int)+(m:Int)*1).toNat]?).toArray=((xs.toList.drop i).take k).toArray:=by
 have e:(fun (m:Nat)=>xs[((i:Int)+(m:Int)*1).toNat]?)=fun m=>xs[i+m]?:=by
  funext m
  have:((i:Int)+(m:Int)*1).toNat=i+m:=by omega
  rw[this]
 rw[e]
 have:=pick_run xs i k
 rw[List.filterMap_map] at this
 have e2:((fun x=>xs[x]?) ∘ fun x=>i+x)=fun m=>xs[i+m]?:=rfl
 rw[e2] at this
 rw[this]
theorem mw {t sl:Addr}{items:Array Value}{vl vu:Value}{lo hi:Option Int}{Q:Value→Shared→Prop} (ht:IsTup s.heap t items) (hs:s.heap.IsSliceOf sl vl vu .none) (pl:IsPart vl lo) (pu:IsPart vu hi)
  (hw:¬ (sIx items.size 0 lo=0∧sIx items.size items.size hi=items.size))
  (h:Q (.ref s.heap.objs.size) { s with heap:=s.heap.push { cls:=.type "tuple",data:=.seq ((items.toList.drop (sIx items.size 0 lo)).take (sIx items.size items.size hi - sIx items.size 0 lo)).toArray } })
  (hsz:items.size≤sizeLine):wpAny (model prog w) A (getItem (.ref t) (.ref sl)) Q E s:=by
 have htake:sizeOk (.seq ((items.toList.drop (sIx items.size 0 lo)).take (sIx items.size items.size hi - sIx items.size 0 lo)).toArray):=by
  show ((items.toList.drop (sIx items.size 0 lo)).take (sIx items.size items.size hi - sIx items.size 0 lo)).toArray.size≤sizeLine
  rw[List.size_toArray,List.length_take,List.length_drop,Array.length_toList]
  omega
 have hj:sIx items.size items.size hi≤items.size:=FP _ _ (Nat.le_refl _) hi
 obtain ⟨os,hos,hcs,hds⟩:=id hs
 have hTs:s.TypeIs (.ref sl) "slice":=⟨os,hos,hcs⟩
 unfold getItem
 try with_reducible refine wpAny_holding ?_
 first | refine wpAny_bind (wpAny_pure ?_) | skip
 refine wpAny_bind (wpAny_sequenceKey ht.typeIs (by decide) ?_)
 refine wpAny_bind (wpAny_callSpecial?_slot (name:=Str.ofString "__getitem__") ht.typeIs PyProof.Rows.slot_tuple_getitem
  (wpAny_call_entry PyProof.Rows.slot_tuple_getitem ht.typeIs entry_tuple_getitem ?_ (args_tuple_getitem _ _)))
 show wpAny _ _ (Builtin.Tuple.tupleItemsOf (.ref t) >>= _) _ _ s
 refine wpAny_bind (tupleItemsOf_ ht ?_)
 refine wpAny_bind (wpAny_typeOf hTs ?_)
 rw[if_pos (by decide)]
 refine wpAny_bind (m6 hs pl pu ?_)
 have hno:¬ ((((sIx items.size 0 lo:Nat):Int) == 0 && (1:Int) == 1 && (sIx items.size items.size hi - sIx items.size 0 lo) == items.size)=true):=by
  intro q
  rw[Bool.and_eq_true,Bool.and_eq_true] at q
  have q1:((sIx items.size 0 lo:Nat):Int)=0:=eq_of_beq q.1.1
  have q2:sIx items.size items.size hi - sIx items.size 0 lo=items.size:=eq_of_beq q.2
  exact hw ⟨by omega,by omega⟩
 show wpAny _ _ (if (((sIx items.size 0 lo:Nat):Int) == 0 && (1:Int) == 1 && (sIx items.size items.size hi - sIx items.size 0 lo) == items.size)=true then _ else _) _ _ s
 rw[if_neg hno,BH]
 first
  | exact wpAny_bind (m:=Builtin.Tuple.tupleExact _) (wpAny_newObj_type (wpAny_pure ⟨_,rfl,wpAny_pure h⟩) htake)
  | exact wpAny_bind (m:=Builtin.Tuple.tupleExact _) (wpAny_newObj_type (wpAny_bind (wpAny_pure (wpAny_pure ⟨_,rfl,wpAny_pure h⟩))) htake)
  | exact wpAny_bind (wpAny_bind (m:=Builtin.Tuple.tupleExact _) (wpAny_newObj_type (wpAny_pure (wpAny_pure ⟨_,rfl,wpAny_pure h⟩)) htake))
  | exact wpAny_bind (wpAny_bind (m:=Builtin.Tuple.tupleExact _) (wpAny_newObj_type (wpAny_pure ⟨_,rfl,wpAny_pure h⟩) htake))
end
end HT
namespace L2
open PySem PySem.Spec PyProof.Rows
abbrev TO:=St→Hp→(Option Int→Hp→Prop)→Prop
def PO (X:Cx) (e:Option Expr) (t:TO):Prop :=
 ∀(pins:List (Addr × Obj)) (s:Shared) (σ:St) (H:Hp) (Q:Option Int→Hp→Prop),Inv X pins σ H s→t σ H Q →
  wpAny (model X.prog X.w) X.A (evalPart e X.env) (fun u s'=>∃o H',Inv X pins σ H' s'∧IsPart u o∧Q o H') X.xe s
def tK:TO:=fun _ H Q=>Q none H
def Bs (t:TE):TO:=fun σ H Q=>t σ H fun x H1=>∃i,x=.int i∧Q (some i) H1
section
variable {X:Cx}{e:Expr}{te:TE}{lo hi:Option Expr}{tl th:TO}{pos p2:Pos}
theorem kO:PO X none tK:=by
 intro pins s σ H Q I h
 rw[evalPart_none]
 exact wpAny_pure ⟨none,H,I,.none,h⟩
theorem ja (h:PE X e te):PO X (some e) (Bs te):=by
 intro pins s σ H Q I hw
 rw[evalPart_some]
 refine thn (h pins s σ H _ I hw) fun u s1 ⟨x,H1,I1,r1,q1⟩=>?_
 obtain ⟨i,rfl,q⟩:=q1
 obtain ⟨t,rfl⟩:=r1
 exact⟨some i,H1,I1,.int i t,q⟩
def SlR (X:Cx) (r:V→Option Int→Option Int→Hp→VK→Prop):Prop :=
 ∀(pins:List (Addr × Obj)) (s:Shared) (σ:St) (H:Hp) (x:V) (v vl vu:Value) (lo hi:Option Int) (sl:Addr) (Q:VK),Inv X pins σ H s→RelV x v→s.heap.IsSliceOf sl vl vu .none→IsPart vl lo→IsPart vu hi→r x lo hi H Q →
  ∃T id,typeLookup (.type T) "__getitem__" = pure (some (.builtin id))∧s.TypeIs v T∧wpAny (model X.prog X.w) X.A (getItem v (.ref sl)) (EP X pins σ Q) X.xe s
def tSl (r:V→Option Int→Option Int→Hp→VK→Prop) (te:TE) (tl th:TO):TE:=fun σ H Q=>te σ H fun x H1=>tl σ H1 fun l H2=>th σ H2 fun u H3=>r x l u H3 Q
theorem iO {r:V→Option Int→Option Int→Hp→VK→Prop} (hr:SlR X r) (he:PE X e te) (hl:PO X lo tl) (hu:PO X hi th):PE X (.Subscript e (.Slice lo hi none p2) pos) (tSl r te tl th):=by
 intro pins s σ H Q I h
 refine Subscript_ (thn (he pins s σ H _ I h) fun v s1 ⟨x,H1,I1,r1,q1⟩=>?_)
 refine wpAny_Slice (thn (hl pins s1 σ H1 _ I1 q1) fun vl s2 ⟨l,H2,I2,pl,q2⟩=>thn (hu pins s2 σ H2 _ I2 q2) fun vu s3 ⟨u,H3,I3,pu,q3⟩=>?_)
 rw[evalPart_none]
 refine wpAny_pure ?_
 have I4:Inv X pins σ H3 { s3 with heap:=s3.heap.push { cls:=.type "slice",data:=.fields #[vl,vu,.none] } }:=I3.kept (t':=s3.toks) fun b ob q=>Heap.get?_push_of_some _ q
 obtain ⟨T,id,hT,ht,hg⟩:=hr pins { s3 with heap:=s3.heap.push { cls:=.type "slice",data:=.fields #[vl,vu,.none] } } σ H3 x v vl vu l u s3.heap.objs.size Q I4 r1 (Heap.IsSliceOf.new ..) pl pu q3
 show wpAny (model X.prog X.w) X.A (subscriptTail e (.Slice lo hi none p2) v (.ref s3.heap.objs.size)) (EP X pins σ Q) X.xe { s3 with heap:=s3.heap.push { cls:=.type "slice",data:=.fields #[vl,vu,.none] } }
 exact tail_any (ops:=[.ref s3.heap.objs.size,v]) ht hT hg (by with_unfolding_all rfl)
def qS (xs:List V) (lo hi:Option Int):List V:=(xs.drop (HT.sIx xs.length 0 lo)).take (HT.sIx xs.length xs.length hi - HT.sIx xs.length 0 lo)
theorem og (xs:List V) (lo hi:Option Int):(qS xs lo hi).length≤xs.length:=by
 unfold qS
 rw[List.length_take,List.length_drop]
 omega
def Fw (K:PySem.W.Frag):V→Option Int→Option Int→Hp→VK→Prop:=fun x lo hi H Q=>∃a xs,x=.ref a∧SqT K H a xs ∧
 ¬ (HT.sIx xs.length 0 lo=0∧HT.sIx xs.length xs.length hi=xs.length)∧∀p,H p=none→Q (.ref p) (upd H p (.tup (qS xs lo hi)))
theorem Gn:SlR X (Fw X.K):=by
 intro pins s σ H x v vl vu lo hi sl Q I rx hs pl pu h
 obtain ⟨a,xs,rfl,hx,hw,q⟩:=h
 cases rx
 obtain ⟨its,r,ht,hz⟩:=I.tuple hx
 have hlen:its.toArray.size=xs.length:=by rw[List.size_toArray];exact r.length.symm
 refine⟨"tuple",_,PyProof.Rows.slot_tuple_getitem.lookup,ht.typeIs,?_⟩
 refine HT.mw ht hs pl pu (by rw[hlen];exact hw) ?_ (by rw[hlen];exact hz)
 rw[hlen]
 refine⟨.ref s.heap.objs.size,_,I.laid (t':=s.toks) (o:=.tup (qS xs lo hi)) (fun b ob q=>Heap.get?_push_of_some _ q) (Nat.le_refl _) ?_,rfl,q _ (I.hok.fresh (Nat.le_refl _))⟩
 exact⟨Nat.le_trans (og xs lo hi) hz,_,(r.drop (HT.sIx xs.length 0 lo)).take (HT.sIx xs.length xs.length hi - HT.sIx xs.length 0 lo),IsTup.new _ _⟩
end
end L2
namespace L2
open PySem PySem.Spec PyProof.Rows
def ixN (n:Nat) (i:Int):Option Nat:=if 0≤i then (if i<n then some i.toNat else none) else if -(n:Int)≤i then some (i+n).toNat else none
def atI {α:Type} (xs:List α) (i:Int):Option α:=(ixN xs.length i).bind fun j=>xs[j]?
theorem zd {n:Nat}{i:Int}{j:Nat} (h:ixN n i=some j):seqIndex? i n=some j∧j<n∧-(n:Int)≤i∧i<n:=by
 unfold ixN at h
 by_cases h0:0≤i
 ·rw[if_pos h0] at h
  by_cases h1:i<n
  ·rw[if_pos h1] at h
   have e:i.toNat=j:=Option.some.inj h
   exact⟨by rw[seqIndex_of h0 h1,e],by omega,by omega,h1⟩
  ·rw[if_neg h1] at h;cases h
 ·rw[if_neg h0] at h
  by_cases h1 : -(n:Int)≤i
  ·rw[if_pos h1] at h
   have e:(i+n).toNat=j:=Option.some.inj h
   exact⟨by rw[seqIndex_neg (by omega) h1,e],by omega,h1,by omega⟩
  ·rw[if_neg h1] at h;cases h
theorem yz {α:Type}{xs:List α}{i:Int}{v:α} (h:atI xs i=some v):∃j,seqIndex? i xs.length=some j∧xs[j]?=some v∧j<xs.length∧-(xs.length:Int)≤i∧i<xs.length:=by
 unfold atI at h
 cases e:ixN xs.length i with
 | none=>rw[e] at h;cases h
 | some j =>
  rw[e] at h
  obtain ⟨h1,h2,h3,h4⟩:=zd e
  exact⟨j,h1,h,h2,h3,h4⟩
def Dw (b:Expr):Prop:=∀o i,subscripted b false o i=operate [o,i] (getItem o i)
def IxR (X:Cx) (r:R2):Prop :=
 ∀(value slice:Expr) (pins:List (Addr × Obj)) (s:Shared) (σ:St) (H:Hp) (x y:V) (v u:Value) (Q:VK),Inv X pins σ H s→RelV x v→RelV y u→r x y H Q →
  subscripted slice false v u=operate [v,u] (getItem v u)→wpAny (model X.prog X.w) X.A (subscriptTail value slice v u) (EP X pins σ Q) X.xe s
def MtR (X:Cx) (id:String) (r:V→List V→Hp→VK→Prop):Prop :=
 ∀(pins:List (Addr × Obj)) (s:Shared) (σ:St) (H:Hp) (x:V) (xs:List V) (v:Value) (us:List Value) (Q:VK),Inv X pins σ H s→RelV x v→Vals xs us→r x xs H Q →
  wpAny (model X.prog X.w) X.A (call (.builtin id) (v::us)) (EP X pins σ Q) X.xe s
section
variable {X:Cx}{a b:Expr}{ta tb:TE}{pos:Pos}
theorem aF {r:R2} (hr:IxR X r) (ha:PE X a ta) (hb:PE X b tb) (hs:Dw b):PE X (.Subscript a b pos) (tOp r ta tb):=by
 intro pins s σ H Q I h
 exact Subscript_ (Gu ha hb I h fun v u s2 x y H2 I2 rx ry q=>hr a b pins s2 σ H2 x y v u Q I2 rx ry q (hs _ _))
def wZ (K:PySem.W.Frag):R2:=fun x y H Q=>∃p xs i v,x=.ref p∧y=.int i∧SqL K H p xs∧atI xs i=some v∧Q v H
def Dq (K:PySem.W.Frag):R2:=fun x y H Q=>∃p xs i v,x=.ref p∧y=.int i∧SqT K H p xs∧atI xs i=some v∧Q v H
theorem Ea:IxR X (wZ X.K):=by
 intro value slice pins s σ H x y v u Q I rx ry h hs
 obtain ⟨p,xs,i,z,rfl,rfl,hq,he,q⟩:=h
 cases rx
 obtain ⟨t,rfl⟩:=ry
 obtain ⟨its,r,pl,hz⟩:=I.list hq
 obtain ⟨j,h1,h2,h3,h4,h5⟩:=yz he
 obtain ⟨w,ew,rw'⟩:=r.get h2
 have hl:=r.length
 have hn:=uU
 have fin:EP X pins σ Q w s:=⟨z,H,I,rw',q⟩
 by_cases h0:0≤i
 ·have hj:i.toNat=j:=by
   rw[seqIndex_of h0 h5] at h1
   exact Option.some.inj h1
  exact item_listR pl.isList h0 (by omega) (by rw[hj];simpa using ew) fin hs
 ·have hj:(i+(its.toArray.size:Int)).toNat=j:=by
   rw[seqIndex_neg (by omega) h4] at h1
   rw[List.size_toArray,← hl]
   exact Option.some.inj h1
  exact subscriptTail_builtinR (x:=w) pl.isList.typeIs slot_list_getitem.lookup
   (wpAny_getItem_list_neg (Q:=fun r s'=>r=w∧EP X pins σ Q r s') pl.isList (by omega) (by rw[List.size_toArray]<;>omega) (by omega) (by rw[hj];simpa using ew) ⟨rfl,fin⟩) hs
theorem Gd:IxR X (Dq X.K):=by
 intro value slice pins s σ H x y v u Q I rx ry h hs
 obtain ⟨p,xs,i,z,rfl,rfl,hq,he,q⟩:=h
 cases rx
 obtain ⟨t,rfl⟩:=ry
 obtain ⟨its,r,pl,hz⟩:=I.tuple hq
 obtain ⟨j,h1,h2,h3,h4,h5⟩:=yz he
 obtain ⟨w,ew,rw'⟩:=r.get h2
 have hl:=r.length
 have hn:=uU
 have fin:EP X pins σ Q w s:=⟨z,H,I,rw',q⟩
 exact subscriptTail_builtinR (x:=w) pl.typeIs slot_tuple_getitem.lookup
  (getItem_tuple (j:=j) (Q:=fun r s'=>r=w∧EP X pins σ Q r s') pl (by omega) (by omega) (by rw[List.size_toArray,← hl];exact h1) (by simpa using ew) ⟨rfl,fin⟩) hs
theorem xy (its:List Value) (n j:Nat) (u:Value):Obj.mapSeq (·.setIfInBounds j u) { cls:=.type "list",data:=.seq its.toArray n }={ cls:=.type "list",data:=.seq (its.set j u).toArray n }:=by
 simp [Obj.mapSeq]
theorem Inv.lst {pins:List (Addr × Obj)}{σ:St}{H:Hp}{s:Shared}{p:Addr}{xs:List V} (I:Inv X pins σ H s) (h:H p=some (.lst xs)) :
  ∃(its:List Value) (n:Nat),Vals xs its∧s.heap.get? p=some { cls:=.type "list",data:=.seq its.toArray n }∧xs.length≤sizeLine:=by
 obtain ⟨z,its,n,r,e⟩:=I.hok p _ h
 exact⟨its,n,r,e,z⟩
theorem Inv.Gb {pins:List (Addr × Obj)}{σ:St}{H:Hp}{s:Shared}{p:Addr}{xs ys:List V}{its its':List Value}{n n':Nat}{f:Obj→Obj} (I:Inv X pins σ H s) (h:H p=some (.lst xs))
  (ho:s.heap.get? p=some { cls:=.type "list",data:=.seq its.toArray n }) (hf:f { cls:=.type "list",data:=.seq its.toArray n }={ cls:=.type "list",data:=.seq its'.toArray n' }) (r:Vals ys its') (hz:ys.length≤sizeLine) (t:Nat) :
  Inv X pins σ (upd H p (.lst ys)) { s with heap:=s.heap.update p f,toks:=t }:=by
 have e:(s.heap.update p f).get? p=some { cls:=.type "list",data:=.seq its'.toArray n' }:=by
  rw[Heap.get?_update_self f ho (by rw[hf]<;>rfl),hf]
 refine I.write (x:=p) (e:=p) (by rw[h];trivial) (.inl rfl) (fun b u hb q=>(Heap.get?_update_other _ _ (Ne.symm hb)).trans q) ⟨_,e⟩ ?_
 exact⟨hz,its',n',r,e⟩
def sD:V→V→V→Hp→(Hp→Prop)→Prop:=fun o i v H Q=>∃p xs k j,o=.ref p∧i=.int k∧H p=some (.lst xs)∧ixN xs.length k=some j∧Q (upd H p (.lst (xs.set j v)))
theorem set_list:Hu X sD:=by
 intro pins s σ H o i v ov iv u Q I ro ri rv h
 obtain ⟨p,xs,k,j,rfl,rfl,hp,hj,q⟩:=h
 cases ro
 obtain ⟨t,rfl⟩:=ri
 obtain ⟨its,n,r,ho,hz⟩:=I.lst hp
 obtain ⟨h1,h2,h3,h4⟩:=zd hj
 have hl:=r.length
 have hn:=uU
 have I':Inv X pins σ (upd H p (.lst (xs.set j v))) { s with heap:=s.heap.update p (Obj.mapSeq (·.setIfInBounds j u)) } :=
  I.Gb hp ho (xy its n j u) (r.set rv j) (by rw[List.length_set];exact hz) s.toks
 by_cases h0:0≤k
 ·have hk:k.toNat=j:=by
   rw[seqIndex_of h0 h4] at h1
   exact Option.some.inj h1
  exact PySem.W.ki_setAt ho h0 (by omega) (by rw[List.size_toArray,← hl];exact h4) (by rw[hk];exact⟨_,I',q⟩)
 ·have hk:(k+(its.toArray.size:Int)).toNat=j:=by
   rw[seqIndex_neg (by omega) h3] at h1
   rw[List.size_toArray,← hl]
   exact Option.some.inj h1
  exact PySem.W.ki_setBack ho (by omega) (by rw[List.size_toArray,← hl];exact h3) (by omega) (by rw[hk];exact⟨_,I',q⟩)
theorem uR (lo hi:Option Int) (n:Nat):(sliceBounds lo hi none n).1=((HT.sIx n 0 lo:Nat):Int)∧(sliceBounds lo hi none n).2.1=((HT.sIx n n hi:Nat):Int)∧(sliceBounds lo hi none n).2.2=1:=by
 refine⟨?_,?_,rfl⟩
 ·cases lo with
  | none=>simp [sliceBounds,HT.sIx]
  | some i =>
   simp only[sliceBounds,HT.sIx,Option.getD_none,show (1:Int)>0 by decide,if_true]
   by_cases h:i<0
   ·simp only[h,if_true]<;>omega
   ·simp only[h,if_false]<;>omega
 ·cases hi with
  | none=>simp [sliceBounds,HT.sIx]
  | some i =>
   simp only[sliceBounds,HT.sIx,Option.getD_none,show (1:Int)>0 by decide,if_true]
   by_cases h:i<0
   ·simp only[h,if_true]<;>omega
   ·simp only[h,if_false]<;>omega
theorem qV (its:List Value) (lo hi:Option Int):slicePick its.toArray lo hi none=((its.drop (HT.sIx its.length 0 lo)).take (HT.sIx its.length its.length hi - HT.sIx its.length 0 lo)).toArray:=by
 obtain ⟨h1,h2,h3⟩:=uR lo hi its.toArray.size
 unfold slicePick
 rw[h1,h2,h3]
 simp only[sliceRange_one,pick_run,List.size_toArray]<;>rfl
def Gi (K:PySem.W.Frag):V→Option Int→Option Int→Hp→VK→Prop:=fun x lo hi H Q=>∃a xs,x=.ref a∧SqL K H a xs∧∀p,H p=none→Q (.ref p) (upd H p (.lst (qS xs lo hi)))
theorem DC:SlR X (Gi X.K):=by
 intro pins s σ H x v vl vu lo hi sl Q I rx hs pl pu h
 obtain ⟨a,xs,rfl,hx,q⟩:=h
 cases rx
 obtain ⟨its,r,ht,hz⟩:=I.list hx
 have hlen:=r.length
 refine⟨"list",_,slot_list_getitem.lookup,ht.isList.typeIs,?_⟩
 refine wpAny_getItem_list_slice ht.isList hs pl pu .none (by simp) ?_ (by rw[List.size_toArray]<;>omega)
 rw[qV,← hlen]
 refine⟨.ref s.heap.objs.size,_,I.laid (t':=s.toks) (o:=.lst (qS xs lo hi)) (fun b ob q=>Heap.get?_push_of_some _ q) (Nat.le_refl _) ?_,rfl,q _ (I.hok.fresh (Nat.le_refl _))⟩
 exact⟨Nat.le_trans (og xs lo hi) hz,_,0,(r.drop (HT.sIx xs.length 0 lo)).take (HT.sIx xs.length xs.length hi - HT.sIx xs.length 0 lo),Heap.get?_push_size _ rfl⟩
def gF:V→Bool
 | .non=>true
 | .bl _=>true
 | .int _=>true
 | .str _=>true
 | _=>false
def eqV:V→V→Bool
 | .non,.non=>true
 | .bl a,.bl b=>a == b
 | .bl a,.int b=>(if a then 1 else 0) == b
 | .int a,.bl b=>a == (if b then 1 else 0)
 | .int a,.int b=>a == b
 | .str a,.str b=>a == b
 | _,_=>false
theorem Gq {A:Around}{s:Shared}{y x:V}{u v:Value} (ry:RelV y u) (rx:RelV x v) (fy:gF y=true) (fx:gF x=true):SeqAt.EqAt A s u v (eqV y x):=by
 cases y with
 | non =>
  cases ry
  cases x with
  | non=>cases rx;exact SeqAt.EqAt.same _
  | bl b=>cases rx;exact SeqAt.EqAt.none_bool b
  | int b=>obtain ⟨t,rfl⟩:=rx;exact SeqAt.EqAt.none_int b t
  | str b=>obtain ⟨t,rfl⟩:=rx;exact SeqAt.EqAt.none_str b t
  | _=>exact absurd (show false=true from fx) Bool.false_ne_true
 | bl a =>
  cases ry
  cases x with
  | non=>cases rx;exact SeqAt.EqAt.bool_none a
  | bl b=>cases rx;exact SeqAt.EqAt.bool_bool a b
  | int b=>obtain ⟨t,rfl⟩:=rx;exact SeqAt.EqAt.bool_int a b t
  | str b=>obtain ⟨t,rfl⟩:=rx;exact SeqAt.EqAt.bool_str a b t
  | _=>exact absurd (show false=true from fx) Bool.false_ne_true
 | int a =>
  obtain ⟨t',rfl⟩:=ry
  cases x with
  | non=>cases rx;exact SeqAt.EqAt.int_none a t'
  | bl b=>cases rx;exact SeqAt.EqAt.int_bool a t' b
  | int b=>obtain ⟨t,rfl⟩:=rx;exact SeqAt.EqAt.int_int a t' b t
  | str b=>obtain ⟨t,rfl⟩:=rx;exact SeqAt.EqAt.int_str a t' b t
  | _=>exact absurd (show false=true from fx) Bool.false_ne_true
 | str a =>
  obtain ⟨t',rfl⟩:=ry
  cases x with
  | non=>cases rx;exact SeqAt.EqAt.str_none a t'
  | bl b=>cases rx;exact SeqAt.EqAt.str_bool a t' b
  | int b=>obtain ⟨t,rfl⟩:=rx;exact SeqAt.EqAt.str_int a t' b t
  | str b=>obtain ⟨t,rfl⟩:=rx;exact SeqAt.EqAt.str_str a t' b t
  | _=>exact absurd (show false=true from fx) Bool.false_ne_true
 | _=>exact absurd (show false=true from fy) Bool.false_ne_true
def eqU (x:V) (u:Value):Bool:=match u with
 | .none=>eqV .non x
 | .bool b=>eqV (.bl b) x
 | .int i _=>eqV (.int i) x
 | .str z _=>eqV (.str z) x
 | _=>false
theorem xM {x y:V}{u:Value} (r:RelV y u) (f:gF y=true):eqU x u=eqV y x:=by
 cases y with
 | non=>cases r;rfl
 | bl b=>cases r;rfl
 | int i=>obtain ⟨t,rfl⟩:=r;rfl
 | str z=>obtain ⟨t,rfl⟩:=r;rfl
 | _=>exact absurd (show false=true from f) Bool.false_ne_true
theorem mJ {x:V}:∀{xs:List V}{us:List Value},Vals xs us→xs.all gF=true→us.any (eqU x)=xs.any fun y=>eqV y x
 | _,_,.nil,_=>rfl
 | y::xs,u::us,.cons r t,f=>by
  rw[List.all_cons,Bool.and_eq_true] at f
  rw[List.any_cons,List.any_cons,xM r f.1,mJ t f.2]
theorem jB {A:Around}{s:Shared}{x:V}{v:Value} (rx:RelV x v) (fx:gF x=true):∀{xs:List V}{us:List Value},Vals xs us→xs.all gF=true→∀u∈us,SeqAt.EqAt A s u v (eqU x u)
 | _,_,.nil,_=>fun u hu=>by cases hu
 | y::xs,u::us,.cons r t,f=>fun u' hu=>by
  rw[List.all_cons,Bool.and_eq_true] at f
  rcases List.mem_cons.mp hu with rfl | hu
  ·rw[xM r f.1];exact Gq r rx f.1 fx
  ·exact jB rx fx t f.2 u' hu
def inV (x:V) (xs:List V):Bool:=xs.any fun y=>eqV y x
def rIn (K:PySem.W.Frag) (neg:Bool):R2:=fun x y H Q=>∃p xs,y=.ref p∧(SqL K H p xs∨SqT K H p xs)∧gF x=true∧xs.all gF=true∧Q (.bl (if neg then !inV x xs else inV x xs)) H
theorem zW:OpR X (compareOp .In) (rIn X.K false):=by
 intro pins s σ H x y v u Q I rx ry h
 obtain ⟨p,xs,rfl,hq,fx,fs,q⟩:=h
 cases ry
 rcases hq with hq | hq
 ·obtain ⟨its,r,pl,hz⟩:=I.list hq
  refine SeqAt.in_listAt (eqU x) pl.isList (fun w hw=>jB rx fx r fs w (by simpa using hw)) ⟨.bl _,H,I,rfl,?_⟩
  rw[show its.toArray.any (eqU x)=its.any (eqU x) by simp,mJ r fs]
  exact q
 ·obtain ⟨its,r,pl,hz⟩:=I.tuple hq
  refine SeqAt.in_tupleAt (eqU x) pl (fun w hw=>jB rx fx r fs w (by simpa using hw)) ⟨.bl _,H,I,rfl,?_⟩
  rw[show its.toArray.any (eqU x)=its.any (eqU x) by simp,mJ r fs]
  exact q
theorem uh:OpR X (compareOp .NotIn) (rIn X.K true):=by
 intro pins s σ H x y v u Q I rx ry h
 obtain ⟨p,xs,rfl,hq,fx,fs,q⟩:=h
 cases ry
 rcases hq with hq | hq
 ·obtain ⟨its,r,pl,hz⟩:=I.list hq
  refine SeqAt.notIn_listAt (eqU x) pl.isList (fun w hw=>jB rx fx r fs w (by simpa using hw)) ⟨.bl _,H,I,rfl,?_⟩
  rw[show its.toArray.any (eqU x)=its.any (eqU x) by simp,mJ r fs]
  exact q
 ·obtain ⟨its,r,pl,hz⟩:=I.tuple hq
  refine SeqAt.notIn_tupleAt (eqU x) pl (fun w hw=>jB rx fx r fs w (by simpa using hw)) ⟨.bl _,H,I,rfl,?_⟩
  rw[show its.toArray.any (eqU x)=its.any (eqU x) by simp,mJ r fs]
  exact q
theorem tR:iK X (.builtin "len") (fun xs H Q=>∃p ys,xs=[.ref p]∧(SqL X.K H p ys∨SqT X.K H p ys)∧Q (.int ys.length) H):=by
 intro pins s σ H xs us Q I r h
 obtain ⟨p,ys,rfl,hq,q⟩:=h
 obtain ⟨u,rfl,rx⟩:=vals1 r
 cases rx
 have hn:=uU
 rcases hq with hq | hq
 ·obtain ⟨its,r',pl,hz⟩:=I.list hq
  have hlen:=r'.length
  exact Calls.call_len_list pl.isList (by simp only[List.size_toArray]<;>omega) ⟨.int ys.length,H,I.tok _,⟨s.toks+1,by rw[List.size_toArray,hlen]⟩,q⟩
 ·obtain ⟨its,r',pl,hz⟩:=I.tuple hq
  have hlen:=r'.length
  exact len_tuple pl (by simp only[List.size_toArray]<;>omega) ⟨.int ys.length,H,I.tok _,⟨s.toks+1,by rw[List.size_toArray,hlen]⟩,q⟩
theorem uT:iK X (.type "list") (fun xs H Q=>∃p ys,xs=[.ref p]∧(SqL X.K H p ys∨SqT X.K H p ys)∧∀l,H l=none→Q (.ref l) (upd H l (.lst ys))):=by
 intro pins s σ H xs us Q I r h
 obtain ⟨p,ys,rfl,hq,q⟩:=h
 obtain ⟨u,rfl,rx⟩:=vals1 r
 cases rx
 have fin:∀(its:List Value),Vals ys its→ys.length≤sizeLine→∀(h':Heap) (c':Nat),(∀b o',s.heap.get? b=some o'→h'.get? b=some o') →
   h'.get? s.heap.objs.size=some { cls:=.type "list",dict:=none,data:=.seq its.toArray c',slots:=#[] }→EP X pins σ Q (.ref s.heap.objs.size) { s with heap:=h' }:=fun its r' hz h' c' kp e =>
  ⟨.ref s.heap.objs.size,_,I.laid (t':=s.toks) kp (Nat.le_refl _) (show dD X.prog X.w _ h' _ (.lst ys) from ⟨hz,its,c',r',e⟩),rfl,q _ (I.hok.fresh (Nat.le_refl _))⟩
 rcases hq with hq | hq
 ·obtain ⟨its,r',pl,hz⟩:=I.list hq
  have hlen:=r'.length
  obtain ⟨o,ho,hc,n,hd⟩:=pl.isList
  exact call_list_seq p (.inl rfl) ho hc hd (fun h' c' kp e=>fin its r' hz h' c' kp e) (by simp only[List.size_toArray]<;>omega)
 ·obtain ⟨its,r',pl,hz⟩:=I.tuple hq
  have hlen:=r'.length
  obtain ⟨o,ho,hc,n,hd⟩:=pl
  exact call_list_seq p (.inr rfl) ho hc hd (fun h' c' kp e=>fin its r' hz h' c' kp e) (by simp only[List.size_toArray]<;>omega)
def tyV (K:PySem.W.Frag) (T:String) (x:V) (H:Hp):Prop:=match x with
 | .str _=>T = "str"
 | .int _=>T = "int"
 | .ref p=>(T = "list"∧∃xs,SqL K H p xs)∨(T = "tuple"∧∃o,K.lookup p=some o∧o.cls=.type "tuple"∧o.dict=none) ∨
   (T = "dict"∧((∃kvs,H p=some (.dK kvs))∨∃kvs,H p=some (.dT kvs)))∨(T = "set"∧∃S n,H p=some (.set S n))
 | _=>False
theorem Ax {pins:List (Addr × Obj)}{σ:St}{H:Hp}{s:Shared}{T:String}{x:V}{v:Value} (I:Inv X pins σ H s) (r:RelV x v) (ty:tyV X.K T x H) :
  s.TypeIs v T∧∀a,v=.ref a→∃ob,s.heap.get? a=some ob∧ob.dict=none:=by
 cases x with
 | str z =>
  obtain ⟨t,rfl⟩:=r
  cases (show T = "str" from ty)
  exact⟨typeIs_str s z t,fun _ e=>nomatch e⟩
 | int i =>
  obtain ⟨t,rfl⟩:=r
  cases (show T = "int" from ty)
  exact⟨typeIs_int s i t,fun _ e=>nomatch e⟩
 | ref p =>
  cases r
  rcases ty with ⟨rfl,xs,hq⟩ | ⟨rfl,o,hk,hc,hd⟩ | ⟨rfl,hk⟩ | ⟨rfl,S,n,hk⟩
  ·obtain ⟨its,_,pl,_⟩:=I.list hq
   refine⟨pl.isList.typeIs,fun a e=>?_⟩
   cases e
   obtain ⟨o,n,e,c,hd,_⟩:=pl
   exact⟨o,e,hd⟩
  ·refine⟨⟨o,I.kIn p o hk,hc⟩,fun a e=>?_⟩
   cases e
   exact⟨o,I.kIn _ o hk,hd⟩
  ·have z:∃o,s.heap.get? p=some o∧o.ExactDict:=by
    rcases hk with ⟨kvs,hk⟩ | ⟨kvs,hk⟩
    ·obtain ⟨_,_,_,_,o,_,_,e,ex,_⟩:=I.hok p _ hk
     exact⟨o,e,ex⟩
    ·obtain ⟨_,_,_,_,o,_,_,e,ex,_⟩:=I.hok p _ hk
     exact⟨o,e,ex⟩
   obtain ⟨o,e,ex⟩:=z
   refine⟨⟨o,e,ex.1⟩,fun a e2=>?_⟩
   cases e2
   exact⟨o,e,ex.2.1⟩
  ·obtain ⟨o,_,_,_,e,ex,_⟩:=I.hok p _ hk
   refine⟨⟨o,e,ex.1⟩,fun a e2=>?_⟩
   cases e2
   exact⟨o,e,ex.2.1⟩
 | _=>exact False.elim ty
def HV (K:PySem.W.Frag) (T:String) (r:V→List V→Hp→VK→Prop) (to:TE):TE:=fun σ H Q=>to σ H fun x H1=>tyV K T x H1∧r x [] H1 Q
def tBM (K:PySem.W.Frag) (T:String) (r:V→List V→Hp→VK→Prop) (to:TE) (t:TA):TE:=fun σ H Q=>to σ H fun x H1=>tyV K T x H1∧t σ H1 fun xs H2=>r x xs H2 Q
variable {o e:Expr}{es:List Expr}{to:TE}{t:TA}{name:Str}{apos cpos:Pos}{T id:String}{r:V→List V→Hp→VK→Prop}
theorem FU (pa:PlainAttrs T) (slot:Slot T name id) (hty:typeOf (.builtin id)=pure (.type "method_descriptor")) (hm:MtR X id r) (ho:PE X o to)
  (hbase:attributeBase o name X.env (eval o X.env)=eval o X.env:=by rfl) (hline:(apos.endLine == cpos.line)=true:=by rfl):PE X (.Call (.Attribute o name apos) [] [] cpos) (HV X.K T r to):=by
 intro pins s σ H Q I h
 refine wpAny_Call_method0_late hbase hline (thn (ho pins s σ H _ I h) fun v s1 ⟨x,H1,I1,r1,ty,q1⟩=>?_)
 obtain ⟨h1,h2⟩:=Ax I1 r1 ty
 exact⟨T,id,pa,slot,hty,h1,h2,Calls.callWith_builtin rfl (PySem.evalArgs_none (hm pins s1 σ H1 x [] v [] Q I1 r1 .nil q1))⟩
theorem jx (pa:PlainAttrs T) (slot:Slot T name id) (hty:typeOf (.builtin id)=pure (.type "method_descriptor")) (hm:MtR X id r) (ho:PE X o to) (ha:PA X (e::es) t)
  (hbase:attributeBase o name X.env (eval o X.env)=eval o X.env:=by rfl)
  (hfew:((backTo cpos (starEach (e::es) X.env)).all (fun x=>!x.1) && (backToKw cpos (keywordEach [] X.env)).all (fun x=>x.1.isSome)
   && decide ((e::es).length+([]:List Keyword).length+(if ([]:List Keyword).isEmpty then 0 else 1)<30))=true:=by rfl)
  (hline:(apos.endLine == cpos.line)=true:=by rfl) (hs:starEach (e::es) X.env=(false,eval e X.env)::starEach es X.env:=by rfl) (hplain:(backTo cpos (starEach es X.env)).any (·.1)=false:=by rfl) :
  PE X (.Call (.Attribute o name apos) (e::es) [] cpos) (tBM X.K T r to t):=by
 intro pins s σ H Q I h
 refine wpAny_Call_method_late hbase hfew hline rfl (thn (ho pins s σ H _ I h) fun v s1 ⟨x,H1,I1,r1,ty,q1⟩=>?_)
 obtain ⟨h1,h2⟩:=Ax I1 r1 ty
 refine⟨T,id,pa,slot,hty,h1,h2,?_⟩
 have hA:=ha cpos pins s1 σ H1 _ I1 q1
 rw[hs] at hA ⊢
 refine Calls.callWith_builtin (by show (false || (backTo cpos (starEach es X.env)).any (·.1))=false;rw[hplain]<;>rfl) (Calls.evalArgs_plain ?_)
 exact thn hA fun us s2 ⟨vs,H2,I2,r2,q2⟩=>hm pins s2 σ H2 x vs v us Q I2 r1 r2 q2
/- xs.append(e),list.index on a module's tuple .. are MtR facts of 06m -/
end
end L2
namespace L2
open PySem PySem.Spec PyProof.Rows
def MtM (X:Cx) (id:String) (r:V→List V→Hp→VK→Prop):Prop :=
 ∀(pins:List (Addr × Obj)) (s:Shared) (σ:St) (H:Hp) (x:V) (xs:List V) (v:Value) (us:List Value) (Q:VK),Inv X pins σ H s→RelV x v→Vals xs us→r x xs H Q →
  wpAny (model X.prog X.w) X.A (call (.builtin id) (v::us)) (EP X pins σ Q) X.xe s
theorem Vals.one:∀{x:V}{us:List Value},Vals [x] us→∃u,us=[u]∧RelV x u
 | _,_,.cons r .nil=>⟨_,rfl,r⟩
theorem Vals.zero:∀{us:List Value},Vals [] us→us=[]
 | _,.nil=>rfl
theorem Vals.dropLast {xs:List V}{us:List Value} (h:Vals xs us):Vals xs.dropLast us.dropLast:=by
 induction h with
 | nil=>exact .nil
 | cons r t ih =>
  cases t with
  | nil=>exact .nil
  | cons q t'=>exact .cons r ih
theorem Vals.eraseIdx:∀{xs:List V}{us:List Value} (i:Nat),Vals xs us→Vals (xs.eraseIdx i) (us.eraseIdx i)
 | _,_,_,.nil=>.nil
 | _,_,0,.cons _ t=>t
 | _,_,i+1,.cons r t=>.cons r (Vals.eraseIdx i t)
theorem Vals.reverse {xs:List V}{us:List Value} (h:Vals xs us):Vals xs.reverse us.reverse:=by
 induction h with
 | nil=>exact .nil
 | cons r t ih=>rw[List.reverse_cons,List.reverse_cons];exact Vals.append ih (.cons r .nil)
theorem Vals.rep {xs:List V}{us:List Value} (h:Vals xs us):∀k:Nat,Vals (List.replicate k xs).flatten (List.replicate k us).flatten
 | 0=>.nil
 | k+1=>by
  rw[List.replicate_succ,List.replicate_succ,List.flatten_cons,List.flatten_cons]
  exact Vals.append h (Vals.rep h k)
theorem wK {α:Type} (l:List α):l.eraseIdx (l.length - 1)=l.dropLast:=by
 induction l with
 | nil=>rfl
 | cons a r ih =>
  cases r with
  | nil=>rfl
  | cons b r =>
   have e:(a::b::r).length - 1=((b::r).length - 1)+1:=by
    have h1:(a::b::r).length=r.length+2:=rfl
    have h2:(b::r).length=r.length+1:=rfl
    omega
   rw[e,List.eraseIdx_cons_succ,ih]
   all_goals rfl
theorem foldl_rep (its:List Value):∀(k:Nat) (acc:List Value),
  List.foldl (fun x1 x2=>x1++x2) acc.toArray (List.replicate k its.toArray)=(acc++(List.replicate k its).flatten).toArray
 | 0,acc=>by simp
 | k+1,acc=>by
  have e:acc.toArray++its.toArray=(acc++its).toArray:=by simp
  have e2:(acc++its)++(List.replicate k its).flatten=acc++(List.replicate (k+1) its).flatten:=by
   rw[List.replicate_succ,List.flatten_cons,List.append_assoc]
  rw[← e2,← foldl_rep its k (acc++its),← e,List.replicate_succ,List.foldl_cons]
section
variable {X:Cx}{pins:List (Addr × Obj)}{σ:St}{H:Hp}{s:Shared}{l b:Addr}{xs ys zs:List V}
theorem Inv.C3 {its its':List Value}{n:Nat}{f:Array Value→Array Value}{t':Nat} (I:Inv X pins σ H s) (hH:H l=some (.lst xs))
  (e:s.heap.get? l=some { cls:=.type "list",data:=.seq its.toArray n }) (hf:f its.toArray=its'.toArray) (hv:Vals ys its') (hz:ys.length≤sizeLine) :
  Inv X pins σ (upd H l (.lst ys)) { s with heap:=s.heap.update l (Obj.mapSeq f),toks:=t' }:=by
 have q:=PySem.IsL.update e f
 rw[hf] at q
 refine I.write (x:=l) (e:=l) (by rw[hH];exact trivial) (.inl rfl) (fun b' u hb hu=>(Heap.get?_update_other s.heap (Obj.mapSeq f) (Ne.symm hb)).trans hu) ⟨_,q⟩ ?_
 exact⟨hz,its',_,hv,q⟩
theorem Inv.DY {its:List Value}{t':Nat} (I:Inv X pins σ H s) (hv:Vals ys its) (hz:ys.length≤sizeLine) :
  Inv X pins σ (upd H s.heap.objs.size (.lst ys)) { s with heap:=s.heap.push { cls:=.type "list",data:=.seq its.toArray },toks:=t' } :=
 I.laid (fun _ _ q=>Heap.get?_push_of_some _ q) (Nat.le_refl _) ⟨hz,its,0,hv,Heap.get?_push_size _ rfl⟩
theorem Inv.fresh (I:Inv X pins σ H s):H s.heap.objs.size=none:=I.hok.fresh (Nat.le_refl _)
theorem Inv.tW (I:Inv X pins σ H s) (hH:H l=some (.lst xs)):xs.length≤sizeLine∧∃(its:List Value) (n:Nat),Vals xs its∧xs.length=its.length∧s.heap.get? l=some { cls:=.type "list",data:=.seq its.toArray n }:=by
 obtain ⟨z,its,n,r,e⟩:=I.hok l _ hH
 exact⟨z,its,n,r,r.length,e⟩
theorem wj {n:Nat} (h:n≤sizeLine):Builtin.List.listTooLong n=false:=by
 unfold Builtin.List.listTooLong
 exact decide_eq_false (by omega)
end
section
variable {X:Cx}
def oX:V→List V→Hp→VK→Prop:=fun x vs H Q=>∃l xs y,x=.ref l∧vs=[y]∧H l=some (.lst xs)∧xs.length<sizeLine∧Q .non (upd H l (.lst (xs++[y])))
theorem dy:MtM X "list.append" oX:=by
 intro pins s σ H x vs v us Q I rx rv h
 obtain ⟨l,xs,y,rfl,rfl,hH,hz,q⟩:=h
 cases rx
 obtain ⟨u,rfl,ru⟩:=rv.one
 obtain ⟨z,its,n,r,hl,e⟩:=I.tW hH
 refine call_meets F.slot_list_append ⟨_,e,rfl⟩ F.entry_list_append (F.args_list_append_2 _ _) (PySem.list_append l its.toArray n u (by rw[List.size_toArray];omega)) ⟨e,?_⟩
 refine⟨.non,_,I.C3 (its':=its++[u]) hH e (by simp) (r.append (.cons ru .nil)) ?_,rfl,q⟩
 rw[List.length_append,List.length_singleton]
 omega
def DW:V→List V→Hp→VK→Prop:=fun x vs H Q=>∃l b xs zs,x=.ref l∧vs=[.ref b]∧H l=some (.lst xs)∧H b=some (.lst zs)∧xs.length+zs.length≤sizeLine∧Q .non (upd H l (.lst (xs++zs)))
theorem G0:MtM X "list.extend" DW:=by
 intro pins s σ H x vs v us Q I rx rv h
 obtain ⟨l,b,xs,zs,rfl,rfl,hH,hB,hz,q⟩:=h
 cases rx
 obtain ⟨u,rfl,ru⟩:=rv.one
 cases ru
 obtain ⟨z,its,n,r,hl,e⟩:=I.tW hH
 obtain ⟨z2,its2,n2,r2,hl2,e2⟩:=I.tW hB
 have hsz:its.toArray.size+its2.toArray.size≤sizeLine:=by rw[List.size_toArray,List.size_toArray];omega
 have hlong:¬ (!its.toArray.isEmpty && Builtin.List.listTooLong (its.toArray.size+its2.toArray.size))=true:=by
  rw[wj hsz,Bool.and_false]
  exact Bool.false_ne_true
 refine call_meets F.slot_list_extend ⟨_,e,rfl⟩ F.entry_list_extend (F.args_list_extend_2 _ _)
  (AutoSeq1.list_extend_list_list_0 l its.toArray n b its2.toArray n2 hlong (by rw[List.size_toArray];omega) (by omega)) ⟨e,e2,?_⟩
 refine⟨.non,_,I.C3 (its':=its++its2) hH e (by simp) (r.append r2) ?_,rfl,q⟩
 rw[List.length_append]
 omega
def Ia:V→List V→Hp→VK→Prop:=fun x vs H Q=>∃l xs y,x=.ref l∧vs=[]∧H l=some (.lst xs)∧xs[xs.length - 1]?=some y∧Q y (upd H l (.lst xs.dropLast))
theorem Ih:MtM X "list.pop" Ia:=by
 intro pins s σ H x vs v us Q I rx rv h
 obtain ⟨l,xs,y,rfl,rfl,hH,hy,q⟩:=h
 cases rx
 have hus:=rv.zero
 subst hus
 obtain ⟨z,its,n,r,hl,e⟩:=I.tW hH
 obtain ⟨u,hu,ru⟩:=r.get hy
 have hy':its.toArray[its.toArray.size - 1]?=some u:=by
  show its.toArray[its.length - 1]?=some u
  rw[← Array.getElem?_toList,← hl]
  exact hu
 refine call_meets F.slot_list_pop ⟨_,e,rfl⟩ F.entry_list_pop (F.args_list_pop_1 _) (MeetsSeq.list_pop_last l its.toArray n u hy' (by rw[List.size_toArray];omega)) ⟨e,?_⟩
 refine⟨y,_,I.C3 (its':=its.dropLast) hH e ?_ r.dropLast ?_,ru,q⟩
 ·show its.toArray.eraseIdxIfInBounds (its.toArray.size - 1)=its.dropLast.toArray
  rw[List.size_toArray,List.eraseIdxIfInBounds_toArray,wK]
 ·rw[List.length_dropLast]
  omega
def Bd:V→List V→Hp→VK→Prop:=fun x vs H Q=>∃l xs,x=.ref l∧vs=[]∧H l=some (.lst xs)∧Q .non (upd H l (.lst []))
theorem Cr:MtM X "list.clear" Bd:=by
 intro pins s σ H x vs v us Q I rx rv h
 obtain ⟨l,xs,rfl,rfl,hH,q⟩:=h
 cases rx
 have hus:=rv.zero
 subst hus
 obtain ⟨z,its,n,r,hl,e⟩:=I.tW hH
 refine call_meets F.slot_list_clear ⟨_,e,rfl⟩ F.entry_list_clear (F.args_list_clear_1 _) (AutoSeq1.list_clear_list_0 l its.toArray n (by rw[List.size_toArray];omega)) ⟨e,?_⟩
 exact⟨.non,_,I.C3 (its':=[]) (ys:=[]) hH e rfl .nil (Nat.zero_le _),rfl,q⟩
def Hg:R2:=fun x y H Q=>∃l b xs zs,x=.ref l∧y=.ref b∧H l=some (.lst xs)∧H b=some (.lst zs)∧xs.length+zs.length≤sizeLine∧∀p,H p=none→Q (.ref p) (upd H p (.lst (xs++zs)))
theorem FH:OpR X (binaryOp .Add) Hg:=by
 intro pins s σ H x y v u Q I rx ry h
 obtain ⟨l,b,xs,zs,rfl,rfl,hH,hB,hz,q⟩:=h
 cases rx
 cases ry
 obtain ⟨z,its,n,r,hl,e⟩:=I.tW hH
 obtain ⟨z2,its2,n2,r2,hl2,e2⟩:=I.tW hB
 refine PySem.P.add_list e e2 ?_ (by rw[List.size_toArray,List.size_toArray];omega)
 have ea:its.toArray++its2.toArray=(its++its2).toArray:=by simp
 rw[ea]
 exact⟨.ref _,_,I.DY (t':=s.toks) (r.append r2) (by rw[List.length_append];omega),rfl,q _ I.fresh⟩
def Hs:R2:=fun x y H Q=>∃l k xs,x=.ref l∧y=.int k∧H l=some (.lst xs)∧-(2 ^ 63)≤k∧k<2 ^ 63∧xs.length*k.toNat≤sizeLine ∧
 ∀p,H p=none→Q (.ref p) (upd H p (.lst (List.replicate k.toNat xs).flatten))
theorem len_rep {α:Type} (xs:List α) (k:Nat):(List.replicate k xs).flatten.length=k*xs.length:=by
 induction k with
 | zero=>simp
 | succ k ih=>rw[List.replicate_succ,List.flatten_cons,List.length_append,ih,Nat.succ_mul,Nat.add_comm]
theorem Gs:OpR X (binaryOp .Mult) Hs:=by
 intro pins s σ H x y v u Q I rx ry h
 obtain ⟨l,k,xs,rfl,rfl,hH,h1,h2,hz,q⟩:=h
 cases rx
 obtain ⟨t,rfl⟩:=ry
 obtain ⟨z,its,n,r,hl,e⟩:=I.tW hH
 have hlen:its.toArray.size*k.toNat≤sizeLine:=by rw[List.size_toArray,← hl];exact hz
 have hcap:¬ its.toArray.size*k.toNat>(2 ^ 63 - 1) / 8:=by
  have:(sizeLine:Nat)≤(2 ^ 63 - 1) / 8:=by decide
  omega
 have hfit:¬ (!Builtin.List.listFitsIndex k)=true:=by
  rw[fitsIndex_both h1 h2]
  exact Bool.false_ne_true
 have hlong:¬ Builtin.List.listTooLong (its.toArray.size*k.toNat)=true:=by
  rw[wj hlen]
  exact Bool.false_ne_true
 have hnew:List.foldl (fun x1 x2=>x1++x2) #[] (List.replicate (if its.toArray.isEmpty=true then 0 else k.toNat) its.toArray)=(List.replicate k.toNat its).flatten.toArray:=by
  have f0:∀m:Nat,List.foldl (fun x1 x2=>x1++x2) #[] (List.replicate m its.toArray)=(List.replicate m its).flatten.toArray:=fun m=>by
   have:=foldl_rep its m []
   rw[List.nil_append] at this
   exact this
  rw[f0]
  cases its with
  | nil=>simp
  | cons a r'=>rw[if_neg (by simp)]
 refine wpAny_binaryOp_repeat_ref (T:="list") (U:="int") (by decide) ⟨_,e,rfl⟩ (fun s'=>typeIs_int s' k t) noFill_list_mul F.fills_int_mul F.slot_int_rmul repeat_list F.slot_int_index.lookup
  (call_meets F.slot_int_rmul (typeIs_int s k t) F.entry_int_rmul (F.args_int_rmul_2 _ _) (int___rmul___int_list k t l its.toArray n)
   ⟨e,rfl,⟨_,e,rfl⟩,call_meets F.slot_list_mul ⟨_,e,rfl⟩ F.entry_list_mul (F.args_list_mul_2 _ _) (AutoListH.list___mul___list_int_3 l its.toArray n k t hfit hcap hlong) ⟨e,?_⟩⟩)
 rw[hnew]
 exact⟨.ref _,_,I.DY (t':=s.toks) (r.rep k.toNat) (by rw[len_rep,Nat.mul_comm];exact hz),rfl,q _ I.fresh⟩
end
section
variable {prog:Program}{w:World}{A:Around}{E:Value→Shared→Prop}{s:Shared}
end
section
variable {X:Cx}
end
end L2
namespace Att
open PySem PySem.W PySem.Calls PyProof.Rows
theorem oK {P:Params}{h:Heap}:∀(ns:List Int) (vs:List Value),WellAll P h vs (ns.map WData.int)→IntsAre vs ns:=by
 intro ns
 induction ns with
 | nil =>
  intro vs w
  rw[List.map_nil] at w
  cases w
  exact .nil
 | cons n ns ih =>
  intro vs w
  rw[List.map_cons] at w
  cases w with
  | cons a b =>
   cases a
   exact .cons _ _ (ih _ b)
theorem zY {l:OpenLaw}{n:Nat} (hn:l.most=some n) {P:Params}{h:Heap}{args:List WData}{vals:List Value}
  (hpre:l.row.toRowW.claim.pre args=true) (hwl:WellAll P h vals args) :
  ∃a vs ns,vals=[Value.ref a]∧args=[WData.list (ns.map WData.int)]∧h.get? a=some { cls:=.type "list",data:=.seq vs.toArray }∧IntsAre vs ns∧ns.length≤n:=by
 have hsh:WShape.hasAll [] args [.list .int]=true:=(pre_splitW hpre).1
 have hc:l.pre.holds [] { args:=args }=true:=(pre_splitW hpre).2
 obtain ⟨d,r,rfl,h1,h2⟩:=hasAllW_cons hsh
 obtain rfl:=hasAllW_nil h2
 obtain ⟨xs,rfl,h3⟩:=hasW_list h1
 obtain ⟨ns,rfl⟩:=items_int h3
 have hlen:ns.length≤n:=by
  unfold OpenLaw.pre at hc
  have h4:(WTm.not (.lt (.lit (.int (n:Int))) (.len (.arg 0)))).holds [] { args:=[.list (ns.map .int)] }=true:=by
   have h4:=(holds_andW hc).1
   rw[hn] at h4
   exact h4
  have h5:=condW_of h4 (w_not (w_lt w_lit (w_len_list (w_arg rfl))))
  rw[List.length_map] at h5
  refine Nat.le_of_not_lt fun q=>?_
  have q':(n:Int)<((ns.length:Nat):Int):=by omega
  first
   | (rw[decide_eq_true q'] at h5;exact absurd h5 (by decide))
   | (simp at h5;omega)
 cases hwl with
 | cons w1 w2 =>
  cases w2
  cases w1 with
  | list ho hall=>exact⟨_,_,ns,rfl,rfl,ho,oK ns _ hall,hlen⟩
theorem z6 (l:OpenLaw) (args:List WData):l.row.toRowW.claim.post args (.bool true) args=true :=
 postW_of (r:=l.row.toRowW) (X:=(true == true))
  (show WShape.has [] (.bool true) .bool=true by first | rfl | decide | simp [WShape.has,WShape.arms,WShape.armsAll])
  (show (WTm.eq .res (.lit (.bool true))).value [] { args:=args,res:=some (.bool true),after:=args }=some (.bool (true == true)) from w_eq_bool (w_res rfl) w_lit) rfl
theorem vt {l:OpenLaw}{n:Nat}{q:Program}{loose:List Str}{XP:(Str→Option Value)→Heap→Prop}{YP:World→Heap→Prop}{d:DefRec}
  (hn:l.most=some n) (hdf:d.params.defaults=[])
  (call:∀(w:World) (s₀ s₁:Shared) (mg mb:Str→Option Value) (fa:Addr) (o:Obj) (pm cd doc:Value) (a:Addr) (vs:List Value) (ns:List Int),
   Ground q loose [] XP w s₀ mg mb s₁.heap→YP w s₁.heap →
   s₁.heap.get? fa=some o→o.data=.func (docDef d.name d.params d.body d.scope pm cd doc)→s₁.heap.CodeRec cd d.name→mg d.name=some (.ref fa) →
   s₁.heap.get? a=some { cls:=.type "list",data:=.seq vs.toArray }→IntsAre vs ns→ns.length≤n→s₁.gens=#[] →
   codeAny (model l.prog w) callerA (.call (.ref fa) ⟨[.ref a],[]⟩) (fun r s'=>r=.ok (.ret (.bool true))∧OldK s₁.heap s'.heap∧s'.os=s₁.os∧AllBare s'.gens) s₁) :
  WalkO q loose XP YP l.row.toRowW d [] (fun f vs=>PySem.call f vs):=by
 intro w s₀ s₁ mg mb G Y fa o pm cd doc dV kV ho hd hcd hD hmg hg args vals as hpre hlay hrd hwl hlo
 obtain rfl:dV=.none:=Dflts.none hD hdf
 obtain rfl:kV=.none:=Dflts.noKw hD
 obtain ⟨a,vs,ns,rfl,rfl,hobj,hints,hlen⟩:=zY hn hpre hwl
 refine enter_call (codeAny_mono (call w s₀ s₁ mg mb fa o pm cd doc a vs ns G Y ho (fd_plain hd) hcd hmg hobj hints hlen hg) fun r s' hq=>?_)
 obtain ⟨rfl,h2,h3,h4⟩:=hq
 exact⟨.inl ⟨.bool true,.bool true,[],rfl,fun _=>rfl,.bool true,z6 l _,fun _=>⟨List.Pairwise.nil,fun _ hm=>(nomatch hm)⟩⟩,h2,h3,h4⟩
section
variable {prog:Program}{w:World}{A:Around}{E:Value→Shared→Prop}{s:Shared}{K:Frag}
def ledger (h:Heap) (L d:Addr):List (Addr × Obj):=(List.range h.objs.size).filterMap fun a=>if a=L∨a=d then none else (h.get? a).map fun o=>(a,o)
end
end Att
namespace L2
open PySem PySem.Spec PyProof.Rows
theorem sr:∀{vs:List Value}{ns:List Int},IntsAre vs ns→Vals (ns.map V.int) vs
 | _,_,.nil=>.nil
 | _,_,.cons n t h=>.cons ⟨t,rfl⟩ (sr h)
def Dx (H:Hp):Prop:=∀b,H b=none∨∃o xs,H b=some (.frz o (.lst xs))
theorem Cu {P:Program}{w:World}{K:PySem.W.Frag}{mg mb:Str→Option Value}{CX:CXT}{k:Nat}{fa a:Addr}{fd:FuncData}{x:Str}{sp:Sp}{s₁:Shared}{vs:List Value}{ns:List Int}
  (KX:K.In s₁.heap) (hns:s₁.heap.Ns mainGlobals mg) (hb:s₁.heap.Ns builtinsNs mb) (hbb:∀x:Str,x≠"__name__"→mb x=bootBuiltins x) (hlim:s₁.heap.NoLimit) (hg:s₁.gens=#[])
  (ha:s₁.heap.get? a=some { cls:=.type "list",data:=.seq vs.toArray }) (hi:IntsAre vs ns) (hl:ns.length≤sizeLine) (hr:hV k callerA)
  (F:∀base:Heap,K.In base→base.Ns mainGlobals mg→bc P w K mg base CX k fa fd [x] sp) (hbind:∀(s:Shared) (u:Value),BindsTo s fd ⟨[u],[]⟩ [(x,u)])
  (hsp:∀H:Hp,Dx H→SqL K H a (ns.map V.int)→sp [.ref a] H (fun v _=>v=.bl true) fun _ _ _=>False)
  (hCX:∀H e s',CX [] H s₁ (fun _ _ _=>False) e s'→False) :
  codeAny (model P w) callerA (.call (.ref fa) ⟨[.ref a],[]⟩) (fun r s'=>r=.ok (.ret (.bool true))∧OldK s₁.heap s'.heap∧s'.os=s₁.os∧AllBare s'.gens) s₁:=by
 have rv:=sr hi
 have lenV:=hi.length
 have core:∀H:Hp,Dx H→SqL K H a (ns.map V.int)→HOk P w H s₁.heap→(∀b,H b≠none→b=a)→(H a≠none→K.lookup a=none) →
   codeAny (model P w) callerA (.call (.ref fa) ⟨[.ref a],[]⟩) (fun r s'=>r=.ok (.ret (.bool true))∧OldK s₁.heap s'.heap∧s'.os=s₁.os∧AllBare s'.gens) s₁:=by
  intro H hO hS hok hA hK
  have base_of:∀{b:Addr}{o:Obj},s₁.heap.get? b=some o→H b=none→(ur s₁.heap H).get? b=some o:=fun e n=>AU e n
  have noA:∀{b:Addr}{o:Obj}{es:Array DictEntry}{ep:Nat},s₁.heap.get? b=some o→o.data=.dict es ep→H b=none:=fun {b o es ep} e d=>by
   cases q:H b with
   | none=>rfl
   | some u =>
    have e':b=a:=hA b (by rw[q];simp)
    subst e'
    rw[ha] at e;cases e
    have d':Data.seq vs.toArray _=Data.dict es ep:=d
    cases d'
  have nsK:∀{b:Addr}{m:Str→Option Value},s₁.heap.Ns b m→(ur s₁.heap H).Ns b m:=fun {b m} ⟨o,es,ep,e,d,r⟩=>⟨o,es,ep,base_of e (noA e d),d,r⟩
  have hKb:K.In (ur s₁.heap H):=fun b o e=>base_of (KX b o e) (by
   cases q:H b with
   | none=>rfl
   | some u =>
    have e':b=a:=hA b (by rw[q];simp)
    subst e'
    rw[hK (by rw[q];simp)] at e;cases e)
  have hM:Mod K mg (ur s₁.heap H):=⟨hKb,nsK hns,⟨mb,nsK hb,hbb⟩,let ⟨mc,h1,h2⟩:=hlim;⟨mc,nsK h1,h2⟩⟩
  have e0:xF P w K mg (ur s₁.heap H) callerA [] s₁ H:=⟨rfl,hM,fun b o e=>C1 e,Nat.le_of_eq (zV _ _),trivial,fun b hb=>absurd (show b∈([]:List Addr) from hb) (by simp),hok,.of_eq hg⟩
  refine codeAny_mono ((F _ hKb (nsK hns)).run callerA [] s₁ H ⟨[.ref a],[]⟩ [.ref a] [.ref a] _ _ hr e0 (hbind s₁ (.ref a)) (.cons rfl .nil) (hsp H hO hS)) fun r s' h=>?_
  cases r with
  | error e=>exact (hCX H e s' h).elim
  | ok fl =>
   cases fl with
   | next=>exact False.elim h
   | brk=>exact False.elim h
   | cont=>exact False.elim h
   | ret u =>
    obtain ⟨v,H',os,bare,un,hok',r',q⟩:=h
    have q':v=.bl true:=q
    subst q'
    obtain rfl:u=Value.bool true:=r'
    refine⟨rfl,OldK.of_keep fun b o e=>?_,os,bare⟩
    cases q:H b with
    | none=>exact un.keep b o e q (by intro z;exact absurd (show b∈([]:List Addr) from z) (by simp)) (by simp)
    | some u =>
     rcases hO b with z | ⟨ob,xs,z⟩
     ·rw[q] at z;cases z
     ·have z2:=un.frzs b ob _ z
      obtain ⟨e1,_⟩:=hok b _ z
      obtain ⟨e2,_⟩:=hok' b _ z2
      rw[e] at e1;cases e1
      exact e2
 cases hk:K.lookup a with
 | some o =>
  have e:=KX a o hk
  rw[ha] at e
  cases e
  refine core (fun _=>none) (fun _=>.inl rfl) (.inr ⟨_,vs.toArray,_,hk,rfl,rfl,rfl,by rw[List.size_toArray,lenV];exact hl,by simpa using rv⟩) (fun b u z=>by have z':(none:Option HO)=some u:=z;cases z') (fun b z=>absurd rfl z) fun z=>absurd rfl z
 | none =>
  refine core (fun b=>if b=a then some (.frz { cls:=.type "list",data:=.seq vs.toArray } (.lst (ns.map V.int))) else none) (fun b=>?_) (.inl (.inr ⟨{ cls:=.type "list",data:=.seq vs.toArray },if_pos rfl⟩)) (fun b u z=>?_) (fun b z=>?_) fun _=>hk
  ·by_cases hb:b=a
   ·exact .inr ⟨_,_,if_pos hb⟩
   ·exact .inl (if_neg hb)
  ·by_cases hb:b=a
   ·have z':=(if_pos hb).symm.trans z
    cases z'
    subst hb
    exact⟨ha,by rw[List.length_map];exact hl,vs,_,rv,ha⟩
   ·have z':=(if_neg hb).symm.trans z
    cases z'
  ·by_cases hb:b=a
   ·exact hb
   ·exact absurd (if_neg hb) z
end L2
namespace L2
open PySem PySem.Spec PyProof.Rows
theorem xT {l:PySem.W.OpenLaw}{n k:Nat}{q:Program}{loose:List Str}{XP:(Str→Option Value)→Heap→Prop}{YP:World→Heap→Prop}{d:DefRec}{K:Params→PySem.W.Frag}{CX:World→CXT}{sp:World→Sp}{x:Str}
  (hn:l.most=some n) (hn2:n≤sizeLine) (hdf:d.params.defaults=[]) (hr:hV k callerA)
  (hY:∀(w:World) (h:Heap),YP w h→(K w.params).In h)
  (F:∀(w:World) (mg:Str→Option Value) (fa:Addr) (h:Heap),(K w.params).In h→h.Ns mainGlobals mg→mg d.name=some (.ref fa) →
   ∃fd:FuncData,(∀(s:Shared) (u:Value),BindsTo s fd ⟨[u],[]⟩ [(x,u)]) ∧
    ∀base:Heap,(K w.params).In base→base.Ns mainGlobals mg→bc l.prog w (K w.params) mg base (CX w) k fa fd [x] (sp w))
  (hsp:∀(w:World) (H:Hp) (a:Addr) (ns:List Int),ns.length≤n→Dx H→SqL (K w.params) H a (ns.map V.int)→sp w [.ref a] H (fun v _=>v=.bl true) fun _ _ _=>False)
  (hCX:∀(w:World) (H:Hp) (s:Shared) (e:Value) (s':Shared),CX w [] H s (fun _ _ _=>False) e s'→False) :
  PySem.W.WalkO q loose XP YP l.row.toRowW d [] (fun f vs=>PySem.call f vs):=by
 refine Att.vt hn hdf fun w s₀ s₁ mg mb fa o pm cd doc a vs ns G Y ho hd hcd hmg hobj hints hlen hg=>?_
 have KX:=hY w _ Y
 obtain ⟨fd,hb,hF⟩:=F w mg fa _ KX G.T.g hmg
 exact Cu KX G.T.g G.T.b G.T.builtins G.T.nolimit hg hobj hints (Nat.le_trans hlen hn2) hr hF hb (fun H hO hS=>hsp w H a ns hlen hO hS) fun H e s'=>hCX w H s₁ e s'
end L2
/- THE LAST THEOREM (shape; LID, My.* are yours):
   My.Adr: a structure of the addresses that your layer names (classes,functions);My.Txt K t: a structure (Prop) of the equations over K;
   My.txt_mk:{K}{implicit addresses ..} (e1:nsIn K mainGlobals "law" = some (some (.ref f))) (e2:K.lookup f=some ⟨oc,od,.func (fnOf "law" "law" params body scope dV kV doc pm an cdv ct),sl⟩) (e3:codeIn K cdv "law" = true) .. : ∃t,My.Txt K t
set_option maxRecDepth 100000 in
set_option maxHeartbeats 0 in
theorem PySem.Challenge.cw_LID_holds : PySem.Challenge.rw_LID.Holds := by
 w_on;o_law;k_head;(case hw=>w_witness2)
 k_fill
 refine L2.xT (l:=PySem.Challenge.rw_LID) (n:=63) (k:=40) (x:="script") (CX:=fun w=>..) (sp:=fun _=>My.sp_law) rfl (by decide) rfl ⟨rfl,by decide,by decide⟩ (fun w h Y=>PySem.W.kIn_of Y) ?F ?S ?C
 case F =>
  intro w mg fa h KX G hmg
  have T:∃t,My.Txt (L2.KOf KX) t:=by
   dsimp only[L2.KOf]                          -- K must stand as «<heap const> w.params» for k_is
   refine' My.txt_mk ?e1 ?e2 ?e3 ..
   (case e1=>PySem.W.k_is)                    -- in the order: a name -> its address -> its object -> its parts
   (case e2=>PySem.W.k_is)
   ..
  obtain ⟨t,T⟩:=T
  have e0:=hmg.symm.trans (PySem.W.mg_of KX G T.law)
  cases e0                                       -- fa is the law's own address
  exact⟨_,fun s u=>.of_eq rfl,fun base kb nb=>My.law_fn T kb nb⟩     -- if «.of_eq rfl» comes too early: refine' ⟨_,?b,fun base kb nb=>My.law_fn T kb nb⟩;exact fun s u=>.of_eq rfl
 case S=>exact fun w H a ns hl hO hS=>..
 case C=>exact ..
(the tactic k_is has no namespace: write k_is) -/
namespace L2
open PySem PySem.Spec PyProof.Rows
def aW (s:Stmt):Arguments:=match s with
 | .FunctionDef _ a _ _ _ _ _ _ _ _=>a
 | _=>{ posonlyargs:=[],args:=[],vararg:=none,kwonlyargs:=[],kw_defaults:=[],kwarg:=none,defaults:=[] }
def aS (s:Stmt):List Stmt:=match s with
 | .FunctionDef _ _ b _ _ _ _ _ _ _=>b
 | _=>[]
def aq (s:Stmt):Scope:=match s with
 | .FunctionDef _ _ _ _ _ _ sc _ _ _=>sc
 | _=>{ kind:=.function,names:=[],isGenerator:=false,isCoroutine:=false }
abbrev CX0:CXT:=fun _ _ _ _ _ _=>False
abbrev E0:XK:=fun _ _ _=>False
theorem bz {X:Cx}:Passes CX0 X E0:=fun _ _ _ _ _ _ _ h=>h.elim
structure Fun (K:PySem.W.Frag) (x qual:Str) (st:Stmt) (f:Addr) (fd:FuncData):Prop where
 ex:∃(oc:Value) (od:Option Addr) (kV doc pm:Value) (an:Option Addr) (cdv ct:Value) (osl:Array (Option Value)),
  fd=PySem.W.fnOf x qual (aW st) (aS st) (aq st) .none kV doc pm an cdv ct∧K.lookup f=some ⟨oc,od,.func fd,osl⟩∧PySem.W.codeIn K cdv qual=true
 kp:PySem.W.keepIn K (.ref f)=true
section
variable {P:Program}{w:World}{K:PySem.W.Frag}{mg:Str→Option Value}{base:Heap}
theorem Fun.ok {x qual:Str}{st:Stmt}{f:Addr}{fd:FuncData}{N ps:List Str}{k:Nat}{sp:Sp} (F:Fun K x qual st f fd) (S:bb N ps (aq st)) (len:∀vs H Q E,sp vs H Q E→vs.length=ps.length)
  (hbody:∀(cdv:Value) (A:Around) (outer:List Env) (s:Shared) (H:Hp) (vs:List V) (Q:VK) (E:XK),hV k (A.deeper (envOfC qual (aq st) s.heap.objs.size f cdv))→sp vs H Q E →
   ∃t,PSs (nF CX0 P w K mg base N qual (aq st) f cdv A outer s H E).nox (aS st) t∧t { nx:=fun _ H'=>Q .non H',rt:=Q } (start N vs) H):bc P w K mg base CX0 (k+1) f fd ps sp:=by
 obtain ⟨oc,od,kV,doc,pm,an,cdv,ct,osl,rfl,lk,hcd⟩:=F.ex
 refine Ey lk hcd S len fun A outer s H vs Q E hr hsp=>?_
 obtain ⟨t,h,q⟩:=hbody cdv A outer s H vs Q E hr hsp
 exact⟨t,h.nox,q⟩
theorem Fun.binds {x qual:Str}{st:Stmt}{f:Addr}{fd:FuncData}{ps:List Str} (F:Fun K x qual st f fd)
  (h:∀(kV doc pm:Value) (an:Option Addr) (cdv ct:Value) (us:List Value),us.length=ps.length→bindArgs (PySem.W.fnOf x qual (aW st) (aS st) (aq st) .none kV doc pm an cdv ct) ⟨us,[]⟩=pure (ps.zip us)):Binds K fd ps []:=by
 obtain ⟨oc,od,kV,doc,pm,an,cdv,ct,osl,rfl,lk,hcd⟩:=F.ex
 exact .all (h kV doc pm an cdv ct)
theorem bC {x qual:Str}{st:Stmt}{f:Addr}{oc:Value}{od an:Option Addr}{osl:Array (Option Value)}{kV doc pm cdv ct:Value} (l:K.lookup f=some ⟨oc,od,.func (PySem.W.fnOf x qual (aW st) (aS st) (aq st) .none kV doc pm an cdv ct),osl⟩)
  (c:PySem.W.codeIn K cdv qual=true) (k:PySem.W.keepIn K (.ref f)=true):Fun K x qual st f (PySem.W.fnOf x qual (aW st) (aS st) (aq st) .none kV doc pm an cdv ct):=⟨⟨oc,od,kV,doc,pm,an,cdv,ct,osl,rfl,l,c⟩,k⟩
end
theorem vB {A:Around}{k:Nat} (hr:hV k A):A.units+1<cLine:=Nat.lt_of_le_of_lt (Nat.add_le_add_left (by decide:1≤64) _) hr.units
theorem nz {n:Nat} (h:n≤1000):n<sizeLine:=Nat.lt_of_le_of_lt h (by decide)
section
variable {X:Cx}
theorem pv (i:Nat) {x:Str}{pos:Pos} (hN:X.N[i]?=some x:=by rfl) (hv:Vis X.env.scope x:=by first | exact Or.inl rfl | exact Or.inr (Or.inl rfl) | exact Or.inr (Or.inr rfl)) (hd:(x == ("__debug__" : Str))=false:=by decide)
  (hcd:(x == ("__classdict__" : Str))=false:=by decide):PE X (.Name x pos) (eU i):=FG hN hv hd hcd
end
def aJ (H H':Hp):Prop:=∀b o,H b=some o→H' b=some o
theorem aJ.refl (H:Hp):aJ H H:=fun _ _ h=>h
theorem aJ.trans {H H1 H2:Hp} (a:aJ H H1) (b:aJ H1 H2):aJ H H2:=fun c o h=>b c o (a c o h)
theorem aJ.free {H H':Hp} (e:aJ H H') {l:Addr} (h:H' l=Option.none):H l=Option.none:=by
 cases q:H l with
 | none=>rfl
 | some o =>
  rw[e l o q] at h
  cases h
theorem aJ.seq {K:PySem.W.Frag}{H H':Hp}{a:Addr}{xs:List V} (e:aJ H H') (h:SqL K H a xs):SqL K H' a xs:=by
 rcases h with (h | ⟨o,h⟩) | h
 ·exact .inl (.inl (e _ _ h))
 ·exact .inl (.inr ⟨o,e _ _ h⟩)
 ·exact .inr h
end L2
set_option maxHeartbeats 4000000
namespace L2
open PySem PySem.Spec PyProof.Rows
def eP (env:Env):List (Str × NameKind)→List (Str × Addr)→List (Str × Addr)
 | [],acc=>acc
 | (n,k)::r,acc=>eP env r (if k == .free then (n,(env.cells.lookup n).getD 0)::acc else acc)
theorem rE {scope:Scope}{env:Env} (h:∀n,(n,NameKind.free)∈scope.names→∃c,env.cells.lookup n=some c):closureFor scope env=pure (eP env scope.names []):=by
 have go:∀(names:List (Str × NameKind)) (acc:List (Str × Addr)),(∀n,(n,NameKind.free)∈names→∃c,env.cells.lookup n=some c) →
   (forIn names acc (fun (x:Str × NameKind) (cs:List (Str × Addr))=>match x with
    | (name,kind)=>if (kind == .free)=true then (do let c ← cellOf env name;pure (ForInStep.yield ((name,c)::cs))) else pure (ForInStep.yield cs)):Sem (List (Str × Addr)))=pure (eP env names acc):=by
  intro names
  induction names with
  | nil=>intro acc _;rfl
  | cons x r ih =>
   intro acc hn
   obtain ⟨n,k⟩:=x
   rw[List.forIn_cons]
   have hr:∀m,(m,NameKind.free)∈r→∃c,env.cells.lookup m=some c:=fun m hm=>hn m (List.mem_cons_of_mem _ hm)
   by_cases hk:k=.free
   ·subst hk
    obtain ⟨c,hc⟩:=hn n List.mem_cons_self
    have e:cellOf env n=pure c:=by unfold cellOf;rw[hc]
    have e2:eP env ((n,NameKind.free)::r) acc=eP env r ((n,c)::acc):=by
     show eP env r (if (NameKind.free == NameKind.free)=true then (n,(env.cells.lookup n).getD 0)::acc else acc)=_
     rw[if_pos (by decide),hc];rfl
    rw[e2,← ih _ hr]
    show (do let __do_lift ← (if (NameKind.free == NameKind.free)=true then (do let c ← cellOf env n;pure (ForInStep.yield ((n,c)::acc))) else pure (ForInStep.yield acc):Sem (ForInStep (List (Str × Addr))));_)=_
    rw[if_pos (by decide),e]
    rfl
   ·have hb:(k == NameKind.free)=false:=by simpa using hk
    have e2:eP env ((n,k)::r) acc=eP env r acc:=by
     show eP env r (if (k == NameKind.free)=true then (n,(env.cells.lookup n).getD 0)::acc else acc)=_
     rw[hb];rfl
    rw[e2,← ih _ hr]
    show (do let __do_lift ← (if (k == NameKind.free)=true then (do let c ← cellOf env n;pure (ForInStep.yield ((n,c)::acc))) else pure (ForInStep.yield acc):Sem (ForInStep (List (Str × Addr))));_)=_
    rw[hb]
    rfl
 have e:=go scope.names [] h
 unfold closureFor
 exact congrArg (fun (m:Sem (List (Str × Addr)))=>m >>= fun r=>pure r) e
theorem qb {env:Env}:∀{names:List (Str × NameKind)}{acc:List (Str × Addr)}{n:Str}{c:Addr},(n,c)∈eP env names acc→(n,c)∈acc∨((n,NameKind.free)∈names∧c=(env.cells.lookup n).getD 0)
 | [],acc,n,c,h=>.inl h
 | (m,k)::r,acc,n,c,h=>by
  rcases qb (names:=r) h with h | ⟨h,e⟩
  ·by_cases hk:k=.free
   ·subst hk
    rw[if_pos (by decide)] at h
    rcases List.mem_cons.mp h with e | h
    ·cases e;exact .inr ⟨List.mem_cons_self,rfl⟩
    ·exact .inl h
   ·have hb:(k == NameKind.free)=false:=by simpa using hk
    rw[hb] at h
    exact .inl h
  ·exact .inr ⟨List.mem_cons_of_mem _ h,e⟩
theorem gY {α:Type}:∀{l:List (Str × α)}{n:Str}{c:α},(n,c)∈l→∃d,l.lookup n=some d
 | [],_,_,h=>nomatch h
 | (k,v)::r,n,c,h=>by
  rw[List.lookup_cons]
  cases hb:n == k with
  | true=>exact⟨v,rfl⟩
  | false =>
   rcases List.mem_cons.mp h with e | h
   ·cases e;simp at hb
   ·exact gY h
theorem pE {env:Env}:∀{names:List (Str × NameKind)}{acc:List (Str × Addr)}{n:Str}{c:Addr},(n,c)∈acc→(n,c)∈eP env names acc
 | [],acc,n,c,h=>h
 | (m,k)::r,acc,n,c,h=>by
  refine pE (names:=r) ?_
  split
  ·exact List.mem_cons_of_mem _ h
  ·exact h
theorem lQ {env:Env}:∀{names:List (Str × NameKind)}{acc:List (Str × Addr)}{n:Str},(n,NameKind.free)∈names→(n,(env.cells.lookup n).getD 0)∈eP env names acc
 | [],acc,n,h=>nomatch h
 | (m,k)::r,acc,n,h=>by
  rcases List.mem_cons.mp h with e | h
  ·cases e
   refine pE (names:=r) ?_
   rw[if_pos (by decide)]
   exact List.mem_cons_self
  ·exact lQ (names:=r) h
theorem jn:∀{names:List (Str × NameKind)}{n:Nat}{acc:List (Str × Addr)}{x:Str}{c:Addr},(x,c)∈cellsFrom n names acc→(x,c)∈acc∨((x,NameKind.cell)∈names∧n≤c)
 | [],n,acc,x,c,h=>.inl h
 | (m,k)::r,n,acc,x,c,h=>by
  unfold cellsFrom at h
  by_cases hk:k=.cell
  ·subst hk
   rw[if_pos (by decide)] at h
   rcases jn (names:=r) h with h | ⟨h,e⟩
   ·rcases List.mem_cons.mp h with e | h
    ·cases e;exact .inr ⟨List.mem_cons_self,Nat.le_refl _⟩
    ·exact .inl h
   ·exact .inr ⟨List.mem_cons_of_mem _ h,by omega⟩
  ·have hb:(k == NameKind.cell)=false:=by simpa using hk
   rw[hb] at h
   rcases jn (names:=r) h with h | ⟨h,e⟩
   ·exact .inl h
   ·exact .inr ⟨List.mem_cons_of_mem _ h,e⟩
theorem fM:∀{names:List (Str × NameKind)}{n:Nat}{acc:List (Str × Addr)}{x:Str}{c:Addr},(x,c)∈acc→(x,c)∈cellsFrom n names acc
 | [],n,acc,x,c,h=>h
 | (m,k)::r,n,acc,x,c,h=>by
  unfold cellsFrom
  split
  ·exact fM (names:=r) (List.mem_cons_of_mem _ h)
  ·exact fM (names:=r) h
theorem jq:∀{names:List (Str × NameKind)}{n:Nat}{acc:List (Str × Addr)}{x:Str},(x,NameKind.cell)∈names→∃c,(x,c)∈cellsFrom n names acc
 | [],n,acc,x,h=>nomatch h
 | (m,k)::r,n,acc,x,h=>by
  unfold cellsFrom
  rcases List.mem_cons.mp h with e | h
  ·cases e
   rw[if_pos (by decide)]
   exact⟨n,fM (names:=r) List.mem_cons_self⟩
  ·split
   ·exact jq (names:=r) h
   ·exact jq (names:=r) h
theorem iZ:∀{names:List (Str × NameKind)}{h:Heap}{acc:List (Str × Addr)}{x:Str}{c:Addr},(x,c)∈cellsFrom h.objs.size names acc→(x,c)∈acc∨(pushCells h names).IsCell c none
 | [],h,acc,x,c,m=>.inl m
 | (n,k)::r,h,acc,x,c,m=>by
  unfold cellsFrom at m
  unfold pushCells
  split at m
  ·rename_i hk
   rw[if_pos hk]
   have m':(x,c)∈cellsFrom (h.push { cls:=.type "cell",data:=.cell none }).objs.size r ((n,h.objs.size)::acc):=by rw[Heap.size_push];exact m
   rcases iZ (names:=r) m' with z | z
   ·rcases List.mem_cons.mp z with e | z
    ·cases e
     exact .inr ⟨_,pushCells_keeps _ _ _ _ (Heap.get?_push_size _ rfl),rfl⟩
    ·exact .inl z
   ·exact .inr z
  ·rename_i hk
   rw[if_neg hk]
   exact iZ (names:=r) m
theorem jk:∀{names:List (Str × NameKind)}{n:Nat}{acc:List (Str × Addr)},(∀x c,(x,c)∈acc→c<n)→(∀x y c,(x,c)∈acc→(y,c)∈acc→x=y) →
  ∀x y c,(x,c)∈cellsFrom n names acc→(y,c)∈cellsFrom n names acc→x=y
 | [],n,acc,lt,inj,x,y,c,h,h'=>inj x y c h h'
 | (m,k)::r,n,acc,lt,inj,x,y,c,h,h'=>by
  unfold cellsFrom at h h'
  split at h
  ·rename_i hk
   rw[if_pos hk] at h'
   refine jk (names:=r) (n:=n+1) (acc:=(m,n)::acc) (fun x c hm=>?_) (fun x y c hm hm'=>?_) x y c h h'
   ·rcases List.mem_cons.mp hm with e | hm
    ·cases e;exact Nat.lt_succ_self _
    ·exact Nat.lt_succ_of_lt (lt _ _ hm)
   ·rcases List.mem_cons.mp hm with e | hm<;>rcases List.mem_cons.mp hm' with e' | hm'
    ·cases e;cases e';rfl
    ·cases e;exact absurd (lt _ _ hm') (Nat.lt_irrefl _)
    ·cases e';exact absurd (lt _ _ hm) (Nat.lt_irrefl _)
    ·exact inj _ _ _ hm hm'
  ·rename_i hk
   rw[if_neg hk] at h'
   exact jk (names:=r) lt inj x y c h h'
theorem iJ {env:Env}:∀{names:List (Str × NameKind)}{x:Str},
  (names.map fun (n,k)=>if (k == NameKind.free && env.scope.kind == .function && env.kindOf n == some .cell) then (n,NameKind.cell) else (n,k)).lookup x =
   (names.lookup x).map fun k=>if (k == NameKind.free && env.scope.kind == .function && env.kindOf x == some .cell)=true then NameKind.cell else k
 | [],x=>rfl
 | (n,k)::r,x=>by
  have ih:=@iJ env r x
  show List.lookup x ((if (k == NameKind.free && env.scope.kind == .function && env.kindOf n == some .cell)=true then (n,NameKind.cell) else (n,k))::_)=_
  have e:(if (k == NameKind.free && env.scope.kind == .function && env.kindOf n == some .cell)=true then (n,NameKind.cell) else (n,k))=(n,if (k == NameKind.free && env.scope.kind == .function && env.kindOf n == some .cell)=true then NameKind.cell else k):=by split<;>rfl
  rw[e,List.lookup_cons,List.lookup_cons]
  cases hx:x == n with
  | true =>
   have hx':=beq_iff_eq.mp hx
   subst hx'
   rfl
  | false=>exact ih
structure aO (X:Cx) (scope:Scope) (tn cap:List Str) (idx:List Nat):Prop where
 kind:scope.kind=.function
 nd:(scope.names.map (·.1)).Nodup
 tnd:(tn++cap).Nodup
 ct:∀y∈cap,scope.names.lookup y=some .free
 ci:idx.map (fun i=>X.N[i]?)=cap.map some
 fr:∀y∈scope.names,y.2=.free→X.env.scope.names.lookup y.1=some .cell∨X.env.scope.names.lookup y.1=some .free
theorem kP {α:Type}:∀{l:List (Str × α)}{n:Str}{c:α},(l.map (·.1)).Nodup→(n,c)∈l→l.lookup n=some c
 | [],_,_,_,h=>nomatch h
 | (k,v)::r,n,c,nd,h=>by
  obtain ⟨h1,h2⟩:=List.nodup_cons.mp nd
  rw[List.lookup_cons]
  rcases List.mem_cons.mp h with e | hm
  ·cases e;simp
  ·have hne:n≠k:=fun e=>h1 (List.mem_map.mpr ⟨_,hm,e⟩)
   have hb:(n == k)=false:=beq_eq_false_iff_ne.mpr hne
   rw[hb]
   exact kP h2 hm
def zM (σ:St) (idx:List Nat):St:=idx.map fun i=>(σ[i]?).getD none
def gG (k:Nat) (idx:List Nat) (σ:St):St:=List.replicate k none++zM σ idx
def cxC (X:Cx) (N':List Str) (scope:Scope) (cs:List (Str × Addr)) (C:Addr) (fp:List Addr) (s₀:Shared) (H₀:Hp):Cx where
 prog:=X.prog
 w:=X.w
 K:=X.K
 mg:=X.mg
 base:=X.base
 A:=X.A
 N:=N'
 s₀:=s₀
 H₀:=H₀
 env:=compEnvC scope cs C X.env
 outer:=X.stack
 stack:=X.stack
 ex:=fp
 fn:=fun x=>scope.names.lookup x == some .local || scope.names.lookup x == some .cell
 calm:=X.calm
 pn:=[]
 xe:=fun _ _=>False
theorem mP {M:Model}{A:Around}{E:Value→Shared→Prop}{s:Shared}{scope:Scope}{globals:Addr}{cl:List (Str × Addr)}{qual:Str}{xQ:Env}{Q:Env→Shared→Prop}
  (hQ:Q { scope:=scope,locals:=s.heap.objs.size,globals:=globals,cells:=cellsFrom (s.heap.objs.size+1) scope.names cl,qual:=qual,func:=none,code:=xQ.code,frame:=xQ.frame,builtins:=xQ.builtins }
   { s with heap:=pushCells (s.heap.push { cls:=.type "dict",data:=.dict #[] }) scope.names }) :
  wpAny M A (newFunctionEnv scope globals cl [] qual none .none (some xQ)) Q E s:=by
 simp only[newFunctionEnv,Option.isSome_some,if_true]
 refine wpAny_bind (wpAny_alloc ?_)
 refine wpAny_bind (wpAny_layCells _ (fun name kind cells=>by cases hkc:kind == NameKind.cell<;>simp [hkc]) _ _ _ _ ?_)
 rw[show ({ s with heap:=s.heap.push { cls:=.type "dict",data:=.dict #[] } }:Shared).heap.objs.size=s.heap.objs.size+1 from Heap.size_push ..]
 exact wpAny_bind (wpAny_pure (wpAny_pure hQ))
section
variable {prog:Program}{w:World}{A:Around}{R:Result→Shared→Prop}{s:Shared}
theorem tE {elt target iter:Expr}{ifs:List Expr}{scope:Scope}{pos:Pos}{it acc:Value}{env:Env} (I:Nat→Shared→Prop)
  (turn:∀n s,I n s→wpAny (model prog w) A (pyNext it) (fun r s₁=>match r with
   | none=>R (.ok .next) s₁
   | some v=>wpAny (model prog w) A (letOwnedTupleGo target it v) (fun _ s₁'=>wpAny (model prog w) A (assign target env v) (fun _ s₂ =>
     wpAny (model prog w) A (forIn ifs true fun c r=>if r=true then do let ok ← isTrue c env (eval c env);pure (ForInStep.yield ok) else pure (ForInStep.yield r)) (fun ok s₃ =>
      if ok=true then wpAny (model prog w) A (eval elt env) (fun x s₄ =>
       wpAny (model prog w) A (call (.builtin "list.append") [acc,x]) (fun _ s₅=>∃m,m<n∧I m s₅) (fun _ _=>False) s₄) (fun _ _=>False) s₃
      else ∃m,m<n∧I m s₃) (fun _ _=>False) s₂) (fun _ _=>False) s₁') (fun _ _=>False) s₁) (fun _ _=>False) s)
  (n:Nat) (h:I n s) :
  codeAny (model prog w) A (.compLoop (.ListComp elt [⟨target,iter,ifs,0⟩] scope pos) 0 it acc env) R s:=by
 refine codeAny_loop rfl I (fun n s hI=>?_) n h
 show wpAny _ A ((compTurn (.ListComp elt [⟨target,iter,ifs,0⟩] scope pos) 0 it acc env).onRaise (fun x=>do noteFrame x env;theTreesLotGoes x)) _ _ s
 refine wpAny_noted ?_
 rw[compTurn_list]
 refine wpAny_bind (wpAny_standAt (wpAny_bind (wpAny_mono (turn n s hI) (fun r s₁ h₁=>?_) fun _ _ h'=>h'.elim)))
 cases r with
 | none=>exact wpAny_pure h₁
 | some v =>
  refine wpAny_bind (wpAny_mono h₁ (fun _ s₁' h₁'=>?_) fun _ _ h'=>h'.elim)
  refine wpAny_bind (wpAny_mono h₁' (fun _ s₂ h₂=>wpAny_bind (wpAny_mono h₂ (fun ok s₃ h₃=>?_) fun _ _ h'=>h'.elim)) fun _ _ h'=>h'.elim)
  cases ok with
  | false=>exact wpAny_pure ⟨rfl,h₃⟩
  | true =>
   exact wpAny_bind (wpAny_bind (wpAny_mono h₃ (fun x s₄ h₄=>wpAny_bind (wpAny_mono h₄ (fun _ s₅ h₅=>wpAny_pure (wpAny_pure ⟨rfl,h₅⟩)) fun _ _ h'=>h'.elim)) fun _ _ h'=>h'.elim))
end
section
variable {X:Cx}{pins:List (Addr × Obj)}{σ:St}{H:Hp}{s2:Shared}{scope:Scope}{tn cap:List Str}{idx:List Nat}{fp:List Addr}
abbrev nY:Obj:={ cls:=.type "list",data:=.seq ([]:List Value).toArray }
abbrev BQ:Obj:={ cls:=.type "dict",data:=.dict #[] }
abbrev vh (h:Heap) (scope:Scope):Heap:=pushCells ((h.push nY).push BQ) scope.names
abbrev tM (X:Cx) (h:Heap) (scope:Scope):List (Str × Addr):=cellsFrom (h.objs.size+1+1) scope.names (eP X.env scope.names [])
theorem AO {σ:St}{idx:List Nat}{j:Nat}{v:V} (h:(zM σ idx)[j]?=some (some v)):∃i,idx[j]?=some i∧σ[i]?=some (some v):=by
 unfold zM at h
 rw[List.getElem?_map] at h
 cases e:idx[j]? with
 | none=>rw[e] at h;cases h
 | some i =>
  rw[e] at h
  have h':(σ[i]?).getD none=some v:=Option.some.inj h
  refine⟨i,rfl,?_⟩
  cases q:σ[i]? with
  | none=>rw[q] at h';cases h'
  | some o=>rw[q] at h';have h'':o=some v:=h';rw[h'']
theorem wO (I:Inv X pins σ H s2) (S:aO X scope tn cap idx) (hf:∀b∈fp,qN X pins H b) (hfl:∀b∈fp,b<s2.heap.objs.size) :
  Inv (cxC X (tn++cap) scope (tM X s2.heap scope) (s2.heap.objs.size+1) fp s2 H) [(s2.heap.objs.size,nY)] (gG tn.length idx σ) H { s2 with heap:=vh s2.heap scope }:=by
 have old:∀b o,s2.heap.get? b=some o→(vh s2.heap scope).get? b=some o:=fun b o e=>pushCells_keeps _ _ _ _ (Heap.get?_push_of_some _ (Heap.get?_push_of_some _ e))
 have hsz:((s2.heap.push nY).push BQ).objs.size=s2.heap.objs.size+1+1:=by rw[Heap.size_push,Heap.size_push]
 have hacc:(vh s2.heap scope).get? s2.heap.objs.size=some nY:=pushCells_keeps _ _ _ _ (Heap.get?_push_of_some _ (Heap.get?_push_size _ rfl))
 have hns:(vh s2.heap scope).Ns (s2.heap.objs.size+1) (fun _=>none):=by
  have e:=(Heap.Ns.new (s2.heap.push nY) (.type "dict")).keeps (pushCells_keeps scope.names _)
  rw[Heap.size_push] at e
  exact e
 have clm:∀x c,(x,c)∈eP X.env scope.names []→X.env.cells.lookup x=some c∧(x,NameKind.free)∈scope.names:=fun x c h=>by
  rcases qb h with z | ⟨z,e⟩
  ·nomatch z
  ·obtain ⟨d,hd⟩:=I.ok.has x (S.fr _ z rfl)
   rw[hd] at e
   have e':c=d:=e
   subst e'
   exact⟨hd,z⟩
 have csm:∀x c,(x,c)∈tM X s2.heap scope→(X.env.cells.lookup x=some c∧(x,NameKind.free)∈scope.names)∨((x,NameKind.cell)∈scope.names∧s2.heap.objs.size+1+1≤c):=fun x c h=>by
  rcases jn h with z | z
  ·exact .inl (clm x c z)
  ·exact .inr z
 have clt:∀x c,X.env.cells.lookup x=some c→c<s2.heap.objs.size:=fun x c h=>by
  obtain ⟨v,q⟩:=I.cell x c h
  exact q.lt
 have freeK:∀x,(x,NameKind.free)∈scope.names→scope.names.lookup x=some .free:=fun x h=>kP S.nd h
 have cellK:∀x,(x,NameKind.cell)∈scope.names→scope.names.lookup x=some .cell:=fun x h=>kP S.nd h
 refine⟨⟨I.ok.mod,S.kind,I.ok.glob,I.ok.blt,Nat.le_succ _,fun x y c h1 h2=>?_,fun x hx=>?_,fun x c hfn h=>?_,I.ok.hd,I.ok.frames,.inl rfl,fun b hb=>⟨?_,fun x c h=>?_⟩,I.bs,Nat.le_trans I.ok.bsz I.sz,fun b o e hb=>?_,fun b hb z=>?_,I.stack,I.ue⟩,
  rfl,I.bare,Un.kept old,⟨_,hns,fun i x v e1 e2 e3=>?_⟩,fun x c h=>?_,I.hok.fresh (Nat.le_succ _),fun x c h=>?_,fun p hp=>?_,I.hok.kept old,?_⟩
 ·exact jk (fun x c h=>Nat.lt_succ_of_lt (Nat.lt_succ_of_lt (clt x c (clm x c h).1))) (fun x y c h h'=>I.ok.inj x y c (clm x c h).1 (clm y c h').1) x y c (PySem.mem_of_lookup h1) (PySem.mem_of_lookup h2)
 ·have hx:(relabel scope X.env).names.lookup x=some .cell∨(relabel scope X.env).names.lookup x=some .free:=hx
  have e:=@iJ X.env scope.names x
  have hk:∃k,scope.names.lookup x=some k∧(k=.cell∨k=.free):=by
   cases q:scope.names.lookup x with
   | none =>
    rw[q] at e
    rcases hx with z | z
    ·have z':=e.symm.trans z;cases z'
    ·have z':=e.symm.trans z;cases z'
   | some k =>
    rw[q] at e
    refine⟨k,rfl,?_⟩
    cases k with
    | cell=>exact .inl rfl
    | free=>exact .inr rfl
    | _ =>
     exfalso
     rcases hx with z | z
     ·have z':=e.symm.trans z;cases z'
     ·have z':=e.symm.trans z;cases z'
  obtain ⟨k,hk,hk2⟩:=hk
  have hm:=PySem.mem_of_lookup hk
  rcases hk2 with rfl | rfl
  ·obtain ⟨c,hc⟩:=jq (n:=s2.heap.objs.size+1+1) (acc:=eP X.env scope.names []) hm
   exact gY hc
  ·exact gY (fM (lQ (env:=X.env) (acc:=[]) hm))
 ·rcases csm x c (PySem.mem_of_lookup h) with ⟨_,z⟩ | ⟨_,z⟩
  ·have hfn:(scope.names.lookup x == some .local || scope.names.lookup x == some .cell)=true:=hfn
   rw[freeK x z] at hfn
   exact absurd hfn (by decide)
  ·show s2.heap.objs.size≤c
   omega
 ·-- b is not the block's frame
  intro z
  have z':b=s2.heap.objs.size+1:=z
  exact absurd (hfl b hb) (by rw[z'];exact Nat.not_lt.mpr (Nat.le_succ _))
 ·rcases csm x c (PySem.mem_of_lookup h) with ⟨z,_⟩ | ⟨_,z⟩
  ·exact (hf b hb).2.2.2.2.1 x c z
  ·intro e
   exact absurd (hfl b hb) (by rw[← e];exact Nat.not_lt.mpr (Nat.le_trans (Nat.le_trans (Nat.le_succ _) (Nat.le_succ _)) z))
 ·rcases (hf b hb).2.2.2.1 with z | z
  ·exact I.ok.noex b o e z
  ·exact absurd (Nat.lt_of_lt_of_le (Heap.lt_size e) (Nat.le_trans I.ok.bsz z)) (Nat.lt_irrefl _)
 ·obtain ⟨_,f1,f2,_⟩:=hf b hb
  rcases List.mem_cons.mp (I.pI b z) with e | e
  ·exact f1 e
  ·exact f2 e
 ·-- the names
  have e1:(tn++cap)[i]?=some x:=e1
  have e2:(gG tn.length idx σ)[i]?=some (some v):=e2
  unfold gG at e2
  by_cases hi:i<tn.length
  ·rw[List.getElem?_append_left (by rw[List.length_replicate];exact hi),List.getElem?_replicate,if_pos hi] at e2
   cases e2
  ·rw[List.getElem?_append_right (by rw[List.length_replicate];omega),List.length_replicate] at e2
   rw[List.getElem?_append_right (by omega)] at e1
   obtain ⟨i0,h1,h2⟩:=AO e2
   have hN:X.N[i0]?=some x:=by
    have q:=congrArg (fun l=>l[i - tn.length]?) S.ci
    simp only[List.getElem?_map,h1,e1,Option.map_some] at q
    exact Option.some.inj q
   have hfr:=S.ct x (List.mem_of_getElem? e1)
   have hmem:=PySem.mem_of_lookup hfr
   have hk:=S.fr _ hmem rfl
   obtain ⟨m,hn,hl⟩:=I.loc
   obtain ⟨u,r,l⟩:=hl i0 x v hN h2 (hk.elim (fun z=>.inr (.inl z)) fun z=>.inr (.inr z))
   refine⟨u,r,.inr ⟨?_,?_⟩⟩
   ·show (relabel scope X.env).names.lookup x=some .cell∨(relabel scope X.env).names.lookup x=some .free
    have e:=@iJ X.env scope.names x
    rw[hfr] at e
    have e':(relabel scope X.env).names.lookup x=some (if (NameKind.free == NameKind.free && X.env.scope.kind == .function && X.env.kindOf x == some .cell)=true then NameKind.cell else NameKind.free):=e
    rw[e']
    split
    ·exact .inl rfl
    ·exact .inr rfl
   ·rcases l with ⟨hk',_⟩ | ⟨_,c,hc,z⟩
    ·exfalso
     have hk':X.env.scope.names.lookup x=some .local:=hk'
     rcases hk with q | q
     ·have q:X.env.scope.names.lookup x=some .cell:=q
      rw[q] at hk';cases hk'
     ·have q:X.env.scope.names.lookup x=some .free:=q
      rw[q] at hk';cases hk'
    ·obtain ⟨d,hd⟩:=gY (fM (names:=scope.names) (n:=s2.heap.objs.size+1+1) (lQ (env:=X.env) (acc:=[]) hmem))
     refine⟨c,?_,z.keeps old⟩
     rcases csm x d (PySem.mem_of_lookup hd) with ⟨q,_⟩ | ⟨q,_⟩
     ·rw[hc] at q;cases q;exact hd
     ·have:=cellK x q;rw[hfr] at this;cases this
 ·have hm:(x,c)∈cellsFrom ((s2.heap.push nY).push BQ).objs.size scope.names (eP X.env scope.names []):=by rw[hsz];exact PySem.mem_of_lookup h
  rcases iZ hm with z | z
  ·obtain ⟨v,q⟩:=I.cell x c (clm x c z).1
   exact⟨v,q.keeps old⟩
  ·exact⟨_,z⟩
 ·rcases csm x c (PySem.mem_of_lookup h) with ⟨z,_⟩ | ⟨_,z⟩
  ·exact I.freeC x c z
  ·exact I.hok.fresh (by omega)
 ·have hp':p∈[(s2.heap.objs.size,nY)]:=hp
  obtain rfl:=List.mem_singleton.mp hp'
  refine⟨hacc,I.hok.fresh (Nat.le_refl _),Nat.ne_of_lt (Nat.lt_succ_self _),fun z=>?_,fun v z=>?_⟩
  ·rcases List.mem_cons.mp (I.pI _ z) with e | e
   ·exact absurd I.lt (by rw[← e];exact Nat.lt_irrefl _)
   ·exact I.HA (Nat.le_refl _) e
  ·have z':Data.seq _ _=Data.cell v:=z
   cases z'
 ·show (gG tn.length idx σ).length=(tn++cap).length
  have:=congrArg List.length S.ci
  unfold gG zM
  simp only[List.length_append,List.length_replicate,List.length_map] at this ⊢
  omega
theorem comp_back {N':List Str}{cs:List (Str × Addr)}{C D:Addr}{pins':List (Addr × Obj)}{σ':St}{H8:Hp}{s8:Shared}{vs:List V}{its:List Value}{n:Nat} (I:Inv X pins σ H s2) (hf:∀b∈fp,qN X pins H b)
  (J:Inv (cxC X N' scope cs C fp s2 H) pins' σ' H8 s8) (hD:s2.heap.objs.size≤D) (hD8:H8 D=none) (hget:s8.heap.get? D=some { cls:=.type "list",data:=.seq its.toArray n }) (r:Vals vs its) (hz:vs.length≤sizeLine) :
  Inv X pins σ (upd H8 D (.lst vs)) s8:=by
 have u:=J.base
 have hb:∀b o,s2.heap.get? b=some o→b≠D:=fun b o e=>Nat.ne_of_lt (Nat.lt_of_lt_of_le (Heap.lt_size e) hD)
 refine I.Fn (ch:=fp) J.os ⟨u.keep,u.slot,fun b o e n hx=>?_,u.there,fun b xs e=>?_,fun b o xs e=>?_,fun b ps e=>?_⟩ (fun b o e=>?_) J.bare fun b hbf=>?_
 ·rw[aI (hb b o e)];exact u.free b o e n hx
 ·have q:=u.tups b xs e
  rw[aI (bu q hD8)];exact q
 ·have q:=u.frzs b o xs e
  rw[aI (bu q hD8)];exact q
 ·obtain ⟨m,q⟩:=u.tbls b ps e
  exact⟨m,by rw[aI (bu q hD8)];exact q⟩
 ·by_cases e1:b=D
  ·subst e1
   rw[aK] at e
   cases e
   exact⟨hz,its,n,r,hget⟩
  ·rw[aI e1] at e
   exact (J.hok b o e).oO (fun _ _ _ q=>q) (fun c q=>by rw[aI (bu q hD8)];exact q) fun c xs q=>by rw[aI (bu q hD8)];exact q
 ·obtain ⟨_,f1,_,f3,f4,f5⟩:=hf b hbf
  exact⟨f3,f1,f4,f5⟩
def PTs (X:Cx) (ifs:List Expr) (tt:TT):Prop :=
 ∀(pins:List (Addr × Obj)) (s:Shared) (σ:St) (H:Hp) (Q:Bool→Hp→Prop),Inv X pins σ H s→tt σ H Q →
  wpAny (model X.prog X.w) X.A (forIn ifs true fun c r=>if r=true then do let ok ← isTrue c X.env (eval c X.env);pure (ForInStep.yield ok) else pure (ForInStep.yield r)) (TP X pins σ Q) X.xe s
def Ee:TT:=fun _ H Q=>Q true H
theorem zi:PTs X [] Ee:=fun _ _ _ H _ I h=>wpAny_tests_nil ⟨H,I,h⟩
theorem yr {c:Expr}{tc:TT} (h:PT X c tc):PTs X [c] tc:=fun pins s σ H Q I q=>wpAny_tests_one (h pins s σ H Q I q)
def vS (wi:TI) (g:TG) (tt:TT) (te:TE) (k:Nat) (idx:List Nat):TE:=fun σ H Q=>wi σ H fun J H1 =>
 ∃W:Nat→Nat→List V→Hp→Prop,(∃m,W 0 m [] H1)∧∀i m vs H,W i m vs H →
  (J.stop i H∧vs.length≤sizeLine∧∀p,H p=none→Q (.ref p) (upd H p (.lst vs))) ∨
  (J.go i H∧vs.length≤sizeLine∧∃N:List V→Hp→Prop,(∀vs' H',N vs' H'→∃m',m' < m∧W (i+1) m' vs' H')∧∀x H',J.yld i H x H'→g x (gG k idx σ) H' fun σ2 H2=>tt σ2 H2 fun b H3 =>
   if b=true then te σ2 H3 fun v H4=>N (vs++[v]) H4 else N vs H3)
def fB (k:Nat) (g:TG):Prop:=∀x σ H Q,g x σ H Q→g x σ H fun σ2 H2=>Q σ2 H2∧σ2.length=σ.length∧∀j,k≤j→σ2[j]?=σ[j]?
theorem fB.name {i k:Nat} (h:i<k):fB k (gH i):=fun x σ H Q q=>⟨q,by simp,fun j hj=>by rw[List.getElem?_set_ne (by omega)]⟩
theorem zK {k j:Nat}{idx:List Nat}{σ:St}{v:V} (h:(gG k idx σ)[j]?=some (some v)):k≤j:=by
 by_cases hj:j<k
 ·unfold gG at h
  rw[List.getElem?_append_left (by rw[List.length_replicate];exact hj),List.getElem?_replicate,if_pos hj] at h
  cases h
 ·omega
theorem pM {elt target iter:Expr}{ifs:List Expr}{pos:Pos}{g:TG}{tt:TT}{te:TE}{E:Value→Shared→Prop}{it:Addr}{tnn:Nat→Heap→Prop}{J:It}{Q:VK}{RR:Value→Addr→Result→Shared→Prop}
  (hcalm:X.calm=true) (S:aO X scope tn cap idx) (hgs:fB tn.length g)
  (hg:∀cs C fp s₀ H₀,PG (cxC X (tn++cap) scope cs C fp s₀ H₀) target g) (ht:∀cs C fp s₀ H₀,PTs (cxC X (tn++cap) scope cs C fp s₀ H₀) ifs tt)
  (he:∀cs C fp s₀ H₀,PE (cxC X (tn++cap) scope cs C fp s₀ H₀) elt te)
  (I:Inv X pins σ H s2) (T:Turn X.prog X.w X.K target J fp it tnn) (st2:tnn 0 s2.heap) (f2:∀b∈fp,qN X pins H b)
  (hW:∃W:Nat→Nat→List V→Hp→Prop,(∃m,W 0 m [] H)∧∀i m vs H,W i m vs H →
   (J.stop i H∧vs.length≤sizeLine∧∀p,H p=none→Q (.ref p) (upd H p (.lst vs))) ∨
   (J.go i H∧vs.length≤sizeLine∧∃N:List V→Hp→Prop,(∀vs' H',N vs' H'→∃m',m' < m∧W (i+1) m' vs' H')∧∀x H',J.yld i H x H'→g x (gG tn.length idx σ) H' fun σ2 H2=>tt σ2 H2 fun b H3 =>
    if b=true then te σ2 H3 fun v H4=>N (vs++[v]) H4 else N vs H3))
  (hRR:∀(s8:Shared) (H8:Hp) (C D:Addr) (m:Str→Option Value),Inv X pins σ H8 s8→s8.heap.Ns C m→H8 C=none→s2.heap.objs.size≤C→Q (.ref D) H8→RR (.ref D) C (.ok .next) s8) :
  wpAny (model X.prog X.w) X.A (newList []) (fun acc s₃=>wpAny (model X.prog X.w) X.A (newFunctionEnv scope X.env.globals (eP X.env scope.names []) [] X.env.qual none .none (some X.env)) (fun cenv s₄ =>
   codeAny (model X.prog X.w) X.A (.compStart (.ListComp elt [⟨target,iter,ifs,0⟩] scope pos) 0 (.ref it) acc { cenv with scope:=relabel scope X.env }) (RR acc cenv.locals) s₄) E s₃) E s2:=by
 obtain ⟨W,⟨m0,w0⟩,turn⟩:=hW
 have hfl:∀b∈fp,b<s2.heap.objs.size:=fun b hb=>by
  obtain ⟨o,e,_⟩:=T.obj _ _ st2 b hb
  exact Heap.lt_size e
 have I4:=wO I S f2 hfl
 refine wpAny_newObj_type (mP ?_)
 have e1:({ s2 with heap:=s2.heap.push nY }:Shared).heap.objs.size=s2.heap.objs.size+1:=Heap.size_push ..
 rw[e1]
 generalize hX':cxC X (tn++cap) scope (tM X s2.heap scope) (s2.heap.objs.size+1) fp s2 H=X' at I4
 have hA:X'.A=X.A:=by subst hX';rfl
 have hprog:X'.prog=X.prog:=by subst hX';rfl
 have hw:X'.w=X.w:=by subst hX';rfl
 have hK:X'.K=X.K:=by subst hX';rfl
 have hcal:X'.calm=true:=by subst hX';exact hcalm
 have hxe:X'.xe=fun _ _=>False:=by subst hX';rfl
 have hloc:X'.env.locals=s2.heap.objs.size+1:=by subst hX';rfl
 have hpn:X'.pn=[]:=by subst hX';rfl
 have hex:X'.ex=fp:=by subst hX';rfl
 have hs0:X'.s₀=s2:=by subst hX';rfl
 have hg':PG X' target g:=by subst hX';exact hg _ _ _ _ _
 have ht':PTs X' ifs tt:=by subst hX';exact ht _ _ _ _ _
 have he':PE X' elt te:=by subst hX';exact he _ _ _ _ _
 have henv:X'.env={ scope:=relabel scope X.env,locals:=s2.heap.objs.size+1,globals:=X.env.globals,cells:=tM X s2.heap scope,qual:=X.env.qual,func:=none,code:=X.env.code,frame:=X.env.frame,builtins:=X.env.builtins }:=by subst hX';rfl
 let lo:List Value→Nat→Obj:=fun its n=>{ cls:=.type "list",data:=.seq its.toArray n }
 have stat:∀{H':Hp}{pl:List (Addr × Obj)},(∀b∈fp,H' b=none)→(∀p∈pl,p.1∉fp)→∀b∈fp,qN X' pl H' b:=fun {H' pl} hn hp b hb=>by
  have q:=I4.ok.exf b (by rw[hex];exact hb)
  have q2:=I4.ok.exfs b (by rw[hex];exact hb)
  refine⟨hn b hb,q.1,q2,.inl (by rw[hex];exact hb),q.2,fun p hp' z=>?_⟩
  rw[hpn] at hp'
  exact hp p hp' (by rw[z];exact hb)
 have Dfp:s2.heap.objs.size∉fp:=fun z=>Nat.lt_irrefl _ (hfl _ z)
 have D1:∀(o:Obj),∀p∈[((s2.heap.objs.size:Addr),o)],p.1∉fp:=fun o p hp=>by
  obtain rfl:=List.mem_singleton.mp hp
  exact Dfp
 have loop:∀s3:Shared,s3={ s2 with heap:=vh s2.heap scope } →
   codeAny (model X.prog X.w) X.A (.compLoop (.ListComp elt [⟨target,iter,ifs,0⟩] scope pos) 0 (.ref it) (.ref s2.heap.objs.size) X'.env) (RR (.ref s2.heap.objs.size) (s2.heap.objs.size+1)) s3:=by
  intro s3 hs3
  subst hs3
  refine tE (fun n s'=>∃i vs its nn σ' H',Inv X' [(s2.heap.objs.size,lo its nn)] σ' H' s'∧(∀(j:Nat) v,(gG tn.length idx σ)[j]?=some (some v)→σ'[j]?=some (some v))∧σ'.length=(gG tn.length idx σ).length∧tnn i s'.heap∧(∀b∈fp,H' b=none)∧Vals vs its∧W i n vs H') ?_ m0
   ⟨0,[],[],0,_,H,I4,fun _ _ z=>z,rfl,T.keep _ _ _ st2 (fun b hb o e=>pushCells_keeps _ _ _ _ (Heap.get?_push_of_some _ (Heap.get?_push_of_some _ e))),fun b hb=>(f2 b hb).1,.nil,w0⟩
  rintro n s' ⟨i,vs,its,nn,σ',H',I',hσ,hσl,st',fr',rv,w'⟩
  have I5:Inv X' [(s2.heap.objs.size,lo its nn)] (gG tn.length idx σ) H' s':=I'.weak hσl.symm hσ
  rcases turn i n vs H' w' with ⟨stop,hz,q⟩ | ⟨go,hz,N,hN,step⟩
  ·-- it ends
   have td:=T.done X' hprog hw hK hcal i _ s' _ H' (fun _ _=>False) I5 (stat fr' (D1 _)) st' stop
   rw[hA] at td
   refine thn td fun r s8 ⟨hr,I8⟩=>?_
   subst hr
   obtain ⟨hp1,hp2,_⟩:=I8.pin (s2.heap.objs.size,lo its nn) (by rw[hpn];exact List.mem_singleton.mpr rfl)
   have J8:Inv X pins σ (upd H' s2.heap.objs.size (.lst vs)) s8:=by
    subst hX'
    exact comp_back I f2 I8 (Nat.le_refl _) hp2 hp1 rv hz
   obtain ⟨m,hm,_⟩:=I8.loc
   rw[hloc] at hm
   have hCf:H' (s2.heap.objs.size+1)=none:=by have:=I8.free;rw[hloc] at this;exact this
   refine hRR s8 _ _ _ m J8 hm ?_ (Nat.le_succ _) (q _ hp2)
   rw[aI (Nat.ne_of_gt (Nat.lt_succ_self _))]
   exact hCf
  ·-- a turn
   have ti:=T.item X' hprog hw hK hcal i _ s' _ H' (fun _ _=>False) I5 (stat fr' (D1 _)) st' go
   rw[hA] at ti
   refine thn ti fun r s5 ⟨u,hr,h5⟩=>?_
   subst hr
   refine thn h5 fun _ s6 ⟨x,H6,I6,r6,y6,st6,fr6⟩=>?_
   have I6':=I6.pinned (stat fr6 (D1 _)) (T.obj _ _ st6)
   have ag:=hg' _ s6 _ H6 x u _ I6' r6 (hgs _ _ _ _ (step x H6 y6))
   rw[hprog,hw,hA,hxe] at ag
   refine thn ag fun _ s7 ⟨σ7,H7,I7,q7,hl7,hj7⟩=>?_
   have at7:=ht' _ s7 σ7 H7 _ I7 q7
   rw[hprog,hw,hA,hxe] at at7
   refine thn at7 fun b s8 ⟨H8,I8,q8⟩=>?_
   have again:∀{s9:Shared}{H9:Hp}{vs9:List V}{its9:List Value}{n9:Nat},Inv X' ([(s2.heap.objs.size,lo its9 n9)]++kd fp s6.heap) σ7 H9 s9→Vals vs9 its9→N vs9 H9 →
     ∃m,m<n∧∃i vs its nn σ' H',Inv X' [(s2.heap.objs.size,lo its nn)] σ' H' s9∧(∀(j:Nat) v,(gG tn.length idx σ)[j]?=some (some v)→σ'[j]?=some (some v))∧σ'.length=(gG tn.length idx σ).length∧tnn i s9.heap∧(∀b∈fp,H' b=none)∧Vals vs its∧W i m vs H':=by
    intro s9 H9 vs9 its9 n9 I9 r9 n9'
    obtain ⟨m',hm',w9⟩:=hN _ _ n9'
    refine⟨m',hm',i+1,vs9,its9,n9,σ7,H9,I9.mI,fun j v e=>by rw[hj7 j (zK e)];exact e,hl7,T.keep _ _ _ st6 fun b hb o e=>(I9.pin (b,o) (List.mem_append_right _ (List.mem_append_right _ (jM hb e)))).1,fun b hb=>?_,r9,w9⟩
    obtain ⟨o,e,d⟩:=T.obj _ _ st6 b hb
    exact (I9.pin (b,o) (List.mem_append_right _ (List.mem_append_right _ (jM hb e)))).2.1
   cases b with
   | false =>
    exact again I8 rv q8
   | true =>
    have ae:=he' _ s8 σ7 H8 _ I8 q8
    rw[hprog,hw,hA,hxe] at ae
    refine thn ae fun xv s9 ⟨v9,H9,I9,r9,q9⟩=>?_
    obtain ⟨hp1,hp2,hp3,hp4,_⟩:=I9.pin (s2.heap.objs.size,lo its nn) (List.mem_append_right _ (List.mem_append_left _ (List.mem_singleton.mpr rfl)))
    have rvl:=rv.length
    refine append_at (hsz:=by rw[List.size_toArray];omega) hp1 fun h' hs' ho'=>?_
    have nfp:∀p∈kd fp s6.heap,p.1≠s2.heap.objs.size:=fun p hp z=>Dfp (by rw[← z];exact (sL hp).1)
    have I10:Inv X' (kd fp s6.heap) σ7 H9 s9:=I9.oR fun p hp=>I9.pin p (List.mem_append_right _ (List.mem_append_right _ hp))
    have I11:Inv X' (kd fp s6.heap) σ7 H9 { s9 with heap:=h' }:=I10.turned (t':=s9.toks) (it:=s2.heap.objs.size) (fun b o hb e=>hs'.extBut b o hb e) hp2 hp3 (.inr (by rw[hs0];exact Nat.le_refl _))
     (fun x c e z=>by
      obtain ⟨v,o,q1,q2⟩:=I9.cell x c e
      rw[z,hp1] at q1
      cases q1
      cases q2) (fun p hp=>by rw[hpn] at hp;exact nfp p hp)
    have eo:({ cls:=.type "list",data:=.seq (its.toArray.push xv) (nn+1) }:Obj)=lo (its++[xv]) (nn+1):=by
     show ({ cls:=.type "list",data:=.seq (its.toArray.push xv) (nn+1) }:Obj)={ cls:=.type "list",data:=.seq (its++[xv]).toArray (nn+1) }
     rw[List.push_toArray]
    refine again (vs9:=vs++[v9]) (its9:=its++[xv]) (n9:=nn+1) (I11.oR fun p hp=>?_) (rv.append (.cons r9 .nil)) q9
    rcases List.mem_append.mp hp with hp | hp
    ·obtain rfl:=List.mem_singleton.mp hp
     refine⟨ho'.trans (congrArg some eo),hp2,hp3,hp4,fun v z=>?_⟩
     have z':Data.seq _ _=Data.cell v:=z
     cases z'
    ·exact I11.pin p (List.mem_append_right _ hp)
 refine codeAny_compStart_list ?_ ?_
 ·have:=loop _ rfl
  rw[henv] at this
  exact this
 ·refine T.self _ 0 _ _ _ (T.keep _ _ _ st2 (fun b hb o e=>pushCells_keeps _ _ _ _ (Heap.get?_push_of_some _ (Heap.get?_push_of_some _ e)))) ?_
  have:=loop _ rfl
  rw[henv] at this
  exact this
theorem yx (I:Inv X pins σ H s2) (S:aO X scope tn cap idx):closureFor scope X.env=pure (eP X.env scope.names []) :=
 rE fun n hm=>I.ok.has n (S.fr _ hm rfl)
theorem vq (S:aO X scope tn cap idx):∀x∈scope.names,x.2=.local→scope.names.lookup x.1=some .local:=fun x hx e=>by
 obtain ⟨n,k⟩:=x
 have e':k=NameKind.local:=e
 subst e'
 exact kP S.nd hx
theorem ym {elt target iter:Expr}{ifs:List Expr}{pos:Pos}{wi:TI}{g:TG}{tt:TT}{te:TE} (hcalm:X.calm=true) (S:aO X scope tn cap idx) (hi:PI X target iter wi) (hgs:fB tn.length g)
  (hg:∀cs C fp s₀ H₀,PG (cxC X (tn++cap) scope cs C fp s₀ H₀) target g) (ht:∀cs C fp s₀ H₀,PTs (cxC X (tn++cap) scope cs C fp s₀ H₀) ifs tt)
  (he:∀cs C fp s₀ H₀,PE (cxC X (tn++cap) scope cs C fp s₀ H₀) elt te) (hs:∀x,foldedSetIterable iter X.env x=pure x:=by intro _;rfl) :
  PE X (.ListComp elt [⟨target,iter,ifs,0⟩] scope pos) (vS wi g tt te tn.length idx):=by
 intro pins s σ H Q I h
 rw[eval_ListComp]
 refine wpAny_comprehension_free (use:=none) rfl hs (yx I S) S.kind (vq S) (thn (hi pins s σ H _ I h) fun v s1 h1=>thn h1 fun itv s2 h2=>?_)
 obtain ⟨it,fp,tnn,J,H2,e,I2,T,st2,f2,hW⟩:=h2
 subst e
 refine pM hcalm S hgs hg ht he I2 T st2 f2 hW fun s8 H8 C D m I8 hm hC hsz q=>?_
 refine⟨m,hm,fun h' hs'=>⟨.ref D,H8,?_,rfl,q⟩⟩
 exact I8.turned (t':=s8.toks) (it:=C) (fun b o hb e=>hs'.extBut b o hb e) hC (fun z=>absurd I2.lt (by rw[← z];exact Nat.not_lt.mpr hsz)) (.inr (Nat.le_trans I2.sz hsz))
  (fun x c e z=>by
   obtain ⟨v,q⟩:=I2.cell x c e
   exact absurd q.lt (by rw[z];exact Nat.not_lt.mpr hsz)) (fun p hp z=>absurd (Heap.lt_size (I2.pin p hp).1) (by rw[z];exact Nat.not_lt.mpr hsz))
theorem yY {elt target iter:Expr}{ifs:List Expr}{pos spos py:Pos}{wi:TI}{g:TG}{tt:TT}{te:TE}{i:Nat}{y:Str} (hcalm:X.calm=true) (S:aO X scope tn cap idx) (hN:X.N.Nodup) (hy:X.N[i]?=some y) (hx:Loc X.env.scope y)
  (hi:PI X target iter wi) (hgs:fB tn.length g)
  (hg:∀cs C fp s₀ H₀,PG (cxC X (tn++cap) scope cs C fp s₀ H₀) target g) (ht:∀cs C fp s₀ H₀,PTs (cxC X (tn++cap) scope cs C fp s₀ H₀) ifs tt)
  (he:∀cs C fp s₀ H₀,PE (cxC X (tn++cap) scope cs C fp s₀ H₀) elt te)
  (hsw:swapsWith (.ListComp elt [⟨target,iter,ifs,0⟩] scope pos) (some (.Name y py)) spos.line X.env=pure true:=by rfl) (hs:∀x,foldedSetIterable iter X.env x=pure x:=by intro _;rfl)
  (hf:X.fn y=true∨X.env.scope.names.lookup y=some .local:=by first | exact .inl rfl | exact .inr rfl | assumption) :
  PS X (.Assign [.Name y py] (.ListComp elt [⟨target,iter,ifs,0⟩] scope pos) spos) (jX (vS wi g tt te tn.length idx) (gH i)):=by
 intro pins s σ H D I h
 rw[exec_Assign_Name_used _ _ _ _ hsw]
 refine wpAny_bind (wpAny_standAt (wpAny_bind ?_))
 show wpAny _ X.A (do let _ ← comprehension (.ListComp elt [⟨target,iter,ifs,0⟩] scope pos) scope X.env _ (newList []) false (eval iter X.env) (some (assign (.Name y py) X.env))) _ _ s
 refine wpAny_bind (wpAny_mono (wpAny_comprehension_free (use:=some (assign (.Name y py) X.env)) (Q:=fun _ s'=>SP X pins D .next s') rfl hs (yx I S) S.kind (vq S)
  (thn (hi pins s σ H _ I h) fun v s1 h1=>thn h1 fun itv s2 h2=>?_)) (fun _ s' hq=>wpAny_pure (wpAny_pure hq)) fun _ _ e=>e)
 obtain ⟨it,fp,tnn,J,H2,e,I2,T,st2,f2,hW⟩:=h2
 subst e
 refine pM (Q:=fun x H1=>gH i x σ H1 D.nx) hcalm S hgs hg ht he I2 T st2 f2 hW fun s8 H8 C DD m I8 hm hC hsz q=>?_
 show wpAny _ X.A (assign (.Name y py) X.env (.ref DD)) _ _ _
 have CL:C≠X.env.locals:=fun z=>absurd I2.lt (by rw[← z];exact Nat.not_lt.mpr hsz)
 have CC:∀x c,X.env.cells.lookup x=some c→c≠C:=fun x c e z=>by
  obtain ⟨v,q⟩:=I2.cell x c e
  exact absurd q.lt (by rw[z];exact Nat.not_lt.mpr hsz)
 refine wpAny_assign_Name (sj (v:=.ref DD) I8 hN hy hx rfl (fun s9 I9 ⟨a,hsb,ha⟩=>?_) hf)
 have aC:C≠a:=fun z=>by
  rcases ha with e | e
  ·exact CL (z.trans e)
  ·exact CC _ _ e z.symm
 refine⟨m,hm.sameBut hsb aC,fun h' hs'=>⟨_,H8,?_,q⟩⟩
 exact I9.turned (t':=s9.toks) (it:=C) (fun b o hb e=>hs'.extBut b o hb e) hC CL (.inr (Nat.le_trans I2.sz hsz)) CC (fun p hp z=>absurd (Heap.lt_size (I2.pin p hp).1) (by rw[z];exact Nat.not_lt.mpr hsz))
end
theorem PE.imp {X:Cx}{e:Expr}{t t':TE} (h:PE X e t) (q:∀σ H Q,t' σ H Q→t σ H Q):PE X e t':=fun pins s σ H Q I z=>h pins s σ H Q I (q σ H Q z)
theorem PS.imp {X:Cx}{e:Stmt}{t t':TS} (h:PS X e t) (q:∀D σ H,t' D σ H→t D σ H):PS X e t':=fun pins s σ H D I z=>h pins s σ H D I (q D σ H z)
def BG (J:It) (g:TG) (te:TE) (k:Nat) (idx:List Nat) (σ:St) (H1:Hp) (Q:VK):Prop :=
 ∃W:Nat→Nat→List V→Hp→Prop,(∃m,W 0 m [] H1)∧∀i m vs H,W i m vs H →
  (J.stop i H∧vs.length≤sizeLine∧∀p,H p=none→Q (.ref p) (upd H p (.lst vs))) ∨
  (J.go i H∧vs.length≤sizeLine∧∃N:List V→Hp→Prop,(∀vs' H',N vs' H'→∃m',m' < m∧W (i+1) m' vs' H')∧∀x H',J.yld i H x H'→g x (gG k idx σ) H' fun σ2 H2=>te σ2 H2 fun v H4=>N (vs++[v]) H4)
def qC (wi:TI) (g:TG) (te:TE) (k:Nat) (idx:List Nat):TE:=fun σ H Q=>wi σ H fun J H1=>BG J g te k idx σ H1 Q
theorem nG {wi:TI}{g:TG}{te:TE}{k:Nat}{idx:List Nat}:qC wi g te k idx=vS wi g Ee te k idx:=by
 have e:∀(A B:Prop),(if true=true then A else B)=A:=fun A B=>if_pos rfl
 unfold qC BG vS Ee
 simp only[if_true]
section
variable {X:Cx}{scope:Scope}{tn cap:List Str}{idx:List Nat}
theorem bO {elt target iter:Expr}{pos:Pos}{wi:TI}{g:TG}{te:TE} (S:aO X scope tn cap idx) (hi:PI X target iter wi) (hgs:fB tn.length g)
  (hg:∀cs C fp s₀ H₀,PG (cxC X (tn++cap) scope cs C fp s₀ H₀) target g)
  (he:∀cs C fp s₀ H₀,PE (cxC X (tn++cap) scope cs C fp s₀ H₀) elt te) (hcalm:X.calm=true:=by rfl) (hs:∀x,foldedSetIterable iter X.env x=pure x:=by intro _;rfl) :
  PE X (.ListComp elt [⟨target,iter,[],0⟩] scope pos) (qC wi g te tn.length idx):=by
 rw[nG]
 exact ym hcalm S hi hgs hg (fun _ _ _ _ _=>zi) he hs
theorem qw {elt target iter:Expr}{pos spos py:Pos}{wi:TI}{g:TG}{te:TE}{i:Nat}{y:Str} (S:aO X scope tn cap idx) (hN:X.N.Nodup) (hy:X.N[i]?=some y) (hx:Loc X.env.scope y)
  (hi:PI X target iter wi) (hgs:fB tn.length g)
  (hg:∀cs C fp s₀ H₀,PG (cxC X (tn++cap) scope cs C fp s₀ H₀) target g)
  (he:∀cs C fp s₀ H₀,PE (cxC X (tn++cap) scope cs C fp s₀ H₀) elt te) (hcalm:X.calm=true:=by rfl)
  (hsw:swapsWith (.ListComp elt [⟨target,iter,[],0⟩] scope pos) (some (.Name y py)) spos.line X.env=pure true:=by rfl) (hs:∀x,foldedSetIterable iter X.env x=pure x:=by intro _;rfl)
  (hf:X.fn y=true∨X.env.scope.names.lookup y=some .local:=by first | exact .inl rfl | exact .inr rfl | assumption) :
  PS X (.Assign [.Name y py] (.ListComp elt [⟨target,iter,[],0⟩] scope pos) spos) (jX (qC wi g te tn.length idx) (gH i)):=by
 rw[nG]
 exact yY hcalm S hN hy hx hi hgs hg (fun _ _ _ _ _=>zi) he hsw hs hf
end
end L2
namespace L2
open PySem PySem.Spec PyProof.Rows
inductive D where
 | non | bl (b:Bool) | int (i:Int) | str (x:Str) | lst (ds:List D) | tup (ds:List D)
mutual
def Rf (H:Hp):D→V→List Addr→Prop
 | .non,v,fp=>v=.non∧fp=[]
 | .bl b,v,fp=>v=.bl b∧fp=[]
 | .int i,v,fp=>v=.int i∧fp=[]
 | .str x,v,fp=>v=.str x∧fp=[]
 | .lst ds,v,fp=>∃a xs fq,v=.ref a∧H a=some (.lst xs)∧fp=a::fq∧Rfs H ds xs fq
 | .tup ds,v,fp=>∃a xs,v=.ref a∧H a=some (.tup xs)∧Rfs H ds xs fp
def Rfs (H:Hp):List D→List V→List Addr→Prop
 | [],xs,fp=>xs=[]∧fp=[]
 | d::ds,xs,fp=>∃x r f1 f2,xs=x::r∧fp=f1++f2∧Rf H d x f1∧Rfs H ds r f2
end
def Rp (H:Hp) (d:D) (v:V):Prop:=∃fp,Rf H d v fp
mutual
theorem Rf.mono {H H':Hp}:∀{d:D}{v:V}{fp:List Addr},Rf H d v fp→(∀a∈fp,∀o,H a=some o→H' a=some o)→(∀a xs,H a=some (.tup xs)→H' a=some (.tup xs))→Rf H' d v fp
 | .non,_,_,h,_,_=>h
 | .bl _,_,_,h,_,_=>h
 | .int _,_,_,h,_,_=>h
 | .str _,_,_,h,_,_=>h
 | .lst ds,v,fp,h,k,t=>by
  obtain ⟨a,xs,fq,e1,e2,e3,h⟩:=h
  subst e3
  exact⟨a,xs,fq,e1,k a List.mem_cons_self _ e2,rfl,Rfs.mono h (fun b hb=>k b (List.mem_cons_of_mem _ hb)) t⟩
 | .tup ds,v,fp,h,k,t=>by
  obtain ⟨a,xs,e1,e2,h⟩:=h
  exact⟨a,xs,e1,t a xs e2,Rfs.mono h k t⟩
theorem Rfs.mono {H H':Hp}:∀{ds:List D}{vs:List V}{fp:List Addr},Rfs H ds vs fp→(∀a∈fp,∀o,H a=some o→H' a=some o)→(∀a xs,H a=some (.tup xs)→H' a=some (.tup xs))→Rfs H' ds vs fp
 | [],_,_,h,_,_=>h
 | d::ds,vs,fp,h,k,t=>by
  obtain ⟨x,r,f1,f2,e1,e2,h1,h2⟩:=h
  subst e2
  exact⟨x,r,f1,f2,e1,rfl,Rf.mono h1 (fun b hb=>k b (List.mem_append_left _ hb)) t,Rfs.mono h2 (fun b hb=>k b (List.mem_append_right _ hb)) t⟩
end
mutual
theorem Rf.dom {H:Hp}:∀{d:D}{v:V}{fp:List Addr},Rf H d v fp→∀a∈fp,∃xs,H a=some (.lst xs)
 | .non,_,_,h,a,ha=>by obtain ⟨_,rfl⟩:=h;nomatch ha
 | .bl _,_,_,h,a,ha=>by obtain ⟨_,rfl⟩:=h;nomatch ha
 | .int _,_,_,h,a,ha=>by obtain ⟨_,rfl⟩:=h;nomatch ha
 | .str _,_,_,h,a,ha=>by obtain ⟨_,rfl⟩:=h;nomatch ha
 | .lst ds,v,fp,h,b,hb=>by
  obtain ⟨a,xs,fq,e1,e2,e3,h⟩:=h
  subst e3
  rcases List.mem_cons.mp hb with e | hb
  ·subst e;exact⟨xs,e2⟩
  ·exact Rfs.dom h b hb
 | .tup ds,v,fp,h,b,hb=>by
  obtain ⟨a,xs,e1,e2,h⟩:=h
  exact Rfs.dom h b hb
theorem Rfs.dom {H:Hp}:∀{ds:List D}{vs:List V}{fp:List Addr},Rfs H ds vs fp→∀a∈fp,∃xs,H a=some (.lst xs)
 | [],_,_,h,a,ha=>by obtain ⟨_,rfl⟩:=h;nomatch ha
 | d::ds,vs,fp,h,b,hb=>by
  obtain ⟨x,r,f1,f2,e1,e2,h1,h2⟩:=h
  subst e2
  rcases List.mem_append.mp hb with hb | hb
  ·exact Rf.dom h1 b hb
  ·exact Rfs.dom h2 b hb
end
theorem Rf.upd {H:Hp}{d:D}{v:V}{fp:List Addr}{l:Addr}{o:HO} (h:Rf H d v fp) (hl:l∉fp) (hm:∀xs,H l≠some (.tup xs)):Rf (upd H l o) d v fp :=
 h.mono (fun a ha u e=>by rw[aI (fun z=>hl (by rw[← z];exact ha))];exact e) fun a xs e=>by rw[aI (fun z=>hm xs (by rw[← z];exact e))];exact e
theorem Rfs.length {H:Hp}:∀{ds:List D}{vs:List V}{fp:List Addr},Rfs H ds vs fp→vs.length=ds.length
 | [],_,_,h=>by obtain ⟨rfl,_⟩:=h;rfl
 | d::ds,vs,fp,h=>by
  obtain ⟨x,r,f1,f2,e1,e2,h1,h2⟩:=h
  subst e1
  rw[List.length_cons,List.length_cons,Rfs.length h2]
theorem Rfs.append {H:Hp}:∀{ds es:List D}{vs ws:List V}{fp fq:List Addr},Rfs H ds vs fp→Rfs H es ws fq→Rfs H (ds++es) (vs++ws) (fp++fq)
 | [],es,vs,ws,fp,fq,h,h'=>by obtain ⟨rfl,rfl⟩:=h;exact h'
 | d::ds,es,vs,ws,fp,fq,h,h'=>by
  obtain ⟨x,r,f1,f2,rfl,rfl,h1,h2⟩:=h
  exact⟨x,r++ws,f1,f2++fq,rfl,List.append_assoc ..,h1,Rfs.append h2 h'⟩
theorem Rfs.get {H:Hp}:∀{ds:List D}{vs:List V}{fp:List Addr}{i:Nat}{d:D},Rfs H ds vs fp→ds[i]?=some d→∃v f,vs[i]?=some v∧Rf H d v f∧(∀a∈f,a∈fp)
 | [],_,_,_,_,_,e=>by simp at e
 | d::ds,vs,fp,0,d',h,e=>by
  obtain ⟨x,r,f1,f2,rfl,rfl,h1,h2⟩:=h
  simp at e;subst e
  exact⟨x,f1,rfl,h1,fun a ha=>List.mem_append_left _ ha⟩
 | d::ds,vs,fp,i+1,d',h,e=>by
  obtain ⟨x,r,f1,f2,rfl,rfl,h1,h2⟩:=h
  obtain ⟨v,f,e1,h3,k⟩:=Rfs.get (i:=i) h2 (by simpa using e)
  exact⟨v,f,by simpa using e1,h3,fun a ha=>List.mem_append_right _ (k a ha)⟩
abbrev dI (xs:List Int):D:=.lst (xs.map D.int)
abbrev dT (t:List (List Int)):D:=.lst (t.map dI)
inductive Rows (H:Hp):List (List Int)→List Addr→Prop where
 | nil:Rows H [] []
 | cons {xs:List Int}{t:List (List Int)}{a:Addr}{as:List Addr}:H a=some (.lst (xs.map V.int))→Rows H t as→Rows H (xs::t) (a::as)
theorem Rows.length {H:Hp}{t:List (List Int)}{as:List Addr} (h:Rows H t as):as.length=t.length:=by
 induction h with
 | nil=>rfl
 | cons _ _ ih=>rw[List.length_cons,List.length_cons,ih]
theorem Rows.get {H:Hp}{t:List (List Int)}{as:List Addr} (h:Rows H t as):∀{i:Nat}{xs:List Int},t[i]?=some xs→∃a,as[i]?=some a∧H a=some (.lst (xs.map V.int)):=by
 induction h with
 | nil=>intro i xs e;simp at e
 | cons e _ ih =>
  intro i xs q
  cases i with
  | zero=>simp at q;subst q;exact⟨_,rfl,e⟩
  | succ i =>
   obtain ⟨a,h1,h2⟩:=ih (i:=i) (by simpa using q)
   exact⟨a,by simpa using h1,h2⟩
theorem Rows.mono {H H':Hp}{t:List (List Int)}{as:List Addr} (h:Rows H t as) (k:∀a∈as,∀o,H a=some o→H' a=some o):Rows H' t as:=by
 induction h with
 | nil=>exact .nil
 | cons e _ ih=>exact .cons (k _ List.mem_cons_self _ e) (ih fun a ha=>k a (List.mem_cons_of_mem _ ha))
end L2
namespace L2
open PySem PySem.Spec PyProof.Rows
section
variable {X:Cx}
theorem vj:iK X (.builtin "isinstance") (fun xs H Q=>∃x n t b,xs=[x,.ty n]∧kX X.K H x t∧PySem.W.kitOne X.K t (.type n)=some b∧Q (.bl b) H):=by
 intro pins s σ H xs us Q I r h
 obtain ⟨x,n,t,b,rfl,ty,e,q⟩:=h
 obtain ⟨u,w',rfl,rx,rn⟩:=vals2 r
 obtain rfl:w'=Value.type n:=rn
 exact Ad I rx ty e fun tk=>⟨.bl b,H,I.tok _,rfl,q⟩
theorem mB:∀{xs:List Int}{us:List Value},Vals (xs.map V.int) us→IntsAre us xs
 | [],us,r=>by cases r;exact .nil
 | x::xs,us,r=>by
  cases r with
  | cons r rr =>
   obtain ⟨t,rfl⟩:=r
   exact .cons _ _ (mB rr)
theorem B4 (hc:X.calm=true):iK X (.builtin "sum") (fun xs H Q=>∃(a:Addr) (ns:List Int),xs=[.ref a]∧SqL X.K H a (ns.map V.int)∧Q (.int ns.sum) H):=by
 intro pins s σ H xs us Q I r h
 obtain ⟨a,ns,rfl,hS,q⟩:=h
 obtain ⟨u,rfl,ru⟩:=vals1 r
 obtain rfl:u=Value.ref a:=ru
 obtain ⟨its,rv,pl,hz⟩:=I.list hS
 have hi:=mB rv
 obtain ⟨xs',e⟩:=hi.allInts.items
 have hl:s.heap.IsList a (intItems xs'):=by rw[← e];exact pl.isList
 refine sum_intListG (I.ok.hd hc) hl fun h' tk t' hk=>⟨.int ns.sum,H,I.kept hk,⟨t',?_⟩,q⟩
 have e2:numsOf its.toArray.toList=ns:=hi.numsOf
 rw[e,nums_intItems] at e2
 rw[preSum_eq,List.take_of_length_le (by simp),e2]
end
def Itz (K:PySem.W.Frag) (a b:Addr):It :=
 ⟨fun i H=>∃xs ys x y,SqL K H a xs∧SqL K H b ys∧xs[i]?=some x∧ys[i]?=some y,
 fun i H v H'=>∃p x y,v=.ref p∧H p=none∧H'=upd H p (.tup [x,y])∧(∀xs,SqL K H a xs→xs[i]?=some x)∧∀ys,SqL K H b ys→ys[i]?=some y,
 fun i H=>∃xs ys,SqL K H a xs∧SqL K H b ys∧(xs.length≤i∨ys.length≤i)⟩
def CU (a b z TI TO i1 i2:Addr) (i:Nat) (h:Heap):Prop :=
 IsZip h z TI TO .none∧IsPair h TI (.ref i1) (.ref i2)∧(∃u v,IsPair h TO u v)∧h.IsListIter i1 a i∧h.IsListIter i2 b i
theorem cm {h:Heap}{a b:Addr}{o u:Obj}{c d:String} (e1:h.get? a=some o) (e2:h.get? b=some u) (c1:o.cls=.type c) (c2:u.cls=.type d) (n:c≠d):a≠b:=fun z=>by
 subst z;rw[e1] at e2;cases e2;rw[c1] at c2;cases c2;exact n rfl
theorem sJ {h:Heap}{a b z TI TO i1 i2:Addr}{i:Nat}{xs ys:Array Value} (st:CU a b z TI TO i1 i2 i h) (h1:h.IsList a xs) (h2:h.IsList b ys) (d1:TI≠TO) (d2:i1≠i2):ZipApart z TI TO i1 i2 a b:=by
 obtain ⟨sz,sI,⟨u,v,sO⟩,⟨o1,e1,c1,_⟩,⟨o2,e2,c2,_⟩⟩:=st
 obtain ⟨oa,ea,ca,_⟩:=h1
 obtain ⟨ob,eb,cb,_⟩:=h2
 exact⟨cm sI sz rfl rfl (by decide),cm sO sz rfl rfl (by decide),cm e1 sz c1 rfl (by decide),cm e2 sz c2 rfl (by decide),d1,cm sI e1 rfl c1 (by decide),cm sI e2 rfl c2 (by decide),cm sO e1 rfl c1 (by decide),cm sO e2 rfl c2 (by decide),d2,
  cm ea sz ca rfl (by decide),cm ea sO ca rfl (by decide),cm ea e1 ca c1 (by decide),cm ea e2 ca c2 (by decide),cm eb sz cb rfl (by decide),cm eb sO cb rfl (by decide),cm eb e1 cb c1 (by decide),cm eb e2 cb c2 (by decide)⟩
theorem Inv.oZ {X:Cx}{pins:List (Addr × Obj)}{σ:St}{H H':Hp}{s:Shared}{h':Heap}{fp:List Addr}{t':Nat} (I:Inv X pins σ H s) (hf:∀b∈fp,qN X pins H b) (k:∀b o,b∉fp→s.heap.get? b=some o→h'.get? b=some o)
  (free:∀b o,s.heap.get? b=some o→H b=none→H' b=none) (sm:aJ H H') (hok:HOk X.prog X.w H' h'):Inv X pins σ H' { s with heap:=h',toks:=t' }:=by
 have nL:X.env.locals∉fp:=fun z=>(hf _ z).2.1 rfl
 refine I.step (g':=s.gens) (d':=s.drawn) (ch:=fp) (fun b hb=>?_) (fun b o _ _ hc e _=>k b o hc e) (fun b o _ _ hc e _=>⟨o.slots,k b o hc e⟩) (fun b o _ e n=>free b o e n) (fun b o hc e=>⟨o,k b o hc e⟩)
  (fun b xs e=>sm b _ e) (fun b o u e=>sm b _ e) (fun b ps e=>⟨#[],by rw[sm b _ e];simp⟩) (fun m hm=>?_) hok I.bare
 ·obtain ⟨_,f1,_,f3,f4,f5⟩:=hf b hb
  exact⟨f3,f1,f4,f5⟩
 ·obtain ⟨o,es,ep,ho,r⟩:=hm
  exact⟨o,es,ep,k _ o nL ho,r⟩
theorem Bg {P:Program}{w:World}{K:PySem.W.Frag}{elts:List Expr}{x1:Nat}{pos:Pos} (a b z TI TO i1 i2:Addr) (d1:TI≠TO) (d2:i1≠i2):Turn P w K (.Tuple elts x1 pos) (Itz K a b) [z,TI,TO,i1,i2] z (CU a b z TI TO i1 i2) where
 mem:=by simp
 obj:=fun i h st c hc=>by
  obtain ⟨sz,sI,⟨u,v,sO⟩,⟨o1,e1,c1,q1⟩,⟨o2,e2,c2,q2⟩⟩:=st
  simp only[List.mem_cons,List.not_mem_nil,or_false] at hc
  rcases hc with rfl | rfl | rfl | rfl | rfl
  ·exact⟨_,sz,fun v z=>by cases z⟩
  ·exact⟨_,sI,fun v z=>by cases z⟩
  ·exact⟨_,sO,fun v z=>by cases z⟩
  ·exact⟨_,e1,fun v z=>by rw[q1] at z;cases z⟩
  ·exact⟨_,e2,fun v z=>by rw[q2] at z;cases z⟩
 keep:=fun i h h' st k=>by
  obtain ⟨sz,sI,⟨u,v,sO⟩,s1,s2⟩:=st
  exact⟨k _ (by simp) _ sz,k _ (by simp) _ sI,⟨u,v,k _ (by simp) _ sO⟩,s1.at fun o e=>k _ (by simp) o e,s2.at fun o e=>k _ (by simp) o e⟩
 item:=by
  intro X hP hw hK hc i pins s σ H E I hf st hg
  subst hP hw hK
  obtain ⟨xs,ys,x,y,hq1,hq2,hx,hy⟩:=hg
  obtain ⟨its1,rv1,p1,hz1⟩:=I.list hq1
  obtain ⟨its2,rv2,p2,hz2⟩:=I.list hq2
  obtain ⟨u,hu,ru⟩:=rv1.get hx
  obtain ⟨v,hv,rv⟩:=rv2.get hy
  have Dp:=sJ st p1.isList p2.isList d1 d2
  obtain ⟨sz,sI,⟨ua,ub,sO⟩,s1,s2⟩:=st
  refine wpAny_pyNext_zip_item Dp sz sI sO s1 s2 p1.isList p2.isList (x:=u) (y:=v) (by simpa using hu) (by simpa using hv) fun h1 z1 O1 t1 t2 pr hsz kk=>?_
  refine⟨.ref s.heap.objs.size,rfl,wpAny_letOwnedTupleGo_zip z1 fun h2 z2 sb=>?_⟩
  have zlt:z<s.heap.objs.size:=Heap.lt_size sz
  have pz:s.heap.objs.size≠z:=Nat.ne_of_gt zlt
  have hn:H s.heap.objs.size=none:=I.hok.fresh (Nat.le_refl _)
  have k2:∀c o,c∉[z,TI,TO,i1,i2]→s.heap.get? c=some o→h2.get? c=some o:=fun c o hc e=>by
   simp only[List.mem_cons,List.not_mem_nil,or_false,not_or] at hc
   exact sb.extBut c o hc.1 (kk c o hc.1 hc.2.2.1 hc.2.2.2.1 hc.2.2.2.2 e)
  have sm:aJ H (upd H s.heap.objs.size (.tup [x,y])):=fun c o e=>by rw[aI (bu e hn)];exact e
  refine⟨.ref s.heap.objs.size,upd H s.heap.objs.size (.tup [x,y]),?_,rfl,⟨s.heap.objs.size,x,y,rfl,hn,rfl,fun zs hz=>by rw[I.js hz hq1];exact hx,fun zs hz=>by rw[I.js hz hq2];exact hy⟩,
   ⟨z2,sb.extBut _ _ Dp.TIz (kk _ _ Dp.TIz Dp.TITO Dp.TIi1 Dp.TIi2 sI),⟨u,v,sb.extBut _ _ Dp.TOz O1⟩,t1.at fun o e=>sb.extBut _ _ Dp.i1z e,t2.at fun o e=>sb.extBut _ _ Dp.i2z e⟩,fun c hc=>?_⟩
  ·refine I.oZ (t':=s.toks) hf k2 (fun c o e n=>by rw[aI (Nat.ne_of_lt (Heap.lt_size e))];exact n) sm fun c o e=>?_
   by_cases ec:c=s.heap.objs.size
   ·subst ec
    rw[aK] at e
    cases e
    exact⟨by simp only[List.length_cons,List.length_nil];rw[sizeLine_eq];decide,[u,v],.cons ru (.cons rv .nil),⟨_,sb.extBut _ _ pz pr,rfl,0,rfl⟩⟩
   ·rw[aI ec] at e
    refine (I.hok c o e).oO (fun d w' hd q=>k2 d w' (fun hm=>?_) q) (fun d q=>sm d _ q) fun d ds q=>sm d _ q
    have hdn:=(hf d hm).1
    rcases hd with rfl | hd
    ·rw[hdn] at e;cases e
    ·rw[hdn] at hd;cases hd
  ·have:=(hf c hc).1
   by_cases ec:c=s.heap.objs.size
   ·exfalso
    subst ec
    obtain ⟨_,e1,_⟩:=s1
    obtain ⟨_,e2,_⟩:=s2
    simp only[List.mem_cons,List.not_mem_nil,or_false] at hc
    rcases hc with q | q | q | q | q
    ·exact pz q
    ·exact absurd (Heap.lt_size sI) (by rw[← q];exact Nat.lt_irrefl _)
    ·exact absurd (Heap.lt_size sO) (by rw[← q];exact Nat.lt_irrefl _)
    ·exact absurd (Heap.lt_size e1) (by rw[← q];exact Nat.lt_irrefl _)
    ·exact absurd (Heap.lt_size e2) (by rw[← q];exact Nat.lt_irrefl _)
   ·rw[aI ec];exact this
 done:=by
  intro X hP hw hK hc i pins s σ H E I hf st hg
  subst hP hw hK
  obtain ⟨xs,ys,hq1,hq2,hle⟩:=hg
  obtain ⟨its1,rv1,p1,hz1⟩:=I.list hq1
  obtain ⟨its2,rv2,p2,hz2⟩:=I.list hq2
  have l1:=rv1.length
  have l2:=rv2.length
  have Dp:=sJ st p1.isList p2.isList d1 d2
  obtain ⟨sz,sI,⟨ua,ub,sO⟩,s1,s2⟩:=st
  refine wpAny_pyNext_zip_end (I.ok.hd hc) Dp sz sI sO s1 s2 p1.isList p2.isList (hle.elim (fun q=>.inl (by simp;omega)) fun q=>.inr (by simp;omega)) fun h1 kk=>⟨rfl,?_⟩
  have k2:∀c o,c∉[z,TI,TO,i1,i2]→s.heap.get? c=some o→h1.get? c=some o:=fun c o hc e=>by
   simp only[List.mem_cons,List.not_mem_nil,or_false,not_or] at hc
   exact kk c o hc.1 hc.2.2.1 hc.2.2.2.1 hc.2.2.2.2 e
  refine I.oZ (t':=s.toks) hf k2 (fun _ _ _ n=>n) (aJ.refl H) fun c o e=>?_
  refine (I.hok c o e).oO (fun d w' hd q=>k2 d w' (fun hm=>?_) q) (fun d q=>q) fun d ds q=>q
  have hdn:=(hf d hm).1
  rcases hd with rfl | hd
  ·rw[hdn] at e;cases e
  ·rw[hdn] at hd;cases hd
 self:=fun _ _ _ _ _ st h=>wpAny_pyIter_zip st.1 h
section
variable {X:Cx}
def Fo (K:PySem.W.Frag) (ta:TA):TI:=fun σ H R=>ta σ H fun vs H1=>∃a b,vs=[.ref a,.ref b]∧(∃xs,SqL K H1 a xs)∧(∃ys,SqL K H1 b ys)∧R (Itz K a b) H1
theorem Fp {elts:List Expr}{x1:Nat}{tp:Pos}{a b:Expr}{ta:TA}{p pos:Pos} (hg:Gl X "zip") (hm:X.mg "zip" = none) (ha:PA X [a,b] ta) (hs:starEach [a,b] X.env=[(false,eval a X.env),(false,eval b X.env)]:=by rfl) (hs2:starEach [b] X.env=[(false,eval b X.env)]:=by rfl) :
  PI X (.Tuple elts x1 tp) (.Call (.Name "zip" p) [a,b] [] pos) (Fo X.K ta):=by
 intro pins s σ H R I h
 refine Call_ (nj I hg hm boot_zip (PyProof.Rows.callWith_type1 (thn (ha pos pins s σ H _ I h) fun us s1 ⟨vs,H1,I1,r1,q1⟩=>?_) (by rw[hs,hs2]) (by rw[hs2];rfl)))
 obtain ⟨l1,l2,rfl,⟨xs,hx⟩,⟨ys,hy⟩,q⟩:=q1
 obtain ⟨u1,u2,rfl,r2,r3⟩:=vals2 r1
 obtain rfl:u1=Value.ref l1:=r2
 obtain rfl:u2=Value.ref l2:=r3
 obtain ⟨its1,rv1,p1,hz1⟩:=I1.list hx
 obtain ⟨its2,rv2,p2,hz2⟩:=I1.list hy
 refine call_zip_2 p1.isList p2.isList fun h' sz sI sO t1 t2 hsz kk=>?_
 have I2:Inv X pins σ H1 { s1 with heap:=h' }:=I1.kept (t':=s1.toks) kk
 refine wpAny_pyIter_zip sz ⟨_,_,CU l1 l2 (s1.heap.objs.size+4) (s1.heap.objs.size+2) (s1.heap.objs.size+3) s1.heap.objs.size (s1.heap.objs.size+1),Itz X.K l1 l2,H1,rfl,I2,Bg _ _ _ _ _ _ _ (Nat.ne_of_lt (Nat.lt_succ_self _)) (Nat.ne_of_lt (Nat.lt_succ_self _)),⟨sz,sI,⟨_,_,sO⟩,t1,t2⟩,fun c hc=>?_,q⟩
 simp only[List.mem_cons,List.not_mem_nil,or_false] at hc
 have hge:s1.heap.objs.size≤c:=by rcases hc with rfl | rfl | rfl | rfl | rfl<;>first | exact Nat.le_add_right _ _ | exact Nat.le_refl _
 obtain ⟨g0,g1,g2,g3,g4,g5⟩:=I1.BR (H':=H1) hge (I1.hok.fresh hge)
 exact⟨g0,g1,g2,g3,g4,g5⟩
end
mutual
def D.plain:D→Bool
 | .non=>true | .bl _=>false | .int _=>true | .str _=>true
 | .lst ds=>D.eF ds | .tup ds=>D.eF ds
def D.eF:List D→Bool
 | []=>true
 | d::ds=>D.plain d && D.eF ds
end
mutual
def D.depth:D→Nat
 | .lst ds=>D.fH ds+1 | .tup ds=>D.fH ds+1
 | _=>0
def D.fH:List D→Nat
 | []=>0
 | d::ds=>max (D.depth d) (D.fH ds)
end
mutual
def D.eqb:D→D→Bool
 | .non,.non=>true
 | .int i,.int j=>i == j
 | .str i,.str j=>i == j
 | .lst a,.lst b=>D.jF a b
 | .tup a,.tup b=>D.jF a b
 | _,_=>false
def D.jF:List D→List D→Bool
 | [],[]=>true
 | a::as,b::bs=>D.eqb a b && D.jF as bs
 | _,_=>false
end
theorem D.jv:∀{a b:List D},D.jF a b=(decide (a.length=b.length) && (List.range a.length).all fun i=>match a[i]?,b[i]? with | some x,some y=>D.eqb x y | _,_=>false)
 | [],[]=>rfl
 | [],b::bs=>by simp [D.jF]
 | a::as,[]=>by simp [D.jF]
 | a::as,b::bs=>by
  rw[D.jF,D.jv (a:=as) (b:=bs),List.length_cons,List.range_succ_eq_map,List.all_cons,List.all_map]
  by_cases h:as.length=bs.length
  ·simp [h,Function.comp_def]
  ·simp [h]
end L2
namespace L2
open PySem PySem.Spec PyProof.Rows
open PySem.SeqAt
theorem D.fk:∀{ds:List D}{i:Nat}{d:D},D.eF ds=true→ds[i]?=some d→d.plain=true
 | [],i,d,_,e=>by simp at e
 | c::ds,0,d,h,e=>by
  simp at e;subst e
  rw[D.eF,Bool.and_eq_true] at h
  exact h.1
 | c::ds,i+1,d,h,e=>by
  rw[D.eF,Bool.and_eq_true] at h
  exact D.fk (i:=i) h.2 (by simpa using e)
theorem D.iP:∀{ds:List D}{i:Nat}{d:D},ds[i]?=some d→d.depth≤D.fH ds
 | [],i,d,e=>by simp at e
 | c::ds,0,d,e=>by
  simp at e;subst e
  rw[D.fH]
  exact Nat.le_max_left _ _
 | c::ds,i+1,d,e=>by
  rw[D.fH]
  exact Nat.le_trans (D.iP (i:=i) (by simpa using e)) (Nat.le_max_right _ _)
theorem D.BL {a b:List D} (hl:a.length=b.length) (f:Nat→Bool) (h:∀i x y,a[i]?=some x→b[i]?=some y→f i=D.eqb x y):D.jF a b=(List.range a.length).all f:=by
 rw[D.jv,decide_eq_true hl,Bool.true_and,Bool.eq_iff_iff]
 simp only[List.all_eq_true,List.mem_range]
 constructor
 ·intro q i hi
  have:=q i hi
  rw[List.getElem?_eq_getElem hi,List.getElem?_eq_getElem (show i<b.length by omega)] at this
  rw[h i _ _ (List.getElem?_eq_getElem hi) (List.getElem?_eq_getElem (show i<b.length by omega))]
  exact this
 ·intro q i hi
  have:=q i hi
  rw[h i _ _ (List.getElem?_eq_getElem hi) (List.getElem?_eq_getElem (show i<b.length by omega))] at this
  rw[List.getElem?_eq_getElem hi,List.getElem?_eq_getElem (show i<b.length by omega)]
  exact this
theorem D.mX {a b:List D} (hl:a.length≠b.length):D.jF a b=false:=by
 rw[D.jv,decide_eq_false hl,Bool.false_and]
theorem yZ {H:Hp}:∀(n:Nat) (d e:D) (v:V),d.depth≤n→Rp H d v→Rp H e v→d.plain=true→D.eqb d e=true:=by
 intro n
 induction n with
 | zero =>
  intro d e v hn hd he hp
  obtain ⟨f,hd⟩:=hd
  obtain ⟨g,he⟩:=he
  cases d with
  | non=>obtain ⟨rfl,_⟩:=hd;cases e with
   | non=>rfl
   | lst ds=>obtain ⟨_,_,_,z,_⟩:=he;cases z
   | tup ds=>obtain ⟨_,_,z,_⟩:=he;cases z
   | _=>obtain ⟨z,_⟩:=he;cases z
  | bl b=>cases hp
  | int i=>obtain ⟨rfl,_⟩:=hd;cases e with
   | int j=>obtain ⟨z,_⟩:=he;cases z;simp [D.eqb]
   | lst ds=>obtain ⟨_,_,_,z,_⟩:=he;cases z
   | tup ds=>obtain ⟨_,_,z,_⟩:=he;cases z
   | _=>obtain ⟨z,_⟩:=he;cases z
  | str i=>obtain ⟨rfl,_⟩:=hd;cases e with
   | str j=>obtain ⟨z,_⟩:=he;cases z;simp [D.eqb]
   | lst ds=>obtain ⟨_,_,_,z,_⟩:=he;cases z
   | tup ds=>obtain ⟨_,_,z,_⟩:=he;cases z
   | _=>obtain ⟨z,_⟩:=he;cases z
  | lst ds=>rw[D.depth] at hn;omega
  | tup ds=>rw[D.depth] at hn;omega
 | succ n ih =>
  intro d e v hn hd he hp
  have go:∀(ds es:List D) (xs:List V) (f g:List Addr),D.fH ds≤n→Rfs H ds xs f→Rfs H es xs g→D.eF ds=true→D.jF ds es=true:=by
   intro ds es xs f g hn h1 h2 hp
   have l1:=h1.length
   have l2:=h2.length
   rw[D.BL (by omega) (fun _=>true) (fun i x y e1 e2=>?_)]
   ·simp
   ·obtain ⟨v1,f1,q1,r1,_⟩:=h1.get e1
    obtain ⟨v2,f2,q2,r2,_⟩:=h2.get e2
    rw[q1] at q2;cases q2
    exact (ih x y v1 (Nat.le_trans (D.iP e1) hn) ⟨_,r1⟩ ⟨_,r2⟩ (D.fk hp e1)).symm
  obtain ⟨f,hd⟩:=hd
  obtain ⟨g,he⟩:=he
  cases d with
  | non=>obtain ⟨rfl,_⟩:=hd;cases e with
   | non=>rfl
   | lst ds=>obtain ⟨_,_,_,z,_⟩:=he;cases z
   | tup ds=>obtain ⟨_,_,z,_⟩:=he;cases z
   | _=>obtain ⟨z,_⟩:=he;cases z
  | bl b=>cases hp
  | int i=>obtain ⟨rfl,_⟩:=hd;cases e with
   | int j=>obtain ⟨z,_⟩:=he;cases z;simp [D.eqb]
   | lst ds=>obtain ⟨_,_,_,z,_⟩:=he;cases z
   | tup ds=>obtain ⟨_,_,z,_⟩:=he;cases z
   | _=>obtain ⟨z,_⟩:=he;cases z
  | str i=>obtain ⟨rfl,_⟩:=hd;cases e with
   | str j=>obtain ⟨z,_⟩:=he;cases z;simp [D.eqb]
   | lst ds=>obtain ⟨_,_,_,z,_⟩:=he;cases z
   | tup ds=>obtain ⟨_,_,z,_⟩:=he;cases z
   | _=>obtain ⟨z,_⟩:=he;cases z
  | lst ds =>
   obtain ⟨a,xs,fq,rfl,e1,rfl,hd⟩:=hd
   cases e with
   | lst es =>
    obtain ⟨b,ys,gq,z,e2,rfl,he⟩:=he
    cases z
    rw[e1] at e2;cases e2
    rw[D.eqb]
    exact go ds es xs fq gq (by rw[D.depth] at hn;omega) hd he hp
   | tup es =>
    obtain ⟨b,ys,z,e2,he⟩:=he
    cases z
    rw[e1] at e2;cases e2
   | _=>obtain ⟨z,_⟩:=he;cases z
  | tup ds =>
   obtain ⟨a,xs,rfl,e1,hd⟩:=hd
   cases e with
   | tup es =>
    obtain ⟨b,ys,z,e2,he⟩:=he
    cases z
    rw[e1] at e2;cases e2
    rw[D.eqb]
    exact go ds es xs f g (by rw[D.depth] at hn;omega) hd he hp
   | lst es =>
    obtain ⟨b,ys,gq,z,e2,rfl,he⟩:=he
    cases z
    rw[e1] at e2;cases e2
   | _=>obtain ⟨z,_⟩:=he;cases z
theorem Fs {X:Cx}{pins:List (Addr × Obj)}{σ:St}{H:Hp}{s:Shared} (I:Inv X pins σ H s):∀(n:Nat) (d e:D) (x y:V) (u w:Value) (A:Around),d.depth≤n→Rp H d x→Rp H e y→RelV x u→RelV y w→d.plain=true→e.plain=true→A.units+n<cLine →
  EqAt A s u w (D.eqb d e):=by
 intro n
 induction n with
 | zero =>
  intro d e x y u w A hn hd he rx ry pd pe hu
  obtain ⟨f,hd⟩:=hd
  obtain ⟨g,he⟩:=he
  have hu':A.units<cLine:=by omega
  cases d with
  | non =>
   obtain ⟨rfl,_⟩:=hd;obtain rfl:u=.none:=rx
   cases e with
   | non=>obtain ⟨rfl,_⟩:=he;obtain rfl:w=.none:=ry;exact EqAt.same _
   | bl b=>cases pe
   | int j=>obtain ⟨rfl,_⟩:=he;obtain ⟨t,rfl⟩:=ry;exact EqAt.none_int _ _
   | str j=>obtain ⟨rfl,_⟩:=he;obtain ⟨t,rfl⟩:=ry;exact EqAt.none_str _ _
   | lst es=>obtain ⟨b,ys,gq,rfl,e2,_,he⟩:=he;obtain rfl:w=.ref b:=ry;obtain ⟨_,_,pl,_⟩:=I.list (SqL.of e2);exact EqAt.none_list pl.isList hu'
   | tup es=>obtain ⟨b,ys,rfl,e2,he⟩:=he;obtain rfl:w=.ref b:=ry;obtain ⟨_,_,pl,_⟩:=I.tuple (SqT.of e2);exact EqAt.none_tuple pl hu'
  | bl b=>cases pd
  | int i =>
   obtain ⟨rfl,_⟩:=hd;obtain ⟨t0,rfl⟩:=rx
   cases e with
   | non=>obtain ⟨rfl,_⟩:=he;obtain rfl:w=.none:=ry;exact EqAt.int_none _ _
   | bl b=>cases pe
   | int j=>obtain ⟨rfl,_⟩:=he;obtain ⟨t,rfl⟩:=ry;exact EqAt.int_int _ _ _ _
   | str j=>obtain ⟨rfl,_⟩:=he;obtain ⟨t,rfl⟩:=ry;exact EqAt.int_str _ _ _ _
   | lst es=>obtain ⟨b,ys,gq,rfl,e2,_,he⟩:=he;obtain rfl:w=.ref b:=ry;obtain ⟨_,_,pl,_⟩:=I.list (SqL.of e2);exact EqAt.int_list _ _ pl.isList hu'
   | tup es=>obtain ⟨b,ys,rfl,e2,he⟩:=he;obtain rfl:w=.ref b:=ry;obtain ⟨_,_,pl,_⟩:=I.tuple (SqT.of e2);exact EqAt.int_tuple _ _ pl hu'
  | str i =>
   obtain ⟨rfl,_⟩:=hd;obtain ⟨t0,rfl⟩:=rx
   cases e with
   | non=>obtain ⟨rfl,_⟩:=he;obtain rfl:w=.none:=ry;exact EqAt.str_none _ _
   | bl b=>cases pe
   | int j=>obtain ⟨rfl,_⟩:=he;obtain ⟨t,rfl⟩:=ry;exact EqAt.str_int _ _ _ _
   | str j=>obtain ⟨rfl,_⟩:=he;obtain ⟨t,rfl⟩:=ry;exact EqAt.str_str _ _ _ _
   | lst es=>obtain ⟨b,ys,gq,rfl,e2,_,he⟩:=he;obtain rfl:w=.ref b:=ry;obtain ⟨_,_,pl,_⟩:=I.list (SqL.of e2);exact EqAt.str_list _ _ pl.isList hu'
   | tup es=>obtain ⟨b,ys,rfl,e2,he⟩:=he;obtain rfl:w=.ref b:=ry;obtain ⟨_,_,pl,_⟩:=I.tuple (SqT.of e2);exact EqAt.str_tuple _ _ pl hu'
  | lst ds=>rw[D.depth] at hn;omega
  | tup ds=>rw[D.depth] at hn;omega
 | succ n ih =>
  intro d e x y u w A hn hd he rx ry pd pe hu
  have hu':A.units<cLine:=by omega
  have ud:A.in1.units+n<cLine:=by show A.units+1+n<cLine;omega
  cases d with
  | non=>exact ih _ _ x y u w A (by simp [D.depth]) hd he rx ry pd pe (by omega)
  | bl b=>cases pd
  | int i=>exact ih _ _ x y u w A (by simp [D.depth]) hd he rx ry pd pe (by omega)
  | str i=>exact ih _ _ x y u w A (by simp [D.depth]) hd he rx ry pd pe (by omega)
  | lst ds =>
   have hd0:=hd
   have he0:=he
   obtain ⟨f,a,xs,fq,rfl,e1,rfl,hd⟩:=hd
   obtain rfl:u=.ref a:=rx
   obtain ⟨its,rv,pl,hz⟩:=I.list (SqL.of e1)
   obtain ⟨g,he⟩:=he
   cases e with
   | non=>obtain ⟨rfl,_⟩:=he;obtain rfl:w=.none:=ry;exact EqAt.list_none pl.isList hu'
   | bl b=>cases pe
   | int j=>obtain ⟨rfl,_⟩:=he;obtain ⟨t,rfl⟩:=ry;exact EqAt.list_int _ _ pl.isList hu'
   | str j=>obtain ⟨rfl,_⟩:=he;obtain ⟨t,rfl⟩:=ry;exact EqAt.list_str _ _ pl.isList hu'
   | tup es=>obtain ⟨b,ys,rfl,e2,he⟩:=he;obtain rfl:w=.ref b:=ry;obtain ⟨_,_,pl2,_⟩:=I.tuple (SqT.of e2);exact EqAt.list_tuple pl.isList pl2 hu'
   | lst es =>
    obtain ⟨b,ys,gq,rfl,e2,rfl,he⟩:=he
    obtain rfl:w=.ref b:=ry
    by_cases hab:a=b
    ·subst hab
     rw[yZ _ _ _ _ (Nat.le_refl _) hd0 he0 pd]
     exact EqAt.same _
    ·obtain ⟨its2,rv2,pl2,hz2⟩:=I.list (SqL.of e2)
     refine EqAt.of_refs hab ?_
     have l1:=rv.length
     have l2:=rv2.length
     have m1:=hd.length
     have m2:=he.length
     by_cases hl:ds.length=es.length
     ·have key:=RcAt.lists (A:=A) (e:=fun i=>match ds[i]?,es[i]? with | some x,some y=>D.eqb x y | _,_=>false) pl.isList pl2.isList (by simp;omega) hu' (fun j h1 h2=>by
       have j1:j<ds.length:=by simp at h1;omega
       have j2:j<es.length:=by omega
       simp only[List.getElem?_eq_getElem j1,List.getElem?_eq_getElem j2]
       obtain ⟨v1,f1,q1,r1,_⟩:=hd.get (List.getElem?_eq_getElem j1)
       obtain ⟨v2,f2,q2,r2,_⟩:=he.get (List.getElem?_eq_getElem j2)
       obtain ⟨u1,p1,t1⟩:=rv.get q1
       obtain ⟨u2,p2,t2⟩:=rv2.get q2
       have i1:its.toArray[j]=u1:=by
        have:=List.getElem?_eq_some_iff.mp p1
        obtain ⟨_,z⟩:=this
        simpa using z
       have i2:its2.toArray[j]=u2:=by
        have:=List.getElem?_eq_some_iff.mp p2
        obtain ⟨_,z⟩:=this
        simpa using z
       rw[i1,i2]
       exact ih _ _ v1 v2 u1 u2 A.in1 (by have:=D.iP (List.getElem?_eq_getElem j1);rw[D.depth] at hn;omega) ⟨_,r1⟩ ⟨_,r2⟩ t1 t2 (D.fk pd (List.getElem?_eq_getElem j1)) (D.fk pe (List.getElem?_eq_getElem j2)) ud)
      have e3:D.eqb (.lst ds) (.lst es)=(List.range its.toArray.size).all fun i=>match ds[i]?,es[i]? with | some x,some y=>D.eqb x y | _,_=>false:=by
       rw[D.eqb,D.jv,decide_eq_true hl,Bool.true_and]
       rw[show its.toArray.size=ds.length by simp;omega]
       all_goals rfl
      rw[e3]
      exact key
     ·rw[D.eqb,D.mX hl]
      exact RcAt.lists_lengths pl.isList pl2.isList (by simp;omega) hu'
  | tup ds =>
   have hd0:=hd
   have he0:=he
   obtain ⟨f,a,xs,rfl,e1,hd⟩:=hd
   obtain rfl:u=.ref a:=rx
   obtain ⟨its,rv,pl,hz⟩:=I.tuple (SqT.of e1)
   obtain ⟨g,he⟩:=he
   cases e with
   | non=>obtain ⟨rfl,_⟩:=he;obtain rfl:w=.none:=ry;exact EqAt.tuple_none pl hu'
   | bl b=>cases pe
   | int j=>obtain ⟨rfl,_⟩:=he;obtain ⟨t,rfl⟩:=ry;exact EqAt.tuple_int _ _ pl hu'
   | str j=>obtain ⟨rfl,_⟩:=he;obtain ⟨t,rfl⟩:=ry;exact EqAt.tuple_str _ _ pl hu'
   | lst es=>obtain ⟨b,ys,gq,rfl,e2,_,he⟩:=he;obtain rfl:w=.ref b:=ry;obtain ⟨_,_,pl2,_⟩:=I.list (SqL.of e2);exact EqAt.tuple_list pl pl2.isList hu'
   | tup es =>
    obtain ⟨b,ys,rfl,e2,he⟩:=he
    obtain rfl:w=.ref b:=ry
    by_cases hab:a=b
    ·subst hab
     rw[yZ _ _ _ _ (Nat.le_refl _) hd0 he0 pd]
     exact EqAt.same _
    ·obtain ⟨its2,rv2,pl2,hz2⟩:=I.tuple (SqT.of e2)
     refine EqAt.of_refs hab ?_
     have l1:=rv.length
     have l2:=rv2.length
     have m1:=hd.length
     have m2:=he.length
     have key:=RcAt.tuples (A:=A) (e:=fun i=>match ds[i]?,es[i]? with | some x,some y=>D.eqb x y | _,_=>false) pl pl2 hu' (fun j h1 h2=>by
       have j1:j<ds.length:=by simp at h1;omega
       have j2:j<es.length:=by simp at h2;omega
       simp only[List.getElem?_eq_getElem j1,List.getElem?_eq_getElem j2]
       obtain ⟨v1,f1,q1,r1,_⟩:=hd.get (List.getElem?_eq_getElem j1)
       obtain ⟨v2,f2,q2,r2,_⟩:=he.get (List.getElem?_eq_getElem j2)
       obtain ⟨u1,p1,t1⟩:=rv.get q1
       obtain ⟨u2,p2,t2⟩:=rv2.get q2
       have i1:its.toArray[j]=u1:=by
        have:=List.getElem?_eq_some_iff.mp p1
        obtain ⟨_,z⟩:=this
        simpa using z
       have i2:its2.toArray[j]=u2:=by
        have:=List.getElem?_eq_some_iff.mp p2
        obtain ⟨_,z⟩:=this
        simpa using z
       rw[i1,i2]
       exact ih _ _ v1 v2 u1 u2 A.in1 (by have:=D.iP (List.getElem?_eq_getElem j1);rw[D.depth] at hn;omega) ⟨_,r1⟩ ⟨_,r2⟩ t1 t2 (D.fk pd (List.getElem?_eq_getElem j1)) (D.fk pe (List.getElem?_eq_getElem j2)) ud)
     have e3:D.eqb (.tup ds) (.tup es)=((List.range (min its.toArray.size its2.toArray.size)).all (fun i=>match ds[i]?,es[i]? with | some x,some y=>D.eqb x y | _,_=>false) && its.toArray.size == its2.toArray.size):=by
      rw[D.eqb]
      have z1:its.toArray.size=ds.length:=by simp;omega
      have z2:its2.toArray.size=es.length:=by simp;omega
      rw[z1,z2]
      by_cases hl:ds.length=es.length
      ·rw[D.jv,decide_eq_true hl,Bool.true_and,hl,Nat.min_self,beq_self_eq_true,Bool.and_true]
       all_goals rfl
      ·rw[D.mX hl]
       have:(ds.length == es.length)=false:=beq_eq_false_iff_ne.mpr hl
       rw[this,Bool.and_false]
     rw[e3]
     exact key
def AJ (ds es:List D) (i:Nat):Bool:=match ds[i]?,es[i]? with | some x,some y=>D.eqb x y | _,_=>false
theorem wB {X:Cx}{pins:List (Addr × Obj)}{σ:St}{H:Hp}{s:Shared} (I:Inv X pins σ H s) {A:Around}{ds es:List D}{xs ys:List V}{f g:List Addr}{its its2:List Value} (hd:Rfs H ds xs f) (he:Rfs H es ys g) (rv:Vals xs its) (rv2:Vals ys its2)
  (pd:D.eF ds=true) (pe:D.eF es=true) (hu:A.units+1+D.fH ds<cLine):∀j (h1:j<its.toArray.size) (h2:j<its2.toArray.size),EqAt A.in1 s its.toArray[j] its2.toArray[j] (AJ ds es j):=by
 intro j h1 h2
 have l1:=rv.length
 have l2:=rv2.length
 have m1:=hd.length
 have m2:=he.length
 have j1:j<ds.length:=by simp at h1;omega
 have j2:j<es.length:=by simp at h2;omega
 unfold AJ
 simp only[List.getElem?_eq_getElem j1,List.getElem?_eq_getElem j2]
 obtain ⟨v1,f1,q1,r1,_⟩:=hd.get (List.getElem?_eq_getElem j1)
 obtain ⟨v2,f2,q2,r2,_⟩:=he.get (List.getElem?_eq_getElem j2)
 obtain ⟨u1,p1,t1⟩:=rv.get q1
 obtain ⟨u2,p2,t2⟩:=rv2.get q2
 have i1:its.toArray[j]=u1:=by
  obtain ⟨_,z⟩:=List.getElem?_eq_some_iff.mp p1
  simpa using z
 have i2:its2.toArray[j]=u2:=by
  obtain ⟨_,z⟩:=List.getElem?_eq_some_iff.mp p2
  simpa using z
 rw[i1,i2]
 exact Fs I _ _ _ v1 v2 u1 u2 A.in1 (D.iP (List.getElem?_eq_getElem j1)) ⟨_,r1⟩ ⟨_,r2⟩ t1 t2 (D.fk pd (List.getElem?_eq_getElem j1)) (D.fk pe (List.getElem?_eq_getElem j2)) hu
theorem pf {ds es:List D} (hl:ds.length=es.length):D.jF ds es=(List.range ds.length).all (AJ ds es):=by
 rw[D.jv,decide_eq_true hl,Bool.true_and]
 rfl
section
variable {X:Cx}
def CI (neg:Bool):R2:=fun x y H Q=>∃ds es,Rp H (.lst ds) x∧Rp H (.lst es) y∧D.eF ds=true∧D.eF es=true∧D.fH ds≤60∧Q (.bl (if neg then !D.jF ds es else D.jF ds es)) H
theorem GQ (hu:X.A.units+64<cLine):OpR X (compareOp .Eq) (CI false):=by
 intro pins s σ H x y v u Q I rx ry h
 obtain ⟨ds,es,⟨f,a,xs,fq,rfl,e1,rfl,hd⟩,⟨g,b,ys,gq,rfl,e2,rfl,he⟩,pd,pe,hdp,q⟩:=h
 obtain rfl:v=.ref a:=rx
 obtain rfl:u=.ref b:=ry
 obtain ⟨its,rv,pl,hz⟩:=I.list (SqL.of e1)
 obtain ⟨its2,rv2,pl2,hz2⟩:=I.list (SqL.of e2)
 have l1:=rv.length
 have l2:=rv2.length
 have m1:=hd.length
 have m2:=he.length
 by_cases hl:ds.length=es.length
 ·refine eq_listAt pl.isList pl2.isList (by simp;omega) (by omega) (wB I hd he rv rv2 pd pe (by omega)) (bx I q ?_)
  rw[pf hl,show its.toArray.size=ds.length by simp;omega]
  all_goals rfl
 ·refine eq_list_lengthsAt pl.isList pl2.isList (by simp;omega) (by omega) (bx I q ?_)
  rw[D.mX hl]
  all_goals rfl
theorem qx (hu:X.A.units+64<cLine):OpR X (compareOp .NotEq) (CI true):=by
 intro pins s σ H x y v u Q I rx ry h
 obtain ⟨ds,es,⟨f,a,xs,fq,rfl,e1,rfl,hd⟩,⟨g,b,ys,gq,rfl,e2,rfl,he⟩,pd,pe,hdp,q⟩:=h
 obtain rfl:v=.ref a:=rx
 obtain rfl:u=.ref b:=ry
 obtain ⟨its,rv,pl,hz⟩:=I.list (SqL.of e1)
 obtain ⟨its2,rv2,pl2,hz2⟩:=I.list (SqL.of e2)
 have l1:=rv.length
 have l2:=rv2.length
 have m1:=hd.length
 have m2:=he.length
 by_cases hl:ds.length=es.length
 ·refine RcNeAt.lists pl.isList pl2.isList (by simp;omega) (by omega) (wB I hd he rv rv2 pd pe (by omega)) _ _ _ _ (bx I q ?_)
  rw[pf hl,show its.toArray.size=ds.length by simp;omega]
  all_goals rfl
 ·refine RcNeAt.lists_lengths pl.isList pl2.isList (by simp;omega) (by omega) _ _ _ _ (bx I q ?_)
  rw[D.mX hl]
  all_goals rfl
end
theorem D.ib:∀(xs:List Int),D.eF (xs.map D.int)=true
 | []=>rfl
 | x::xs=>by rw[List.map_cons,D.eF,D.ib xs];rfl
theorem D.i8:∀(t:List (List Int)),D.eF (t.map dI)=true
 | []=>rfl
 | x::xs=>by rw[List.map_cons,D.eF,D.i8 xs,D.plain,D.ib];rfl
theorem D.j8:∀(xs:List Int),D.fH (xs.map D.int)=0
 | []=>rfl
 | x::xs=>by rw[List.map_cons,D.fH,D.j8 xs];rfl
theorem D.jd:∀(t:List (List Int)),D.fH (t.map dI)≤1
 | []=>by rw[List.map_nil,D.fH];omega
 | x::xs=>by
  have:=D.jd xs
  rw[List.map_cons,D.fH,D.depth,D.j8]
  exact Nat.max_le.mpr ⟨Nat.le_refl _,this⟩
theorem D.kR:∀(xs ys:List Int),D.jF (xs.map D.int) (ys.map D.int)=decide (xs=ys)
 | [],[]=>rfl
 | [],y::ys=>rfl
 | x::xs,[]=>rfl
 | x::xs,y::ys=>by
  rw[List.map_cons,List.map_cons,D.jF,D.kR xs ys,D.eqb]
  by_cases h:x=y
  ·subst h;simp
  ·have:(x == y)=false:=beq_eq_false_iff_ne.mpr h
   simp [this,h]
theorem D.nh:∀(xs ys:List (List Int)),D.jF (xs.map dI) (ys.map dI)=decide (xs=ys)
 | [],[]=>rfl
 | [],y::ys=>rfl
 | x::xs,[]=>rfl
 | x::xs,y::ys=>by
  rw[List.map_cons,List.map_cons,D.jF,D.nh xs ys,D.eqb,D.kR]
  by_cases h:x=y
  ·subst h;simp
  ·simp [h]
def A7 (i j:Int):Prop:=∃m n:Nat,i.natAbs<2 ^ m∧j.natAbs<2 ^ n∧m+n≤100000000
def Fd (i j:Int):Prop:=0<j∧∃m:Nat,j.natAbs<2 ^ m∧m≤9000
section
variable {X:Cx}
theorem bQ:OpR X (binaryOp .Mult) (rI A7 fun i j=>.int (i*j)):=opI fun i j _ _ _ _ _ hc q=>by
 obtain ⟨m,n,h1,h2,h3⟩:=hc
 exact mul_int q (mulOk_of_bits (intBits_le h1) (intBits_le h2) (by omega))
theorem cy:OpR X (binaryOp .FloorDiv) (rI Fd fun i j=>.int (i / j)):=opI fun i j _ _ _ _ _ hc q=>by
 obtain ⟨h0,m,h1,h2⟩:=hc
 have hj:j.natAbs≠0:=by omega
 refine floordiv_int (by omega) ?_ (.inl (PyProof.noPylong_of_log2 (Nat.lt_of_lt_of_le ((Nat.log2_lt hj).mpr h1) h2)))
 rw[Int.fdiv_eq_ediv_of_nonneg i (by omega)]
 exact q
end
def wG (scope sc0:Scope):Scope:={ scope with names:=scope.names.map fun (n,k)=>if (k == .free && sc0.kind == .function && sc0.names.lookup n == some .cell) then (n,.cell) else (n,k) }
def qK:List Str→Bool
 | []=>true
 | x::xs=>!xs.contains x && qK xs
theorem aN:∀{l:List Str},qK l=true→l.Nodup
 | [],_=>List.nodup_nil
 | x::xs,h=>by
  rw[qK,Bool.and_eq_true,Bool.not_eq_true'] at h
  refine List.nodup_cons.mpr ⟨fun z=>?_,aN h.2⟩
  have:=List.contains_iff_mem.mpr z
  rw[this] at h
  exact absurd h.1 (by decide)
def Bf (sc0 scope:Scope) (tn cap:List Str):Bool :=
 decide (scope.kind=.function) && qK (scope.names.map (·.1)) && qK (tn++cap) && cap.all (fun y=>decide (scope.names.lookup y=some .free)) &&
  scope.names.all fun y=>!decide (y.2=.free) || (decide (sc0.names.lookup y.1=some .cell) || decide (sc0.names.lookup y.1=some .free))
theorem aO.of {X:Cx}{sc0 scope:Scope}{tn cap:List Str}{idx:List Nat} (h:Bf sc0 scope tn cap=true) (e:X.env.scope=sc0) (ci:idx.map (fun i=>X.N[i]?)=cap.map some):aO X scope tn cap idx:=by
 unfold Bf at h
 simp only[Bool.and_eq_true,decide_eq_true_eq,List.all_eq_true,Bool.or_eq_true,Bool.not_eq_true',decide_eq_false_iff_not] at h
 obtain ⟨⟨⟨⟨h1,h2⟩,h3⟩,h4⟩,h5⟩:=h
 refine⟨h1,aN h2,aN h3,h4,ci,fun y hy hf=>?_⟩
 rw[e]
 rcases h5 y hy with z | z
 ·exact absurd hf z
 ·exact z
structure FnAt (K:PySem.W.Frag) (mg:Str→Option Value) (x:Str) (st:Stmt) (ps:List Str) (f:Addr) (fd:FuncData):Prop where
 fn:Fun K x x st f fd
 mg:mg x=some (.ref f)
 bd:Binds K fd ps []
end L2
namespace L2
open PySem PySem.Spec PyProof.Rows
theorem small {n:Nat} (h:n≤100000):n≤sizeLine:=Nat.le_trans h (by rw[sizeLine_eq];decide)
section
variable {X:Cx}{K:PySem.W.Frag}
theorem aw (h:X.K=K):IxR X (wZ K):=by subst h;exact Ea
theorem eS (h:X.K=K):IxR X (Dq K):=by subst h;exact Gd
theorem cI {tg l:Expr}{tl:TE} (h:X.K=K) (hl:PE X l tl):PI X tg l (Bu K tl):=by subst h;exact Dg hl
theorem CW {tg l:Expr}{tl:TE} (h:X.K=K) (hl:PE X l tl):PI X tg l (Ga K tl):=by subst h;exact Gk hl
theorem t9 {elts:List Expr}{x1:Nat}{tp:Pos}{a b:Expr}{ta:TA}{p pos:Pos} (h:X.K=K) (hg:Gl X "zip") (hm:X.mg "zip" = none) (ha:PA X [a,b] ta) (hs:starEach [a,b] X.env=[(false,eval a X.env),(false,eval b X.env)]:=by rfl) (hs2:starEach [b] X.env=[(false,eval b X.env)]:=by rfl) :
  PI X (.Tuple elts x1 tp) (.Call (.Name "zip" p) [a,b] [] pos) (Fo K ta):=by subst h;exact Fp hg hm ha hs hs2
theorem aQ (h:X.K=K):iK X (.builtin "len") (fun xs H Q=>∃p ys,xs=[.ref p]∧(SqL K H p ys∨SqT K H p ys)∧Q (.int ys.length) H):=by subst h;exact tR
theorem fE (h:X.K=K):iK X (.builtin "isinstance") (fun xs H Q=>∃x n t b,xs=[x,.ty n]∧kX K H x t∧PySem.W.kitOne K t (.type n)=some b∧Q (.bl b) H):=by subst h;exact vj
theorem dX (h:X.K=K) (hc:X.calm=true):iK X (.builtin "sum") (fun xs H Q=>∃(a:Addr) (ns:List Int),xs=[.ref a]∧SqL K H a (ns.map V.int)∧Q (.int ns.sum) H):=by subst h;exact B4 hc
theorem fW (h:X.K=K):iK X (.type "list") (fun xs H Q=>∃p ys,xs=[.ref p]∧(SqL K H p ys∨SqT K H p ys)∧∀l,H l=none→Q (.ref l) (upd H l (.lst ys))):=by subst h;exact uT
theorem jE (h:X.K=K):SlR X (Gi K):=by subst h;exact DC
theorem Cn (h:X.K=K):OpR X (compareOp .In) (rIn K false):=by subst h;exact zW
theorem sG (h:X.K=K):OpR X (compareOp .NotIn) (rIn K true):=by subst h;exact uh
theorem oS {es:List Expr}{k:Nat}{t:TGs}{n:Nat}{pos:Pos} (h:X.K=K) (hc:X.calm=true) (ht:PGs X es t)
  (hn:(assignEach es X.env).length=n:=by rfl) (hst:(assignEach es X.env).findIdx? (·.1)=none:=by rfl):PG X (.Tuple es k pos) (Dt K n t):=by subst h;exact Gx hc ht hn hst
end
structure Bx (H H':Hp) (bs:List Addr):Prop where
 keep:∀b o,H b=some o→b∉bs→H' b=some o
 there:∀b∈bs,∃xs,H' b=some (.lst xs)
theorem Bx.clear {H H':Hp}{bs:List Addr}{c:Addr}{xs:List V} (s:Bx H H' bs) (hc:c∈bs):Bx H (L2.upd H' c (.lst xs)) bs :=
 ⟨fun b o e hb=>by rw[aI (fun z=>hb (by rw[z];exact hc))];exact s.keep b o e hb,fun b hb=>by
  by_cases z:b=c
  ·subst z;exact⟨_,aK⟩
  ·rw[aI z];exact s.there b hb⟩
theorem Rows.take {H:Hp}{t:List (List Int)}{as:List Addr} (h:Rows H t as):∀n:Nat,Rows H (t.take n) (as.take n):=by
 induction h with
 | nil=>intro n;rw[List.take_nil,List.take_nil];exact .nil
 | cons e _ ih =>
  intro n
  cases n with
  | zero=>exact .nil
  | succ n=>exact .cons e (ih n)
theorem m3 {K:PySem.W.Frag}{n:String}:PySem.W.kitOne K (.type n) (.type n)=some true:=by unfold PySem.W.kitOne;rw[if_pos (beq_self_eq_true _)]
end L2
namespace L2
open PySem PySem.Spec PyProof.Rows
section
variable {X:Cx}{x:Str}{p pos:Pos}{e:Expr}{es:List Expr}{kws:List Keyword}{t tk:TA}{id:String}{ks:List Str}{r:List V→List V→Hp→VK→Prop}
end
section
variable {X:Cx}{K:PySem.W.Frag}
theorem mv:∀{us:List Value}{ns:List Int},IntsAre us ns→Vals (ns.map V.int) us
 | _,_,.nil=>.nil
 | _,_,.cons n t h=>.cons ⟨t,rfl⟩ (mv h)
end
section
variable {prog:Program}{w:World}{A:Around}{E:Value→Shared→Prop}{s:Shared}
end
section
variable {X:Cx}{K:PySem.W.Frag}{e:Expr}{te:TE}{p p2 pos pos2:Pos}
end
end L2
namespace L2
open PySem PySem.Spec PyProof.Rows
def An (ns:List Int):List Int:=ns.mergeSort fun a b=>decide (b≤a)
theorem sF (ns:List Int):(An ns).Perm ns:=List.mergeSort_perm ns _
theorem zt (ns:List Int):(An ns).Pairwise (·≥·):=by
 have h:=List.pairwise_mergeSort (le:=fun a b:Int=>decide (b≤a)) (fun a b c h1 h2=>by simp only[decide_eq_true_eq] at *;omega) (fun a b=>by simp only[Bool.or_eq_true,decide_eq_true_eq];omega) ns
 exact h.imp fun h=>by simpa using h
theorem vT (ns:List Int):(An ns).length=ns.length:=(sF ns).length_eq
def hds (xs:List Int):List Int:=(List.range xs.length).map fun i=>(xs.take (i+1)).sum
end L2
namespace L3
open PySem L2
inductive D where
 | non | bl (b:Bool) | int (i:Int) | str (x:Str) | lst (ds:List D) | tup (ds:List D) | dic (kvs:List (Key × V)) | dit (kvs:List (List Key × V)) | scr (ns:List Int) | pin (a:Addr) (d:D) | mem (φ:Int→List Int→Int→Prop) | raw (w:V) | ins (C:Addr) (ns:List Str) (ds:List D)
def Kc (K:PySem.W.Frag) (a:Addr) (xs:List V):Prop :=
 ∃(o:Obj) (its:Array Value) (n:Nat),K.lookup a=some o∧o.cls=.type "list"∧o.dict=none∧o.data=.seq its n∧its.size≤sizeLine∧Vals xs its.toList
def Sc (K:PySem.W.Frag) (H:Hp) (a:Addr) (xs:List V):Prop:=(∃o,H a=some (.frz o (.lst xs)))∨Kc K a xs
theorem Sc.seq {K:PySem.W.Frag}{H:Hp}{a:Addr}{xs:List V} (h:Sc K H a xs):SqL K H a xs:=h.elim (fun ⟨o,h⟩=>.inl (.inr ⟨o,h⟩)) .inr
def Im (o:HO):Prop:=(∃xs,o=.tup xs)∨(∃o' u,o=.frz o' u)∨∃φ ks,o=.memo φ ks
section
variable {K:PySem.W.Frag}
mutual
def Rf (K:PySem.W.Frag) (H:Hp):D→V→List Addr→Prop
 | .non,v,fp=>v=.non∧fp=[]
 | .bl b,v,fp=>v=.bl b∧fp=[]
 | .int i,v,fp=>v=.int i∧fp=[]
 | .str x,v,fp=>v=.str x∧fp=[]
 | .lst ds,v,fp=>∃a xs fq,v=.ref a∧H a=some (.lst xs)∧fp=a::fq∧Rfs K H ds xs fq
 | .tup ds,v,fp=>∃a xs,v=.ref a∧H a=some (.tup xs)∧Rfs K H ds xs fp
 | .dic kvs,v,fp=>∃a,v=.ref a∧H a=some (.dK kvs)∧(∀p∈kvs,gF p.2=true)∧fp=[a]
 | .dit kvs,v,fp=>∃a,v=.ref a∧H a=some (.dT kvs)∧(∀p∈kvs,gF p.2=true)∧fp=[a]
 | .scr ns,v,fp=>∃a,v=.ref a∧Sc K H a (ns.map V.int)∧fp=[]
 | .pin a d,v,fp=>v=.ref a∧Rf K H d v fp
 | .mem φ,v,fp=>∃a,v=.ref a∧H a=some (.memo φ [])∧fp=[]
 | .raw w,v,fp=>v=w∧fp=[]
 | .ins C ns ds,v,fp=>∃a dx xs fq,v=.ref a∧H a=some (.ins C dx (ns.zip xs))∧fp=a::fq∧Rfs K H ds xs fq
def Rfs (K:PySem.W.Frag) (H:Hp):List D→List V→List Addr→Prop
 | [],xs,fp=>xs=[]∧fp=[]
 | d::ds,xs,fp=>∃x r f1 f2,xs=x::r∧fp=f1++f2∧Rf K H d x f1∧Rfs K H ds r f2
end
def Rp (K:PySem.W.Frag) (H:Hp) (d:D) (v:V):Prop:=∃fp,Rf K H d v fp
def Rps (K:PySem.W.Frag) (H:Hp) (ds:List D) (vs:List V):Prop:=∃fp,Rfs K H ds vs fp
mutual
theorem Rf.mono {H H':Hp}:∀{d:D}{v:V}{fp:List Addr},Rf K H d v fp→(∀a∈fp,∀o,H a=some o→H' a=some o)→(∀a o,H a=some o→Im o→H' a=some o)→Rf K H' d v fp
 | .non,_,_,h,_,_=>h
 | .bl _,_,_,h,_,_=>h
 | .int _,_,_,h,_,_=>h
 | .str _,_,_,h,_,_=>h
 | .lst ds,v,fp,h,k,t=>by
  obtain ⟨a,xs,fq,e1,e2,e3,h⟩:=h
  subst e3
  exact⟨a,xs,fq,e1,k a List.mem_cons_self _ e2,rfl,Rfs.mono h (fun b hb=>k b (List.mem_cons_of_mem _ hb)) t⟩
 | .tup ds,v,fp,h,k,t=>by
  obtain ⟨a,xs,e1,e2,h⟩:=h
  exact⟨a,xs,e1,t a _ e2 (.inl ⟨_,rfl⟩),Rfs.mono h k t⟩
 | .dic kvs,v,fp,h,k,t=>by
  obtain ⟨a,e1,e2,e3,e4⟩:=h
  subst e4
  exact⟨a,e1,k a List.mem_cons_self _ e2,e3,rfl⟩
 | .dit kvs,v,fp,h,k,t=>by
  obtain ⟨a,e1,e2,e3,e4⟩:=h
  subst e4
  exact⟨a,e1,k a List.mem_cons_self _ e2,e3,rfl⟩
 | .scr ns,v,fp,h,k,t=>by
  obtain ⟨a,e1,e2,e3⟩:=h
  refine⟨a,e1,?_,e3⟩
  rcases e2 with ⟨o,e2⟩ | e2
  ·exact .inl ⟨o,t a _ e2 (.inr (.inl ⟨_,_,rfl⟩))⟩
  ·exact .inr e2
 | .pin a d,v,fp,h,k,t=>⟨h.1,Rf.mono h.2 k t⟩
 | .mem φ,v,fp,h,k,t=>by
  obtain ⟨a,e1,e2,e3⟩:=h
  exact⟨a,e1,t a _ e2 (.inr (.inr ⟨_,_,rfl⟩)),e3⟩
 | .raw _,_,_,h,_,_=>h
 | .ins C ns ds,v,fp,h,k,t=>by
  obtain ⟨a,dx,xs,fq,e1,e2,e3,h⟩:=h
  subst e3
  exact⟨a,dx,xs,fq,e1,k a List.mem_cons_self _ e2,rfl,Rfs.mono h (fun b hb=>k b (List.mem_cons_of_mem _ hb)) t⟩
theorem Rfs.mono {H H':Hp}:∀{ds:List D}{vs:List V}{fp:List Addr},Rfs K H ds vs fp→(∀a∈fp,∀o,H a=some o→H' a=some o)→(∀a o,H a=some o→Im o→H' a=some o)→Rfs K H' ds vs fp
 | [],_,_,h,_,_=>h
 | d::ds,vs,fp,h,k,t=>by
  obtain ⟨x,r,f1,f2,e1,e2,h1,h2⟩:=h
  subst e2
  exact⟨x,r,f1,f2,e1,rfl,Rf.mono h1 (fun b hb=>k b (List.mem_append_left _ hb)) t,Rfs.mono h2 (fun b hb=>k b (List.mem_append_right _ hb)) t⟩
end
theorem Rf.same {H H':Hp}{d:D}{v:V}{fp:List Addr} (h:Rf K H d v fp) (s:aJ H H'):Rf K H' d v fp:=h.mono (fun a _ o e=>s a o e) fun a o e _=>s a o e
theorem Rfs.same {H H':Hp}{d:List D}{v:List V}{fp:List Addr} (h:Rfs K H d v fp) (s:aJ H H'):Rfs K H' d v fp:=h.mono (fun a _ o e=>s a o e) fun a o e _=>s a o e
theorem Rp.same {H H':Hp}{d:D}{v:V} (h:Rp K H d v) (s:aJ H H'):Rp K H' d v:=let ⟨fp,h⟩:=h;⟨fp,h.same s⟩
theorem Rps.same {H H':Hp}{d:List D}{v:List V} (h:Rps K H d v) (s:aJ H H'):Rps K H' d v:=let ⟨fp,h⟩:=h;⟨fp,h.same s⟩
mutual
theorem Rf.dom {H:Hp}:∀{d:D}{v:V}{fp:List Addr},Rf K H d v fp→∀a∈fp,∃o,H a=some o∧¬ Im o
 | .non,_,_,h,a,ha=>by obtain ⟨_,rfl⟩:=h;nomatch ha
 | .bl _,_,_,h,a,ha=>by obtain ⟨_,rfl⟩:=h;nomatch ha
 | .int _,_,_,h,a,ha=>by obtain ⟨_,rfl⟩:=h;nomatch ha
 | .str _,_,_,h,a,ha=>by obtain ⟨_,rfl⟩:=h;nomatch ha
 | .lst ds,v,fp,h,b,hb=>by
  obtain ⟨a,xs,fq,e1,e2,e3,h⟩:=h
  subst e3
  rcases List.mem_cons.mp hb with e | hb
  ·subst e;exact⟨_,e2,fun z=>by rcases z with ⟨_,z⟩ | ⟨_,_,z⟩ | ⟨_,_,z⟩<;>cases z⟩
  ·exact Rfs.dom h b hb
 | .tup ds,v,fp,h,b,hb=>by
  obtain ⟨a,xs,e1,e2,h⟩:=h
  exact Rfs.dom h b hb
 | .dic kvs,v,fp,h,b,hb=>by
  obtain ⟨a,e1,e2,e3,e4⟩:=h
  subst e4
  cases List.mem_singleton.mp hb
  exact⟨_,e2,fun z=>by rcases z with ⟨_,z⟩ | ⟨_,_,z⟩ | ⟨_,_,z⟩<;>cases z⟩
 | .dit kvs,v,fp,h,b,hb=>by
  obtain ⟨a,e1,e2,e3,e4⟩:=h
  subst e4
  cases List.mem_singleton.mp hb
  exact⟨_,e2,fun z=>by rcases z with ⟨_,z⟩ | ⟨_,_,z⟩ | ⟨_,_,z⟩<;>cases z⟩
 | .scr ns,v,fp,h,b,hb=>by
  obtain ⟨a,e1,e2,e3⟩:=h
  subst e3;nomatch hb
 | .pin a d,v,fp,h,b,hb=>Rf.dom h.2 b hb
 | .mem φ,v,fp,h,b,hb=>by
  obtain ⟨a,e1,e2,e3⟩:=h
  subst e3;nomatch hb
 | .raw _,_,_,h,a,ha=>by obtain ⟨_,rfl⟩:=h;nomatch ha
 | .ins C ns ds,v,fp,h,b,hb=>by
  obtain ⟨a,dx,xs,fq,e1,e2,e3,h⟩:=h
  subst e3
  rcases List.mem_cons.mp hb with e | hb
  ·subst e;exact⟨_,e2,fun z=>by rcases z with ⟨_,z⟩ | ⟨_,_,z⟩ | ⟨_,_,z⟩<;>cases z⟩
  ·exact Rfs.dom h b hb
theorem Rfs.dom {H:Hp}:∀{ds:List D}{vs:List V}{fp:List Addr},Rfs K H ds vs fp→∀a∈fp,∃o,H a=some o∧¬ Im o
 | [],_,_,h,a,ha=>by obtain ⟨_,rfl⟩:=h;nomatch ha
 | d::ds,vs,fp,h,b,hb=>by
  obtain ⟨x,r,f1,f2,e1,e2,h1,h2⟩:=h
  subst e2
  rcases List.mem_append.mp hb with hb | hb
  ·exact Rf.dom h1 b hb
  ·exact Rfs.dom h2 b hb
end
theorem Rf.upd {H:Hp}{d:D}{v:V}{fp:List Addr}{l:Addr}{o:HO} (h:Rf K H d v fp) (hl:l∉fp) (hm:∀o,H l=some o→¬ Im o):Rf K (upd H l o) d v fp :=
 h.mono (fun a ha u e=>by rw[aI (fun z=>hl (by rw[← z];exact ha))];exact e) fun a o e i=>by rw[aI (fun z=>hm o (by rw[← z];exact e) i)];exact e
theorem Rfs.upd {H:Hp}{d:List D}{v:List V}{fp:List Addr}{l:Addr}{o:HO} (h:Rfs K H d v fp) (hl:l∉fp) (hm:∀o,H l=some o→¬ Im o):Rfs K (upd H l o) d v fp :=
 h.mono (fun a ha u e=>by rw[aI (fun z=>hl (by rw[← z];exact ha))];exact e) fun a o e i=>by rw[aI (fun z=>hm o (by rw[← z];exact e) i)];exact e
theorem Rfs.length {H:Hp}:∀{ds:List D}{vs:List V}{fp:List Addr},Rfs K H ds vs fp→vs.length=ds.length
 | [],_,_,h=>by obtain ⟨rfl,_⟩:=h;rfl
 | d::ds,vs,fp,h=>by
  obtain ⟨x,r,f1,f2,e1,e2,h1,h2⟩:=h
  subst e1
  rw[List.length_cons,List.length_cons,Rfs.length h2]
theorem Rfs.append {H:Hp}:∀{ds es:List D}{vs ws:List V}{fp fq:List Addr},Rfs K H ds vs fp→Rfs K H es ws fq→Rfs K H (ds++es) (vs++ws) (fp++fq)
 | [],es,vs,ws,fp,fq,h,h'=>by obtain ⟨rfl,rfl⟩:=h;exact h'
 | d::ds,es,vs,ws,fp,fq,h,h'=>by
  obtain ⟨x,r,f1,f2,rfl,rfl,h1,h2⟩:=h
  exact⟨x,r++ws,f1,f2++fq,rfl,List.append_assoc ..,h1,Rfs.append h2 h'⟩
theorem Rfs.one {H:Hp}{d:D}{v:V}{fp:List Addr} (h:Rf K H d v fp):Rfs K H [d] [v] fp:=⟨v,[],fp,[],rfl,(List.append_nil _).symm,h,rfl,rfl⟩
theorem Rfs.get {H:Hp}:∀{ds:List D}{vs:List V}{fp:List Addr}{i:Nat}{d:D},Rfs K H ds vs fp→ds[i]?=some d→∃v f,vs[i]?=some v∧Rf K H d v f∧(∀a∈f,a∈fp)
 | [],_,_,_,_,_,e=>by simp at e
 | d::ds,vs,fp,0,d',h,e=>by
  obtain ⟨x,r,f1,f2,rfl,rfl,h1,h2⟩:=h
  simp at e;subst e
  exact⟨x,f1,rfl,h1,fun a ha=>List.mem_append_left _ ha⟩
 | d::ds,vs,fp,i+1,d',h,e=>by
  obtain ⟨x,r,f1,f2,rfl,rfl,h1,h2⟩:=h
  obtain ⟨v,f,e1,h3,k⟩:=Rfs.get (i:=i) h2 (by simpa using e)
  exact⟨v,f,by simpa using e1,h3,fun a ha=>List.mem_append_right _ (k a ha)⟩
theorem Rfs.get' {H:Hp}{ds:List D}{vs:List V}{fp:List Addr}{i:Nat}{v:V} (h:Rfs K H ds vs fp) (e:vs[i]?=some v):∃d f,ds[i]?=some d∧Rf K H d v f∧(∀a∈f,a∈fp):=by
 have hl:=h.length
 obtain ⟨hi,_⟩:=List.getElem?_eq_some_iff.mp e
 have hi':i<ds.length:=by omega
 obtain ⟨v',f,e1,h1,k⟩:=h.get (d:=ds[i]) (List.getElem?_eq_getElem hi')
 rw[e] at e1;cases e1
 exact⟨ds[i],f,List.getElem?_eq_getElem hi',h1,k⟩
def D.aY:D→Bool
 | .non=>true | .bl _=>true | .int _=>true | .str _=>true | _=>false
def D.toV:D→V
 | .non=>.non | .bl b=>.bl b | .int i=>.int i | .str x=>.str x | _=>.non
theorem Rf.aY {H:Hp}{d:D}{v:V}{fp:List Addr} (h:Rf K H d v fp) (s:d.aY=true):v=d.toV∧fp=[]:=by
 cases d<;>first | exact h | cases s
theorem Rf.qJ {H:Hp}{d:D} (s:d.aY=true):Rf K H d d.toV []:=by
 cases d<;>first | exact⟨rfl,rfl⟩ | cases s
theorem Rp.int {H:Hp}{i:Int}{v:V} (h:Rp K H (.int i) v):v=.int i:=h.choose_spec.1
theorem Rp.bl {H:Hp}{i:Bool}{v:V} (h:Rp K H (.bl i) v):v=.bl i:=h.choose_spec.1
theorem Rfs.i7 {H:Hp}:∀{ds:List D}{vs:List V}{fp:List Addr},Rfs K H ds vs fp→ds.all D.aY=true→vs=ds.map D.toV∧fp=[]
 | [],vs,fp,h,_=>h
 | d::ds,vs,fp,h,s=>by
  obtain ⟨x,r,f1,f2,rfl,rfl,h1,h2⟩:=h
  simp only[List.all_cons,Bool.and_eq_true] at s
  obtain ⟨rfl,rfl⟩:=h1.aY s.1
  obtain ⟨rfl,rfl⟩:=Rfs.i7 h2 s.2
  exact⟨rfl,rfl⟩
theorem Rfs.mE {H:Hp}:∀{ds:List D},ds.all D.aY=true→Rfs K H ds (ds.map D.toV) []
 | [],_=>⟨rfl,rfl⟩
 | d::ds,s=>by
  simp only[List.all_cons,Bool.and_eq_true] at s
  exact⟨_,_,[],[],rfl,rfl,Rf.qJ s.1,Rfs.mE s.2⟩
def D.items:D→Option (List D)
 | .lst ds=>some ds | .scr ns=>some (ns.map D.int) | _=>none
theorem Rfs.ofInts {H:Hp}:∀{ns:List Int},Rfs K H (ns.map D.int) (ns.map V.int) []
 | []=>⟨rfl,rfl⟩
 | n::ns=>⟨_,_,[],[],rfl,rfl,⟨rfl,rfl⟩,Rfs.ofInts⟩
theorem Rf.seq {H:Hp}{d:D}{ds:List D}{v:V}{fp:List Addr} (h:Rf K H d v fp) (e:d.items=some ds):∃a xs fq,v=.ref a∧SqL K H a xs∧Rfs K H ds xs fq∧∀b∈fq,b∈fp:=by
 cases d with
 | lst es =>
  cases e
  obtain ⟨a,xs,fq,e1,e2,rfl,h⟩:=h
  exact⟨a,xs,fq,e1,.inl (.inl e2),h,fun b hb=>List.mem_cons_of_mem _ hb⟩
 | scr ns =>
  cases e
  obtain ⟨a,e1,e2,e3⟩:=h
  exact⟨a,_,[],e1,e2.seq,Rfs.ofInts,fun b hb=>nomatch hb⟩
 | _=>cases e
theorem Rp.seq {H:Hp}{d:D}{ds:List D}{v:V} (h:Rp K H d v) (e:d.items=some ds):∃a xs fq,v=.ref a∧SqL K H a xs∧Rfs K H ds xs fq :=
 let ⟨_,h⟩:=h;let ⟨a,xs,fq,h1,h2,h3,_⟩:=h.seq e;⟨a,xs,fq,h1,h2,h3⟩
theorem Rp.tup {H:Hp}{ds:List D}{v:V} (h:Rp K H (.tup ds) v):∃a xs fq,v=.ref a∧SqT K H a xs∧Rfs K H ds xs fq:=by
 obtain ⟨fp,a,xs,e1,e2,h⟩:=h
 exact⟨a,xs,fp,e1,.inl (.inl e2),h⟩
def Mu (H:Hp) (a:Addr):Prop:=(∃xs,H a=some (.lst xs))∨(∃kvs,H a=some (.dK kvs))∨(∃kvs,H a=some (.dT kvs))∨∃C dx fs,H a=some (.ins C dx fs)
theorem Mu.same {H H':Hp}{a:Addr} (h:Mu H a) (s:aJ H H'):Mu H' a:=by
 rcases h with ⟨x,h⟩ | ⟨x,h⟩ | ⟨x,h⟩ | ⟨C,dx,fs,h⟩
 ·exact .inl ⟨x,s _ _ h⟩
 ·exact .inr (.inl ⟨x,s _ _ h⟩)
 ·exact .inr (.inr (.inl ⟨x,s _ _ h⟩))
 ·exact .inr (.inr (.inr ⟨C,dx,fs,s _ _ h⟩))
theorem Mu.some {H:Hp}{a:Addr} (h:Mu H a):H a≠none:=by
 rcases h with ⟨x,h⟩ | ⟨x,h⟩ | ⟨x,h⟩ | ⟨C,dx,fs,h⟩<;>rw[h]<;>intro z<;>cases z
theorem Mu.jV {H:Hp}{a:Addr} (h:Mu H a):∀o,H a=Option.some o→¬ Im o:=by
 rcases h with ⟨x,h⟩ | ⟨x,h⟩ | ⟨x,h⟩ | ⟨C,dx,fs,h⟩<;>rw[h]<;>intro o e z<;>cases e<;>rcases z with ⟨_,z⟩ | ⟨_,_,z⟩ | ⟨_,_,z⟩<;>cases z
theorem Mu.upd {H:Hp}{a l:Addr}{o:HO} (h:Mu H a) (ho:(∃xs,o=.lst xs)∨(∃xs,o=.dK xs)∨(∃xs,o=.dT xs)∨∃C dx fs,o=.ins C dx fs):Mu (upd H l o) a:=by
 by_cases e:a=l
 ·subst e
  rcases ho with ⟨xs,rfl⟩ | ⟨xs,rfl⟩ | ⟨xs,rfl⟩ | ⟨C,dx,fs,rfl⟩
  ·exact .inl ⟨xs,aK⟩
  ·exact .inr (.inl ⟨xs,aK⟩)
  ·exact .inr (.inr (.inl ⟨xs,aK⟩))
  ·exact .inr (.inr (.inr ⟨C,dx,fs,aK⟩))
 ·unfold Mu
  rw[aI e]
  exact h
abbrev Dl:=List (Option D)
structure Ok (K:PySem.W.Frag) (B0:Hp) (Γ:List Nat) (fps:Nat→List Addr) (δ:Dl) (σ:St) (H:Hp):Prop where
 len:σ.length=δ.length
 b0:aJ B0 H
 val:∀i d,δ[i]?=some (some d)→∃v,σ[i]?=some (some v)∧Rf K H d v (fps i)
 non:∀i,(∀d,δ[i]?≠some (some d))→fps i=[]
 own:∀i∈Γ,(fps i).Nodup∧∀a∈fps i,B0 a=none∧Mu H a
 dj:∀i∈Γ,∀j,j≠i→∀a∈fps i,a∉fps j
variable {B0:Hp}{Γ:List Nat}{fps:Nat→List Addr}{δ:Dl}{σ:St}{H H':Hp}
theorem Ok.same (o:Ok K B0 Γ fps δ σ H) (s:aJ H H'):Ok K B0 Γ fps δ σ H' :=
 ⟨o.len,o.b0.trans s,fun i d e=>let ⟨v,h1,h2⟩:=o.val i d e;⟨v,h1,h2.same s⟩,o.non,fun i hi=>⟨(o.own i hi).1,fun a ha=>⟨((o.own i hi).2 a ha).1,((o.own i hi).2 a ha).2.same s⟩⟩,o.dj⟩
theorem Ok.sub {Γ':List Nat} (o:Ok K B0 Γ fps δ σ H) (h:∀i∈Γ',i∈Γ):Ok K B0 Γ' fps δ σ H :=
 ⟨o.len,o.b0,o.val,o.non,fun i hi=>o.own i (h i hi),fun i hi=>o.dj i (h i hi)⟩
theorem Ok.dom (o:Ok K B0 Γ fps δ σ H) {i:Nat}{a:Addr} (h:a∈fps i):H a≠none:=by
 by_cases e:∃d,δ[i]?=some (some d)
 ·obtain ⟨d,e⟩:=e
  obtain ⟨v,_,r⟩:=o.val i d e
  obtain ⟨u,hu,_⟩:=r.dom a h
  rw[hu];intro z;cases z
 ·rw[o.non i (fun d z=>e ⟨d,z⟩)] at h
  nomatch h
structure Nw (H H':Hp) (fps:Nat→List Addr) (M:List Nat) (fp:List Addr):Prop where
 nd:fp.Nodup
 mu:∀a∈fp,Mu H' a
 src:∀a∈fp,H a=none∨∃j∈M,a∈fps j
theorem Nw.nil {M:List Nat}:Nw H H' fps M []:=⟨List.nodup_nil,fun _ h=>(nomatch h),fun _ h=>(nomatch h)⟩
theorem Nw.later {H1:Hp}{M:List Nat}{fp:List Addr} (n:Nw H1 H' fps M fp) (s:aJ H H1):Nw H H' fps M fp :=
 ⟨n.nd,n.mu,fun a ha=>(n.src a ha).elim (fun z=>.inl (s.free z)) .inr⟩
theorem Nw.same {H1:Hp}{M:List Nat}{fp:List Addr} (n:Nw H H' fps M fp) (s:aJ H' H1):Nw H H1 fps M fp:=⟨n.nd,fun a ha=>(n.mu a ha).same s,n.src⟩
theorem Nw.any {fps':Nat→List Addr}{fp:List Addr} (n:Nw H H' fps [] fp):Nw H H' fps' [] fp:=⟨n.nd,n.mu,fun a ha=>(n.src a ha).elim .inl fun ⟨_,h,_⟩=>nomatch h⟩
theorem Nw.fresh {fp:List Addr} (n:Nw H H' fps [] fp):∀a∈fp,H a=none:=fun a ha=>(n.src a ha).elim id fun ⟨_,h,_⟩=>nomatch h
def kill (M:List Nat) (δ:Dl):Dl:=M.foldl (fun δ j=>δ.set j none) δ
theorem hX:∀{M:List Nat}{δ:Dl},(kill M δ).length=δ.length
 | [],_=>rfl
 | j::M,δ=>by rw[kill,List.foldl_cons];exact (hX (M:=M)).trans (by simp)
theorem pD:∀{M:List Nat}{δ:Dl}{i:Nat}{d:D},(kill M δ)[i]?=some (some d)↔i∉M∧δ[i]?=some (some d)
 | [],_,_,_=>by simp [kill]
 | j::M,δ,i,d=>by
  rw[kill,List.foldl_cons]
  have:=pD (M:=M) (δ:=δ.set j none) (i:=i) (d:=d)
  rw[kill] at this
  rw[this,List.mem_cons]
  by_cases e:i=j
  ·subst e
   simp [List.getElem?_set]
  ·rw[List.getElem?_set_ne (Ne.symm e)]
   simp [e]
def minus (Γ M:List Nat):List Nat:=Γ.filter fun i=>!M.contains i
theorem bA {Γ M:List Nat}{i:Nat}:i∈minus Γ M↔i∈Γ∧i∉M:=by
 unfold minus
 rw[List.mem_filter]
 simp
theorem Ok.kill (o:Ok K B0 Γ fps δ σ H) (M:List Nat):Ok K B0 (minus Γ M) (fun i=>if i∈M then [] else fps i) (kill M δ) σ H:=by
 refine⟨by rw[hX];exact o.len,o.b0,fun i d e=>?_,fun i e=>?_,fun i hi=>?_,fun i hi j hj a ha=>?_⟩
 ·obtain ⟨h1,h2⟩:=pD.mp e
  rw[if_neg h1]
  exact o.val i d h2
 ·by_cases h:i∈M
  ·rw[if_pos h]
  ·rw[if_neg h]
   exact o.non i fun d z=>e d (pD.mpr ⟨h,z⟩)
 ·obtain ⟨h1,h2⟩:=bA.mp hi
  rw[if_neg h2]
  exact o.own i h1
 ·obtain ⟨h1,h2⟩:=bA.mp hi
  rw[if_neg h2] at ha
  by_cases h:j∈M
  ·rw[if_pos h];exact List.not_mem_nil
  ·rw[if_neg h];exact o.dj i h1 j hj a ha
theorem Ok.Ez {M:List Nat}{x:D}{v:V}{fp:List Addr} (o:Ok K B0 Γ fps δ σ H) (i:Nat) (hM:∀j∈M,j∈Γ) (s:aJ H H') (r:Rf K H' x v fp) (n:Nw H H' fps M fp) :
  Ok K B0 (i::minus (minus Γ M) [i]) (fun j=>if j=i then (if i<δ.length then fp else []) else if j∈M then [] else fps j) ((L3.kill M δ).set i (some x)) (σ.set i (some v)) H':=by
 have ok:=(o.kill M).same s
 have sep:∀a∈fp,∀j,j∉M→a∉fps j:=fun a ha j hj z=>by
  rcases n.src a ha with e | ⟨k,hk,e⟩
  ·exact o.dom z e
  ·exact o.dj k (hM k hk) j (fun q=>hj (by rw[q];exact hk)) a e z
 refine⟨by simp [hX,o.len],ok.b0,fun j d e=>?_,fun j e=>?_,fun j hj=>?_,fun j hj k hk a ha=>?_⟩
 ·by_cases h:j=i
  ·subst h
   rw[List.getElem?_set] at e
   simp only[hX] at e
   by_cases hl:j<δ.length
   ·simp [hl] at e
    subst e
    refine⟨v,?_,?_⟩
    ·rw[List.getElem?_set];simp [o.len,hl]
    ·rw[if_pos rfl,if_pos hl];exact r
   ·simp [hl] at e
  ·rw[List.getElem?_set_ne (Ne.symm h)] at e
   rw[List.getElem?_set_ne (Ne.symm h),if_neg h]
   exact ok.val j d e
 ·by_cases h:j=i
  ·subst h
   rw[if_pos rfl]
   by_cases hl:j<δ.length
   ·exact absurd (by rw[List.getElem?_set];simp [hX,hl]) (e x)
   ·rw[if_neg hl]
  ·rw[if_neg h]
   exact ok.non j fun d z=>e d (by rw[List.getElem?_set_ne (Ne.symm h)];exact z)
 ·by_cases h:j=i
  ·subst h
   rw[if_pos rfl]
   split
   ·refine⟨n.nd,fun a ha=>⟨?_,n.mu a ha⟩⟩
    rcases n.src a ha with e | ⟨k,hk,e⟩
    ·exact o.b0.free e
    ·exact ((o.own k (hM k hk)).2 a e).1
   ·exact⟨List.nodup_nil,fun _ z=>nomatch z⟩
  ·rw[if_neg h]
   rcases List.mem_cons.mp hj with z | hj
   ·exact absurd z h
   ·exact ok.own j (bA.mp hj).1
 ·by_cases h:j=i
  ·subst h
   rw[if_pos rfl] at ha
   rw[if_neg hk]
   split at ha
   ·by_cases hm:k∈M
    ·rw[if_pos hm];exact List.not_mem_nil
    ·rw[if_neg hm];exact sep a ha k hm
   ·nomatch ha
  ·rcases List.mem_cons.mp hj with z | hj
   ·exact absurd z h
   rw[if_neg h] at ha
   have hj':=bA.mp (bA.mp hj).1
   rw[if_neg hj'.2] at ha
   by_cases hki:k=i
   ·rw[if_pos hki]
    split
    ·exact fun z=>sep a z j hj'.2 ha
    ·exact List.not_mem_nil
   ·rw[if_neg hki]
    split
    ·exact List.not_mem_nil
    ·exact o.dj j hj'.1 k hk a ha
theorem Ok.yf {x:D}{v:V}{fp:List Addr} (o:Ok K B0 Γ fps δ σ H) (i:Nat) (s:aJ H H') (r:Rf K H' x v fp) (n:∀j∈Γ,∀a∈fp,a∉fps j) :
  Ok K B0 (minus Γ [i]) (fun j=>if j=i then (if i<δ.length then fp else []) else fps j) (δ.set i (some x)) (σ.set i (some v)) H':=by
 have ok:=o.same s
 refine⟨by simp [o.len],ok.b0,fun j d e=>?_,fun j e=>?_,fun j hj=>?_,fun j hj k hk a ha=>?_⟩
 ·by_cases h:j=i
  ·subst h
   rw[List.getElem?_set] at e
   by_cases hl:j<δ.length
   ·simp [hl] at e
    subst e
    refine⟨v,?_,?_⟩
    ·rw[List.getElem?_set];simp [o.len,hl]
    ·rw[if_pos rfl,if_pos hl];exact r
   ·simp [hl] at e
  ·rw[List.getElem?_set_ne (Ne.symm h)] at e
   rw[List.getElem?_set_ne (Ne.symm h),if_neg h]
   exact ok.val j d e
 ·by_cases h:j=i
  ·subst h
   rw[if_pos rfl]
   by_cases hl:j<δ.length
   ·exact absurd (by rw[List.getElem?_set];simp [hl]) (e x)
   ·rw[if_neg hl]
  ·rw[if_neg h]
   exact ok.non j fun d z=>e d (by rw[List.getElem?_set_ne (Ne.symm h)];exact z)
 ·obtain ⟨h1,h2⟩:=bA.mp hj
  rw[if_neg (fun z=>h2 (by rw[z];exact List.mem_singleton.mpr rfl))]
  exact ok.own j h1
 ·obtain ⟨h1,h2⟩:=bA.mp hj
  rw[if_neg (fun z=>h2 (by rw[z];exact List.mem_singleton.mpr rfl))] at ha
  by_cases hki:k=i
  ·rw[if_pos hki]
   split
   ·exact fun z=>n j h1 a z ha
   ·exact List.not_mem_nil
  ·rw[if_neg hki]
   exact o.dj j h1 k hk a ha
theorem Ok.rebase (o:Ok K B0 Γ fps δ σ H):∃B1,aJ B0 B1∧Ok K B1 Γ fps δ σ H∧(∀a,(∀j∈Γ,a∉fps j)→B1 a=H a):=by
 refine⟨fun a=>if (∃j∈Γ,a∈fps j) then none else H a,fun b u e=>?_,⟨o.len,fun b u e=>?_,o.val,o.non,fun i hi=>⟨(o.own i hi).1,fun a ha=>⟨?_,((o.own i hi).2 a ha).2⟩⟩,o.dj⟩,fun a h=>?_⟩
 ·have:¬ ∃j∈Γ,b∈fps j:=fun ⟨j,hj,hb⟩=>by
   have:=((o.own j hj).2 b hb).1
   rw[e] at this;cases this
  show (if _ then _ else _)=_
  rw[if_neg this]
  exact o.b0 b u e
 ·by_cases z:∃j∈Γ,b∈fps j
  ·simp only[if_pos z] at e;cases e
  ·simp only[if_neg z] at e;exact e
 ·show (if _ then _ else _)=_
  rw[if_pos ⟨i,hi,ha⟩]
 ·show (if _ then _ else _)=_
  rw[if_neg (fun ⟨j,hj,z⟩=>h j hj z)]
theorem Ok.base {B1:Hp} (o:Ok K B1 Γ fps δ σ H) (s:aJ B0 B1):Ok K B0 Γ fps δ σ H :=
 ⟨o.len,s.trans o.b0,o.val,o.non,fun i hi=>⟨(o.own i hi).1,fun a ha=>⟨s.free ((o.own i hi).2 a ha).1,((o.own i hi).2 a ha).2⟩⟩,o.dj⟩
end
end L3
namespace L3
open PySem L2
abbrev DK:=D→Prop
abbrev DE:=Dl→DK→Prop
abbrev DT:=Dl→(Bool→Prop)→Prop
abbrev DA:=Dl→(List D→Prop)→Prop
structure ER (K:PySem.W.Frag) (Γ:List Nat) (t:TE) (d:DE):Prop where
 mono:∀δ (P P':DK),(∀x,P x→P' x)→d δ P→d δ P'
 run:∀{B0 fps δ σ H Q},Ok K B0 Γ fps δ σ H→d δ (fun x=>∀v H',aJ H H'→Rp K H' x v→Q v H')→t σ H Q
structure ES (K:PySem.W.Frag) (Γ:List Nat) (t:TE) (d:DE):Prop where
 mono:∀δ (P P':DK),(∀x,P x→P' x)→d δ P→d δ P'
 run:∀{B0 fps δ σ H Q},Ok K B0 Γ fps δ σ H→d δ (fun x=>∀v H' fp,aJ H H'→Rf K H' x v fp→(∀j∈Γ,∀a∈fp,a∉fps j)→Q v H')→t σ H Q
structure EM (K:PySem.W.Frag) (Γ M:List Nat) (t:TE) (d:DE):Prop where
 mono:∀δ (P P':DK),(∀x,P x→P' x)→d δ P→d δ P'
 run:∀{B0 fps δ σ H Q},Ok K B0 Γ fps δ σ H→d δ (fun x=>∀v H' fp,aJ H H'→Rf K H' x v fp→Nw H H' fps M fp→Q v H')→t σ H Q
structure TR (K:PySem.W.Frag) (Γ:List Nat) (t:TT) (d:DT):Prop where
 mono:∀δ (P P':Bool→Prop),(∀x,P x→P' x)→d δ P→d δ P'
 run:∀{B0 fps δ σ H Q},Ok K B0 Γ fps δ σ H→d δ (fun b=>∀H',aJ H H'→Q b H')→t σ H Q
structure AR (K:PySem.W.Frag) (Γ:List Nat) (t:TA) (d:DA):Prop where
 mono:∀δ (P P':List D→Prop),(∀x,P x→P' x)→d δ P→d δ P'
 run:∀{B0 fps δ σ H Q},Ok K B0 Γ fps δ σ H→d δ (fun xs=>∀vs H',aJ H H'→Rps K H' xs vs→Q vs H')→t σ H Q
structure AS (K:PySem.W.Frag) (Γ:List Nat) (t:TA) (d:DA):Prop where
 mono:∀δ (P P':List D→Prop),(∀x,P x→P' x)→d δ P→d δ P'
 run:∀{B0 fps δ σ H Q},Ok K B0 Γ fps δ σ H→d δ (fun xs=>∀vs H' fp,aJ H H'→Rfs K H' xs vs fp→(∀j∈Γ,∀a∈fp,a∉fps j)→Q vs H')→t σ H Q
structure AM (K:PySem.W.Frag) (Γ M:List Nat) (t:TA) (d:DA):Prop where
 mono:∀δ (P P':List D→Prop),(∀x,P x→P' x)→d δ P→d δ P'
 run:∀{B0 fps δ σ H Q},Ok K B0 Γ fps δ σ H→d δ (fun xs=>∀vs H' fp,aJ H H'→Rfs K H' xs vs fp→Nw H H' fps M fp→Q vs H')→t σ H Q
section
variable {K:PySem.W.Frag}{Γ M:List Nat}{t ta tb tc:TE}{d da db dc:DE}
theorem EM.es (h:EM K Γ [] t d):ES K Γ t d:=⟨h.mono,fun o q=>h.run o (h.mono _ _ _ (fun x z v H' fp s r n=>z v H' fp s r fun j _ a ha y=>o.dom y (n.fresh a ha)) q)⟩
theorem ES.er (h:ES K Γ t d):ER K Γ t d:=⟨h.mono,fun o q=>h.run o (h.mono _ _ _ (fun x z v H' fp s r n=>z v H' s ⟨fp,r⟩) q)⟩
theorem EM.er (h:EM K Γ M t d):ER K Γ t d:=⟨h.mono,fun o q=>h.run o (h.mono _ _ _ (fun x z v H' fp s r n=>z v H' s ⟨fp,r⟩) q)⟩
def zh (d:DE) (δ:Dl) (P:DK):Prop:=d δ fun x=>x.aY=true∧P x
theorem ER.aY (h:ER K Γ t d):EM K Γ [] t (zh d):=⟨fun δ P P' k q=>h.mono _ _ _ (fun x z=>⟨z.1,k x z.2⟩) q,fun o q=>h.run o (h.mono _ _ _ (fun x z v H' s r=>by
 obtain ⟨fp,r⟩:=r
 obtain ⟨_,rfl⟩:=r.aY z.1
 exact z.2 v H' [] s r Nw.nil) q)⟩
def mC (i:Nat) (δ:Dl) (P:DK):Prop:=match δ[i]? with | some (some d)=>P d | _=>False
theorem kC {i:Nat}{δ:Dl}{P:DK} (h:mC i δ P):∃d,δ[i]?=some (some d)∧P d:=by
 unfold mC at h
 split at h
 ·exact⟨_,by assumption,h⟩
 ·exact h.elim
theorem nA {i:Nat}:∀δ (P P':DK),(∀x,P x→P' x)→mC i δ P→mC i δ P':=fun δ P P' k h=>by
 unfold mC at h ⊢
 split
 ·rename_i e;rw[e] at h;exact k _ h
 ·rename_i e;revert h;split
  ·rename_i e';exact absurd e' (e _)
  ·exact id
theorem gJ (i:Nat):ER K Γ (eU i) (mC i):=⟨nA,fun {B0 fps δ σ H Q} o q=>by
 obtain ⟨d,e,q⟩:=kC q
 obtain ⟨v,e1,r⟩:=o.val i d e
 exact⟨v,e1,q v H (aJ.refl H) ⟨_,r⟩⟩⟩
theorem aa (i:Nat) (h:i∉Γ:=by decide):ES K Γ (eU i) (mC i):=⟨nA,fun {B0 fps δ σ H Q} o q=>by
 obtain ⟨d,e,q⟩:=kC q
 obtain ⟨v,e1,r⟩:=o.val i d e
 exact⟨v,e1,q v H _ (aJ.refl H) r fun j hj a ha z=>o.dj j hj i (fun y=>h (by rw[y];exact hj)) a z ha⟩⟩
theorem fI (i:Nat) (h:i∈Γ:=by decide):EM K Γ [i] (eU i) (mC i):=⟨nA,fun {B0 fps δ σ H Q} o q=>by
 obtain ⟨d,e,q⟩:=kC q
 obtain ⟨v,e1,r⟩:=o.val i d e
 exact⟨v,e1,q v H _ (aJ.refl H) r ⟨(o.own i h).1,fun a ha=>((o.own i h).2 a ha).2,fun a ha=>.inr ⟨i,List.mem_singleton.mpr rfl,ha⟩⟩⟩⟩
def vC (d:D) (_u0:Dl) (P:DK):Prop:=P d
theorem av {i:Int}:EM K Γ [] (tC (.int i)) (vC (.int i)):=⟨fun _ _ _ k h=>k _ h,fun {_ _ _ _ H _} _ q=>q _ H [] (aJ.refl H) ⟨rfl,rfl⟩ Nw.nil⟩
theorem lq {i:Bool}:EM K Γ [] (tC (.bl i)) (vC (.bl i)):=⟨fun _ _ _ k h=>k _ h,fun {_ _ _ _ H _} _ q=>q _ H [] (aJ.refl H) ⟨rfl,rfl⟩ Nw.nil⟩
theorem lY {i:Str}:EM K Γ [] (tC (.str i)) (vC (.str i)):=⟨fun _ _ _ k h=>k _ h,fun {_ _ _ _ H _} _ q=>q _ H [] (aJ.refl H) ⟨rfl,rfl⟩ Nw.nil⟩
theorem lJ:EM K Γ [] (tC .non) (vC .non):=⟨fun _ _ _ k h=>k _ h,fun {_ _ _ _ H _} _ q=>q _ H [] (aJ.refl H) ⟨rfl,rfl⟩ Nw.nil⟩
abbrev D2:=D→D→DK→Prop
abbrev nf:Nat→List Addr:=fun _=>[]
structure OpV (K:PySem.W.Frag) (r:R2) (rv:D2):Prop where
 mono:∀x y (P P':DK),(∀z,P z→P' z)→rv x y P→rv x y P'
 run:∀{H x y v w Q},Rp K H x v→Rp K H y w→rv x y (fun z=>∀u H' fp,aJ H H'→Rf K H' z u fp→Nw H H' nf [] fp→Q u H')→r v w H Q
def vOp (rv:D2) (da db:DE) (δ:Dl) (P:DK):Prop:=da δ fun x=>db δ fun y=>rv x y P
theorem ax {r:R2}{rv:D2} (ho:OpV K r rv) (ha:ER K Γ ta da) (hb:ER K Γ tb db):EM K Γ [] (tOp r ta tb) (vOp rv da db) :=
 ⟨fun δ P P' k h=>ha.mono _ _ _ (fun x z=>hb.mono _ _ _ (fun y z=>ho.mono x y _ _ k z) z) h,
 fun o q=>ha.run o (ha.mono _ _ _ (fun x z v H1 s1 r1=>hb.run (o.same s1) (hb.mono _ _ _ (fun y z w H2 s2 r2=>ho.run (r1.same s2) r2 (ho.mono _ _ _ _ (fun u z u' H' fp s r n=>z u' H' fp ((s1.trans s2).trans s) r (n.any.later (s1.trans s2))) z)) z)) q)⟩
abbrev D1:=D→DK→Prop
structure UnV (K:PySem.W.Frag) (r:V→Hp→VK→Prop) (rv:D1):Prop where
 mono:∀x (P P':DK),(∀z,P z→P' z)→rv x P→rv x P'
 run:∀{H x v Q},Rp K H x v→rv x (fun z=>∀u H' fp,aJ H H'→Rf K H' z u fp→Nw H H' nf [] fp→Q u H')→r v H Q
def vUn (rv:D1) (da:DE) (δ:Dl) (P:DK):Prop:=da δ fun x=>rv x P
theorem zp {r:V→Hp→VK→Prop}{rv:D1} (ho:UnV K r rv) (ha:ER K Γ ta da):EM K Γ [] (tUn r ta) (vUn rv da) :=
 ⟨fun δ P P' k h=>ha.mono _ _ _ (fun x z=>ho.mono x _ _ k z) h,
 fun o q=>ha.run o (ha.mono _ _ _ (fun x z v H1 s1 r1=>ho.run r1 (ho.mono _ _ _ (fun u z u' H' fp s r n=>z u' H' fp (s1.trans s) r (n.any.later s1)) z)) q)⟩
def vI0 (g:Int→Int→D) (x:D) (y:D) (P:DK):Prop:=match x,y with | .int i,.int j=>P (g i j) | _,_=>False
def vI (C:Int→Int→Prop) (g:Int→Int→D) (x:D) (y:D) (P:DK):Prop:=match x,y with | .int i,.int j=>C i j∧P (g i j) | _,_=>False
def vU (g:Int→D) (x:D) (P:DK):Prop:=match x with | .int i=>P (g i) | _=>False
theorem By {g:Int→Int→D}:∀x y (P P':DK),(∀z,P z→P' z)→vI0 g x y P→vI0 g x y P':=fun x y P P' k h=>by
 unfold vI0 at h ⊢;revert h;split<;>first | exact k _ | exact id
theorem Ek {C:Int→Int→Prop}{g:Int→Int→D}:∀x y (P P':DK),(∀z,P z→P' z)→vI C g x y P→vI C g x y P':=fun x y P P' k h=>by
 unfold vI at h ⊢;revert h;split<;>first | exact fun h=>⟨h.1,k _ h.2⟩ | exact id
theorem yD {f:Int→Int→V}{g:Int→Int→D} (hs:∀i j,(g i j).aY=true∧(g i j).toV=f i j):OpV K (rI0 f) (vI0 g):=⟨By,fun {H x y v w Q} r1 r2 h=>by
 unfold vI0 at h
 split at h
 ·rename_i i j
  refine⟨i,j,r1.int,r2.int,?_⟩
  rw[← (hs i j).2]
  exact h _ H [] (aJ.refl H) (Rf.qJ (hs i j).1) Nw.nil
 ·exact h.elim⟩
theorem Fx {C:Int→Int→Prop}{f:Int→Int→V}{g:Int→Int→D} (hs:∀i j,(g i j).aY=true∧(g i j).toV=f i j):OpV K (rI C f) (vI C g):=⟨Ek,fun {H x y v w Q} r1 r2 h=>by
 unfold vI at h
 split at h
 ·rename_i i j
  refine⟨i,j,r1.int,r2.int,h.1,?_⟩
  rw[← (hs i j).2]
  exact h.2 _ H [] (aJ.refl H) (Rf.qJ (hs i j).1) Nw.nil
 ·exact h.elim⟩
theorem bR {f:Int→Int→Int}:OpV K (rI0 fun i j=>.int (f i j)) (vI0 fun i j=>.int (f i j)):=yD fun _ _=>⟨rfl,rfl⟩
theorem mm {f:Int→Int→Bool}:OpV K (rI0 fun i j=>.bl (f i j)) (vI0 fun i j=>.bl (f i j)):=yD fun _ _=>⟨rfl,rfl⟩
theorem aG {C:Int→Int→Prop}{f:Int→Int→Int}:OpV K (rI C fun i j=>.int (f i j)) (vI C fun i j=>.int (f i j)):=Fx fun _ _=>⟨rfl,rfl⟩
theorem x9 {f:Int→Int}:UnV K (rU fun i=>.int (f i)) (vU fun i=>.int (f i)):=⟨fun x P P' k h=>by unfold vU at h ⊢;revert h;split<;>first | exact k _ | exact id,fun {H x v Q} r1 h=>by
 unfold vU at h
 split at h
 ·rename_i i
  exact⟨i,r1.int,h _ H [] (aJ.refl H) ⟨rfl,rfl⟩ Nw.nil⟩
 ·exact h.elim⟩
def qT (neg:Bool) (x:D) (y:D) (P:DK):Prop:=x.aY=true∧y.aY=true∧aY x.toV y.toV=true∧P (.bl (if neg then !decide (x.toV=y.toV) else decide (x.toV=y.toV)))
theorem su {neg:Bool}:∀x y (P P':DK),(∀z,P z→P' z)→qT neg x y P→qT neg x y P':=fun x y P P' k h=>⟨h.1,h.2.1,h.2.2.1,k _ h.2.2.2⟩
theorem xt:OpV K rEq (qT false):=⟨su,fun {H x y v w Q} ⟨f1,r1⟩ ⟨f2,r2⟩ h=>by
 rw[(r1.aY h.1).1,(r2.aY h.2.1).1]
 exact⟨h.2.2.1,h.2.2.2 _ H [] (aJ.refl H) ⟨rfl,rfl⟩ Nw.nil⟩⟩
theorem BX:OpV K rNe (qT true):=⟨su,fun {H x y v w Q} ⟨f1,r1⟩ ⟨f2,r2⟩ h=>by
 rw[(r1.aY h.1).1,(r2.aY h.2.1).1]
 exact⟨h.2.2.1,h.2.2.2 _ H [] (aJ.refl H) ⟨rfl,rfl⟩ Nw.nil⟩⟩
theorem wC {neg:Bool}{i j:Int}{P:DK}:qT neg (.int i) (.int j) P↔P (.bl (if neg then !decide (i=j) else decide (i=j))):=by
 unfold qT
 simp only[D.aY,D.toV,aY,true_and,V.int.injEq]
def qB (x:D) (y:D) (P:DK):Prop:=match x.items,y with | some ds,.int i=>(match atI ds i with | some d=>P d | none=>False) | _,_=>False
def tY (x:D) (y:D) (P:DK):Prop:=match x,y with | .tup ds,.int i=>(match atI ds i with | some d=>P d | none=>False) | _,_=>False
theorem qi {x y:D}{P:DK} (h:qB x y P):∃ds i d,x.items=some ds∧y=.int i∧atI ds i=some d∧P d:=by
 unfold qB at h
 split at h
 ·split at h
  ·exact⟨_,_,_,by assumption,rfl,by assumption,h⟩
  ·exact h.elim
 ·exact h.elim
theorem pL {x y:D}{P:DK} (h:tY x y P):∃ds i d,x=.tup ds∧y=.int i∧atI ds i=some d∧P d:=by
 unfold tY at h
 split at h
 ·split at h
  ·exact⟨_,_,_,rfl,rfl,by assumption,h⟩
  ·exact h.elim
 ·exact h.elim
theorem D4 {x:D}{ds:List D}{i:Int}{d:D}{P:DK} (ex:x.items=some ds) (e:atI ds i=some d) (h:P d):qB x (.int i) P:=by unfold qB;simp only[ex,e];exact h
theorem Df {ds:List D}{i:Int}{d:D}{P:DK} (e:atI ds i=some d) (h:P d):tY (.tup ds) (.int i) P:=by unfold tY;simp only[e];exact h
theorem tD:∀x y (P P':DK),(∀z,P z→P' z)→qB x y P→qB x y P':=fun x y P P' k h=>by
 obtain ⟨ds,i,d,ex,rfl,e,h⟩:=qi h;exact D4 ex e (k _ h)
theorem rQ:∀x y (P P':DK),(∀z,P z→P' z)→tY x y P→tY x y P':=fun x y P P' k h=>by
 obtain ⟨ds,i,d,rfl,rfl,e,h⟩:=pL h;exact Df e (k _ h)
theorem Rfs.at {H:Hp}{ds:List D}{xs:List V}{fq:List Addr}{i:Int}{d:D} (h:Rfs K H ds xs fq) (e:atI ds i=some d):∃v f,atI xs i=some v∧Rf K H d v f∧∀a∈f,a∈fq:=by
 unfold atI at e ⊢
 rw[h.length]
 cases hj:ixN ds.length i with
 | none=>rw[hj] at e;cases e
 | some j=>rw[hj] at e;exact h.get e
theorem qI (ha:ER K Γ ta da) (hb:ER K Γ tb db):ER K Γ (tOp (wZ K) ta tb) (vOp qB da db) :=
 ⟨fun δ P P' k h=>ha.mono _ _ _ (fun x z=>hb.mono _ _ _ (fun y z=>tD x y _ _ k z) z) h,
 fun o q=>ha.run o (ha.mono _ _ _ (fun x z v H1 s1 r1=>hb.run (o.same s1) (hb.mono _ _ _ (fun y z w H2 s2 r2=>by
  obtain ⟨ds,i,d,ex,rfl,e,z⟩:=qi z
  obtain ⟨a,xs,fq,rfl,hs,hr⟩:=(r1.same s2).seq ex
  obtain ⟨v,f,e1,r3,_⟩:=hr.at e
  exact⟨a,xs,i,v,rfl,r2.int,hs,e1,z v H2 (s1.trans s2) ⟨f,r3⟩⟩) z)) q)⟩
theorem GD (ha:ER K Γ ta da) (hb:ER K Γ tb db):ER K Γ (tOp (Dq K) ta tb) (vOp tY da db) :=
 ⟨fun δ P P' k h=>ha.mono _ _ _ (fun x z=>hb.mono _ _ _ (fun y z=>rQ x y _ _ k z) z) h,
 fun o q=>ha.run o (ha.mono _ _ _ (fun x z v H1 s1 r1=>hb.run (o.same s1) (hb.mono _ _ _ (fun y z w H2 s2 r2=>by
  obtain ⟨ds,i,d,rfl,rfl,e,z⟩:=pL z
  obtain ⟨a,xs,fq,rfl,hs,hr⟩:=(r1.same s2).tup
  obtain ⟨v,f,e1,r3,_⟩:=hr.at e
  exact⟨a,xs,i,v,rfl,r2.int,hs,e1,z v H2 (s1.trans s2) ⟨f,r3⟩⟩) z)) q)⟩
theorem aE (ha:ES K Γ ta da) (hb:ER K Γ tb db):ES K Γ (tOp (wZ K) ta tb) (vOp qB da db) :=
 ⟨fun δ P P' k h=>ha.mono _ _ _ (fun x z=>hb.mono _ _ _ (fun y z=>tD x y _ _ k z) z) h,
 fun o q=>ha.run o (ha.mono _ _ _ (fun x z v H1 fp s1 r1 n=>hb.run (o.same s1) (hb.mono _ _ _ (fun y z w H2 s2 r2=>by
  obtain ⟨ds,i,d,ex,rfl,e,z⟩:=qi z
  obtain ⟨a,xs,fq,rfl,hs,hr,hin⟩:=(r1.same s2).seq ex
  obtain ⟨v,f,e1,r3,k⟩:=hr.at e
  exact⟨a,xs,i,v,rfl,r2.int,hs,e1,z v H2 f (s1.trans s2) r3 fun j hj b hb=>n j hj b (hin b (k b hb))⟩) z)) q)⟩
theorem gT (ha:ES K Γ ta da) (hb:ER K Γ tb db):ES K Γ (tOp (Dq K) ta tb) (vOp tY da db) :=
 ⟨fun δ P P' k h=>ha.mono _ _ _ (fun x z=>hb.mono _ _ _ (fun y z=>rQ x y _ _ k z) z) h,
 fun o q=>ha.run o (ha.mono _ _ _ (fun x z v H1 fp s1 r1 n=>hb.run (o.same s1) (hb.mono _ _ _ (fun y z w H2 s2 r2=>by
  obtain ⟨ds,i,d,rfl,rfl,e,z⟩:=pL z
  obtain ⟨a,xs,rfl,hs,hr⟩:=r1.same s2
  obtain ⟨v,f,e1,r3,k⟩:=hr.at e
  exact⟨a,xs,i,v,rfl,r2.int,.inl (.inl hs),e1,z v H2 f (s1.trans s2) r3 fun j hj b hb=>n j hj b (k b hb)⟩) z)) q)⟩
def asB (x:D) (P:Bool→Prop):Prop:=match x with | .bl k=>P k | _=>False
def pC (d:DE) (δ:Dl) (P:Bool→Prop):Prop:=d δ fun x=>asB x P
theorem nE {x:D}{P:Bool→Prop} (h:asB x P):∃k,x=.bl k∧P k:=by
 unfold asB at h
 split at h
 ·exact⟨_,rfl,h⟩
 ·exact h.elim
theorem A0 {x:D}{P P':Bool→Prop} (k:∀b,P b→P' b) (h:asB x P):asB x P':=by
 obtain ⟨b,rfl,h⟩:=nE h;exact k b h
theorem bo (h:ER K Γ t d):TR K Γ (Bz t) (pC d):=⟨fun δ P P' k q=>h.mono _ _ _ (fun x z=>A0 k z) q,fun o q=>h.run o (h.mono _ _ _ (fun x z v H' s r=>by
 obtain ⟨b,rfl,z⟩:=nE z;exact⟨b,r.bl,z H' s⟩) q)⟩
theorem qe (h:ER K Γ t d):TR K Γ (tB t) (pC d):=⟨fun δ P P' k q=>h.mono _ _ _ (fun x z=>A0 k z) q,fun o q=>h.run o (h.mono _ _ _ (fun x z v H' s r=>by
 obtain ⟨b,rfl,z⟩:=nE z;exact⟨b,r.bl,z H' s⟩) q)⟩
def GC (c e:DT) (δ:Dl) (P:Bool→Prop):Prop:=c δ fun k=>if k=true then e δ P else P false
def vOr (c e:DT) (δ:Dl) (P:Bool→Prop):Prop:=c δ fun k=>if k=true then P true else e δ P
def FE (c:DT) (δ:Dl) (P:Bool→Prop):Prop:=c δ fun k=>P (!k)
theorem eG {b:Bool}{A B A' B':Prop} (h1:A→A') (h2:B→B') (h:if b=true then A else B):if b=true then A' else B':=by
 cases b
 ·exact h2 h
 ·exact h1 h
theorem qt {u1 u2:TT}{c e:DT} (h1:TR K Γ u1 c) (h2:TR K Γ u2 e):TR K Γ (HP u1 u2) (GC c e) :=
 ⟨fun δ P P' k q=>h1.mono _ _ _ (fun b z=>eG (h2.mono _ _ _ k) (k _) z) q,
 fun o q=>h1.run o (h1.mono _ _ _ (fun b z H' s=>eG (fun z=>h2.run (o.same s) (h2.mono _ _ _ (fun b z H2 s2=>z H2 (s.trans s2)) z)) (fun z=>z H' s) z) q)⟩
theorem lA {u1 u2:TT}{c e:DT} (h1:TR K Γ u1 c) (h2:TR K Γ u2 e):TR K Γ (tOr u1 u2) (vOr c e) :=
 ⟨fun δ P P' k q=>h1.mono _ _ _ (fun b z=>eG (k _) (h2.mono _ _ _ k) z) q,
 fun o q=>h1.run o (h1.mono _ _ _ (fun b z H' s=>eG (fun z=>z H' s) (fun z=>h2.run (o.same s) (h2.mono _ _ _ (fun b z H2 s2=>z H2 (s.trans s2)) z)) z) q)⟩
theorem iQ {u1:TT}{c:DT} (h1:TR K Γ u1 c):TR K Γ (HG u1) (FE c) :=
 ⟨fun δ P P' k q=>h1.mono _ _ _ (fun b z=>k _ z) q,fun o q=>h1.run o (h1.mono _ _ _ (fun b z H' s=>z H' s) q)⟩
def CF (da db:DE) (δ:Dl) (P:DK):Prop:=pC da δ fun k=>if k=true then db δ P else P (.bl false)
def Hx (da db:DE) (δ:Dl) (P:DK):Prop:=pC da δ fun k=>if k=true then P (.bl true) else db δ P
def BS (da:DE) (δ:Dl) (P:DK):Prop:=pC da δ fun k=>P (.bl (!k))
theorem tJ (ha:ER K Γ ta da) (hb:EM K Γ [] tb db):EM K Γ [] (Fg ta tb) (CF da db) :=
 ⟨fun δ P P' k q=>(bo ha).mono _ _ _ (fun b z=>eG (hb.mono _ _ _ k) (k _) z) q,
 fun o q=>ha.run o (ha.mono _ _ _ (fun x z v H' s r=>by
  obtain ⟨b,rfl,z⟩:=nE z
  exact⟨b,r.bl,eG (fun z=>hb.run (o.same s) (hb.mono _ _ _ (fun y z u H2 fp s2 r2 n2=>z u H2 fp (s.trans s2) r2 (n2.later s)) z)) (fun z=>z _ H' [] s ⟨rfl,rfl⟩ Nw.nil) z⟩) q)⟩
theorem D0 (ha:ER K Γ ta da):EM K Γ [] (EE ta) (BS da) :=
 ⟨fun δ P P' k q=>(bo ha).mono _ _ _ (fun b z=>k _ z) q,
 fun o q=>ha.run o (ha.mono _ _ _ (fun x z v H' s r=>by
  obtain ⟨b,rfl,z⟩:=nE z
  exact⟨b,r.bl,z _ H' [] s ⟨rfl,rfl⟩ Nw.nil⟩) q)⟩
def vIf (c:DT) (da db:DE) (δ:Dl) (P:DK):Prop:=c δ fun k=>if k=true then da δ P else db δ P
theorem EB {u:TT}{c:DT} (hc:TR K Γ u c) (ha:EM K Γ [] ta da) (hb:EM K Γ [] tb db):EM K Γ [] (tIf u ta tb) (vIf c da db) :=
 ⟨fun δ P P' k q=>hc.mono _ _ _ (fun b z=>eG (ha.mono _ _ _ k) (hb.mono _ _ _ k) z) q,
 fun o q=>hc.run o (hc.mono _ _ _ (fun b z H' s=>eG (fun z=>ha.run (o.same s) (ha.mono _ _ _ (fun y z u H2 fp s2 r2 n2=>z u H2 fp (s.trans s2) r2 (n2.later s)) z)) (fun z=>hb.run (o.same s) (hb.mono _ _ _ (fun y z u H2 fp s2 r2 n2=>z u H2 fp (s.trans s2) r2 (n2.later s)) z)) z) q)⟩
def xJ (r r':D2) (da db dc:DE) (δ:Dl) (P:DK):Prop:=da δ fun x=>db δ fun y=>r x y fun z=>asB z fun k=>if k=true then dc δ fun w=>r' y w P else P (.bl false)
theorem wa {r r':R2}{rv rv':D2} (ho:OpV K r rv) (ho':OpV K r' rv') (ha:ER K Γ ta da) (hb:ER K Γ tb db) (hc:ER K Γ tc dc):EM K Γ [] (CN r r' ta tb tc) (xJ rv rv' da db dc) :=
 ⟨fun δ P P' k h=>ha.mono _ _ _ (fun x z=>hb.mono _ _ _ (fun y z=>ho.mono x y _ _ (fun u z=>A0 (fun b z=>eG (hc.mono _ _ _ fun w z=>ho'.mono _ _ _ _ k z) (k _) z) z) z) z) h,
 fun o q=>ha.run o (ha.mono _ _ _ (fun x z v H1 s1 r1=>hb.run (o.same s1) (hb.mono _ _ _ (fun y z w H2 s2 r2=>ho.run (r1.same s2) r2 (ho.mono _ _ _ _ (fun u z u' H3 fp s3 r3 n3=>by
  obtain ⟨b,rfl,z⟩:=nE z
  have s13:=(s1.trans s2).trans s3
  refine⟨b,r3.1,eG (fun z=>?_) (fun z=>z _ H3 [] s13 ⟨rfl,rfl⟩ Nw.nil) z⟩
  exact hc.run (o.same s13) (hc.mono _ _ _ (fun w z w' H4 s4 r4=>ho'.run (r2.same (s3.trans s4)) r4 (ho'.mono _ _ _ _ (fun u z u' H' fp s r n=>z u' H' fp ((s13.trans s4).trans s) r (n.any.later (s13.trans s4))) z)) z)) z)) z)) q)⟩
def Ac (_u0:Dl) (P:List D→Prop):Prop:=P []
def nV (da:DE) (dr:DA) (δ:Dl) (P:List D→Prop):Prop:=da δ fun x=>dr δ fun xs=>P (x::xs)
theorem au:AR K Γ lI Ac:=⟨fun _ _ _ k h=>k _ h,fun {_ _ _ _ H _} o q=>q [] H (aJ.refl H) ⟨[],rfl,rfl⟩⟩
theorem bG:AM K Γ [] lI Ac:=⟨fun _ _ _ k h=>k _ h,fun {_ _ _ _ H _} o q=>q [] H [] (aJ.refl H) ⟨rfl,rfl⟩ Nw.nil⟩
theorem FA:AS K Γ lI Ac:=⟨fun _ _ _ k h=>k _ h,fun {_ _ _ _ H _} o q=>q [] H [] (aJ.refl H) ⟨rfl,rfl⟩ fun _ _ _ h=>nomatch h⟩
theorem ai {tr:TA}{dr:DA} (ha:ER K Γ ta da) (hr:AR K Γ tr dr):AR K Γ (eZ ta tr) (nV da dr) :=
 ⟨fun δ P P' k h=>ha.mono _ _ _ (fun x z=>hr.mono _ _ _ (fun y z=>k _ z) z) h,
 fun o q=>ha.run o (ha.mono _ _ _ (fun x z v H1 s1 r1=>hr.run (o.same s1) (hr.mono _ _ _ (fun xs z vs H2 s2 r2=>by
  obtain ⟨f1,r1⟩:=r1.same s2
  obtain ⟨f2,r2⟩:=r2
  exact z _ H2 (s1.trans s2) ⟨f1++f2,_,_,f1,f2,rfl,rfl,r1,r2⟩) z)) q)⟩
theorem Ej {tr:TA}{dr:DA} (ha:ES K Γ ta da) (hr:AS K Γ tr dr):AS K Γ (eZ ta tr) (nV da dr) :=
 ⟨fun δ P P' k h=>ha.mono _ _ _ (fun x z=>hr.mono _ _ _ (fun y z=>k _ z) z) h,
 fun o q=>ha.run o (ha.mono _ _ _ (fun x z v H1 f1 s1 r1 n1=>hr.run (o.same s1) (hr.mono _ _ _ (fun xs z vs H2 f2 s2 r2 n2 =>
  z _ H2 (f1++f2) (s1.trans s2) ⟨_,_,f1,f2,rfl,rfl,r1.same s2,r2⟩ fun j hj a ha=>(List.mem_append.mp ha).elim (n1 j hj a) (n2 j hj a)) z)) q)⟩
theorem eB {M':List Nat}{tr:TA}{dr:DA} (ha:EM K Γ M ta da) (hr:AM K Γ M' tr dr) (hM:∀i∈M,i∈Γ∧i∉M':=by decide) (hM':∀i∈M',i∈Γ:=by decide):AM K Γ (M++M') (eZ ta tr) (nV da dr) :=
 ⟨fun δ P P' k h=>ha.mono _ _ _ (fun x z=>hr.mono _ _ _ (fun y z=>k _ z) z) h,
 fun {B0 fps δ σ H Q} o q=>ha.run o (ha.mono _ _ _ (fun x z v H1 f1 s1 r1 n1=>hr.run (o.same s1) (hr.mono _ _ _ (fun xs z vs H2 f2 s2 r2 n2=>by
  refine z _ H2 (f1++f2) (s1.trans s2) ⟨_,_,f1,f2,rfl,rfl,r1.same s2,r2⟩ ⟨?_,fun a ha=>(List.mem_append.mp ha).elim (fun h=>(n1.mu a h).same s2) (n2.mu a),fun a ha=>?_⟩
  ·refine List.nodup_append.mpr ⟨n1.nd,n2.nd,fun a h1 b h2 e=>?_⟩
   subst e
   rcases n2.src a h2 with e | ⟨j,hj,e⟩
   ·exact (n1.mu a h1).some e
   ·rcases n1.src a h1 with e' | ⟨i,hi,e'⟩
    ·exact o.dom e e'
    ·exact o.dj i (hM i hi).1 j (fun y=>(hM i hi).2 (by rw[← y];exact hj)) a e' e
  ·rcases List.mem_append.mp ha with h | h
   ·exact (n1.src a h).imp id fun ⟨j,h1,h2⟩=>⟨j,List.mem_append_left _ h1,h2⟩
   ·exact (n2.src a h).elim (fun e=>.inl (s1.free e)) fun ⟨j,h1,h2⟩=>.inr ⟨j,List.mem_append_right _ h1,h2⟩) z)) q)⟩
theorem jj {n:Nat} (h:n≤1000):n≤sizeLine:=Nat.le_trans h (by rw[sizeLine_eq];decide)
def En (da:DA) (δ:Dl) (P:DK):Prop:=da δ fun xs=>xs.length≤1000∧P (.lst xs)
def Gf (da:DA) (δ:Dl) (P:DK):Prop:=da δ fun xs=>xs.length≤1000∧P (.tup xs)
theorem aJ.lP {H:Hp}{p:Addr}{o:HO} (h:H p=none):aJ H (upd H p o):=fun b u e=>by rw[aI (bu e h)];exact e
theorem cn {u:TA}{dr:DA} (hr:AM K Γ M u dr) (hM:∀i∈M,i∈Γ:=by decide):EM K Γ M (Gg u) (En dr) :=
 ⟨fun δ P P' k h=>hr.mono _ _ _ (fun y z=>⟨z.1,k _ z.2⟩) h,
 fun {B0 fps δ σ H Q} o q=>hr.run o (hr.mono _ _ _ (fun xs z vs H1 fp s1 r1 n1=>by
  refine⟨by rw[r1.length];exact jj z.1,fun p hp=>?_⟩
  have hs:aJ H1 (upd H1 p (.lst vs)):=aJ.lP hp
  refine z.2 _ _ (p::fp) (s1.trans hs) ⟨p,vs,fp,rfl,aK,rfl,r1.same hs⟩ ⟨List.nodup_cons.mpr ⟨fun h=>(n1.mu p h).some hp,n1.nd⟩,fun a ha=>?_,fun a ha=>?_⟩
  ·rcases List.mem_cons.mp ha with e | h
   ·subst e;exact .inl ⟨vs,aK⟩
   ·exact (n1.mu a h).same hs
  ·rcases List.mem_cons.mp ha with e | h
   ·subst e;exact .inl (s1.free hp)
   ·exact n1.src a h) q)⟩
theorem nC {u:TA}{dr:DA} (hr:AM K Γ M u dr):EM K Γ M (Hw u) (Gf dr) :=
 ⟨fun δ P P' k h=>hr.mono _ _ _ (fun y z=>⟨z.1,k _ z.2⟩) h,
 fun {B0 fps δ σ H Q} o q=>hr.run o (hr.mono _ _ _ (fun xs z vs H1 fp s1 r1 n1=>by
  refine⟨by rw[r1.length];exact jj z.1,fun p hp=>?_⟩
  have hs:aJ H1 (upd H1 p (.tup vs)):=aJ.lP hp
  exact z.2 _ _ fp (s1.trans hs) ⟨p,vs,rfl,aK,r1.same hs⟩ (n1.same hs)) q)⟩
theorem xD {u:TA}{dr:DA} (hr:AR K Γ u dr):ER K Γ (Gg u) (En dr) :=
 ⟨fun δ P P' k h=>hr.mono _ _ _ (fun y z=>⟨z.1,k _ z.2⟩) h,
 fun {B0 fps δ σ H Q} o q=>hr.run o (hr.mono _ _ _ (fun xs z vs H1 s1 r1=>by
  obtain ⟨fp,r1⟩:=r1
  refine⟨by rw[r1.length];exact jj z.1,fun p hp=>?_⟩
  have hs:aJ H1 (upd H1 p (.lst vs)):=aJ.lP hp
  exact z.2 _ _ (s1.trans hs) ⟨p::fp,p,vs,fp,rfl,aK,rfl,r1.same hs⟩) q)⟩
abbrev DSp:=List D→DK→Prop
def cE (S:DSp):Prop:=∀xs (P P':DK),(∀z,P z→P' z)→S xs P→S xs P'
def spP (K:PySem.W.Frag) (S:DSp):Sp:=fun vs H Q _=>∃ds,Rps K H ds vs∧S ds fun x=>∀v H' fp,aJ H H'→Rf K H' x v fp→Nw H H' nf [] fp→Q v H'
structure mS (K:PySem.W.Frag) (r:List V→Hp→VK→Prop) (S:DSp):Prop where
 mono:cE S
 run:∀{H xs vs Q},Rps K H xs vs→S xs (fun z=>∀u H' fp,aJ H H'→Rf K H' z u fp→Nw H H' nf [] fp→Q u H')→r vs H Q
def sv (S:DSp) (dr:DA) (δ:Dl) (P:DK):Prop:=dr δ fun xs=>S xs P
theorem bp {r:List V→Hp→VK→Prop}{S:DSp}{u:TA}{dr:DA} (hc:mS K r S) (hr:AR K Γ u dr):EM K Γ [] (tCB r u) (sv S dr) :=
 ⟨fun δ P P' k h=>hr.mono _ _ _ (fun y z=>hc.mono _ _ _ k z) h,
 fun {B0 fps δ σ H Q} o q=>hr.run o (hr.mono _ _ _ (fun xs z vs H1 s1 r1=>hc.run r1 (hc.mono _ _ _ (fun u z u' H' fp s r n=>z u' H' fp (s1.trans s) r (n.any.later s1)) z)) q)⟩
theorem aX {S:DSp}{E:XK}{u:TA}{dr:DA} (hS:cE S) (hr:AR K Γ u dr):EM K Γ [] (rR (spP K S) [] E u) (sv S dr) :=
 ⟨fun δ P P' k h=>hr.mono _ _ _ (fun y z=>hS _ _ _ k z) h,
 fun {B0 fps δ σ H Q} o q=>hr.run o (hr.mono _ _ _ (fun xs z vs H1 s1 r1=>⟨xs,by rw[List.append_nil];exact r1,hS _ _ _ (fun u z u' H' fp s r n=>z u' H' fp (s1.trans s) r (n.any.later s1)) z⟩) q)⟩
end
end L3
namespace L3
open PySem L2
structure bh where
 nx:Dl→Prop
 rt:D→Dl→Prop
 bk:Dl→Prop
 ct:Dl→Prop
abbrev DS:=bh→Dl→Prop
structure RtI (B0:Hp) (Γr:List Nat) (fps:Nat→List Addr) (H:Hp) (fp:List Addr):Prop where
 nd:fp.Nodup
 mu:∀a∈fp,Mu H a
 nw:∀a∈fp,B0 a=none
 dj:∀j∈Γr,∀a∈fp,a∉fps j
structure EOk (K:PySem.W.Frag) (ρ:Bool) (Γr Γl Γn:List Nat) (B0:Hp) (Dn:Ends) (E:bh):Prop where
 nx:∀{fps δ σ H},Ok K B0 Γn fps δ σ H→E.nx δ→Dn.nx σ H
 bk:∀{fps δ σ H},Ok K B0 Γl fps δ σ H→E.bk δ→Dn.bk σ H
 ct:∀{fps δ σ H},Ok K B0 Γl fps δ σ H→E.ct δ→Dn.ct σ H
 rt:∀{fps δ σ H x v fp},Ok K B0 Γr fps δ σ H→Rf K H x v fp→(ρ=true→RtI B0 Γr fps H fp)→E.rt x δ→Dn.rt v H
def ST (K:PySem.W.Frag) (ρ:Bool) (Γr Γl:List Nat) (t:TS) (Γ Γn:List Nat) (d:DS):Prop :=
 ∀⦃B0:Hp⦄ ⦃Dn:Ends⦄ ⦃E:bh⦄ ⦃fps:Nat→List Addr⦄ ⦃δ:Dl⦄ ⦃σ:St⦄ ⦃H:Hp⦄,EOk K ρ Γr Γl Γn B0 Dn E→Ok K B0 Γ fps δ σ H→d E δ→t Dn σ H
section
variable {K:PySem.W.Frag}{ρ:Bool}{Γr Γl Γ Γ1 Γ2 Γn M:List Nat}{t u:TS}{te ta tb:TE}{de da db:DE}{d e:DS}
def Cp (E:bh) (δ:Dl):Prop:=E.nx δ
def xi (d e:DS) (E:bh) (δ:Dl):Prop:=d { E with nx:=e E } δ
theorem cv:ST K ρ Γr Γl EJ Γ Γ Cp:=fun _ _ _ _ _ _ _ k o h=>k.nx o h
theorem az (h1:ST K ρ Γr Γl t Γ Γ1 d) (h2:ST K ρ Γr Γl u Γ1 Γ2 e):ST K ρ Γr Γl (t8 t u) Γ Γ2 (xi d e) :=
 fun {B0 Dn E fps δ σ H} k o h=>h1 (Dn:={ Dn with nx:=u Dn }) (E:={ E with nx:=e E }) ⟨fun o h=>h2 k o h,k.bk,k.ct,k.rt⟩ o h
theorem ST.post (h:ST K ρ Γr Γl t Γ Γ1 d) (s:∀i∈Γn,i∈Γ1:=by decide):ST K ρ Γr Γl t Γ Γn d:=fun _ _ _ _ _ _ _ k o q=>h ⟨fun o h=>k.nx (o.sub s) h,k.bk,k.ct,k.rt⟩ o q
def Cv (M:List Nat) (i:Nat) (de:DE) (E:bh) (δ:Dl):Prop:=de δ fun x=>E.nx ((kill M δ).set i (some x))
theorem dJ (i:Nat) (he:EM K Γ M te de) (hM:∀j∈M,j∈Γ:=by decide):ST K ρ Γr Γl (jX te (gH i)) Γ (i::minus (minus Γ M) [i]) (Cv M i de) :=
 fun _ _ _ _ _ _ _ k o h=>he.run o (he.mono _ _ _ (fun x z v H' fp s r n=>k.nx (o.Ez i hM s r n) z) h)
def C2 (i:Nat) (de:DE) (E:bh) (δ:Dl):Prop:=de δ fun x=>E.nx (δ.set i (some x))
theorem aU (i:Nat) (he:ES K Γ te de):ST K ρ Γr Γl (jX te (gH i)) Γ (minus Γ [i]) (C2 i de) :=
 fun _ _ _ _ _ _ _ k o h=>he.run o (he.mono _ _ _ (fun x z v H' fp s r n=>k.nx (o.yf i s r n) z) h)
def EX (de:DE) (E:bh) (δ:Dl):Prop:=de δ fun _=>E.nx δ
def FL (M:List Nat) (de:DE) (E:bh) (δ:Dl):Prop:=de δ fun x=>E.rt x (kill M δ)
theorem bf (he:EM K Γ M te de) (hM:∀j∈M,j∈Γ:=by decide) (hr:∀j∈Γr,j∈Γ∧j∉M:=by decide):ST K ρ Γr Γl (HE te) Γ Γn (FL M de) :=
 fun {B0 Dn E fps δ σ H} k o h=>he.run o (he.mono _ _ _ (fun x z v H' fp s r n=>by
  have ok:=((o.kill M).same s).sub (Γ':=Γr) fun i hi=>bA.mpr (hr i hi)
  refine k.rt ok r (fun _=>⟨n.nd,n.mu,fun a ha=>?_,fun j hj a ha=>?_⟩) z
  ·rcases n.src a ha with e | ⟨i,hi,e⟩
   ·exact o.b0.free e
   ·exact ((o.own i (hM i hi)).2 a e).1
  ·show a∉if j∈M then [] else fps j
   rw[if_neg (hr j hj).2]
   intro z
   rcases n.src a ha with e | ⟨i,hi,e⟩
   ·exact o.dom z e
   ·exact o.dj i (hM i hi) j (fun y=>(hr j hj).2 (by rw[y];exact hi)) a e z) h)
def AX (E:bh) (δ:Dl):Prop:=E.rt .non δ
theorem HX (hr:∀j∈Γr,j∈Γ:=by decide):ST K ρ Γr Γl Hn Γ Γn AX :=
 fun {B0 Dn E fps δ σ H} k o h=>k.rt (o.sub hr) (Rf.qJ (d:=.non) rfl) (fun _=>⟨List.nodup_nil,fun _ h=>(nomatch h),fun _ h=>(nomatch h),fun _ _ _ h=>(nomatch h)⟩) h
def Dj (c:DT) (d e:DS) (E:bh) (δ:Dl):Prop:=c δ fun b=>if b=true then d E δ else e E δ
theorem fL {c:TT}{dc:DT} (hc:TR K Γ c dc) (h1:ST K ρ Γr Γl t Γ Γn d) (h2:ST K ρ Γr Γl u Γ Γn e):ST K ρ Γr Γl (FO c t u) Γ Γn (Dj dc d e) :=
 fun _ _ _ _ _ _ _ k o h=>hc.run o (hc.mono _ _ _ (fun b z H' s=>eG (fun z=>h1 k (o.same s) z) (fun z=>h2 k (o.same s) z) z) h)
structure GT (K:PySem.W.Frag) (Γ:List Nat) (g:TG) (dg:D→Dl→(Dl→Prop)→Prop):Prop where
 mono:∀x δ (P P':Dl→Prop),(∀z,P z→P' z)→dg x δ P→dg x δ P'
 run:∀{B0 fps δ σ H x v fp Q},Ok K B0 Γ fps δ σ H→Rf K H x v fp→(∀j∈Γ,∀a∈fp,a∉fps j)→dg x δ (fun δ'=>∀fps' σ',Ok K B0 Γ fps' δ' σ' H→(∀j∈Γ,fps' j=fps j)→Q σ' H)→g v σ H Q
structure GTs (K:PySem.W.Frag) (Γ:List Nat) (g:TGs) (dg:List D→Dl→(Dl→Prop)→Prop):Prop where
 mono:∀x δ (P P':Dl→Prop),(∀z,P z→P' z)→dg x δ P→dg x δ P'
 run:∀{B0 fps δ σ H x v fp Q},Ok K B0 Γ fps δ σ H→Rfs K H x v fp→(∀j∈Γ,∀a∈fp,a∉fps j)→dg x δ (fun δ'=>∀fps' σ',Ok K B0 Γ fps' δ' σ' H→(∀j∈Γ,fps' j=fps j)→Q σ' H)→g v σ H Q
def xc (i:Nat) (x:D) (δ:Dl) (P:Dl→Prop):Prop:=P (δ.set i (some x))
theorem aM (i:Nat) (h:i∉Γ:=by decide):GT K Γ (gH i) (xc i):=⟨fun _ _ _ _ k h=>k _ h,fun {B0 fps δ σ H x v fp Q} o r n q=>by
 have ok:=(o.yf i (aJ.refl H) r n).sub (Γ':=Γ) fun j hj=>bA.mpr ⟨hj,fun z=>h (by rw[← List.mem_singleton.mp z];exact hj)⟩
 exact q _ _ ok fun j hj=>by rw[if_neg (fun z=>h (by rw[← z];exact hj))]⟩
def Fi (xs:List D) (δ:Dl) (P:Dl→Prop):Prop:=match xs with | []=>P δ | _=>False
def Ce (dg:D→Dl→(Dl→Prop)→Prop) (dr:List D→Dl→(Dl→Prop)→Prop) (xs:List D) (δ:Dl) (P:Dl→Prop):Prop:=match xs with | x::r=>dg x δ fun δ'=>dr r δ' P | []=>False
theorem kU:GTs K Γ De Fi:=⟨fun x _ _ _ k h=>by cases x with | nil=>exact k _ h | cons _ _=>exact h,fun {B0 fps δ σ H x v fp Q} o r n q=>by
 cases x with
 | nil=>obtain ⟨rfl,_⟩:=r;exact⟨rfl,q _ _ o fun _ _=>rfl⟩
 | cons _ _=>exact q.elim⟩
theorem cY {g:TG}{gs:TGs}{dg:D→Dl→(Dl→Prop)→Prop}{dr:List D→Dl→(Dl→Prop)→Prop} (h1:GT K Γ g dg) (h2:GTs K Γ gs dr):GTs K Γ (vM g gs) (Ce dg dr) :=
 ⟨fun x _ _ _ k h=>by
  cases x with
  | nil=>exact h
  | cons x r=>exact h1.mono _ _ _ _ (fun z h=>h2.mono _ _ _ _ k h) h,
 fun {B0 fps δ σ H x v fp Q} o r n q=>by
  cases x with
  | nil=>exact q.elim
  | cons x xs =>
   obtain ⟨y,ys,f1,f2,rfl,rfl,r1,r2⟩:=r
   refine⟨y,ys,rfl,h1.run o r1 (fun j hj a ha=>n j hj a (List.mem_append_left _ ha)) (h1.mono _ _ _ _ (fun δ' z fps' σ' o' e=>?_) q)⟩
   exact h2.run o' r2 (fun j hj a ha=>by rw[e j hj];exact n j hj a (List.mem_append_right _ ha)) (h2.mono _ _ _ _ (fun δ2 z fps2 σ2 o2 e2=>z fps2 σ2 o2 fun j hj=>(e2 j hj).trans (e j hj)) z)⟩
def yG (n:Nat) (dg:List D→Dl→(Dl→Prop)→Prop) (x:D) (δ:Dl) (P:Dl→Prop):Prop:=match x with | .tup ds=>ds.length=n∧dg ds δ P | _=>False
theorem uu {n:Nat}{g:TGs}{dg:List D→Dl→(Dl→Prop)→Prop} (h:GTs K Γ g dg):GT K Γ (Dt K n g) (yG n dg) :=
 ⟨fun x δ P P' k h'=>by unfold yG at h' ⊢;revert h';split<;>first | exact fun h'=>⟨h'.1,h.mono _ _ _ _ k h'.2⟩ | exact id,
 fun {B0 fps δ σ H x v fp Q} o r nn q=>by
  unfold yG at q
  split at q
  ·obtain ⟨a,xs,e1,e2,r⟩:=r
   exact⟨a,xs,e1,.inl (.inl e2),r.length.trans q.1,h.run o r nn q.2⟩
  ·exact q.elim⟩
def GJ (de:DE) (dg:D→Dl→(Dl→Prop)→Prop) (E:bh) (δ:Dl):Prop:=de δ fun x=>dg x δ E.nx
theorem yF {g:TG}{dg:D→Dl→(Dl→Prop)→Prop} (he:ES K Γ te de) (hg:GT K Γ g dg):ST K ρ Γr Γl (jX te g) Γ Γ (GJ de dg) :=
 fun _ _ _ _ _ _ _ k o h=>he.run o (he.mono _ _ _ (fun x z v H' fp s r n=>hg.run (o.same s) r n (hg.mono _ _ _ _ (fun δ' z fps' σ' o' _=>k.nx o' z) z)) h)
structure Du (K:PySem.W.Frag) (J:It) (B:Hp) (ds:List D):Prop where
 go:∀{i H},aJ B H→i<ds.length→J.go i H
 yld:∀{i H x H' d},aJ B H→J.yld i H x H'→ds[i]?=some d→aJ H H'∧∃fp,Rf K H' d x fp∧∀a∈fp,B a≠none
 stop:∀{i H},aJ B H→ds.length≤i→J.stop i H
abbrev DI:=Dl→(List D→Prop)→Prop
structure IT (K:PySem.W.Frag) (Γ:List Nat) (wi:TI) (di:DI):Prop where
 mono:∀δ (P P':List D→Prop),(∀x,P x→P' x)→di δ P→di δ P'
 run:∀{B0 fps δ σ H R},Ok K B0 Γ fps δ σ H→di δ (fun ds=>∀(J:It) (H':Hp) (fq:List Addr),aJ H H'→(∀j∈Γ,∀a∈fq,a∉fps j) →
  (∀B,aJ B H'→(∀a∈fq,B a=H' a)→(∀a o,H' a=some o→Im o→B a=some o)→Du K J B ds)→R J H')→wi σ H R
def asL (x:D) (P:List D→Prop):Prop:=match x.items with | some ds=>P ds | none=>False
theorem bP {x:D}{P:List D→Prop} (h:asL x P):∃ds,x.items=some ds∧P ds:=by
 unfold asL at h;split at h
 ·exact⟨_,by assumption,h⟩
 ·exact h.elim
theorem gB {x:D}{ds:List D}{P:List D→Prop} (e:x.items=some ds) (h:P ds):asL x P:=by unfold asL;rw[e];exact h
def FJ (de:DE) (δ:Dl) (P:List D→Prop):Prop:=de δ fun x=>asL x P
theorem dH (he:ES K Γ te de):IT K Γ (Bu K te) (FJ de) :=
 ⟨fun δ P P' k h=>he.mono _ _ _ (fun x z=>by obtain ⟨ds,e,z⟩:=bP z;exact gB e (k _ z)) h,
 fun {B0 fps δ σ H R} o h=>he.run o (he.mono _ _ _ (fun x z v H' fp s r n=>by
  obtain ⟨ds,ex,z⟩:=bP z
  obtain ⟨a,xs,fq,rfl,hs,hr,hin⟩:=r.seq ex
  refine⟨a,rfl,⟨xs,hs⟩,z (Itl K a) H' fp s n fun B sB ag im=>?_⟩
  have rB:Rf K B x (.ref a) fp:=r.mono (fun b hb u e=>by rw[ag b hb];exact e) im
  obtain ⟨a',xs',fq',e1,hs',hr',hin'⟩:=rB.seq ex
  cases e1
  have sq:∀{H2:Hp},aJ B H2→SqL K H2 a xs':=fun s2=>by
   rcases hs' with (h | ⟨o',h⟩) | h
   ·exact .inl (.inl (s2 _ _ h))
   ·exact .inl (.inr ⟨o',s2 _ _ h⟩)
   ·exact .inr h
  have hl:=hr'.length
  refine⟨fun {i H2} s2 hi=>⟨xs',xs'[i]'(by omega),sq s2,by simp [hl,hi]⟩,fun {i H2 y H3 d} s2 hy hd=>?_,fun {i H2} s2 hi=>⟨xs',sq s2,by omega⟩⟩
  obtain ⟨rfl,hy⟩:=hy
  have e2:=hy xs' (sq s2)
  obtain ⟨d',f,e3,r3,k3⟩:=hr'.get' e2
  rw[hd] at e3;cases e3
  exact⟨aJ.refl _,f,r3.same s2,fun b hb=>by
   obtain ⟨u,hu,_⟩:=r3.dom b hb
   rw[hu];intro z;cases z⟩) h)⟩
def asI (xs:List D) (P:Int→Prop):Prop:=match xs with | [.int j]=>P j | _=>False
def zR (xs:List D) (P:Int→Int→Prop):Prop:=match xs with | [.int i,.int j]=>P i j | _=>False
theorem uf {xs:List D}{P:Int→Prop} (h:asI xs P):∃j,xs=[.int j]∧P j:=by
 unfold asI at h;split at h
 ·exact⟨_,rfl,h⟩
 ·exact h.elim
theorem wm {xs:List D}{P:Int→Int→Prop} (h:zR xs P):∃i j,xs=[.int i,.int j]∧P i j:=by
 unfold zR at h;split at h
 ·exact⟨_,_,rfl,h⟩
 ·exact h.elim
def mr (lo:Int) (n:Nat):List D:=(List.range n).map fun (k:Nat)=>.int (lo+(k:Int))
theorem GI {lo:Int}{n:Nat}{B:Hp}:Du K (Itr lo n) B (mr lo n):=⟨fun {i H2} s2 hi=>by unfold Itr;simpa [mr] using hi,fun {i H2 y H3 d} s2 hy hd=>by
 obtain ⟨rfl,rfl⟩:=hy
 unfold mr at hd
 rw[List.getElem?_map] at hd
 cases e:(List.range n)[i]? with
 | none=>rw[e] at hd;cases hd
 | some k =>
  rw[e] at hd
  obtain ⟨h1,h2⟩:=List.getElem?_eq_some_iff.mp e
  rw[List.getElem_range] at h2
  subst h2
  cases hd
  exact⟨aJ.refl _,[],⟨rfl,rfl⟩,fun _ h=>nomatch h⟩,fun {i H2} s2 hi=>by unfold Itr;simpa [mr] using hi⟩
def CB (da:DA) (δ:Dl) (P:List D→Prop):Prop:=da δ fun xs=>asI xs fun j=>(-(2 ^ 62)≤j∧j<2 ^ 62)∧P (mr 0 j.toNat)
def Fe (da:DA) (δ:Dl) (P:List D→Prop):Prop:=da δ fun xs=>zR xs fun i j=>(-(2 ^ 62)≤i∧i<2 ^ 62∧-(2 ^ 62)≤j∧j<2 ^ 62)∧P (mr i (j - i).toNat)
theorem Rps.ints1 {H:Hp}{j:Int}{vs:List V} (h:Rps K H [.int j] vs):vs=[.int j]:=by
 obtain ⟨fp,x,r,f1,f2,rfl,_,⟨rfl,_⟩,⟨rfl,_⟩⟩:=h;rfl
theorem Rps.ints2 {H:Hp}{i j:Int}{vs:List V} (h:Rps K H [.int i,.int j] vs):vs=[.int i,.int j]:=by
 obtain ⟨fp,x,r,f1,f2,rfl,_,⟨rfl,_⟩,y,r',f1,f2,rfl,_,⟨rfl,_⟩,⟨rfl,_⟩⟩:=h;rfl
theorem cx {u:TA}{da:DA} (ha:AR K Γ u da):IT K Γ (EF u) (CB da) :=
 ⟨fun δ P P' k h=>ha.mono _ _ _ (fun x z=>by obtain ⟨j,rfl,z⟩:=uf z;exact⟨z.1,k _ z.2⟩) h,
 fun {B0 fps δ σ H R} o h=>ha.run o (ha.mono _ _ _ (fun xs z vs H' s r=>by
  obtain ⟨j,rfl,z⟩:=uf z
  exact⟨j,r.ints1,z.1.1,z.1.2,z.2 _ H' [] s (fun _ _ _ h=>(nomatch h)) fun B _ _ _=>GI⟩) h)⟩
def lz (dg:D→Dl→(Dl→Prop)→Prop) (db:DS) (E:bh):List D→Dl→Prop
 | [],δ=>E.nx δ
 | x::xs,δ=>dg x δ fun δ'=>db { nx:=lz dg db E xs,ct:=lz dg db E xs,bk:=E.nx,rt:=E.rt } δ'
def Gj (di:DI) (dg:D→Dl→(Dl→Prop)→Prop) (db:DS) (E:bh) (δ:Dl):Prop:=di δ fun ds=>lz dg db E ds δ
theorem RtI.base {B1 B0:Hp}{fps:Nat→List Addr}{H:Hp}{fp:List Addr} (r:RtI B1 Γr fps H fp) (s:aJ B0 B1):RtI B0 Γr fps H fp:=⟨r.nd,r.mu,fun a ha=>s.free (r.nw a ha),r.dj⟩
theorem eQ {wi:TI}{di:DI}{g:TG}{dg:D→Dl→(Dl→Prop)→Prop}{tb:TS}{db:DS} (hi:IT K Γ wi di) (hg:GT K Γ g dg) (hb:ST K ρ Γr Γ tb Γ Γ db):ST K ρ Γr Γl (GG wi g tb) Γ Γ (Gj di dg db):=by
 intro B0 Dn E fps δ σ H k o h
 refine hi.run o (hi.mono _ _ _ (fun ds z J H1 fq s1 n1 hit=>?_) h)
 obtain ⟨B1,sB,o1,ag⟩:=(o.same s1).rebase
 have hJ:Du K J B1 ds:=hit B1 o1.b0 (fun a ha=>ag a fun j hj=>n1 j hj a ha) fun a u e im=>by
  rw[ag a fun j hj ha=>((o1.own j hj).2 a ha).2.jV u e im];exact e
 refine⟨fun i m σ H=>m=ds.length - i∧i≤ds.length∧∃fps δ,Ok K B1 Γ fps δ σ H∧lz dg db E (ds.drop i) δ,⟨ds.length,by omega,Nat.zero_le _,fps,δ,o1,by rw[List.drop_zero];exact z⟩,?_⟩
 rintro i m σ2 H2 ⟨rfl,hi2,fps2,δ2,o2,z2⟩
 by_cases hlt:i<ds.length
 ·refine .inr ⟨hJ.go o2.b0 hlt,_,fun σ' H' q=>q,fun x H3 hy=>?_⟩
  obtain ⟨s3,fp,r3,n3⟩:=hJ.yld o2.b0 hy (List.getElem?_eq_getElem hlt)
  rw[List.drop_eq_getElem_cons hlt] at z2
  refine hg.run (o2.same s3) r3 (fun j hj a ha hz=>n3 a ha ((o2.own j hj).2 a hz).1) (hg.mono _ _ _ _ (fun δ' z' fps' σ' o' e'=>?_) z2)
  refine hb (E:={ nx:=lz dg db E (ds.drop (i+1)),ct:=lz dg db E (ds.drop (i+1)),bk:=E.nx,rt:=E.rt }) ⟨fun o4 z4=>⟨ds.length - (i+1),by omega,rfl,hlt,_,_,o4,z4⟩,fun o4 z4=>k.nx (o4.base sB) z4,fun o4 z4=>⟨ds.length - (i+1),by omega,rfl,hlt,_,_,o4,z4⟩,fun o4 r4 i4 z4=>k.rt (o4.base sB) r4 (fun y=>(i4 y).base sB) z4⟩ o' z'
 ·have e:i=ds.length:=by omega
  subst e
  rw[List.drop_length] at z2
  exact .inl ⟨hJ.stop o2.b0 (Nat.le_refl _),k.nx (o2.base sB) z2⟩
def Ge (c:DT) (db:DS) (E:bh) (δ:Dl):Prop:=∃W:Nat→Dl→Prop,(∃m,W m δ)∧∀m δ,W m δ→c δ fun b=>if b=true then db { nx:=fun δ'=>∃m',m' < m∧W m' δ',ct:=fun δ'=>∃m',m' < m∧W m' δ',bk:=E.nx,rt:=E.rt } δ else E.nx δ
theorem qG {c:TT}{dc:DT}{tb:TS}{db:DS} (hc:TR K Γ c dc) (hb:ST K ρ Γr Γ tb Γ Γ db):ST K ρ Γr Γl (BV c tb) Γ Γ (Ge dc db):=by
 intro B0 Dn E fps δ σ H k o h
 obtain ⟨W,⟨m,w0⟩,turn⟩:=h
 refine⟨fun m σ H=>∃fps δ,Ok K B0 Γ fps δ σ H∧W m δ,⟨m,fps,δ,o,w0⟩,?_⟩
 rintro m σ2 H2 ⟨fps2,δ2,o2,w2⟩
 refine hc.run o2 (hc.mono _ _ _ (fun b z H' s=>eG (fun z=>?_) (fun z=>k.nx (o2.same s) z) z) (turn m δ2 w2))
 refine⟨fun σ H=>∃m',m' < m∧∃fps δ,Ok K B0 Γ fps δ σ H∧W m' δ,fun σ' H' q=>q,hb (E:={ nx:=fun δ'=>∃m',m' < m∧W m' δ',ct:=fun δ'=>∃m',m' < m∧W m' δ',bk:=E.nx,rt:=E.rt }) ⟨?_,fun o4 z4=>k.nx o4 z4,?_,k.rt⟩ (o2.same s) z⟩
 ·rintro fps δ σ H o4 ⟨m',h1,h2⟩
  exact⟨m',h1,fps,δ,o4,h2⟩
 ·rintro fps δ σ H o4 ⟨m',h1,h2⟩
  exact⟨m',h1,fps,δ,o4,h2⟩
def rN (f:D→(List D→Prop)→Prop):List D→List D→(List D→Prop)→Prop
 | [],acc,P=>P acc
 | x::xs,acc,P=>f x fun ys=>rN f xs (acc++ys) P
theorem qL {f:D→(List D→Prop)→Prop} (hf:∀x P P',(∀z,P z→P' z)→f x P→f x P'):∀xs acc (P P':List D→Prop),(∀z,P z→P' z)→rN f xs acc P→rN f xs acc P'
 | [],acc,P,P',k,h=>k _ h
 | x::xs,acc,P,P',k,h=>hf x _ _ (fun z h=>qL hf xs _ P P' k h) h
def fo (k:Nat) (idx:List Nat) (δ:Dl):Dl:=List.replicate k none++idx.map fun i=>(δ[i]?).getD none
theorem Hl {k:Nat}{idx:List Nat}{B0:Hp}{fps:Nat→List Addr}{δ:Dl}{σ:St}{H:Hp} (o:Ok K B0 Γ fps δ σ H):Ok K H [] (fun j=>match (fo k idx δ)[j]? with | some (some _)=>fps (idx.getD (j - k) 0) | _=>[]) (fo k idx δ) (gG k idx σ) H:=by
 refine⟨by simp [fo,gG,zM],aJ.refl H,fun i d e=>?_,fun i h=>?_,fun _ h=>(nomatch h),fun _ h=>(nomatch h)⟩
 ·rw[e]
  unfold fo at e
  unfold gG zM
  by_cases hi:i<k
  ·rw[List.getElem?_append_left (by simpa using hi)] at e
   simp [hi] at e
  ·rw[List.getElem?_append_right (by simpa using hi),List.length_replicate,List.getElem?_map] at e
   cases ej:idx[i - k]? with
   | none=>rw[ej] at e;simp at e
   | some j =>
    rw[ej] at e
    simp only[Option.map_some,Option.some.injEq] at e
    have e':δ[j]?=some (some d):=by
     cases q:δ[j]? with
     | none=>rw[q] at e;cases e
     | some x=>rw[q] at e;simp at e;rw[e]
    obtain ⟨v,h1,h2⟩:=o.val j d e'
    refine⟨v,?_,?_⟩
    ·rw[List.getElem?_append_right (by simpa using hi),List.length_replicate,List.getElem?_map,ej]
     simp [h1]
    ·show Rf K H d v (fps (idx.getD (i - k) 0))
     rw[List.getD_eq_getElem?_getD,ej]
     exact h2
 ·show (match (fo k idx δ)[i]? with | some (some _)=>_ | _=>_)=_
  split
  ·exact absurd (by assumption) (h _)
  ·rfl
def je (dg:D→Dl→(Dl→Prop)→Prop) (dt:DT) (de:DE) (δ:Dl) (x:D) (R:List D→Prop):Prop:=dg x δ fun δ2=>dt δ2 fun b=>if b=true then de δ2 fun y=>R [y] else R []
def mV (di:DI) (dg:D→Dl→(Dl→Prop)→Prop) (dt:DT) (de:DE) (k:Nat) (idx:List Nat) (δ:Dl) (P:DK):Prop:=di δ fun ds=>ds.length≤1000∧rN (je dg dt de (fo k idx δ)) ds [] fun ys=>P (.lst ys)
theorem xk {Γ':List Nat}{g:TG}{dg:D→Dl→(Dl→Prop)→Prop}{tt:TT}{dt:DT} (hg:GT K Γ' g dg) (ht:TR K Γ' tt dt) (hm:∀δ (P P':DK),(∀x,P x→P' x)→de δ P→de δ P') (δ:Dl):∀x P P',(∀z,P z→P' z)→je dg dt de δ x P→je dg dt de δ x P' :=
 fun x P P' k h=>hg.mono _ _ _ _ (fun δ2 h=>ht.mono _ _ _ (fun b h=>eG (hm _ _ _ fun y h=>k _ h) (k _) h) h) h
theorem tI {wi:TI}{di:DI}{g:TG}{dg:D→Dl→(Dl→Prop)→Prop}{tt:TT}{dt:DT}{k:Nat}{idx:List Nat} (hi:IT K [] wi di) (hg:GT K [] g dg) (ht:TR K [] tt dt) (he:EM K [] [] te de) :
  EM K Γ [] (vS wi g tt te k idx) (mV di dg dt de k idx):=by
 have hm:=xk hg ht he.mono
 refine⟨fun δ P P' k h=>hi.mono _ _ _ (fun ds z=>⟨z.1,qL (hm _) _ _ _ _ (fun ys h=>k _ h) z.2⟩) h,fun {B0 fps δ σ H Q} o h=>hi.run (o.sub (Γ':=[]) fun _ h=>(nomatch h)) (hi.mono _ _ _ (fun ds z J H1 fq s1 n1 hit=>?_) h)⟩
 have hJ:Du K J H1 ds:=hit H1 (aJ.refl _) (fun _ _=>rfl) fun a u e im=>e
 obtain ⟨hz,z⟩:=z
 refine⟨fun i m vs H2=>m=ds.length - i∧i≤ds.length∧aJ H1 H2∧vs.length≤i∧∃ys fp,Rfs K H2 ys vs fp∧Nw H1 H2 nf [] fp∧rN (je dg dt de (fo k idx δ)) (ds.drop i) ys fun ys=>∀v H' fp,aJ H H'→Rf K H' (.lst ys) v fp→Nw H H' fps [] fp→Q v H',
  ⟨ds.length,by omega,Nat.zero_le _,aJ.refl _,Nat.zero_le _,[],[],⟨rfl,rfl⟩,Nw.nil,by rw[List.drop_zero];exact z⟩,?_⟩
 rintro i m vs H2 ⟨rfl,hi2,s2,hvs,ys,fp,r2,n2,z2⟩
 by_cases hlt:i<ds.length
 ·refine .inr ⟨hJ.go s2 hlt,jj (by omega),_,fun vs' H' q=>q,fun x H3 hy=>?_⟩
  obtain ⟨s3,fx,r3,n3⟩:=hJ.yld s2 hy (List.getElem?_eq_getElem hlt)
  rw[List.drop_eq_getElem_cons hlt] at z2
  have oi:=(Hl (k:=k) (idx:=idx) ((o.same s1).same (s2.trans s3)))
  refine hg.run oi r3 (fun _ h=>(nomatch h)) (hg.mono _ _ _ _ (fun δ' z' fps' σ' o' e'=>?_) z2)
  refine ht.run o' (ht.mono _ _ _ (fun b z' H4 s4=>eG (fun z'=>he.run (o'.same s4) (he.mono _ _ _ (fun y z' v H5 f5 s5 r5 n5=>?_) z')) (fun z'=>?_) z') z')
  ·have s25:=s3.trans (s4.trans s5)
   refine⟨ds.length - (i+1),by omega,rfl,hlt,s2.trans s25,by simp;omega,ys++[y],fp++f5,(r2.same s25).append (Rfs.one r5),⟨?_,fun a ha=>?_,fun a ha=>?_⟩,z'⟩
   ·refine List.nodup_append.mpr ⟨n2.nd,n5.nd,fun a h1 b h2 e=>?_⟩
    subst e
    exact ((n2.mu a h1).same (s3.trans s4)).some (n5.fresh a h2)
   ·rcases List.mem_append.mp ha with h | h
    ·exact (n2.mu a h).same s25
    ·exact n5.mu a h
   ·rcases List.mem_append.mp ha with h | h
    ·exact n2.src a h
    ·exact .inl ((s2.trans (s3.trans s4)).free (n5.fresh a h))
  ·have s24:=s3.trans s4
   dsimp only at z'
   rw[List.append_nil] at z'
   exact⟨ds.length - (i+1),by omega,rfl,hlt,s2.trans s24,by omega,ys,fp,r2.same s24,n2.same s24,z'⟩
 ·have e:i=ds.length:=by omega
  subst e
  rw[List.drop_length] at z2
  refine .inl ⟨hJ.stop s2 (Nat.le_refl _),jj (by omega),fun p hp=>?_⟩
  have hs:aJ H2 (upd H2 p (.lst vs)):=aJ.lP hp
  refine z2 _ _ (p::fp) ((s1.trans s2).trans hs) ⟨p,vs,fp,rfl,aK,rfl,r2.same hs⟩ ⟨List.nodup_cons.mpr ⟨fun h=>(n2.mu p h).some hp,n2.nd⟩,fun a ha=>?_,fun a ha=>?_⟩
  ·rcases List.mem_cons.mp ha with e | h
   ·subst e;exact .inl ⟨vs,aK⟩
   ·exact (n2.mu a h).same hs
  ·rcases List.mem_cons.mp ha with e | h
   ·subst e;exact .inl ((s1.trans s2).free hp)
   ·exact .inl (s1.free (n2.fresh a h))
def Dm (_u0:Dl) (P:Bool→Prop):Prop:=P true
theorem Gv:TR K Γ Ee Dm:=⟨fun _ _ _ k h=>k _ h,fun {_ _ _ _ H _} o q=>q H (aJ.refl H)⟩
def aZ (N:List Str) (ds:List D):Dl:=ds.map some++List.replicate (N.length - ds.length) none
theorem Rfs.split {H:Hp}:∀{ds:List D}{vs:List V}{fp:List Addr},Rfs K H ds vs fp→∃fps:Nat→List Addr,(∀i d,ds[i]?=some d→∃v,vs[i]?=some v∧Rf K H d v (fps i))∧∀i,ds.length≤i→fps i=[]
 | [],vs,fp,h=>⟨fun _=>[],fun i d e=>by simp at e,fun _ _=>rfl⟩
 | d::ds,vs,fp,h=>by
  obtain ⟨x,r,f1,f2,rfl,rfl,h1,h2⟩:=h
  obtain ⟨fps,k1,k2⟩:=Rfs.split h2
  refine⟨fun i=>match i with | 0=>f1 | j+1=>fps j,fun i d' e=>?_,fun i hi=>?_⟩
  ·cases i with
   | zero=>simp at e;subst e;exact⟨x,rfl,h1⟩
   | succ j=>simpa using k1 j d' (by simpa using e)
  ·cases i with
   | zero=>simp at hi
   | succ j=>exact k2 j (by simpa using hi)
theorem ka {N:List Str}{ds:List D}{vs:List V}{H:Hp} (h:Rps K H ds vs):∃fps,Ok K H [] fps (aZ N ds) (L2.start N vs) H:=by
 obtain ⟨fp,h⟩:=h
 have hl:=h.length
 obtain ⟨fps,k1,k2⟩:=h.split
 refine⟨fps,by simp [aZ,L2.start,hl],aJ.refl H,fun i d e=>?_,fun i e=>?_,fun _ h=>(nomatch h),fun _ h=>(nomatch h)⟩
 ·unfold aZ at e
  unfold L2.start
  by_cases hi:i<ds.length
  ·rw[List.getElem?_append_left (by simpa using hi),List.getElem?_map,List.getElem?_eq_getElem hi] at e
   simp at e
   obtain ⟨v,h1,h2⟩:=k1 i d (by rw[List.getElem?_eq_getElem hi,e])
   exact⟨v,by rw[List.getElem?_append_left (by simpa [hl] using hi),List.getElem?_map,h1];rfl,h2⟩
  ·rw[List.getElem?_append_right (by simpa using hi),List.getElem?_replicate] at e
   split at e<;>cases e
 ·by_cases hi:i<ds.length
  ·refine absurd ?_ (e ds[i])
   unfold aZ
   rw[List.getElem?_append_left (by simpa using hi),List.getElem?_map,List.getElem?_eq_getElem hi]
   rfl
  ·exact k2 i (by omega)
abbrev kg (P:DK):bh:=⟨fun _=>P .non,fun x _=>P x,fun _=>False,fun _=>False⟩
theorem cq {N:List Str}{S:DSp} (hs:ST K true [] [] t [] Γn d) (hd:∀ds P,S ds P→d (kg P) (aZ N ds)) :
  ∀{vs H Q E},spP K S vs H Q E→t { nx:=fun _ H'=>Q .non H',rt:=Q } (L2.start N vs) H:=by
 rintro vs H Q E ⟨ds,r,h⟩
 obtain ⟨fps,o⟩:=ka (N:=N) r
 refine hs (E:=kg _) ⟨fun {fps δ σ H'} o z=>?_,fun o (z:False)=>z.elim,fun o (z:False)=>z.elim,fun o r i z=>?_⟩ o (hd ds _ h)
 ·exact z _ H' [] o.b0 ⟨rfl,rfl⟩ Nw.nil
 ·exact z _ _ _ o.b0 r ⟨(i rfl).nd,(i rfl).mu,fun a ha=>.inl ((i rfl).nw a ha)⟩
end
end L3
namespace L3
open PySem L2
section
variable {K:PySem.W.Frag}{ρ:Bool}{Γr Γl Γ Γ1 Γ2 Γn M:List Nat}{t u:TS}{te ta tb tx t1 t2:TE}{de da db dx d1 d2:DE}{d e:DS}
variable {B0:Hp}{fps:Nat→List Addr}{δ:Dl}{σ:St}{H H':Hp}
theorem Ok.write (o:Ok K B0 Γ fps δ σ H) {i:Nat} (hi:i∈Γ) {d':D}{v:V}{fp':List Addr} (hv:σ[i]?=some (some v)) (r:Rf K H' d' v fp') (nd:fp'.Nodup) (mu:∀a∈fp',Mu H' a)
  (src:∀a∈fp',a∈fps i∨(B0 a=none∧∀j,a∉fps j)) (keep:∀b u,b∉fps i→H b=some u→H' b=some u) :
  Ok K B0 Γ (fun j=>if j=i then fp' else fps j) (δ.set i (some d')) σ H':=by
 have hlt:i<δ.length:=by rw[← o.len];exact (List.getElem?_eq_some_iff.mp hv).1
 refine⟨by simp [o.len],fun b u e=>?_,fun j d e=>?_,fun j h=>?_,fun j hj=>?_,fun j hj k hk a ha=>?_⟩
 ·refine keep b u (fun z=>?_) (o.b0 b u e)
  have:=((o.own i hi).2 b z).1
  rw[e] at this;cases this
 ·by_cases h:j=i
  ·subst h
   rw[List.getElem?_set] at e
   simp [hlt] at e
   subst e
   exact⟨v,hv,by rw[if_pos rfl];exact r⟩
  ·rw[List.getElem?_set_ne (Ne.symm h)] at e
   obtain ⟨w,h1,h2⟩:=o.val j d e
   refine⟨w,h1,?_⟩
   rw[if_neg h]
   exact h2.mono (fun a ha u e=>keep a u (fun z=>o.dj i hi j h a z ha) e) fun a u e im=>keep a u (fun z=>((o.own i hi).2 a z).2.jV u e im) e
 ·by_cases h':j=i
  ·subst h'
   exact absurd (by rw[List.getElem?_set];simp [hlt]) (h d')
  ·rw[if_neg h']
   exact o.non j fun d z=>h d (by rw[List.getElem?_set_ne (Ne.symm h')];exact z)
 ·by_cases h:j=i
  ·subst h
   rw[if_pos rfl]
   refine⟨nd,fun a ha=>⟨?_,mu a ha⟩⟩
   rcases src a ha with z | z
   ·exact ((o.own j hi).2 a z).1
   ·exact z.1
  ·rw[if_neg h]
   refine⟨(o.own j hj).1,fun a ha=>⟨((o.own j hj).2 a ha).1,?_⟩⟩
   have hn:a∉fps i:=fun z=>o.dj i hi j h a z ha
   rcases ((o.own j hj).2 a ha).2 with ⟨x,z⟩ | ⟨x,z⟩ | ⟨x,z⟩ | ⟨C,dx,fs,z⟩
   ·exact .inl ⟨x,keep a _ hn z⟩
   ·exact .inr (.inl ⟨x,keep a _ hn z⟩)
   ·exact .inr (.inr (.inl ⟨x,keep a _ hn z⟩))
   ·exact .inr (.inr (.inr ⟨C,dx,fs,keep a _ hn z⟩))
 ·by_cases h:j=i
  ·subst h
   rw[if_pos rfl] at ha
   rw[if_neg hk]
   rcases src a ha with z | z
   ·exact o.dj j hi k hk a z
   ·exact z.2 k
  ·rw[if_neg h] at ha
   by_cases hki:k=i
   ·rw[if_pos hki]
    intro z
    rcases src a z with y | y
    ·exact o.dj j hj i (Ne.symm h) a ha y
    ·exact y.2 j ha
   ·rw[if_neg hki]
    exact o.dj j hj k hk a ha
def fZ (δ:Dl) (i:Nat) (P:List D→Prop):Prop:=match δ[i]? with | some (some (.lst ds))=>P ds | _=>False
theorem gj {δ:Dl}{i:Nat}{P:List D→Prop} (h:fZ δ i P):∃ds,δ[i]?=some (some (.lst ds))∧P ds:=by
 unfold fZ at h;split at h
 ·exact⟨_,by assumption,h⟩
 ·exact h.elim
theorem Ok.wk (o:Ok K B0 Γ fps δ σ H) {i:Nat}{ds:List D} (e:δ[i]?=some (some (.lst ds))):∃a xs fq,σ[i]?=some (some (.ref a))∧H a=some (.lst xs)∧fps i=a::fq∧Rfs K H ds xs fq:=by
 obtain ⟨v,h1,a,xs,fq,rfl,h2,h3,h4⟩:=o.val i _ e
 exact⟨a,xs,fq,h1,h2,h3,h4⟩
theorem mW {a:Addr}{w:HO}{fp:List Addr} (ha:a∈fp):∀b u,b∉fp→H b=some u→upd H a w b=some u:=fun b u hb e=>by
 rw[aI (fun z=>hb (by rw[z];exact ha))];exact e
def uD (M:List Nat) (i:Nat) (de:DE) (E:bh) (δ:Dl):Prop:=fZ δ i fun ds=>de δ fun x=>ds.length<1000∧E.nx ((kill M δ).set i (some (.lst (ds++[x]))))
theorem eO (i:Nat) (he:EM K Γ M te de) (hi:i∈Γ∧i∉M:=by decide) (hM:∀j∈M,j∈Γ:=by decide):ST K ρ Γr Γl (qD (tBM K "list" oX (eU i) (eZ te lI))) Γ (minus Γ M) (uD M i de):=by
 intro B0 Dn E fps δ σ H k o h
 obtain ⟨ds,e,h⟩:=gj h
 obtain ⟨a,xs,fq,h1,h2,h3,h4⟩:=o.wk e
 refine⟨.ref a,h1,.inl ⟨rfl,xs,.inl (.inl h2)⟩,he.run o (he.mono _ _ _ (fun x z v H1 fp s r n=>?_) h)⟩
 refine⟨a,xs,v,rfl,rfl,s _ _ h2,by rw[h4.length];exact Nat.lt_of_lt_of_le z.1 (jj (Nat.le_refl _)),?_⟩
 have ok:=(o.kill M).same s
 have hil:i∈minus Γ M:=bA.mpr hi
 have hown:=o.own i hi.1
 rw[h3] at hown
 obtain ⟨nd,hmu⟩:=hown
 obtain ⟨na,ndq⟩:=List.nodup_cons.mp nd
 have hfa:∀b∈fp,b≠a∧b∉fq:=fun b hb=>by
  have:b∉fps i:=fun z=>by
   rcases n.src b hb with y | ⟨j,hj,y⟩
   ·exact o.dom z y
   ·exact o.dj j (hM j hj) i (fun w=>hi.2 (by rw[w];exact hj)) b y z
  rw[h3] at this
  exact⟨fun z=>this (by rw[z];exact List.mem_cons_self),fun z=>this (List.mem_cons_of_mem _ z)⟩
 have nt:=((hmu a List.mem_cons_self).2.same s).jV
 refine k.nx (ok.write hil (d':=.lst (ds++[x])) (fp':=a::(fq++fp)) h1 ⟨a,xs++[v],fq++fp,rfl,aK,rfl,?_⟩ ?_ (fun b hb=>?_) (fun b hb=>?_) ?_) z.2
 ·exact ((h4.same s).upd na nt).append ((Rfs.one r).upd (fun w=>(hfa a w).1 rfl) nt)
 ·refine List.nodup_cons.mpr ⟨fun w=>?_,List.nodup_append.mpr ⟨ndq,n.nd,fun b h1 c h2 z=>?_⟩⟩
  ·rcases List.mem_append.mp w with w | w
   ·exact na w
   ·exact (hfa a w).1 rfl
  ·subst z;exact (hfa b h2).2 h1
 ·refine Mu.upd ?_ (.inl ⟨_,rfl⟩)
  rcases List.mem_cons.mp hb with w | w
  ·subst w;exact .inl ⟨xs,s _ _ h2⟩
  ·rcases List.mem_append.mp w with w | w
   ·exact (hmu b (List.mem_cons_of_mem _ w)).2.same s
   ·exact n.mu b w
 ·show b∈(if i∈M then [] else fps i)∨_
  rw[if_neg hi.2,h3]
  rcases List.mem_cons.mp hb with w | w
  ·subst w;exact .inl List.mem_cons_self
  ·rcases List.mem_append.mp w with w | w
   ·exact .inl (List.mem_cons_of_mem _ w)
   ·refine .inr ⟨?_,fun j=>?_⟩
    ·rcases n.src b w with y | ⟨j,hj,y⟩
     ·exact o.b0.free y
     ·exact ((o.own j (hM j hj)).2 b y).1
    ·show b∉(if j∈M then [] else fps j)
     split
     ·exact List.not_mem_nil
     ·rename_i hj
      intro z
      rcases n.src b w with y | ⟨j',hj',y⟩
      ·exact o.dom z y
      ·exact o.dj j' (hM j' hj') j (fun q=>hj (by rw[q];exact hj')) b y z
 ·show ∀b u,b∉(if i∈M then [] else fps i)→_
  rw[if_neg hi.2,h3]
  exact mW List.mem_cons_self
theorem Rfs.set {H:Hp}{x:D}{v:V}{fp:List Addr} (r:Rf K H x v fp) (nd:fp.Nodup):∀{ds:List D}{xs:List V}{fq:List Addr}{j:Nat},Rfs K H ds xs fq→fq.Nodup→(∀a∈fp,a∉fq)→j<ds.length →
  ∃fq',Rfs K H (ds.set j x) (xs.set j v) fq'∧fq'.Nodup∧∀a∈fq',a∈fq∨a∈fp
 | [],xs,fq,j,h,_,_,hj=>by simp at hj
 | d::ds,xs,fq,j,h,hn,hd,hj=>by
  obtain ⟨y,ys,f1,f2,rfl,rfl,h1,h2⟩:=h
  obtain ⟨n1,n2,n3⟩:=List.nodup_append.mp hn
  cases j with
  | zero =>
   refine⟨fp++f2,⟨v,ys,fp,f2,rfl,rfl,r,h2⟩,List.nodup_append.mpr ⟨nd,n2,fun a ha b hb z=>?_⟩,fun a ha=>?_⟩
   ·subst z;exact hd a ha (List.mem_append_right _ hb)
   ·exact (List.mem_append.mp ha).elim .inr fun z=>.inl (List.mem_append_right _ z)
  | succ j =>
   obtain ⟨fq',r',nd',k'⟩:=Rfs.set r nd (j:=j) h2 n2 (fun a ha z=>hd a ha (List.mem_append_right _ z)) (by simpa using hj)
   refine⟨f1++fq',⟨y,ys.set j v,f1,fq',rfl,rfl,h1,r'⟩,List.nodup_append.mpr ⟨n1,nd',fun a ha b hb z=>?_⟩,fun a ha=>?_⟩
   ·subst z
    rcases k' a hb with w | w
    ·exact n3 a ha a w rfl
    ·exact hd a w (List.mem_append_left _ ha)
   ·rcases List.mem_append.mp ha with w | w
    ·exact .inl (List.mem_append_left _ w)
    ·exact (k' a w).imp (List.mem_append_right _) id
def kq (i:Nat) (de dx:DE) (E:bh) (δ:Dl):Prop:=de δ fun x=>fZ δ i fun ds=>dx δ fun k=>asI [k] fun n=>match ixN ds.length n with | some j=>E.nx (δ.set i (some (.lst (ds.set j x)))) | none=>False
theorem AH {n:Nat}{i:Int}{j:Nat} (h:ixN n i=some j):j<n:=by
 unfold ixN at h
 split at h
 ·split at h
  ·cases h;omega
  ·cases h
 ·split at h
  ·cases h;omega
  ·cases h
theorem xo (o:Ok K B0 Γ fps δ σ H) {i j:Nat} (hi:i∈Γ) {ds:List D}{x:D}{v:V}{fp:List Addr} (e:δ[i]?=some (some (.lst ds))) (r:Rf K H x v fp) (nd:fp.Nodup) (mu:∀a∈fp,Mu H a) (src:∀a∈fp,B0 a=none∧∀j,a∉fps j) (hj:j<ds.length) :
  ∃a xs,σ[i]?=some (some (.ref a))∧H a=some (.lst xs)∧xs.length=ds.length∧∃fps',Ok K B0 Γ fps' (δ.set i (some (.lst (ds.set j x)))) σ (upd H a (.lst (xs.set j v))):=by
 obtain ⟨a,xs,fq,h1,h2,h3,h4⟩:=o.wk e
 have hown:=o.own i hi
 rw[h3] at hown
 obtain ⟨nd0,hmu⟩:=hown
 obtain ⟨na,ndq⟩:=List.nodup_cons.mp nd0
 have nt:=(hmu a List.mem_cons_self).2.jV
 have hfq:∀b∈fp,b∉fps i:=fun b hb=>(src b hb).2 i
 rw[h3] at hfq
 obtain ⟨fq',r',nd',k'⟩:=Rfs.set r nd h4 ndq (fun b hb z=>hfq b hb (List.mem_cons_of_mem _ z)) hj
 have naq:a∉fq':=fun z=>(k' a z).elim na fun w=>hfq a w List.mem_cons_self
 refine⟨a,xs,h1,h2,h4.length,_,o.write hi (fp':=a::fq') h1 ⟨a,xs.set j v,fq',rfl,aK,rfl,r'.upd naq nt⟩ (List.nodup_cons.mpr ⟨naq,nd'⟩) (fun b hb=>Mu.upd ?_ (.inl ⟨_,rfl⟩)) (fun b hb=>?_) ?_⟩
 ·rcases List.mem_cons.mp hb with w | w
  ·subst w;exact .inl ⟨xs,h2⟩
  ·rcases k' b w with w | w
   ·exact (hmu b (List.mem_cons_of_mem _ w)).2
   ·exact mu b w
 ·rw[h3]
  rcases List.mem_cons.mp hb with w | w
  ·subst w;exact .inl List.mem_cons_self
  ·rcases k' b w with w | w
   ·exact .inl (List.mem_cons_of_mem _ w)
   ·exact .inr (src b w)
 ·rw[h3];exact mW List.mem_cons_self
theorem cW {x:D}{P:Int→Prop} (h:asI [x] P):∃j,x=.int j∧P j:=by
 obtain ⟨j,e,h⟩:=uf h;cases e;exact⟨j,rfl,h⟩
theorem jN (i:Nat) (he:EM K Γ [] te de) (hx:ER K Γ tx dx) (hi:i∈Γ:=by decide):ST K ρ Γr Γl (jX te (zw (eU i) tx sD)) Γ Γ (kq i de dx):=by
 intro B0 Dn E fps δ σ H k o h
 refine he.run o (he.mono _ _ _ (fun x z v H1 fp s r n=>?_) h)
 obtain ⟨ds,e,z⟩:=gj z
 obtain ⟨a0,_,_,h1,_⟩:=(o.same s).wk e
 refine⟨.ref a0,h1,hx.run (o.same s) (hx.mono _ _ _ (fun y z w H2 s2 r2=>?_) z)⟩
 obtain ⟨m,em,z9⟩:=cW z
 subst em
 cases ej:ixN ds.length m with
 | none=>rw[ej] at z9;exact z9.elim
 | some j =>
  rw[ej] at z9
  obtain ⟨a,xs,e1,e2,e3,fps',o'⟩:=xo ((o.same s).same s2) hi e (r.same s2) n.nd (fun a ha=>(n.mu a ha).same s2) (fun a ha=>⟨o.b0.free (n.fresh a ha),fun j z=>o.dom z (n.fresh a ha)⟩) (AH ej)
  rw[h1] at e1;cases e1
  exact⟨a0,xs,m,j,rfl,r2.int,e2,by rw[e3];exact ej,k.nx o' z9⟩
theorem Rfs.inner {H:Hp}:∀{ds:List D}{xs:List V}{fq:List Addr}{j:Nat}{es:List D},Rfs K H ds xs fq→fq.Nodup→ds[j]?=some (.lst es) →
  ∃b ys fe,xs[j]?=some (.ref b)∧H b=some (.lst ys)∧Rfs K H es ys fe∧b∈fq∧(∀a∈fe,a∈fq)∧b∉fe∧fe.Nodup ∧
   ∀{H':Hp}{es':List D}{ys':List V}{fe':List Addr},(∀c u,c≠b→H c=some u→H' c=some u)→H' b=some (.lst ys')→(∀u,H b=some u→¬ Im u)→Rfs K H' es' ys' fe'→fe'.Nodup→b∉fe'→(∀a∈fe',a∈fe∨a∉fq) →
    ∃fq',Rfs K H' (ds.set j (.lst es')) xs fq'∧fq'.Nodup∧∀a∈fq',a∈fq∨a∈fe'
 | [],xs,fq,j,es,h,_,e=>by simp at e
 | d::ds,xs,fq,j,es,h,hn,e=>by
  obtain ⟨y,ys,f1,f2,rfl,rfl,h1,h2⟩:=h
  obtain ⟨n1,n2,n3⟩:=List.nodup_append.mp hn
  cases j with
  | zero =>
   simp at e;subst e
   obtain ⟨b,zs,fe,rfl,hb,rfl,h3⟩:=h1
   obtain ⟨m1,m2⟩:=List.nodup_cons.mp n1
   refine⟨b,zs,fe,rfl,hb,h3,List.mem_append_left _ List.mem_cons_self,fun a ha=>List.mem_append_left _ (List.mem_cons_of_mem _ ha),m1,m2,fun {H' es' ys' fe'} k1 k2 k3 k4 k5 k6 k7=>?_⟩
   refine⟨(b::fe')++f2,⟨_,ys,b::fe',f2,rfl,rfl,⟨b,ys',fe',rfl,k2,rfl,k4⟩,?_⟩,List.nodup_append.mpr ⟨List.nodup_cons.mpr ⟨k6,k5⟩,n2,fun a ha c hc z=>?_⟩,fun a ha=>?_⟩
   ·exact h2.mono (fun c hc u e=>k1 c u (fun z=>n3 b List.mem_cons_self c hc z.symm) e) fun c u e im=>k1 c u (fun z=>k3 u (by rw[← z];exact e) im) e
   ·subst z
    rcases List.mem_cons.mp ha with w | w
    ·exact n3 a (by rw[w];exact List.mem_cons_self) a hc rfl
    ·rcases k7 a w with w | w
     ·exact n3 a (List.mem_cons_of_mem _ w) a hc rfl
     ·exact w (List.mem_append_right _ hc)
   ·rcases List.mem_append.mp ha with w | w
    ·rcases List.mem_cons.mp w with w | w
     ·exact .inl (List.mem_append_left _ (by rw[w];exact List.mem_cons_self))
     ·exact .inr w
    ·exact .inl (List.mem_append_right _ w)
  | succ j =>
   obtain ⟨b,zs,fe,e1,hb,h3,hbq,hfe,hbe,hnd,K'⟩:=Rfs.inner (j:=j) h2 n2 (by simpa using e)
   refine⟨b,zs,fe,by simpa using e1,hb,h3,List.mem_append_right _ hbq,fun a ha=>List.mem_append_right _ (hfe a ha),hbe,hnd,fun {H' es' ys' fe'} k1 k2 k3 k4 k5 k6 k7=>?_⟩
   obtain ⟨fq',r',nd',s'⟩:=K' k1 k2 k3 k4 k5 k6 fun a ha=>(k7 a ha).imp id fun w z=>w (List.mem_append_right _ z)
   have hy:Rf K H' d y f1:=h1.mono (fun c hc u e=>k1 c u (fun z=>n3 c hc b hbq z) e) fun c u e im=>k1 c u (fun z=>k3 u (by rw[← z];exact e) im) e
   refine⟨f1++fq',⟨y,ys,f1,fq',rfl,rfl,hy,r'⟩,List.nodup_append.mpr ⟨n1,nd',fun a ha c hc z=>?_⟩,fun a ha=>?_⟩
   ·subst z
    rcases s' a hc with w | w
    ·exact n3 a ha a w rfl
    ·rcases k7 a w with w | w
     ·exact n3 a ha a (hfe a w) rfl
     ·exact w (List.mem_append_left _ ha)
   ·rcases List.mem_append.mp ha with w | w
    ·exact .inl (List.mem_append_left _ w)
    ·exact (s' a w).imp (List.mem_append_right _) id
theorem pj (o:Ok K B0 Γ fps δ σ H) {i j:Nat} (hi:i∈Γ) {ds es es':List D} (e:δ[i]?=some (some (.lst ds))) (ej:ds[j]?=some (.lst es)) :
  ∃a xs b ys fe,σ[i]?=some (some (.ref a))∧H a=some (.lst xs)∧xs.length=ds.length∧xs[j]?=some (.ref b)∧H b=some (.lst ys)∧Rfs K H es ys fe∧fe.Nodup∧b∉fe∧(∀a∈fe,a∈fps i)∧b∈fps i ∧
   ∀{ys':List V}{fe':List Addr},Rfs K H es' ys' fe'→fe'.Nodup→b∉fe'→(∀c∈fe',Mu H c)→(∀c∈fe',c∈fe∨(B0 c=none∧∀j,c∉fps j))→∃fps',Ok K B0 Γ fps' (δ.set i (some (.lst (ds.set j (.lst es'))))) σ (upd H b (.lst ys')):=by
 obtain ⟨a,xs,fq,h1,h2,h3,h4⟩:=o.wk e
 have hown:=o.own i hi
 rw[h3] at hown
 obtain ⟨nd0,hmu⟩:=hown
 obtain ⟨na,ndq⟩:=List.nodup_cons.mp nd0
 obtain ⟨b,ys,fe,e1,hb,h5,hbq,hfe,hbe,hnd,K'⟩:=h4.inner ndq ej
 refine⟨a,xs,b,ys,fe,h1,h2,h4.length,e1,hb,h5,hnd,hbe,fun c hc=>by rw[h3];exact List.mem_cons_of_mem _ (hfe c hc),by rw[h3];exact List.mem_cons_of_mem _ hbq,fun {ys' fe'} r nd nb mu src=>?_⟩
 have nt:=(hmu b (List.mem_cons_of_mem _ hbq)).2.jV
 have hab:a≠b:=fun z=>na (by rw[z];exact hbq)
 obtain ⟨fq',r',nd',k'⟩:=K' (H':=upd H b (.lst ys')) (fun c u hc e=>by rw[aI hc];exact e) aK nt (r.upd nb nt) nd nb fun c hc=>(src c hc).imp id fun w z=>w.2 i (by rw[h3];exact List.mem_cons_of_mem _ z)
 have naq:a∉fq':=fun z=>by
  rcases k' a z with w | w
  ·exact na w
  ·rcases src a w with w | w
   ·exact na (hfe a w)
   ·exact w.2 i (by rw[h3];exact List.mem_cons_self)
 refine⟨_,o.write hi (fp':=a::fq') h1 ⟨a,xs,fq',rfl,by rw[aI hab];exact h2,rfl,r'⟩ (List.nodup_cons.mpr ⟨naq,nd'⟩) (fun c hc=>Mu.upd ?_ (.inl ⟨_,rfl⟩)) (fun c hc=>?_) ?_⟩
 ·rcases List.mem_cons.mp hc with w | w
  ·subst w;exact .inl ⟨xs,h2⟩
  ·rcases k' c w with w | w
   ·exact (hmu c (List.mem_cons_of_mem _ w)).2
   ·exact mu c w
 ·rw[h3]
  rcases List.mem_cons.mp hc with w | w
  ·subst w;exact .inl List.mem_cons_self
  ·rcases k' c w with w | w
   ·exact .inl (List.mem_cons_of_mem _ w)
   ·rcases src c w with w | w
    ·exact .inl (List.mem_cons_of_mem _ (hfe c w))
    ·exact .inr w
 ·rw[h3];exact mW (List.mem_cons_of_mem _ hbq)
def oj (o:Option D) (P:List D→Prop):Prop:=match o with | some (.lst es)=>P es | _=>False
theorem kJ {o:Option D}{P:List D→Prop} (h:oj o P):∃es,o=some (.lst es)∧P es:=by
 unfold oj at h;split at h
 ·exact⟨_,rfl,h⟩
 ·exact h.elim
def Ci (i:Nat) (E:bh) (δ:Dl):Prop:=fZ δ i fun _=>E.nx (δ.set i (some (.lst [])))
def cutD (ds:List D) (lo hi:Option Int):List D:=(ds.drop (HT.sIx ds.length 0 lo)).take (HT.sIx ds.length ds.length hi - HT.sIx ds.length 0 lo)
abbrev DO:=Dl→(Option Int→Prop)→Prop
structure OR (K:PySem.W.Frag) (Γ:List Nat) (t:TO) (d:DO):Prop where
 mono:∀δ (P P':Option Int→Prop),(∀x,P x→P' x)→d δ P→d δ P'
 run:∀{B0 fps δ σ H Q},Ok K B0 Γ fps δ σ H→d δ (fun x=>∀H',aJ H H'→Q x H')→t σ H Q
def um (_u0:Dl) (P:Option Int→Prop):Prop:=P none
def BO (d:DE) (δ:Dl) (P:Option Int→Prop):Prop:=d δ fun x=>asI [x] fun i=>P (some i)
theorem or_none:OR K Γ tK um:=⟨fun _ _ _ k h=>k _ h,fun {_ _ _ _ H _} o q=>q H (aJ.refl H)⟩
theorem or_some (h:ER K Γ te de):OR K Γ (Bs te) (BO de):=⟨fun δ P P' k q=>h.mono _ _ _ (fun x z=>by obtain ⟨j,rfl,z⟩:=cW z;exact k _ z) q,
 fun o q=>h.run o (h.mono _ _ _ (fun x z v H' s r=>by obtain ⟨j,rfl,z⟩:=cW z;exact⟨j,r.int,z H' s⟩) q)⟩
def vSl (de:DE) (dl dh:DO) (δ:Dl) (P:DK):Prop:=de δ fun x=>dl δ fun l=>dh δ fun u=>asL x fun ds=>ds.all D.aY=true∧P (.lst (cutD ds l u))
theorem D8 {ds:List D}{lo hi:Option Int}:qS (ds.map D.toV) lo hi=(cutD ds lo hi).map D.toV:=by
 unfold qS cutD
 rw[List.length_map,List.map_take,List.map_drop]
theorem Bi {ds:List D}{lo hi:Option Int} (h:ds.all D.aY=true):(cutD ds lo hi).all D.aY=true:=by
 unfold cutD
 rw[List.all_eq_true] at h ⊢
 exact fun x hx=>h x (List.mem_of_mem_drop (List.mem_of_mem_take hx))
theorem rT {tl th:TO}{dl dh:DO} (he:ER K Γ te de) (hl:OR K Γ tl dl) (hh:OR K Γ th dh):EM K Γ [] (tSl (Gi K) te tl th) (vSl de dl dh) :=
 ⟨fun δ P P' k h=>he.mono _ _ _ (fun x z=>hl.mono _ _ _ (fun l z=>hh.mono _ _ _ (fun u z=>by obtain ⟨ds,e,z⟩:=bP z;exact gB e ⟨z.1,k _ z.2⟩) z) z) h,
 fun {B0 fps δ σ H Q} o h=>he.run o (he.mono _ _ _ (fun x z v H1 s1 r1=>hl.run (o.same s1) (hl.mono _ _ _ (fun l z H2 s2=>hh.run ((o.same s1).same s2) (hh.mono _ _ _ (fun u z H3 s3=>by
  obtain ⟨ds,e,z⟩:=bP z
  obtain ⟨a,xs,fq,rfl,hs,hr⟩:=(r1.same (s2.trans s3)).seq e
  obtain ⟨rfl,rfl⟩:=hr.i7 z.1
  refine⟨a,_,rfl,hs,fun p hp=>?_⟩
  rw[D8]
  have s4:aJ H3 (upd H3 p (.lst ((cutD ds l u).map D.toV))):=aJ.lP hp
  refine z.2 _ _ [p] (((s1.trans s2).trans s3).trans s4) ⟨p,_,[],rfl,aK,rfl,Rfs.mE (Bi z.1)⟩ ⟨by simp,fun b hb=>?_,fun b hb=>?_⟩
  ·cases List.mem_singleton.mp hb;exact .inl ⟨_,aK⟩
  ·cases List.mem_singleton.mp hb;exact .inl (((s1.trans s2).trans s3).free hp)) z)) z)) h)⟩
def Dy (x:D) (y:D) (P:DK):Prop:=match x,y with | .lst a,.lst b=>(a.all D.aY=true∧b.all D.aY=true∧a.length+b.length≤1000)∧P (.lst (a++b)) | _,_=>False
theorem Gp {H:Hp}{p:Addr}{ds:List D} (h:ds.all D.aY=true) (hp:H p=none):aJ H (upd H p (.lst (ds.map D.toV)))∧Rf K (upd H p (.lst (ds.map D.toV))) (.lst ds) (.ref p) [p]∧Nw H (upd H p (.lst (ds.map D.toV))) nf [] [p] :=
 ⟨aJ.lP hp,⟨p,_,[],rfl,aK,rfl,Rfs.mE h⟩,⟨by simp,fun b hb=>by cases List.mem_singleton.mp hb;exact .inl ⟨_,aK⟩,fun b hb=>by cases List.mem_singleton.mp hb;exact .inl hp⟩⟩
theorem HL:OpV K Hg Dy:=⟨fun x y P P' k h=>by unfold Dy at h ⊢;revert h;split<;>first | exact fun h=>⟨h.1,k _ h.2⟩ | exact id,fun {H x y v w Q} r1 r2 h=>by
 unfold Dy at h
 split at h
 ·rename_i a b
  obtain ⟨⟨s1,s2,hl⟩,h⟩:=h
  obtain ⟨f1,l1,xs,q1,rfl,e1,_,hr1⟩:=r1
  obtain ⟨f2,l2,ys,q2,rfl,e2,_,hr2⟩:=r2
  obtain ⟨rfl,_⟩:=hr1.i7 s1
  obtain ⟨rfl,_⟩:=hr2.i7 s2
  refine⟨l1,l2,_,_,rfl,rfl,e1,e2,by rw[List.length_map,List.length_map];exact jj hl,fun p hp=>?_⟩
  rw[← List.map_append]
  obtain ⟨n1,n2,n3⟩:=Gp (K:=K) (ds:=a++b) (by rw[List.all_append,s1,s2];rfl) hp
  exact h _ _ _ n1 n2 n3
 ·exact h.elim⟩
def qZ (xs:List D) (k:Nat):List D:=(List.replicate k xs).flatten
def DG (x:D) (y:D) (P:DK):Prop:=match x,y with | .lst a,.int k=>(a.all D.aY=true∧(-(2 ^ 63)≤k∧k<2 ^ 63)∧a.length*k.toNat≤1000)∧P (.lst (qZ a k.toNat)) | _,_=>False
theorem HF:OpV K Hs DG:=⟨fun x y P P' k h=>by unfold DG at h ⊢;revert h;split<;>first | exact fun h=>⟨h.1,k _ h.2⟩ | exact id,fun {H x y v w Q} r1 r2 h=>by
 unfold DG at h
 split at h
 ·rename_i a n
  obtain ⟨⟨s1,⟨b1,b2⟩,hl⟩,h⟩:=h
  obtain ⟨f1,l1,xs,q1,rfl,e1,_,hr1⟩:=r1
  obtain ⟨rfl,_⟩:=hr1.i7 s1
  refine⟨l1,n,_,rfl,r2.int,e1,b1,b2,by rw[List.length_map];exact jj hl,fun p hp=>?_⟩
  have:(List.replicate n.toNat (a.map D.toV)).flatten=(qZ a n.toNat).map D.toV:=by unfold qZ;rw[List.map_flatten,List.map_replicate]
  rw[this]
  obtain ⟨n1,n2,n3⟩:=Gp (K:=K) (ds:=qZ a n.toNat) (by
   rw[List.all_eq_true] at s1 ⊢
   intro x hx
   unfold qZ at hx
   obtain ⟨l,h1,h2⟩:=List.mem_flatten.mp hx
   rw[(List.mem_replicate.mp h1).2] at h2
   exact s1 x h2) hp
  exact h _ _ _ n1 n2 n3
 ·exact h.elim⟩
def inD (x:D) (ds:List D):Bool:=inV x.toV (ds.map D.toV)
def vIn (neg:Bool) (x:D) (y:D) (P:DK):Prop:=x.aY=true∧asL y fun ds=>ds.all D.aY=true∧P (.bl (if neg then !inD x ds else inD x ds))
theorem iA {d:D} (h:d.aY=true):gF d.toV=true:=by cases d<;>first | rfl | cases h
theorem D9 {neg:Bool}:OpV K (rIn K neg) (vIn neg):=⟨fun x y P P' k h=>⟨h.1,by obtain ⟨ds,e,z⟩:=bP h.2;exact gB e ⟨z.1,k _ z.2⟩⟩,fun {H x y v w Q} r1 r2 h=>by
 obtain ⟨hx,h⟩:=h
 obtain ⟨ds,e,hs,h⟩:=bP h
 obtain ⟨f1,r1⟩:=r1
 obtain ⟨rfl,_⟩:=r1.aY hx
 obtain ⟨a,xs,fq,rfl,hsq,hr⟩:=r2.seq e
 obtain ⟨rfl,_⟩:=hr.i7 hs
 refine⟨a,_,rfl,.inl hsq,iA hx,?_,h _ H [] (aJ.refl H) ⟨rfl,rfl⟩ Nw.nil⟩
 rw[List.all_map,List.all_eq_true]
 rw[List.all_eq_true] at hs
 exact fun y hy=>iA (hs y hy)⟩
def zA (xs:List D) (P:DK):Prop:=match xs with | [x]=>(match x with | .tup ds=>P (.int ds.length) | x=>asL x fun ds=>P (.int ds.length)) | _=>False
theorem Rps.one {H:Hp}{x:D}{vs:List V} (h:Rps K H [x] vs):∃v,vs=[v]∧Rp K H x v:=by
 obtain ⟨fp,y,r,f1,f2,rfl,_,h1,⟨rfl,_⟩⟩:=h
 exact⟨y,rfl,f1,h1⟩
theorem cT:mS K (fun xs H Q=>∃p ys,xs=[.ref p]∧(SqL K H p ys∨SqT K H p ys)∧Q (.int ys.length) H) zA:=⟨fun xs P P' k h=>by
  unfold zA at h ⊢
  revert h
  split
  ·split
   ·exact fun h=>k _ h
   ·exact fun h=>by obtain ⟨ds,e,z⟩:=bP h;exact gB e (k _ z)
  ·exact id,
 fun {H xs vs Q} r h=>by
  unfold zA at h
  split at h
  ·obtain ⟨v,rfl,r0⟩:=r.one
   split at h
   ·obtain ⟨a,ys,fq,rfl,hs,hr⟩:=r0.tup
    refine⟨a,ys,rfl,.inr hs,?_⟩
    rw[hr.length]
    exact h _ H [] (aJ.refl H) ⟨rfl,rfl⟩ Nw.nil
   ·obtain ⟨ds,e,h⟩:=bP h
    obtain ⟨a,ys,fq,rfl,hs,hr⟩:=r0.seq e
    refine⟨a,ys,rfl,.inl hs,?_⟩
    rw[hr.length]
    exact h _ H [] (aJ.refl H) ⟨rfl,rfl⟩ Nw.nil
  ·exact h.elim⟩
theorem uZ {ds:List D}{P:DK}:zA [.lst ds] P↔P (.int ds.length):=Iff.rfl
theorem vZ {ds:List Int}{P:DK}:zA [.scr ds] P↔P (.int ds.length):=by
 show P (.int ((ds.map D.int).length:Nat))↔_
 rw[List.length_map]
def iu:List D→Option (List Int)
 | []=>some []
 | .int i::ds=>(iu ds).map (i::·)
 | _=>none
theorem iS:∀{ns:List Int},iu (ns.map D.int)=some ns
 | []=>rfl
 | n::ns=>by rw[List.map_cons,iu,iS];rfl
theorem sY:∀{ds:List D}{ns:List Int},iu ds=some ns→ds=ns.map D.int
 | [],ns,h=>by cases h;rfl
 | .int i::ds,ns,h=>by
  rw[iu] at h
  cases e:iu ds with
  | none=>rw[e] at h;cases h
  | some ms=>rw[e] at h;cases h;rw[sY e];rfl
 | .non::_,_,h=>by cases h
 | .bl _::_,_,h=>by cases h
 | .str _::_,_,h=>by cases h
 | .lst _::_,_,h=>by cases h
 | .tup _::_,_,h=>by cases h
 | .dic _::_,_,h=>by cases h
 | .dit _::_,_,h=>by cases h
 | .scr _::_,_,h=>by cases h
theorem Rfs.BC {H:Hp}{ns:List Int}{vs:List V}{fp:List Addr} (h:Rfs K H (ns.map D.int) vs fp):vs=ns.map V.int:=by
 have hs:(ns.map D.int).all D.aY=true:=by rw[List.all_map,List.all_eq_true];exact fun _ _=>rfl
 rw[(h.i7 hs).1,List.map_map]
 rfl
def u6 (x:D) (P:List Int→Prop):Prop:=asL x fun ds=>match iu ds with | some ns=>P ns | none=>False
theorem jC {x:D}{P:List Int→Prop} (h:u6 x P):∃ns,x.items=some (ns.map D.int)∧P ns:=by
 obtain ⟨ds,e,h⟩:=bP h
 cases q:iu ds with
 | none=>rw[q] at h;exact h.elim
 | some ns=>rw[q] at h;rw[sY q] at e;exact⟨ns,e,h⟩
theorem uL {x:D}{ns:List Int}{P:List Int→Prop} (e:x.items=some (ns.map D.int)) (h:P ns):u6 x P:=by
 refine gB e ?_
 rw[iS];exact h
def DU (xs:List D) (P:DK):Prop:=match xs with | [x]=>u6 x fun ns=>P (.int ns.sum) | _=>False
theorem kn:mS K (fun xs H Q=>∃(a:Addr) (ns:List Int),xs=[.ref a]∧SqL K H a (ns.map V.int)∧Q (.int ns.sum) H) DU:=⟨fun xs P P' k h=>by
  unfold DU at h ⊢
  revert h
  split
  ·exact fun h=>by obtain ⟨ns,e,z⟩:=jC h;exact uL e (k _ z)
  ·exact id,
 fun {H xs vs Q} r h=>by
  unfold DU at h
  split at h
  ·obtain ⟨v,rfl,r0⟩:=r.one
   obtain ⟨ns,e,h⟩:=jC h
   obtain ⟨a,ys,fq,rfl,hs,hr⟩:=r0.seq e
   rw[hr.BC] at hs
   exact⟨a,ns,rfl,hs,h _ H [] (aJ.refl H) ⟨rfl,rfl⟩ Nw.nil⟩
  ·exact h.elim⟩
def vD (xs:List D) (P:DK):Prop:=match xs with | [x]=>asL x fun ds=>ds.all D.aY=true∧P (.lst ds) | _=>False
theorem ma:mS K (fun xs H Q=>∃p ys,xs=[.ref p]∧(SqL K H p ys∨SqT K H p ys)∧∀l,H l=none→Q (.ref l) (upd H l (.lst ys))) vD:=⟨fun xs P P' k h=>by
  unfold vD at h ⊢
  revert h
  split
  ·exact fun h=>by obtain ⟨ds,e,z⟩:=bP h;exact gB e ⟨z.1,k _ z.2⟩
  ·exact id,
 fun {H xs vs Q} r h=>by
  unfold vD at h
  split at h
  ·obtain ⟨v,rfl,r0⟩:=r.one
   obtain ⟨ds,e,hsc,h⟩:=bP h
   obtain ⟨a,ys,fq,rfl,hs,hr⟩:=r0.seq e
   obtain ⟨rfl,_⟩:=hr.i7 hsc
   refine⟨a,_,rfl,.inl hs,fun l hl=>?_⟩
   obtain ⟨n1,n2,n3⟩:=Gp (K:=K) hsc hl
   exact h _ _ _ n1 n2 n3
  ·exact h.elim⟩
end
end L3
namespace L3
open PySem L2
open PyProof.Rows (Ordered)
section
variable {K:PySem.W.Frag}{Γ M:List Nat}{te ta tb:TE}{de da db:DE}
theorem bD {wi:TI}{di:DI}{g:TG}{dg:D→Dl→(Dl→Prop)→Prop}{k:Nat}{idx:List Nat} (hi:IT K [] wi di) (hg:GT K [] g dg) (he:EM K [] [] te de):EM K Γ [] (qC wi g te k idx) (mV di dg Dm de k idx):=by
 rw[nG];exact tI hi hg Gv he
def D.tyn:D→Option String
 | .non=>some "NoneType" | .bl _=>some "bool" | .int _=>some "int" | .str _=>some "str" | .lst _=>some "list" | .tup _=>some "tuple" | .dic _=>some "dict" | .dit _=>some "dict" | .scr _=>none | .pin _ _=>none | .mem _=>none | .raw _=>none | .ins _ _ _=>none
theorem Rp.ty {H:Hp}{d:D}{v:V}{n:String} (h:Rp K H d v) (e:d.tyn=some n):kX K H v (.type n):=by
 obtain ⟨fp,h⟩:=h
 cases d with
 | non=>cases e;obtain ⟨rfl,_⟩:=h;exact .non
 | bl b=>cases e;obtain ⟨rfl,_⟩:=h;exact .bl _
 | int b=>cases e;obtain ⟨rfl,_⟩:=h;exact .int _
 | str b=>cases e;obtain ⟨rfl,_⟩:=h;exact .str _
 | lst ds=>cases e;obtain ⟨a,xs,fq,rfl,h2,_⟩:=h;exact .lst h2
 | tup ds=>cases e;obtain ⟨a,xs,rfl,h2,_⟩:=h;exact .tup h2
 | dic ds=>cases e;obtain ⟨a,rfl,h2,_⟩:=h;exact .dK h2
 | dit ds=>cases e;obtain ⟨a,rfl,h2,_⟩:=h;exact .dT h2
 | scr ns=>cases e
 | pin a d=>cases e
 | mem φ=>cases e
 | raw w=>cases e
 | ins C ns ds=>cases e
def isB (m n:String):Bool:=m == n || (m == "bool" && n == "int")
def vR (n:String):Prop:=∀(K:PySem.W.Frag) (d:D) (m:String),d.tyn=some m→PySem.W.kitOne K (.type m) (.type n)=some (isB m n)
theorem Eb:vR "int":=fun K d m e=>by cases d<;>cases e<;>first | exact m3 | with_unfolding_all rfl
theorem AY:vR "bool":=fun K d m e=>by cases d<;>cases e<;>first | exact m3 | with_unfolding_all rfl
theorem px:vR "list":=fun K d m e=>by cases d<;>cases e<;>first | exact m3 | with_unfolding_all rfl
theorem kit_tuple:vR "tuple":=fun K d m e=>by cases d<;>cases e<;>first | exact m3 | with_unfolding_all rfl
def vIs (n:String) (da:DE) (δ:Dl) (P:DK):Prop:=da δ fun x=>match x.tyn with | some m=>P (.bl (isB m n)) | none=>False
theorem iB {n:String} (hk:vR n) (ha:ER K Γ ta da):EM K Γ [] (tCB (fun xs H Q=>∃x n t b,xs=[x,.ty n]∧kX K H x t∧PySem.W.kitOne K t (.type n)=some b∧Q (.bl b) H) (eZ ta (eZ (tC (.ty n)) lI))) (vIs n da) :=
 ⟨fun δ P P' k h=>ha.mono _ _ _ (fun x z=>by
   revert z;split
   ·exact fun z=>k _ z
   ·exact id) h,
 fun {B0 fps δ σ H Q} o h=>ha.run o (ha.mono _ _ _ (fun x z v H1 s1 r1=>by
   split at z
   ·rename_i m e
    exact⟨v,n,_,_,rfl,r1.ty e,hk K x m e,z _ H1 [] s1 ⟨rfl,rfl⟩ Nw.nil⟩
   ·exact z.elim) h)⟩
mutual
def D.old:D→Option L2.D
 | .non=>some .non | .bl b=>some (.bl b) | .int i=>some (.int i) | .str x=>some (.str x)
 | .lst ds=>(D.olds ds).map L2.D.lst | .tup ds=>(D.olds ds).map L2.D.tup
 | .dic _=>none | .dit _=>none | .scr _=>none | .pin _ _=>none | .mem _=>none | .raw _=>none | .ins _ _ _=>none
def D.olds:List D→Option (List L2.D)
 | []=>some []
 | d::ds=>match D.old d,D.olds ds with | some x,some xs=>some (x::xs) | _,_=>none
end
mutual
theorem Rf.old {H:Hp}:∀{d:D}{d':L2.D}{v:V}{fp:List Addr},Rf K H d v fp→d.old=some d'→L2.Rf H d' v fp
 | .non,d',v,fp,h,e=>by rw[D.old] at e;cases e;rw[L2.Rf];exact h
 | .bl _,d',v,fp,h,e=>by rw[D.old] at e;cases e;rw[L2.Rf];exact h
 | .int _,d',v,fp,h,e=>by rw[D.old] at e;cases e;rw[L2.Rf];exact h
 | .str _,d',v,fp,h,e=>by rw[D.old] at e;cases e;rw[L2.Rf];exact h
 | .lst ds,d',v,fp,h,e=>by
  rw[D.old] at e
  cases q:D.olds ds with
  | none=>rw[q] at e;cases e
  | some es =>
   rw[q] at e;cases e
   obtain ⟨a,xs,fq,e1,e2,e3,h⟩:=h
   rw[L2.Rf]
   exact⟨a,xs,fq,e1,e2,e3,Rfs.old h q⟩
 | .tup ds,d',v,fp,h,e=>by
  rw[D.old] at e
  cases q:D.olds ds with
  | none=>rw[q] at e;cases e
  | some es =>
   rw[q] at e;cases e
   obtain ⟨a,xs,e1,e2,h⟩:=h
   rw[L2.Rf]
   exact⟨a,xs,e1,e2,Rfs.old h q⟩
 | .dic _,d',v,fp,h,e=>by rw[D.old] at e;cases e
 | .dit _,d',v,fp,h,e=>by rw[D.old] at e;cases e
 | .scr _,d',v,fp,h,e=>by rw[D.old] at e;cases e
 | .pin _ _,d',v,fp,h,e=>by rw[D.old] at e;cases e
 | .mem _,d',v,fp,h,e=>by rw[D.old] at e;cases e
 | .raw _,d',v,fp,h,e=>by rw[D.old] at e;cases e
 | .ins _ _ _,d',v,fp,h,e=>by rw[D.old] at e;cases e
theorem Rfs.old {H:Hp}:∀{ds:List D}{ds':List L2.D}{vs:List V}{fp:List Addr},Rfs K H ds vs fp→D.olds ds=some ds'→L2.Rfs H ds' vs fp
 | [],ds',vs,fp,h,e=>by rw[D.olds] at e;cases e;rw[L2.Rfs];exact h
 | d::ds,ds',vs,fp,h,e=>by
  rw[D.olds] at e
  obtain ⟨x,r,f1,f2,e1,e2,h1,h2⟩:=h
  cases q1:d.old with
  | none=>rw[q1] at e;simp at e
  | some x' =>
   cases q2:D.olds ds with
   | none=>rw[q1,q2] at e;simp at e
   | some xs' =>
    rw[q1,q2] at e
    cases e
    rw[L2.Rfs]
    exact⟨x,r,f1,f2,e1,e2,Rf.old h1 q1,Rfs.old h2 q2⟩
end
abbrev dI (xs:List Int):D:=.lst (xs.map D.int)
abbrev dT (t:List (List Int)):D:=.lst (t.map dI)
def zq (neg:Bool) (x:D) (y:D) (P:DK):Prop:=∃a b,x.old=some (.lst a)∧y.old=some (.lst b)∧L2.D.eF a=true∧L2.D.eF b=true∧L2.D.fH a≤60∧P (.bl (if neg then !L2.D.jF a b else L2.D.jF a b))
theorem wo {neg:Bool}:OpV K (CI neg) (zq neg):=⟨fun x y P P' k h=>by
  obtain ⟨a,b,h1,h2,h3,h4,h5,h⟩:=h
  exact⟨a,b,h1,h2,h3,h4,h5,k _ h⟩,
 fun {H x y v w Q} ⟨f1,r1⟩ ⟨f2,r2⟩ h=>by
  obtain ⟨a,b,h1,h2,h3,h4,h5,h⟩:=h
  exact⟨a,b,⟨f1,r1.old h1⟩,⟨f2,r2.old h2⟩,h3,h4,h5,h _ H [] (aJ.refl H) ⟨rfl,rfl⟩ Nw.nil⟩⟩
theorem He:OpV K (CI false) (zq false):=wo
theorem vw:OpV K (CI true) (zq true):=wo
theorem nI:∀{ns:List Int},D.olds (ns.map D.int)=some (ns.map L2.D.int)
 | []=>by rw[List.map_nil,D.olds];rfl
 | n::ns=>by rw[List.map_cons,D.olds,nI,D.old];rfl
theorem wV {ns:List Int}:(dI ns).old=some (L2.dI ns):=by rw[D.old,nI];rfl
theorem nr:∀{t:List (List Int)},D.olds (t.map dI)=some (t.map L2.dI)
 | []=>by rw[List.map_nil,D.olds];rfl
 | n::ns=>by rw[List.map_cons,D.olds,nr,wV];rfl
theorem A1 {t:List (List Int)}:(dT t).old=some (L2.dT t):=by rw[D.old,nr];rfl
theorem kN {neg:Bool}{xs ys:List Int}{P:DK} (h:P (.bl (if neg then !decide (xs=ys) else decide (xs=ys)))):zq neg (dI xs) (dI ys) P :=
 ⟨_,_,wV,wV,D.ib _,D.ib _,by rw[D.j8];omega,by rw[D.kR];exact h⟩
theorem rS {neg:Bool}{xs ys:List (List Int)}{P:DK} (h:P (.bl (if neg then !decide (xs=ys) else decide (xs=ys)))):zq neg (dT xs) (dT ys) P :=
 ⟨_,_,A1,A1,D.i8 _,D.i8 _,Nat.le_trans (D.jd _) (by omega),by rw[D.nh];exact h⟩
def yH (b:Bool) (xs:List D) (P:DK):Prop:=match xs with | [x]=>u6 x fun ns=>ns.length<64∧∀ms:List Int,ms.Perm ns→Ordered b ms→P (dI ms) | _=>False
theorem Rf.ofInts {H:Hp}{p:Addr}{ms:List Int} (e:H p=some (.lst (ms.map V.int))):Rf K H (dI ms) (.ref p) [p]:=⟨p,_,[],rfl,e,rfl,Rfs.ofInts⟩
theorem Nw.one {H H':Hp}{p:Addr}{xs:List V} (h:H p=none) (e:H' p=some (.lst xs)):Nw H H' nf [] [p]:=⟨by simp,fun b hb=>by cases List.mem_singleton.mp hb;exact .inl ⟨_,e⟩,fun b hb=>by cases List.mem_singleton.mp hb;exact .inl h⟩
def Hy (da:DE) (δ:Dl) (P:DK):Prop:=da δ fun x=>asL x fun ds=>ds.all D.aY=true∧P (.lst ds.reverse)
def HN (xs:List D) (P:DK):Prop:=asI xs fun i=>P (.int (if i<0 then -i else i))
def EZ (xs:List D) (P:DK):Prop:=zR xs fun i j=>P (.int (if j>i then j else i))
def AB (xs:List D) (P:DK):Prop:=zR xs fun i j=>P (.int (if j<i then j else i))
theorem FC:mS K (fun xs H Q=>∃i j,xs=[.int i,.int j]∧Q (.int (if j<i then j else i)) H) AB:=⟨fun xs P P' k h=>by obtain ⟨i,j,rfl,z⟩:=wm h;exact k _ z,
 fun {H xs vs Q} r h=>by obtain ⟨i,j,rfl,z⟩:=wm h;exact⟨i,j,r.ints2,z _ H [] (aJ.refl H) ⟨rfl,rfl⟩ Nw.nil⟩⟩
def D.pX:D→Bool | .non=>true | .raw w=>decide (w=.non) | _=>false
theorem Rp.yu {H:Hp}{d:D}{v:V} (h:Rp K H d v):decide (v=.non)=d.pX:=by
 obtain ⟨fp,h⟩:=h
 cases d with
 | non=>obtain ⟨rfl,_⟩:=h;rfl
 | bl b=>obtain ⟨rfl,_⟩:=h;rfl
 | int b=>obtain ⟨rfl,_⟩:=h;rfl
 | str b=>obtain ⟨rfl,_⟩:=h;rfl
 | lst ds=>obtain ⟨a,xs,fq,rfl,_⟩:=h;rfl
 | tup ds=>obtain ⟨a,xs,rfl,_⟩:=h;rfl
 | dic ds=>obtain ⟨a,rfl,_⟩:=h;rfl
 | dit ds=>obtain ⟨a,rfl,_⟩:=h;rfl
 | scr ns=>obtain ⟨a,rfl,_⟩:=h;rfl
 | pin a d=>obtain ⟨rfl,_⟩:=h;rfl
 | mem φ=>obtain ⟨a,rfl,_⟩:=h;rfl
 | raw w=>obtain ⟨rfl,_⟩:=h;rfl
 | ins C ns ds=>obtain ⟨a,dx,xs,fq,rfl,_⟩:=h;rfl
def vz (neg:Bool) (x:D) (y:D) (P:DK):Prop:=match y with | .non=>P (.bl (if neg then !x.pX else x.pX)) | _=>False
theorem so {neg:Bool}:∀x y (P P':DK),(∀z,P z→P' z)→vz neg x y P→vz neg x y P':=fun x y P P' k h=>by
 unfold vz at h ⊢;revert h;split<;>first | exact k _ | exact id
theorem Er:OpV K (fun x y H Q=>y=.non∧Q (.bl (decide (x=.non))) H) (vz false):=⟨so,fun {H x y v w Q} r1 r2 h=>by
 unfold vz at h
 split at h
 ·refine⟨r2.choose_spec.1,?_⟩
  rw[r1.yu];exact h _ H [] (aJ.refl H) ⟨rfl,rfl⟩ Nw.nil
 ·exact h.elim⟩
theorem Ca:OpV K (fun x y H Q=>y=.non∧Q (.bl (!decide (x=.non))) H) (vz true):=⟨so,fun {H x y v w Q} r1 r2 h=>by
 unfold vz at h
 split at h
 ·refine⟨r2.choose_spec.1,?_⟩
  rw[r1.yu];exact h _ H [] (aJ.refl H) ⟨rfl,rfl⟩ Nw.nil
 ·exact h.elim⟩
def HI (da db:DE) (δ:Dl) (P:List D→Prop):Prop:=da δ fun x=>db δ fun y=>asL x fun xs=>asL y fun ys=>xs.length=ys.length∧P ((xs.zip ys).map fun p=>.tup [p.1,p.2])
theorem xu (ha:ES K Γ ta da) (hb:ES K Γ tb db):IT K Γ (Fo K (eZ ta (eZ tb lI))) (HI da db) :=
 ⟨fun δ P P' k h=>ha.mono _ _ _ (fun x z=>hb.mono _ _ _ (fun y z=>by
   obtain ⟨xs,e1,z⟩:=bP z;obtain ⟨ys,e2,z⟩:=bP z;exact gB e1 (gB e2 ⟨z.1,k _ z.2⟩)) z) h,
 fun {B0 fps δ σ H R} o h=>ha.run o (ha.mono _ _ _ (fun x z v H1 f1 s1 r1 n1=>hb.run (o.same s1) (hb.mono _ _ _ (fun y z w H2 f2 s2 r2 n2=>by
  obtain ⟨xs,ex,z⟩:=bP z
  obtain ⟨ys,ey,z⟩:=bP z
  have r1':=r1.same s2
  obtain ⟨a,as,fa,rfl,hsa,hra,hina⟩:=r1'.seq ex
  obtain ⟨b,bs,fb,rfl,hsb,hrb,hinb⟩:=r2.seq ey
  refine⟨a,b,rfl,⟨as,hsa⟩,⟨bs,hsb⟩,z.2 (Itz K a b) H2 (f1++f2) (s1.trans s2) (fun j hj c hc=>(List.mem_append.mp hc).elim (n1 j hj c) (n2 j hj c)) fun B sB ag im=>?_⟩
  have rBa:Rf K B x (.ref a) f1:=r1'.mono (fun c hc u e=>by rw[ag c (List.mem_append_left _ hc)];exact e) im
  have rBb:Rf K B y (.ref b) f2:=r2.mono (fun c hc u e=>by rw[ag c (List.mem_append_right _ hc)];exact e) im
  obtain ⟨a',as',fa',e1,hsa',hra',_⟩:=rBa.seq ex
  obtain ⟨b',bs',fb',e2,hsb',hrb',_⟩:=rBb.seq ey
  cases e1;cases e2
  have sq:∀{c:Addr}{zs:List V}{H3:Hp},SqL K B c zs→aJ B H3→SqL K H3 c zs:=fun h s3=>s3.seq h
  have la:=hra'.length
  have lb:=hrb'.length
  have hl:=z.1
  have hlen:((xs.zip ys).map fun p=>D.tup [p.1,p.2]).length=xs.length:=by simp [hl]
  refine⟨fun {i H3} s3 hi=>?_,fun {i H3 u H4 d} s3 hy hd=>?_,fun {i H3} s3 hi=>?_⟩
  ·rw[hlen] at hi
   exact⟨as',bs',as'[i]'(by omega),bs'[i]'(by omega),sq hsa' s3,sq hsb' s3,by simp [la,hi],by simp [lb,← hl,hi]⟩
  ·obtain ⟨p,u1,u2,rfl,hp,rfl,h1,h2⟩:=hy
   have q1:=h1 as' (sq hsa' s3)
   have q2:=h2 bs' (sq hsb' s3)
   obtain ⟨d1,g1,e1,t1,_⟩:=hra'.get' q1
   obtain ⟨d2,g2,e2,t2,_⟩:=hrb'.get' q2
   have ez:(xs.zip ys)[i]?=some (d1,d2):=List.getElem?_zip_eq_some.mpr ⟨e1,e2⟩
   rw[List.getElem?_map,ez] at hd
   cases hd
   have s4:aJ H3 (upd H3 p (.tup [u1,u2])):=aJ.lP hp
   refine⟨s4,g1++g2,⟨p,_,rfl,aK,u1,[u2],g1,g2,rfl,rfl,(t1.same s3).same s4,u2,[],g2,[],rfl,(List.append_nil _).symm,(t2.same s3).same s4,rfl,rfl⟩,fun c hc=>?_⟩
   rcases List.mem_append.mp hc with w | w
   ·obtain ⟨u,hu,_⟩:=t1.dom c w;rw[hu];intro z;cases z
   ·obtain ⟨u,hu,_⟩:=t2.dom c w;rw[hu];intro z;cases z
  ·rw[hlen] at hi
   exact⟨as',bs',sq hsa' s3,sq hsb' s3,.inl (by omega)⟩) z)) h)⟩
end
theorem bB {K:PySem.W.Frag}{S:DSp}{n:Nat} (hS:∀ds P,S ds P→ds.length=n) {vs:List V}{H:Hp}{Q:VK}{E:XK} (h:spP K S vs H Q E):vs.length=n:=by
 obtain ⟨ds,⟨fp,r⟩,h⟩:=h
 rw[r.length];exact hS _ _ h
theorem CA {dg:D→Dl→(Dl→Prop)→Prop}{db:DS}{E:bh} (I:Nat→Dl→Prop) {ds:List D}{δ:Dl} (h0:I 0 δ)
  (hs:∀i d δ (N:Dl→Prop),ds[i]?=some d→I i δ→(∀δ',I (i+1) δ'→N δ')→dg d δ fun δ'=>db { nx:=N,ct:=N,bk:=E.nx,rt:=E.rt } δ')
  (hd:∀δ,I ds.length δ→E.nx δ):lz dg db E ds δ:=by
 have key:∀(n:Nat) (i:Nat) (δ:Dl),ds.length - i=n→i≤ds.length→I i δ→lz dg db E (ds.drop i) δ:=by
  intro n
  induction n with
  | zero =>
   intro i δ h1 h2 hI
   have:i=ds.length:=by omega
   subst this
   rw[List.drop_length]
   exact hd δ hI
  | succ n ih =>
   intro i δ h1 h2 hI
   have hlt:i<ds.length:=by omega
   rw[List.drop_eq_getElem_cons hlt]
   exact hs i _ δ _ (List.getElem?_eq_getElem hlt) hI fun δ' h'=>ih (i+1) δ' (by omega) hlt h'
 have:=key ds.length 0 δ (by omega) (Nat.zero_le _) h0
 rwa [List.drop_zero] at this
end L3
namespace L3
open PySem L2
theorem Hf {K:PySem.W.Frag}{H:Hp}{a:Addr}{xs:List V} (hO:Dx H) (h:SqL K H a xs):Sc K H a xs:=by
 rcases h with (h | h) | h
 ·rcases hO a with z | ⟨o,ys,z⟩
  ·rw[z] at h;cases h
  ·rw[z] at h;cases h
 ·exact .inl h
 ·exact .inr h
end L3
namespace L3
open PySem
open L2 hiding D Rf Rfs Rp dI dT
section
variable {di:DI}{dg:D→Dl→(Dl→Prop)→Prop}{dt:DT}{de:DE}{k:Nat}{idx:List Nat}{δ:Dl}{P:DK}
theorem pA {α:Type}{as:List α}{f:α→D}{p:α→Bool}{g:α→D} (hdi:∀R:List D→Prop,R (as.map f)→di δ R) (hl:as.length≤1000)
  (hb:∀a∈as,∀R:List D→Prop,R (if p a then [g a] else [])→je dg dt de (fo k idx δ) (f a) R) (h:P (.lst ((as.filter p).map g))):mV di dg dt de k idx δ P:=by
 refine hdi _ ⟨by rw[List.length_map];exact hl,?_⟩
 have key:∀(as:List α) (acc:List D),(∀a∈as,∀R:List D→Prop,R (if p a then [g a] else [])→je dg dt de (fo k idx δ) (f a) R)→P (.lst (acc++(as.filter p).map g))→rN (je dg dt de (fo k idx δ)) (as.map f) acc fun ys=>P (.lst ys):=by
  intro as
  induction as with
  | nil=>intro acc _ h;rw[List.filter_nil,List.map_nil,List.append_nil] at h;exact h
  | cons a as ih =>
   intro acc hb h
   refine hb a List.mem_cons_self _ (ih _ (fun x hx=>hb x (List.mem_cons_of_mem _ hx)) ?_)
   by_cases hp:p a=true
   ·rw[if_pos hp,List.append_assoc];rwa [List.filter_cons_of_pos hp] at h
   ·rw[if_neg hp,List.append_nil];rwa [List.filter_cons_of_neg hp] at h
 exact key as [] hb h
theorem ie {α:Type}{as:List α}{f:α→D}{g:α→D} (hdi:∀R:List D→Prop,R (as.map f)→di δ R) (hl:as.length≤1000)
  (hb:∀a∈as,∀R:List D→Prop,R [g a]→je dg dt de (fo k idx δ) (f a) R) (h:P (.lst (as.map g))):mV di dg dt de k idx δ P:=by
 refine pA (p:=fun _=>true) hdi hl (fun a ha R h=>hb a ha R h) ?_
 rw[List.filter_eq_self.mpr (fun _ _=>rfl)]
 exact h
theorem sP {ns:List Int}{g:Int→D} (hdi:∀R:List D→Prop,R (ns.map D.int)→di δ R) (hl:ns.length≤1000)
  (hb:∀n∈ns,∀R:List D→Prop,R [g n]→je dg dt de (fo k idx δ) (.int n) R) (h:P (.lst (ns.map g))):mV di dg dt de k idx δ P:=ie hdi hl hb h
theorem ia {lo:Int}{n:Nat}{g:Nat→D} (hdi:∀R:List D→Prop,R (mr lo n)→di δ R) (hl:n≤1000)
  (hb:∀i,i<n→∀R:List D→Prop,R [g i]→je dg dt de (fo k idx δ) (.int (lo+(i:Int))) R) (h:P (.lst ((List.range n).map g))):mV di dg dt de k idx δ P :=
 ie (as:=List.range n) (f:=fun (k:Nat)=>D.int (lo+(k:Int))) hdi (by rw[List.length_range];exact hl) (fun a ha=>hb a (List.mem_range.mp ha)) h
theorem zT {lo:Int}{n:Nat}{p:Nat→Bool}{g:Nat→D} (hdi:∀R:List D→Prop,R (mr lo n)→di δ R) (hl:n≤1000)
  (hb:∀i,i<n→∀R:List D→Prop,R (if p i then [g i] else [])→je dg dt de (fo k idx δ) (.int (lo+(i:Int))) R) (h:P (.lst (((List.range n).filter p).map g))):mV di dg dt de k idx δ P :=
 pA (as:=List.range n) (f:=fun (k:Nat)=>D.int (lo+(k:Int))) hdi (by rw[List.length_range];exact hl) (fun a ha=>hb a (List.mem_range.mp ha)) h
theorem iC {t:List (List Int)}{g:List Int→D} (hdi:∀R:List D→Prop,R (t.map dI)→di δ R) (hl:t.length≤1000)
  (hb:∀r∈t,∀R:List D→Prop,R [g r]→je dg dt de (fo k idx δ) (dI r) R) (h:P (.lst (t.map g))):mV di dg dt de k idx δ P:=ie hdi hl hb h
variable {db:DS}{E:bh}
theorem jD {α:Type}{as:List α}{f:α→D} (I:Nat→Dl→Prop) (h0:I 0 δ)
  (hs:∀i a δ (N:Dl→Prop),as[i]?=some a→I i δ→(∀δ',I (i+1) δ'→N δ')→dg (f a) δ fun δ'=>db { nx:=N,ct:=N,bk:=E.nx,rt:=E.rt } δ')
  (hd:∀δ,I as.length δ→E.nx δ):lz dg db E (as.map f) δ:=by
 refine CA I h0 (fun i d δ N e hI hN=>?_) (fun δ hI=>hd δ (by rwa [List.length_map] at hI))
 rw[List.getElem?_map] at e
 cases q:as[i]? with
 | none=>rw[q] at e;cases e
 | some a=>rw[q] at e;cases e;exact hs i a δ N q hI hN
theorem dY {lo:Int}{n:Nat} (I:Nat→Dl→Prop) (h0:I 0 δ)
  (hs:∀i δ (N:Dl→Prop),i<n→I i δ→(∀δ',I (i+1) δ'→N δ')→dg (.int (lo+(i:Int))) δ fun δ'=>db { nx:=N,ct:=N,bk:=E.nx,rt:=E.rt } δ')
  (hd:∀δ,I n δ→E.nx δ):lz dg db E (mr lo n) δ:=by
 refine jD (as:=List.range n) (f:=fun (k:Nat)=>D.int (lo+(k:Int))) I h0 (fun i a δ N e hI hN=>?_) (fun δ hI=>hd δ (by rwa [List.length_range] at hI))
 obtain ⟨h1,h2⟩:=List.getElem?_eq_some_iff.mp e
 rw[List.getElem_range] at h2
 subst h2
 exact hs i δ N (by simpa using h1) hI hN
end
theorem HC {ns:List Int}{i:Int} (h0:0≤i) (h:i<ns.length):atI (ns.map D.int) i=some (.int (ns.getD i.toNat 0)):=by
 unfold atI ixN
 rw[if_pos h0,List.length_map,if_pos h]
 show (ns.map D.int)[i.toNat]?=_
 rw[List.getElem?_map,List.getD_eq_getElem?_getD]
 have:i.toNat<ns.length:=by omega
 rw[List.getElem?_eq_getElem this]
 rfl
theorem gk {ns:List Int}:(ns.map D.int).all D.aY=true:=by rw[List.all_map,List.all_eq_true];exact fun _ _=>rfl
theorem eR {n:Nat}{i:Int} (h0:0≤i) (h:i<n):ixN n i=some i.toNat:=by unfold ixN;rw[if_pos h0,if_pos h]
theorem nQ {ns:List Int}{j:Nat}{v:Int}:(ns.map D.int).set j (.int v)=(ns.set j v).map D.int:=(List.map_set ..).symm
theorem kM {ns:List Int}{v:Int}:ns.map D.int++[.int v]=(ns++[v]).map D.int:=by simp
theorem emod_lt {x n:Int} (h:0<n):0≤x % n∧x % n<n:=⟨Int.emod_nonneg x (by omega),Int.emod_lt_of_pos x h⟩
section
variable {P:DK}
def asO (o:Option D) (P:DK):Prop:=match o with | some d=>P d | none=>False
theorem pJ {d:D}:asO (some d) P↔P d:=Iff.rfl
theorem qm {o:Option D}{d:D} (h:o=some d):asO o P↔P d:=by rw[h];rfl
theorem AI {k:Bool}{Q:Bool→Prop}:asB (.bl k) Q↔Q k:=Iff.rfl
theorem yO {g:Int→Int→D}{i j:Int}:vI0 g (.int i) (.int j) P↔P (g i j):=Iff.rfl
theorem BA {C:Int→Int→Prop}{g:Int→Int→D}{i j:Int}:vI C g (.int i) (.int j) P↔C i j∧P (g i j):=Iff.rfl
theorem AN {g:Int→D}{i:Int}:vU g (.int i) P↔P (g i):=Iff.rfl
theorem yS {i:Int}{Q:Int→Prop}:asI [.int i] Q↔Q i:=Iff.rfl
theorem vi {i j:Int}{Q:Int→Int→Prop}:zR [.int i,.int j] Q↔Q i j:=Iff.rfl
theorem yg {ds:List D}{Q:List D→Prop}:asL (.lst ds) Q↔Q ds:=Iff.rfl
theorem y8 {ns:List Int}{Q:List D→Prop}:asL (.scr ns) Q↔Q (ns.map D.int):=Iff.rfl
theorem qQ {ds:List D}{i:Int}:qB (.lst ds) (.int i) P↔asO (atI ds i) P:=Iff.rfl
theorem vK {ns:List Int}{i:Int}:qB (.scr ns) (.int i) P↔asO (atI (ns.map D.int) i) P:=Iff.rfl
theorem vL {ds:List D}{i:Int}:tY (.tup ds) (.int i) P↔asO (atI ds i) P:=Iff.rfl
theorem vn {ds:List D}:zA [.tup ds] P↔P (.int ds.length):=Iff.rfl
theorem vP {neg:Bool}{x:D}:vz neg x .non P↔P (.bl (if neg then !x.pX else x.pX)):=Iff.rfl
theorem vQ {a b:List D}:Dy (.lst a) (.lst b) P↔(a.all D.aY=true∧b.all D.aY=true∧a.length+b.length≤1000)∧P (.lst (a++b)):=Iff.rfl
theorem vG {a:List D}{k:Int}:DG (.lst a) (.int k) P↔(a.all D.aY=true∧(-(2 ^ 63)≤k∧k<2 ^ 63)∧a.length*k.toNat≤1000)∧P (.lst (qZ a k.toNat)):=Iff.rfl
theorem se {ds:List D}:vD [.lst ds] P↔ds.all D.aY=true∧P (.lst ds):=Iff.rfl
theorem sE {ns:List Int}:vD [.scr ns] P↔P (dI ns):=by
 show ((ns.map D.int).all D.aY=true∧P _)↔_
 rw[gk];exact⟨fun h=>h.2,fun h=>⟨rfl,h⟩⟩
theorem tm {ns:List Int}:DU [dI ns] P↔P (.int ns.sum):=by
 show (match iu (ns.map D.int) with | some ns=>P (.int ns.sum) | none=>False)↔_
 rw[iS]
theorem jG {ns:List Int}{Q:List Int→Prop}:u6 (dI ns) Q↔Q ns:=by
 show (match iu (ns.map D.int) with | some ns=>Q ns | none=>False)↔_
 rw[iS]
theorem Cz {g:List D→Dl→(Dl→Prop)→Prop}{n:Nat}{ds:List D}{δ:Dl}{Q:Dl→Prop}:yG n g (.tup ds) δ Q↔ds.length=n∧g ds δ Q:=Iff.rfl
theorem va {g:D→Dl→(Dl→Prop)→Prop}{gs:List D→Dl→(Dl→Prop)→Prop}{x:D}{xs:List D}{δ:Dl}{Q:Dl→Prop}:Ce g gs (x::xs) δ Q↔g x δ fun δ'=>gs xs δ' Q:=Iff.rfl
theorem yi {δ:Dl}{Q:Dl→Prop}:Fi [] δ Q↔Q δ:=Iff.rfl
theorem jc {i:Nat}{δ:Dl}{ds:List D}{Q:List D→Prop} (h:δ[i]?=some (some (.lst ds))):fZ δ i Q↔Q ds:=by unfold fZ;rw[h]
theorem yk {i:Int}:(D.int i).tyn=some "int":=rfl
theorem CD {i:Bool}:(D.bl i).tyn=some "bool":=rfl
theorem yy {i:List D}:(D.lst i).tyn=some "list":=rfl
theorem yn {i:List D}:(D.tup i).tyn=some "tuple":=rfl
theorem zj {i:Str}:(D.str i).tyn=some "str":=rfl
theorem zg:D.non.tyn=some "NoneType":=rfl
theorem AW:isB "int" "int" = true:=rfl
theorem Bq:isB "int" "bool" = false:=rfl
theorem AL:isB "list" "list" = true:=rfl
theorem BY:isB "tuple" "tuple" = true:=rfl
theorem Ba:isB "str" "str" = true:=rfl
theorem CJ:isB "bool" "bool" = true:=rfl
theorem Cc:isB "bool" "int" = true:=rfl
theorem BM:isB "int" "list" = false:=rfl
theorem AD:isB "NoneType" "list" = false:=rfl
theorem divC {i j:Int} (h0:0<j) (h:j<2 ^ 1000):Fd i j:=⟨h0,1000,by
 have:((j.natAbs:Nat):Int)=j:=Int.natAbs_of_nonneg (by omega)
 have h':((j.natAbs:Nat):Int)<((2 ^ 1000:Nat):Int):=by rw[this];simpa using h
 exact Int.ofNat_lt.mp h',by decide⟩
end
end L3
namespace L2
open PySem PySem.Spec PyProof.Rows
section
variable {X:Cx}{K:PySem.W.Frag}
theorem nc (hK:X.K=K) (hc:X.calm=true):iK X (.builtin "min") (fun xs H Q=>∃(a:Addr) (ns:List Int),xs=[.ref a]∧SqL K H a (ns.map V.int)∧0<ns.length∧∀M,M∈ns→(∀x∈ns,M≤x)→Q (.int M) H):=by
 subst hK
 intro pins s σ H xs us Q I r h
 obtain ⟨a,ns,rfl,hS,hne,q⟩:=h
 obtain ⟨u,rfl,ru⟩:=vals1 r
 obtain rfl:u=Value.ref a:=ru
 obtain ⟨its,rv,pl,hz⟩:=I.list hS
 have hi:=mB rv
 obtain ⟨xs',e⟩:=hi.allInts.items
 have hl:s.heap.IsList a (intItems xs'):=by rw[← e];exact pl.isList
 have hns:ns=xs'.toList.map (·.1):=by rw[← hi.numsOf,← nums_intItems,← e]
 have hsz:0<xs'.size:=by
  have h3:=hne;rw[hns,List.length_map,Array.length_toList] at h3;exact h3
 refine min_intList (I.ok.hd hc) hl hsz fun v h' tk hv hk=>?_
 obtain ⟨t,rfl⟩:=intItems_at hv
 obtain ⟨h1,h2⟩:=argBest_lt (numAt xs') (xs'.size - 1)
 refine⟨.int _,H,I.kept hk,⟨t,rfl⟩,q _ ?_ fun b hb=>?_⟩
 ·rw[hns,numAt_eq];exact getD_mem (by rw[List.length_map,Array.length_toList];omega)
 ·rw[hns] at hb
  obtain ⟨j,hj,rfl⟩:=mem_getD hb
  rw[List.length_map,Array.length_toList] at hj
  rw[← numAt_eq];exact h2 j (by omega)
theorem zv (hK:X.K=K) (hc:X.calm=true):iK X (.builtin "max") (fun xs H Q=>∃(a:Addr) (ns:List Int),xs=[.ref a]∧SqL K H a (ns.map V.int)∧0<ns.length∧∀M,M∈ns→(∀x∈ns,x≤M)→Q (.int M) H):=by
 subst hK
 intro pins s σ H xs us Q I r h
 obtain ⟨a,ns,rfl,hS,hne,q⟩:=h
 obtain ⟨u,rfl,ru⟩:=vals1 r
 obtain rfl:u=Value.ref a:=ru
 obtain ⟨its,rv,pl,hz⟩:=I.list hS
 have hi:=mB rv
 obtain ⟨xs',e⟩:=hi.allInts.items
 have hl:s.heap.IsList a (intItems xs'):=by rw[← e];exact pl.isList
 have hns:ns=xs'.toList.map (·.1):=by rw[← hi.numsOf,← nums_intItems,← e]
 have hsz:0<xs'.size:=by
  have h3:=hne;rw[hns,List.length_map,Array.length_toList] at h3;exact h3
 refine max_intList (I.ok.hd hc) hl hsz fun v h' tk hv hk=>?_
 obtain ⟨t,rfl⟩:=intItems_at hv
 obtain ⟨h1,h2⟩:=argBest_gt (numAt xs') (xs'.size - 1)
 refine⟨.int _,H,I.kept hk,⟨t,rfl⟩,q _ ?_ fun b hb=>?_⟩
 ·rw[hns,numAt_eq];exact getD_mem (by rw[List.length_map,Array.length_toList];omega)
 ·rw[hns] at hb
  obtain ⟨j,hj,rfl⟩:=mem_getD hb
  rw[List.length_map,Array.length_toList] at hj
  rw[← numAt_eq];exact h2 j (by omega)
theorem tf:∀{bs:List Bool}{its:List Value},Vals (bs.map V.bl) its→LSm.BoolsAre its bs
 | [],_,.nil=>.nil
 | b::bs,_,.cons r t=>by
  cases (show _=Value.bool b from r)
  exact .cons b (tf t)
theorem zG (hK:X.K=K) (hc:X.calm=true):iK X (.builtin "any") (fun xs H Q=>∃(a:Addr) (bs:List Bool),xs=[.ref a]∧SqL K H a (bs.map V.bl)∧Q (.bl (bs.any id)) H):=by
 subst hK
 intro pins s σ H xs us Q I r h
 obtain ⟨l,bs,rfl,hS,q⟩:=h
 obtain ⟨u,rfl,ru⟩:=vals1 r
 obtain rfl:u=Value.ref l:=ru
 obtain ⟨vs,rv,pl,hz⟩:=I.list hS
 have hb:=tf rv
 have hl:=pl.isList
 have hlt:l<s.heap.objs.size:=by obtain ⟨_,e,_⟩:=hl;exact Heap.lt_size e
 refine PySem.call_any_walk (wpAny_pyIter_list hl ?_)
 refine⟨s.heap.objs.size,[s.heap.objs.size,l],[s.heap.objs.size],vs.toArray.size,_,_,fun i=>(bs[i]?).getD false,rfl,Walks.list (A:=X.A.in1) (I.ok.hd hc) _ l (Nat.ne_of_lt hlt) vs.toArray,
  ⟨⟨_,Heap.get?_push_size _ rfl,rfl,rfl⟩,hl.push _⟩,fun i v s' Q' E' hP hQ=>?_,fun h' tk hk=>?_⟩
 ·obtain ⟨b,e,rfl⟩:=hb.get i v (by simpa using hP)
  simp only[e,Option.getD_some] at hQ
  exact wpAny_truthy_bool hQ
 ·have e:((List.range vs.toArray.size).any fun i=>(bs[i]?).getD false)=bs.any id:=by
   rw[List.size_toArray,hb.length];exact LSm.range_any bs
  rw[e]
  exact⟨.bl _,H,I.kept (LSm.kept_iter hk),rfl,q⟩
end
end L2
namespace L2
open PySem PySem.Spec PyProof.Rows
section
variable {X:Cx}{K:PySem.W.Frag}
end
end L2
namespace L2
open PySem PySem.Spec PyProof.Rows
section
variable {X:Cx}
end
end L2
namespace L3
open PySem
open L2 hiding D Rf Rfs Rp dI dT
section
variable {K:PySem.W.Frag}{ρ:Bool}{Γr Γl Γ Γ1 Γ2 Γn M:List Nat}{t u:TS}{te ta tb tx t1 t2:TE}{de da db dx d1 d2:DE}{d e:DS}
variable {B0:Hp}{fps:Nat→List Addr}{δ:Dl}{σ:St}{H H':Hp}
def ye (xs:List D) (P:DK):Prop:=match xs with | [x]=>u6 x fun ns=>0<ns.length∧∀M,M∈ns→(∀x∈ns,M≤x)→P (.int M) | _=>False
def za (xs:List D) (P:DK):Prop:=match xs with | [x]=>u6 x fun ns=>0<ns.length∧∀M,M∈ns→(∀x∈ns,x≤M)→P (.int M) | _=>False
theorem wU:mS K (fun xs H Q=>∃(a:Addr) (ns:List Int),xs=[.ref a]∧SqL K H a (ns.map V.int)∧0<ns.length∧∀M,M∈ns→(∀x∈ns,M≤x)→Q (.int M) H) ye:=⟨fun xs P P' k h=>by
  unfold ye at h ⊢
  revert h
  split
  ·exact fun h=>by obtain ⟨ns,e,z⟩:=jC h;exact uL e ⟨z.1,fun M a b=>k _ (z.2 M a b)⟩
  ·exact id,
 fun {H xs vs Q} r h=>by
  unfold ye at h
  split at h
  ·obtain ⟨v,rfl,r0⟩:=r.one
   obtain ⟨ns,e,h⟩:=jC h
   obtain ⟨a,ys,fq,rfl,hs,hr⟩:=r0.seq e
   rw[hr.BC] at hs
   exact⟨a,ns,rfl,hs,h.1,fun M h1 h2=>h.2 M h1 h2 _ H [] (aJ.refl H) ⟨rfl,rfl⟩ Nw.nil⟩
  ·exact h.elim⟩
theorem FQ:mS K (fun xs H Q=>∃(a:Addr) (ns:List Int),xs=[.ref a]∧SqL K H a (ns.map V.int)∧0<ns.length∧∀M,M∈ns→(∀x∈ns,x≤M)→Q (.int M) H) za:=⟨fun xs P P' k h=>by
  unfold za at h ⊢
  revert h
  split
  ·exact fun h=>by obtain ⟨ns,e,z⟩:=jC h;exact uL e ⟨z.1,fun M a b=>k _ (z.2 M a b)⟩
  ·exact id,
 fun {H xs vs Q} r h=>by
  unfold za at h
  split at h
  ·obtain ⟨v,rfl,r0⟩:=r.one
   obtain ⟨ns,e,h⟩:=jC h
   obtain ⟨a,ys,fq,rfl,hs,hr⟩:=r0.seq e
   rw[hr.BC] at hs
   exact⟨a,ns,rfl,hs,h.1,fun M h1 h2=>h.2 M h1 h2 _ H [] (aJ.refl H) ⟨rfl,rfl⟩ Nw.nil⟩
  ·exact h.elim⟩
def gX:List D→Option (List Bool)
 | []=>some []
 | .bl i::ds=>(gX ds).map (i::·)
 | _=>none
theorem jg:∀{ns:List Bool},gX (ns.map D.bl)=some ns
 | []=>rfl
 | n::ns=>by rw[List.map_cons,gX,jg];rfl
theorem pF:∀{ds:List D}{ns:List Bool},gX ds=some ns→ds=ns.map D.bl
 | [],ns,h=>by cases h;rfl
 | .bl i::ds,ns,h=>by
  rw[gX] at h
  cases e:gX ds with
  | none=>rw[e] at h;cases h
  | some ms=>rw[e] at h;cases h;rw[pF e];rfl
 | .non::_,_,h=>by cases h
 | .int _::_,_,h=>by cases h
 | .str _::_,_,h=>by cases h
 | .lst _::_,_,h=>by cases h
 | .tup _::_,_,h=>by cases h
 | .dic _::_,_,h=>by cases h
 | .dit _::_,_,h=>by cases h
 | .scr _::_,_,h=>by cases h
def DV (x:D) (P:List Bool→Prop):Prop:=asL x fun ds=>match gX ds with | some ns=>P ns | none=>False
theorem wF {x:D}{P:List Bool→Prop} (h:DV x P):∃ns,x.items=some (ns.map D.bl)∧P ns:=by
 obtain ⟨ds,e,h⟩:=bP h
 cases q:gX ds with
 | none=>rw[q] at h;exact h.elim
 | some ns=>rw[q] at h;rw[pF q] at e;exact⟨ns,e,h⟩
theorem CZ {x:D}{ns:List Bool}{P:List Bool→Prop} (e:x.items=some (ns.map D.bl)) (h:P ns):DV x P:=by
 refine gB e ?_
 rw[jg];exact h
theorem Rfs.Gz {ns:List Bool}{vs:List V}{fp:List Addr} (h:Rfs K H (ns.map D.bl) vs fp):vs=ns.map V.bl:=by
 have hs:(ns.map D.bl).all D.aY=true:=by rw[List.all_map,List.all_eq_true];exact fun _ _=>rfl
 rw[(h.i7 hs).1,List.map_map]
 rfl
def Ie (xs:List D) (P:DK):Prop:=match xs with | [x]=>DV x fun ns=>P (.bl (ns.all id)) | _=>False
def C5 (xs:List D) (P:DK):Prop:=match xs with | [x]=>DV x fun ns=>P (.bl (ns.any id)) | _=>False
theorem GZ:mS K (fun xs H Q=>∃(a:Addr) (bs:List Bool),xs=[.ref a]∧SqL K H a (bs.map V.bl)∧Q (.bl (bs.any id)) H) C5:=⟨fun xs P P' k h=>by
  unfold C5 at h ⊢
  revert h
  split
  ·exact fun h=>by obtain ⟨ns,e,z⟩:=wF h;exact CZ e (k _ z)
  ·exact id,
 fun {H xs vs Q} r h=>by
  unfold C5 at h
  split at h
  ·obtain ⟨v,rfl,r0⟩:=r.one
   obtain ⟨ns,e,h⟩:=wF h
   obtain ⟨a,ys,fq,rfl,hs,hr⟩:=r0.seq e
   rw[hr.Gz] at hs
   exact⟨a,ns,rfl,hs,h _ H [] (aJ.refl H) ⟨rfl,rfl⟩ Nw.nil⟩
  ·exact h.elim⟩
theorem pB {ns:List Bool}{P:DK}:Ie [.lst (ns.map D.bl)] P↔P (.bl (ns.all id)):=by
 show (match gX (ns.map D.bl) with | some ns=>P (.bl (ns.all id)) | none=>False)↔_
 rw[jg]
theorem pQ {ns:List Bool}{P:DK}:C5 [.lst (ns.map D.bl)] P↔P (.bl (ns.any id)):=by
 show (match gX (ns.map D.bl) with | some ns=>P (.bl (ns.any id)) | none=>False)↔_
 rw[jg]
theorem lB {ns:List Int}{P:DK}:ye [dI ns] P↔0<ns.length∧∀M,M∈ns→(∀x∈ns,M≤x)→P (.int M):=jG
theorem pU {ns:List Int}{P:DK}:za [dI ns] P↔0<ns.length∧∀M,M∈ns→(∀x∈ns,x≤M)→P (.int M):=jG
def Io (n:Nat):List Int:=(List.range n).map fun (k:Nat)=>(k:Int)
def vF (de:DE) (δ:Dl) (P:DK):Prop:=de δ fun x=>asI [x] fun j=>(j≤100000∧-(2 ^ 62)≤j)∧P (dI (Io j.toNat))
theorem Ok.dead (o:Ok K B0 Γ fps δ σ H) (j:Nat) (v:V) (hj:j∉Γ):Ok K B0 Γ (fun i=>if i=j then [] else fps i) (δ.set j none) (σ.set j (some v)) H:=by
 refine⟨by simp [o.len],o.b0,fun i d e=>?_,fun i h=>?_,fun i hi=>?_,fun i hi k hk a ha=>?_⟩
 ·by_cases h:i=j
  ·subst h
   rw[List.getElem?_set] at e
   by_cases hl:i<δ.length
   ·simp [hl] at e
   ·simp [hl] at e
  ·rw[List.getElem?_set_ne (Ne.symm h)] at e
   rw[List.getElem?_set_ne (Ne.symm h),if_neg h]
   exact o.val i d e
 ·by_cases h':i=j
  ·rw[if_pos h']
  ·rw[if_neg h'];exact o.non i fun d z=>h d (by rw[List.getElem?_set_ne (Ne.symm h')];exact z)
 ·have h:i≠j:=fun z=>hj (by rw[← z];exact hi)
  rw[if_neg h];exact o.own i hi
 ·have h:i≠j:=fun z=>hj (by rw[← z];exact hi)
  rw[if_neg h] at ha
  split
  ·exact List.not_mem_nil
  ·exact o.dj i hi k hk a ha
theorem Ef {o:Option D}{P:DK} (h:asO o P):∃d,o=some d∧P d:=by
 unfold asO at h;split at h
 ·exact⟨_,rfl,h⟩
 ·exact h.elim
theorem BU {i j:Nat}{k:EOk K ρ Γr Γl Γn B0 Dn' E'}{Dn:Ends}{R:TS} (h1:ER K Γ t1 d1) (hi:i∈Γ) (hj:j∉Γ) (hij:i≠j) (o:Ok K B0 Γ fps δ σ H)
  (h:fZ δ i fun ds=>d1 δ fun k=>asI [k] fun m=>(0≤m∧j<δ.length)∧oj (ds[m.toNat]?) fun es=>∀(a0 b:Addr) xs σ' H' fps',Ok K B0 Γ fps' (δ.set j none) σ' H'→(δ.set j none)[i]?=some (some (.lst ds))→ds[m.toNat]?=some (.lst es)→σ'[i]?=some (some (.ref a0))→H' a0=some (.lst xs)→xs[m.toNat]?=some (.ref b)→σ'[j]?=some (some (.ref b))→R Dn σ' H') :
  jX (tOp (wZ K) (eU i) t1) (gH j) { Dn with nx:=R Dn } σ H:=by
 obtain ⟨ds,e,h⟩:=gj h
 obtain ⟨a0,xs0,fq0,g1,_⟩:=o.wk e
 refine⟨.ref a0,g1,h1.run o (h1.mono _ _ _ (fun y z w H2 s2 r2=>?_) h)⟩
 obtain ⟨m,em,z1⟩:=cW z
 subst em
 obtain ⟨⟨hm0,hjl⟩,z1⟩:=z1
 obtain ⟨es,ej,z2⟩:=kJ z1
 have o2:=o.same s2
 have hlt:=(List.getElem?_eq_some_iff.mp ej).1
 obtain ⟨a,xs,b,ys,fe,e1,e2,e3,e4,e5,e6,e7,e8,e9,e10,_⟩:=pj (es':=[]) o2 hi e ej
 rw[g1] at e1;cases e1
 refine⟨a0,xs,m,.ref b,rfl,r2.int,.inl (.inl e2),by unfold atI;rw[eR hm0 (by rw[e3];omega)];exact e4,?_⟩
 exact z2 a0 b xs _ _ _ (o2.dead j (.ref b) hj) (by rw[List.getElem?_set_ne (Ne.symm hij)];exact e) ej (by rw[List.getElem?_set_ne (Ne.symm hij)];exact g1) e2 e4 (by rw[List.getElem?_set];simp [o.len,hjl])
theorem Ao {i:Nat}{ds:List D}{Q:List D→Prop} (e:δ[i]?=some (some (.lst ds))) (h:Q ds):fZ δ i Q:=(jc e).mpr h
theorem mh {o:Option D}{es:List D}{Q:List D→Prop} (e:o=some (.lst es)) (h:Q es):oj o Q:=by rw[e];exact h
theorem Rfs.take:∀{ds:List D}{xs:List V}{fq:List Addr} (n:Nat),Rfs K H ds xs fq→∃fq',Rfs K H (ds.take n) (xs.take n) fq'
 | ds,xs,fq,0,h=>⟨[],rfl,rfl⟩
 | [],xs,fq,n+1,h=>by obtain ⟨rfl,rfl⟩:=h;exact⟨[],rfl,rfl⟩
 | d::ds,xs,fq,n+1,h=>by
  obtain ⟨x,r,f1,f2,rfl,rfl,h1,h2⟩:=h
  obtain ⟨fq',h3⟩:=Rfs.take n h2
  exact⟨f1++fq',x,r.take n,f1,fq',rfl,rfl,h1,h3⟩
def HH (de:DE) (dl dh:DO) (δ:Dl) (P:DK):Prop:=de δ fun x=>dl δ fun l=>dh δ fun u=>asL x fun ds=>P (.lst (cutD ds l u))
def G3 (x y:D) (P:DK):Prop:=match x,y with | .lst a,.lst b=>a.length+b.length≤1000∧P (.lst (a++b)) | _,_=>False
theorem sQ {a b:List D}{P:DK}:G3 (.lst a) (.lst b) P↔a.length+b.length≤1000∧P (.lst (a++b)):=Iff.rfl
def G2 (x y:D) (P:DK):Prop:=match x,y with | .lst a,.int k=>((-(2 ^ 63)≤k∧k<2 ^ 63)∧a.length*k.toNat≤1000)∧P (.lst (qZ a k.toNat)) | _,_=>False
theorem tw {a:List D}{k:Int}{P:DK}:G2 (.lst a) (.int k) P↔((-(2 ^ 63)≤k∧k<2 ^ 63)∧a.length*k.toNat≤1000)∧P (.lst (qZ a k.toNat)):=Iff.rfl
def GV (xs:List D) (P:DK):Prop:=match xs with | [x]=>asL x fun ds=>P (.lst ds) | _=>False
theorem qf {ds:List D}{P:DK}:GV [.lst ds] P↔P (.lst ds):=Iff.rfl
def Ew (da:DE) (δ:Dl) (P:DK):Prop:=da δ fun x=>asL x fun ds=>P (.lst ds.reverse)
def x6 (i k:Nat) (dn:DE) (E:bh) (δ:Dl):Prop:=fZ δ i fun ds=>fZ δ k fun es=>dn δ fun x=>asI [x] fun n=>(ds.length<1000∧es.all D.aY=true∧0≤n∧n<2 ^ 63)∧asO (es[n.toNat]?) fun y=>E.nx ((δ.set k (some (.lst (es.eraseIdx n.toNat)))).set i (some (.lst (ds++[y]))))
theorem yK {neg:Bool}{i j:Bool}{P:DK}:qT neg (.bl i) (.bl j) P↔P (.bl (if neg then !decide (i=j) else decide (i=j))):=by
 unfold qT
 simp only[D.aY,D.toV,aY,true_and,V.bl.injEq]
theorem vY {neg:Bool}{i j:Str}{P:DK}:qT neg (.str i) (.str j) P↔P (.bl (if neg then !decide (i=j) else decide (i=j))):=by
 unfold qT
 simp only[D.aY,D.toV,aY,true_and,V.str.injEq]
end
end L3
namespace L3
open PySem
open L2 hiding D Rf Rfs Rp dI dT
def bF (n m:Nat) (t:List (List Int)):Prop:=t.length=n∧∀r∈t,r.length=m
abbrev rowAt (t:List (List Int)) (i:Nat):List Int:=t.getD i []
abbrev cellAt (t:List (List Int)) (i j:Nat):Int:=(t.getD i []).getD j 0
abbrev setCell (t:List (List Int)) (i j:Nat) (v:Int):List (List Int):=t.set i ((t.getD i []).set j v)
theorem tu {t:List (List Int)}{i:Nat} (h:i<t.length):rowAt t i∈t:=by
 unfold rowAt
 rw[List.getD_eq_getElem?_getD,List.getElem?_eq_getElem h]
 exact List.getElem_mem h
theorem bF.row {n m:Nat}{t:List (List Int)} (h:bF n m t) {i:Nat} (hi:i<n):(rowAt t i).length=m:=h.2 _ (tu (by rw[h.1];exact hi))
theorem bF.set {n m:Nat}{t:List (List Int)} (h:bF n m t) {i:Nat}{r:List Int} (hr:r.length=m):bF n m (t.set i r):=by
 refine⟨by rw[List.length_set];exact h.1,fun x hx=>?_⟩
 rcases List.mem_or_eq_of_mem_set hx with z | z
 ·exact h.2 x z
 ·rw[z];exact hr
theorem bF.setCell {n m:Nat}{t:List (List Int)} (h:bF n m t) {i j:Nat}{v:Int} (hi:i<n):bF n m (setCell t i j v):=h.set (by rw[List.length_set];exact h.row hi)
theorem Aq {t:List (List Int)}{i:Nat} (h:i<t.length):(t.map dI)[i]?=some (dI (rowAt t i)):=by
 unfold rowAt
 rw[List.getElem?_map,List.getD_eq_getElem?_getD,List.getElem?_eq_getElem h]
 rfl
theorem G5 {t:List (List Int)}{i:Int} (h0:0≤i) (h:i<t.length):atI (t.map dI) i=some (dI (rowAt t i.toNat)):=by
 unfold atI
 rw[eR h0 (by rw[List.length_map];exact h)]
 exact Aq (by omega)
theorem GS {t:List (List Int)}{i:Nat}{r:List Int}:(t.map dI).set i (dI r)=(t.set i r).map dI:=(List.map_set ..).symm
section
variable {i j:Nat}{δ:Dl}{de d1 d2 dx:DE}{E:bh}{t:List (List Int)}{r:List Int}{a b v:Int}
theorem jO (hs:δ[i]?=some (some (dI r))) (hde:∀R:DK,R (.int v)→de δ R) (hdx:∀R:DK,R (.int a)→dx δ R) (ha:0≤a∧a<r.length) (h:E.nx (δ.set i (some (dI (r.set a.toNat v))))):kq i de dx E δ:=by
 unfold kq
 refine hde _ ((jc hs).mpr (hdx _ ?_))
 show match ixN (r.map D.int).length a with | some j=>E.nx (δ.set i (some (.lst ((r.map D.int).set j (.int v))))) | none=>False
 rw[eR ha.1 (by rw[List.length_map];exact ha.2)]
 show E.nx (δ.set i (some (.lst ((r.map D.int).set a.toNat (.int v)))))
 rw[nQ];exact h
end
theorem aL {r:List Int}{a:Int}{P:DK} (ha:0≤a∧a<r.length) (h:P (.int (r.getD a.toNat 0))):asO (atI (r.map D.int) a) P:=(qm (HC ha.1 ha.2)).mpr h
theorem dZ {t:List (List Int)}{a:Int}{P:DK} (ha:0≤a∧a<t.length) (h:P (dI (rowAt t a.toNat))):asO (atI (t.map dI) a) P:=(qm (G5 ha.1 ha.2)).mpr h
theorem CT {n:Nat}{x:Int}:qZ [D.int x] n=(List.replicate n x).map D.int:=by
 unfold qZ
 induction n with
 | zero=>rfl
 | succ n ih=>rw[List.replicate_succ,List.flatten_cons,ih,List.replicate_succ];rfl
theorem AZ {α:Type}{as:List α}{f:α→List Int}:as.map (fun a=>dI (f a))=(as.map f).map dI:=by rw[List.map_map];rfl
theorem iy {α:Type}{as:List α}{f:α→Int}:as.map (fun a=>D.int (f a))=(as.map f).map D.int:=by rw[List.map_map];rfl
theorem aT {K:PySem.W.Frag}{Γ:List Nat}{ta:TE}{da:DE}{tr:TA}{dr:DA} (ha:EM K Γ [] ta da) (hr:AM K Γ [] tr dr):AM K Γ [] (eZ ta tr) (nV da dr):=eB ha hr (fun _ h=>(nomatch h)) (fun _ h=>(nomatch h))
theorem ny {di:DI}{dg:D→Dl→(Dl→Prop)→Prop}{dt:DT}{de:DE}{k:Nat}{idx:List Nat}{δ:Dl}{P:DK}{t:List (List Int)} (hdi:∀R:List D→Prop,R (t.map dI)→di δ R) (hl:t.length≤1000)
  (hb:∀r∈t,∀R:List D→Prop,R [dI r]→je dg dt de (fo k idx δ) (dI r) R) (h:P (dT t)):mV di dg dt de k idx δ P:=iC (g:=dI) hdi hl hb h
def n6 (t:List (List Int)) (j:Nat):List Int:=t.map fun r=>r.getD j 0
end L3
namespace L3
open PySem
open L2 hiding D Rf Rfs Rp dI dT
def Fj (ns:List Int) (δ:Dl) (P:List D→Prop):Prop:=P (ns.map D.int)
end L3
namespace L3
open PySem
open L2 hiding D Rf Rfs Rp dI dT
theorem A6 {a:D}{ds:List D}:atI (a::ds) 0=some a:=by
 unfold atI;rw[eR (by omega) (by rw[List.length_cons];omega)];rfl
theorem A4 {a b:D}{ds:List D}:atI (a::b::ds) 1=some b:=by
 unfold atI;rw[eR (by omega) (by rw[List.length_cons,List.length_cons];omega)];rfl
theorem B2 {a b c:D}{ds:List D}:atI (a::b::c::ds) 2=some c:=by
 unfold atI;rw[eR (by omega) (by rw[List.length_cons,List.length_cons,List.length_cons];omega)];rfl
theorem Br {a b c d:D}{ds:List D}:atI (a::b::c::d::ds) 3=some d:=by
 unfold atI;rw[eR (by omega) (by rw[List.length_cons,List.length_cons,List.length_cons,List.length_cons];omega)];rfl
end L3
namespace L2
open PySem PySem.Spec PyProof.Rows
section
variable {prog:Program}{w:World}{A:Around}{E:Value→Shared→Prop}{s:Shared}
theorem sk {it t:Addr}{items:Array Value} (hne:t≠it):∀(n i:Nat) (s:Shared) (Q:List Value→Shared→Prop),s.heap.IsListIter it t i→s.heap.IsList t items→i+n≤items.size →
  (∀h',h'.IsListIter it t (i+n)→Heap.SameBut it s.heap h'→Q ((items.toList.drop i).take n) { s with heap:=h' })→wpAny (model prog w) A (draw (.ref it) n) Q E s
 | 0,i,s,Q,hit,_,_,hQ=>by
  show wpAny _ _ (pure []) Q E s
  exact wpAny_pure (by simpa using hQ s.heap hit (Heap.SameBut.refl ..))
 | n+1,i,s,Q,hit,ht,hle,hQ=>by
  have hlt:i<items.size:=by omega
  show wpAny _ _ (pyNext (.ref it) >>= _) Q E s
  refine wpAny_bind (wpAny_pyNext_list_item hit ht (x:=items[i]) (by simp [hlt]) fun h₁ hit₁ hs₁=>?_)
  have ht₁:h₁.IsList t items:=ht.at fun o e=>(hs₁.2 t hne).trans e
  refine wpAny_bind (wpAny_holding (sk hne n (i+1) _ _ hit₁ ht₁ (by omega) fun h₂ hit₂ hs₂=>wpAny_pure ?_))
  have hd:items.toList.drop i=items[i]::items.toList.drop (i+1):=by simp [List.drop_eq_getElem_cons,hlt]
  have:=hQ h₂ (by rw[show i+(n+1)=i+1+n by omega];exact hit₂) (hs₁.trans hs₂)
  rw[hd,List.take_succ_cons] at this
  exact this
theorem nP {t:Addr}{items:Array Value}{Q:List Value→Shared→Prop} (hh:A.handled=none) (ht:s.heap.IsList t items)
  (hQ:∀h',Heap.ExtBut s.heap.objs.size s.heap h'→Q items.toList { s with heap:=h' }):wpAny (model prog w) A (unpackItems (.ref t) items.size none) Q E s:=by
 have hlt:t≠s.heap.objs.size:=by obtain ⟨o,ho,_⟩:=ht;exact Nat.ne_of_lt (Heap.lt_size ho)
 unfold unpackItems
 refine wpAny_bind ?_
 ·unfold notIterableAtAll
  refine wpAny_bind (wpAny_specialOf ht.typeIs PySem.F.slot_list_iter.lookup ?_)
  refine wpAny_pure ?_
  simp only[Bool.false_eq_true,if_false]
  refine wpAny_bind (wpAny_holding (wpAny_pyIter_list ht ?_))
  refine wpAny_bind (wpAny_holding (sk hlt items.size 0 _ _ ⟨_,Heap.get?_push_size _ rfl,rfl,rfl⟩ (ht.push _) (by omega) fun h₁ hit₁ hs₁=>?_))
  have hall:List.take items.size (List.drop 0 items.toList)=items.toList:=by
   rw[List.drop_zero];exact List.take_of_length_le (by simp)
  rw[hall]
  rw[if_neg (by simp)]
  have ht₁:h₁.IsList t items:=(ht.push _).at fun o e=>(hs₁.2 t hlt).trans e
  refine wpAny_bind (wpAny_holding (wpAny_pyNext_list_end hh hit₁ ht₁ (by simp) fun h₂ he₂=>?_))
  simp only[Option.isSome_none,Bool.false_eq_true,if_false]
  refine wpAny_pure (hQ h₂ fun b o hb e=>he₂ b o hb ((hs₁.2 b hb).trans (Heap.get?_push_of_some _ e)))
theorem mM {env:Env}{elts:List Expr}{x1}{pos:Pos}{t:Addr}{items:Array Value}{Q:Unit→Shared→Prop} (hh:A.handled=none) (ht:s.heap.IsList t items)
  (hn:(assignEach elts env).length=items.size) (hstar:(assignEach elts env).findIdx? (·.1)=none)
  (h:∀h',Heap.ExtBut s.heap.objs.size s.heap h'→wpAny (model prog w) A (assignInOrder ((assignEach elts env).map (·.2)) items.toList) Q E { s with heap:=h' }) :
  wpAny (model prog w) A (assign (.Tuple elts x1 pos) env (.ref t)) Q E s:=by
 rw[assign_Tuple]
 refine wpAny_bind (wpAny_standAt ?_)
 unfold unpack
 rw[hn,hstar]
 exact wpAny_bind (wpAny_holding (nP hh ht h))
end
section
variable {X:Cx}{K:PySem.W.Frag}
def Fq (K:PySem.W.Frag) (n:Nat) (t:TGs):TG:=fun v σ H Q=>∃a xs,v=.ref a∧SqL K H a xs∧xs.length=n∧t xs σ H Q
theorem tX {es:List Expr}{k:Nat}{t:TGs}{n:Nat}{pos:Pos} (hK:X.K=K) (hc:X.calm=true) (h:PGs X es t)
  (hn:(assignEach es X.env).length=n:=by rfl) (hst:(assignEach es X.env).findIdx? (·.1)=none:=by rfl):PG X (.Tuple es k pos) (Fq K n t):=by
 subst hK
 intro pins s σ H v u Q I r hw
 obtain ⟨a,xs,e1,hq,hl,hw⟩:=hw
 subst e1
 cases r
 obtain ⟨its,rv,ht,hz⟩:=I.list hq
 refine mM (I.ok.hd hc) ht.isList (by simp [hn,← hl,rv.length]) hst fun h' hx=>?_
 have I1:Inv X pins σ H { s with heap:=h' }:=I.kept (t':=s.toks) fun b o e=>hx b o (Nat.ne_of_lt (Heap.lt_size e)) e
 exact h pins _ σ H xs _ Q I1 (by simpa using rv) hw
def iH (k:Nat) (g:TGs):Prop:=∀x σ H Q,g x σ H Q→g x σ H fun σ2 H2=>Q σ2 H2∧σ2.length=σ.length∧∀j,k≤j→σ2[j]?=σ[j]?
theorem iH.nil {k:Nat}:iH k De:=fun x σ H Q q=>⟨q.1,q.2,rfl,fun _ _=>rfl⟩
end
end L2
namespace Maj
open L2 (An sF zt vT)
def HU (xs:List Int) (k:Nat):Int:=((An xs).take k).sum
def above (one other:List Int):List Nat:=(List.range one.length).filter fun p=>decide (HU other (p+1)<HU one (p+1))
end Maj
namespace L3
open PySem
open L2 hiding D Rf Rfs Rp dI dT
section
variable {K:PySem.W.Frag}{ρ:Bool}{Γr Γl Γ Γn:List Nat}{te:TE}{de:DE}
def Cf (n:Nat) (dg:List D→Dl→(Dl→Prop)→Prop) (x:D) (δ:Dl) (P:Dl→Prop):Prop:=asL x fun ds=>ds.length=n∧dg ds δ P
theorem Cb {n:Nat}{g:TGs}{dg:List D→Dl→(Dl→Prop)→Prop} (h:GTs K Γ g dg):GT K Γ (Fq K n g) (Cf n dg) :=
 ⟨fun x δ P P' k q=>by obtain ⟨ds,e,z⟩:=bP q;exact gB e ⟨z.1,h.mono _ _ _ _ k z.2⟩,
 fun {B0 fps δ σ H x v fp Q} o r nn q=>by
  obtain ⟨ds,e,z⟩:=bP q
  obtain ⟨a,xs,fq,rfl,hs,hr,hin⟩:=r.seq e
  exact⟨a,xs,rfl,hs,hr.length.trans z.1,h.run o hr (fun j hj b hb=>nn j hj b (hin b hb)) z.2⟩⟩
def HQ (i j:Nat) (da:DA) (E:bh) (δ:Dl):Prop:=da δ fun xs=>match xs with | [x,y]=>E.nx ((δ.set i (some x)).set j (some y)) | _=>False
end
end L3
namespace L3
open PySem L2
section
variable {K:PySem.W.Frag}
def Gh (xs:List D) (P:Int→Prop):Prop:=match xs with | [.int j]=>P j | [.bl b]=>P (if b then 1 else 0) | _=>False
theorem wD {i:Int}{P:Int→Prop}:Gh [.int i] P↔P i:=Iff.rfl
theorem yE {b:Bool}{P:Int→Prop}:Gh [.bl b] P↔P (if b then 1 else 0):=Iff.rfl
def EH (xs:List D) (P:DK):Prop:=Gh xs fun i=>P (.int i)
end
end L3
namespace L3
open PySem
open L2 hiding D Rf Rfs Rp dI dT
theorem ze {ns:List Int} (h:1≤ns.length):atI (ns.map D.int) (-1)=some (.int (ns.getD (ns.length - 1) 0)):=by
 unfold atI
 have:ixN (ns.map D.int).length (-1)=some (ns.length - 1):=by
  unfold ixN
  rw[List.length_map,if_neg (by omega),if_pos (by omega)]
  congr 1;omega
 rw[this]
 show (ns.map D.int)[ns.length - 1]?=_
 rw[List.getElem?_map,List.getD_eq_getElem?_getD,List.getElem?_eq_getElem (by omega)];rfl
theorem rX {ns:List Int}{P:DK} (h:1≤ns.length) (k:P (.int (ns.getD (ns.length - 1) 0))):asO (atI (ns.map D.int) (-1)) P:=(qm (ze h)).mpr k
end L3
namespace L3
open PySem L2
structure AOk (K:PySem.W.Frag) (B0:Hp) (Γ:List Nat) (i j m:Nat) (a0:Addr) (fps:Nat→List Addr) (δ:Dl) (σ:St) (H:Hp):Prop where
 ok:Ok K B0 Γ fps (δ.set j none) σ H
 hi:i∈Γ
 hj:j∉Γ
 al:∃ds es xs b,δ[i]?=some (some (.lst ds))∧ds[m]?=some (.lst es)∧δ[j]?=some (some (.lst es))∧σ[i]?=some (some (.ref a0))∧H a0=some (.lst xs)∧xs[m]?=some (.ref b)∧σ[j]?=some (some (.ref b))
section
variable {K:PySem.W.Frag}{ρ:Bool}{Γr Γl Γ:List Nat}{B0:Hp}{i j m:Nat}{a0:Addr}{fps:Nat→List Addr}{δ:Dl}{σ:St}{H H':Hp}{t u:TS}{d e:Nat→DS}{te tx t1:TE}{de dx d1:DE}
theorem AOk.ne (o:AOk K B0 Γ i j m a0 fps δ σ H):i≠j:=fun z=>o.hj (z▸o.hi)
theorem AOk.same (o:AOk K B0 Γ i j m a0 fps δ σ H) (s:aJ H H'):AOk K B0 Γ i j m a0 fps δ σ H':=by
 obtain ⟨ds,es,xs,b,h1,h2,h3,h4,h5,h6,h7⟩:=o.al
 exact⟨o.ok.same s,o.hi,o.hj,ds,es,xs,b,h1,h2,h3,h4,s _ _ h5,h6,h7⟩
theorem AOk.rd (o:AOk K B0 Γ i j m a0 fps δ σ H):∃fps',Ok K B0 (minus Γ [i]) fps' δ σ H:=by
 obtain ⟨ds,es,xs,b,h1,h2,h3,h4,h5,h6,h7⟩:=o.al
 have e1:(δ.set j none)[i]?=some (some (.lst ds)):=by rw[List.getElem?_set_ne (Ne.symm o.ne)];exact h1
 obtain ⟨a,xs1,b1,ys,fe,q1,q2,q3,q4,q5,q6,q7,q8,q9,q10,_⟩:=pj (es':=[]) o.ok o.hi e1 h2
 rw[h4] at q1;cases q1
 rw[h5] at q2;cases q2
 rw[h6] at q4;cases q4
 refine⟨fun l=>if l=j then b::fe else fps l,by have:=o.ok.len;simpa using this,o.ok.b0,fun l d e=>?_,fun l h=>?_,fun l hl=>?_,fun l hl k hk a ha=>?_⟩
 ·by_cases hl:l=j
  ·subst hl
   rw[h3] at e;cases e
   rw[if_pos rfl]
   exact⟨.ref b,h7,b,ys,fe,rfl,q5,rfl,q6⟩
  ·rw[if_neg hl]
   exact o.ok.val l d (by rw[List.getElem?_set_ne (Ne.symm hl)];exact e)
 ·by_cases hl:l=j
  ·subst hl;exact absurd h3 (h _)
  ·rw[if_neg hl]
   exact o.ok.non l fun d z=>h d (by rw[List.getElem?_set_ne (Ne.symm hl)] at z;exact z)
 ·obtain ⟨g1,g2⟩:=bA.mp hl
  have:l≠j:=fun z=>o.hj (z▸g1)
  rw[if_neg this]
  exact o.ok.own l g1
 ·obtain ⟨g1,g2⟩:=bA.mp hl
  have n1:l≠j:=fun z=>o.hj (z▸g1)
  have n2:i≠l:=fun z=>g2 (List.mem_singleton.mpr z.symm)
  rw[if_neg n1] at ha
  by_cases hk2:k=j
  ·rw[if_pos hk2]
   intro z
   rcases List.mem_cons.mp z with z | z
   ·exact o.ok.dj l g1 i n2 a ha (by rw[z];exact q10)
   ·exact o.ok.dj l g1 i n2 a ha (q9 a z)
  ·rw[if_neg hk2]
   exact o.ok.dj l g1 k hk a ha
theorem AOk.write (o:AOk K B0 Γ i j m a0 fps δ σ H) {ds es:List D} (h1:δ[i]?=some (some (.lst ds))) (h2:ds[m]?=some (.lst es)) {es':List D} :
  ∃b ys fe,σ[j]?=some (some (.ref b))∧H b=some (.lst ys)∧Rfs K H es ys fe∧fe.Nodup∧b∉fe∧(∀c∈fe,Mu H c)∧∀{ys':List V}{fe':List Addr},Rfs K H es' ys' fe'→fe'.Nodup→(∀c∈fe',c∈fe) →
   ∃fps',AOk K B0 Γ i j m a0 fps' ((δ.set i (some (.lst (ds.set m (.lst es'))))).set j (some (.lst es'))) σ (upd H b (.lst ys')):=by
 obtain ⟨ds0,es0,xs,b,g1,g2,g3,g4,g5,g6,g7⟩:=o.al
 rw[h1] at g1;cases g1
 rw[h2] at g2;cases g2
 have e1:(δ.set j none)[i]?=some (some (.lst ds)):=by rw[List.getElem?_set_ne (Ne.symm o.ne)];exact h1
 obtain ⟨a,xs1,b1,ys,fe,q1,q2,q3,q4,q5,q6,q7,q8,q9,q10,KK⟩:=pj (es':=es') o.ok o.hi e1 h2
 rw[g4] at q1;cases q1
 rw[g5] at q2;cases q2
 rw[g6] at q4;cases q4
 have hab:a0≠b:=fun z=>by
  obtain ⟨a3,xs3,fq3,u1,u2,u3,u4⟩:=o.ok.wk e1
  rw[g4] at u1;cases u1
  have nd3:=(o.ok.own i o.hi).1
  rw[u3] at nd3
  obtain ⟨b3,_,_,w1,_,_,w4,_⟩:=u4.inner (List.nodup_cons.mp nd3).2 h2
  rw[g5] at u2;cases u2
  rw[g6] at w1;cases w1
  exact (List.nodup_cons.mp nd3).1 (by rw[z];exact w4)
 refine⟨b,ys,fe,g7,q5,q6,q7,q8,fun c hc=>((o.ok.own i o.hi).2 c (q9 c hc)).2,fun {ys' fe'} r nd sub=>?_⟩
 obtain ⟨fps',ok'⟩:=KK r nd (fun z=>q8 (sub b z)) (fun c hc=>((o.ok.own i o.hi).2 c (q9 c (sub c hc))).2) (fun c hc=>.inl (sub c hc))
 have hli:i<δ.length:=(List.getElem?_eq_some_iff.mp h1).1
 have hlj:j<δ.length:=(List.getElem?_eq_some_iff.mp g3).1
 have hlm:m<ds.length:=(List.getElem?_eq_some_iff.mp h2).1
 refine⟨fps',?_,o.hi,o.hj,ds.set m (.lst es'),es',xs,b,?_,?_,?_,g4,by rw[aI hab];exact g5,g6,g7⟩
 ·rw[List.set_set,List.set_comm _ _ o.ne];exact ok'
 ·rw[List.getElem?_set_ne (Ne.symm o.ne),List.getElem?_set_self hli]
 ·rw[List.getElem?_set_self hlm]
 ·rw[List.getElem?_set_self (by rw[List.length_set];exact hlj)]
def STA (K:PySem.W.Frag) (i j:Nat) (t:TS) (Γ:List Nat) (d:Nat→DS):Prop :=
 ∀⦃B0:Hp⦄ ⦃Dn:Ends⦄ ⦃E:bh⦄ ⦃m:Nat⦄ ⦃a0:Addr⦄ ⦃fps:Nat→List Addr⦄ ⦃δ:Dl⦄ ⦃σ:St⦄ ⦃H:Hp⦄,(∀{fps δ σ H},AOk K B0 Γ i j m a0 fps δ σ H→E.nx δ→Dn.nx σ H)→AOk K B0 Γ i j m a0 fps δ σ H→d m E δ→t Dn σ H
theorem Dh (h1:STA K i j t Γ d) (h2:STA K i j u Γ e):STA K i j (t8 t u) Γ (fun m=>xi (d m) (e m)) :=
 fun {B0 Dn E m a0 fps δ σ H} k o h=>h1 (Dn:={ Dn with nx:=u Dn }) (E:={ E with nx:=e m E }) (fun o h=>h2 k o h) o h
theorem C6 (a:Nat) (he:ER K (minus Γ [i]) te de) (ha:a∉Γ:=by decide) (haj:a≠j:=by decide) (hai:a≠i:=by decide):STA K i j (jX te (gH a)) Γ (fun _=>C2 a (zh de)) :=
 fun {B0 Dn E m a0 fps δ σ H} k o h=>by
  obtain ⟨fps',o'⟩:=o.rd
  refine he.run o' (he.mono _ _ _ (fun x z v H' s r=>?_) h)
  obtain ⟨fp,r⟩:=r
  obtain ⟨_,rfl⟩:=r.aY z.1
  have o2:=(o.ok.yf a s r (fun _ _ _ w=>(nomatch w))).sub (Γ':=Γ) fun l hl=>bA.mpr ⟨hl,fun q=>ha (by rw[← List.mem_singleton.mp q];exact hl)⟩
  rw[List.set_comm _ _ (Ne.symm haj)] at o2
  obtain ⟨ds,es,xs,b,g1,g2,g3,g4,g5,g6,g7⟩:=o.al
  refine k ⟨o2,o.hi,o.hj,ds,es,xs,b,?_,g2,?_,?_,s _ _ g5,g6,?_⟩ z.2
  ·rw[List.getElem?_set_ne hai];exact g1
  ·rw[List.getElem?_set_ne haj];exact g3
  ·rw[List.getElem?_set_ne hai];exact g4
  ·rw[List.getElem?_set_ne haj];exact g7
def Gr (i j:Nat) (de dx:DE) (m:Nat) (E:bh) (δ:Dl):Prop:=de δ fun x=>x.aY=true∧dx δ fun k=>asI [k] fun q=>fZ δ i fun ds=>fZ δ j fun es=>match ixN es.length q with
 | some p=>E.nx ((δ.set i (some (.lst (ds.set m (.lst (es.set p x)))))).set j (some (.lst (es.set p x))))
 | none=>False
theorem DH (he:ER K (minus Γ [i]) te de) (hx:ER K (minus Γ [i]) tx dx):STA K i j (jX te (zw (eU j) tx sD)) Γ (fun m=>Gr i j de dx m) :=
 fun {B0 Dn E m a0 fps δ σ H} k o h=>by
  obtain ⟨fps',o'⟩:=o.rd
  refine he.run o' (he.mono _ _ _ (fun x z v H1 s1 r=>?_) h)
  obtain ⟨zs,z⟩:=z
  obtain ⟨fp,r⟩:=r
  obtain ⟨_,rfl⟩:=r.aY zs
  obtain ⟨fps2,o2⟩:=(o.same s1).rd
  obtain ⟨ds0,es0,xs,b,g1,g2,g3,g4,g5,g6,g7⟩:=o.al
  refine⟨.ref b,g7,hx.run o2 (hx.mono _ _ _ (fun y z w H2 s2 r2=>?_) z)⟩
  obtain ⟨q,eq,z⟩:=cW z
  subst eq
  obtain ⟨ds,e1,z⟩:=gj z
  obtain ⟨es,e2,z⟩:=gj z
  rw[g1] at e1;cases e1
  rw[g3] at e2;cases e2
  cases ep:ixN es0.length q with
  | none=>rw[ep] at z;exact z.elim
  | some p =>
   rw[ep] at z
   obtain ⟨b',ys,fe,w1,w2,w3,w4,w5,w6,KK⟩:=((o.same s1).same s2).write (es':=es0.set p x) g1 g2
   rw[g7] at w1;cases w1
   obtain ⟨fq',r',nd',k'⟩:=Rfs.set (r.same s2) List.nodup_nil w3 w4 (fun c hc=>(nomatch hc)) (AH ep)
   obtain ⟨fps3,o3⟩:=KK r' nd' fun c hc=>(k' c hc).elim id fun w=>(nomatch w)
   exact⟨b,ys,q,p,rfl,r2.int,w2,by rw[w3.length];exact ep,k o3 z⟩
def xK (i j:Nat) (d1:DE) (d:Nat→DS) (E:bh) (δ:Dl):Prop:=fZ δ i fun ds=>d1 δ fun k=>asI [k] fun m=>(0≤m∧j<δ.length)∧oj (ds[m.toNat]?) fun es =>
 d m.toNat { E with nx:=fun δ'=>E.nx (δ'.set j none) } (δ.set j (some (.lst es)))
theorem CM (i j:Nat) (h1:ER K Γ t1 d1) (hb:STA K i j t Γ d) (hi:i∈Γ:=by decide) (hj:j∉Γ:=by decide) (hij:i≠j:=by decide) :
  ST K ρ Γr Γl (t8 (jX (tOp (wZ K) (eU i) t1) (gH j)) t) Γ Γ (xK i j d1 d):=by
 intro B0 Dn E fps δ σ H k o h
 refine BU (k:=k) h1 hi hj hij o ?_
 obtain ⟨ds,e,h⟩:=gj h
 refine Ao e (h1.mono _ _ _ (fun x z=>?_) h)
 obtain ⟨m,em,z1⟩:=cW z
 subst em
 refine⟨z1.1,?_⟩
 obtain ⟨es,ej,z2⟩:=kJ z1.2
 refine mh ej fun a0 b xs σ' H' fps' o' e' ej' g1 g2 g3 g4=>?_
 refine hb (E:={ E with nx:=fun δ'=>E.nx (δ'.set j none) }) (fun ao z=>k.nx ao.ok z) ⟨by rw[List.set_set];exact o',hi,hj,ds,es,xs,b,?_,ej,?_,g1,g2,g3,g4⟩ z2
 ·rw[List.getElem?_set_ne (Ne.symm hij)] at e' ⊢;exact e'
 ·rw[List.getElem?_set_self z1.1.2]
end
end L3
namespace L3
open PySem
open L2 hiding D Rf Rfs Rp dI dT
section
variable {δ:Dl}{i j:Nat}{t:List (List Int)}{a b v:Int}{d1 de dx:DE}{d:Nat→DS}{E:bh}
theorem zN (hs:δ[i]?=some (some (dT t))) (h1:∀R:DK,R (.int a)→d1 δ R) (hj:j<δ.length) (ha:0≤a∧a<t.length)
  (h:d a.toNat { E with nx:=fun δ'=>E.nx (δ'.set j none) } (δ.set j (some (dI (rowAt t a.toNat))))):xK i j d1 d E δ:=by
 unfold xK
 refine (jc hs).mpr (h1 _ ⟨⟨ha.1,hj⟩,?_⟩)
 exact mh (Aq (by omega)) h
theorem DB {r:List Int}{m:Nat} (hs:δ[i]?=some (some (dT t))) (hr:δ[j]?=some (some (dI r))) (hde:∀R:DK,R (.int v)→de δ R) (hdx:∀R:DK,R (.int b)→dx δ R) (hb:0≤b∧b<r.length)
  (h:E.nx ((δ.set i (some (dT (t.set m (r.set b.toNat v))))).set j (some (dI (r.set b.toNat v))))):Gr i j de dx m E δ:=by
 unfold Gr
 refine hde _ ⟨rfl,hdx _ ((jc hs).mpr ((jc hr).mpr ?_))⟩
 show match ixN (r.map D.int).length b with | some p=>E.nx ((δ.set i (some (.lst ((t.map dI).set m (.lst ((r.map D.int).set p (.int v))))))).set j (some (.lst ((r.map D.int).set p (.int v))))) | none=>False
 rw[eR hb.1 (by rw[List.length_map];exact hb.2)]
 show E.nx ((δ.set i (some (.lst ((t.map dI).set m (.lst ((r.map D.int).set b.toNat (.int v))))))).set j (some (.lst ((r.map D.int).set b.toNat (.int v)))))
 rw[nQ,GS];exact h
end
end L3
namespace L3
open PySem L2
def D.flat:D→Bool
 | .tup ds=>ds.all D.aY
 | d=>d.aY
theorem Rf.flat {K:PySem.W.Frag}{H:Hp}{d:D}{v:V}{fp:List Addr} (h:Rf K H d v fp) (s:d.flat=true):fp=[]:=by
 cases d with
 | tup ds =>
  obtain ⟨a,xs,rfl,h2,h3⟩:=h
  exact (h3.i7 s).2
 | _=>first | exact (h.aY s).2 | cases s
theorem vO {i:Int}:(D.int i).flat=true:=rfl
theorem xY {b:Bool}:(D.bl b).flat=true:=rfl
theorem rZ {a b c d:Int}:(D.tup [.int a,.int b,.int c,.int d]).flat=true:=rfl
theorem sU {a b c:Int}:(D.tup [.int a,.int b,.int c]).flat=true:=rfl
theorem sZ {a b:Int}:(D.tup [.int a,.int b]).flat=true:=rfl
def A3 (d:DE) (δ:Dl) (P:DK):Prop:=d δ fun x=>x.flat=true∧P x
theorem ER.flat {K:PySem.W.Frag}{Γ:List Nat}{t:TE}{d:DE} (h:ER K Γ t d):EM K Γ [] t (A3 d):=⟨fun δ P P' k q=>h.mono _ _ _ (fun x z=>⟨z.1,k x z.2⟩) q,fun o q=>h.run o (h.mono _ _ _ (fun x z v H' s r=>by
 obtain ⟨fp,r⟩:=r
 have e:=r.flat z.1
 subst e
 exact z.2 v H' [] s r Nw.nil) q)⟩
end L3
namespace L3
open PySem
open L2 hiding D Rf Rfs Rp dI dT
theorem mn {t:List (List Int)}{n m:Nat}{a b:Int}{R:DK} (hR:bF n m t) (ha:0≤a∧a<n) (hb:0≤b∧b<m) (h:R (.int (cellAt t a.toNat b.toNat))):asO (atI (t.map dI) a) fun z=>qB z (.int b) R:=by
 have h1:=hR.row (i:=a.toNat) (by omega)
 have hl:=hR.1
 refine dZ (by omega) ?_
 rw[qQ]
 exact aL (by omega) h
theorem vx {t:List (List Int)}{n m a b c d:Nat}{v:Int} (hR:bF n m t) (ha:a<n) (hb:b<m):cellAt (setCell t a b v) c d=if a=c∧b=d then v else cellAt t c d:=by
 have hl:=hR.1
 have hr:=hR.row ha
 unfold setCell cellAt
 by_cases h:a=c
 ·subst h
  rw[List.getD_eq_getElem?_getD (l:=t.set a _),List.getElem?_set_self (by omega),Option.getD_some]
  by_cases h2:b=d
  ·subst h2
   rw[if_pos ⟨rfl,rfl⟩,List.getD_eq_getElem?_getD,List.getElem?_set_self (by rw[show (t.getD a []).length=m from hr];exact hb),Option.getD_some]
  ·rw[if_neg (fun z=>h2 z.2),List.getD_eq_getElem?_getD,List.getElem?_set_ne h2,← List.getD_eq_getElem?_getD]
 ·rw[if_neg (fun z=>h z.1),List.getD_eq_getElem?_getD (l:=t.set a _),List.getElem?_set_ne h,← List.getD_eq_getElem?_getD]
def FI (n m:Nat) (t:List (List Int)):Prop:=bF n m t∧∀r∈t,∀x∈r,x=0∨x=1
theorem FI.set {n m a b:Nat}{t:List (List Int)}{v:Int} (h:FI n m t) (ha:a<n) (hv:v=0∨v=1):FI n m (setCell t a b v):=by
 refine⟨h.1.setCell ha,fun r hr x hx=>?_⟩
 have hl:=h.1.1
 rcases List.mem_or_eq_of_mem_set hr with z | z
 ·exact h.2 r z x hx
 ·rw[z] at hx
  rcases List.mem_or_eq_of_mem_set hx with w | w
  ·exact h.2 _ (tu (by omega)) x w
  ·rw[w];exact hv
def yP (n m:Nat) (t:List (List Int)) (i j k l:Int):Prop:=(0≤i∧i<n)∧(0≤k∧k<n)∧(0≤j∧j<m)∧(0≤l∧l<m)∧cellAt t i.toNat j.toNat=1∧cellAt t i.toNat l.toNat=0∧cellAt t k.toNat j.toNat=0∧cellAt t k.toNat l.toNat=1
instance {n m:Nat}{t:List (List Int)}{i j k l:Int}:Decidable (yP n m t i j k l):=by unfold yP;infer_instance
end L3
namespace L2
open PySem PySem.Spec PyProof.Rows
section
variable {κ:Type} [DecidableEq κ]
def iq (kvs:List (κ × V)) (k:κ):Option V:=(kvs.find? fun kv=>decide (kv.1=k)).map (·.2)
def putK (kvs:List (κ × V)) (k:κ) (v:V):List (κ × V) :=
 if (kvs.any fun kv=>decide (kv.1=k))=true then kvs.map (fun kv=>if kv.1=k then (kv.1,v) else kv) else kvs++[(k,v)]
theorem kH {p:κ × V}{r:List (κ × V)}{k:κ} (e:p.1=k):iq (p::r) k=some p.2:=by simp [iq,List.find?_cons,e]
theorem ju {p:κ × V}{r:List (κ × V)}{k:κ} (e:¬ p.1=k):iq (p::r) k=iq r k:=by simp [iq,List.find?_cons,e]
theorem pH (k:κ):∀kvs:List (κ × V),(kvs.any fun kv=>decide (kv.1=k))=(iq kvs k).isSome
 | []=>rfl
 | p::r=>by
  rw[List.any_cons]
  by_cases e:p.1=k
  ·simp only[kH e,decide_eq_true e,Bool.true_or,Option.isSome_some]
  ·rw[ju e,decide_eq_false e,Bool.false_or];exact pH k r
theorem nW (kvs:List (κ × V)) (k:κ) (v:V):(putK kvs k v).length≤kvs.length+1:=by
 unfold putK
 split
 ·rw[List.length_map];omega
 ·rw[List.length_append,List.length_cons,List.length_nil];omega
theorem Au {kvs:List (κ × V)}{k:κ} (v:V) (h:iq kvs k=none):putK kvs k v=kvs++[(k,v)]:=by
 unfold putK
 rw[pH,h]
 exact if_neg (by decide)
theorem jY.nU {o:Option V}{u:Option Value} (r:jY o u):o.isSome=u.isSome:=by
 cases o with
 | none=>cases u with
  | none=>rfl
  | some _=>exact (show False from r).elim
 | some _=>cases u with
  | none=>exact (show False from r).elim
  | some _=>rfl
theorem jY.getD {o:Option V}{u:Option Value}{d:V}{d':Value} (r:jY o u) (rd:RelV d d'):RelV (o.getD d) (u.getD d'):=by
 cases o with
 | none=>cases u with
  | none=>exact rd
  | some _=>exact (show False from r).elim
 | some _=>cases u with
  | none=>exact (show False from r).elim
  | some _=>exact r
theorem KV.val {kvs:List (κ × V)}{vs:List (κ × Value)} (r:KV kvs vs) (k:κ):jY (iq kvs k) (valueAt vs k):=by
 unfold KV at r
 induction r with
 | nil=>exact True.intro
 | @cons p q ps qs h t ih =>
  obtain ⟨h1,h2⟩:=h
  by_cases e:p.1=k
  ·have e':q.1=k:=h1.symm.trans e
   have b:valueAt (q::qs) k=some q.2:=by simp [valueAt,List.find?_cons,e']
   rw[kH e,b];exact h2
  ·have e':¬ q.1=k:=fun z=>e (h1.trans z)
   have b:valueAt (q::qs) k=valueAt qs k:=by simp [valueAt,List.find?_cons,e']
   rw[ju e,b];exact ih
theorem KV.any {kvs:List (κ × V)}{vs:List (κ × Value)} (r:KV kvs vs) (k:κ):(kvs.any fun kv=>decide (kv.1=k))=vs.any fun kv=>decide (kv.1=k):=by
 unfold KV at r
 induction r with
 | nil=>rfl
 | cons h t ih=>rw[List.any_cons,List.any_cons,ih,h.1]
theorem KV.Gy {kvs:List (κ × V)}{vs:List (κ × Value)} (r:KV kvs vs) (k:κ) {y:V}{u:Value} (ry:RelV y u) :
  KV (kvs.map fun kv=>if kv.1=k then (kv.1,y) else kv) (vs.map fun kv=>if kv.1=k then (kv.1,u) else kv):=by
 unfold KV at r ⊢
 induction r with
 | nil=>exact .nil
 | @cons p q ps qs h t ih =>
  rw[List.map_cons,List.map_cons]
  refine .cons ?_ ih
  obtain ⟨h1,h2⟩:=h
  by_cases e:p.1=k
  ·rw[if_pos e,if_pos (h1.symm.trans e)];exact⟨h1,ry⟩
  ·rw[if_neg e,if_neg (fun z=>e (h1.trans z))];exact⟨h1,h2⟩
theorem KV.put {kvs:List (κ × V)}{vs:List (κ × Value)} (r:KV kvs vs) (k:κ) {y:V}{u:Value} (ry:RelV y u):KV (putK kvs k y) (stored vs k u):=by
 unfold putK stored
 rw[r.any k]
 by_cases e:(vs.any fun kv=>decide (kv.1=k))=true
 ·rw[if_pos e,if_pos e];exact r.Gy k ry
 ·rw[if_neg e,if_neg e];exact Paired.snoc r ⟨rfl,ry⟩
theorem KV.keys {kvs:List (κ × V)}{vs:List (κ × Value)} (r:KV kvs vs):kvs.map (·.1)=vs.map (·.1):=by
 unfold KV at r
 induction r with
 | nil=>rfl
 | cons h t ih=>rw[List.map_cons,List.map_cons,ih,h.1]
theorem KV.length {kvs:List (κ × V)}{vs:List (κ × Value)} (r:KV kvs vs):kvs.length=vs.length:=Paired.length r
end
theorem xV {P:Program}{w:World}{k:Key}{u:Value} (r:RelV (kV k) u):(dU P w).is k u=true:=by
 cases k with
 | inl i=>obtain ⟨t,e⟩:=(show ∃t,u=Value.int i t from r);subst e;exact vW P w i t
 | inr x=>obtain ⟨t,e⟩:=(show ∃t,u=Value.str x t from r);subst e;exact vg P w x t
theorem rV {P:Program}{w:World}:∀{ks:List Key}{us:List Value},Vals (ks.map kV) us→ItemsAre (dU P w) ks us
 | [],_,r=>by rw[List.map_nil] at r;cases r;exact .nil
 | k::ks,_,r=>by
  rw[List.map_cons] at r
  cases r with
  | cons h t=>exact .cons (xV h) (rV t)
abbrev KT (H:Hp):List (List Key × V)→List (List Key × Addr × Value)→Prop:=Paired fun p q=>p.1=q.1∧H q.2.1=some (.tup (p.1.map kV))∧RelV p.2 q.2.2
theorem KT.val {H:Hp}{kvs:List (List Key × V)}{xs:List (List Key × Addr × Value)} (r:KT H kvs xs) (k:List Key):jY (iq kvs k) ((atKey xs k).map (·.2)):=by
 induction r with
 | nil=>exact True.intro
 | @cons p q ps qs h t ih =>
  obtain ⟨h1,_,h2⟩:=h
  by_cases e:p.1=k
  ·have e':q.1=k:=h1.symm.trans e
   have b:atKey (q::qs) k=some q.2:=by simp [atKey,List.find?_cons,e']
   rw[kH e,b];exact h2
  ·have e':¬ q.1=k:=fun z=>e (h1.trans z)
   have b:atKey (q::qs) k=atKey qs k:=by simp [atKey,List.find?_cons,e']
   rw[ju e,b];exact ih
theorem KT.Gy {H:Hp}{kvs:List (List Key × V)}{xs:List (List Key × Addr × Value)} (r:KT H kvs xs) (k:List Key) {y:V}{u:Value} (ry:RelV y u) :
  KT H (kvs.map fun kv=>if kv.1=k then (kv.1,y) else kv) (xs.map (putAt k u)):=by
 induction r with
 | nil=>exact .nil
 | @cons p q ps qs h t ih =>
  rw[List.map_cons,List.map_cons]
  refine .cons ?_ ih
  obtain ⟨h1,h2,h3⟩:=h
  unfold putAt
  by_cases e:p.1=k
  ·rw[if_pos e,if_pos (h1.symm.trans e)];exact⟨h1,h2,ry⟩
  ·rw[if_neg e,if_neg (fun z=>e (h1.trans z))];exact⟨h1,h2,h3⟩
theorem KT.put {H:Hp}{kvs:List (List Key × V)}{xs:List (List Key × Addr × Value)} (r:KT H kvs xs) (k:List Key) {b:Addr}{y:V}{u:Value} (hb:H b=some (.tup (k.map kV))) (ry:RelV y u) :
  KT H (putK kvs k y) (storedH xs k b u):=by
 have e:(kvs.any fun kv=>decide (kv.1=k))=(atKey xs k).isSome:=by
  rw[pH,(r.val k).nU,Option.isSome_map]
 unfold putK storedH
 rw[e]
 by_cases q:(atKey xs k).isSome=true
 ·rw[if_pos q,if_pos q];exact r.Gy k ry
 ·rw[if_neg q,if_neg q];exact Paired.snoc r ⟨rfl,hb,ry⟩
theorem KT.keeps {H H':Hp}{kvs:List (List Key × V)}{xs:List (List Key × Addr × Value)} (r:KT H kvs xs) (ht:∀b ys,H b=some (.tup ys)→H' b=some (.tup ys)):KT H' kvs xs :=
 Paired.FT r fun _ _ z=>⟨z.1,ht _ _ z.2.1,z.2.2⟩
section
variable {P:Program}{w:World}{H:Hp}{h:Heap}{a:Addr}
theorem EO {u:HO} (ok:HOk P w H h) (e:Rd H a u):dD P w H h a u:=e.ok ok
theorem xX {kvs:List (Key × V)} (ok:HOk P w H h) (e:Rd H a (.dK kvs)):kvs.length≤sizeLine∧(a == sysModules)=false∧∃vs,KV kvs vs∧h.DictOf (dU P w) a vs :=
 show dD P w H h a (.dK kvs) from EO ok e
theorem EW {kvs:List (Key × V)} (ok:HOk P w H h) (e:H a=some (.dK kvs)):kvs.length≤sizeLine∧(a == sysModules)=false∧∃vs,KV kvs vs∧h.DictOf (dU P w) a vs:=xX ok (.inl e)
theorem tN {ks:List Key} (ok:HOk P w H h) (e:H a=some (.tup (ks.map kV))):(tupleKind (dU P w)).is h ks a:=by
 obtain ⟨_,its,r,o,h1,h2,n,h3⟩:=(show dD P w H h a (.tup (ks.map kV)) from ok a _ e)
 exact⟨o,its.toArray,n,h1,h2,h3,by simpa using rV r⟩
theorem yQ {kvs:List (List Key × V)} (ok:HOk P w H h) (e:Rd H a (.dT kvs)):kvs.length≤sizeLine∧(a == sysModules)=false ∧
  ∃xs,KT H kvs xs∧h.DictOfH (tupleKind (dU P w)) a xs:=by
 obtain ⟨z,y,xs,r,o,es,ep,h1,h2,h3,h4,h5⟩:=(show dD P w H h a (.dT kvs) from EO ok e)
 refine⟨z,y,xs,r,o,es,ep,h1,h2,h3,h4,fun x hx=>?_,h5⟩
 have all:∀{l:List (List Key × V)}{m:List (List Key × Addr × Value)},KT H l m→∀x∈m,(tupleKind (dU P w)).is h x.1 x.2.1:=by
  intro l m q
  induction q with
  | nil=>intro x hx;exact nomatch hx
  | @cons p q ps qs hq t ih =>
   intro x hx
   rcases List.mem_cons.mp hx with e | hx
   ·subst e
    exact tN ok (by rw[← hq.1];exact hq.2.1)
   ·exact ih x hx
 exact all r x hx
theorem G6 {kvs:List (List Key × V)} (ok:HOk P w H h) (e:H a=some (.dT kvs)):kvs.length≤sizeLine∧(a == sysModules)=false ∧
  ∃xs,KT H kvs xs∧h.DictOfH (tupleKind (dU P w)) a xs:=yQ ok (.inl e)
end
def pK (H:Hp) (a:Addr) (y:V) (r:Option V):Prop :=
 (∃kvs k,Rd H a (.dK kvs)∧y=kV k∧r=iq kvs k)∨∃kvs k b,Rd H a (.dT kvs)∧y=.ref b∧H b=some (.tup (k.map kV))∧r=iq kvs k
def u0 (H:Hp) (a:Addr) (y v:V) (H':Hp):Prop :=
 (∃kvs k,H a=some (.dK kvs)∧y=kV k∧kvs.length<sizeLine∧H'=upd H a (.dK (putK kvs k v))) ∨
 ∃kvs k b,H a=some (.dT kvs)∧y=.ref b∧H b=some (.tup (k.map kV))∧kvs.length<sizeLine∧H'=upd H a (.dT (putK kvs k v))
theorem pK.k {H:Hp}{a:Addr}{kvs:List (Key × V)}{k:Key} (e:H a=some (.dK kvs)):pK H a (kV k) (iq kvs k):=.inl ⟨kvs,k,.inl e,rfl,rfl⟩
theorem pK.t {H:Hp}{a b:Addr}{kvs:List (List Key × V)}{k:List Key} (e:H a=some (.dT kvs)) (eb:H b=some (.tup (k.map kV))):pK H a (.ref b) (iq kvs k):=.inr ⟨kvs,k,b,.inl e,rfl,eb,rfl⟩
theorem u0.k {H:Hp}{a:Addr}{kvs:List (Key × V)}{k:Key}{v:V} (e:H a=some (.dK kvs)) (hl:kvs.length<sizeLine):u0 H a (kV k) v (upd H a (.dK (putK kvs k v))):=.inl ⟨kvs,k,e,rfl,hl,rfl⟩
theorem u0.t {H:Hp}{a b:Addr}{kvs:List (List Key × V)}{k:List Key}{v:V} (e:H a=some (.dT kvs)) (eb:H b=some (.tup (k.map kV))) (hl:kvs.length<sizeLine) :
  u0 H a (.ref b) v (upd H a (.dT (putK kvs k v))):=.inr ⟨kvs,k,b,e,rfl,eb,hl,rfl⟩
section
variable {X:Cx}{pins:List (Addr × Obj)}{σ:St}{H:Hp}{s:Shared}{a:Addr}{y v:V}{u r:Value}{o:Option V}{A:Around}{E:Value→Shared→Prop}
theorem Inv.big (I:Inv X pins σ H s):sysModules<s.heap.objs.size:=by
 have h:mainGlobals<s.heap.objs.size:=(I.mod.glob.keeps I.bk).lt
 exact Nat.lt_trans (by decide) h
theorem z8 {Q:Value→Shared→Prop} (hu:A.units+1<cLine) (I:Inv X pins σ H s) (g:pK H a y (some v)) (ry:RelV y u) (h:∀w' s',Inv X pins σ H s'→RelV v w'→Q w' s') :
  wpAny (model X.prog X.w) A (getItem (.ref a) u) Q E s:=by
 rcases g with ⟨kvs,k,e,ey,l⟩ | ⟨kvs,k,b,e,ey,eb,l⟩
 ·subst ey
  obtain ⟨z,hd,vs,rel,dd⟩:=xX I.hok e
  obtain ⟨w',hw,rw'⟩:=jY.some_of (v:=v) (o:=valueAt vs k) (by rw[l];exact rel.val k)
  exact wpAny_getItem_of (xV ry) dd.mapOf hw (h w' _ (I.tok _) rw')
 ·subst ey
  cases (show u=Value.ref b from ry)
  obtain ⟨z,hd,xs,rel,dd⟩:=yQ I.hok e
  obtain ⟨w',hw,rw'⟩:=jY.some_of (v:=v) (o:=(atKey xs k).map (·.2)) (by rw[l];exact rel.val k)
  obtain ⟨p,hp,hp2⟩:=Option.map_eq_some_iff.mp hw
  refine wpAny_getItem_heap (tupleKind_room_in1 hu) (tN I.hok eb) dd hp ?_
  rw[hp2]
  exact h w' _ (I.tok _) rw'
theorem Ei {Q:Value→Shared→Prop} (hu:A.units+1<cLine) (I:Inv X pins σ H s) (g:pK H a y o) (ry:RelV y u) (h:∀s',Inv X pins σ H s'→Q (.bool (!o.isSome)) s') :
  wpAny (model X.prog X.w) A (compareOp .NotIn u (.ref a)) Q E s:=by
 rcases g with ⟨kvs,k,e,ey,l⟩ | ⟨kvs,k,b,e,ey,eb,l⟩
 ·subst ey
  obtain ⟨z,hd,vs,rel,dd⟩:=xX I.hok e
  refine wpAny_notIn_of (xV ry) hd dd.mapOf ?_
  rw[← (rel.val k).nU,← l]
  exact h _ (I.tok _)
 ·subst ey
  cases (show u=Value.ref b from ry)
  obtain ⟨z,hd,xs,rel,dd⟩:=yQ I.hok e
  refine wpAny_notIn_heap (tupleKind_room_in1 hu) (tN I.hok eb) hd dd ?_
  have q:=(rel.val k).nU
  rw[Option.isSome_map] at q
  rw[← q,← l]
  exact h _ (I.tok _)
theorem yd {h':Heap}{t':Nat}{ob:HO} (I:Inv X pins σ H s) (mu:Mut (H a)) (hs:Heap.SameBut a s.heap h') (he:∃q,h'.get? a=some q) (new:dD X.prog X.w (upd H a ob) h' a ob) :
  Inv X pins σ (upd H a ob) { s with heap:=h',toks:=t' } :=
 I.write (x:=a) (e:=a) mu (.inl rfl) (fun b q hb z=>(hs.2 b hb).trans z) he new
theorem Ft {P:Program}{w:World}{H':Hp}{h':Heap}{kvs:List (Key × V)}{vs:List (Key × Value)} (z:kvs.length≤sizeLine) (hd:(a == sysModules)=false) (rel:KV kvs vs) (dd:h'.DictOf (dU P w) a vs) :
  dD P w H' h' a (.dK kvs):=⟨z,hd,vs,rel,dd⟩
theorem Af {H':Hp}{Q:Unit→Shared→Prop} (hu:A.units+1<cLine) (I:Inv X pins σ H s) (g:u0 H a y v H') (ry:RelV y u) (rv:RelV v r) (h:∀s',Inv X pins σ H' s'→Q () s') :
  wpAny (model X.prog X.w) A (setItem (.ref a) u r) Q E s:=by
 rcases g with ⟨kvs,k,e,ey,l,eH⟩ | ⟨kvs,k,b,e,ey,eb,l,eH⟩
 ·subst ey eH
  obtain ⟨z,hd,vs,rel,dd⟩:=EW I.hok e
  have hz:vs.length≤sizeLine:=by rw[← rel.length];exact z
  have hl:(putK kvs k v).length≤sizeLine:=by have:=nW kvs k v;omega
  refine wpAny_setItem_pairs (hsz:=hz) (xV ry) dd fun h' dd' hs=>h _ ?_
  have he:∃q,h'.get? a=some q:=let ⟨q,_,_,hq,_⟩:=dd';⟨q,hq⟩
  exact yd I (by rw[e];exact True.intro) hs he (Ft hl hd (rel.put k rv) dd')
 ·subst ey eH
  cases (show u=Value.ref b from ry)
  obtain ⟨z,hd,xs,rel,dd⟩:=G6 I.hok e
  have hz:xs.length≤sizeLine:=by rw[← Paired.length rel];exact z
  have hl:(putK kvs k v).length≤sizeLine:=by have:=nW kvs k v;omega
  refine wpAny_setItem_heap (hsz:=hz) (tupleKind_room_in1 hu) (tN I.hok eb) dd fun h' dd' hs=>h _ ?_
  obtain ⟨q,es,ep,hq,h2,h3,h4,_,h5⟩:=dd'
  refine yd I (by rw[e];exact True.intro) hs ⟨q,hq⟩ ⟨hl,hd,_,(rel.put k eb rv).keeps fun c ys ec=>?_,q,es,ep,hq,h2,h3,h4,h5⟩
  rw[aI (Hh ec e (fun z=>nomatch z))]
  exact ec
end
section
variable {X:Cx}{pins:List (Addr × Obj)}{σ:St}{H:Hp}{s:Shared}{a:Addr}{kvs:List (Key × V)}{k:Key}{u:Value}{A:Around}{E:Value→Shared→Prop}
end
def Hj (i:Expr):Prop:=∀ov iv,subscripted i false ov iv=operate [ov,iv] (getItem ov iv)
theorem Dz {prog:Program}{w:World}{A:Around}{E:Value→Shared→Prop}{s:Shared}{env:Env}{value slice:Expr}{pos:Pos}{T id:String}{Q:Value→Shared→Prop}
  (hl:typeLookup (.type T) "__getitem__" = pure (some (.builtin id))) (hs:Hj slice)
  (h:wpAny (model prog w) A (eval value env) (fun o s₁=>wpAny (model prog w) A (eval slice env) (fun i s₂=>s₂.TypeIs o T∧wpAny (model prog w) A (getItem o i) Q E s₂) E s₁) E s) :
  wpAny (model prog w) A (eval (.Subscript value slice pos) env) Q E s:=by
 refine Subscript_ (wpAny_mono h (fun o s₁ h₁=>wpAny_mono h₁ (fun i s₂ h₂=>?_) fun _ _ x=>x) fun _ _ x=>x)
 obtain ⟨hT,h₂⟩:=h₂
 unfold subscriptTail
 refine wpAny_bind ?_
 rw[getitemInPython_of_ne hT.not_modules]
 refine wpAny_bind (wpAny_specialOf hT hl ?_)
 have fin:wpAny (model prog w) A (subscripted slice false o i) (fun r s₃=>wpAny (model prog w) A (letTemporaryGo value o r >>= fun _=>pure r) Q E s₃) E s₂:=by
  rw[hs o i]
  exact wpAny_operating (wpAny_mono h₂ (fun r s₃ h₃=>wpAny_bind (wpAny_letTemporaryGo (wpAny_pure h₃))) fun _ _ x=>x)
 first
  | exact wpAny_pure (wpAny_bind fin)
  | exact wpAny_bind (wpAny_pure (wpAny_bind fin))
  | exact wpAny_bind fin
theorem v7 {X:Cx}{pins:List (Addr × Obj)}{σ:St}{H:Hp}{s:Shared}{a:Addr}{y:V}{o:Option V} (I:Inv X pins σ H s) (g:pK H a y o):s.TypeIs (.ref a) "dict":=by
 rcases g with ⟨kvs,k,e,_,_⟩ | ⟨kvs,k,b,e,_,_,_⟩
 ·obtain ⟨_,_,vs,_,dd⟩:=xX I.hok e
  exact dd.typeIs
 ·obtain ⟨_,_,xs,_,dd⟩:=yQ I.hok e
  exact dd.typeIs
def Eu (td ty:TE):TE:=fun σ H Q=>td σ H fun x H1=>ty σ H1 fun y H2=>∃a v,x=.ref a∧pK H2 a y (some v)∧Q v H2
def xZ (ty td:TE):TE:=fun σ H Q=>ty σ H fun y H1=>td σ H1 fun x H2=>∃a o,x=.ref a∧pK H2 a y o∧Q (.bl (!o.isSome)) H2
def CP (td ty tv:TE):TS:=fun D σ H=>tv σ H fun v H1=>td σ H1 fun x H2=>ty σ H2 fun y H3=>∃a H4,x=.ref a∧u0 H3 a y v H4∧D.nx σ H4
section
variable {X:Cx}{o i e value:Expr}{pos pos' tpos:Pos}{td ty tv:TE}
theorem yT (hu:X.A.units+1<cLine) (ho:PE X o td) (hi:PE X i ty) (hs:Hj i):PE X (.Subscript o i pos) (Eu td ty):=by
 intro pins s σ H Q I h
 refine Dz PySem.F.slot_dict_getitem.lookup hs (thn (ho pins s σ H _ I h) fun u s1 ⟨x,H1,I1,rx,q1⟩=>thn (hi pins s1 σ H1 _ I1 q1) fun iv s2 ⟨y,H2,I2,ry,a,v,ex,g,q2⟩=>?_)
 subst ex
 obtain rfl:u=Value.ref a:=rx
 exact⟨v7 I2 g,z8 hu I2 g ry fun w' s3 I3 rw'=>⟨v,H2,I3,rw',q2⟩⟩
theorem zZ (hu:X.A.units+1<cLine) (hi:PE X i ty) (ho:PE X o td):PC X .NotIn i o (xZ ty td):=by
 intro pins s σ H Q I h
 refine thn (hi pins s σ H _ I h) fun iv s1 ⟨y,H1,I1,ry,q1⟩=>thn (ho pins s1 σ H1 _ I1 q1) fun u s2 ⟨x,H2,I2,rx,a,ov,ex,g,q2⟩=>?_
 subst ex
 obtain rfl:u=Value.ref a:=rx
 exact Ei hu I2 g ry fun s3 I3=>⟨.bl (!ov.isSome),H2,I3,rfl,q2⟩
theorem yc (hu:X.A.units+1<cLine) (ho:PE X o td) (hi:PE X i ty) (hv:PE X value tv) (hs:swapsWith value (some (.Subscript o i pos')) pos.line X.env=pure false) :
  PS X (.Assign [.Subscript o i pos'] value pos) (CP td ty tv):=by
 intro pins s σ H D I h
 refine wpAny_Assign_Subscript (thn (hv pins s σ H _ I h) fun r s1 ⟨v,H1,I1,rv,q1⟩=>thn (ho pins s1 σ H1 _ I1 q1) fun u s2 ⟨x,H2,I2,rx,q2⟩=>thn (hi pins s2 σ H2 _ I2 q2) fun iv s3 ⟨y,H3,I3,ry,a,H4,ex,g,q3⟩=>?_) hs
 subst ex
 obtain rfl:u=Value.ref a:=rx
 exact Af hu I3 g ry rv fun s4 I4=>⟨σ,H4,I4,q3⟩
end
theorem BD {P:Program}{w:World}{H:Hp} (h:Heap) (hb:sysModules<h.objs.size):dD P w H (h.push { cls:=.type "dict",data:=.dict #[] }) h.objs.size (.dK []) :=
 ⟨Nat.zero_le _,beq_eq_false_iff_ne.mpr (Ne.symm (Nat.ne_of_lt hb)),[],.nil,Heap.DictOf.new h⟩
def Az:TE:=fun _ H Q=>∀p,H p=none→Q (.ref p) (upd H p (.dK []))
section
variable {X:Cx}{pos:Pos}
theorem vV:PE X (.Dict [] [] pos) Az:=fun pins s σ H Q I h =>
 wpAny_Dict_empty ⟨.ref s.heap.objs.size,_,I.laid (a:=s.heap.objs.size) (o:=.dK []) (t':=s.toks) (fun _ _ q=>Heap.get?_push_of_some _ q) (Nat.le_refl _) (BD s.heap I.big),rfl,h _ (I.hok.fresh (Nat.le_refl _))⟩
end
section
variable {X:Cx}{pins:List (Addr × Obj)}{σ:St}{H:Hp}{s:Shared}{a:Addr}{y d:V}{u r:Value}{o:Option V}{A:Around}{E:Value→Shared→Prop}
end
section
variable {X:Cx}{o e f:Expr}{apos cpos:Pos}{td ty tx:TE}
end
section
variable {X:Cx}{pins:List (Addr × Obj)}{σ:St}{H:Hp}{s:Shared}{a:Addr}{kvs:List (Key × V)}{A:Around}{E:Value→Shared→Prop}
end
section
variable {X:Cx}{pins:List (Addr × Obj)}{σ:St}{H:Hp}{s:Shared}{a:Addr}{y:V}{u:Value}{A:Around}{E:Value→Shared→Prop}
end
end L2
namespace L3
open PySem L2
def ST0 (K:PySem.W.Frag) (t:TS) (Γ Γn:List Nat) (d:DS):Prop :=
 ∀⦃B0:Hp⦄ ⦃Dn:Ends⦄ ⦃E:bh⦄ ⦃fps:Nat→List Addr⦄ ⦃δ:Dl⦄ ⦃σ:St⦄ ⦃H:Hp⦄,(∀{fps δ H},Ok K B0 Γn fps δ σ H→E.nx δ→Dn.nx σ H)→Ok K B0 Γ fps δ σ H→d E δ→t Dn σ H
section
variable {K:PySem.W.Frag}{ρ:Bool}{Γr Γl Γ Γ1 Γ2 Γn M:List Nat}{t u:TS}{te ta tb tx t1 t2:TE}{de da db dx d1 d2:DE}{d e:DS}
variable {B0:Hp}{fps:Nat→List Addr}{δ:Dl}{σ:St}{H H':Hp}
theorem ST0.st (h:ST0 K t Γ Γn d):ST K ρ Γr Γl t Γ Γn d:=fun _ _ _ _ _ _ _ k o q=>h (fun o' z=>k.nx o' z) o q
def jy (δ:Dl) (i:Nat) (P:Addr→D→Prop):Prop:=match δ[i]? with | some (some (.pin a d))=>P a d | _=>False
theorem iz {i:Nat}{P:Addr→D→Prop} (h:jy δ i P):∃a d,δ[i]?=some (some (.pin a d))∧P a d:=by
 unfold jy at h;split at h
 ·exact⟨_,_,by assumption,h⟩
 ·exact h.elim
theorem As {i:Nat}{P:Addr→D→Prop}{a:Addr}{x:D} (e:δ[i]?=some (some (.pin a x))) (h:P a x):jy δ i P:=by unfold jy;rw[e];exact h
theorem Ok.xO (o:Ok K B0 Γ fps δ σ H) {i:Nat}{x y:D} (e:δ[i]?=some (some x)) (h:∀v,σ[i]?=some (some v)→Rf K H x v (fps i)→Rf K H y v (fps i)):Ok K B0 Γ fps (δ.set i (some y)) σ H:=by
 have hl:i<δ.length:=(List.getElem?_eq_some_iff.mp e).1
 refine⟨by rw[List.length_set];exact o.len,o.b0,fun j d q=>?_,fun j q=>?_,o.own,o.dj⟩
 ·by_cases hj:j=i
  ·subst hj
   rw[List.getElem?_set_self hl] at q;cases q
   obtain ⟨v,h1,h2⟩:=o.val j x e
   exact⟨v,h1,h v h1 h2⟩
  ·rw[List.getElem?_set_ne (Ne.symm hj)] at q
   exact o.val j d q
 ·by_cases hj:j=i
  ·subst hj
   exact absurd (List.getElem?_set_self hl) (q y)
  ·exact o.non j fun d z=>q d (by rw[List.getElem?_set_ne (Ne.symm hj)];exact z)
def Ec (i:Nat) (d:DS) (E:bh) (δ:Dl):Prop:=jy δ i fun a x=>d { E with nx:=fun δ'=>mC i δ' fun x'=>E.nx (δ'.set i (some (.pin a x'))) } (δ.set i (some x))
theorem C0 (i:Nat) (h:ST0 K t Γ Γn d):ST0 K t Γ Γn (Ec i d):=by
 intro B0 Dn E fps δ σ H k o q
 obtain ⟨a,x,e,q⟩:=iz q
 obtain ⟨v,h1,h2⟩:=o.val i _ e
 obtain rfl:v=.ref a:=h2.1
 have o1:Ok K B0 Γ fps (δ.set i (some x)) σ H:=o.xO e fun _ _ z=>z.2
 refine h (E:={ E with nx:=fun δ'=>mC i δ' fun x'=>E.nx (δ'.set i (some (.pin a x'))) }) (fun {fps2 δ2 H2} o2 z=>?_) o1 q
 obtain ⟨x',e2,z⟩:=kC z
 exact k (o2.xO (y:=.pin a x') e2 fun v hv r=>⟨by rw[h1] at hv;cases hv;rfl,r⟩) z
theorem FD (i:Nat) (h:ST0 K t Γ Γn d):ST K ρ Γr Γl t Γ Γn (Ec i d):=(C0 i h).st
def Be (i:Nat) (δ:Dl) (P:DK):Prop:=jy δ i fun _ x=>P x
theorem mU (i:Nat):ER K Γ (eU i) (Be i):=⟨fun δ P P' k h=>by obtain ⟨a,x,e,z⟩:=iz h;exact As e (k _ z),fun {B0 fps δ σ H Q} o q=>by
 obtain ⟨a,x,e,q⟩:=iz q
 obtain ⟨v,e1,r⟩:=o.val i _ e
 exact⟨v,e1,q v H (aJ.refl H) ⟨_,r.2⟩⟩⟩
def D.isRef:D→Bool | .lst _=>true | .dic _=>true | .pin _ _=>true | .ins _ _ _=>true | _=>false
theorem Rf.isRef {x:D}{v:V}{fp:List Addr} (h:Rf K H x v fp) (e:x.isRef=true):∃a,v=.ref a:=by
 cases x with
 | lst ds=>obtain ⟨a,xs,fq,rfl,_⟩:=h;exact⟨a,rfl⟩
 | dic ds=>obtain ⟨a,rfl,_⟩:=h;exact⟨a,rfl⟩
 | pin a d=>exact⟨a,h.1⟩
 | ins C ns ds=>obtain ⟨a,dx,xs,fq,rfl,_⟩:=h;exact⟨a,rfl⟩
 | _=>cases e
abbrev DSI:=List D→(D→D→Prop)→Prop
def Bv (S:DSI):Prop:=∀xs (P P':D→D→Prop),(∀r x,P r x→P' r x)→S xs P→S xs P'
def A9 (K:PySem.W.Frag) (p:Nat) (vs:List V) (B:Hp) (Q:VK) (r x':D):Prop :=
 ∀w H' fp' fpw v,aJ B H'→vs[p]?=some v→Rf K H' x' v fp'→fp'.Nodup→(∀b∈fp',B b=none∧Mu H' b)→Rf K H' r w fpw→fpw.Nodup→(∀b∈fpw,B b=none∧Mu H' b∧b∉fp')→Q w H'
def spI (K:PySem.W.Frag) (p:Nat) (S:DSI):Sp:=fun vs H Q _=>∃B fv ds,Ok K B [p] fv (ds.map some) (vs.map some) H∧(∃a,vs[p]?=some (.ref a))∧S ds (A9 K p vs B Q)
theorem DN {p:Nat}{S:DSI}{n:Nat} (hS:∀ds P,S ds P→ds.length=n) {vs:List V}{H:Hp}{Q:VK}{E:XK} (h:spI K p S vs H Q E):vs.length=n:=by
 obtain ⟨B,fv,ds,o,_,h⟩:=h
 have:=o.len
 rw[List.length_map,List.length_map] at this
 rw[this];exact hS _ _ h
abbrev Et (p:Nat) (a:Addr) (P:D→D→Prop):bh:=⟨fun δ=>jy δ p fun a' x=>a'=a∧P .non x,fun r δ=>jy δ p fun a' x=>a'=a∧P r x,fun _=>False,fun _=>False⟩
theorem z5 {p:Nat}{N:List Str}{ds:List D}{vs:List V}{fv:Nat→List Addr}{a:Addr} (o:Ok K B0 [p] fv (ds.map some) (vs.map some) H) (ha:vs[p]?=some (.ref a)) {x:D} (hx:ds[p]?=some x) :
  Ok K B0 [p] fv (aZ N (ds.set p (.pin a x))) (L2.start N vs) H:=by
 have hl:vs.length=ds.length:=by have:=o.len;rwa [List.length_map,List.length_map] at this
 have hp:p<ds.length:=(List.getElem?_eq_some_iff.mp hx).1
 have o1:Ok K B0 [p] fv ((ds.map some).set p (some (.pin a x))) (vs.map some) H:=o.xO (x:=x) (by rw[List.getElem?_map,hx];rfl) fun v hv r=>⟨by rw[List.getElem?_map,ha] at hv;cases hv;rfl,r⟩
 have e:(ds.map some).set p (some (.pin a x))=(ds.set p (.pin a x)).map some:=by rw[List.map_set]
 rw[e] at o1
 have hl1:(ds.set p (.pin a x)).length=ds.length:=List.length_set
 generalize ds.set p (.pin a x)=ds1 at *
 unfold aZ L2.start
 refine⟨by rw[List.length_append,List.length_append,List.length_map,List.length_map,List.length_replicate,List.length_replicate];omega,o1.b0,fun i d q=>?_,fun i q=>?_,o1.own,o1.dj⟩
 ·by_cases hi:i<ds1.length
  ·rw[List.getElem?_append_left (by simpa using hi)] at q
   rw[List.getElem?_append_left (by rw[List.length_map];omega)]
   exact o1.val i d q
  ·rw[List.getElem?_append_right (by simpa using hi),List.getElem?_replicate] at q
   split at q<;>cases q
 ·refine o1.non i fun d z=>q d ?_
  have:i<ds1.length:=by simpa using (List.getElem?_eq_some_iff.mp z).1
  rw[List.getElem?_append_left (by simpa using this)]
  exact z
theorem DP {N:List Str}{p:Nat}{S:DSI} (hs:ST K true [p] [] t [p] Γn d) (hd:∀ds P a x,S ds P→ds[p]?=some x→d (Et p a P) (aZ N (ds.set p (.pin a x)))) (hΓ:p∈Γn:=by decide) (hS:∀ds P,S ds P→p<ds.length) :
  ∀{vs H Q E},spI K p S vs H Q E→t { nx:=fun _ H'=>Q .non H',rt:=Q } (L2.start N vs) H:=by
 rintro vs H Q E ⟨B,fv,ds,o,⟨a,ha⟩,h⟩
 have hlt:=hS _ _ h
 obtain ⟨x,hx⟩:∃x,ds[p]?=some x:=⟨_,List.getElem?_eq_getElem hlt⟩
 have fin:∀{Γ' fps δ σ H' r w fpw},p∈Γ'→Ok K B Γ' fps δ σ H'→Rf K H' r w fpw→fpw.Nodup→(∀b∈fpw,B b=none∧Mu H' b∧b∉fps p)→(jy δ p fun a' x=>a'=a∧A9 K p vs B Q r x)→Q w H':=by
  intro Γ' fps δ σ H' r w fpw hp o' rr nd fr z
  obtain ⟨a',x',e,ea,z2⟩:=iz z
  subst ea
  obtain ⟨v,h1,h2⟩:=o'.val p _ e
  obtain rfl:v=.ref a':=h2.1
  exact z2 w H' (fps p) fpw (.ref a') o'.b0 ha h2.2 (o'.own p hp).1 (fun b hb=>(o'.own p hp).2 b hb) rr nd fr
 refine hs (E:=Et p a (A9 K p vs B Q)) ⟨fun o' z=>?_,fun _ (z:False)=>z.elim,fun _ (z:False)=>z.elim,fun o' r i z=>?_⟩ (z5 o ha hx) (hd ds _ a x h hx)
 ·exact fin (r:=.non) (w:=.non) (fpw:=[]) hΓ o' ⟨rfl,rfl⟩ List.nodup_nil (fun b hb=>(nomatch hb)) z
 ·exact fin (List.mem_singleton.mpr rfl) o' r (i rfl).nd (fun b hb=>⟨(i rfl).nw b hb,(i rfl).mu b hb,(i rfl).dj p (List.mem_singleton.mpr rfl) b hb⟩) z
theorem Ok.GH (o:Ok K B0 Γ fps δ σ H) (j:Nat) {x:D}{v:V}{fp:List Addr} (r:Rf K H x v fp) (nd:fp.Nodup) (fr:∀b∈fp,B0 b=none∧Mu H b∧∀l,b∉fps l) :
  Ok K B0 (j::minus (minus Γ []) [j]) (fun l=>if l=j then (if j<δ.length then fp else []) else fps l) (δ.set j (some x)) (σ.set j (some v)) H:=by
 have mem:∀l,l∈j::minus (minus Γ []) [j]→l≠j→l∈Γ:=fun l hl hn=>by
  rcases List.mem_cons.mp hl with z | z
  ·exact absurd z hn
  ·exact (bA.mp (bA.mp z).1).1
 refine⟨by simp [o.len],o.b0,fun l d e=>?_,fun l h=>?_,fun l hl=>?_,fun l hl k hk a ha=>?_⟩
 ·by_cases h:l=j
  ·subst h
   rw[List.getElem?_set] at e
   by_cases hlt:l<δ.length
   ·simp [hlt] at e
    subst e
    exact⟨v,by rw[List.getElem?_set_self (by rw[o.len];exact hlt)],by rw[if_pos rfl,if_pos hlt];exact r⟩
   ·simp [hlt] at e
  ·rw[List.getElem?_set_ne (Ne.symm h)] at e
   rw[List.getElem?_set_ne (Ne.symm h),if_neg h]
   exact o.val l d e
 ·by_cases h':l=j
  ·subst h'
   rw[if_pos rfl]
   by_cases hlt:l<δ.length
   ·exact absurd (List.getElem?_set_self hlt) (h x)
   ·rw[if_neg hlt]
  ·rw[if_neg h']
   exact o.non l fun d z=>h d (by rw[List.getElem?_set_ne (Ne.symm h')];exact z)
 ·by_cases h:l=j
  ·subst h
   rw[if_pos rfl]
   split
   ·exact⟨nd,fun a ha=>⟨(fr a ha).1,(fr a ha).2.1⟩⟩
   ·exact⟨List.nodup_nil,fun a ha=>(nomatch ha)⟩
  ·rw[if_neg h]
   exact o.own l (mem l hl h)
 ·by_cases h:l=j
  ·subst h
   rw[if_pos rfl] at ha
   rw[if_neg hk]
   split at ha
   ·exact (fr a ha).2.2 k
   ·exact (nomatch ha)
  ·rw[if_neg h] at ha
   by_cases h2:k=j
   ·rw[if_pos h2]
    split
    ·exact fun z=>(fr a z).2.2 l ha
    ·exact List.not_mem_nil
   ·rw[if_neg h2]
    exact o.dj l (mem l hl h) k hk a ha
def BI (i p:Nat) (S:DSI) (da:DA) (E:bh) (δ:Dl):Prop:=da δ fun xs=>(∀x,xs[p]?=some x→x.isRef=true)∧S xs fun _ x'=>E.nx (δ.set i (some x'))
def EY (i p j:Nat) (S:DSI) (da:DA) (E:bh) (δ:Dl):Prop:=da δ fun xs=>(∀x,xs[p]?=some x→x.isRef=true)∧S xs fun r x'=>E.nx ((δ.set i (some x')).set j (some r))
end
end L3
namespace L2
open PySem PySem.Spec PyProof.Rows
section
variable {X:Cx}
def Bn (K:PySem.W.Frag):V→List V→Hp→VK→Prop:=fun x vs H Q=>∃(l:Addr) (xs:List V) (y:V) (j:Nat),x=.ref l∧vs=[y]∧H l=some (.lst xs)∧gF y=true∧xs.all gF=true∧(∃z,xs[j]?=some z∧eqV z y=true)∧(∀m z,m<j→xs[m]?=some z→eqV z y=false)∧Q (.int j) H
theorem Bo:MtM X "list.index" (Bn X.K):=by
 intro pins s σ H x vs v us Q I rx rv h
 obtain ⟨l,xs,y,j,rfl,rfl,hH,fy,fs,⟨z,hz,ez⟩,hb,q⟩:=h
 cases rx
 obtain ⟨u,rfl,ru⟩:=vals1 rv
 obtain ⟨hs,its,n,r,hl,e⟩:=I.tW hH
 have hj:j<xs.length:=(List.getElem?_eq_some_iff.mp hz).1
 have key:∀m (hm:m<its.toArray.size) w,xs[m]?=some w→eqU y its.toArray[m]=eqV w y:=fun m hm w hw=>by
  obtain ⟨u',hu',rw'⟩:=r.get hw
  have fw:gF w=true:=List.all_eq_true.mp fs w (List.mem_of_getElem? hw)
  have:its.toArray[m]=u':=by
   have:=(List.getElem?_eq_some_iff.mp hu').2
   simpa using this
  rw[this]
  exact xM rw' fw
 have hsz:its.toArray.size=xs.length:=by simp [hl]
 refine call_meets F.slot_list_index ⟨_,e,rfl⟩ F.entry_list_index (F.args_list_index_2 _ _) (SeqAt.list_indexAt l its.toArray n none #[] u (eqU y) j (by omega) ?_ ?_ (fun m hm hmj=>?_)) ⟨e,fun w hw=>jB ru fy r fs w (by simpa using hw),?_⟩
 ·have:sizeLine<2 ^ 63 - 1:=by decide
  omega
 ·rw[key j (by omega) z hz];exact ez
 ·have hm':m<xs.length:=by omega
  rw[key m hm _ (List.getElem?_eq_getElem hm')]
  exact hb m _ hmj (List.getElem?_eq_getElem hm')
 ·exact⟨.int j,H,I.tok _,⟨_,rfl⟩,q⟩
end
end L2
namespace L2
open PySem PySem.Spec PyProof.Rows
section
variable {X:Cx}{K:PySem.W.Frag}
end
end L2
namespace L2
open PySem PySem.Spec PyProof.Rows
end L2
namespace L3
open PySem L2
section
variable {K:PySem.W.Frag}{ρ:Bool}{Γr Γl Γ Γ1 Γ2 Γn M:List Nat}{t u:TS}{te ta tb td ty tv:TE}{de da db dd dk dv:DE}{d e:DS}
def ofV:V→D | .non=>.non | .bl b=>.bl b | .int i=>.int i | .str x=>.str x | _=>.non
theorem Rf.ofV {H:Hp}{v:V} (h:gF v=true):Rf K H (ofV v) v []:=by
 cases v<;>first | exact⟨rfl,rfl⟩ | cases h
theorem yV:EM K Γ [] Az (vC (.dic [])):=⟨fun _ _ _ k h=>k _ h,fun {B0 fps δ σ H Q} o q p hp=>q (.ref p) _ [p] (aJ.lP hp) ⟨p,rfl,aK,fun _ h=>(nomatch h),rfl⟩
 ⟨by simp,fun a ha=>by cases List.mem_singleton.mp ha;exact .inr (.inl ⟨_,aK⟩),fun a ha=>by cases List.mem_singleton.mp ha;exact .inl hp⟩⟩
def pR (x:D) (P:List (Key × V)→Prop):Prop:=match x with | .dic kvs=>P kvs | _=>False
theorem gQ {x:D}{P:List (Key × V)→Prop} (h:pR x P):∃kvs,x=.dic kvs∧P kvs:=by
 unfold pR at h;split at h
 ·exact⟨_,rfl,h⟩
 ·exact h.elim
theorem sM {kvs:List (Key × V)}{P:List (Key × V)→Prop}:pR (.dic kvs) P↔P kvs:=Iff.rfl
def asV (o:Option V) (P:V→Prop):Prop:=match o with | some v=>P v | none=>False
theorem yt {o:Option V}{P:V→Prop} (h:asV o P):∃v,o=some v∧P v:=by
 unfold asV at h;split at h
 ·exact⟨_,rfl,h⟩
 ·exact h.elim
theorem uN {o:Option V}{v:V}{P:V→Prop} (e:o=some v) (h:P v):asV o P:=by rw[e];exact h
def B7 (dd dk:DE) (δ:Dl) (P:DK):Prop:=dd δ fun x=>dk δ fun y=>asI [y] fun n=>pR x fun kvs=>asV (iq kvs (.inl n)) fun v=>P (ofV v)
theorem Aj {kvs:List (Key × V)}{k:Key}{v:V} (h:iq kvs k=some v):∃p∈kvs,p.2=v:=by
 unfold iq at h
 cases q:kvs.find? fun kv=>decide (kv.1=k) with
 | none=>rw[q] at h;cases h
 | some p=>rw[q] at h;cases h;exact⟨p,List.mem_of_find?_eq_some q,rfl⟩
theorem yj (hd:ER K Γ td dd) (hk:ER K Γ ty dk):ER K Γ (Eu td ty) (B7 dd dk) :=
 ⟨fun δ P P' k h=>hd.mono _ _ _ (fun x z=>hk.mono _ _ _ (fun y z=>by
   obtain ⟨n,rfl,z⟩:=cW z
   obtain ⟨kvs,rfl,z⟩:=gQ z
   obtain ⟨v,e,z⟩:=yt z
   exact uN e (k _ z)) z) h,
 fun {B0 fps δ σ H Q} o h=>hd.run o (hd.mono _ _ _ (fun x z v H1 s1 r1=>hk.run (o.same s1) (hk.mono _ _ _ (fun y z w H2 s2 r2=>by
   obtain ⟨n,rfl,z⟩:=cW z
   obtain ⟨kvs,rfl,z⟩:=gQ z
   obtain ⟨u,e,z⟩:=yt z
   obtain ⟨fp,a,rfl,ha,hf,_⟩:=r1
   obtain ⟨p,hp,rfl⟩:=Aj e
   refine⟨a,p.2,rfl,?_,z _ H2 (s1.trans s2) ⟨[],Rf.ofV (hf p hp)⟩⟩
   rw[r2.int]
   have:=pK.k (k:=Sum.inl n) (s2 _ _ ha)
   rw[e] at this
   exact this) z)) h)⟩
def GR (neg:Bool) (dk dd:DE) (δ:Dl) (P:DK):Prop:=dk δ fun y=>dd δ fun x=>asI [y] fun n=>pR x fun kvs=>P (.bl (if neg then !(iq kvs (.inl n)).isSome else (iq kvs (.inl n)).isSome))
theorem zr (hk:ER K Γ ty dk) (hd:ER K Γ td dd):EM K Γ [] (xZ ty td) (GR true dk dd) :=
 ⟨fun δ P P' k h=>hk.mono _ _ _ (fun x z=>hd.mono _ _ _ (fun y z=>by
   obtain ⟨n,rfl,z⟩:=cW z
   obtain ⟨kvs,rfl,z⟩:=gQ z
   exact k _ z) z) h,
 fun {B0 fps δ σ H Q} o h=>hk.run o (hk.mono _ _ _ (fun x z v H1 s1 r1=>hd.run (o.same s1) (hd.mono _ _ _ (fun y z w H2 s2 r2=>by
   obtain ⟨n,rfl,z⟩:=cW z
   obtain ⟨kvs,rfl,z⟩:=gQ z
   obtain ⟨fp,a,rfl,ha,hf,_⟩:=r2
   rw[r1.int]
   exact⟨a,_,rfl,pK.k (k:=Sum.inl n) ha,z _ H2 [] (s1.trans s2) ⟨rfl,rfl⟩ Nw.nil⟩) z)) h)⟩
theorem rP {kvs:List (Key × V)}{k:Key}{v:V} (h:∀p∈kvs,gF p.2=true) (hv:gF v=true):∀p∈putK kvs k v,gF p.2=true:=by
 intro p hp
 unfold putK at hp
 split at hp
 ·obtain ⟨q,hq,rfl⟩:=List.mem_map.mp hp
  split
  ·exact hv
  ·exact h q hq
 ·rcases List.mem_append.mp hp with z | z
  ·exact h p z
  ·cases List.mem_singleton.mp z;exact hv
def A5 (δ:Dl) (i:Nat) (P:List (Key × V)→Prop):Prop:=mC i δ fun x=>pR x P
def Av (i:Nat) (dk dv:DE) (E:bh) (δ:Dl):Prop:=dv δ fun x=>x.aY=true∧A5 δ i fun kvs=>dk δ fun y=>asI [y] fun n=>kvs.length<1000∧E.nx (δ.set i (some (.dic (putK kvs (.inl n) x.toV))))
theorem B3 (i:Nat) (hk:ER K Γ ty dk) (hv:ER K Γ tv dv) (hi:i∈Γ:=by decide):ST0 K (CP (eU i) ty tv) Γ Γ (Av i dk dv):=by
 intro B0 Dn E fps δ σ H k o h
 refine hv.run o (hv.mono _ _ _ (fun x z v H1 s1 r=>?_) h)
 obtain ⟨zs,z⟩:=z
 obtain ⟨fp,r⟩:=r
 obtain ⟨rfl,rfl⟩:=r.aY zs
 obtain ⟨d,e,z⟩:=kC z
 obtain ⟨kvs,rfl,z⟩:=gQ z
 have o1:=o.same s1
 obtain ⟨v,h1,h2⟩:=o1.val i _ e
 obtain ⟨a,rfl,ha,hf,hfp⟩:=id h2
 refine⟨.ref a,h1,hk.run o1 (hk.mono _ _ _ (fun y z w H2 s2 r2=>?_) z)⟩
 obtain ⟨n,rfl,z⟩:=cW z
 have o2:=o1.same s2
 refine⟨a,upd H2 a (.dK (putK kvs (.inl n) x.toV)),rfl,?_,k (o2.write hi (d':=.dic (putK kvs (.inl n) x.toV)) (fp':=[a]) h1 ⟨a,rfl,aK,rP hf (iA zs),rfl⟩ (by simp) (fun b hb=>?_) (fun b hb=>?_) ?_) z.2⟩
 ·rw[r2.int]
  exact u0.k (k:=Sum.inl n) (s2 _ _ ha) (nz (Nat.le_of_lt z.1))
 ·cases List.mem_singleton.mp hb;exact .inr (.inl ⟨_,aK⟩)
 ·cases List.mem_singleton.mp hb;rw[hfp];exact .inl (List.mem_singleton.mpr rfl)
 ·rw[hfp];exact mW (List.mem_singleton.mpr rfl)
def xN (da dk:DE) (δ:Dl) (P:DK):Prop:=da δ fun x=>oj (some x) fun ds=>ds.all D.aY=true∧dk δ fun y=>y.aY=true∧∃j:Nat,(∃z,ds[j]?=some z∧eqV z.toV y.toV=true)∧(∀m z,m<j→ds[m]?=some z→eqV z.toV y.toV=false)∧P (.int j)
theorem Ap (ha:ER K Γ ta da) (hk:ER K Γ ty dk):EM K Γ [] (tBM K "list" (Bn K) ta (eZ ty lI)) (xN da dk) :=
 ⟨fun δ P P' k h=>ha.mono _ _ _ (fun x z=>by
   obtain ⟨ds,e,z1,z⟩:=kJ z
   refine mh e ⟨z1,hk.mono _ _ _ (fun y z=>?_) z⟩
   obtain ⟨z0,j,z2,z3,z4⟩:=z
   exact⟨z0,j,z2,z3,k _ z4⟩) h,
 fun {B0 fps δ σ H Q} o h=>by
  refine ha.run o (ha.mono _ _ _ (fun x z v H1 s1 r1=>?_) h)
  obtain ⟨ds,e,z1,z'⟩:=kJ z
  clear z
  cases e
  obtain ⟨fp,a,xs,fq,rfl,hl,_,rs⟩:=r1
  obtain ⟨rfl,_⟩:=rs.i7 z1
  refine⟨.inl ⟨rfl,_,.inl (.inl hl)⟩,hk.run (o.same s1) (hk.mono _ _ _ (fun y z w H2 s2 r2=>?_) z')⟩
  obtain ⟨z0,j,⟨u,hu,eu⟩,z3,z4⟩:=z
  obtain ⟨fp2,r2⟩:=r2
  obtain ⟨rfl,_⟩:=r2.aY z0
  refine⟨a,_,_,j,rfl,rfl,s2 _ _ hl,iA z0,?_,⟨u.toV,by rw[List.getElem?_map,hu];rfl,eu⟩,fun m w hm hw=>?_,z4 _ H2 [] (s1.trans s2) ⟨rfl,rfl⟩ Nw.nil⟩
  ·rw[List.all_map,List.all_eq_true]
   rw[List.all_eq_true] at z1
   exact fun y hy=>iA (z1 y hy)
  ·rw[List.getElem?_map] at hw
   cases q:ds[m]? with
   | none=>rw[q] at hw;cases hw
   | some d=>rw[q] at hw;cases hw;exact z3 m d hm q⟩
def HB (xs:List D) (P:DK):Prop:=match xs with | [x]=>u6 x fun ns=>ns.length<64∧∀ms:List Int,ms.Perm ns→ms.Pairwise (·≤·)→P (dI ms) | _=>False
theorem ph {ns:List Int}{P:DK}:HB [dI ns] P↔ns.length<64∧∀ms:List Int,ms.Perm ns→ms.Pairwise (·≤·)→P (dI ms):=jG
theorem Ok.drop {B0:Hp}{fps:Nat→List Addr}{δ:Dl}{σ:St}{H H':Hp} (o:Ok K B0 Γ fps δ σ H) {i:Nat} (hi:i∈Γ) (keep:∀b u,b∉fps i→H b=some u→H' b=some u):Ok K B0 (minus Γ [i]) (fun j=>if j=i then [] else fps j) (δ.set i none) σ H':=by
 refine⟨by simp [o.len],fun b u e=>?_,fun j d e=>?_,fun j h=>?_,fun j hj=>?_,fun j hj k hk a ha=>?_⟩
 ·refine keep b u (fun z=>?_) (o.b0 b u e)
  have:=((o.own i hi).2 b z).1
  rw[e] at this;cases this
 ·by_cases h:j=i
  ·subst h
   rw[List.getElem?_set] at e
   by_cases hl:j<δ.length
   ·simp [hl] at e
   ·simp [hl] at e
  ·rw[List.getElem?_set_ne (Ne.symm h)] at e
   obtain ⟨w,h1,h2⟩:=o.val j d e
   refine⟨w,h1,?_⟩
   rw[if_neg h]
   exact h2.mono (fun a ha u e=>keep a u (fun z=>o.dj i hi j h a z ha) e) fun a u e im=>keep a u (fun z=>((o.own i hi).2 a z).2.jV u e im) e
 ·by_cases h':j=i
  ·rw[if_pos h']
  ·rw[if_neg h']
   exact o.non j fun d z=>h d (by rw[List.getElem?_set_ne (Ne.symm h')];exact z)
 ·obtain ⟨g1,g2⟩:=bA.mp hj
  have h:j≠i:=fun z=>g2 (List.mem_singleton.mpr z)
  rw[if_neg h]
  refine⟨(o.own j g1).1,fun a ha=>⟨((o.own j g1).2 a ha).1,?_⟩⟩
  have hn:a∉fps i:=fun z=>o.dj i hi j h a z ha
  rcases ((o.own j g1).2 a ha).2 with ⟨x,z⟩ | ⟨x,z⟩ | ⟨x,z⟩ | ⟨C,dx,fs,z⟩
  ·exact .inl ⟨x,keep a _ hn z⟩
  ·exact .inr (.inl ⟨x,keep a _ hn z⟩)
  ·exact .inr (.inr (.inl ⟨x,keep a _ hn z⟩))
  ·exact .inr (.inr (.inr ⟨C,dx,fs,keep a _ hn z⟩))
 ·obtain ⟨g1,g2⟩:=bA.mp hj
  have h:j≠i:=fun z=>g2 (List.mem_singleton.mpr z)
  rw[if_neg h] at ha
  split
  ·exact List.not_mem_nil
  ·exact o.dj j g1 k hk a ha
def qk (δ:Dl) (i:Nat) (P:List D→Prop):Prop:=match δ[i]? with | some (some (.tup ds))=>P ds | _=>False
theorem Ah {δ:Dl}{i:Nat}{P:List D→Prop} (h:qk δ i P):∃ds,δ[i]?=some (some (.tup ds))∧P ds:=by
 unfold qk at h;split at h
 ·exact⟨_,by assumption,h⟩
 ·exact h.elim
def xU (i:Nat) (dk:DE) (E:bh) (δ:Dl):Prop:=qk δ i fun ds=>dk δ fun y=>asI [y] fun m=>0≤m∧oj (ds[m.toNat]?) fun _=>E.nx (δ.set i none)
theorem rM {ds:List D}:(D.lst ds).isRef=true:=rfl
theorem sd {ds:List (Key × V)}:(D.dic ds).isRef=true:=rfl
theorem yI {i:Int}:ofV (.int i)=.int i:=rfl
theorem Bw {b:Bool}:ofV (.bl b)=.bl b:=rfl
theorem yo:ofV .non=.non:=rfl
def Hr (xs:List D) (P:DK):Prop:=match xs with | [.dic kvs]=>P (.int kvs.length) | _=>False
theorem si {kvs:List (Key × V)}{P:DK}:Hr [.dic kvs] P↔P (.int kvs.length):=Iff.rfl
end
end L3
namespace Mat
theorem sy:∀{l l':List Nat},l.Nodup→(∀x∈l,x∈l')→l.length≤l'.length
 | [],_,_,_=>Nat.zero_le _
 | x::l,l',h,s=>by
  obtain ⟨h1,h2⟩:=List.nodup_cons.mp h
  have hx:=s x List.mem_cons_self
  have:=sy (l':=l'.erase x) h2 fun y hy=>(List.mem_erase_of_ne (fun z=>h1 (by rw[← z];exact hy))).mpr (s y (List.mem_cons_of_mem _ hy))
  rw[List.length_erase_of_mem hx] at this
  have:0<l'.length:=List.length_pos_of_mem hx
  rw[List.length_cons];omega
theorem wx {l:List Nat}{n:Nat} (h:l.Nodup) (hl:∀x∈l,x<n):l.length≤n:=by
 have:=sy h (l':=List.range n) fun x hx=>List.mem_range.mpr (hl x hx)
 rwa [List.length_range] at this
def put (src:Nat→Option Nat) (c s:Nat):Nat→Option Nat:=fun d=>if d=c then some s else src d
end Mat
namespace Mat
end Mat
namespace Mat
end Mat
namespace L2
open PySem PySem.Spec PyProof.Rows
theorem iH.cons {i k:Nat}{u:TGs} (h:i<k) (hu:iH k u):iH k (vM (gH i) u):=fun x σ H Q ⟨v,r,e,q⟩=>⟨v,r,e,by
 have q2:=hu r (σ.set i (some v)) H Q q
 have e1:(fun (σ2:St) (H2:Hp)=>Q σ2 H2∧σ2.length=(σ.set i (some v)).length∧∀j,k≤j→σ2[j]?=(σ.set i (some v))[j]?)=fun σ2 H2=>Q σ2 H2∧σ2.length=σ.length∧∀j,k≤j→σ2[j]?=σ[j]?:=by
  funext σ2 H2
  refine propext ⟨fun z=>⟨z.1,by rw[z.2.1,List.length_set],fun j hj=>by rw[z.2.2 j hj,List.getElem?_set_ne (by omega)]⟩,fun z=>⟨z.1,by rw[z.2.1,List.length_set],fun j hj=>by rw[z.2.2 j hj,List.getElem?_set_ne (by omega)]⟩⟩
 rw[e1] at q2
 exact q2⟩
theorem fB.tup {K:PySem.W.Frag}{k n:Nat}{u:TGs} (hu:iH k u):fB k (Dt K n u):=fun x σ H Q ⟨a,xs,e,hs,hl,q⟩=>⟨a,xs,e,hs,hl,hu xs σ H Q q⟩
end L2
namespace L3
open PySem L2
section
variable {K:PySem.W.Frag}{ρ:Bool}{Γr Γl Γ Γ1 Γ2 Γn M:List Nat}{t u:TS}{te ta tb:TE}{de da db:DE}{d e:DS}
theorem Ok.EU {B0:Hp}{fps:Nat→List Addr}{δ:Dl}{σ σ':St}{H:Hp} (o:Ok K B0 Γ fps δ σ H) (j:Nat) (hj:j∉Γ) (hl:σ'.length=σ.length) (hs:∀l,l≠j→σ'[l]?=σ[l]?):Ok K B0 Γ (fun i=>if i=j then [] else fps i) (δ.set j none) σ' H:=by
 refine⟨by simp [o.len,hl],o.b0,fun i d e=>?_,fun i h=>?_,fun i hi=>?_,fun i hi k hk a ha=>?_⟩
 ·by_cases h:i=j
  ·subst h
   rw[List.getElem?_set] at e
   by_cases hl:i<δ.length
   ·simp [hl] at e
   ·simp [hl] at e
  ·rw[List.getElem?_set_ne (Ne.symm h)] at e
   rw[hs i h,if_neg h]
   exact o.val i d e
 ·by_cases h':i=j
  ·rw[if_pos h']
  ·rw[if_neg h'];exact o.non i fun d z=>h d (by rw[List.getElem?_set_ne (Ne.symm h')];exact z)
 ·have h:i≠j:=fun z=>hj (by rw[← z];exact hi)
  rw[if_neg h];exact o.own i hi
 ·have h:i≠j:=fun z=>hj (by rw[← z];exact hi)
  rw[if_neg h] at ha
  split
  ·exact List.not_mem_nil
  ·exact o.dj i hi k hk a ha
def uW (i j:Nat) (k:Nat) (E:bh) (δ:Dl):Prop:=fZ δ i fun ds=>j<δ.length∧(∀(m:Nat) (d:D),ds[m]?=some d→∃(es e:List D),d=D.tup es∧es[k]?=some (D.lst e))∧E.nx ((δ.set j none).set i (some (.lst [])))
end
end L3
namespace L3
open PySem L2
end L3
namespace Bir
section
variable {κ:Type} [DecidableEq κ]
end
def S (m:Nat) (f:Nat→Int):Int:=((List.range m).map f).sum
theorem pW {m:Nat}{f:Nat→Int}:S (m+1) f=S m f+f m:=by
 unfold S;rw[List.range_succ,List.map_append,List.sum_append];simp
theorem xh {f:Nat→Int}:S 0 f=0:=rfl
theorem yW {a:Int}:∀{m:Nat},S m (fun _=>a)=(m:Int)*a
 | 0=>by rw[xh];simp
 | m+1=>by rw[pW,yW,show ((m+1:Nat):Int)=(m:Int)+1 by omega,Int.add_mul];omega
theorem AE {f g:Nat→Int}:∀{m:Nat},(∀i,i<m→f i≤g i)→S m f≤S m g
 | 0,_=>Int.le_refl _
 | m+1,h=>by
  rw[pW,pW]
  have:=AE (m:=m) fun i hi=>h i (by omega)
  have:=h m (by omega)
  omega
abbrev Cd:=Option (Nat × Nat)
def e (p:List Nat) (i j:Nat):Int:=if p[i]?=some j then 1 else 0
def fn (m r c:Nat):Cd→Int
 | none=>if r=m then (if c=m then 1 - (m:Int) else 1) else (if c=m then 1 else 0)
 | some (i,j)=>if r=m then (if c=m then 1 else if j=c then -1 else 0) else (if c=m then (if i=r then -1 else 0) else if i=r∧j=c then 1 else 0)
end Bir
namespace Bir
open L3
theorem vX {f:Nat→Int}{m:Nat} (h:∀i,i<m→0≤f i):0≤S m f:=by
 have:=AE (f:=fun _=>0) (g:=f) (m:=m) h
 rw[yW] at this
 omega
end Bir
namespace L2
open PySem
end L2
namespace L3
open PySem L2
section
variable {K:PySem.W.Frag}{ρ:Bool}{Γr Γl Γ Γ1 Γ2 Γn M:List Nat}{t u:TS}{te ta tb td ty tv ti:TE}{de da db dd dk dv di:DE}{d e:DS}
theorem Rfs.xb {H:Hp}:∀{ds:List D}{vs:List V}{fp:List Addr}{i:Nat}{d:D},Rfs K H ds vs fp→fp.Nodup→ds[i]?=some d→∃v f,vs[i]?=some v∧Rf K H d v f∧(∀a∈f,a∈fp)∧f.Nodup
 | [],_,_,_,_,_,_,e=>by simp at e
 | d::ds,vs,fp,0,d',h,n,e=>by
  obtain ⟨x,r,f1,f2,rfl,rfl,h1,h2⟩:=h
  simp at e;subst e
  exact⟨x,f1,rfl,h1,fun a ha=>List.mem_append_left _ ha,(List.nodup_append.mp n).1⟩
 | d::ds,vs,fp,i+1,d',h,n,e=>by
  obtain ⟨x,r,f1,f2,rfl,rfl,h1,h2⟩:=h
  obtain ⟨v,f,e1,h3,k,n'⟩:=Rfs.xb (i:=i) h2 (List.nodup_append.mp n).2.1 (by simpa using e)
  exact⟨v,f,by simpa using e1,h3,fun a ha=>List.mem_append_right _ (k a ha),n'⟩
def Fy (xs:List D) (P:DK):Prop:=match xs with | [x]=>asL x fun ds=>ds.all D.aY=true∧P (.tup ds) | _=>False
theorem qA {ds:List D}{P:DK}:Fy [.lst ds] P↔ds.all D.aY=true∧P (.tup ds):=Iff.rfl
def HD (ns:List Int):List Key:=ns.map fun n=>.inl n
def El (x:D) (P:List Int→Prop):Prop:=match x with | .tup ds=>(match iu ds with | some ns=>P ns | none=>False) | _=>False
theorem yU {ns:List Int}{P:List Int→Prop}:El (.tup (ns.map D.int)) P↔P ns:=by
 unfold El
 show (match iu (ns.map D.int) with | some ns=>P ns | none=>False)↔P ns
 rw[iS]
def Bc (x:D) (P:List (List Key × V)→Prop):Prop:=match x with | .dit kvs=>P kvs | _=>False
theorem sR {kvs:List (List Key × V)}{P:List (List Key × V)→Prop}:Bc (.dit kvs) P↔P kvs:=Iff.rfl
def EA (dk dd:DE) (δ:Dl) (P:DK):Prop:=dk δ fun y=>dd δ fun x=>El y fun ns=>Bc x fun kvs=>P (.bl (iq kvs (HD ns)).isSome)
def Cw (i:Nat) (dk dv:DE) (E:bh) (δ:Dl):Prop:=dv δ fun x=>x.aY=true∧mC i δ fun d=>Bc d fun kvs=>dk δ fun y=>El y fun ns=>kvs.length<1000∧E.nx (δ.set i (some (.dit (putK kvs (HD ns) x.toV))))
end
end L3
namespace L3
open PySem L2
section
variable {K:PySem.W.Frag}{Γ:List Nat}
def HW (xs:List D) (P:DK):Prop:=match xs with | [x]=>asL x fun ds=>P (.tup ds) | _=>False
theorem sf {ds:List D}{P:DK}:HW [.lst ds] P↔P (.tup ds):=Iff.rfl
end
end L3
namespace L3
open PySem L2
section
variable {K:PySem.W.Frag}{ρ:Bool}{Γr Γl Γ:List Nat}
def wc (i j k:Nat) (E:bh) (δ:Dl):Prop:=qk δ i fun es=>j<δ.length∧oj (es[k]?) fun ds=>(∀d∈ds,∃e,d=D.lst e)∧E.nx ((δ.set j none).set i none)
end
end L3
namespace L2
open PySem PySem.Spec PyProof.Rows
theorem bq {X:Cx}{K:PySem.W.Frag}{e:Expr}{f:Str}{pos:Pos}{ta:TE} (hK:X.K=K) (he:PE X e ta) (hb:attributeBase e f X.env (eval e X.env)=eval e X.env):PE X (.Attribute e f pos) (uv K ta f):=hK▸FR he hb
theorem ix {X:Cx}{K:PySem.W.Frag}{o value:Expr}{f:Str}{pos pos':Pos}{ta tv:TE} (hK:X.K=K) (ha:PE X o ta) (hv:PE X value tv) (hs:swapsWith value (some (.Attribute o f pos')) pos.line X.env=pure false):PS X (.Assign [.Attribute o f pos'] value pos) (wY K ta tv f):=hK▸GU ha hv hs
structure oG (K:PySem.W.Frag) (C:Addr) (x qual:Str) (st:Stmt) (ps:List Str) (f:Addr) (fd:FuncData):Prop where
 fn:Fun K x qual st f fd
 mt:Meth K C x f
 bd:Binds K fd ps []
structure Ag (K:PySem.W.Frag) (mg:Str→Option Value) (n:Str) (C:Addr) (qual:Str) (st:Stmt) (ps:List Str) (f:Addr) (fd:FuncData):Prop where
 fn:Fun K "__init__" qual st f fd
 mkk:Mk K C f
 bd:Binds K fd ps []
 mg:mg n=some (.ref C)
structure HR (K:PySem.W.Frag) (C:Addr):Prop where
 cl:Cls K C
 ha:PySem.W.findIn K (.ref C) "__class__" = some (some (.builtin "object.__class__"))
 hn:PySem.W.specialIn K (.builtin "object.__class__") "__get__" = some (some (.builtin "getset_descriptor.__get__"))
 ht:PySem.W.takesIn K (.builtin "object.__class__")=some true
 hm:PySem.W.mroIn K C (.type "object")=some true
theorem bH {f:Str}{v:V}:∀{ns:List Str}{xs:List V}{i:Nat},ns.Nodup→ns[i]?=some f→xs[i]?=some v→(ns.zip xs).lookup f=some v
 | [],_,i,_,e,_=>by simp at e
 | _::_,[],i,_,_,e=>by simp at e
 | n::ns,x::xs,0,_,e1,e2=>by
  simp at e1 e2
  subst e1;subst e2
  simp
 | n::ns,x::xs,i+1,hd,e1,e2=>by
  obtain ⟨h1,h2⟩:=List.nodup_cons.mp hd
  simp only[List.getElem?_cons_succ] at e1 e2
  have hne:f≠n:=fun z=>h1 (z▸List.mem_of_getElem? e1)
  rw[List.zip_cons_cons,List.lookup_cons,beq_eq_false_iff_ne.mpr hne]
  exact bH h2 e1 e2
theorem fN {f:Str}:∀{ns:List Str}{xs:List V},f∉ns→(ns.zip xs).lookup f=none
 | [],_,_=>by simp
 | _::_,[],_=>by simp
 | n::ns,x::xs,h=>by
  have hne:f≠n:=fun z=>h (z▸List.mem_cons_self)
  rw[List.zip_cons_cons,List.lookup_cons,beq_eq_false_iff_ne.mpr hne]
  exact fN fun z=>h (List.mem_cons_of_mem _ z)
theorem vk {f:Str}{v:V}:∀{ns:List Str}{xs:List V},f∉ns→ns.length=xs.length→jl f v (ns.zip xs)=(ns++[f]).zip (xs++[v])
 | [],[],_,_=>rfl
 | [],_::_,_,h=>by simp at h
 | _::_,[],_,h=>by simp at h
 | n::ns,x::xs,h,hl=>by
  have hne:n≠f:=fun z=>h (z▸List.mem_cons_self)
  rw[List.zip_cons_cons,jl,if_neg hne,vk (fun z=>h (List.mem_cons_of_mem _ z)) (by simpa using hl)]
  rfl
end L2
namespace L3
open PySem L2
section
variable {K:PySem.W.Frag}{Γ M:List Nat}{t u ta tb:TE}{d e da db:DE}{C:Addr}{ns:List Str}{f:Str}
def asF (C:Addr) (ns:List Str) (i:Nat) (x:D) (P:DK):Prop:=match x with | .ins C' ns' ds=>(C'=C∧ns'=ns)∧asO (ds[i]?) P | _=>False
theorem tO {ds:List D}{i:Nat}{P:DK}:asF C ns i (.ins C ns ds) P=asO (ds[i]?) P:=by
 unfold asF
 simp
theorem tL {x:D}{i:Nat}{P:DK} (h:asF C ns i x P):∃ds y,x=.ins C ns ds∧ds[i]?=some y∧P y:=by
 cases x with
 | ins C' ns' ds =>
  obtain ⟨⟨rfl,rfl⟩,h⟩:=h
  obtain ⟨y,e,h⟩:=Ef h
  exact⟨ds,y,rfl,e,h⟩
 | _=>exact h.elim
theorem v8 {x:D}{i:Nat}{P P':DK} (k:∀z,P z→P' z) (h:asF C ns i x P):asF C ns i x P':=by
 obtain ⟨ds,y,rfl,e,h⟩:=tL h
 rw[tO,e]
 exact k _ h
def D6 (C:Addr) (ns:List Str) (i:Nat) (da:DE) (δ:Dl) (P:DK):Prop:=da δ fun x=>asF C ns i x P
theorem FW (ns:List Str) (i:Nat) (hc:Cls K C) (hn:cL K C f) (ha:ER K Γ ta da) (hi:ns[i]?=some f:=by rfl) (hd:ns.Nodup:=by decide +kernel):ER K Γ (uv K ta f) (D6 C ns i da) :=
 ⟨fun δ P P' k h=>ha.mono _ _ _ (fun x z=>v8 k z) h,
 fun o q=>ha.run o (ha.mono _ _ _ (fun x z v H1 s1 r1=>by
  obtain ⟨ds,y,rfl,e,z⟩:=tL z
  obtain ⟨fp,a,dx,xs,fq,rfl,hH,_,hr⟩:=r1
  obtain ⟨w,f',e1,r3,_⟩:=hr.get e
  exact⟨a,C,dx,_,w,rfl,hH,hc,hn,bH hd hi e1,z w H1 s1 ⟨f',r3⟩⟩) q)⟩
theorem cN (ns:List Str) (i:Nat) (hc:Cls K C) (hn:cL K C f) (ha:ES K Γ ta da) (hi:ns[i]?=some f:=by rfl) (hd:ns.Nodup:=by decide +kernel):ES K Γ (uv K ta f) (D6 C ns i da) :=
 ⟨fun δ P P' k h=>ha.mono _ _ _ (fun x z=>v8 k z) h,
 fun o q=>ha.run o (ha.mono _ _ _ (fun x z v H1 fp s1 r1 n1=>by
  obtain ⟨ds,y,rfl,e,z⟩:=tL z
  obtain ⟨a,dx,xs,fq,rfl,hH,rfl,hr⟩:=r1
  obtain ⟨w,f',e1,r3,k⟩:=hr.get e
  exact⟨a,C,dx,_,w,rfl,hH,hc,hn,bH hd hi e1,z w H1 f' s1 r3 fun j hj b hb=>n1 j hj b (List.mem_cons_of_mem _ (k b hb))⟩) q)⟩
def isI (C:Addr) (ns:List Str) (x:D):Prop:=match x with | .ins C' ns' _=>C'=C∧ns'=ns | _=>False
theorem yA {ds:List D}:isI C ns (.ins C ns ds)=True:=by
 unfold isI
 simp
theorem CY {x:D} (h:isI C ns x):∃ds,x=.ins C ns ds:=by
 cases x with
 | ins C' ns' ds=>obtain ⟨rfl,rfl⟩:=h;exact⟨ds,rfl⟩
 | _=>exact h.elim
def A2 (C:Addr) (ns:List Str) (S:DSp) (da:DE) (dr:DA) (δ:Dl) (P:DK):Prop:=da δ fun x=>isI C ns x∧dr δ fun xs=>S (x::xs) P
theorem yC {m:Str}{S:DSp}{E:XK}{w:TA}{dr:DA} (ns:List Str) (hS:cE S) (ha:ER K Γ ta da) (hr:AR K Γ w dr) (hm:m∉ns:=by decide +kernel):EM K Γ [] (uV C m (spP K S) [] E ta w) (A2 C ns S da dr) :=
 ⟨fun δ P P' k h=>ha.mono _ _ _ (fun x z=>⟨z.1,hr.mono _ _ _ (fun y z=>hS _ _ _ k z) z.2⟩) h,
 fun {B0 fps δ σ H Q} o q=>ha.run o (ha.mono _ _ _ (fun x z v H1 s1 r1=>by
  obtain ⟨z1,z2⟩:=z
  obtain ⟨ds,rfl⟩:=CY z1
  obtain ⟨fp,a,dx,xs,fq,rfl,hH,e,hq⟩:=id r1
  refine⟨a,dx,_,rfl,hH,fN hm,hr.run (o.same s1) (hr.mono _ _ _ (fun ys z vs H2 s2 r2=>?_) z2)⟩
  obtain ⟨f1,r1'⟩:=r1.same s2
  obtain ⟨f2,r2'⟩:=r2
  exact⟨.ins C ns ds::ys,⟨f1++f2,_,_,f1,f2,by rw[List.append_nil],rfl,r1',r2'⟩,hS _ _ _ (fun u z u' H' fp s r n=>z u' H' fp ((s1.trans s2).trans s) r (n.any.later (s1.trans s2))) z⟩) q)⟩
def HJ (d e:DE) (δ:Dl) (P:DK):Prop:=d δ P∨e δ P
def Ht (L:List Addr) (da:DE) (δ:Dl) (P:DK):Prop:=da δ fun x=>(∃C ns ds,x=.ins C ns ds∧C∈L)∧P (.bl true)
def Es (i:Nat) (E:bh) (δ:Dl):Prop:=fZ δ i fun ds=>ds.all D.aY=true∧E.nx (δ.set i (some (.lst ds.reverse)))
def spN (K:PySem.W.Frag) (C:Addr) (S:DSp):Sp:=fun vs H Q _=>∃(x dx:Addr) (ws:List V) (ds:List D) (B0:Hp),vs=.ref x::ws∧B0 x=none∧H=upd B0 x (.ins C dx [])∧Rps K B0 ds ws ∧
 S ds fun d=>∀ns xs dd fq H',d=.ins C ns dd→aJ B0 H'→H' x=some (.ins C dx (ns.zip xs))→Rfs K H' dd xs fq→fq.Nodup→(∀a∈fq,B0 a=none∧a≠x∧Mu H' a)→Q .non H'
theorem DZ {S:DSp}{n:Nat} (h:∀ds P,S ds P→ds.length=n) {vs:List V}{H:Hp}{Q:VK}{E:XK} (k:spN K C S vs H Q E):vs.length=n+1:=by
 obtain ⟨x,dx,ws,ds,B0,rfl,_,_,r,hS⟩:=k
 obtain ⟨fp,r⟩:=r
 rw[List.length_cons,r.length,h _ _ hS]
structure INI (K:PySem.W.Frag) (C:Addr) (t:TS) (ns:List Str) (d:DA):Prop where
 mono:∀δ (P P':List D→Prop),(∀x,P x→P' x)→d δ P→d δ P'
 run:∀{B0 fps δ σ H x dx ns0 xs0 ds0 fq0 Dn},Ok K B0 [] fps δ σ H→σ[0]?=some (some (.ref x))→H x=some (.ins C dx (ns0.zip xs0))→B0 x=none→ns0.length=xs0.length→Rfs K H ds0 xs0 fq0→fq0.Nodup →
  (∀a∈fq0,B0 a=none∧a≠x∧Mu H a)→(∀i,x∉fps i)→(∀n∈ns,n∉ns0)→(ns0++ns).Nodup→(ns0++ns).length≤100 →
  d δ (fun ds=>∀H' xs fq,aJ B0 H'→H' x=some (.ins C dx ((ns0++ns).zip xs))→Rfs K H' (ds0++ds) xs fq→fq.Nodup→(∀a∈fq,B0 a=none∧a≠x∧Mu H' a)→Dn.nx σ H')→t Dn σ H
theorem Rfs.snoc {H:Hp}:∀{ds:List D}{xs:List V}{fq:List Addr}{d:D}{v:V}{fp:List Addr},Rfs K H ds xs fq→Rf K H d v fp→Rfs K H (ds++[d]) (xs++[v]) (fq++fp)
 | [],xs,fq,d,v,fp,h,r=>by
  obtain ⟨rfl,rfl⟩:=h
  exact⟨v,[],fp,[],rfl,by simp,r,rfl,rfl⟩
 | d0::ds,xs,fq,d,v,fp,h,r=>by
  obtain ⟨x,rr,f1,f2,rfl,rfl,h1,h2⟩:=h
  exact⟨x,rr++[v],f1,f2++fp,rfl,by simp,h1,h2.snoc r⟩
theorem pZ {f:Str} (hc:Cls K C) (hn:cL K C f) (he:EM K [] [] ta da) {B0:Hp}{fps:Nat→List Addr}{δ:Dl}{σ:St}{H:Hp}{x dx:Addr}{ns0:List Str}{xs0:List V}{ds0:List D}{fq0:List Addr}{Dn:Ends}
  (o:Ok K B0 [] fps δ σ H) (h0:σ[0]?=some (some (.ref x))) (hx:H x=some (.ins C dx (ns0.zip xs0))) (hb:B0 x=none) (hl:ns0.length=xs0.length) (hr:Rfs K H ds0 xs0 fq0) (hnd:fq0.Nodup)
  (hq:∀a∈fq0,B0 a=none∧a≠x∧Mu H a) (hfp:∀i,x∉fps i) (hf:f∉ns0) (h100:ns0.length<100)
  (q:da δ fun y=>∀H' v fq,Ok K B0 [] fps δ σ H'→H' x=some (.ins C dx ((ns0++[f]).zip (xs0++[v])))→Rfs K H' (ds0++[y]) (xs0++[v]) fq→fq.Nodup→(∀a∈fq,B0 a=none∧a≠x∧Mu H' a)→Dn.nx σ H'):wY K (eU 0) ta f Dn σ H:=by
 refine he.run o (he.mono _ _ _ (fun y z v H1 fp s1 r1 n1=>?_) q)
 have hx1:=s1 _ _ hx
 refine⟨.ref x,h0,x,C,dx,_,rfl,hx1,hc,hn,by rw[List.length_zip];omega,?_⟩
 rw[vk hf hl]
 have hxp:x∉fp:=fun h=>by have:=n1.fresh x h;rw[hx] at this;cases this
 have keep:∀a,a≠x→upd H1 x (.ins C dx ((ns0++[f]).zip (xs0++[v]))) a=H1 a:=fun a ha=>aI ha
 have imm:∀a w,H1 a=some w→Im w→upd H1 x (.ins C dx ((ns0++[f]).zip (xs0++[v]))) a=some w:=fun a w e hi=>by
  have:a≠x:=fun z=>by
   subst z
   rw[hx1] at e
   cases e
   rcases hi with ⟨_,z⟩ | ⟨_,_,z⟩ | ⟨_,_,z⟩<;>cases z
  rw[keep a this];exact e
 have muk:∀a,a≠x→Mu H1 a→Mu (upd H1 x (.ins C dx ((ns0++[f]).zip (xs0++[v])))) a:=fun a ha m=>m.upd (.inr (.inr (.inr ⟨_,_,_,rfl⟩)))
 have o1:=o.same s1
 refine z _ v (fq0++fp) ⟨o1.len,fun a w e=>?_,fun i dd e=>?_,o1.non,fun _ h=>(nomatch h),fun _ h=>(nomatch h)⟩ aK (Rfs.snoc ((hr.same s1).mono (fun a ha w e=>by rw[keep a (hq a ha).2.1];exact e) imm) (r1.mono (fun a ha w e=>by rw[keep a (fun z=>hxp (z▸ha))];exact e) imm)) ?_ fun a ha=>?_
 ·rw[keep a (fun z=>by subst z;rw[hb] at e;cases e)]
  exact o1.b0 a w e
 ·obtain ⟨v',h1,h2⟩:=o1.val i dd e
  exact⟨v',h1,h2.mono (fun a ha w e=>by rw[keep a (fun z=>hfp i (z▸ha))];exact e) imm⟩
 ·refine List.nodup_append.mpr ⟨hnd,n1.nd,fun a h1 b h2 e=>?_⟩
  subst e
  exact (hq a h1).2.2.some (n1.fresh a h2)
 ·rcases List.mem_append.mp ha with h | h
  ·exact⟨(hq a h).1,(hq a h).2.1,muk a (hq a h).2.1 ((hq a h).2.2.same s1)⟩
  ·exact⟨o.b0.free (n1.fresh a h),fun z=>hxp (z▸h),muk a (fun z=>hxp (z▸h)) (n1.mu a h)⟩
theorem C7 {f:Str} (hc:Cls K C) (hn:cL K C f) (he:EM K [] [] ta da):INI K C (wY K (eU 0) ta f) [f] (nV da Ac) :=
 ⟨fun δ P P' k h=>he.mono _ _ _ (fun x z=>k _ z) h,fun {B0 fps δ σ H x dx ns0 xs0 ds0 fq0 Dn} o h0 hx hb hl hr hnd hq hfp hf hns h100 q =>
  pZ hc hn he o h0 hx hb hl hr hnd hq hfp (hf f List.mem_cons_self) (by simp at h100;omega) (he.mono _ _ _ (fun y z H' v fq o' g1 g2 g3 g4=>z H' _ fq o'.b0 g1 g2 g3 g4) q)⟩
theorem mQ {f:Str}{t:TS}{ns:List Str}{dr:DA} (hc:Cls K C) (hn:cL K C f) (he:EM K [] [] ta da) (hr:INI K C t ns dr):INI K C (t8 (wY K (eU 0) ta f) t) (f::ns) (nV da dr) :=
 ⟨fun δ P P' k h=>he.mono _ _ _ (fun x z=>hr.mono _ _ _ (fun y z=>k _ z) z) h,fun {B0 fps δ σ H x dx ns0 xs0 ds0 fq0 Dn} o h0 hx hb hl hR hnd hq hfp hf hns h100 q =>
  pZ hc hn he o h0 hx hb hl hR hnd hq hfp (hf f List.mem_cons_self) (by simp at h100;omega) (he.mono _ _ _ (fun y z H' v fq o' g1 g2 g3 g4=>by
   have e1:ns0++f::ns=(ns0++[f])++ns:=by simp
   refine hr.run o' h0 g1 hb (by simp [hl]) g2 g3 g4 hfp (fun n hn' z'=>?_) (by rw[← e1];exact hns) (by rw[← e1];exact h100) (hr.mono _ _ _ (fun ds z H2 xs fq s2 k1 k2 k3 k4=>?_) z)
   ·rw[e1] at hns
    exact (List.nodup_append.mp hns).2.2 n z' n hn' rfl
   ·refine z H2 xs fq s2 (by rw[e1];exact k1) ?_ k3 k4
    rw[List.append_assoc] at k2
    exact k2) q)⟩
theorem FF {N:List Str}{S:DSp}{t:TS}{ns:List Str}{d:DA} (hs:INI K C t ns d) (hd:∀ds P,S ds P→d (none::(aZ (N.drop 1) ds)) fun dd=>P (.ins C ns dd)) (hN:1≤N.length) (hns:ns.Nodup:=by decide +kernel) (h100:ns.length≤100:=by decide) :
  ∀{vs H Q E},spN K C S vs H Q E→t { nx:=fun _ H'=>Q .non H',rt:=Q } (L2.start N vs) H:=by
 rintro vs H Q E ⟨x,dx,ws,ds,B0,rfl,hb,rfl,r,h⟩
 obtain ⟨fps,o⟩:=ka (N:=N.drop 1) r
 have sx:aJ B0 (upd B0 x (.ins C dx [])):=aJ.lP hb
 have o2:=o.same sx
 have est:L2.start N (.ref x::ws)=some (.ref x)::L2.start (N.drop 1) ws:=by
  unfold L2.start
  rw[List.map_cons,List.cons_append,List.length_cons,List.length_drop,show N.length - (ws.length+1)=N.length - 1 - ws.length by omega]
 rw[est]
 refine hs.run (B0:=B0) (fps:=fun i=>match i with | 0=>[] | j+1=>fps j) (δ:=none::aZ (N.drop 1) ds) (x:=x) (dx:=dx) (ns0:=[]) (xs0:=[]) (ds0:=[]) (fq0:=[]) ⟨by rw[List.length_cons,List.length_cons,o2.len],sx,fun i dd e=>?_,fun i e=>?_,fun _ h=>(nomatch h),fun _ h=>(nomatch h)⟩ rfl aK hb rfl ⟨rfl,rfl⟩ List.nodup_nil (fun _ h=>(nomatch h)) (fun i=>?_) (fun _ _ h=>(nomatch h)) hns h100 (hs.mono _ _ _ (fun dd z H' xs fq s1 k1 k2 k3 k4=>?_) (hd ds _ h))
 ·cases i with
  | zero=>simp at e
  | succ j=>exact o2.val j dd (by simpa using e)
 ·cases i with
  | zero=>rfl
  | succ j=>exact o2.non j fun dd z=>e dd (by simpa using z)
 ·cases i with
  | zero=>exact fun h=>(nomatch h)
  | succ j=>exact fun h=>o.dom h hb
 ·exact z ns xs dd fq H' rfl s1 k1 k2 k3 k4
end
end L3
namespace L2
open PySem PySem.Spec PyProof.Rows
section
variable {P:Program}{w:World}{H:Hp}{h:Heap}{a:Addr}
theorem uK.upd {φ:Int→List Int→Int→Prop}{x:mH × Addr × Value}{o u:HO} (m:uK H φ x) (e:H a=some u) (ne:∀ys,u≠.tup ys):uK (upd H a o) φ x:=by
 obtain ⟨b,n,t,q1,q2,q3⟩:=m
 exact⟨b,n,t,by rw[aI (fun z=>by rw[z,e] at q1;exact ne _ (Option.some.inj q1))];exact q1,by rw[aI (fun z=>by rw[z,e] at q2;exact ne _ (Option.some.inj q2))];exact q2,q3⟩
end
section
variable {X:Cx}
end
end L2
namespace L2
open PySem PySem.Spec PyProof.Rows
section
variable {X:Cx}
end
end L2
namespace L3
open PySem L2
section
variable {K:PySem.W.Frag}{Γ:List Nat}{te:TE}{de:DE}
end
end L3
namespace L2
open PySem PySem.Spec PyProof.Rows
theorem dD.there {P:Program}{w:World}{H:Hp}{h:Heap}{a:Addr}{o:HO} (x:dD P w H h a o):∃ob,h.get? a=some ob:=by
 cases o with
 | lst xs=>obtain ⟨_,_,_,_,e⟩:=x;exact⟨_,e⟩
 | tup xs=>obtain ⟨_,_,_,ob,e,_⟩:=x;exact⟨_,e⟩
 | dK kvs=>obtain ⟨_,_,_,_,o,_,_,e,_⟩:=x;exact⟨_,e⟩
 | dT kvs=>obtain ⟨_,_,_,_,o,_,_,e,_⟩:=x;exact⟨_,e⟩
 | set S n=>obtain ⟨o,_,_,_,e,_⟩:=x;exact⟨_,e⟩
 | ins C dx fs=>obtain ⟨_,_,_,e,_⟩:=x;exact⟨_,e⟩
 | own y=>exact x
 | xd fs=>obtain ⟨_,⟨_,_,_,e,_⟩,_⟩:=x;exact⟨_,e⟩
 | rng lo hi=>obtain ⟨_,_,_,e⟩:=x;exact⟨_,e⟩
 | frz ob u=>obtain ⟨e,_⟩:=x;exact⟨_,e⟩
 | tbl ps=>exact⟨_,(show h.get? a=some _ from x)⟩
 | met f y=>exact⟨_,(show h.get? a=some _ from x)⟩
 | ext φ=>obtain ⟨_,e,_⟩:=x;exact e
 | memo φ ks=>obtain ⟨_,_,_,_,_,_,_,e,_⟩:=x;exact⟨_,e⟩
def Fly (h:Heap) (H:Hp) (lo:Heap) (a:Addr) (C:Value):Prop :=
 (H a=none∧lo.get? a=none)∧∃oe vs a0 T oT ts,h.get? a=some oe∧(oe.cls=C∧vs[0]?=some a0)∧oe.data=.fields vs∧vs[1]?=some (.ref T)∧T≠a∧h.get? T=some oT∧oT.data=.fields ts∧ts[3]?=some .none∧H T=none∧lo.get? T=none
def Ig (h:Heap) (H:Hp) (lo:Heap) (a:Addr) (C:Value):Prop :=
 (H a=none∧lo.get? a=none)∧∃oe vs a0,h.get? a=some oe∧(oe.cls=C∧vs[0]?=some a0)∧oe.data=.fields vs∧vs[1]?=some .none
def CXR (P:Program) (w:World):CXT:=fun outer H s E e s'=>∃(a C:Addr) (H':Hp),e=.ref a∧s'.os=s.os∧AllBare s'.gens∧Un (frs outer) [] H H' s.heap s'.heap∧HOk P w H' s'.heap ∧
 Fly s'.heap H' s.heap a (.ref C)∧E (.ref C) none H'
section
variable {P:Program}{w:World}{K:PySem.W.Frag}{mg:Str→Option Value}{base:Heap}{N:List Str}{qual:Str}{scope:Scope}{f:Addr}{cd:Value}{A:Around}{outer:List Env}{s0:Shared}{H0:Hp}{E:XK}
variable {pins:List (Addr × Obj)}{σ:St}{H':Hp}{s':Shared}{a C:Addr}{h2:Heap}
theorem tq {as:List Addr}{a0:Value} (J:Inv (nF (CXR P w) P w K mg base N qual scope f cd A outer s0 H0 E) pins σ H' s')
  (has:∀b∈as,b∈frs (envOfC qual scope s0.heap.objs.size f cd::outer)∨(H' b=none∧s0.heap.get? b=none))
  (L:Heap.LeftW (PySem.W.hideAll s'.heap as) (envOfC qual scope s0.heap.objs.size f cd::outer) a (.ref C) a0 s'.heap h2) (ha:H' a=none∧s0.heap.get? a=none) (q:E (.ref C) none H') :
  CXR P w outer H0 s0 E (.ref a) { s' with heap:=h2 }:=by
 obtain ⟨k1,k2,k3,k4⟩:=L
 have bs:Un (frs outer) [] H0 H' s0.heap s'.heap:=J.base
 have keepB:∀b o,s'.heap.get? b=some o→b∉as→h2.get? b=some o:=fun b o e n=>k1 b o (PySem.W.hideAll_get _ e n)
 have stf:∀b∈frs (envOfC qual scope s0.heap.objs.size f cd::outer),H' b=none:=J.ue
 have sts:∀b∈frs (envOfC qual scope s0.heap.objs.size f cd::outer),b∈s0.heap.objs.size::frs outer:=J.pI
 have trk:∀b u,H' b=some u→b∉as:=fun b u e z=>by
  rcases has b z with z | ⟨z,_⟩
  ·rw[stf b z] at e;cases e
  ·rw[z] at e;cases e
 have nofld:∀b∈frs (envOfC qual scope s0.heap.objs.size f cd::outer),∃o,s'.heap.get? b=some o∧∀vs,o.data≠.fields vs:=fun b hb=>(J.stack.mem hb).2
 refine⟨a,C,H',rfl,J.os,J.bare,⟨fun b o e n hb hx=>?_,fun b o e n hb hx=>?_,bs.free,fun b o e hx=>?_,bs.tups,bs.frzs,bs.tbls⟩,fun c o e=>?_,⟨ha,?_⟩,q⟩
 ·refine keepB b o (bs.keep b o e n hb hx) fun z=>?_
  rcases has b z with z | ⟨_,z⟩
  ·rcases List.mem_cons.mp (sts b z) with z | z
   ·rw[z] at e;exact absurd (Heap.lt_size e) (Nat.lt_irrefl _)
   ·exact hb z
  ·rw[z] at e;cases e
 ·obtain ⟨sl,e1⟩:=bs.slot b o e n hb hx
  obtain ⟨_,o',e',nf⟩:=J.ok.nB.mem hb
  have e':s0.heap.get? b=some o':=e'
  rw[e] at e';cases e'
  obtain ⟨sl2,e2⟩:=k4 b { o with slots:=sl } e1 nf
  exact⟨sl2,e2⟩
 ·obtain ⟨o',e1⟩:=bs.there b o e hx
  by_cases z:b∈as
  ·rcases has b z with z | ⟨_,z⟩
   ·obtain ⟨o2,e2,nf⟩:=nofld b z
    obtain ⟨sl,e3⟩:=k4 b o2 e2 nf
    exact⟨_,e3⟩
   ·rw[z] at e;cases e
  ·exact⟨o',keepB b o' e1 z⟩
 ·refine (J.hok c o e).oO (fun b u hb q=>keepB b u q ?_) (fun _ q=>q) fun _ _ q=>q
  rcases hb with rfl | hb
  ·exact trk _ _ e
  ·exact trk _ _ hb
 ·obtain ⟨oe,vs,T,oT,ts,g1,g2,g3,g4,g5,g6,g7,g8,g9⟩:=k3
  refine⟨oe,vs,a0,T,oT,ts,g1,g2,g3,g4,g6,g7,g8,g9,?_,?_⟩
  ·cases r:H' T with
   | none=>rfl
   | some u =>
    obtain ⟨ob,e⟩:=(J.hok T u r).there
    rw[PySem.W.hideAll_get as e (trk T u r)] at g5
    cases g5
  ·cases r:s0.heap.get? T with
   | none=>rfl
   | some u =>
    obtain ⟨o',e1⟩:=bs.there T u r (fun z=>(nomatch z))
    by_cases z:T∈as
    ·rcases has T z with z | ⟨_,z⟩
     ·obtain ⟨_,o2,e2,nf⟩:=k2.mem z
      rw[g7] at e2;cases e2
      exact absurd g8 (nf ts)
     ·rw[z] at r;cases r
    ·rw[PySem.W.hideAll_get as e1 z] at g5;cases g5
theorem zk {H:Hp}{s:Shared} (I:Inv (nF (CXR P w) P w K mg base N qual scope f cd A outer s0 H0 E) pins σ H s) (os:s'.os=s.os) (bare:AllBare s'.gens)
  (U:Un (frs (envOfC qual scope s0.heap.objs.size f cd::outer)) [] H H' s.heap s'.heap) (ok:HOk P w H' s'.heap) (fl:Ig s'.heap H' s.heap a (.ref C)∨Fly s'.heap H' s.heap a (.ref C)) (q:E (.ref C) none H') :
  (nF (CXR P w) P w K mg base N qual scope f cd A outer s0 H0 E).xe (.ref a) s':=by
 have J:Inv (nF (CXR P w) P w K mg base N qual scope f cd A outer s0 H0 E) pins σ H' s':=I.Fn os U ok bare fun b hb=>(nomatch hb)
 have up:∀b,s.heap.get? b=none→s0.heap.get? b=none:=fun b n=>by
  cases r:s0.heap.get? b with
  | none=>rfl
  | some u =>
   obtain ⟨o',e1⟩:=I.base.there b u r (fun z=>(nomatch z))
   rw[n] at e1;cases e1
 have hfr:(A.deeper (envOfC qual scope s0.heap.objs.size f cd)).frames=some (envOfC qual scope s0.heap.objs.size f cd::outer):=J.ok.frames
 have hst:s'.heap.FunFrames base (envOfC qual scope s0.heap.objs.size f cd::outer):=J.stack
 have hin:∀env∈(envOfC qual scope s0.heap.objs.size f cd::outer),∀b,env.frame=some b→b∈frs (envOfC qual scope s0.heap.objs.size f cd::outer):=fun env he b hb=>List.mem_filterMap.mpr ⟨env,he,hb⟩
 show wpAny _ _ _ _ _ _
 rcases fl with ⟨⟨na,fa⟩,oe,vs,a0,ge,⟨gc,g0⟩,gd,g1⟩ | ⟨⟨na,fa⟩,oe,vs,a0,T,oT,ts,ge,gc,gd,g1,g2,g3,g4,g5,nT,fT⟩
 ·refine wpAny_leaving_firstW (base:=PySem.W.hideAll s'.heap (a::frs (envOfC qual scope s0.heap.objs.size f cd::outer))) hfr
   (PySem.W.funFrames_hide hst fun env he b hb=>List.mem_cons_of_mem _ (hin env he b hb)) rfl ge (fun b o e=>PySem.W.of_hideAll _ e) (PySem.W.hideAll_none _ (List.mem_cons_self ..)) gd g1 g0 fun h2 L=>?_
  rw[gc] at L
  refine tq J (fun b hb=>?_) L ⟨na,up a fa⟩ q
  rcases List.mem_cons.mp hb with rfl | hb
  ·exact .inr ⟨na,up _ fa⟩
  ·exact .inl hb
 ·refine wpAny_leaving_nextW (a0:=a0) (base:=PySem.W.hideAll s'.heap (a::T::frs (envOfC qual scope s0.heap.objs.size f cd::outer))) (cls:=.ref C) hfr
   (PySem.W.funFrames_hide hst fun env he b hb=>List.mem_cons_of_mem _ (List.mem_cons_of_mem _ (hin env he b hb))) rfl
   ⟨oe,vs,T,oT,ts,ge,gc,gd,g1,PySem.W.hideAll_none _ (List.mem_cons_of_mem _ (List.mem_cons_self ..)),g2,g3,g4,g5⟩ (fun b o e=>PySem.W.of_hideAll _ e) (PySem.W.hideAll_none _ (List.mem_cons_self ..)) fun h2 L=>?_
  refine tq J (fun b hb=>?_) L ⟨na,up a fa⟩ q
  rcases List.mem_cons.mp hb with rfl | hb
  ·exact .inr ⟨na,up _ fa⟩
  ·rcases List.mem_cons.mp hb with rfl | hb
   ·exact .inr ⟨nT,up _ fT⟩
   ·exact .inl hb
theorem GB:Passes (CXR P w) (nF (CXR P w) P w K mg base N qual scope f cd A outer s0 H0 E) E:=fun pins σ H s e s' I h=>by
 obtain ⟨a,C,H',rfl,os,bare,U,ok,fl,q⟩:=h
 exact zk I os bare U ok (.inr fl) q
end
def BE (C:Addr) (E:XK) (ta:TA):TS:=fun _ σ H=>ta σ H fun vs H1=>vs.length≤1000∧E (.ref C) none H1
def Raises (X:Cx) (C:Addr) (E:XK):Prop:=∀(pins:List (Addr × Obj)) (σ:St) (H:Hp) (s:Shared) (h':Heap) (a:Addr) (us:List Value),Inv X pins σ H s→Heap.MadeExcOf s.heap h' a (.ref C) us→E (.ref C) none H→X.xe (.ref a) { s with heap:=h' }
theorem D5 {P:Program}{w:World}{K:PySem.W.Frag}{mg:Str→Option Value}{base:Heap}{N:List Str}{qual:Str}{scope:Scope}{f:Addr}{cd:Value}{A:Around}{outer:List Env}{s0:Shared}{H0:Hp}{E:XK}{C:Addr} :
  Raises (nF (CXR P w) P w K mg base N qual scope f cd A outer s0 H0 E) C E:=fun pins σ H s h' a us I hx q=>by
 obtain ⟨t,ht,_,_⟩:=hx.there
 refine zk (s':={ s with heap:=h' }) I rfl I.bare (Un.kept hx.keeps) (I.hok.kept hx.keeps) (.inl ⟨⟨?_,hx.new⟩,_,_,_,ht,⟨rfl,rfl⟩,rfl,rfl⟩) q
 cases r:H a with
 | none=>rfl
 | some u =>
  obtain ⟨ob,e⟩:=(I.hok a u r).there
  rw[hx.new] at e;cases e
section
variable {X:Cx}{x:Str}{C:Addr}{bmB:List Value}{B newId initId:String}{E:XK}{e:Expr}{es:List Expr}{ta:TA}{np cpos pos:Pos}
theorem Bp (O:OwnCls x C bmB newId X.mg X.base) (FB:ExcBaseFacts B newId initId bmB) (hc:X.calm=true) (hg:Gl X x) (hxe:Raises X C E) (ha:PA X (e::es) ta) (hdb:(x == ("__debug__" : Str))=false:=by decide)
  (he:starEach (e::es) X.env=(false,eval e X.env)::starEach es X.env:=by rfl) (hpl:(backTo cpos (starEach es X.env)).any (·.1)=false:=by rfl) :
  PS X (.Raise (some (.Call (.Name x np) (e::es) [] cpos)) none pos) (BE C E ta):=by
 intro pins s σ H D I h
 obtain ⟨tl,N,nm,q,bs,hdct,sn,sub,ab,col,dd,k0,k1,k2,k3,k5,mN,hC,hN,hni,T⟩:=O.obj
 refine wpAny_Raise_call_subT (C:=C) (nm:=nm) (q:=q) (N:=N) (bs:=bs) (bm:=tl) (hdct:=hdct) (sn:=sn) (sub:=sub) (ab:=ab) (col:=col) (dd:=dd) (k0:=k0) (k1:=k1) (k2:=k2) (k3:=k3) (k5:=k5)
  FB (mN:=mN) (T.hasType FB.hasBase) (I.ok.hd hc) (by rw[he];show (false || (backTo cpos (starEach es X.env)).any (·.1))=false;rw[hpl];rfl) hni (tH I hg O.bound ⟨rfl,?_⟩ hdb)
 have h1:=ha cpos pins s σ H _ I h
 rw[he] at h1 ⊢
 refine Calls.evalArgs_plain (thn h1 fun us s1 ⟨vs,H1,I1,r,q1,q2⟩=>?_)
 exact⟨rfl,by show us.length≤_;rw[← r.length];exact Nat.le_of_lt (nz q1),I1.bk _ _ hC,hN.keeps I1.bk,T.keeps I1.bk,fun h' a hx=>hxe pins σ H1 s1 h' a us I1 hx q2⟩
end
end L2
namespace L2
open PySem PySem.Spec PyProof.Rows
abbrev VB:List Value:=[.type "ValueError",.type "Exception",.type "BaseException",.type "object"]
def kD (h:Heap) (C:Addr) (ups:List Addr):Prop:=∃N nm q bs hdct sn sub ab col dd k0 k1 k2 k3 k5 mN,
 h.get? C=some (excClassObj nm q C N bs (ups.map Value.ref++VB) hdct sn sub ab col dd k0 k1 k2 k3 k5 "ValueError.__new__")∧h.Ns N mN∧mN "__init__" = none∧OwnTail h VB (ups.map Value.ref++VB)
theorem kD.own {h:Heap}{C:Addr}{ups:List Addr}{mg:Str→Option Value}{x:Str} (O:kD h C ups) (hm:mg x=some (.ref C)):OwnCls x C VB "ValueError.__new__" mg h :=
 let ⟨N,nm,q,bs,hdct,sn,sub,ab,col,dd,k0,k1,k2,k3,k5,mN,hC,hN,hni,T⟩:=O
 ⟨hm,_,N,nm,q,bs,hdct,sn,sub,ab,col,dd,k0,k1,k2,k3,k5,mN,hC,hN,hni,T⟩
section
variable {X:Cx}{pins:List (Addr × Obj)}{σ:St}{H H':Hp}{s s':Shared}{a C:Addr}{a0:Value}{h:Heap}
end
end L2
namespace L2
open PySem PySem.Spec PyProof.Rows
section
variable {X:Cx}{pins:List (Addr × Obj)}{σ:St}{H:Hp}{s:Shared}{a:Addr}{oe:Obj}
end
section
variable {X:Cx}{CX:CXT}{k:Nat}{f C D:Addr}{fd:FuncData}{ps:List Str}{sp:Sp}{E:XK}{x y n:Str}{p np cp ep hp pos:Pos}{e:Expr}{es:List Expr}{ta:TA}{b₀:Stmt}{suite:List Stmt}{i:Nat}{ups upD:List Addr}
end
end L2
namespace L3
open PySem L2
abbrev DSX:=List D→DK→(Addr→Prop)→Prop
def lO (S:DSX):Prop:=∀xs (P P':DK) (R R':Addr→Prop),(∀z,P z→P' z)→(∀C,R C→R' C)→S xs P R→S xs P' R'
def spX (K:PySem.W.Frag) (S:DSX):Sp:=fun vs H Q E=>∃ds,Rps K H ds vs∧S ds (fun x=>∀v H' fp,aJ H H'→Rf K H' x v fp→Nw H H' nf [] fp→Q v H') (fun C=>∀H',aJ H H'→E (.ref C) none H')
def SX (K:PySem.W.Frag) (ρ:Bool) (Γr Γl:List Nat) (R:Addr→Prop) (t:XK→TS) (Γ Γn:List Nat) (d:DS):Prop :=
 ∀⦃B0:Hp⦄ ⦃Dn:Ends⦄ ⦃E:bh⦄ ⦃Ex:XK⦄ ⦃fps:Nat→List Addr⦄ ⦃δ:Dl⦄ ⦃σ:St⦄ ⦃H:Hp⦄,(∀C H',aJ B0 H'→R C→Ex (.ref C) none H')→EOk K ρ Γr Γl Γn B0 Dn E→Ok K B0 Γ fps δ σ H→d E δ→t Ex Dn σ H
section
variable {K:PySem.W.Frag}{ρ:Bool}{Γr Γl Γ Γ1 Γ2 Γn M:List Nat}{R:Addr→Prop}{t u:XK→TS}{t0:TS}{d e:DS}{C:Addr}{S:DSX}{ta:TA}{da:DA}
theorem ST.sx (h:ST K ρ Γr Γl t0 Γ Γn d):SX K ρ Γr Γl R (fun _=>t0) Γ Γn d:=fun _ _ _ _ _ _ _ _ _ k o q=>h k o q
theorem AV (h1:SX K ρ Γr Γl R t Γ Γ1 d) (h2:SX K ρ Γr Γl R u Γ1 Γ2 e):SX K ρ Γr Γl R (fun Ex=>t8 (t Ex) (u Ex)) Γ Γ2 (xi d e) :=
 fun {B0 Dn E Ex fps δ σ H} x k o h=>h1 (Dn:={ Dn with nx:=u Ex Dn }) (E:={ E with nx:=e E }) x ⟨fun o h=>h2 x k o h,k.bk,k.ct,k.rt⟩ o h
theorem Ho {c:TT}{dc:DT} (hc:TR K Γ c dc) (h1:SX K ρ Γr Γl R t Γ Γn d) (h2:SX K ρ Γr Γl R u Γ Γn e):SX K ρ Γr Γl R (fun Ex=>FO c (t Ex) (u Ex)) Γ Γn (Dj dc d e) :=
 fun _ _ _ _ _ _ _ _ x k o h=>hc.run o (hc.mono _ _ _ (fun b z H' s=>eG (fun z=>h1 x k (o.same s) z) (fun z=>h2 x k (o.same s) z) z) h)
def xR (C:Addr) (R:Addr→Prop) (da:DA) (_:bh) (δ:Dl):Prop:=da δ fun xs=>xs.length≤1000∧R C
theorem CS (ha:AR K Γ ta da):SX K ρ Γr Γl R (fun Ex=>BE C Ex ta) Γ Γn (xR C R da) :=
 fun {B0 Dn E Ex fps δ σ H} x k o h=>ha.run o (ha.mono _ _ _ (fun xs z vs H' s r=>by
  obtain ⟨fp,r⟩:=r
  exact⟨by rw[r.length];exact z.1,x C H' (o.b0.trans s) z.2⟩) h)
def xj (S:DSX) (R:Addr→Prop) (da:DA) (E:bh) (δ:Dl):Prop:=da δ fun xs=>S xs (fun _=>E.nx δ) R
theorem Eg (hS:lO S) (ha:AR K Γ ta da):SX K ρ Γr Γl R (fun Ex=>qD (rR (spX K S) [] Ex ta)) Γ Γ (xj S R da) :=
 fun {B0 Dn E Ex fps δ σ H} x k o h=>ha.run o (ha.mono _ _ _ (fun xs z vs H' s r=>⟨xs,by rw[List.append_nil];exact r,
  hS _ _ _ _ _ (fun _ z v H2 fp s2 _ _=>k.nx (o.same (s.trans s2)) z) (fun C z H2 s2=>x C H2 (o.b0.trans (s.trans s2)) z) z⟩) h)
def EC (S:DSX) (R:Addr→Prop) (i:Nat) (da:DA) (E:bh) (δ:Dl):Prop:=da δ fun xs=>S xs (fun x=>E.nx (δ.set i (some x))) R
theorem BB {Ex:XK}{B0:Hp}{fps:Nat→List Addr}{δ:Dl}{σ:St}{H:Hp}{Q:VK} (hS:lO S) (ha:AR K Γ ta da) (x:∀C H',aJ B0 H'→R C→Ex (.ref C) none H') (o:Ok K B0 Γ fps δ σ H)
  (h:da δ fun xs=>S xs (fun z=>∀v H' fp,aJ H H'→Rf K H' z v fp→Nw H H' fps [] fp→Q v H') R):rR (spX K S) [] Ex ta σ H Q :=
 ha.run o (ha.mono _ _ _ (fun xs z vs H1 s1 r1=>⟨xs,by rw[List.append_nil];exact r1,hS _ _ _ _ _ (fun u z u' H' fp s r n=>z u' H' fp (s1.trans s) r (n.any.later s1)) (fun C z H2 s2=>x C H2 (o.b0.trans (s1.trans s2)) z) z⟩) h)
def EG (S:DSX) (R:Addr→Prop) (da:DA) (E:bh) (δ:Dl):Prop:=da δ fun xs=>S xs (fun x=>E.rt x δ) R
theorem y7 {N:List Str}{dR:(Addr→Prop)→DS} (hs:∀R,SX K true [] [] R t [] Γn (dR R)) (hd:∀ds P R,S ds P R→dR R (kg P) (aZ N ds)) :
  ∀{vs H Q E},spX K S vs H Q E→t E { nx:=fun _ H'=>Q .non H',rt:=Q } (L2.start N vs) H:=by
 rintro vs H Q E ⟨ds,r,h⟩
 obtain ⟨fps,o⟩:=ka (N:=N) r
 refine hs _ (E:=kg _) (Ex:=E) (fun C H' s z=>z H' s) ⟨fun {fps δ σ H'} o z=>?_,fun o (z:False)=>z.elim,fun o (z:False)=>z.elim,fun o r i z=>?_⟩ o (hd ds _ _ h)
 ·exact z _ H' [] o.b0 ⟨rfl,rfl⟩ Nw.nil
 ·exact z _ _ _ o.b0 r ⟨(i rfl).nd,(i rfl).mu,fun a ha=>.inl ((i rfl).nw a ha)⟩
def noX (S:DSX):DSp:=fun ds P=>S ds P fun _=>False
theorem BP (hS:lO S):cE (noX S):=fun xs P P' k h=>hS _ _ _ _ _ k (fun _ z=>z) h
theorem B5 {Ex:XK} (hS:lO S) (ha:AR K Γ ta da):EM K Γ [] (rR (spX K S) [] Ex ta) (sv (noX S) da) :=
 ⟨fun δ P P' k h=>ha.mono _ _ _ (fun y z=>BP hS _ _ _ k z) h,fun {B0 fps δ σ H Q} o q=>BB (R:=fun _=>False) hS ha (fun _ _ _ z=>z.elim) o q⟩
def FX (i:Nat) (C:Addr) (S:DSX) (da:DA) (dh:DS) (E:bh) (δ:Dl):Prop :=
 da δ fun xs=>S xs (fun _=>E.nx δ) fun C'=>C'=C∧dh { nx:=fun δ'=>E.nx (δ'.set i none),rt:=fun _ _=>False,bk:=fun _=>False,ct:=fun _=>False } (δ.set i none)
end
end L3
namespace PySem.W
open PySem PySem.Spec PySem.Calls PyProof.Rows
section
variable {prog:Program}{w:World}{A:Around}{E:Value→Shared→Prop}{s:Shared}{K:Frag}{x C:Addr}{ox:Obj}
structure Il (K:Frag) (C:Addr):Prop where
 ga:findIn K (.ref C) "__getattribute__" = some (some (.builtin "BaseException.__getattribute__"))
 ge:findIn K (.ref C) "__getattr__" = some none
 cl:findIn K (.ref C) "__class__" = some (some (.builtin "object.__class__"))
 ob:mroIn K C (.type "object")=some true
 be:mroIn K C (.type "BaseException")=some true
 is:(clsIn K C).isSome=true
end
end PySem.W
namespace L2
open PySem PySem.Spec PyProof.Rows
section
variable {X:Cx}{pins:List (Addr × Obj)}{σ:St}{H:Hp}{s:Shared}{a C:Addr}{oe:Obj}{i:Nat}{n x:Str}{np p cp:Pos}{b:Bool}
end
end L2
namespace L2
open PySem PySem.Spec PyProof.Rows
section
variable {X:Cx}{a C:Addr}{oe:Obj}
end
section
variable {P:Program}{w:World}{K:PySem.W.Frag}{mg:Str→Option Value}{base:Heap}{CX:CXT}
theorem Fun.okX {x qual:Str}{st:Stmt}{f:Addr}{fd:FuncData}{N ps:List Str}{k:Nat}{sp:Sp} (F:Fun K x qual st f fd) (S:bb N ps (aq st)) (len:∀vs H Q E,sp vs H Q E→vs.length=ps.length)
  (hbody:∀(cdv:Value) (A:Around) (outer:List Env) (s:Shared) (H:Hp) (vs:List V) (Q:VK) (E:XK),hV k (A.deeper (envOfC qual (aq st) s.heap.objs.size f cdv))→sp vs H Q E →
   ∃t,PSs (nF (CXR P w) P w K mg base N qual (aq st) f cdv A outer s H E) (aS st) t∧t { nx:=fun _ H'=>Q .non H',rt:=Q } (start N vs) H):bc P w K mg base (CXR P w) (k+1) f fd ps sp:=by
 obtain ⟨oc,od,kV,doc,pm,an,cdv,ct,osl,rfl,lk,hcd⟩:=F.ex
 exact Ey lk hcd S len fun A outer s H vs Q E hr hsp=>hbody cdv A outer s H vs Q E hr hsp
end
theorem kD.of_lookup {K:PySem.W.Frag}{h:Heap}{C:Addr}{ups:List Addr}{mro:List Value}{dd:Option Addr}{nm qn:Str}{bs:List Value}{ns:Addr}{hd:Bool}{sn:List Str}{sub:List Value}{ab:Bool}{col:Option Bool}{k0 k1 k2 k3 k5:Option Value} (X:K.In h)
  (u:K.lookup C=some ⟨.type "type",dd,.cls ⟨nm,bs,mro,ns,qn,hd,sn,sub,ab,col,false⟩,#[k0,k1,k2,k3,some (.builtin "ValueError.__new__"),k5]⟩) (hm:mro=.ref C::(ups.map Value.ref++VB)) (v:PySem.W.excIn K C VB "ValueError.__new__" = true):kD h C ups:=by
 subst hm
 unfold PySem.W.excIn at v
 rw[u] at v
 simp only[Bool.and_eq_true,beq_iff_eq,Bool.not_eq_true'] at v
 obtain ⟨⟨⟨_,ht⟩,hok⟩,hni⟩:=v
 exact⟨ns,nm,qn,bs,hd,sn,sub,ab,col,dd,k0,k1,k2,k3,k5,_,X _ _ u,.of_isNs (PySem.W.isNs_of_in X hok),PySem.W.nsMap_none_of_in X hok hni,PySem.W.tail_of_in X ht⟩
theorem EL {X:Cx}{P:Program}{w:World}:Passes (CXR P w) X E0:=fun _ _ _ _ _ _ _ h=>by
 obtain ⟨_,_,_,_,_,_,_,_,_,q⟩:=h
 exact q.elim
end L2
namespace L3
open PySem L2
section
variable {K:PySem.W.Frag}{ρ:Bool}{Γr Γl Γ:List Nat}{i:Nat}{t u:Addr→TS}{d e:DS}{C:Addr}{S:DSX}{ta:TA}{da:DA}
def Fc (j:Nat) (n:Int) (E:bh) (δ:Dl):Prop:=E.nx (δ.set j (some (.int n)))
def Fm (b:Bool) (d e:DS) (E:bh) (δ:Dl):Prop:=if b=true then d E δ else e E δ
def EK (i:Nat) (C:Addr) (S:DSX) (da:DA) (dh:DS) (E:bh) (δ:Dl):Prop:=i<δ.length∧FX i C S da dh E δ
end
theorem zc {K:PySem.W.Frag}{S:DSX}{n:Nat} (hS:∀ds P R,S ds P R→ds.length=n) {vs:List V}{H:Hp}{Q:VK}{E:XK} (h:spX K S vs H Q E):vs.length=n:=by
 obtain ⟨ds,⟨fp,r⟩,h⟩:=h
 rw[r.length];exact hS _ _ _ h
end L3
namespace L2
open PySem
theorem PA.nox {X:Cx}{es:List Expr}{t:TA} (h:PA X.nox es t):PA X es t:=fun pos pins s σ H Q I hw =>
 wpAny_mono (h pos pins s σ H Q (I.oP _) hw) (fun _ _ ⟨v,H',I',r,q⟩=>⟨v,H',I'.jm,r,q⟩) fun _ _ z=>False.elim z
end L2
namespace L2
open PySem PySem.Spec PyProof.Rows
section
variable {P:Program}{w:World}{K:PySem.W.Frag}{mg:Str→Option Value}{base:Heap}{x qual:Str}{st:Stmt}{dv:List Value}{f:Addr}{fd:FuncData}{N ps:List Str}{k:Nat}{sp:Sp}
end
end L2
namespace L3
open PySem L2
section
variable {K:PySem.W.Frag}{Γ:List Nat}{t:TA}{d:DA}
def Hm (d:DA) (z:Int):DA:=fun δ P=>d δ fun xs=>P (xs++[.int z])
end
end L3
namespace L2
open PySem PySem.Spec PyProof.Rows
section
variable {P:Program}{w:World}{K:PySem.W.Frag}{mg:Str→Option Value}{base:Heap}
section
variable {CX:CXT}{N:List Str}{qual:Str}{sc:Scope}{f:Addr}{cdv:Value}{A:Around}{outer:List Env}{s s':Shared}{H H':Hp}{E:XK}{σ':St}{Q:VK}{v:V}{u:Value}
end
end
section
variable {X:Cx}{a C:Addr}
end
section
variable {X:Cx}{k:Nat}{f a C:Addr}{oe:Obj}{fd:FuncData}{ps:List Str}{sp:Addr→Sp}{E:XK}{x:Str}{p pos:Pos}{e:Expr}{es:List Expr}{t:TA}
end
end L2
namespace L3
open PySem L2
section
variable {K:PySem.W.Frag}{a C:Addr}{cs1 cs2:List Addr}{v1 v2:TA}{Q:VK}{H:Hp}{nx:St→Hp→Prop}
end
end L3
namespace L2
open PySem PySem.Spec PyProof.Rows
section
variable {X:Cx}{CX:CXT}{k:Nat}{f C D:Addr}{fd:FuncData}{ps:List Str}{sp:Sp}{E:XK}{x y n:Str}{p np cp ep hp pos:Pos}{e:Expr}{es:List Expr}{ta:TA}{b₀:Stmt}{suite:List Stmt}{i:Nat}{ups upD:List Addr}
end
end L2
namespace L2
open PySem PySem.Spec PyProof.Rows
section
variable {X:Cx}{CX:CXT}{k:Nat}{f C D:Addr}{fd:FuncData}{ps:List Str}{sp:Sp}{E:XK}{x y n:Str}{p np cp ep hp pos p2:Pos}{e b:Expr}{es:List Expr}{ta:TA}{tb:TE}{b₀:Stmt}{suite:List Stmt}{i:Nat}{ups upD:List Addr}{op:CmpOp}{r:R2}
def GK (C:Addr) (sp:Sp) (ta:TA) (tb:TE) (r:R2) (th:TS):TS:=fun Dn σ H=>ta σ H fun vs H1=>sp vs H1 (fun v H2=>tb σ H2 fun u H3=>r v u H3 fun z H4=>Dn.rt z H4) fun cls _ H2=>cls=.ref C∧th { nx:=fun _ _=>False,rt:=Dn.rt } σ H2
end
end L2
namespace L3
open PySem L2
section
variable {K:PySem.W.Frag}{ρ:Bool}{Γr Γl Γ Γ1 Γ2 Γn M:List Nat}{R:Addr→Prop}{t u:TS}{te ta tb tx t1 t2 tz:TE}{de da db dx d1 d2 dz:DE}{d e:DS}
variable {B0:Hp}{fps:Nat→List Addr}{δ:Dl}{σ:St}{H H':Hp}
def Ip (K:PySem.W.Frag) (S:DSX):Sp:=fun vs H Q E=>∃ds,Rps K H ds vs∧S ds (fun x=>∀v H',aJ H H'→Rp K H' x v→Q v H') (fun C=>∀H',aJ H H'→E (.ref C) none H')
def GA (C:Addr) (S:DSX) (da:DA) (db:DE) (rv:D2) (dh:DS) (E:bh) (δ:Dl):Prop :=
 da δ fun xs=>S xs (fun x=>db δ fun y=>rv x y fun z=>E.rt z δ) fun C'=>C'=C∧dh { nx:=fun _=>False,rt:=E.rt,bk:=fun _=>False,ct:=fun _=>False } δ
theorem Hk {C:Addr}{S:DSX}{ta:TA}{da:DA}{th:TS}{dh:DS}{r:R2}{rv:D2} (hS:lO S) (ho:OpV K r rv) (ha:AR K [] ta da) (hb:ER K [] tb db) (hh:ST K ρ [] Γl th [] Γn dh):ST K ρ [] Γl (GK C (Ip K S) ta tb r th) [] Γn (GA C S da db rv dh) :=
 fun {B0 Dn E fps δ σ H} k o h=>ha.run o (ha.mono _ _ _ (fun xs z vs H1 s1 r1=>⟨xs,r1,hS _ _ _ _ _
  (fun x z v H2 s2 rx=>hb.run (o.same (s1.trans s2)) (hb.mono _ _ _ (fun y z w H3 s3 ry=>ho.run (rx.same s3) ry (ho.mono _ _ _ _ (fun q z u H4 fp s4 rq n=>k.rt ((o.same (s1.trans s2)).same (s3.trans s4)) rq (fun _=>⟨n.nd,n.mu,fun a ha=>(n.src a ha).elim (fun e=>((o.same (s1.trans s2)).same s3).b0.free e) (fun ⟨j,hj,_⟩=>(nomatch hj)),fun j hj=>(nomatch hj)⟩) z) z)) z))
  (fun C' z H2 s2=>⟨congrArg Value.ref z.1,hh (E:={ nx:=fun _=>False,rt:=E.rt,bk:=fun _=>False,ct:=fun _=>False })
   ⟨fun _ (z:False)=>z.elim,fun _ (z:False)=>z.elim,fun _ (z:False)=>z.elim,k.rt⟩ (o.same (s1.trans s2)) z.2⟩) z⟩) h)
def CQ (i j:Nat) (de:DE) (E:bh) (δ:Dl):Prop:=de δ fun x=>∃a b,x=.lst [a,b]∧E.nx ((δ.set i (some a)).set j (some b))
theorem CV (i j:Nat) {n:Nat} (he:EM K Γ [] te de) (hij:i≠j:=by decide) (hn:n=2:=by rfl) :
  ST K ρ Γr Γl (jX te (Fq K n (vM (gH i) (vM (gH j) De)))) Γ (j::minus (minus (i::minus (minus Γ []) [i]) []) [j]) (CQ i j de):=by
 intro B0 Dn E fps δ σ H k o h
 refine he.run o (he.mono _ _ _ (fun x z v H' fp s r n'=>?_) h)
 obtain ⟨a,b,rfl,z⟩:=z
 obtain ⟨p,xs,fq,rfl,hl,rfl,rs⟩:=r
 obtain ⟨v1,r1,f1,f2,rfl,rfl,h1,rs⟩:=rs
 obtain ⟨v2,r2,f3,f4,rfl,rfl,h2,h3⟩:=rs
 obtain ⟨rfl,rfl⟩:r2=[]∧f4=[]:=h3
 rw[List.append_nil] at n'
 have nd:=(List.nodup_cons.mp n'.nd).2
 have nd2:=List.nodup_append.mp nd
 have fr:∀b∈f1++f3,H b=none:=fun b hb=>by
  rcases n'.src b (List.mem_cons_of_mem _ hb) with q | ⟨j,hj,_⟩
  ·exact q
  ·exact (nomatch hj)
 have o1:=o.Ez i (M:=[]) (fun j hj=>(nomatch hj)) s h1 ⟨nd2.1,fun b hb=>n'.mu b (List.mem_cons_of_mem _ (List.mem_append_left _ hb)),fun b hb=>.inl (fr b (List.mem_append_left _ hb))⟩
 have o2:=o1.GH j h2 nd2.2.1 fun b hb=>⟨o.b0.free (fr b (List.mem_append_right _ hb)),n'.mu b (List.mem_cons_of_mem _ (List.mem_append_right _ hb)),fun l q=>by
  by_cases hl:l=i
  ·rw[if_pos hl] at q
   split at q
   ·exact nd2.2.2 b q b hb rfl
   ·exact (nomatch q)
  ·rw[if_neg hl,if_neg (fun y=>(nomatch y))] at q
   exact o.dom q (fr b (List.mem_append_right _ hb))⟩
 subst hn
 exact⟨p,_,rfl,.inl (.inl hl),rfl,v1,[v2],rfl,v2,[],rfl,rfl,k.nx o2 z⟩
end
end L3
namespace L2
open PySem PySem.Spec PyProof.Rows
section
variable {X:Cx}
end
end L2
namespace L3
open PySem L2
section
variable {K:PySem.W.Frag}{ρ:Bool}{Γr Γl Γ Γ1 Γ2 Γn M:List Nat}{R:Addr→Prop}{t u:TS}{te ta tb tx t1 t2 tz:TE}{de da db dx d1 d2 dz:DE}{d e:DS}
variable {B0:Hp}{fps:Nat→List Addr}{δ:Dl}{σ:St}{H H':Hp}
end
end L3
namespace L2
open PySem PySem.Spec PyProof.Rows PySem.Builtin PySem.Builtin.Str
section
variable {X:Cx}
end
end L2
namespace L2
open PySem PySem.Spec PyProof.Rows PySem.Builtin PySem.Builtin.Str
section
variable {X:Cx}
end
end L2
namespace L3
open PySem L2 PySem.Builtin PySem.Builtin.Str
section
variable {K:PySem.W.Frag}{ρ:Bool}{Γr Γl Γ Γ1 Γ2 Γn M:List Nat}{te ta tb tx t1 t2 tz:TE}{de da db dx d1 d2 dz:DE}{u:TA}{dr:DA}
variable {B0:Hp}{fps:Nat→List Addr}{δ:Dl}{σ:St}{H H':Hp}
def signs (x:Str):List D:=x.cps.toList.map fun c=>.str ⟨#[c]⟩
end
end L3
namespace L3
open PySem PySem.Builtin PySem.Builtin.Str
def dg (n:Nat):List Nat:=(Nat.toDigits 10 n).map Char.toNat
def sI (i:Int):List Nat:=if i<0 then 45::dg i.natAbs else dg i.natAbs
end L3
namespace L3
open PySem L2 PySem.Builtin PySem.Builtin.Str
end L3
namespace L3
open PySem L2
section
variable {K:PySem.W.Frag}{ρ:Bool}{Γr Γl Γ:List Nat}{H:Hp}
end
end L3
namespace L2
open PySem PySem.Spec PyProof.Rows PySem.Builtin PySem.Builtin.Str
section
variable {X:Cx}
end
section
variable {prog:Program}{w:World}{A:Around}{E:Value→Shared→Prop}{s:Shared}
end
section
variable {X:Cx}{K:PySem.W.Frag}{o e:Expr}{to te:TE}{p2 pos2 apos cpos:Pos}
end
end L2
namespace L3
open PySem L2 PySem.Builtin PySem.Builtin.Str
section
variable {K:PySem.W.Frag}{Γ:List Nat}{ta tb:TE}{da db:DE}
end
end L3
namespace L3
open PySem L2 PySem.Builtin PySem.Builtin.Str
end L3
namespace L2
open PySem PySem.Spec PyProof.Rows PySem.Builtin PySem.Builtin.Str
section
variable {X:Cx}
end
end L2
namespace L3
open PySem L2 PySem.Builtin PySem.Builtin.Str
section
variable {K:PySem.W.Frag}{Γ:List Nat}{te:TE}{de:DE}
end
end L3
namespace L3
open PySem L2 PySem.Builtin PySem.Builtin.Str
end L3
namespace L3
open PySem L2 PySem.Builtin PySem.Builtin.Str
end L3
namespace L3
open PySem L2 PySem.Builtin PySem.Builtin.Str
end L3
namespace L2
open PySem PySem.Spec PyProof.Rows
section
variable {X:Cx}
end
end L2
namespace L3
open PySem L2
section
variable {K:PySem.W.Frag}
end
end L3
namespace L3
open PySem L2
section
variable {K:PySem.W.Frag}{Γ:List Nat}{ta tb:TE}{da db:DE}
end
end L3
namespace Tal
def lines:Nat→List (List Int)
 | 0=>[[]]
 | w+1=>(lines w).map (fun l=>0::l)++(lines w).map (fun l=>1::l)
def lF (x:Int) (w:Nat):List (List Int):=(lines w).filter fun r=>decide (r.sum=x)
def sub:List Int→List Int→List Int
 | a::as,b::bs=>(a - b)::sub as bs
 | [],_=>[]
 | _::_,[]=>[]
def W:List Int→List Int→Int
 | [],left=>if (∀x∈left,x=0) then 1 else 0
 | r::rs,left=>((lF r left.length).map fun l=>W rs (sub left l)).sum
def S (w:Nat) (f:List Int→Int):Int:=((lines w).map f).sum
theorem xh {f:List Int→Int}:S 0 f=f []:=by simp [S,lines]
theorem pW {w:Nat}{f:List Int→Int}:S (w+1) f=S w (fun l=>f (0::l))+S w (fun l=>f (1::l)):=by
 rw[S,lines,List.map_append,List.sum_append,List.map_map,List.map_map];rfl
theorem kz (p:List Int→Bool) (f:List Int→Int):∀ls:List (List Int),((ls.filter p).map f).sum=(ls.map fun l=>if p l=true then f l else 0).sum
 | []=>rfl
 | l::ls=>by
  rw[List.map_cons,List.sum_cons,← kz p f ls,List.filter_cons]
  split<;>simp
theorem GP {r:Int}{rs left:List Int}:W (r::rs) left=S left.length (fun l=>if l.sum=r then W rs (sub left l) else 0):=by
 rw[W,lF,kz,S]
 congr 1
 refine List.map_congr_left fun l _=>?_
 simp
theorem vX {w:Nat}{f:List Int→Int} (h:∀l∈lines w,0≤f l):0≤S w f:=by
 unfold S
 revert h
 induction lines w with
 | nil=>intro _;simp
 | cons a l ih =>
  intro h
  have h1:=h a List.mem_cons_self
  have h2:=ih fun m hm=>h m (List.mem_cons_of_mem _ hm)
  simp only[List.map_cons,List.sum_cons];omega
theorem AE {B:Int} (hB:0≤B):∀{w:Nat}{f:List Int→Int},(∀l∈lines w,f l≤B)→S w f≤2 ^ w*B
 | 0,f,h=>by
  rw[xh]
  have:=h [] (by simp [lines])
  simpa using this
 | w+1,f,h=>by
  rw[pW]
  have h0:=AE (w:=w) hB (f:=fun l=>f (0::l)) fun l hl=>h _ (by rw[lines,List.mem_append];exact .inl (List.mem_map.mpr ⟨l,hl,rfl⟩))
  have h1:=AE (w:=w) hB (f:=fun l=>f (1::l)) fun l hl=>h _ (by rw[lines,List.mem_append];exact .inr (List.mem_map.mpr ⟨l,hl,rfl⟩))
  have:(2:Int) ^ (w+1)*B=2 ^ w*B+2 ^ w*B:=by rw[Int.pow_succ,Int.mul_right_comm];omega
  omega
theorem vf:∀{rs left:List Int},0≤W rs left
 | [],left=>by rw[W];split<;>decide
 | r::rs,left=>by
  rw[GP]
  refine vX fun l _=>?_
  split
  ·exact vf
  ·decide
end Tal
namespace Tal
def lx:List Int→List Int→Bool
 | [],[]=>false
 | [],_::_=>true
 | _::_,[]=>false
 | x::xs,y::ys=>if x=y then lx xs ys else decide (x<y)
theorem uF:∀l:List Int,lx l l=false
 | []=>rfl
 | x::l=>by rw[lx,if_pos rfl];exact uF l
theorem x8 {x:Int}{a b:List Int}:lx (x::a) (x::b)=lx a b:=by rw[lx,if_pos rfl]
theorem wy:∀{a b c:List Int},lx a b=true→lx b c=true→lx a c=true
 | [],[],_,h,_=>by simp [lx] at h
 | [],y::b,[],_,h=>by simp [lx] at h
 | [],y::b,z::c,_,_=>rfl
 | x::a,[],_,h,_=>by simp [lx] at h
 | x::a,y::b,[],_,h=>by simp [lx] at h
 | x::a,y::b,z::c,h,k=>by
  rw[lx] at h k ⊢
  split at h<;>split at k
  ·rename_i e1 e2
   subst e1 e2
   rw[if_pos rfl];exact wy h k
  ·rename_i e1 e2
   subst e1
   rw[if_neg e2];exact k
  ·rename_i e1 e2
   subst e2
   rw[if_neg e1];exact h
  ·rename_i e1 e2
   simp only[decide_eq_true_eq] at h k
   rw[if_neg (by omega)];simp;omega
theorem B6 {a b:List Int} (h:lx a b=true):lx b a=false:=by
 cases e:lx b a
 ·rfl
 ·have:=wy h e
  rw[uF] at this;cases this
theorem ml:∀w,(lines w).Pairwise (fun a b=>lx a b=true)
 | 0=>by rw[lines];exact List.pairwise_singleton _ _
 | w+1=>by
  have ih:=ml w
  rw[lines,List.pairwise_append]
  refine⟨?_,?_,?_⟩
  ·rw[List.pairwise_map];exact ih.imp fun h=>by rw[x8];exact h
  ·rw[List.pairwise_map];exact ih.imp fun h=>by rw[x8];exact h
  ·intro a ha b hb
   obtain ⟨x,_,rfl⟩:=List.mem_map.mp ha
   obtain ⟨y,_,rfl⟩:=List.mem_map.mp hb
   rfl
theorem rh {x:Int}{w:Nat}:(lF x w).Pairwise (fun a b=>lx a b=true):=(ml w).filter _
def A (r:Int) (rs left t:List Int):Int:=(((lF r left.length).filter fun l=>lx l t).map fun l=>W rs (sub left l)).sum
def N:List Int→List Int→List (List Int)→Int
 | r::rs,left,t::ts=>A r rs left t+N rs (sub left t) ts
 | _,_,_=>0
theorem sS {f:List Int→Int} (hf:∀l,0≤f l) {n:Int}:∀{ls:List (List Int)}{acc:Int},ls.Pairwise (fun a b=>lx a b=true)→acc≤n→n<acc+(ls.map f).sum →
  ∃pre x,(ls.filter fun l=>decide (acc+((ls.filter fun m=>lx m l).map f).sum≤n))=pre++[x]∧x∈ls∧acc+((ls.filter fun m=>lx m x).map f).sum≤n∧n<acc+((ls.filter fun m=>lx m x).map f).sum+f x
 | [],acc,_,h1,h2=>by simp at h2;omega
 | y::ls,acc,hs,h1,h2=>by
  obtain ⟨hy,hs'⟩:=List.pairwise_cons.mp hs
  have ay:((y::ls).filter fun m=>lx m y)=[]:=by
   rw[List.filter_eq_nil_iff]
   intro a ha
   rcases List.mem_cons.mp ha with e | e
   ·rw[e,uF];simp
   ·rw[B6 (hy a e)];simp
  have al:∀l∈ls,((y::ls).filter fun m=>lx m l)=y::ls.filter fun m=>lx m l:=fun l hl=>by
   rw[List.filter_cons,if_pos (hy l hl)]
  have nn:∀l,0≤((ls.filter fun m=>lx m l).map f).sum:=fun l=>by
   generalize ls.filter (fun m=>lx m l)=q
   induction q with
   | nil=>simp
   | cons a q ih=>have:=hf a;simp only[List.map_cons,List.sum_cons];omega
  rw[List.map_cons,List.sum_cons] at h2
  have fy:decide (acc+(((y::ls).filter fun m=>lx m y).map f).sum≤n)=true:=by rw[ay];simp;exact h1
  have fl:(ls.filter fun l=>decide (acc+(((y::ls).filter fun m=>lx m l).map f).sum≤n))=ls.filter fun l=>decide ((acc+f y)+((ls.filter fun m=>lx m l).map f).sum≤n):=by
   refine List.filter_congr fun l hl=>?_
   rw[al l hl,List.map_cons,List.sum_cons,Int.add_assoc]
  rw[List.filter_cons,if_pos fy,fl]
  by_cases c:acc+f y≤n
  ·obtain ⟨pre,x,e,hx,k1,k2⟩:=sS hf (ls:=ls) (acc:=acc+f y) hs' c (by omega)
   refine⟨y::pre,x,by rw[e];rfl,List.mem_cons_of_mem _ hx,?_,?_⟩
   ·rw[al x hx,List.map_cons,List.sum_cons];omega
   ·rw[al x hx,List.map_cons,List.sum_cons];omega
  ·refine⟨[],y,?_,List.mem_cons_self,?_,?_⟩
   ·have:(ls.filter fun l=>decide ((acc+f y)+((ls.filter fun m=>lx m l).map f).sum≤n))=[]:=by
     rw[List.filter_eq_nil_iff]
     intro l _
     have:=nn l
     simp;omega
    rw[this];rfl
   ·rw[ay];simp;exact h1
   ·rw[ay];simp;omega
theorem ze {r:Int}{rs left:List Int}{n:Int} (h0:0≤n) (h1:n<W (r::rs) left) :
  ∃pre x,((lF r left.length).filter fun l=>decide (A r rs left l≤n))=pre++[x]∧x∈lF r left.length∧A r rs left x≤n∧n<A r rs left x+W rs (sub left x):=by
 obtain ⟨pre,x,e,hx,k1,k2⟩:=sS (f:=fun l=>W rs (sub left l)) (fun _=>vf) (ls:=lF r left.length) (acc:=0) rh h0 (by rw[Int.zero_add];exact h1)
 simp only[Int.zero_add] at e k1 k2
 exact⟨pre,x,e,hx,k1,k2⟩
def cols (w:Nat) (T:List (List Int)):List Int:=(List.range w).map fun k=>(T.map fun r=>r.getD k 0).sum
end Tal
namespace PySem.SeqAt
open PySem PyProof.Rows
open PySem.AutoSeq1 (wpAny_loadPart')
open MeetsSeq MeetsSeq2 MeetsSeq3
end PySem.SeqAt
namespace L2
open PySem PySem.Spec PyProof.Rows
open PySem.SeqAt
section
variable {X:Cx}{pins:List (Addr × Obj)}{σ:St}{H:Hp}{s:Shared}
end
section
variable {X:Cx}
end
end L2
namespace L3
open PySem L2
section
variable {K:PySem.W.Frag}
end
end L3
namespace Tal
def bl (w c:Nat):List Int:=(List.range w).map fun (k:Nat)=>((c / 2 ^ k % 2:Nat):Int)
end Tal
namespace L3
open PySem L2
section
variable {K:PySem.W.Frag}{ρ:Bool}{Γr Γl Γ:List Nat}{H:Hp}
end
end L3
namespace L3
open PySem L2
section
variable {K:PySem.W.Frag}{ρ:Bool}{Γr Γl Γ Γn:List Nat}{H:Hp}
mutual
def D.strip:D→D
 | .non=>.non
 | .bl b=>.bl b
 | .int i=>.int i
 | .str x=>.str x
 | .lst ds=>.lst (D.ig ds)
 | .tup ds=>.tup (D.ig ds)
 | .dic x=>.dic x
 | .dit x=>.dit x
 | .scr x=>.scr x
 | .pin _ d=>d.strip
 | .mem φ=>.mem φ
 | .raw w=>.raw w
 | .ins C ns ds=>.ins C ns (D.ig ds)
def D.ig:List D→List D
 | []=>[]
 | d::ds=>d.strip::D.ig ds
end
mutual
theorem Rf.strip:∀{d:D}{v:V}{fp:List Addr},Rf K H d v fp→Rf K H d.strip v fp
 | .non,_,_,h=>by rw[D.strip];exact h
 | .bl _,_,_,h=>by rw[D.strip];exact h
 | .int _,_,_,h=>by rw[D.strip];exact h
 | .str _,_,_,h=>by rw[D.strip];exact h
 | .lst ds,_,_,h=>by
  obtain ⟨a,xs,fq,e1,e2,e3,h⟩:=h
  rw[D.strip]
  exact⟨a,xs,fq,e1,e2,e3,Rfs.ig h⟩
 | .tup ds,_,_,h=>by
  obtain ⟨a,xs,e1,e2,h⟩:=h
  rw[D.strip]
  exact⟨a,xs,e1,e2,Rfs.ig h⟩
 | .dic _,_,_,h=>by rw[D.strip];exact h
 | .dit _,_,_,h=>by rw[D.strip];exact h
 | .scr _,_,_,h=>by rw[D.strip];exact h
 | .pin _ d,_,_,h=>by rw[D.strip];exact Rf.strip h.2
 | .mem _,_,_,h=>by rw[D.strip];exact h
 | .raw _,_,_,h=>by rw[D.strip];exact h
 | .ins C ns ds,_,_,h=>by
  obtain ⟨a,dx,xs,fq,e1,e2,e3,h⟩:=h
  rw[D.strip]
  exact⟨a,dx,xs,fq,e1,e2,e3,Rfs.ig h⟩
theorem Rfs.ig:∀{ds:List D}{vs:List V}{fp:List Addr},Rfs K H ds vs fp→Rfs K H (D.ig ds) vs fp
 | [],_,_,h=>by rw[D.ig];exact h
 | d::ds,_,_,h=>by
  obtain ⟨x,r,f1,f2,e1,e2,h1,h2⟩:=h
  rw[D.ig]
  exact⟨x,r,f1,f2,e1,e2,Rf.strip h1,Rfs.ig h2⟩
end
def xI (d:DE) (δ:Dl) (P:DK):Prop:=d δ fun x=>∃a y,x=.pin a y∧P (.raw (.ref a))
theorem ER.rawOf {t:TE}{d:DE} (h:ER K Γ t d):EM K Γ [] t (xI d) :=
 ⟨fun δ P P' k q=>h.mono _ _ _ (fun x ⟨a,y,e,z⟩=>⟨a,y,e,k _ z⟩) q,fun {B0 fps δ σ H Q} o q=>h.run o (h.mono _ _ _ (fun x z v H1 s1 r1=>by
  obtain ⟨a,y,rfl,z⟩:=z
  obtain ⟨fp,e,_⟩:=r1
  exact z v H1 [] s1 ⟨e,rfl⟩ Nw.nil) q)⟩
end
end L3
namespace L2
open PySem PySem.Spec PyProof.Rows
section
variable {X:Cx}
end
end L2
namespace L3
open PySem L2
section
variable {K:PySem.W.Frag}
end
end L3
namespace L3
open PySem
open L2 hiding D Rf Rfs Rp dI dT
theorem pw:∀{l:List Int}{b:Nat}{v:Int},b<l.length→(l.set b v).sum=l.sum+(v - l.getD b 0)
 | [],b,v,h=>by simp at h
 | x::l,0,v,h=>by simp;omega
 | x::l,b+1,v,h=>by
  have:=pw (l:=l) (b:=b) (v:=v) (by simpa using h)
  simp only[List.set_cons_succ,List.sum_cons,this,List.getD_cons_succ]
  omega
def jt (t:List (List Int)) (a:Nat):Int:=(rowAt t a).sum
def ji (t:List (List Int)) (c:Nat):Int:=(t.map fun r=>r.getD c 0).sum
theorem Cj {t:List (List Int)}{n m a b a':Nat}{v:Int} (hR:bF n m t) (ha:a<n) (hb:b<m):jt (setCell t a b v) a'=jt t a' + if a=a' then v - cellAt t a b else 0:=by
 have hl:=hR.1
 have hr:=hR.row ha
 unfold jt rowAt setCell cellAt
 by_cases h:a=a'
 ·subst h
  rw[if_pos rfl,List.getD_eq_getElem?_getD (l:=t.set a _),List.getElem?_set_self (by omega),Option.getD_some,pw (by rw[show (t.getD a []).length=m from hr];exact hb)]
 ·rw[if_neg h,List.getD_eq_getElem?_getD (l:=t.set a _),List.getElem?_set_ne h,← List.getD_eq_getElem?_getD];omega
theorem Ck {t:List (List Int)}{n m a b c:Nat}{v:Int} (hR:bF n m t) (ha:a<n) (hb:b<m):ji (setCell t a b v) c=ji t c+if b=c then v - cellAt t a b else 0:=by
 have hl:=hR.1
 have hr:=hR.row ha
 unfold ji setCell cellAt
 rw[List.map_set,pw (by rw[List.length_map];omega)]
 have e:(t.map fun r=>r.getD c 0).getD a 0=(t.getD a []).getD c 0:=by
  rw[List.getD_eq_getElem?_getD,List.getElem?_map,List.getElem?_eq_getElem (by omega),List.getD_eq_getElem?_getD (l:=t),List.getElem?_eq_getElem (by omega)]
  rfl
 rw[e]
 have hr':(t.getD a []).length=m:=hr
 by_cases h:b=c
 ·subst h
  rw[if_pos rfl,List.getD_eq_getElem?_getD (l:=List.set _ _ _),List.getElem?_set_self (by omega),Option.getD_some]
 ·rw[if_neg h,List.getD_eq_getElem?_getD (l:=List.set _ _ _),List.getElem?_set_ne h,← List.getD_eq_getElem?_getD];omega
end L3
namespace L3
namespace Fl
def sN (n:Nat) (f:Nat→Int):Int:=((List.range n).map f).sum
theorem yl {f:Nat→Int}:sN 0 f=0:=rfl
theorem dB {n:Nat}{f:Nat→Int}:sN (n+1) f=sN n f+f n:=by
 unfold sN;rw[List.range_succ,List.map_append,List.sum_append];simp
theorem bj {n:Nat}{f g:Nat→Int} (h:∀i,i<n→f i=g i):sN n f=sN n g:=by
 unfold sN;congr 1;exact List.map_congr_left fun i hi=>h i (List.mem_range.mp hi)
theorem ik {f g:Nat→Int}:∀{n:Nat},sN n (fun i=>f i+g i)=sN n f+sN n g
 | 0=>rfl
 | n+1=>by rw[dB,dB,dB,ik];omega
theorem qM {f g:Nat→Int}:∀{n:Nat},sN n (fun i=>f i - g i)=sN n f - sN n g
 | 0=>rfl
 | n+1=>by rw[dB,dB,dB,qM];omega
theorem cf:∀{n:Nat},sN n (fun _=>0)=0
 | 0=>rfl
 | n+1=>by rw[dB,cf];rfl
theorem mi {m:Nat}{f:Nat→Nat→Int}:∀{n:Nat},sN n (fun i=>sN m fun j=>f i j)=sN m fun j=>sN n fun i=>f i j
 | 0=>(cf (n:=m)).symm
 | n+1=>by
  rw[dB,mi,← ik]
  exact bj fun j _=>dB.symm
theorem kL {f:Nat→Int}:∀{n:Nat},(∀i,i<n→0≤f i)→0≤sN n f
 | 0,_=>Int.le_refl _
 | n+1,h=>by
  rw[dB]
  have:=kL (f:=f) (n:=n) fun i hi=>h i (by omega)
  have:=h n (by omega)
  omega
theorem uG {f:Nat→Int}{k:Nat}:∀{n:Nat},(∀i,i<n→0≤f i)→k<n→0<f k→0<sN n f
 | 0,_,h,_=>by omega
 | n+1,h,hk,hp=>by
  rw[dB]
  have a:=kL (f:=f) (n:=n) fun i hi=>h i (by omega)
  have b:=h n (by omega)
  rcases Nat.lt_or_ge k n with z | z
  ·have:=uG (fun i hi=>h i (by omega)) z hp
   omega
  ·have e:k=n:=by omega
   subst e;omega
theorem nv {l:List Int}:l.sum=sN l.length fun i=>l.getD i 0:=by
 unfold sN
 congr 1
 refine List.ext_getElem (by simp) fun i h1 h2=>?_
 rw[List.getElem_map,List.getElem_range,List.getD_eq_getElem?_getD,List.getElem?_eq_getElem h1];rfl
theorem oU {t:List (List Int)}{n m a:Nat} (h:bF n m t) (ha:a<n):jt t a=sN m fun j=>cellAt t a j:=by
 unfold jt;rw[nv,show (rowAt t a).length=m from h.row ha]
theorem mL {t:List (List Int)}{n m b:Nat} (h:bF n m t):ji t b=sN n fun i=>cellAt t i b:=by
 unfold ji;rw[nv,List.length_map,h.1]
 refine bj fun i hi=>?_
 have hi':i<t.length:=by rw[h.1];exact hi
 unfold cellAt
 rw[List.getD_eq_getElem?_getD,List.getElem?_map,List.getElem?_eq_getElem hi',List.getD_eq_getElem?_getD (l:=t),List.getElem?_eq_getElem hi']
 rfl
theorem uH {f:Nat→Int}:∀{n:Nat}{R:List Nat},R.Nodup→(∀r∈R,r<n)→(R.map f).sum=sN n fun i=>if i∈R then f i else 0
 | n,[],_,_=>by simp [cf]
 | n,r::R,nd,h=>by
  obtain ⟨n1,n2⟩:=List.nodup_cons.mp nd
  rw[List.map_cons,List.sum_cons,uH n2 fun x hx=>h x (List.mem_cons_of_mem _ hx)]
  have hr:=h r List.mem_cons_self
  have e:sN n (fun i=>if i∈r::R then f i else 0)=sN n (fun i=>(if i=r then f i else 0)+if i∈R then f i else 0):=bj fun i _=>by
   by_cases h1:i=r
   ·subst h1
    rw[if_pos List.mem_cons_self,if_pos rfl,if_neg n1];omega
   ·rw[if_neg h1]
    by_cases h2:i∈R
    ·rw[if_pos (List.mem_cons_of_mem _ h2),if_pos h2];omega
    ·rw[if_neg (fun z=>by rcases List.mem_cons.mp z with z | z;exact h1 z;exact h2 z),if_neg h2];omega
  rw[e,ik]
  congr 1
  have one:∀n:Nat,r<n→sN n (fun i=>if i=r then f i else 0)=f r:=by
   intro n
   induction n with
   | zero=>intro z;omega
   | succ k ih =>
    intro hk
    rw[dB]
    rcases Nat.lt_or_ge r k with z | z
    ·rw[ih z,if_neg (by omega)];omega
    ·have e:k=r:=by omega
     subst e
     rw[if_pos rfl]
     have:sN k (fun i=>if i=k then f i else 0)=0:=by
      rw[bj (g:=fun _=>0) fun i hi=>if_neg (by omega)];exact cf
     rw[this];omega
  exact (one n hr).symm
def Cut (n m:Nat) (rows cols:List Int) (low high:List (List Int)) (R C:List Nat):Prop :=
 sN m (fun j=>if j∈C then cols.getD j 0 else 0)+sN n (fun i=>sN m fun j=>(if i∈R∧j∉C then cellAt high i j else 0) - (if i∉R∧j∈C then cellAt low i j else 0))<sN n fun i=>if i∈R then rows.getD i 0 else 0
structure St (n m:Nat) (rows cols:List Int) (low high:List (List Int)) (t:List (List Int)) (w r:List Int):Prop where
 rt:bF n m t
 wl:w.length=n
 rl:r.length=m
 bd:∀i j,i<n→j<m→cellAt low i j≤cellAt t i j∧cellAt t i j≤cellAt high i j
 rs:∀i,i<n→rows.getD i 0=w.getD i 0+jt t i
 cs:∀j,j<m→cols.getD j 0=r.getD j 0+ji t j
 rp:∀j,j<m→0≤r.getD j 0
 ng:∀i,i<n→w.getD i 0<0→∀j,j<m→cellAt t i j=cellAt low i j
theorem FV {n m:Nat}{rows cols:List Int}{low high t:List (List Int)}{w r:List Int}{R C:List Nat} (s:St n m rows cols low high t w r)
  (h1:∀i,i<n→0<w.getD i 0→i∈R) (h2:∀i∈R,i<n∧(0<w.getD i 0∨∃j,j<m∧cellAt low i j<cellAt t i j)) (h3:∀i∈R,∀j,j<m→cellAt t i j<cellAt high i j→j∈C) (h4:∀j∈C,r.getD j 0≤0)
  (h5:∀j∈C,∀i,i<n→cellAt low i j<cellAt t i j→i∈R) (k:Nat) (hk:k<n) (hw:0<w.getD k 0):Cut n m rows cols low high R C:=by
 unfold Cut
 have e1:sN n (fun i=>if i∈R then rows.getD i 0 else 0)=sN n (fun i=>if i∈R then w.getD i 0 else 0)+sN n fun i=>sN m fun j=>if i∈R then cellAt t i j else 0:=by
  rw[← ik]
  refine bj fun i hi=>?_
  by_cases z:i∈R
  ·rw[if_pos z,if_pos z,s.rs i hi,oU s.rt hi]
   congr 1
   exact bj fun j _=>(if_pos z).symm
  ·rw[if_neg z,if_neg z,bj (g:=fun _=>0) fun j _=>if_neg z,cf];rfl
 have e2:sN m (fun j=>if j∈C then cols.getD j 0 else 0)=sN m (fun j=>if j∈C then r.getD j 0 else 0)+sN n fun i=>sN m fun j=>if j∈C then cellAt t i j else 0:=by
  rw[mi,← ik]
  refine bj fun j hj=>?_
  by_cases z:j∈C
  ·rw[if_pos z,if_pos z,s.cs j hj,mL s.rt]
   congr 1
   exact bj fun i _=>(if_pos z).symm
  ·rw[if_neg z,if_neg z,bj (g:=fun _=>0) fun i _=>if_neg z,cf];rfl
 have e3:sN n (fun i=>sN m fun j=>if i∈R then cellAt t i j else 0)=sN n (fun i=>sN m fun j=>if j∈C then cellAt t i j else 0)+sN n (fun i=>sN m fun j=>(if i∈R∧j∉C then cellAt high i j else 0) - (if i∉R∧j∈C then cellAt low i j else 0)):=by
  rw[← ik]
  refine bj fun i hi=>?_
  rw[← ik]
  refine bj fun j hj=>?_
  have b:=s.bd i j hi hj
  by_cases z1:i∈R<;>by_cases z2:j∈C
  ·rw[if_pos z1,if_pos z2,if_neg (fun q=>q.2 z2),if_neg (fun q=>q.1 z1)];omega
  ·rw[if_pos z1,if_neg z2,if_pos ⟨z1,z2⟩,if_neg (fun q=>q.1 z1)]
   have:¬ cellAt t i j<cellAt high i j:=fun q=>z2 (h3 i z1 j hj q)
   omega
  ·rw[if_neg z1,if_pos z2,if_neg (fun q=>q.2 z2),if_pos ⟨z1,z2⟩]
   have:¬ cellAt low i j<cellAt t i j:=fun q=>z1 (h5 j z2 i hi q)
   omega
  ·rw[if_neg z1,if_neg z2,if_neg (fun q=>z1 q.1),if_neg (fun q=>z2 q.2)];omega
 have p1:0<sN n fun i=>if i∈R then w.getD i 0 else 0:=by
  refine uG (k:=k) (fun i hi=>?_) hk ?_
  ·by_cases z:i∈R
   ·rw[if_pos z]
    rcases (h2 i z).2 with q | ⟨j,hj,q⟩
    ·omega
    ·rcases Int.lt_or_le (w.getD i 0) 0 with y | y
     ·have:=s.ng i hi y j hj;omega
     ·exact y
   ·rw[if_neg z];exact Int.le_refl _
  ·rw[if_pos (h1 k hk hw)];exact hw
 have p2:sN m (fun j=>if j∈C then r.getD j 0 else 0)=0:=by
  rw[bj (g:=fun _=>0) fun j hj=>?_,cf]
  by_cases z:j∈C
  ·rw[if_pos z]
   have:=h4 j z
   have:=s.rp j hj
   omega
  ·rw[if_neg z]
 rw[e1,e2,e3,p2]
 omega
theorem filled {n m:Nat}{rows cols:List Int}{low high t:List (List Int)}{w r:List Int} (s:St n m rows cols low high t w r) (hr:rows.length=n) (hc:cols.length=m) (hs:rows.sum=cols.sum) (h:∀i,i<n→w.getD i 0≤0) :
  (∀i,i<n→jt t i=rows.getD i 0)∧∀j,j<m→ji t j=cols.getD j 0:=by
 have e1:rows.sum=sN n (fun i=>w.getD i 0)+sN n fun i=>sN m fun j=>cellAt t i j:=by
  rw[nv,hr,← ik]
  exact bj fun i hi=>by rw[s.rs i hi,oU s.rt hi]
 have e2:cols.sum=sN m (fun j=>r.getD j 0)+sN n fun i=>sN m fun j=>cellAt t i j:=by
  rw[nv,hc,mi,← ik]
  exact bj fun j hj=>by rw[s.cs j hj,mL s.rt]
 have a1:=kL (f:=fun j=>r.getD j 0) (n:=m) s.rp
 have a2:0≤sN n (fun i=>0 - w.getD i 0):=kL fun i hi=>by have:=h i hi;omega
 rw[qM,cf] at a2
 refine⟨fun i hi=>?_,fun j hj=>?_⟩
 ·have:=s.rs i hi
  have hw:=h i hi
  rcases Int.lt_or_le (w.getD i 0) 0 with z | z
  ·have p:0<sN n (fun i=>0 - w.getD i 0):=uG (k:=i) (fun i hi=>by have:=h i hi;omega) hi (by omega)
   rw[qM,cf] at p
   omega
  ·omega
 ·have:=s.cs j hj
  have hr:=s.rp j hj
  rcases Int.lt_or_le 0 (r.getD j 0) with z | z
  ·have p:=uG (f:=fun j=>r.getD j 0) (k:=j) s.rp hj z
   omega
  ·omega
def cellsOf:List (Nat × Nat)→List (Nat × Nat)
 | []=>[]
 | [p]=>[p]
 | p::q::r=>p::(p.1,q.2)::cellsOf (q::r)
def jH:List (Nat × Nat)→Nat→List (Nat × Nat)
 | [],_=>[]
 | [p],c=>[p,(p.1,c)]
 | p::q::r,c=>p::(p.1,q.2)::jH (q::r) c
theorem qd {s c:Nat}:∀{ps:List (Nat × Nat)},cellsOf (ps++[(s,c)])=jH ps c++[(s,c)]
 | []=>rfl
 | [p]=>rfl
 | p::q::r=>by
  show p::(p.1,q.2)::cellsOf (q::r++[(s,c)])=p::(p.1,q.2)::jH (q::r) c++[(s,c)]
  rw[qd];rfl
theorem rW {s c c2:Nat}:∀{ps:List (Nat × Nat)},jH (ps++[(s,c)]) c2=jH ps c++[(s,c),(s,c2)]
 | []=>rfl
 | [p]=>rfl
 | p::q::r=>by
  show p::(p.1,q.2)::jH (q::r++[(s,c)]) c2=p::(p.1,q.2)::jH (q::r) c++[(s,c),(s,c2)]
  rw[rW];rfl
def Lk (L:Nat→Nat→Prop):List (Nat × Nat)→Prop
 | p::q::r=>L p.1 q.2∧Lk L (q::r)
 | _=>True
theorem yq {L:Nat→Nat→Prop}{s c:Nat}:∀{ps:List (Nat × Nat)},Lk L ps→(∀p,ps.getLast?=some p→L p.1 c)→Lk L (ps++[(s,c)])
 | [],_,_=>trivial
 | [p],_,h=>⟨h p rfl,trivial⟩
 | p::q::r,h,k=>⟨h.1,yq (ps:=q::r) h.2 fun z e=>k z (by rw[List.getLast?_cons_cons];exact e)⟩
def ap:Int→List (Nat × Nat)→List (List Int)→List (List Int)
 | _,[],t=>t
 | x,p::r,t=>ap (-x) r (setCell t p.1 p.2 (cellAt t p.1 p.2+x))
def dl:Int→List (Nat × Nat)→Nat→Nat→Int
 | _,[],_,_=>0
 | x,p::r,a,b=>(if p.1=a∧p.2=b then x else 0)+dl (-x) r a b
def dlr:Int→List (Nat × Nat)→Nat→Int
 | _,[],_=>0
 | x,p::r,a=>(if p.1=a then x else 0)+dlr (-x) r a
def dlc:Int→List (Nat × Nat)→Nat→Int
 | _,[],_=>0
 | x,p::r,b=>(if p.2=b then x else 0)+dlc (-x) r b
theorem Fb {n m:Nat}:∀{ps:List (Nat × Nat)}{x:Int}{t:List (List Int)},bF n m t→(∀p∈ps,p.1<n∧p.2<m)→bF n m (ap x ps t)∧(∀a b,cellAt (ap x ps t) a b=cellAt t a b+dl x ps a b)∧(∀a,jt (ap x ps t) a=jt t a+dlr x ps a)∧∀b,ji (ap x ps t) b=ji t b+dlc x ps b
 | [],x,t,h,_=>⟨h,fun a b=>by simp [ap,dl],fun a=>by simp [ap,dlr],fun b=>by simp [ap,dlc]⟩
 | p::ps,x,t,h,hp=>by
  obtain ⟨h1,h2⟩:=hp p List.mem_cons_self
  have hR:bF n m (setCell t p.1 p.2 (cellAt t p.1 p.2+x)):=h.setCell h1
  obtain ⟨k1,k2,k3,k4⟩:=Fb (ps:=ps) (x:=-x) hR fun q hq=>hp q (List.mem_cons_of_mem _ hq)
  refine⟨k1,fun a b=>?_,fun a=>?_,fun b=>?_⟩
  ·show cellAt (ap (-x) ps _) a b=_
   rw[k2,vx h h1 h2]
   show _=cellAt t a b+((if p.1=a∧p.2=b then x else 0)+dl (-x) ps a b)
   by_cases z:p.1=a∧p.2=b
   ·rw[if_pos z,if_pos z]
    obtain ⟨rfl,rfl⟩:=z
    omega
   ·rw[if_neg z,if_neg z];omega
  ·show jt (ap (-x) ps _) a=_
   rw[k3,Cj h h1 h2]
   show _=jt t a+((if p.1=a then x else 0)+dlr (-x) ps a)
   by_cases z:p.1=a
   ·rw[if_pos z,if_pos z];omega
   ·rw[if_neg z,if_neg z];omega
  ·show ji (ap (-x) ps _) b=_
   rw[k4,Ck h h1 h2]
   show _=ji t b+((if p.2=b then x else 0)+dlc (-x) ps b)
   by_cases z:p.2=b
   ·rw[if_pos z,if_pos z];omega
   ·rw[if_neg z,if_neg z];omega
theorem yJ {x:Int}{a:Nat}:∀{ps:List (Nat × Nat)}{p:Nat × Nat},ps.getLast?=some p→dlr x (cellsOf ps) a=if p.1=a then x else 0
 | [],p,e=>by simp at e
 | [q],p,e=>by
  obtain rfl:q=p:=by simpa using e
  show (if q.1=a then x else 0)+0=_
  omega
 | q::q2::r,p,e=>by
  show (if q.1=a then x else 0)+((if q.1=a then -x else 0)+dlr (- -x) (cellsOf (q2::r)) a)=_
  rw[Int.neg_neg,yJ (ps:=q2::r) (p:=p) (by rw[List.getLast?_cons_cons] at e;exact e)]
  by_cases z:q.1=a
  ·rw[if_pos z,if_pos z];omega
  ·rw[if_neg z,if_neg z];omega
theorem zm {x:Int}{b:Nat}:∀{ps:List (Nat × Nat)}{p:Nat × Nat},dlc x (cellsOf (p::ps)) b=if p.2=b then x else 0
 | [],p=>by
  show (if p.2=b then x else 0)+0=_
  omega
 | q::r,p=>by
  show (if p.2=b then x else 0)+((if q.2=b then -x else 0)+dlc (- -x) (cellsOf (q::r)) b)=_
  rw[Int.neg_neg,zm (ps:=r) (p:=q)]
  by_cases z:q.2=b
  ·rw[if_pos z,if_pos z];omega
  ·rw[if_neg z,if_neg z];omega
theorem xE {x:Int}{a b:Nat}:∀{ps:List (Nat × Nat)},(∀p∈ps,p.1≠a)→dl x (cellsOf ps) a b=0
 | [],_=>rfl
 | [p],h=>by
  show (if p.1=a∧p.2=b then x else 0)+0=0
  rw[if_neg (fun z=>h p List.mem_cons_self z.1)];rfl
 | p::q::r,h=>by
  show (if p.1=a∧p.2=b then x else 0)+((if p.1=a∧q.2=b then -x else 0)+dl (- -x) (cellsOf (q::r)) a b)=0
  rw[if_neg (fun z=>h p List.mem_cons_self z.1),if_neg (fun z=>h p List.mem_cons_self z.1),Int.neg_neg,xE (ps:=q::r) fun z hz=>h z (List.mem_cons_of_mem _ hz)];rfl
theorem BJ {x:Int}{a b:Nat}{L:Nat→Nat→Prop}:∀{ps:List (Nat × Nat)},(ps.map Prod.fst).Nodup→(ps.map Prod.snd).Nodup→Lk L ps→dl x (cellsOf ps) a b=0∨(dl x (cellsOf ps) a b=x∧(a,b)∈ps)∨(dl x (cellsOf ps) a b=-x∧L a b∧∃p∈ps,p.1=a)
 | [],_,_,_=>.inl rfl
 | [p],_,_,_=>by
  show (if p.1=a∧p.2=b then x else 0)+0=0∨((if p.1=a∧p.2=b then x else 0)+0=x∧_)∨_
  by_cases z:p.1=a∧p.2=b
  ·right;left
   rw[if_pos z]
   refine⟨by omega,?_⟩
   rw[← z.1,← z.2];exact List.mem_cons_self
  ·left;rw[if_neg z];rfl
 | p::q::r,n1,n2,hl=>by
  have e:dl x (cellsOf (p::q::r)) a b=(if p.1=a∧p.2=b then x else 0)+((if p.1=a∧q.2=b then -x else 0)+dl (- -x) (cellsOf (q::r)) a b):=rfl
  rw[e,Int.neg_neg]
  rw[List.map_cons] at n1 n2
  obtain ⟨m1,m1'⟩:=List.nodup_cons.mp n1
  obtain ⟨m2,m2'⟩:=List.nodup_cons.mp n2
  by_cases z:p.1=a
  ·have z0:dl x (cellsOf (q::r)) a b=0:=xE fun y hy w=>m1 (by rw[z,← w];exact List.mem_map.mpr ⟨y,hy,rfl⟩)
   rw[z0]
   by_cases z1:p.2=b
   ·have z2:q.2≠b:=fun w=>m2 (by rw[z1,← w];exact List.mem_map.mpr ⟨q,List.mem_cons_self,rfl⟩)
    right;left
    rw[if_pos ⟨z,z1⟩,if_neg (fun w=>z2 w.2)]
    refine⟨by omega,?_⟩
    rw[← z,← z1];exact List.mem_cons_self
   ·rw[if_neg (fun w=>z1 w.2)]
    by_cases z2:q.2=b
    ·right;right
     rw[if_pos ⟨z,z2⟩]
     refine⟨by omega,?_,p,List.mem_cons_self,z⟩
     rw[← z,← z2];exact hl.1
    ·left;rw[if_neg (fun w=>z2 w.2)];rfl
  ·rw[if_neg (fun w=>z w.1),if_neg (fun w=>z w.1),Int.zero_add,Int.zero_add]
   rcases BJ (x:=x) (a:=a) (b:=b) m1' m2' hl.2 with w | w | w
   ·exact .inl w
   ·exact .inr (.inl ⟨w.1,List.mem_cons_of_mem _ w.2⟩)
   ·obtain ⟨w1,w2,y,hy,w3⟩:=w
    exact .inr (.inr ⟨w1,w2,y,List.mem_cons_of_mem _ hy,w3⟩)
def Al (Q0 Q1:Nat × Nat→Prop):List (Nat × Nat)→Prop
 | []=>True
 | p::r=>Q0 p∧Al Q1 Q0 r
theorem EV {Q0 Q1:Nat × Nat→Prop}:∀{cs:List (Nat × Nat)},(∀(j:Nat) p,cs[j]?=some p→if j % 2=0 then Q0 p else Q1 p)→Al Q0 Q1 cs
 | [],_=>trivial
 | p::r,h=>by
  refine⟨by have:=h 0 p rfl;simpa using this,EV fun j q e=>?_⟩
  have:=h (j+1) q (by simpa using e)
  by_cases z:j % 2=0
  ·rw[if_pos z];rw[if_neg (by omega)] at this;exact this
  ·rw[if_neg z];rw[if_pos (by omega)] at this;exact this
theorem ED {Q0 Q1:Nat × Nat→Prop}:∀{cs:List (Nat × Nat)},Al Q0 Q1 cs→∀(j:Nat) p,cs[j]?=some p→if j % 2=0 then Q0 p else Q1 p
 | [],_,j,p,e=>by simp at e
 | q::r,h,0,p,e=>by
  obtain rfl:q=p:=by simpa using e
  exact h.1
 | q::r,h,j+1,p,e=>by
  have:=ED h.2 j p (by simpa using e)
  by_cases z:j % 2=0
  ·rw[if_pos z] at this;rw[if_neg (by omega)];exact this
  ·rw[if_neg z] at this;rw[if_pos (by omega)];exact this
theorem xH {Q0 Q1:Nat × Nat→Prop}:∀{ps:List (Nat × Nat)},Al Q0 Q1 (cellsOf ps)↔(∀p∈ps,Q0 p)∧Lk (fun a b=>Q1 (a,b)) ps
 | []=>⟨fun _=>⟨fun p h=>(nomatch h),trivial⟩,fun _=>trivial⟩
 | [p]=>⟨fun h=>⟨fun q hq=>by cases List.mem_singleton.mp hq;exact h.1,trivial⟩,fun h=>⟨h.1 p List.mem_cons_self,trivial⟩⟩
 | p::q::r=>by
  have ih:=xH (Q0:=Q0) (Q1:=Q1) (ps:=q::r)
  refine⟨fun h=>?_,fun h=>?_⟩
  ·obtain ⟨h1,h2,h3⟩:Q0 p∧Q1 (p.1,q.2)∧Al Q0 Q1 (cellsOf (q::r)):=h
   obtain ⟨k1,k2⟩:=ih.mp h3
   exact⟨fun z hz=>by rcases List.mem_cons.mp hz with y | y;rw[y];exact h1;exact k1 z y,h2,k2⟩
  ·exact⟨h.1 p List.mem_cons_self,h.2.1,ih.mpr ⟨fun z hz=>h.1 z (List.mem_cons_of_mem _ hz),h.2.2⟩⟩
end Fl
end L3
namespace L3
open PySem L2
inductive Pth where | l (m:Nat) | t (m k:Nat)
 deriving DecidableEq
def Ak (p:Pth) (d:D):Option (List D):=match p,d with
 | .l m,.lst ds=>(match ds[m]? with | some (.lst es)=>some es | _=>none)
 | .t m k,.lst ds=>(match ds[m]? with | some (.tup ts)=>(match ts[k]? with | some (.lst es)=>some es | _=>none) | _=>none)
 | _,_=>none
def Vat (H:Hp) (p:Pth) (v:V):Option V:=match p,v with
 | .l m,.ref a=>(match H a with | some (.lst xs)=>xs[m]? | _=>none)
 | .t m k,.ref a=>(match H a with | some (.lst xs)=>(match xs[m]? with | some (.ref c)=>(match H c with | some (.tup ys)=>ys[k]? | _=>none) | _=>none) | _=>none)
 | _,_=>none
theorem Ff {H:Hp}{m:Nat}{a:Addr}:Vat H (.l m) (.ref a)=(match H a with | some (.lst xs)=>xs[m]? | _=>none):=rfl
theorem GY {m:Nat}{d:D}{es:List D} (h:Ak (.l m) d=some es):∃ds,d=.lst ds∧ds[m]?=some (.lst es):=by
 unfold Ak at h
 split at h
 ·rename_i m' ds e
  cases e
  split at h
  ·rename_i es' e2
   cases h
   exact⟨ds,rfl,e2⟩
  ·cases h
 ·rename_i e;cases e
 ·cases h
theorem FN {m k:Nat}{d:D}{es:List D} (h:Ak (.t m k) d=some es):∃ds ts,d=.lst ds∧ds[m]?=some (.tup ts)∧ts[k]?=some (.lst es):=by
 unfold Ak at h
 split at h
 ·rename_i e;cases e
 ·rename_i m' k' ds e
  cases e
  split at h
  ·rename_i ts e2
   split at h
   ·rename_i es' e3
    cases h
    exact⟨ds,ts,rfl,e2,e3⟩
   ·cases h
  ·cases h
 ·cases h
section
variable {K:PySem.W.Frag}{H:Hp}
theorem Vat.upd {q:Pth}{d:D}{v:V}{fp:List Addr}{eq:List D}{b:Addr}{o:HO}{ys:List V} (h:Rf K H d v fp) (nd:fp.Nodup) (e:Ak q d=some eq) (hb:H b=some (.lst ys)) (hbh:∀a,v=.ref a→a≠b):Vat (L2.upd H b o) q v=Vat H q v:=by
 cases q with
 | l m =>
  obtain ⟨ds,rfl,em⟩:=GY e
  obtain ⟨a,xs,fq,rfl,ha,rfl,hr⟩:=h
  rw[Ff,Ff,aI (hbh a rfl)]
 | t m k =>
  obtain ⟨ds,ts,rfl,em,ek⟩:=FN e
  obtain ⟨a,xs,fq,rfl,ha,rfl,hr⟩:=h
  obtain ⟨w,f,e1,r,hf⟩:=hr.get em
  obtain ⟨c,zs,rfl,hc,hts⟩:=r
  have hcb:c≠b:=fun z=>by subst z;rw[hb] at hc;cases hc
  unfold Vat
  simp only[aI (hbh a rfl),ha,e1,aI hcb]
end
section
variable {K:PySem.W.Frag}{Γ:List Nat}{B0:Hp}{i:Nat}{al:Al}{fps:Nat→List Addr}{δ:Dl}{σ:St}{H H':Hp}
end
section
variable {K:PySem.W.Frag}{Γ Γl Γn:List Nat}{i j:Nat}{t u:TS}{d e:Al→DS}{te tx t1:TE}{de dx d1:DE}
end
end L3
namespace L2
open PySem PySem.Spec PyProof.Rows PySem.Calls
theorem pN:∀{us:List Value}{ns:List Int},us.length=ns.length→(∀(j:Nat) (v:Value),us[j]?=some v→∃i t,ns[j]?=some i∧v=Value.int i t)→IntsAre us ns
 | [],[],_,_=>.nil
 | [],_::_,h,_=>by simp at h
 | _::_,[],h,_=>by simp at h
 | u::us,n::ns,h,k=>by
  obtain ⟨i,t,e1,rfl⟩:=k 0 u rfl
  obtain rfl:n=i:=by simpa using e1
  exact .cons n t (pN (by simpa using h) fun j v e=>k (j+1) v (by simpa using e))
section
variable {prog:Program}{w:World}{A:Around}{E:Value→Shared→Prop}{s:Shared}
theorem tS {d:Addr}{kvs:List (Key × Value)}{ns:List Int}{Q:Value→Shared→Prop} (hd:s.heap.DictOf (dU prog w) d kvs) (lo:(d == sysModules)=false) (hh:A.handled=none) (hk:kvs.map (·.1)=ns.map Sum.inl) (h64:ns.length<64)
  (h:∀(h':Heap) (tk:Nat) (a:Addr) (e:Nat) (out:Array Value) (ns':List Int),(∀b u,s.heap.get? b=some u→h'.get? b=some u)→s.heap.get? a=none→(∃h1:Heap,(∀b u,s.heap.get? b=some u→h1.get? b=some u)∧a=h1.objs.size)→h'.get? a=some (seqObj "list" out e)→IntsAre out.toList ns'→ns'.Perm ns→ns'.Pairwise (·≤·)→Q (.ref a) { s with heap:=h',toks:=tk }) :
  wpAny (model prog w) A (call (.builtin "sorted") [.ref d]) Q E s:=by
 obtain ⟨ep,hat⟩:=hd.dictAt
 have hln:kvs.length=ns.length:=by have:=congrArg List.length hk;simpa using this
 have hsl:kvs.length≤sizeLine:=by rw[sizeLine_eq];omega
 refine Calls.call_function_entry kind_sorted plain_sorted entry_sorted (args_sorted1 _) ?_
 unfold Builtin.«sorted»
 refine wpAny_bind (m:=checkCount "sorted" 1 1 _) (wpAny_pure ?_)
 refine wpAny_bind (PySem.W.kdu_collect (A:=A.in1) (PySem.W.kdl_dict (knd:=dU prog w) (kvs:=kvs) (ep:=ep) lo) hh hat hsl fun h' tk acc hkp hacc=>?_)
 have hl:acc.toList.length=kvs.length:=by rw[Array.length_toList];exact hacc.1
 have hI:IntsAre acc.toList ns:=pN (by rw[hl,hln]) fun j v e=>by
  obtain ⟨k,x,e1,e2⟩:=hacc.2 j v (by rw[← Array.getElem?_toList];exact e)
  have e3:(kvs.map (·.1))[j]?=some k:=by rw[List.getElem?_map,e1];rfl
  rw[hk,List.getElem?_map] at e3
  cases e4:ns[j]? with
  | none=>rw[e4] at e3;cases e3
  | some i =>
   rw[e4] at e3
   obtain rfl:Sum.inl i=k:=Option.some.inj e3
   rw[wQ] at e2
   rcases cU e2 with ⟨i',t,e6,e5⟩ | ⟨y,t,e6,e5⟩
   ·cases e6
    exact⟨i,t,rfl,e5⟩
   ·cases e6
 refine wpAny_bind (wpAny_newList ?_ (by rw[hl];exact hsl))
 have hoL:(h'.push (seqObj "list" acc.toList.toArray 0)).get? h'.objs.size=some (seqObj "list" acc.toList.toArray 0):=Heap.get?_push_size _ rfl
 show wpAny _ _ _ _ _ { s with heap:=h'.push (seqObj "list" acc.toList.toArray 0),toks:=tk }
 refine wpAny_bind (wpAny_holding (wpAny_call_entry slot_list_sort ⟨_,hoL,rfl⟩ entry_list_sort (list_sort_tree hoL hI (by rw[hl];omega) fun out ns' a1 a2 a3=>⟨_,rfl,?_⟩) (args_list_sort _)))
 obtain ⟨e,he⟩:=sortedHeap_at (out:=out) hoL
 refine wpAny_pure ⟨_,rfl,h _ tk h'.objs.size e out ns' (fun b u hb=>?_) ?_ ⟨h',hkp,rfl⟩ he a1 a2 a3⟩
 ·have h1:=hkp b u hb
  have hlt:=Heap.lt_size h1
  rw[sortedHeap_old (Nat.ne_of_lt hlt) (by rw[size_push'];exact Nat.lt_succ_of_lt hlt),Heap.get?_push_ne _ _ _ (Nat.ne_of_lt hlt)]
  exact h1
 ·cases e0:s.heap.get? h'.objs.size with
  | none=>rfl
  | some u=>exact absurd (Heap.lt_size (hkp _ u e0)) (Nat.lt_irrefl _)
end
section
variable {X:Cx}{pins:List (Addr × Obj)}{σ:St}{H:Hp}{s:Shared}
theorem Ab {h':Heap}{a:Addr}{o:HO}{t':Nat} (I:Inv X pins σ H s) (k:∀b u,s.heap.get? b=some u→h'.get? b=some u) (hg:s.heap.get? a=none) (hn:H a=none) (new:dD X.prog X.w (upd H a o) h' a o) :
  Inv X pins σ (upd H a o) { s with heap:=h',toks:=t' } :=
 I.un { keep := fun b u q _ _ _ => k b u q
        slot:=fun b u q _ _ _=>⟨u.slots,k b u q⟩
        free:=fun b u q n _=>by rw[aI (fun z=>by subst z;rw[hg] at q;cases q)];exact n
        there:=fun b u q _=>⟨u,k b u q⟩
        tups:=fun b xs q=>by rw[aI (bu q hn)];exact q
        frzs:=fun b u xs q=>by rw[aI (bu q hn)];exact q
        tbls:=fun b ps q=>⟨#[],by rw[aI (bu q hn),q];simp⟩ }
  fun b u e=>by
   by_cases hb:b=a
   ·subst hb;rw[aK] at e;cases e;exact new
   ·rw[aI hb] at e
    exact (I.hok b u e).oO (fun c v _ q=>k c v q) (fun c q=>by rw[aI (bu q hn)];exact q) fun c xs q=>by rw[aI (bu q hn)];exact q
theorem md (hc:X.calm=true):iK X (.builtin "sorted") (fun xs H Q=>∃(a:Addr) (kvs:List (Key × V)) (ns:List Int),xs=[.ref a]∧H a=some (.dK kvs)∧kvs.map (·.1)=ns.map Sum.inl∧ns.length<64 ∧
  ∀(l:Addr) (ms:List Int),H l=none→ms.Perm ns→ms.Pairwise (·≤·)→Q (.ref l) (upd H l (.lst (ms.map V.int)))):=by
 intro pins s σ H xs us Q I r h
 obtain ⟨a,kvs,ns,rfl,hS,hk,hz,q⟩:=h
 obtain ⟨u,rfl,ru⟩:=vals1 r
 obtain rfl:u=Value.ref a:=ru
 obtain ⟨_,lo,vs,kv,hd⟩:=EW I.hok hS
 refine tS hd lo (I.ok.hd hc) (by rw[← kv.keys];exact hk) hz fun h' tk b e out ms k1 k2 kx k3 a1 a2 a3=>?_
 obtain ⟨h1,q1,q2⟩:=kx
 have hn:H b=none:=(I.hok.kept q1).fresh (Nat.le_of_eq q2.symm)
 have hlm:=a2.length_eq
 refine⟨.ref b,_,Ab (t':=tk) (o:=.lst (ms.map V.int)) I k1 k2 hn ⟨?_,out.toList,e,mv a1,?_⟩,rfl,q _ ms hn a2 a3⟩
 ·rw[List.length_map];exact small (by omega)
 ·exact k3
theorem zQ {ss:List Stmt}{t:TS} (G:List Nat) (hG:∀i∈G,∀x,X.N[i]?=some x→X.env.scope.names.lookup x=none) (h:PSs X ss t) :
  PSs X ss (fun Dn σ H=>∃σ':St,σ'.length=σ.length∧(∀i,i∉G→σ'[i]?=σ[i]?)∧t Dn σ' H):=by
 intro pins s σ H D I q
 obtain ⟨σ',hl,hs,q⟩:=q
 obtain ⟨m,hm,lk⟩:=I.loc
 refine h pins s σ' H D ⟨I.ok,I.os,I.bare,I.base,⟨m,hm,fun i x v hx hv vis=>?_⟩,I.cell,I.free,I.freeC,I.pin,I.hok,by rw[hl];exact I.len⟩ q
 by_cases hi:i∈G
 ·have e:=hG i hi x hx
  rcases vis with z | z | z<;>rw[e] at z<;>cases z
 ·rw[hs i hi] at hv
  exact lk i x v hx hv vis
end
end L2
namespace L3
open PySem L2
section
variable {K:PySem.W.Frag}{ρ:Bool}{Γr Γl Γ Γ1 Γn M:List Nat}{te ta tx t1 t2:TE}{de da dx d1 d2:DE}
variable {B0:Hp}{fps:Nat→List Addr}{δ:Dl}{σ:St}{H:Hp}{C:Addr}{f:Str}
theorem Ok.lend (o:Ok K B0 Γ fps δ σ H) {i:Nat}{y:D}{v:V}{fp:List Addr} (hl:i<δ.length) (hv:σ[i]?=some (some v)) (r:Rf K H y v fp) :
  Ok K H [] (fun j=>if j=i then fp else fps j) (δ.set i (some y)) σ H:=by
 refine⟨by rw[List.length_set];exact o.len,aJ.refl H,fun j d e=>?_,fun j q=>?_,fun _ h=>(nomatch h),fun _ h=>(nomatch h)⟩
 ·by_cases hj:j=i
  ·subst hj
   rw[List.getElem?_set_self hl] at e;cases e
   exact⟨v,hv,by show Rf K H y v (if j=j then fp else fps j);rw[if_pos rfl];exact r⟩
  ·rw[List.getElem?_set_ne (Ne.symm hj)] at e
   show ∃v,_∧Rf K H d v (if j=i then fp else fps j)
   rw[if_neg hj]
   exact o.val j d e
 ·by_cases hj:j=i
  ·subst hj;exact absurd (List.getElem?_set_self hl) (q y)
  ·show (if j=i then fp else fps j)=[]
   rw[if_neg hj]
   exact o.non j fun d z=>q d (by rw[List.getElem?_set_ne (Ne.symm hj)];exact z)
def Fu (i g1 g2:Nat) (δ:Dl) (P:D→Prop):Prop:=∃(s C:Addr) (ns:List Str) (a1 a2:Addr) (e1 e2:D) (rest:List D),δ[i]?=some (some (.pin s (.ins C ns (.raw (.ref a1)::.raw (.ref a2)::rest))))∧δ[g1]?=some (some (.pin a1 e1))∧δ[g2]?=some (some (.pin a2 e2))∧P (.ins C ns (e1::e2::rest))
theorem Fu.mono {i g1 g2:Nat}{P P':D→Prop} (h:Fu i g1 g2 δ P) (k:∀y,P y→P' y):Fu i g1 g2 δ P' :=
 let ⟨s,C,ns,a1,a2,e1,e2,rest,h0,h1,h2,p⟩:=h;⟨s,C,ns,a1,a2,e1,e2,rest,h0,h1,h2,k _ p⟩
theorem Fu.out {i g1 g2:Nat}{P:D→Prop} (h:Fu i g1 g2 δ P) (o:Ok K B0 Γ fps δ σ H):∃y v fp,P y∧i<δ.length∧σ[i]?=some (some v)∧Rf K H y v fp:=by
 obtain ⟨s,C,ns,a1,a2,e1,e2,rest,h0,h1,h2,p⟩:=h
 obtain ⟨v,hv,e,a,dx,xs,fq,ea,hH,_,r⟩:=o.val i _ h0
 obtain ⟨x1,xr,f1,f2,rfl,_,⟨rfl,_⟩,r⟩:=r
 obtain ⟨x2,xr2,f3,f4,rfl,_,⟨rfl,_⟩,r⟩:=r
 obtain ⟨w1,_,rfl,q1⟩:=o.val g1 _ h1
 obtain ⟨w2,_,rfl,q2⟩:=o.val g2 _ h2
 exact⟨_,v,_,p,(List.getElem?_eq_some_iff.mp h0).1,hv,a,dx,_,_,ea,hH,rfl,.ref a1,_,_,_,rfl,rfl,q1,.ref a2,_,_,_,rfl,rfl,q2,r⟩
def ET (i g1 g2:Nat) (d:DE) (δ:Dl) (P:DK):Prop:=Fu i g1 g2 δ fun y=>d (δ.set i (some y)) P
theorem uA (i g1 g2:Nat) (h:EM K [] [] te de):EM K Γ [] te (ET i g1 g2 de) :=
 ⟨fun δ P P' k q=>q.mono fun y z=>h.mono _ _ _ k z,fun o q=>by
  obtain ⟨y,v,fp,p,hl,hv,r⟩:=q.out o
  exact h.run (o.lend hl hv r) (h.mono _ _ _ (fun x z v' H' fp' s rr n=>z v' H' fp' s rr n.any) p)⟩
theorem oQ (i g1 g2:Nat) (h:ER K [] te de):ER K Γ te (ET i g1 g2 de) :=
 ⟨fun δ P P' k q=>q.mono fun y z=>h.mono _ _ _ k z,fun o q=>by
  obtain ⟨y,v,fp,p,hl,hv,r⟩:=q.out o
  exact h.run (o.lend hl hv r) p⟩
def GF (i g1 g2:Nat) (d:DT) (δ:Dl) (P:Bool→Prop):Prop:=Fu i g1 g2 δ fun y=>d (δ.set i (some y)) P
theorem y9 (i g1 g2:Nat) {c:TT}{dc:DT} (h:TR K [] c dc):TR K Γ c (GF i g1 g2 dc) :=
 ⟨fun δ P P' k q=>q.mono fun y z=>h.mono _ _ _ k z,fun o q=>by
  obtain ⟨y,v,fp,p,hl,hv,r⟩:=q.out o
  exact h.run (o.lend hl hv r) p⟩
def Hv (i:Nat) (C:Addr) (ns:List Str) (k:Nat) (δ:Dl) (P:DK):Prop:=∃s ds y,δ[i]?=some (some (.pin s (.ins C ns ds)))∧ds[k]?=some y∧P y
theorem C4 (i:Nat) (ns:List Str) (k:Nat) (hc:Cls K C) (hn:cL K C f) (hi:ns[k]?=some f:=by rfl) (hd:ns.Nodup:=by decide +kernel) (h:i∈Γ:=by decide):EM K Γ [i] (uv K (eU i) f) (Hv i C ns k) :=
 ⟨fun δ P P' kk ⟨s,ds,y,e,ek,q⟩=>⟨s,ds,y,e,ek,kk _ q⟩,fun {B0 fps δ σ H Q} o q=>by
  obtain ⟨s,ds,y,e,ek,q⟩:=q
  obtain ⟨v,hv,rfl,a,dx,xs,fq,ea,hH,ef,r⟩:=o.val i _ e
  cases ea
  have nd:=(o.own i h).1
  rw[ef] at nd
  obtain ⟨w,f',ew,rw',sub,nd'⟩:=r.xb (List.nodup_cons.mp nd).2 ek
  have inF:∀b∈f',b∈fps i:=fun b hb=>by rw[ef];exact List.mem_cons_of_mem _ (sub b hb)
  exact⟨.ref s,hv,s,C,dx,_,w,rfl,hH,hc,hn,bH hd hi ew,q w H f' (aJ.refl H) rw' ⟨nd',fun b hb=>((o.own i h).2 b (inF b hb)).2,fun b hb=>.inr ⟨i,List.mem_singleton.mpr rfl,inF b hb⟩⟩⟩⟩
theorem Rfs.setM {H:Hp}:∀{ds:List D}{xs:List V}{fq:List Addr}{m:Nat}{d:D},Rfs K H ds xs fq→fq.Nodup→ds[m]?=some d →
  ∃x g,xs[m]?=some x∧Rf K H d x g∧g.Nodup∧(∀a∈g,a∈fq)∧∀(b:Addr) (H':Hp) (d':D),b∈g→(∀u,H b=some u→¬ Im u)→(∀a u,a≠b→H a=some u→H' a=some u)→Rf K H' d' x g→Rfs K H' (ds.set m d') xs fq
 | [],_,_,_,_,_,_,e=>by simp at e
 | d::ds,xs,fq,0,d',h,nd,e=>by
  obtain ⟨x,r,f1,f2,rfl,rfl,h1,h2⟩:=h
  obtain ⟨n1,n2,n3⟩:=List.nodup_append.mp nd
  obtain rfl:d=d':=by simpa using e
  refine⟨x,f1,rfl,h1,n1,fun a ha=>List.mem_append_left _ ha,fun b H' d' hb hm hk hr=>⟨x,r,f1,f2,rfl,rfl,hr,h2.mono (fun a ha u e=>hk a u (fun z=>n3 b hb a ha z.symm) e) fun a u e im=>hk a u (fun z=>hm u (z▸e) im) e⟩⟩
 | d::ds,xs,fq,m+1,d',h,nd,e=>by
  obtain ⟨x,r,f1,f2,rfl,rfl,h1,h2⟩:=h
  obtain ⟨n1,n2,n3⟩:=List.nodup_append.mp nd
  obtain ⟨y,g,e1,h3,n4,sub,k⟩:=Rfs.setM (m:=m) h2 n2 (by simpa using e)
  exact⟨y,g,by simpa using e1,h3,n4,fun a ha=>List.mem_append_right _ (sub a ha),fun b H' d' hb hm hk hr=>⟨x,r,f1,f2,rfl,rfl,h1.mono (fun a ha u e=>hk a u (fun z=>n3 a ha b (sub b hb) z) e) (fun a u e im=>hk a u (fun z=>hm u (z▸e) im) e),k b H' d' hb hm hk hr⟩⟩
theorem Ok.fld (o:Ok K B0 Γ fps δ σ H) {i k:Nat}{s C:Addr}{ns:List Str}{ds:List D}{d:D} (hi:i∈Γ) (e:δ[i]?=some (some (.pin s (.ins C ns ds)))) (ek:ds[k]?=some d) :
  ∃dx xs x g,σ[i]?=some (some (.ref s))∧H s=some (.ins C dx (ns.zip xs))∧xs[k]?=some x∧Rf K H d x g∧g.Nodup∧(∀a∈g,a∈fps i∧a≠s) ∧
   ∀(b:Addr) (H':Hp) (d':D),b∈g→(∀a u,a≠b→H a=some u→H' a=some u)→Mu H' b→Rf K H' d' x g→Ok K B0 Γ (fun j=>if j=i then fps i else fps j) (δ.set i (some (.pin s (.ins C ns (ds.set k d'))))) σ H':=by
 obtain ⟨v,hv,rfl,a,dx,xs,fq,ea,hH,ef,r⟩:=o.val i _ e
 cases ea
 have own:=o.own i hi
 rw[ef] at own
 obtain ⟨nd,mu⟩:=own
 obtain ⟨n1,n2⟩:=List.nodup_cons.mp nd
 obtain ⟨x,g,ex,rg,ng,sub,K'⟩:=r.setM n2 ek
 refine⟨dx,xs,x,g,hv,hH,ex,rg,ng,fun a ha=>⟨by rw[ef];exact List.mem_cons_of_mem _ (sub a ha),fun z=>n1 (z▸sub a ha)⟩,fun b H' d' hb hk hmu hr=>?_⟩
 have bs:s≠b:=fun z=>n1 (by rw[z];exact sub b hb)
 have nim:∀u,H b=some u→¬ Im u:=(mu b (List.mem_cons_of_mem _ (sub b hb))).2.jV
 have muk:∀c∈fps i,Mu H' c:=fun c hc=>by
  by_cases hcb:c=b
  ·rw[hcb];exact hmu
  ·rcases (mu c (by rw[← ef];exact hc)).2 with ⟨y,z⟩ | ⟨y,z⟩ | ⟨y,z⟩ | ⟨C',dx',fs,z⟩
   ·exact .inl ⟨y,hk _ _ hcb z⟩
   ·exact .inr (.inl ⟨y,hk _ _ hcb z⟩)
   ·exact .inr (.inr (.inl ⟨y,hk _ _ hcb z⟩))
   ·exact .inr (.inr (.inr ⟨C',dx',fs,hk _ _ hcb z⟩))
 refine o.write hi (d':=.pin s (.ins C ns (ds.set k d'))) (fp':=fps i) hv ⟨rfl,s,dx,xs,fq,rfl,hk _ _ bs hH,ef,K' b H' d' hb nim hk hr⟩ (by rw[ef];exact nd) muk (fun a ha=>.inl ha) fun c u hc hu=>hk c u (fun z=>hc (by rw[z,ef];exact List.mem_cons_of_mem _ (sub b hb))) hu
theorem yR {es:List D}{j:Nat}{x:D}:(es.set j x).map D.toV=(es.map D.toV).set j x.toV:=List.map_set
theorem yb {es:List D}{j:Nat}{x:D} (h:es.all D.aY=true) (hx:x.aY=true):(es.set j x).all D.aY=true:=by
 rw[List.all_eq_true] at h ⊢
 intro y hy
 rcases List.mem_or_eq_of_mem_set hy with z | z
 ·exact h y z
 ·rw[z];exact hx
def Hz (i:Nat) (C:Addr) (ns:List Str) (k:Nat) (de dx:DE) (E:bh) (δ:Dl):Prop:=∃s ds es,δ[i]?=some (some (.pin s (.ins C ns ds)))∧ds[k]?=some (.lst es)∧es.all D.aY=true ∧
 de δ fun x=>x.aY=true∧dx δ fun y=>asI [y] fun m=>∃j,ixN es.length m=some j∧E.nx (δ.set i (some (.pin s (.ins C ns (ds.set k (.lst (es.set j x)))))))
theorem xW (i:Nat) (ns:List Str) (k:Nat) (hc:Cls K C) (hn:cL K C f) (he:ER K Γ te de) (hx:ER K Γ tx dx) (hf:ns[k]?=some f:=by rfl) (hd:ns.Nodup:=by decide +kernel) (hi:i∈Γ:=by decide) :
  ST K ρ Γr Γl (jX te (zw (uv K (eU i) f) tx sD)) Γ Γ (Hz i C ns k de dx):=by
 intro B0 Dn E fps δ σ H kk o h
 obtain ⟨s,ds,es,e,ek,hs,h⟩:=h
 refine he.run o (he.mono _ _ _ (fun x z v H1 s1 r1=>?_) h)
 obtain ⟨zs,z⟩:=z
 obtain ⟨fp1,r1⟩:=r1
 obtain ⟨rfl,_⟩:=r1.aY zs
 obtain ⟨dx',xs,w,g,hv,hH,hw,_⟩:=(o.same s1).fld hi e ek
 refine⟨.ref s,hv,s,C,dx',_,w,rfl,hH,hc,hn,bH hd hf hw,hx.run (o.same s1) (hx.mono _ _ _ (fun y z u H2 s2 r2=>?_) z)⟩
 obtain ⟨m,rfl,j,ej,z⟩:=cW z
 have o2:=(o.same s1).same s2
 obtain ⟨dx2,xs2,w2,g2,hv2,hH2,hw2,rg,ng,gin,KK⟩:=o2.fld hi e ek
 have ez:ns.zip xs=ns.zip xs2:=by
  have:=(s2 _ _ hH).symm.trans hH2
  injection this with this
  injection this
 have ew:w=w2:=by
  have l1:=bH hd hf hw
  have l2:=bH hd hf hw2
  rw[ez,l2] at l1
  exact (Option.some.inj l1).symm
 subst ew
 obtain ⟨b,ys,fq,rfl,hb,rfl,rr⟩:=id rg
 obtain ⟨rfl,rfl⟩:=rr.i7 hs
 refine⟨b,_,m,j,rfl,r2.int,hb,by rw[List.length_map];exact ej,?_⟩
 rw[← yR]
 exact kk.nx (KK b _ (.lst (es.set j x)) List.mem_cons_self (fun a u ha hu=>by rw[aI ha];exact hu) (.inl ⟨_,aK⟩) ⟨b,_,[],rfl,aK,rfl,Rfs.mE (yb hs zs)⟩) z
def Gw (i:Nat) (C:Addr) (ns:List Str) (k:Nat) (dx de:DE) (E:bh) (δ:Dl):Prop:=∃s ds kvs,δ[i]?=some (some (.pin s (.ins C ns ds)))∧ds[k]?=some (.dic kvs) ∧
 de δ fun x=>x.aY=true∧dx δ fun y=>asI [y] fun n=>kvs.length<1000∧E.nx (δ.set i (some (.pin s (.ins C ns (ds.set k (.dic (putK kvs (.inl n) x.toV)))))))
theorem AK (i:Nat) (ns:List Str) (k:Nat) (hc:Cls K C) (hn:cL K C f) (hx:ER K Γ tx dx) (he:ER K Γ te de) (hf:ns[k]?=some f:=by rfl) (hd:ns.Nodup:=by decide +kernel) (hi:i∈Γ:=by decide) :
  ST K ρ Γr Γl (CP (uv K (eU i) f) tx te) Γ Γ (Gw i C ns k dx de):=by
 intro B0 Dn E fps δ σ H kk o h
 obtain ⟨s,ds,kvs,e,ek,h⟩:=h
 refine he.run o (he.mono _ _ _ (fun x z v H1 s1 r1=>?_) h)
 obtain ⟨zs,z⟩:=z
 obtain ⟨fp1,r1⟩:=r1
 obtain ⟨rfl,_⟩:=r1.aY zs
 obtain ⟨dx',xs,w,g,hv,hH,hw,_⟩:=(o.same s1).fld hi e ek
 refine⟨.ref s,hv,s,C,dx',_,w,rfl,hH,hc,hn,bH hd hf hw,hx.run (o.same s1) (hx.mono _ _ _ (fun y z u H2 s2 r2=>?_) z)⟩
 obtain ⟨n,rfl,hl,z⟩:=cW z
 have o2:=(o.same s1).same s2
 obtain ⟨dx2,xs2,w2,g2,hv2,hH2,hw2,rg,ng,gin,KK⟩:=o2.fld hi e ek
 have ez:ns.zip xs=ns.zip xs2:=by
  have:=(s2 _ _ hH).symm.trans hH2
  injection this with this
  injection this
 have ew:w=w2:=by
  have l1:=bH hd hf hw
  have l2:=bH hd hf hw2
  rw[ez,l2] at l1
  exact (Option.some.inj l1).symm
 subst ew
 obtain ⟨b,rfl,hb,hf',rfl⟩:=id rg
 refine⟨b,upd H2 b (.dK (putK kvs (.inl n) x.toV)),rfl,?_,kk.nx (KK b _ (.dic (putK kvs (.inl n) x.toV)) List.mem_cons_self (fun a u ha hu=>by rw[aI ha];exact hu) (.inr (.inl ⟨_,aK⟩)) ⟨b,rfl,aK,rP hf' (iA zs),rfl⟩) z⟩
 rw[r2.int]
 exact u0.k (k:=Sum.inl n) hb (nz (Nat.le_of_lt hl))
theorem wA {v:V}:∀{ns:List Str}{xs:List V}{k:Nat}{f:Str},ns.Nodup→ns[k]?=some f→k<xs.length→jl f v (ns.zip xs)=ns.zip (xs.set k v)
 | [],_,k,f,_,e,_=>by simp at e
 | _::_,[],k,f,_,_,h=>by simp at h
 | n::ns,x::xs,0,f,hd,e,h=>by
  obtain rfl:n=f:=by simpa using e
  rw[List.zip_cons_cons,jl,if_pos rfl];rfl
 | n::ns,x::xs,k+1,f,hd,e,h=>by
  obtain ⟨h1,h2⟩:=List.nodup_cons.mp hd
  have e':ns[k]?=some f:=by simpa using e
  have hne:n≠f:=fun z=>h1 (by rw[z];exact List.mem_of_getElem? e')
  rw[List.zip_cons_cons,jl,if_neg hne,wA h2 e' (by simpa using h)];rfl
def HK (i:Nat) (C:Addr) (ns:List Str) (k:Nat) (de:DE) (E:bh) (δ:Dl):Prop:=∃s ds y,δ[i]?=some (some (.pin s (.ins C ns ds)))∧ds[k]?=some y∧y.aY=true ∧
 de δ fun x=>x.aY=true∧E.nx (δ.set i (some (.pin s (.ins C ns (ds.set k x)))))
theorem Rfs.G8 {H H':Hp}{x:D} (hx:x.aY=true):∀{ds:List D}{xs:List V}{fq:List Addr}{k:Nat}{y:D},Rfs K H ds xs fq→ds[k]?=some y→y.aY=true→(∀a∈fq,∀o,H a=some o→H' a=some o)→(∀a o,H a=some o→Im o→H' a=some o)→Rfs K H' (ds.set k x) (xs.set k x.toV) fq
 | [],_,_,_,_,_,e,_,_,_=>by simp at e
 | d::ds,xs,fq,0,y,h,e,hy,k1,k2=>by
  obtain ⟨w,r,f1,f2,rfl,rfl,h1,h2⟩:=h
  obtain rfl:d=y:=by simpa using e
  obtain ⟨_,rfl⟩:=h1.aY hy
  exact⟨x.toV,r,[],f2,rfl,rfl,Rf.qJ hx,h2.mono (fun a ha=>k1 a (by simpa using ha)) k2⟩
 | d::ds,xs,fq,k+1,y,h,e,hy,k1,k2=>by
  obtain ⟨w,r,f1,f2,rfl,rfl,h1,h2⟩:=h
  exact⟨w,r.set k x.toV,f1,f2,rfl,rfl,h1.mono (fun a ha=>k1 a (List.mem_append_left _ ha)) k2,Rfs.G8 hx h2 (by simpa using e) hy (fun a ha=>k1 a (List.mem_append_right _ ha)) k2⟩
theorem Dk (i:Nat) (ns:List Str) (k:Nat) (hc:Cls K C) (hn:cL K C f) (he:ER K Γ te de) (hf:ns[k]?=some f:=by rfl) (hd:ns.Nodup:=by decide +kernel) (hl:ns.length≤100:=by decide) (hi:i∈Γ:=by decide) :
  ST K ρ Γr Γl (wY K (eU i) te f) Γ Γ (HK i C ns k de):=by
 intro B0 Dn E fps δ σ H kk o h
 obtain ⟨s,ds,y,e,ek,hy,h⟩:=h
 refine he.run o (he.mono _ _ _ (fun x z v H1 s1 r1=>?_) h)
 obtain ⟨zs,z⟩:=z
 obtain ⟨fp1,r1⟩:=r1
 obtain ⟨rfl,_⟩:=r1.aY zs
 have o1:=o.same s1
 obtain ⟨v,hv,rfl,a,dx,xs,fq,ea,hH,ef,r⟩:=o1.val i _ e
 cases ea
 have own:=o1.own i hi
 rw[ef] at own
 obtain ⟨nd,mu⟩:=own
 obtain ⟨n1,n2⟩:=List.nodup_cons.mp nd
 have hk:k<xs.length:=by rw[r.length];exact (List.getElem?_eq_some_iff.mp ek).1
 refine⟨.ref s,hv,s,C,dx,_,rfl,hH,hc,hn,by rw[List.length_zip];omega,?_⟩
 rw[wA hd hf hk]
 have keep:∀c u,c≠s→H1 c=some u→upd H1 s (.ins C dx (ns.zip (xs.set k x.toV))) c=some u:=fun c u hc hu=>by rw[aI hc];exact hu
 have nim:=(mu s List.mem_cons_self).2.jV
 refine kk.nx (o1.write hi (d':=.pin s (.ins C ns (ds.set k x))) (fp':=fps i) hv ⟨rfl,s,dx,_,fq,rfl,aK,ef,r.G8 zs ek hy (fun c hc u hu=>keep c u (fun z=>n1 (z▸hc)) hu) fun c u hu im=>keep c u (fun z=>nim u (z▸hu) im) hu⟩ (by rw[ef];exact nd) (fun c hc=>?_) (fun c hc=>.inl hc) fun c u hc hu=>keep c u (fun z=>hc (by rw[z,ef];exact List.mem_cons_self)) hu) z
 exact (mu c (by rw[← ef];exact hc)).2.upd (.inr (.inr (.inr ⟨_,_,_,rfl⟩)))
end
end L3
namespace L3
open PySem L2
section
variable {K:PySem.W.Frag}{ρ:Bool}{Γr Γl Γ Γ1 Γn M:List Nat}{te ta tx t1 t2:TE}{de da dx d1 d2:DE}
variable {B0:Hp}{fps:Nat→List Addr}{δ:Dl}{σ:St}{H:Hp}{C:Addr}{f:Str}
def G9 (i g1 g2 j:Nat) (C:Addr) (ns:List Str) (k:Nat) (d1 de d2:DE) (E:bh) (δ:Dl):Prop:=∃s ds rows,δ[i]?=some (some (.pin s (.ins C ns ds)))∧ds[k]?=some (.lst rows)∧j<δ.length ∧
 Fu i g1 g2 δ fun y=>d1 (δ.set i (some y)) fun z=>asI [z] fun m=>∃r es,ixN rows.length m=some r∧rows[r]?=some (.lst es)∧es.all D.aY=true ∧
  de ((δ.set i (some y)).set j (some (.lst es))) fun x=>x.aY=true∧d2 ((δ.set i (some y)).set j (some (.lst es))) fun z=>asI [z] fun m2=>∃q,ixN es.length m2=some q ∧
   E.nx ((δ.set j none).set i (some (.pin s (.ins C ns (ds.set k (.lst (rows.set r (.lst (es.set q x)))))))))
theorem Ok.look (o:Ok K B0 Γ fps δ σ H) {j:Nat}{y:D}{v:V}{fp:List Addr} (hl:j<δ.length) (r:Rf K H y v fp) :
  Ok K H [] (fun l=>if l=j then fp else fps l) (δ.set j (some y)) (σ.set j (some v)) H:=by
 refine⟨by rw[List.length_set,List.length_set];exact o.len,aJ.refl H,fun l d e=>?_,fun l q=>?_,fun _ h=>(nomatch h),fun _ h=>(nomatch h)⟩
 ·by_cases hj:l=j
  ·subst hj
   rw[List.getElem?_set_self hl] at e;cases e
   exact⟨v,List.getElem?_set_self (by rw[o.len];exact hl),by show Rf K H y v (if l=l then fp else fps l);rw[if_pos rfl];exact r⟩
  ·rw[List.getElem?_set_ne (Ne.symm hj)] at e
   rw[List.getElem?_set_ne (Ne.symm hj)]
   show ∃v,_∧Rf K H d v (if l=j then fp else fps l)
   rw[if_neg hj]
   exact o.val l d e
 ·by_cases hj:l=j
  ·subst hj;exact absurd (List.getElem?_set_self hl) (q y)
  ·show (if l=j then fp else fps l)=[]
   rw[if_neg hj]
   exact o.non l fun d z=>q d (by rw[List.getElem?_set_ne (Ne.symm hj)];exact z)
theorem Di (i g1 g2 j:Nat) (ns:List Str) (k:Nat) (hc:Cls K C) (hn:cL K C f) (h1:ER K [] t1 d1) (he:ER K [] te de) (h2:ER K [] t2 d2) (hf:ns[k]?=some f:=by rfl) (hd:ns.Nodup:=by decide +kernel) (hi:i∈Γ:=by decide) (hj:j∉Γ:=by decide) (hij:i≠j:=by decide) :
  ST K ρ Γr Γl (t8 (jX (tOp (wZ K) (uv K (eU i) f) t1) (gH j)) (jX te (zw (eU j) t2 sD))) Γ Γ (G9 i g1 g2 j C ns k d1 de d2):=by
 intro B0 Dn E fps δ σ H kk o h
 obtain ⟨s,ds,rows,e,ek,hjl,h⟩:=h
 obtain ⟨y,vy,fy,h,hil,hvy,ry⟩:=h.out o
 obtain ⟨dx',xs,w,g,hv,hH,hw,_⟩:=o.fld hi e ek
 refine⟨.ref s,hv,s,C,dx',_,w,rfl,hH,hc,hn,bH hd hf hw,h1.run (o.lend hil hvy ry) (h1.mono _ _ _ (fun z q u H2 s2 r2=>?_) h)⟩
 obtain ⟨m,rfl,r,es,er,ees,hs,q⟩:=cW q
 have o2:=o.same s2
 obtain ⟨dx2,xs2,w2,g2,hv2,hH2,hw2,rg,ng,gin,KK⟩:=o2.fld hi e ek
 have ez:ns.zip xs=ns.zip xs2:=by
  have:=(s2 _ _ hH).symm.trans hH2
  injection this with this
  injection this
 have ew:w=w2:=by
  have l1:=bH hd hf hw
  have l2:=bH hd hf hw2
  rw[ez,l2] at l1
  exact (Option.some.inj l1).symm
 subst ew
 obtain ⟨b,ys,fq,rfl,hb,rfl,rr⟩:=id rg
 obtain ⟨nb,nq⟩:=List.nodup_cons.mp ng
 obtain ⟨x,gx,ex,rx,nx,sub,KK2⟩:=rr.setM nq ees
 obtain ⟨c,zs,fz,rfl,hcH,rfl,rz⟩:=id rx
 obtain ⟨rfl,rfl⟩:=rz.i7 hs
 refine⟨b,ys,m,.ref c,rfl,r2.int,.inl (.inl hb),by unfold atI;rw[rr.length,er];exact ex,?_⟩
 have oL:=(o2.lend hil hvy (ry.same s2)).look (j:=j) (by rw[List.length_set];exact hjl) rx
 show jX te (zw (eU j) t2 sD) Dn (σ.set j (some (.ref c))) H2
 refine he.run oL (he.mono _ _ _ (fun x z v H3 s3 r3=>?_) q)
 obtain ⟨xs',z⟩:=z
 obtain ⟨fp3,r3⟩:=r3
 obtain ⟨rfl,_⟩:=r3.aY xs'
 have hjσ:j<σ.length:=by rw[o.len];exact hjl
 refine⟨.ref c,List.getElem?_set_self hjσ,h2.run (oL.same s3 |>.sub fun _ h=>h) (h2.mono _ _ _ (fun y2 z u2 H4 s4 r4=>?_) z)⟩
 obtain ⟨m2,rfl,q,eq,z⟩:=cW z
 have s24:=s3.trans s4
 have o4:=o2.same s24
 have o5:=o4.EU (σ':=σ.set j (some (.ref c))) j hj (by rw[List.length_set]) (fun l hl=>List.getElem?_set_ne (Ne.symm hl))
 have ek':(δ.set j none)[i]?=some (some (.pin s (.ins C ns ds))):=by rw[List.getElem?_set_ne (Ne.symm hij)];exact e
 obtain ⟨dx5,xs5,w5,g5,hv5,hH5,hw5,rg5,ng5,gin5,KK5⟩:=o5.fld hi ek' ek
 have ez5:ns.zip xs2=ns.zip xs5:=by
  have:=(s24 _ _ hH2).symm.trans hH5
  injection this with this
  injection this
 have ew5:V.ref b=w5:=by
  have l1:=bH hd hf hw2
  have l2:=bH hd hf hw5
  rw[ez5,l2] at l1
  exact (Option.some.inj l1).symm
 subst ew5
 obtain ⟨b',ys5,fq5,eb,hb5,rfl,rr5⟩:=id rg5
 cases eb
 rw[s24 _ _ hb] at hb5;cases hb5
 obtain ⟨nb5,nq5⟩:=List.nodup_cons.mp ng5
 obtain ⟨x5,gx5,ex5,rx5,nx5,sub5,KK6⟩:=rr5.setM nq5 ees
 rw[ex] at ex5;cases ex5
 obtain ⟨c',zs5,fz5,ec,hc5,rfl,rz5⟩:=id rx5
 cases ec
 obtain ⟨rfl,rfl⟩:=rz5.i7 hs
 refine⟨c,_,m2,q,rfl,r4.int,hc5,by rw[List.length_map];exact eq,?_⟩
 rw[← yR]
 have cin:c∈fq5:=sub5 c List.mem_cons_self
 have cb:b≠c:=fun z=>nb5 (by rw[z];exact cin)
 have keep:∀a u,a≠c→H4 a=some u→upd H4 c (.lst ((es.set q x).map D.toV)) a=some u:=fun a u ha hu=>by rw[aI ha];exact hu
 have nim:∀u,H4 c=some u→¬ Im u:=fun u hu im=>by rw[hc5] at hu;cases hu;rcases im with ⟨_,z⟩ | ⟨_,_,z⟩ | ⟨_,_,z⟩<;>cases z
 refine kk.nx (KK5 c _ (.lst (rows.set r (.lst (es.set q x)))) (List.mem_cons_of_mem _ cin) keep (.inl ⟨_,aK⟩) ⟨b,ys,fq5,rfl,keep _ _ cb (s24 _ _ hb),rfl,KK6 c _ _ List.mem_cons_self nim keep ⟨c,_,[],rfl,aK,rfl,Rfs.mE (yb hs xs')⟩⟩) z
def GW (j i i1 i2:Nat) (C:Addr) (ns:List Str) (k:Nat) (S:DSI) (E:bh) (δ:Dl):Prop:=∃s ds kvs x1 x2,δ[i]?=some (some (.pin s (.ins C ns ds)))∧ds[k]?=some (.dic kvs)∧δ[i1]?=some (some x1)∧δ[i2]?=some (some x2) ∧
 S [x1,x2,.dic kvs] fun r x'=>∃kvs',x'=.dic kvs'∧E.nx ((δ.set i (some (.pin s (.ins C ns (ds.set k (.dic kvs')))))).set j (some r))
theorem wz {S:DSI}{Ex:XK} (j i i1 i2:Nat) (ns:List Str) (k:Nat) (hS:Bv S) (hc:Cls K C) (hn:cL K C f) (hf:ns[k]?=some f:=by rfl) (hd:ns.Nodup:=by decide +kernel) (hi:i∈Γ:=by decide) (hj:j∉Γ:=by decide) (h1:i1≠i:=by decide) (h2:i2≠i:=by decide) :
  ST K ρ Γr Γl (jX (rR (spI K 2 S) [] Ex (eZ (eU i1) (eZ (eU i2) (eZ (uv K (eU i) f) lI)))) (gH j)) Γ Γ (GW j i i1 i2 C ns k S):=by
 intro B0 Dn E fps δ σ H kk o h
 obtain ⟨s,ds,kvs,x1,x2,e,ek,e1,e2,h⟩:=h
 obtain ⟨v1,hv1,r1⟩:=o.val i1 _ e1
 obtain ⟨v2,hv2,r2⟩:=o.val i2 _ e2
 obtain ⟨dx',xs,w,g,hv,hH,hw,rg,ng,gin,KK⟩:=o.fld hi e ek
 obtain ⟨b,rfl,hb,hfl,rfl⟩:=id rg
 have bi:=(gin b List.mem_cons_self).1
 have mub:=((o.own i hi).2 b bi).2
 have d1:b∉fps i1:=o.dj i hi i1 h1 b bi
 have d2:b∉fps i2:=o.dj i hi i2 h2 b bi
 refine⟨v1,hv1,v2,hv2,.ref s,hv,s,C,dx',_,.ref b,rfl,hH,hc,hn,bH hd hf hw,?_⟩
 refine⟨fun a=>if a=b then none else H a,(fun l=>match l with | 0=>fps i1 | 1=>fps i2 | 2=>[b] | _=>[]),[x1,x2,.dic kvs],⟨rfl,fun a u hu=>?_,fun l d q=>?_,fun l q=>?_,fun l hl=>?_,fun l hl l' hl' a ha=>?_⟩,⟨b,rfl⟩,hS _ _ _ (fun r x' z=>?_) h⟩
 ·by_cases ha:a=b
  ·rw[if_pos ha] at hu;cases hu
  ·rw[if_neg ha] at hu;exact hu
 ·match l,q with
  | 0,q=>cases q;exact⟨v1,rfl,r1⟩
  | 1,q=>cases q;exact⟨v2,rfl,r2⟩
  | 2,q=>cases q;exact⟨_,rfl,rg⟩
  | l+3,q=>simp at q
 ·match l,q with
  | 0,q=>exact absurd rfl (q _)
  | 1,q=>exact absurd rfl (q _)
  | 2,q=>exact absurd rfl (q _)
  | l+3,q=>rfl
 ·cases List.mem_singleton.mp hl
  refine⟨by simp,fun a ha=>?_⟩
  cases List.mem_singleton.mp ha
  exact⟨if_pos rfl,mub⟩
 ·cases List.mem_singleton.mp hl
  cases List.mem_singleton.mp ha
  match l',hl' with
  | 0,_=>exact d1
  | 1,_=>exact d2
  | 2,z=>exact absurd rfl z
  | l+3,_=>exact List.not_mem_nil
 ·obtain ⟨kvs',rfl,z⟩:=z
  intro w H' fp' fpw v sB hvb rb nb fb rw' nw fw
  cases hvb
  obtain ⟨b',eb,hb',hfl',rfl⟩:=id rb
  cases eb
  have keep:∀a u,a≠b→H a=some u→H' a=some u:=fun a u ha hu=>sB a u (by show (if a=b then none else H a)=_;rw[if_neg ha];exact hu)
  have o1:=KK b H' (.dic kvs') List.mem_cons_self keep (.inr (.inl ⟨_,hb'⟩)) ⟨b,rfl,hb',hfl',rfl⟩
  refine kk.nx ((o1.yf j (aJ.refl H') rw' fun l hl a ha q=>?_).sub fun l hl=>bA.mpr ⟨hl,fun z=>hj (by rw[← List.mem_singleton.mp z];exact hl)⟩) z
  obtain ⟨q1,q2,q3⟩:=fw a ha
  have hab:a≠b:=fun z=>q3 (by rw[z];exact List.mem_cons_self)
  have q1':(if a=b then none else H a)=none:=q1
  rw[if_neg hab] at q1'
  have q':a∈fps l:=by
   have:a∈(if l=i then fps i else fps l):=q
   by_cases hli:l=i
   ·rw[if_pos hli] at this;rw[hli];exact this
   ·rw[if_neg hli] at this;exact this
  exact o.dom q' q1'
abbrev DSG:=D→List D→Addr × D→Addr × D→(D→Prop)→Prop
def BZ (S:DSG):Prop:=∀x ds g1 g2 (P P':D→Prop),(∀z,P z→P' z)→S x ds g1 g2 P→S x ds g1 g2 P'
def spG (K:PySem.W.Frag) (S:DSG):Sp:=fun vs H Q _=>∃(B:Hp) (s:Addr) (x:D) (fx:List Addr) (ws:List V) (ds:List D) (g1 g2:Addr × D),vs=.ref s::ws∧aJ B H∧Rf K H x (.ref s) fx∧fx.Nodup∧(∀a∈fx,B a=none∧Mu H a)∧Rps K B ds ws∧Rp K B g1.2 (.ref g1.1)∧Rp K B g2.2 (.ref g2.1) ∧
 S x ds g1 g2 fun x'=>∀H' fp',aJ B H'→Rf K H' x' (.ref s) fp'→fp'.Nodup→(∀b∈fp',B b=none∧Mu H' b)→Q .non H'
theorem C9 {S:DSG}{n:Nat} (h:∀x ds g1 g2 P,S x ds g1 g2 P→ds.length+1=n) {vs:List V}{H:Hp}{Q:VK}{E:XK} (k:spG K S vs H Q E):vs.length=n:=by
 obtain ⟨B,s,x,fx,ws,ds,g1,g2,rfl,_,_,_,_,⟨fp,r⟩,_,_,hS⟩:=k
 rw[List.length_cons,r.length,h _ _ _ _ _ hS]
def Ha (i g1 g2:Nat) (C:Addr) (m:Str) (S:DSG) (dr:DA) (E:bh) (δ:Dl):Prop:=∃s ns ds a1 a2 e1 e2,δ[i]?=some (some (.pin s (.ins C ns ds)))∧δ[g1]?=some (some (.pin a1 e1))∧δ[g2]?=some (some (.pin a2 e2))∧m∉ns ∧
 dr δ fun xs=>S (.ins C ns ds) xs (a1,e1) (a2,e2) fun x'=>E.nx (δ.set i (some (.pin s x')))
theorem DQ {S:DSG}{Ex:XK}{w:TA}{dr:DA}{m:Str} (i g1 g2:Nat) (hS:BZ S) (hr:AS K Γ w dr) (hi:i∈Γ:=by decide) (n1:g1≠i:=by decide) (n2:g2≠i:=by decide) :
  ST K ρ Γr Γl (qD (uV C m (spG K S) [] Ex (eU i) w)) Γ Γ (Ha i g1 g2 C m S dr):=by
 intro B0 Dn E fps δ σ H kk o h
 obtain ⟨s,ns,ds,a1,a2,e1,e2,e,eg1,eg2,hm,h⟩:=h
 obtain ⟨v,hv,rfl,a,dx,xs,fq,ea,hH,ef,r⟩:=o.val i _ e
 cases ea
 refine⟨.ref s,hv,s,dx,_,rfl,hH,fN hm,hr.run o (hr.mono _ _ _ (fun ys z vs H2 fp s2 r2 n2'=>?_) h)⟩
 have o2:=o.same s2
 obtain ⟨v',hv',q1⟩:=o2.val i _ e
 rw[hv] at hv';cases hv'
 obtain ⟨w1,_,rfl,k1⟩:=o2.val g1 _ eg1
 obtain ⟨w2,_,rfl,k2⟩:=o2.val g2 _ eg2
 have own:=o2.own i hi
 have toB:∀{d:D}{v:V}{g:List Addr},Rf K H2 d v g→(∀a∈g,a∉fps i)→Rf K (fun a=>if a∈fps i then none else H2 a) d v g:=fun hr hd=>hr.mono (fun a ha u hu=>by rw[if_neg (hd a ha)];exact hu) fun a u hu im=>by
  rw[if_neg (fun z=>(own.2 a z).2.jV u hu im)];exact hu
 have toBs:Rfs K (fun a=>if a∈fps i then none else H2 a) ys vs fp:=r2.mono (fun a ha u hu=>by rw[if_neg (n2' i hi a ha)];exact hu) fun a u hu im=>by
  rw[if_neg (fun z=>(own.2 a z).2.jV u hu im)];exact hu
 refine⟨fun a=>if a∈fps i then none else H2 a,s,.ins C ns ds,fps i,vs,ys,(a1,e1),(a2,e2),by rw[List.append_nil],fun a u hu=>?_,q1.2,own.1,fun a ha=>⟨if_pos ha,(own.2 a ha).2⟩,⟨fp,toBs⟩,⟨_,toB k1 fun a ha=>fun z=>o2.dj i hi g1 n1 a z ha⟩,⟨_,toB k2 fun a ha=>fun z=>o2.dj i hi g2 n2 a z ha⟩,hS _ _ _ _ _ _ (fun x' z H' fp' sB rx nx fx=>?_) z⟩
 ·replace hu:(if a∈fps i then none else H2 a)=some u:=hu
  by_cases ha:a∈fps i
  ·rw[if_pos ha] at hu;cases hu
  ·rw[if_neg ha] at hu;exact hu
 ·refine kk.nx (o2.write hi (d':=.pin s x') (fp':=fp') hv ⟨rfl,rx⟩ nx (fun a ha=>(fx a ha).2) (fun a ha=>?_) fun b u hb hu=>sB b u (by show (if b∈fps i then none else H2 b)=_;rw[if_neg hb];exact hu)) z
  have:=(fx a ha).1
  by_cases hai:a∈fps i
  ·exact .inl hai
  ·have q:(if a∈fps i then none else H2 a)=none:=this
   rw[if_neg hai] at q
   exact .inr ⟨o2.b0.free q,fun j hz=>o2.dom hz q⟩
theorem Ok.Fh {B:Hp} (o:Ok K B [] fps δ σ B) {a:Addr}{e:D} (r:Rp K B e (.ref a)):∃fps',Ok K B [] fps' (δ++[some (.pin a e)]) (σ++[some (.ref a)]) B:=by
 obtain ⟨fp,r⟩:=r
 refine⟨fun j=>if j=δ.length then fp else fps j,by rw[List.length_append,List.length_append,o.len];rfl,aJ.refl B,fun j d q=>?_,fun j q=>?_,fun _ h=>(nomatch h),fun _ h=>(nomatch h)⟩
 ·by_cases hj:j=δ.length
  ·subst hj
   rw[List.getElem?_append_right (Nat.le_refl _),Nat.sub_self] at q
   cases q
   refine⟨.ref a,?_,rfl,?_⟩
   ·rw[List.getElem?_append_right (Nat.le_of_eq o.len),o.len,Nat.sub_self];rfl
   ·show Rf K B e (.ref a) (if δ.length=δ.length then fp else fps δ.length)
    rw[if_pos rfl];exact r
  ·have hl:j<δ.length:=by
    have:=(List.getElem?_eq_some_iff.mp q).1
    rw[List.length_append,List.length_singleton] at this;omega
   rw[List.getElem?_append_left hl] at q
   obtain ⟨v,hv,rv⟩:=o.val j d q
   refine⟨v,?_,?_⟩
   ·rw[List.getElem?_append_left (by rw[o.len];exact hl)];exact hv
   ·show Rf K B d v (if j=δ.length then fp else fps j)
    rw[if_neg hj];exact rv
 ·by_cases hj:j=δ.length
  ·subst hj
   exact absurd (by rw[List.getElem?_append_right (Nat.le_refl _),Nat.sub_self];rfl) (q (.pin a e))
  ·show (if j=δ.length then fp else fps j)=[]
   rw[if_neg hj]
   refine o.non j fun d z=>q d ?_
   rw[List.getElem?_append_left (List.getElem?_eq_some_iff.mp z).1];exact z
theorem Ok.Hi {B:Hp} (o:Ok K B [] fps δ σ B) (hs:aJ B H) {s:Addr}{x:D}{fx:List Addr} (r:Rf K H x (.ref s) fx) (nd:fx.Nodup) (hx:∀a∈fx,B a=none∧Mu H a):∃fps',Ok K B [0] fps' (some (.pin s x)::δ) (some (.ref s)::σ) H:=by
 have o1:=o.same hs
 refine⟨fun j=>match j with | 0=>fx | l+1=>fps l,by rw[List.length_cons,List.length_cons,o.len],hs,fun j d q=>?_,fun j q=>?_,fun j hj=>?_,fun j hj l hl a ha=>?_⟩
 ·match j,q with
  | 0,q=>cases q;exact⟨_,rfl,rfl,r⟩
  | l+1,q=>exact o1.val l d (by simpa using q)
 ·match j,q with
  | 0,q=>exact absurd rfl (q _)
  | l+1,q=>exact o.non l fun d z=>q d (by simpa using z)
 ·cases List.mem_singleton.mp hj
  exact⟨nd,hx⟩
 ·cases List.mem_singleton.mp hj
  match l,hl with
  | 0,z=>exact absurd rfl z
  | l+1,_=>exact fun z=>o.dom z (hx a ha).1
abbrev pY (n:Nat) (s:Addr) (x:D) (ds:List D) (g1 g2:Addr × D):Dl:=some (.pin s x)::(((ds.map some++List.replicate n none)++[some (.pin g1.1 g1.2)])++[some (.pin g2.1 g2.2)])
theorem sA {B:Hp}{n:Nat}{s:Addr}{x:D}{fx:List Addr}{ws:List V}{ds:List D}{g1 g2:Addr × D} (hs:aJ B H) (r:Rf K H x (.ref s) fx) (nd:fx.Nodup) (hx:∀a∈fx,B a=none∧Mu H a) (hr:Rps K B ds ws) (h1:Rp K B g1.2 (.ref g1.1)) (h2:Rp K B g2.2 (.ref g2.1)) :
  ∃fps',Ok K B [0] fps' (pY n s x ds g1 g2) (some (.ref s)::(((ws.map some++List.replicate n none)++[some (.ref g1.1)])++[some (.ref g2.1)])) H:=by
 have hl:ws.length=ds.length:=let ⟨_,q⟩:=hr;q.length
 obtain ⟨fps0,o0⟩:=ka (N:=List.replicate (ds.length+n) "") hr
 have e1:aZ (List.replicate (ds.length+n) "") ds=ds.map some++List.replicate n none:=by
  unfold aZ;rw[List.length_replicate,Nat.add_sub_cancel_left]
 have e2:L2.start (List.replicate (ds.length+n) "") ws=ws.map some++List.replicate n none:=by
  unfold L2.start;rw[List.length_replicate,hl,Nat.add_sub_cancel_left]
 rw[e1,e2] at o0
 obtain ⟨fps1,o1⟩:=o0.Fh h1
 obtain ⟨fps2,o2⟩:=o1.Fh h2
 exact o2.Hi hs r nd hx
abbrev EN (s:Addr) (P:D→Prop):bh:=⟨fun δ=>jy δ 0 fun a x=>a=s∧P x,fun _ _=>False,fun _=>False,fun _=>False⟩
def tT (G:List Nat) (t:TS):TS:=fun Dn σ H=>∃σ':St,σ'.length=σ.length∧(∀i,i∉G→σ'[i]?=σ[i]?)∧t Dn σ' H
theorem oo {N:List Str}{m n:Nat}{s:Addr}{ws:List V}{a1 a2:Addr} (hw:ws.length=m) (hN:N.length=m+n+3) {G:List Nat} (hG:G=[m+n+1,m+n+2]) :
  (some (V.ref s)::(((ws.map some++List.replicate n none)++[some (.ref a1)])++[some (.ref a2)])).length=(L2.start N (.ref s::ws)).length∧∀i,i∉G→(some (V.ref s)::(((ws.map some++List.replicate n none)++[some (.ref a1)])++[some (.ref a2)]))[i]?=(L2.start N (.ref s::ws))[i]?:=by
 subst hG
 unfold L2.start
 have hk:N.length - (V.ref s::ws).length=n+2:=by rw[List.length_cons,hN,hw];omega
 rw[hk]
 refine⟨by simp [hw],fun i hi=>?_⟩
 simp only[List.mem_cons,List.not_mem_nil,or_false,not_or] at hi
 cases i with
 | zero=>rfl
 | succ i =>
  show ((ws.map some++List.replicate n none)++[some (.ref a1)]++[some (.ref a2)])[i]?=(ws.map some++List.replicate (n+2) none)[i]?
  by_cases h1:i<m
  ·rw[List.append_assoc,List.append_assoc,List.getElem?_append_left (by rw[List.length_map];omega),List.getElem?_append_left (by rw[List.length_map];omega)]
  ·by_cases h2:i<m+n
   ·rw[List.append_assoc,List.getElem?_append_left (by rw[List.length_append,List.length_map,List.length_replicate];omega),List.getElem?_append_right (by rw[List.length_map];omega),List.getElem?_append_right (by rw[List.length_map];omega),List.getElem?_replicate,List.getElem?_replicate,if_pos (by rw[List.length_map];omega),if_pos (by rw[List.length_map];omega)]
   ·rw[List.getElem?_eq_none (by simp [hw];omega),List.getElem?_eq_none (by simp [hw];omega)]
theorem Eh {N:List Str}{S:DSG}{t:TS}{d:DS}{G:List Nat} (m n:Nat) (hs:ST K true [0] [] t [0] [0] d) (hN:N.length=m+n+3) (hG:G=[m+n+1,m+n+2]) (hd:∀s x ds g1 g2 P,S x ds g1 g2 P→ds.length=m∧d (EN s P) (pY n s x ds g1 g2)) :
  ∀{vs H Q E},spG K S vs H Q E→tT G t { nx:=fun _ H'=>Q .non H',rt:=Q } (L2.start N vs) H:=by
 rintro vs H Q E ⟨B,s,x,fx,ws,ds,g1,g2,rfl,sB,rx,nx,fx',hr,h1,h2,h⟩
 obtain ⟨hl,q⟩:=hd s x ds g1 g2 _ h
 obtain ⟨fps',o⟩:=sA (n:=n) sB rx nx fx' hr h1 h2
 have hw:ws.length=m:=by obtain ⟨_,r⟩:=hr;rw[r.length];exact hl
 obtain ⟨e1,e2⟩:=oo (s:=s) (a1:=g1.1) (a2:=g2.1) hw hN hG
 refine⟨_,e1,e2,hs (E:=EN s _) ⟨fun {fps2 δ2 σ2 H'} o2 z=>?_,fun o (z:False)=>z.elim,fun o (z:False)=>z.elim,fun o r i (z:False)=>z.elim⟩ o q⟩
 obtain ⟨a,x',e,rfl,z⟩:=iz z
 obtain ⟨v,hv,rfl,r'⟩:=o2.val 0 _ e
 have own:=o2.own 0 (List.mem_singleton.mpr rfl)
 exact z H' _ o2.b0 r' own.1 own.2
abbrev DSO:=D→Addr × D→Addr × D→DK→Prop
def Ay (S:DSO):Prop:=∀x g1 g2 (P P':DK),(∀z,P z→P' z)→S x g1 g2 P→S x g1 g2 P'
def spO (K:PySem.W.Frag) (S:DSO):Sp:=fun vs H Q _=>∃(B:Hp) (s:Addr) (x:D) (fx:List Addr) (g1 g2:Addr × D),vs=[.ref s]∧aJ B H∧Rf K H x (.ref s) fx∧fx.Nodup∧(∀a∈fx,B a=none∧Mu H a)∧Rp K B g1.2 (.ref g1.1)∧Rp K B g2.2 (.ref g2.1) ∧
 S x g1 g2 fun r=>∀w H' fpw,aJ B H'→Rf K H' r w fpw→fpw.Nodup→(∀a∈fpw,B a=none∧Mu H' a)→Q w H'
theorem Dc {S:DSO}{vs:List V}{H:Hp}{Q:VK}{E:XK} (k:spO K S vs H Q E):vs.length=1:=by
 obtain ⟨B,s,x,fx,g1,g2,rfl,_⟩:=k;rfl
theorem C8 {N:List Str}{S:DSO}{t:TS}{d:DS}{G:List Nat} (n:Nat) (hs:ST K true [] [] t [0] Γn d) (hN:N.length=n+3) (hG:G=[n+1,n+2]) (hd:∀s x g1 g2 P,S x g1 g2 P→d (kg P) (pY n s x [] g1 g2)) :
  ∀{vs H Q E},spO K S vs H Q E→tT G t { nx:=fun _ H'=>Q .non H',rt:=Q } (L2.start N vs) H:=by
 rintro vs H Q E ⟨B,s,x,fx,g1,g2,rfl,sB,rx,nx,fx',h1,h2,h⟩
 have q:=hd s x g1 g2 _ h
 obtain ⟨fps',o⟩:=sA (n:=n) (ds:=[]) (ws:=[]) sB rx nx fx' ⟨[],rfl,rfl⟩ h1 h2
 obtain ⟨e1,e2⟩:=oo (m:=0) (n:=n) (N:=N) (s:=s) (a1:=g1.1) (a2:=g2.1) (ws:=[]) rfl (by omega) (G:=G) (by rw[hG];simp)
 refine⟨_,e1,e2,hs (E:=kg _) ⟨fun {fps δ σ H'} o z=>z _ H' [] o.b0 ⟨rfl,rfl⟩ List.nodup_nil fun _ h=>(nomatch h),fun o (z:False)=>z.elim,fun o (z:False)=>z.elim,fun o r i z=>z _ _ _ o.b0 r (i rfl).nd fun a ha=>⟨(i rfl).nw a ha,(i rfl).mu a ha⟩⟩ o q⟩
def Hd (C:Addr) (m:Str) (Si:DSp) (So:DSO) (δ:Dl) (P:DK):Prop:=∃x0 x1 x2 x3,δ[0]?=some (some x0)∧δ[1]?=some (some x1)∧δ[2]?=some (some x2)∧δ[3]?=some (some x3)∧x2.isRef=true∧x3.isRef=true ∧
 ∀a2 a3,Si [x0,x1,.pin a2 x2,.pin a3 x3] fun x=>(∃ns dd,x=.ins C ns dd∧m∉ns)∧So x (a2,x2) (a3,x3) P
theorem Ds {Si:DSp}{So:DSO}{E E':XK}{m:Str} (hSi:cE Si) (hSo:Ay So):EM K Γ [] (uV C m (spO K So) [] E (Cg C (spN K C Si) [] E' (eZ (eU 0) (eZ (eU 1) (eZ (eU 2) (eZ (eU 3) lI))))) lI) (Hd C m Si So) :=
 ⟨fun δ P P' k ⟨x0,x1,x2,x3,e0,e1,e2,e3,r2,r3,h⟩=>⟨x0,x1,x2,x3,e0,e1,e2,e3,r2,r3,fun a2 a3=>hSi _ _ _ (fun x z=>⟨z.1,hSo _ _ _ _ _ k z.2⟩) (h a2 a3)⟩,fun {B0 fps δ σ H Q} o h=>by
  obtain ⟨x0,x1,x2,x3,e0,e1,e2,e3,i2,i3,h⟩:=h
  obtain ⟨v0,s0,r0⟩:=o.val 0 _ e0
  obtain ⟨v1,s1,r1⟩:=o.val 1 _ e1
  obtain ⟨v2,s2,r2⟩:=o.val 2 _ e2
  obtain ⟨v3,s3,r3⟩:=o.val 3 _ e3
  obtain ⟨a2,rfl⟩:=r2.isRef i2
  obtain ⟨a3,rfl⟩:=r3.isRef i3
  refine⟨v0,s0,v1,s1,.ref a2,s2,.ref a3,s3,fun x dx hx hdx hne=>?_⟩
  have sx:aJ H (upd H dx (.own x)):=aJ.lP hdx
  have hxn:(upd H dx (.own x)) x=none:=by rw[aI (Ne.symm hne)];exact hx
  refine⟨x,dx,[v0,v1,.ref a2,.ref a3],[x0,x1,.pin a2 x2,.pin a3 x3],upd H dx (.own x),rfl,hxn,rfl,⟨_,v0,_,_,_,rfl,rfl,r0.same sx,v1,_,_,_,rfl,rfl,r1.same sx,.ref a2,_,_,_,rfl,rfl,⟨rfl,r2.same sx⟩,.ref a3,_,_,[],rfl,rfl,⟨rfl,r3.same sx⟩,rfl,rfl⟩,hSi _ _ _ ?_ (h a2 a3)⟩
  rintro d ⟨⟨ns,dd,rfl,hm⟩,z⟩ ns' xs dd' fq H' e sH hH hq hnd hfq
  cases e
  refine⟨rfl,x,dx,_,rfl,hH,fN hm,upd H dx (.own x),x,.ins C ns dd,x::fq,(a2,x2),(a3,x3),rfl,sH,⟨x,dx,xs,fq,rfl,hH,rfl,hq⟩,List.nodup_cons.mpr ⟨fun h=>(hfq x h).2.1 rfl,hnd⟩,fun a ha=>?_,⟨_,r2.same sx⟩,⟨_,r3.same sx⟩,hSo _ _ _ _ _ (fun r z w H3 fpw s3' rr nd fr=>?_) z⟩
  ·rcases List.mem_cons.mp ha with e | h
   ·rw[e];exact⟨hxn,.inr (.inr (.inr ⟨_,_,_,hH⟩))⟩
   ·exact⟨(hfq a h).1,(hfq a h).2.2⟩
  ·exact z w H3 fpw (sx.trans s3') rr ⟨nd,fun a ha=>(fr a ha).2,fun a ha=>.inl (sx.free (fr a ha).1)⟩⟩
abbrev endsN (C s:Addr) (P:D→Prop):bh:=⟨fun δ=>jy δ 0 fun a x=>a=s∧(∃ns dd,x=.ins C ns dd)∧P x,fun _ _=>False,fun _=>False,fun _=>False⟩
def Co (K:PySem.W.Frag) (C:Addr) (S:DSp):Sp:=fun vs H Q _=>∃(x dx:Addr) (ws:List V) (ds:List D) (B0:Hp),vs=.ref x::ws∧B0 x=none∧H=upd B0 x (.ins C dx [])∧Rps K B0 ds ws ∧
 S ds fun d=>∀(ns:List Str) (xs:List V) (dd:List D) (fq:List Addr) (dx':Addr) (H':Hp),d=.ins C ns dd→aJ B0 H'→H' x=some (.ins C dx' (ns.zip xs))→Rfs K H' dd xs fq→fq.Nodup→(∀a∈fq,B0 a=none∧a≠x∧Mu H' a)→Q .non H'
theorem Bb {S:DSp}{n:Nat} (h:∀ds P,S ds P→ds.length=n) {vs:List V}{H:Hp}{Q:VK}{E:XK} (k:Co K C S vs H Q E):vs.length=n+1:=by
 obtain ⟨x,dx,ws,ds,B0,rfl,_,_,r,hS⟩:=k
 obtain ⟨fp,r⟩:=r
 rw[List.length_cons,r.length,h _ _ hS]
theorem A8 {S:DSp}{E:XK}{w:TA}{dr:DA} (hS:cE S) (hi:∀ds P,S ds P→S ds fun d=>(∃ns dd,d=.ins C ns dd)∧P d) (hr:AR K Γ w dr):EM K Γ [] (Cg C (Co K C S) [] E w) (sv S dr) :=
 ⟨fun δ P P' k h=>hr.mono _ _ _ (fun y z=>hS _ _ _ k z) h,
 fun {B0 fps δ σ H Q} o q=>hr.run o (hr.mono _ _ _ (fun ys z vs H1 s1 r1=>by
  intro x dx hx hdx hne
  have sx:aJ H1 (upd H1 dx (.own x)):=aJ.lP hdx
  refine⟨x,dx,vs,ys,upd H1 dx (.own x),by rw[List.append_nil],by rw[aI (Ne.symm hne)];exact hx,rfl,r1.same sx,hS _ _ _ ?_ (hi _ _ z)⟩
  rintro d ⟨⟨ns,dd,rfl⟩,z⟩ ns' xs dd' fq dx' H' e sH hH hq hnd hfq
  cases e
  refine⟨rfl,z (.ref x) H' (x::fq) (s1.trans (sx.trans sH)) ⟨x,dx',xs,fq,rfl,hH,rfl,hq⟩ ⟨List.nodup_cons.mpr ⟨fun h=>(hfq x h).2.1 rfl,hnd⟩,fun a ha=>?_,fun a ha=>?_⟩⟩
  ·rcases List.mem_cons.mp ha with e | h
   ·rw[e];exact .inr (.inr (.inr ⟨_,_,_,hH⟩))
   ·exact (hfq a h).2.2
  ·rcases List.mem_cons.mp ha with e | h
   ·rw[e];exact .inl (s1.free hx)
   ·exact .inl (s1.free (sx.free (hfq a h).1))) q)⟩
def INB (K:PySem.W.Frag) (C:Addr) (ns0:List Str) (t:TS) (d:List D→Dl→DK→Prop):Prop :=
 ∀⦃B0:Hp⦄ ⦃fps:Nat→List Addr⦄ ⦃δ:Dl⦄ ⦃σ:St⦄ ⦃H:Hp⦄ ⦃x dx:Addr⦄ ⦃xs0:List V⦄ ⦃ds0:List D⦄ ⦃fq0:List Addr⦄ ⦃R:Hp→Prop⦄ ⦃W:VK⦄,Ok K B0 [] fps (none::δ) σ H→σ[0]?=some (some (.ref x))→H x=some (.ins C dx (ns0.zip xs0))→B0 x=none→ns0.length=xs0.length→Rfs K H ds0 xs0 fq0→fq0.Nodup →
  (∀a∈fq0,B0 a=none∧a≠x∧Mu H a)→(∀i,∀a∈fps i,B0 a≠none) →
  d ds0 δ (fun y=>∀(ns:List Str) (xs:List V) (dd:List D) (fq:List Addr) (dx':Addr) (H':Hp),y=.ins C ns dd→aJ B0 H'→H' x=some (.ins C dx' (ns.zip xs))→Rfs K H' dd xs fq→fq.Nodup→(∀a∈fq,B0 a=none∧a≠x∧Mu H' a)→R H')→t { nx:=fun _ H'=>R H',rt:=W } σ H
theorem qo {ns0:List Str}{t:TS}{d:List D→Dl→DK→Prop} (hc:Cls K C) (hn:cL K C f) (he:EM K [] [] ta da) (hf:f∉ns0:=by decide +kernel) (hl:ns0.length<100:=by decide) (h:INB K C (ns0++[f]) t d) :
  INB K C ns0 (t8 (wY K (eU 0) ta f) t) (fun ds0 δ P=>da (none::δ) fun y=>d (ds0++[y]) δ P):=by
 intro B0 fps δ σ H x dx xs0 ds0 fq0 R W o h0 hx hb hlen hr hnd hq hfp q
 refine pZ (Dn:={ nx:=t { nx:=fun _ H'=>R H',rt:=W },rt:=W }) hc hn he o h0 hx hb hlen hr hnd hq (fun i z=>hfp i x z hb) hf hl (he.mono _ _ _ (fun y z H' v fq o' g1 g2 g3 g4=>?_) q)
 exact h o' h0 g1 hb (by simp [hlen]) g2 g3 g4 hfp z
theorem Bl {ns0:List Str}{t:TS}{d:DS} (hs:ST K true [0] [] t [0] [0] d):INB K C ns0 t (fun ds0 δ P=>∀s,d (endsN C s P) (some (.pin s (.ins C ns0 ds0))::δ)):=by
 intro B0 fps δ σ H x dx xs0 ds0 fq0 R W o h0 hx hb hlen hr hnd hq hfp q
 have o1:Ok K B0 [0] (fun j=>match j with | 0=>x::fq0 | l+1=>fps (l+1)) (some (.pin x (.ins C ns0 ds0))::δ) σ H:=by
  refine⟨o.len,o.b0,fun j d e=>?_,fun j e=>?_,fun j hj=>?_,fun j hj l hl a ha=>?_⟩
  ·match j,e with
   | 0,e=>cases e;exact⟨.ref x,h0,rfl,x,dx,xs0,fq0,rfl,hx,rfl,hr⟩
   | l+1,e=>exact o.val (l+1) d (by simpa using e)
  ·match j,e with
   | 0,e=>exact absurd rfl (e _)
   | l+1,e=>exact o.non (l+1) fun d z=>e d (by simpa using z)
  ·cases List.mem_singleton.mp hj
   refine⟨List.nodup_cons.mpr ⟨fun z=>(hq x z).2.1 rfl,hnd⟩,fun a ha=>?_⟩
   rcases List.mem_cons.mp ha with z | z
   ·rw[z];exact⟨hb,.inr (.inr (.inr ⟨_,_,_,hx⟩))⟩
   ·exact⟨(hq a z).1,(hq a z).2.2⟩
  ·cases List.mem_singleton.mp hj
   match l,hl with
   | 0,z=>exact absurd rfl z
   | l+1,_ =>
    intro z
    rcases List.mem_cons.mp ha with y | y
    ·exact hfp (l+1) a z (by rw[y];exact hb)
    ·exact hfp (l+1) a z (hq a y).1
 refine hs (E:=endsN C x _) ⟨fun {fps2 δ2 σ2 H2} o2 z=>?_,fun o (z:False)=>z.elim,fun o (z:False)=>z.elim,fun o r i (z:False)=>z.elim⟩ o1 (q x)
 obtain ⟨a,y,e,rfl,⟨ns,dd,rfl⟩,z⟩:=iz z
 obtain ⟨v,hv,rfl,b,dx',xs,fq,eb,hH,ef,r'⟩:=o2.val 0 _ e
 cases eb
 have own:=o2.own 0 (List.mem_singleton.mpr rfl)
 rw[ef] at own
 obtain ⟨n1,n2⟩:=List.nodup_cons.mp own.1
 exact z ns xs dd fq dx' H2 rfl o2.b0 hH r' n2 fun c hc=>⟨(own.2 c (List.mem_cons_of_mem _ hc)).1,fun z=>n1 (z▸hc),(own.2 c (List.mem_cons_of_mem _ hc)).2⟩
theorem Ep {N:List Str}{S:DSp}{t:TS}{d:List D→Dl→DK→Prop} (hs:INB K C [] t d) (hd:∀ds P,S ds P→d [] (aZ (N.drop 1) ds) P) (hN:1≤N.length) :
  ∀{vs H Q E},Co K C S vs H Q E→t { nx:=fun _ H'=>Q .non H',rt:=Q } (L2.start N vs) H:=by
 rintro vs H Q E ⟨x,dx,ws,ds,B0,rfl,hb,rfl,r,h⟩
 obtain ⟨fps,o⟩:=ka (N:=N.drop 1) r
 have sx:aJ B0 (upd B0 x (.ins C dx [])):=aJ.lP hb
 have o2:=o.same sx
 have est:L2.start N (.ref x::ws)=some (.ref x)::L2.start (N.drop 1) ws:=by
  unfold L2.start
  rw[List.map_cons,List.cons_append,List.length_cons,List.length_drop,show N.length - (ws.length+1)=N.length - 1 - ws.length by omega]
 rw[est]
 refine hs (B0:=B0) (fps:=fun i=>match i with | 0=>[] | j+1=>fps j) (δ:=aZ (N.drop 1) ds) (x:=x) (dx:=dx) (xs0:=[]) (ds0:=[]) (fq0:=[]) (R:=fun H'=>Q .non H') ⟨by rw[List.length_cons,List.length_cons,o2.len],sx,fun i dd e=>?_,fun i e=>?_,fun _ h=>(nomatch h),fun _ h=>(nomatch h)⟩ rfl aK hb rfl ⟨rfl,rfl⟩ List.nodup_nil (fun _ h=>(nomatch h)) (fun i a ha=>?_) (hd ds _ h)
 ·cases i with
  | zero=>simp at e
  | succ j=>exact o2.val j dd (by simpa using e)
 ·cases i with
  | zero=>rfl
  | succ j=>exact o2.non j fun dd z=>e dd (by simpa using z)
 ·cases i with
  | zero=>nomatch ha
  | succ j=>exact o.dom ha
def uE (xs:List D) (P:DK):Prop:=match xs with | [x]=>pR x fun kvs=>∃ns:List Int,kvs.map (·.1)=ns.map Sum.inl∧ns.length<64∧∀ms:List Int,ms.Perm ns→ms.Pairwise (·≤·)→P (dI ms) | _=>False
theorem qO {kvs:List (Key × V)}{P:DK}:uE [.dic kvs] P↔∃ns:List Int,kvs.map (·.1)=ns.map Sum.inl∧ns.length<64∧∀ms:List Int,ms.Perm ns→ms.Pairwise (·≤·)→P (dI ms):=Iff.rfl
theorem yN:mS K (fun xs H Q=>∃(a:Addr) (kvs:List (Key × V)) (ns:List Int),xs=[.ref a]∧H a=some (.dK kvs)∧kvs.map (·.1)=ns.map Sum.inl∧ns.length<64∧∀(l:Addr) (ms:List Int),H l=none→ms.Perm ns→ms.Pairwise (·≤·)→Q (.ref l) (upd H l (.lst (ms.map V.int)))) uE :=
 ⟨fun xs P P' k h=>by
  unfold uE at h ⊢
  revert h
  split
  ·exact fun h=>by obtain ⟨kvs,rfl,ns,e,z⟩:=gQ h;exact⟨ns,e,z.1,fun ms a b=>k _ (z.2 ms a b)⟩
  ·exact id,
 fun {H xs vs Q} r h=>by
  unfold uE at h
  split at h
  ·obtain ⟨v,rfl,r0⟩:=r.one
   obtain ⟨kvs,rfl,ns,e,z⟩:=gQ h
   obtain ⟨fp,a,rfl,ha,_,_⟩:=r0
   exact⟨a,kvs,ns,rfl,ha,e,z.1,fun l ms hl hp ho=>z.2 ms hp ho _ _ [l] (aJ.lP hl) (Rf.ofInts aK) (Nw.one hl aK).any⟩
  ·exact h.elim⟩
end
end L3
namespace L3
open PySem L2
theorem om {X:Cx}{ss:List Stmt}{t:TS} (G:List Nat) (hG:∀i∈G,∀x,X.N[i]?=some x→X.env.scope.names.lookup x=none) (h:PSs X ss t):PSs X ss (tT G t):=zQ G hG h
end L3
namespace L3
namespace Fl
open PySem L2
theorem kK {l:List Int}{i j:Nat}{v:Int} (h:i<l.length):(l.set i v).getD j 0=if i=j then v else l.getD j 0:=by
 rw[List.getD_eq_getElem?_getD,List.getElem?_set,List.getD_eq_getElem?_getD]
 by_cases e:i=j
 ·rw[if_pos e,if_pos e,if_pos h];rfl
 ·rw[if_neg e,if_neg e]
structure Wy (n m:Nat) (low high t:List (List Int)) (w:List Int) (g:Nat) (ps:List (Nat × Nat)):Prop where
 hd:∃p r,ps=p::r∧p.2=g
 rg:∀p∈ps,p.1<n∧p.2<m
 n1:(ps.map Prod.fst).Nodup
 n2:(ps.map Prod.snd).Nodup
 up:∀p∈ps,cellAt t p.1 p.2<cellAt high p.1 p.2
 lk:Lk (fun a b=>cellAt low a b<cellAt t a b) ps
 ls:∃p,ps.getLast?=some p∧0<w.getD p.1 0
theorem pq {n m:Nat}:∀{ps:List (Nat × Nat)},(∀p∈ps,p.1<n∧p.2<m)→∀p∈cellsOf ps,p.1<n∧p.2<m
 | [],_,p,h=>nomatch h
 | [q],k,p,h=>by cases List.mem_singleton.mp h;exact k q List.mem_cons_self
 | q::q2::r,k,p,h=>by
  rcases List.mem_cons.mp h with e | h
  ·rw[e];exact k q List.mem_cons_self
  ·rcases List.mem_cons.mp h with e | h
   ·rw[e];exact⟨(k q List.mem_cons_self).1,(k q2 (List.mem_cons_of_mem _ List.mem_cons_self)).2⟩
   ·exact pq (ps:=q2::r) (fun z hz=>k z (List.mem_cons_of_mem _ hz)) p h
theorem BW {L L':Nat→Nat→Prop}:∀{ps:List (Nat × Nat)},Lk L ps→Lk L' ps→Lk (fun a b=>L a b∧L' a b) ps
 | [],_,_=>trivial
 | [_],_,_=>trivial
 | p::q::r,h,k=>⟨⟨h.1,k.1⟩,BW (ps:=q::r) h.2 k.2⟩
theorem D3 {n m:Nat}{rows cols:List Int}{low high t:List (List Int)}{w r:List Int}{g:Nat}{ps:List (Nat × Nat)}{p:Nat × Nat}{x:Int} (s:St n m rows cols low high t w r) (hw:Wy n m low high t w g ps) (hp:ps.getLast?=some p) (x1:1≤x)
  (xw:x≤w.getD p.1 0) (xr:x≤r.getD g 0) (al:Al (fun c=>x≤cellAt high c.1 c.2 - cellAt t c.1 c.2) (fun c=>x≤cellAt t c.1 c.2 - cellAt low c.1 c.2) (cellsOf ps)) :
  St n m rows cols low high (ap x (cellsOf ps) t) (w.set p.1 (w.getD p.1 0 - x)) (r.set g (r.getD g 0 - x))∧p.1<n∧g<m:=by
 have hpin:p∈ps:=List.mem_of_getLast? hp
 obtain ⟨pn,pm⟩:=hw.rg p hpin
 obtain ⟨q,rest,eq,hg⟩:=hw.hd
 have gm:g<m:=by rw[← hg];exact (hw.rg q (by rw[eq];exact List.mem_cons_self)).2
 obtain ⟨a1,a2⟩:=xH.mp al
 obtain ⟨k1,k2,k3,k4⟩:=Fb (x:=x) s.rt (pq hw.rg)
 have lk2:=BW hw.lk a2
 refine⟨⟨k1,by rw[List.length_set];exact s.wl,by rw[List.length_set];exact s.rl,fun i j hi hj=>?_,fun i hi=>?_,fun j hj=>?_,fun j hj=>?_,fun i hi hn j hj=>?_⟩,pn,gm⟩
 ·have b:=s.bd i j hi hj
  rw[k2]
  rcases BJ (x:=x) (a:=i) (b:=j) hw.n1 hw.n2 lk2 with z | ⟨z,zin⟩ | ⟨z,zl,_⟩
  ·rw[z];omega
  ·have:=a1 (i,j) zin
   dsimp only at this
   rw[z];omega
  ·dsimp only at zl
   rw[z];omega
 ·rw[k3,yJ hp,kK (by rw[s.wl];exact pn),s.rs i hi]
  by_cases z:p.1=i
  ·rw[if_pos z,if_pos z,← z];omega
  ·rw[if_neg z,if_neg z];omega
 ·rw[k4,eq,zm,kK (by rw[s.rl];exact gm),s.cs j hj,hg]
  by_cases z:g=j
  ·rw[if_pos z,if_pos z,← z];omega
  ·rw[if_neg z,if_neg z];omega
 ·rw[kK (by rw[s.rl];exact gm)]
  by_cases z:g=j
  ·rw[if_pos z];omega
  ·rw[if_neg z];exact s.rp j hj
 ·rw[kK (by rw[s.wl];exact pn)] at hn
  by_cases z:p.1=i
  ·rw[if_pos z] at hn;omega
  ·rw[if_neg z] at hn
   rw[k2]
   have e:dl x (cellsOf ps) i j=0:=by
    have st:∀y∈ps,y.1=i→∃b,b<m∧cellAt low i b<cellAt t i b∨0<w.getD i 0:=by
     intro y hy e
     have:∀{qs:List (Nat × Nat)},Lk (fun a b=>cellAt low a b<cellAt t a b) qs→(∀z∈qs,z.1<n∧z.2<m)→y∈qs→qs.getLast?=some p→y=p∨∃b,b<m∧cellAt low y.1 b<cellAt t y.1 b:=by
      intro qs
      induction qs with
      | nil=>intro _ _ h;nomatch h
      | cons a l ih =>
       intro h1 h2 h3 h4
       cases l with
       | nil =>
        cases List.mem_singleton.mp h3
        left;simpa using h4
       | cons b l =>
        rcases List.mem_cons.mp h3 with e | h3
        ·right
         rw[e]
         exact⟨b.2,(h2 b (List.mem_cons_of_mem _ List.mem_cons_self)).2,h1.1⟩
        ·exact ih h1.2 (fun z hz=>h2 z (List.mem_cons_of_mem _ hz)) h3 (by rw[List.getLast?_cons_cons] at h4;exact h4)
     rcases this hw.lk hw.rg hy hp with q | ⟨b,hb,q⟩
     ·exact absurd (by rw[← q];exact e) z
     ·exact⟨b,.inl ⟨hb,by rw[← e];exact q⟩⟩
    refine xE fun y hy e=>?_
    obtain ⟨b,q⟩:=st y hy e
    rcases q with ⟨hb,q⟩ | q
    ·have:=s.ng i hi hn b hb;omega
    ·omega
   rw[e,s.ng i hi hn j hj];omega
def oV:Option Nat→V | none=>.non | some c=>.int (c:Int)
def oD:Option Nat→D | none=>.non | some g=>.int (g:Int)
def kA (as:List (Nat × Option Nat)):List (Key × V):=as.map fun p=>(Sum.inl (p.1:Int),oV p.2)
abbrev kys (as:List (Nat × Option Nat)):List Nat:=as.map Prod.fst
theorem yL {as:List (Nat × Option Nat)}:(kA as).map (·.1)=((kys as).map fun (c:Nat)=>(c:Int)).map Sum.inl:=by
 unfold kA;rw[List.map_map,List.map_map,List.map_map];rfl
theorem tP:∀{as:List (Nat × Option Nat)}{c:Nat},c∉kys as→iq (kA as) (.inl (c:Int))=none
 | [],c,_=>rfl
 | p::as,c,h=>by
  rw[kys,List.map_cons,List.mem_cons,not_or] at h
  show iq ((Sum.inl (p.1:Int),oV p.2)::kA as) _=none
  rw[ju (fun z=>h.1 (by have:=Sum.inl.inj z;omega)),tP h.2]
theorem oW:∀{as:List (Nat × Option Nat)}{c:Nat}{o:Option Nat},(kys as).Nodup→(c,o)∈as→iq (kA as) (.inl (c:Int))=some (oV o)
 | [],c,o,_,h=>nomatch h
 | p::as,c,o,nd,h=>by
  rw[kys,List.map_cons] at nd
  obtain ⟨n1,n2⟩:=List.nodup_cons.mp nd
  show iq ((Sum.inl (p.1:Int),oV p.2)::kA as) _=_
  rcases List.mem_cons.mp h with e | h
  ·subst e;exact kH rfl
  ·rw [ju (fun z => n1 (by have : p.1 = c := by have := Sum.inl.inj z; omega
                           rw[this];exact List.mem_map.mpr ⟨_,h,rfl⟩)),oW n2 h]
theorem HM {as:List (Nat × Option Nat)}{c:Nat}:(iq (kA as) (.inl (c:Int))).isSome=decide (c∈kys as):=by
 by_cases h:c∈kys as
 ·rw[decide_eq_true h]
  induction as with
  | nil=>nomatch h
  | cons p as ih =>
   show (iq ((Sum.inl (p.1:Int),oV p.2)::kA as) _).isSome=_
   by_cases e:p.1=c
   ·rw[kH (by rw[e])];rfl
   ·rw[ju (fun z=>e (by have:=Sum.inl.inj z;omega))]
    rw[kys,List.map_cons] at h
    rcases List.mem_cons.mp h with z | z
    ·exact absurd z.symm e
    ·exact ih z
 ·rw[decide_eq_false h,tP h];rfl
theorem AF {as:List (Nat × Option Nat)}{c:Nat}{o:Option Nat} (h:c∉kys as):putK (kA as) (.inl (c:Int)) (oV o)=kA (as++[(c,o)]):=by
 rw[Au _ (tP h)]
 unfold kA;rw[List.map_append];rfl
theorem iX {B:Nat}{l:List Nat} (nd:l.Nodup) (h:∀a∈l,a<B):l.length≤B:=Mat.wx nd h
structure Rc (n m:Nat) (low high t:List (List Int)) (w:List Int) (as bs:List (Nat × Option Nat)) (rk ck:Nat→Nat) (D:Nat):Prop where
 na:(kys as).Nodup
 nb:(kys bs).Nodup
 la:∀i∈kys as,i<n∧rk i≤D
 lb:∀j∈kys bs,j<m∧ck j≤D
 pa:∀i o,(i,o)∈as→(o=none∧0<w.getD i 0)∨∃c,o=some c∧c∈kys bs∧ck c<rk i∧cellAt low i c<cellAt t i c
 pb:∀j o,(j,o)∈bs→∃s,o=some s∧s∈kys as∧rk s<ck j∧cellAt t s j<cellAt high s j
 st:∀i,i<n→0<w.getD i 0→i∈kys as
abbrev nw (new:List (Nat × Nat)):List (Nat × Option Nat):=new.map fun p=>(p.1,some p.2)
theorem fR {new:List (Nat × Nat)}:kys (nw new)=new.map Prod.fst:=by unfold kys nw;rw[List.map_map];rfl
theorem du {as bs:List (Nat × Option Nat)}:kys (as++bs)=kys as++kys bs:=List.map_append
variable {n m:Nat}{low high t:List (List Int)}{w r:List Int}{as bs:List (Nat × Option Nat)}{rk ck:Nat→Nat}{D:Nat}
theorem Rc.up (h:Rc n m low high t w as bs rk ck D) {new:List (Nat × Nat)} (nd:(kys bs++new.map Prod.fst).Nodup) (hn:∀p∈new,p.2∈kys as∧p.1<m∧cellAt t p.2 p.1<cellAt high p.2 p.1) :
  Rc n m low high t w as (bs++nw new) rk (fun c=>if c∈new.map Prod.fst then D+1 else ck c) (D+1):=by
 obtain ⟨d1,d2,d3⟩:=List.nodup_append.mp nd
 have old:∀c∈kys bs,c∉new.map Prod.fst:=fun c hc z=>d3 c hc c z rfl
 refine⟨h.na,by rw[du,fR];exact nd,fun i hi=>⟨(h.la i hi).1,by have:=(h.la i hi).2;omega⟩,fun j hj=>?_,fun i o e=>?_,fun j o e=>?_,h.st⟩
 ·rw[du,fR] at hj
  rcases List.mem_append.mp hj with z | z
  ·show j<m∧(if j∈new.map Prod.fst then D+1 else ck j)≤D+1
   rw[if_neg (old j z)]
   have:=h.lb j z;omega
  ·obtain ⟨p,hp,rfl⟩:=List.mem_map.mp z
   show p.1<m∧(if p.1∈new.map Prod.fst then D+1 else ck p.1)≤D+1
   rw[if_pos z]
   exact⟨(hn p hp).2.1,Nat.le_refl _⟩
 ·rcases h.pa i o e with z | ⟨c,e1,e2,e3,e4⟩
  ·exact .inl z
  ·refine .inr ⟨c,e1,by rw[du];exact List.mem_append_left _ e2,?_,e4⟩
   show (if c∈new.map Prod.fst then D+1 else ck c)<rk i
   rw[if_neg (old c e2)];exact e3
 ·rcases List.mem_append.mp e with z | z
  ·obtain ⟨s,e1,e2,e3,e4⟩:=h.pb j o z
   refine⟨s,e1,e2,?_,e4⟩
   show rk s<if j∈new.map Prod.fst then D+1 else ck j
   rw[if_neg (old j (List.mem_map.mpr ⟨_,z,rfl⟩))];exact e3
  ·obtain ⟨p,hp,q⟩:=List.mem_map.mp z
   cases q
   obtain ⟨q1,q2,q3⟩:=hn p hp
   refine⟨p.2,rfl,q1,?_,q3⟩
   show rk p.2<if p.1∈new.map Prod.fst then D+1 else ck p.1
   rw[if_pos (List.mem_map.mpr ⟨p,hp,rfl⟩)]
   have:=(h.la p.2 q1).2;omega
theorem Rc.down (h:Rc n m low high t w as bs rk ck D) {new:List (Nat × Nat)} (nd:(kys as++new.map Prod.fst).Nodup) (hn:∀p∈new,p.2∈kys bs∧p.1<n∧cellAt low p.1 p.2<cellAt t p.1 p.2) :
  Rc n m low high t w (as++nw new) bs (fun i=>if i∈new.map Prod.fst then D+1 else rk i) ck (D+1):=by
 obtain ⟨d1,d2,d3⟩:=List.nodup_append.mp nd
 have old:∀c∈kys as,c∉new.map Prod.fst:=fun c hc z=>d3 c hc c z rfl
 refine⟨by rw[du,fR];exact nd,h.nb,fun j hj=>?_,fun i hi=>⟨(h.lb i hi).1,by have:=(h.lb i hi).2;omega⟩,fun j o e=>?_,fun i o e=>?_,fun i hi hw=>by rw[du];exact List.mem_append_left _ (h.st i hi hw)⟩
 ·rw[du,fR] at hj
  rcases List.mem_append.mp hj with z | z
  ·show j<n∧(if j∈new.map Prod.fst then D+1 else rk j)≤D+1
   rw[if_neg (old j z)]
   have:=h.la j z;omega
  ·obtain ⟨p,hp,rfl⟩:=List.mem_map.mp z
   show p.1<n∧(if p.1∈new.map Prod.fst then D+1 else rk p.1)≤D+1
   rw[if_pos z]
   exact⟨(hn p hp).2.1,Nat.le_refl _⟩
 ·rcases List.mem_append.mp e with z | z
  ·rcases h.pa j o z with q | ⟨c,e1,e2,e3,e4⟩
   ·exact .inl q
   ·refine .inr ⟨c,e1,e2,?_,e4⟩
    show ck c<if j∈new.map Prod.fst then D+1 else rk j
    rw[if_neg (old j (List.mem_map.mpr ⟨_,z,rfl⟩))];exact e3
  ·obtain ⟨p,hp,q⟩:=List.mem_map.mp z
   cases q
   obtain ⟨q1,q2,q3⟩:=hn p hp
   refine .inr ⟨p.2,rfl,q1,?_,q3⟩
   show ck p.2<if p.1∈new.map Prod.fst then D+1 else rk p.1
   rw[if_pos (List.mem_map.mpr ⟨p,hp,rfl⟩)]
   have:=(h.lb p.2 q1).2;omega
 ·obtain ⟨s,e1,e2,e3,e4⟩:=h.pb i o e
  refine⟨s,e1,by rw[du];exact List.mem_append_left _ e2,?_,e4⟩
  show (if s∈new.map Prod.fst then D+1 else rk s)<ck i
  rw[if_neg (old s e2)];exact e3
structure Cl (n m:Nat) (low high t:List (List Int)) (r:List Int) (layer:List Nat) (as bs:List (Nat × Option Nat)) (goal:Option Nat):Prop where
 ly:∀l∈layer,l∈kys as
 cr:∀i∈kys as,i∉layer→∀j,j<m→cellAt t i j<cellAt high i j→j∈kys bs
 cc:∀j∈kys bs,∀i,i<n→cellAt low i j<cellAt t i j→i∈kys as
 gl:match goal with | none=>∀c∈kys bs,r.getD c 0≤0 | some g=>g∈kys bs∧0<r.getD g 0
structure Wp (n m:Nat) (low high t:List (List Int)) (bs:List (Nat × Option Nat)) (rk ck:Nat→Nat) (g:Nat) (ps:List (Nat × Nat)) (c:Nat):Prop where
 hd:(ps=[]∧c=g)∨∃p l,ps=p::l∧p.2=g
 ci:c∈kys bs
 rg:∀p∈ps,p.1<n∧p.2<m
 rk:∀p∈ps,ck c<rk p.1∧ck c<ck p.2
 n1:(ps.map Prod.fst).Nodup
 n2:(ps.map Prod.snd).Nodup
 up:∀p∈ps,cellAt t p.1 p.2<cellAt high p.1 p.2
 lk:Lk (fun a b=>cellAt low a b<cellAt t a b) ps
 ls:∀p,ps.getLast?=some p→cellAt low p.1 c<cellAt t p.1 c
theorem Wp.step (h:Rc n m low high t w as bs rk ck D) {g c s:Nat}{ps:List (Nat × Nat)} (q:Wp n m low high t bs rk ck g ps c) (e:(c,some s)∈bs) :
  s∈kys as∧((s,none)∈as→Wy n m low high t w g (ps++[(s,c)]))∧∀c2,(s,some c2)∈as→Wp n m low high t bs rk ck g (ps++[(s,c)]) c2∧ck c2<ck c:=by
 obtain ⟨s',e1,e2,e3,e4⟩:=h.pb c (some s) e
 cases e1
 have hs:=(h.la s e2).1
 have hc:=(h.lb c q.ci).1
 have rg:∀p∈ps++[(s,c)],p.1<n∧p.2<m:=fun p hp=>by
  rcases List.mem_append.mp hp with z | z
  ·exact q.rg p z
  ·cases List.mem_singleton.mp z;exact⟨hs,hc⟩
 have n1:((ps++[(s,c)]).map Prod.fst).Nodup:=by
  rw[List.map_append]
  refine List.nodup_append.mpr ⟨q.n1,by simp,fun a ha b hb z=>?_⟩
  obtain ⟨p,hp,rfl⟩:=List.mem_map.mp ha
  have:b=s:=by simpa using hb
  have:=(q.rk p hp).1
  rw[z,‹b=s›] at this;omega
 have n2:((ps++[(s,c)]).map Prod.snd).Nodup:=by
  rw[List.map_append]
  refine List.nodup_append.mpr ⟨q.n2,by simp,fun a ha b hb z=>?_⟩
  obtain ⟨p,hp,rfl⟩:=List.mem_map.mp ha
  have:b=c:=by simpa using hb
  have:=(q.rk p hp).2
  rw[z,‹b=c›] at this;omega
 have up:∀p∈ps++[(s,c)],cellAt t p.1 p.2<cellAt high p.1 p.2:=fun p hp=>by
  rcases List.mem_append.mp hp with z | z
  ·exact q.up p z
  ·cases List.mem_singleton.mp z;exact e4
 have lk:=yq (s:=s) q.lk q.ls
 have hd:∃p l,ps++[(s,c)]=p::l∧p.2=g:=by
  rcases q.hd with ⟨z1,z2⟩ | ⟨p,l,z1,z2⟩
  ·subst z1;exact⟨(s,c),[],rfl,z2⟩
  ·subst z1;exact⟨p,l++[(s,c)],rfl,z2⟩
 refine⟨e2,fun z=>⟨hd,rg,n1,n2,up,lk,(s,c),by simp,?_⟩,fun c2 z=>?_⟩
 ·rcases h.pa s none z with ⟨_,y⟩ | ⟨_,y,_⟩
  ·exact y
  ·cases y
 ·rcases h.pa s (some c2) z with ⟨y,_⟩ | ⟨c',y,y2,y3,y4⟩
  ·cases y
  ·cases y
   refine⟨⟨.inr hd,y2,rg,fun p hp=>?_,n1,n2,up,lk,fun p hp=>?_⟩,by omega⟩
   ·rcases List.mem_append.mp hp with v | v
    ·have:=q.rk p v;omega
    ·cases List.mem_singleton.mp v
     show ck c2<rk s∧ck c2<ck c
     omega
   ·have:p=(s,c):=by simpa using hp.symm
    rw[this];exact y4
end Fl
end L3
namespace L3
open PySem L2
section
variable {K:PySem.W.Frag}{ρ:Bool}{Γr Γl Γ Γ1 Γn M:List Nat}{te t0 t1 t2:TE}{de d0 d1 d2:DE}
end
end L3
namespace L3.Fl
theorem Cm {n m:Nat}{rows cols:List Int}{low high t:List (List Int)}{R C:List Nat} (ht:bF n m t) (bd:∀i j,i<n→j<m→cellAt low i j≤cellAt t i j∧cellAt t i j≤cellAt high i j) (rs:∀i,i<n→jt t i=rows.getD i 0) (cs:∀j,j<m→ji t j=cols.getD j 0):¬ Cut n m rows cols low high R C:=by
 unfold Cut
 have e1:sN n (fun i=>if i∈R then rows.getD i 0 else 0)=sN n fun i=>sN m fun j=>if i∈R then cellAt t i j else 0:=bj fun i hi=>by
  by_cases z:i∈R
  ·rw[if_pos z,← rs i hi,oU ht hi]
   exact bj fun j _=>(if_pos z).symm
  ·rw[if_neg z,bj (g:=fun _=>0) fun j _=>if_neg z,cf]
 have e2:sN m (fun j=>if j∈C then cols.getD j 0 else 0)=sN n fun i=>sN m fun j=>if j∈C then cellAt t i j else 0:=by
  rw[mi]
  refine bj fun j hj=>?_
  by_cases z:j∈C
  ·rw[if_pos z,← cs j hj,mL ht]
   exact bj fun i _=>(if_pos z).symm
  ·rw[if_neg z,bj (g:=fun _=>0) fun i _=>if_neg z,cf]
 rw[e1,e2,← ik]
 refine Int.not_lt.mpr ?_
 have le:∀(n:Nat) (f g:Nat→Int),(∀i,i<n→f i≤g i)→sN n f≤sN n g:=by
  intro n
  induction n with
  | zero=>intro f g _;exact Int.le_refl _
  | succ k ih =>
   intro f g h
   rw[dB,dB]
   have:=ih f g fun i hi=>h i (by omega)
   have:=h k (by omega)
   omega
 refine le _ _ _ fun i hi=>?_
 rw[← ik]
 refine le _ _ _ fun j hj=>?_
 have b:=bd i j hi hj
 by_cases z1:i∈R<;>by_cases z2:j∈C
 ·rw[if_pos z1,if_pos z2,if_neg (fun q=>q.2 z2),if_neg (fun q=>q.1 z1)];omega
 ·rw[if_pos z1,if_neg z2,if_pos ⟨z1,z2⟩,if_neg (fun q=>q.1 z1)];omega
 ·rw[if_neg z1,if_pos z2,if_neg (fun q=>q.2 z2),if_pos ⟨z1,z2⟩];omega
 ·rw[if_neg z1,if_neg z2,if_neg (fun q=>z1 q.1),if_neg (fun q=>z2 q.2)];omega
end L3.Fl
namespace L2
open PySem PySem.Spec PyProof.Rows
open Sem (wp)
theorem rG (a b c:Value):checkTypeCall "zip" ⟨[a,b,c],[]⟩=pure ():=by kernel_rfl
theorem uj (a b c:Value):checkBuiltinCall "zip.__new__" ⟨[.type "zip",a,b,c],[]⟩=pure ():=by kernel_rfl
theorem xB (a b c d:Value):argsOk "object.__init__" ⟨[a,b,c,d],[]⟩:=by
 unfold argsOk;rw[signature?_of (id:="object.__init__") (n:=['_','_','t','i','n','i','_','_']) (o:=['t','c','e','j','b','o']) (by kernel_rfl) F.owner_object];kernel_rfl
abbrev fF (h:Heap) (T:Addr) (a b c:Value):Prop:=h.get? T=some { cls:=.type "tuple",data:=.seq #[a,b,c] }
structure Ap3 (z TI TO i1 i2 i3 l1 l2 l3:Addr):Prop where
 z0:TI≠z∧TO≠z∧i1≠z∧i2≠z∧i3≠z∧l1≠z∧l2≠z∧l3≠z
 o0:TI≠TO∧i1≠TO∧i2≠TO∧i3≠TO∧l1≠TO∧l2≠TO∧l3≠TO
 i0:TI≠i1∧i2≠i1∧i3≠i1∧l1≠i1∧l2≠i1∧l3≠i1
 j0:TI≠i2∧i3≠i2∧l1≠i2∧l2≠i2∧l3≠i2
 k0:TI≠i3∧l1≠i3∧l2≠i3∧l3≠i3
section
variable {prog:Program}{w:World}{A:Around}{E:Value→Shared→Prop}{s:Shared}
theorem uw {T:Addr}{a b c x:Value}{k:Nat}{Q:Unit→Shared→Prop} (hT:fF s.heap T a b c)
  (h:∀h',h'.get? T=some { cls:=.type "tuple",data:=.seq ((#[a,b,c]:Array Value).setIfInBounds k x) }→Heap.SameBut T s.heap h'→Q () { s with heap:=h' }) :
  wpAny (model prog w) A (updateSeq T (·.setIfInBounds k x)) Q E s:=by
 refine wpAny_updateSeq hT rfl (h _ ?_ (Heap.SameBut.update ..))
 rw[Heap.get?_update_self _ hT rfl]
 simp [Obj.mapSeq]
theorem G1 {z TI TO i1 i2 i3 l1 l2 l3:Addr}{k:Nat}{xs ys zs:Array Value}{x y v a b c:Value}{Q:Value→Shared→Prop} (D:Ap3 z TI TO i1 i2 i3 l1 l2 l3)
  (hz:IsZip s.heap z TI TO .none) (hTI:fF s.heap TI (.ref i1) (.ref i2) (.ref i3)) (hTO:fF s.heap TO a b c)
  (h1:s.heap.IsListIter i1 l1 k) (h2:s.heap.IsListIter i2 l2 k) (h3:s.heap.IsListIter i3 l3 k) (hl1:s.heap.IsList l1 xs) (hl2:s.heap.IsList l2 ys) (hl3:s.heap.IsList l3 zs) (hx:xs[k]?=some x) (hy:ys[k]?=some y) (hv:zs[k]?=some v)
  (hQ:∀h',IsZip h' z TI TO (rawInt s.heap.objs.size)→fF h' TO x y v→h'.IsListIter i1 l1 (k+1)→h'.IsListIter i2 l2 (k+1)→h'.IsListIter i3 l3 (k+1)→fF h' s.heap.objs.size x y v→h'.objs.size=s.heap.objs.size+1 →
   (∀c o,c≠z→c≠TO→c≠i1→c≠i2→c≠i3→s.heap.get? c=some o→h'.get? c=some o)→Q (.ref s.heap.objs.size) { s with heap:=h' }) :
  wpAny (model prog w) A (Builtin.«zip.__next__» ⟨[.ref z],[]⟩) (fun fin s'=>∃v,fin=.done (.ret v)∧Q v s') E s:=by
 obtain ⟨⟨zI,zO,z1,z2,z3,zl1,zl2,zl3⟩,⟨oI,o1,o2,o3,ol1,ol2,ol3⟩,⟨iI,i12,i13,il1,il2,il3⟩,⟨jI,j3,jl1,jl2,jl3⟩,⟨kI,kl1,kl2,kl3⟩⟩:=D
 show wpAny _ _ (field (.ref z) 2 >>= _) _ _ _
 refine wpAny_bind (wpAny_field hz rfl (x:=.bool false) rfl ?_)
 show wpAny _ _ (field (.ref z) 3 >>= _) _ _ _
 refine wpAny_bind (wpAny_field hz rfl (x:=.ref TI) rfl ?_)
 refine wpAny_bind (wpAny_seqItems hTI rfl ?_)
 show wpAny _ _ (Builtin.SmallTypes.ownedTupleIsFree (.ref z) >>= _) _ _ _
 refine wpAny_bind ?_
 unfold Builtin.SmallTypes.ownedTupleIsFree
 refine wpAny_bind (wpAny_field hz rfl (x:=.none) rfl (wpAny_pure ?_))
 simp only[if_true]
 refine wpAny_bind (wpAny_rule ?_)
 refine wpAny_bind (wpAny_field hz rfl (x:=.ref TO) rfl ?_)
 refine wpAny_bind (wpAny_setField_rec hz (by simp) fun p1 hz1 e1=>?_)
 replace hz1:IsZip p1 z TI TO .ellipsis:=hz1
 refine wpAny_bind ?_
 simp only[List.zipIdx_cons,List.zipIdx_nil,List.forIn_cons,List.forIn_nil]
 refine wpAny_bind (wpAny_bind (wpAny_onRaise ?_))
 show wpAny _ _ (Builtin.SmallTypes.nextOf (.ref i1) >>= _) _ _ _
 refine wpAny_bind (wpAny_nextOf_list_item (h1.extBut e1.extBut z1) (hl1.extBut e1.extBut zl1) hx fun p2 q1 e2=>wpAny_pure ?_)
 have t2:fF p2 TO a b c:=e2.extBut _ _ o1.symm (e1.extBut _ _ zO hTO)
 refine wpAny_bind (wpAny_seqItems t2 rfl ?_)
 refine wpAny_bind (uw t2 fun p3 t3 e3=>?_)
 replace t3:fF p3 TO x b c:=t3
 refine wpAny_bind (wpAny_letGo (wpAny_pure ?_))
 have c3:∀d o,d≠z→d≠i1→d≠TO→s.heap.get? d=some o→p3.get? d=some o:=fun d o n1 n2 n3 e=>e3.extBut _ _ n3 (e2.extBut _ _ n2 (e1.extBut _ _ n1 e))
 refine wpAny_bind (wpAny_bind (wpAny_onRaise ?_))
 show wpAny _ _ (Builtin.SmallTypes.nextOf (.ref i2) >>= _) _ _ _
 refine wpAny_bind (wpAny_nextOf_list_item (h2.at fun o e=>c3 _ o z2 i12 o2 e) (hl2.at fun o e=>c3 _ o zl2 il2 ol2 e) hy fun p4 q2 e4=>wpAny_pure ?_)
 have t4:fF p4 TO x b c:=e4.extBut _ _ o2.symm t3
 refine wpAny_bind (wpAny_seqItems t4 rfl ?_)
 refine wpAny_bind (uw t4 fun p5 t5 e5=>?_)
 replace t5:fF p5 TO x y c:=t5
 refine wpAny_bind (wpAny_letGo (wpAny_pure ?_))
 have c5:∀d o,d≠i2→d≠TO→p3.get? d=some o→p5.get? d=some o:=fun d o n1 n2 e=>e5.extBut _ _ n2 (e4.extBut _ _ n1 e)
 refine wpAny_bind (wpAny_bind (wpAny_onRaise ?_))
 show wpAny _ _ (Builtin.SmallTypes.nextOf (.ref i3) >>= _) _ _ _
 refine wpAny_bind (wpAny_nextOf_list_item (h3.at fun o e=>c5 _ o j3 o3 (c3 _ o z3 i13 o3 e)) (hl3.at fun o e=>c5 _ o jl3 ol3 (c3 _ o zl3 il3 ol3 e)) hv fun p6 q3 e6=>wpAny_pure ?_)
 have t6:fF p6 TO x y c:=e6.extBut _ _ o3.symm t5
 refine wpAny_bind (wpAny_seqItems t6 rfl ?_)
 refine wpAny_bind (uw t6 fun p7 t7 e7=>?_)
 replace t7:fF p7 TO x y v:=t7
 refine wpAny_bind (wpAny_letGo (wpAny_pure (wpAny_pure ?_)))
 have c7:∀d o,d≠i3→d≠TO→p5.get? d=some o→p7.get? d=some o:=fun d o n1 n2 e=>e7.extBut _ _ n2 (e6.extBut _ _ n1 e)
 refine wpAny_bind (wpAny_seqItems t7 rfl ?_)
 refine wpAny_bind (wpAny_newTuple ?_)
 have hsz:p7.objs.size=s.heap.objs.size:=by rw[e7.1,e6.1,e5.1,e4.1,e3.1,e2.1,e1.1]
 have zz:IsZip p7 z TI TO .ellipsis:=c7 _ _ z3.symm zO.symm (c5 _ _ z2.symm zO.symm (e3.extBut _ _ zO.symm (e2.extBut _ _ z1.symm hz1)))
 have g1:p7.IsListIter i1 l1 (k+1):=q1.at fun o e=>c7 _ o i13.symm o1 (c5 _ o i12.symm o1 (e3.extBut _ _ o1 e))
 have g2:p7.IsListIter i2 l2 (k+1):=q2.at fun o e=>c7 _ o j3.symm o2 (e5.extBut _ _ o2 e)
 have g3:p7.IsListIter i3 l3 (k+1):=q3.at fun o e=>e7.extBut _ _ o3 e
 have hzlt:z<p7.objs.size:=Heap.lt_size zz
 show wpAny _ _ (Builtin.SmallTypes.ownedTupleHandOut (.ref z) (.ref p7.objs.size) >>= _) _ _ _
 refine wpAny_bind ?_
 unfold Builtin.SmallTypes.ownedTupleHandOut
 refine wpAny_bind (wpAny_setField_rec (show IsZip (p7.push { cls:=.type "tuple",data:=.seq #[x,y,v] }) z TI TO .ellipsis from Heap.get?_push_of_some _ zz) (by simp) fun p8 hz8 e8=>?_)
 replace hz8:IsZip p8 z TI TO (rawInt p7.objs.size):=hz8
 refine wpAny_setField_rec hz8 (by simp) fun p9 hz9 e9=>?_
 replace hz9:IsZip p9 z TI TO (rawInt p7.objs.size):=hz9
 have up:∀d o,d≠z→p7.get? d=some o→p9.get? d=some o:=fun d o n e=>e9.extBut _ _ n (e8.extBut _ _ n (Heap.get?_push_of_some _ e))
 have tt:fF p9 p7.objs.size x y v:=e9.extBut _ _ (Nat.ne_of_gt hzlt) (e8.extBut _ _ (Nat.ne_of_gt hzlt) (Heap.get?_push_size _ rfl))
 have ss:p9.objs.size=p7.objs.size+1:=by rw[e9.1,e8.1,Heap.size_push]
 rw[hsz] at hz9 tt ss
 refine wpAny_pure ⟨_,rfl,?_⟩
 show Q (.ref p7.objs.size) _
 rw[hsz]
 exact hQ p9 hz9 (up _ _ zO t7) (g1.at fun o e=>up _ o z1 e) (g2.at fun o e=>up _ o z2 e) (g3.at fun o e=>up _ o z3 e) tt ss fun d o n1 n2 n3 n4 n5 e=>up d o n1 (c7 _ o n5 n2 (c5 _ o n4 n2 (c3 _ o n1 n3 n2 e)))
theorem HY {z TI TO i1 i2 i3 l1 l2 l3:Addr}{k:Nat}{xs:Array Value}{Q:Fin→Shared→Prop} (hh:A.handled=none) (D:Ap3 z TI TO i1 i2 i3 l1 l2 l3)
  (hz:IsZip s.heap z TI TO .none) (hTI:fF s.heap TI (.ref i1) (.ref i2) (.ref i3)) (h1:s.heap.IsListIter i1 l1 k) (hl1:s.heap.IsList l1 xs) (hx:xs[k]?=none)
  (hE:∀h' e,(∀c o,c≠z→c≠i1→s.heap.get? c=some o→h'.get? c=some o)→(∃o,h'.get? e=some o∧o.cls=.type "StopIteration")→E (.ref e) { s with heap:=h' }) :
  wpAny (model prog w) A (Builtin.«zip.__next__» ⟨[.ref z],[]⟩) Q E s:=by
 obtain ⟨⟨zI,zO,z1,z2,z3,zl1,zl2,zl3⟩,_,_,_,_⟩:=D
 show wpAny _ _ (field (.ref z) 2 >>= _) _ _ _
 refine wpAny_bind (wpAny_field hz rfl (x:=.bool false) rfl ?_)
 show wpAny _ _ (field (.ref z) 3 >>= _) _ _ _
 refine wpAny_bind (wpAny_field hz rfl (x:=.ref TI) rfl ?_)
 refine wpAny_bind (wpAny_seqItems hTI rfl ?_)
 show wpAny _ _ (Builtin.SmallTypes.ownedTupleIsFree (.ref z) >>= _) _ _ _
 refine wpAny_bind ?_
 unfold Builtin.SmallTypes.ownedTupleIsFree
 refine wpAny_bind (wpAny_field hz rfl (x:=.none) rfl (wpAny_pure ?_))
 simp only[if_true]
 refine wpAny_bind (wpAny_rule ?_)
 refine wpAny_bind (wpAny_field hz rfl (x:=.ref TO) rfl ?_)
 refine wpAny_bind (wpAny_setField_rec hz (by simp) fun p1 hz1 e1=>?_)
 replace hz1:IsZip p1 z TI TO .ellipsis:=hz1
 refine wpAny_bind ?_
 simp only[List.zipIdx_cons,List.zipIdx_nil,List.forIn_cons,List.forIn_nil]
 refine wpAny_bind (wpAny_bind (wpAny_onRaise ?_))
 show wpAny _ _ (Builtin.SmallTypes.nextOf (.ref i1) >>= _) _ _ _
 refine wpAny_bind (wpAny_nextOf_list_end hh (h1.extBut e1.extBut z1) (hl1.extBut e1.extBut zl1) hx fun p2 e e2 he=>?_)
 obtain ⟨oe,hoe,hce⟩:=he
 have hz2:IsZip p2 z TI TO .ellipsis:=e2 _ _ z1.symm hz1
 have ne:e≠z:=fun q=>by subst q;rw[hz2] at hoe;cases hoe;simp at hce
 exact wpAny_setField_rec hz2 (by simp) fun p3 _ e3=>hE p3 e (fun c o n1 n2 q=>e3.extBut _ _ n1 (e2 _ _ n2 (e1.extBut _ _ n1 q))) ⟨oe,e3.extBut _ _ ne hoe,hce⟩
theorem DJ {z TI TO i1 i2 i3 l1 l2 l3:Addr}{k:Nat}{xs ys zs:Array Value}{x y v a b c:Value}{Q:Option Value→Shared→Prop} (D:Ap3 z TI TO i1 i2 i3 l1 l2 l3)
  (hz:IsZip s.heap z TI TO .none) (hTI:fF s.heap TI (.ref i1) (.ref i2) (.ref i3)) (hTO:fF s.heap TO a b c)
  (h1:s.heap.IsListIter i1 l1 k) (h2:s.heap.IsListIter i2 l2 k) (h3:s.heap.IsListIter i3 l3 k) (hl1:s.heap.IsList l1 xs) (hl2:s.heap.IsList l2 ys) (hl3:s.heap.IsList l3 zs) (hx:xs[k]?=some x) (hy:ys[k]?=some y) (hv:zs[k]?=some v)
  (hQ:∀h',IsZip h' z TI TO (rawInt s.heap.objs.size)→fF h' TO x y v→h'.IsListIter i1 l1 (k+1)→h'.IsListIter i2 l2 (k+1)→h'.IsListIter i3 l3 (k+1)→fF h' s.heap.objs.size x y v→h'.objs.size=s.heap.objs.size+1 →
   (∀c o,c≠z→c≠TO→c≠i1→c≠i2→c≠i3→s.heap.get? c=some o→h'.get? c=some o)→Q (some (.ref s.heap.objs.size)) { s with heap:=h' }) :
  wpAny (model prog w) A (pyNext (.ref z)) Q E s:=by
 have hT:s.TypeIs (.ref z) "zip":=⟨_,hz,rfl⟩
 unfold pyNext
 exact wpAny_bind (wpAny_attempt (wpAny_callSpecial?_slot (name:=Str.ofString "__next__") hT F.slot_zip_next
  (wpAny_call_entry F.slot_zip_next hT F.entry_zip_next
   (G1 D hz hTI hTO h1 h2 h3 hl1 hl2 hl3 hx hy hv fun h' a1 a2 a3 a4 a5 a6 a7 a8=>wpAny_pure (hQ h' a1 a2 a3 a4 a5 a6 a7 a8)) (F.args_zip_next_1 _))))
theorem xx {z TI TO i1 i2 i3 l1 l2 l3:Addr}{k:Nat}{xs:Array Value}{Q:Option Value→Shared→Prop} (hh:A.handled=none) (D:Ap3 z TI TO i1 i2 i3 l1 l2 l3)
  (hz:IsZip s.heap z TI TO .none) (hTI:fF s.heap TI (.ref i1) (.ref i2) (.ref i3)) (h1:s.heap.IsListIter i1 l1 k) (hl1:s.heap.IsList l1 xs) (hx:xs[k]?=none)
  (hQ:∀h',(∀c o,c≠z→c≠i1→s.heap.get? c=some o→h'.get? c=some o)→Q none { s with heap:=h' }):wpAny (model prog w) A (pyNext (.ref z)) Q E s:=by
 have hT:s.TypeIs (.ref z) "zip":=⟨_,hz,rfl⟩
 unfold pyNext
 refine wpAny_bind (wpAny_attempt (wpAny_callSpecial?_slot (name:=Str.ofString "__next__") hT F.slot_zip_next
  (wpAny_call_entry F.slot_zip_next hT F.entry_zip_next (HY hh D hz hTI h1 hl1 hx fun h' e hk he=>?_) (F.args_zip_next_1 _))))
 obtain ⟨o,ho,hc⟩:=he
 refine wpAny_bind (wpAny_isInstance (T:="StopIteration") (b:=true) ⟨o,ho,hc⟩ isSubtype_stop ?_)
 exact wpAny_pure (hQ _ hk)
end
def it0 (l:Addr):Obj:={ cls:=.type "list_iterator",data:=.fields #[.ref l,.int 0 0] }
abbrev h3a (h:Heap) (l1 l2 l3:Addr):Heap:=((h.push (it0 l1)).push (it0 l2)).push (it0 l3)
abbrev h3b (h:Heap) (l1 l2 l3:Addr):Heap:=(h3a h l1 l2 l3).push { cls:=.type "tuple",data:=.seq #[.ref h.objs.size,.ref (h.push (it0 l1)).objs.size,.ref ((h.push (it0 l1)).push (it0 l2)).objs.size] }
abbrev h3c (h:Heap) (l1 l2 l3:Addr):Heap:=(h3b h l1 l2 l3).push { cls:=.type "tuple",data:=.seq #[.none,.none,.none] }
abbrev h3d (h:Heap) (l1 l2 l3:Addr):Heap:=(h3c h l1 l2 l3).push { cls:=.type "zip",data:=.fields #[.none,.bool false,.bool false,.ref (h3a h l1 l2 l3).objs.size,.ref (h3b h l1 l2 l3).objs.size] }
theorem wR (l1 l2 l3:Addr) (xs ys zs:Array Value) :
  Meets (Builtin.«zip.__new__» ⟨[.type "zip",.ref l1,.ref l2,.ref l3],[]⟩) (fun _ R s=>s.heap.IsList l1 xs∧s.heap.IsList l2 ys∧s.heap.IsList l3 zs ∧
   R (.ok (.ret (.ref (h3c s.heap l1 l2 l3).objs.size))) { s with heap:=h3d s.heap l1 l2 l3 }) :=
 .of_wp fun prog w A R s h=>by
  obtain ⟨hp,g,d,tk,os⟩:=s;obtain ⟨hl1,hl2,hl3,h⟩:=h
  have hsub:=sub_zip
  have a1:Heap.IsList (Shared.heap ⟨hp,g,d,tk,os⟩) l1 xs:=hl1
  have a2:Heap.IsList (Shared.heap ⟨hp.push { cls:=.type "list_iterator",data:=.fields #[.ref l1,.int 0 0] },g,d,tk,os⟩) l2 ys:=Heap.IsList.push hl2 _
  have a3:Heap.IsList (Shared.heap ⟨(hp.push { cls:=.type "list_iterator",data:=.fields #[.ref l1,.int 0 0] }).push { cls:=.type "list_iterator",data:=.fields #[.ref l2,.int 0 0] },g,d,tk,os⟩) l3 zs:=Heap.IsList.push (Heap.IsList.push hl3 _) _
  wp_walk using wpAny_pyIter_list a1,wpAny_pyIter_list a2,wpAny_pyIter_list a3
  exact⟨_,rfl,h⟩
section
variable {prog:Program}{w:World}{A:Around}{E:Value→Shared→Prop}{s:Shared}
theorem zJ {l1 l2 l3:Addr}{xs ys zs:Array Value}{Q:Value→Shared→Prop} (hl1:s.heap.IsList l1 xs) (hl2:s.heap.IsList l2 ys) (hl3:s.heap.IsList l3 zs)
  (h:∀h',IsZip h' (s.heap.objs.size+5) (s.heap.objs.size+3) (s.heap.objs.size+4) .none→fF h' (s.heap.objs.size+3) (.ref s.heap.objs.size) (.ref (s.heap.objs.size+1)) (.ref (s.heap.objs.size+2)) →
   fF h' (s.heap.objs.size+4) .none .none .none→h'.IsListIter s.heap.objs.size l1 0→h'.IsListIter (s.heap.objs.size+1) l2 0→h'.IsListIter (s.heap.objs.size+2) l3 0 →
   (∀c o,s.heap.get? c=some o→h'.get? c=some o)→Q (.ref (s.heap.objs.size+5)) { s with heap:=h' }) :
  wpAny (model prog w) A (call (.type "zip") [.ref l1,.ref l2,.ref l3]) Q E s:=by
 refine callType_new F.called_zip (by decide) (rG _ _ _) (uj _ _ _) (fun obj=>xB obj _ _ _) F.entry_zip_new
  (wR l1 l2 l3 xs ys zs) ⟨hl1,hl2,hl3,?_⟩
 have n1:(s.heap.push (it0 l1)).objs.size=s.heap.objs.size+1:=Heap.size_push ..
 have n2:((s.heap.push (it0 l1)).push (it0 l2)).objs.size=s.heap.objs.size+2:=by rw[Heap.size_push,n1]
 have n3:(h3a s.heap l1 l2 l3).objs.size=s.heap.objs.size+3:=by rw[Heap.size_push,n2]
 have n4:(h3b s.heap l1 l2 l3).objs.size=s.heap.objs.size+4:=by rw[Heap.size_push,n3]
 have n5:(h3c s.heap l1 l2 l3).objs.size=s.heap.objs.size+5:=by rw[Heap.size_push,n4]
 have up:∀{h:Heap}{c o u},h.get? c=some o→(h.push u).get? c=some o:=fun e=>Heap.get?_push_of_some _ e
 have g6:(h3d s.heap l1 l2 l3).get? (h3c s.heap l1 l2 l3).objs.size=some _:=Heap.get?_push_size _ rfl
 have g5:(h3d s.heap l1 l2 l3).get? (h3b s.heap l1 l2 l3).objs.size=some _:=up (Heap.get?_push_size _ rfl)
 have g4:(h3d s.heap l1 l2 l3).get? (h3a s.heap l1 l2 l3).objs.size=some _:=up (up (Heap.get?_push_size _ rfl))
 have g3:(h3d s.heap l1 l2 l3).get? ((s.heap.push (it0 l1)).push (it0 l2)).objs.size=some _:=up (up (up (Heap.get?_push_size _ rfl)))
 have g2:(h3d s.heap l1 l2 l3).get? (s.heap.push (it0 l1)).objs.size=some _:=up (up (up (up (Heap.get?_push_size _ rfl))))
 have g1:(h3d s.heap l1 l2 l3).get? s.heap.objs.size=some _:=up (up (up (up (up (Heap.get?_push_size _ rfl)))))
 show _∧_
 rw[n3,n4,n5] at g6
 rw[n4] at g5
 rw[n1,n2,n3] at g4
 rw[n2] at g3
 rw[n1] at g2
 rw[n5]
 exact⟨⟨_,g6,rfl⟩,h _ g6 g4 g5 ⟨_,g1,rfl,rfl⟩ ⟨_,g2,rfl,rfl⟩ ⟨_,g3,rfl,rfl⟩ fun c o e=>up (up (up (up (up (up e)))))⟩
end
end L2
namespace L2
open PySem PySem.Spec PyProof.Rows
def It3 (K:PySem.W.Frag) (a b c:Addr):It :=
 ⟨fun i H=>∃xs ys zs x y z,SqL K H a xs∧SqL K H b ys∧SqL K H c zs∧xs[i]?=some x∧ys[i]?=some y∧zs[i]?=some z,
 fun i H v H'=>∃p x y z,v=.ref p∧H p=none∧H'=upd H p (.tup [x,y,z])∧(∀xs,SqL K H a xs→xs[i]?=some x)∧(∀ys,SqL K H b ys→ys[i]?=some y)∧∀zs,SqL K H c zs→zs[i]?=some z,
 fun i H=>∃xs ys zs,SqL K H a xs∧SqL K H b ys∧SqL K H c zs∧xs.length≤i⟩
def xp (a b c z TI TO i1 i2 i3:Addr) (i:Nat) (h:Heap):Prop :=
 IsZip h z TI TO .none∧fF h TI (.ref i1) (.ref i2) (.ref i3)∧(∃u v w,fF h TO u v w)∧h.IsListIter i1 a i∧h.IsListIter i2 b i∧h.IsListIter i3 c i
theorem pP {h:Heap}{a b c z TI TO i1 i2 i3:Addr}{i:Nat}{xs ys zs:Array Value} (st:xp a b c z TI TO i1 i2 i3 i h) (h1:h.IsList a xs) (h2:h.IsList b ys) (h3:h.IsList c zs) (d1:TI≠TO) (d2:i1<i2) (d3:i2<i3):Ap3 z TI TO i1 i2 i3 a b c:=by
 obtain ⟨sz,sI,⟨u,v,w,sO⟩,⟨o1,e1,c1,_⟩,⟨o2,e2,c2,_⟩,⟨o3,e3,c3,_⟩⟩:=st
 obtain ⟨oa,ea,ca,_⟩:=h1
 obtain ⟨ob,eb,cb,_⟩:=h2
 obtain ⟨oc,ec,cc,_⟩:=h3
 have L:∀{l:Addr}{o:Obj},h.get? l=some o→o.cls=.type "list"→l≠z∧l≠TO∧l≠i1∧l≠i2∧l≠i3:=fun e q=>⟨cm e sz q rfl (by decide),cm e sO q rfl (by decide),cm e e1 q c1 (by decide),cm e e2 q c2 (by decide),cm e e3 q c3 (by decide)⟩
 have T:∀{l:Addr}{o:Obj},h.get? l=some o→o.cls=.type "tuple"→l≠z∧l≠i1∧l≠i2∧l≠i3:=fun e q=>⟨cm e sz q rfl (by decide),cm e e1 q c1 (by decide),cm e e2 q c2 (by decide),cm e e3 q c3 (by decide)⟩
 obtain ⟨t1,t2,t3,t4⟩:=T sI rfl
 obtain ⟨p1,p2,p3,p4⟩:=T sO rfl
 obtain ⟨a1,a2,a3,a4,a5⟩:=L ea ca
 obtain ⟨b1,b2,b3,b4,b5⟩:=L eb cb
 obtain ⟨q1,q2,q3,q4,q5⟩:=L ec cc
 exact⟨⟨t1,p1,cm e1 sz c1 rfl (by decide),cm e2 sz c2 rfl (by decide),cm e3 sz c3 rfl (by decide),a1,b1,q1⟩,⟨d1,p2.symm,p3.symm,p4.symm,a2,b2,q2⟩,⟨t2,Nat.ne_of_gt d2,Nat.ne_of_gt (Nat.lt_trans d2 d3),a3,b3,q3⟩,⟨t3,Nat.ne_of_gt d3,a4,b4,q4⟩,⟨t4,a5,b5,q5⟩⟩
theorem Aa {P:Program}{w:World}{K:PySem.W.Frag}{elts:List Expr}{x1:Nat}{pos:Pos} (a b c z TI TO i1 i2 i3:Addr) (d1:TI≠TO) (d2:i1<i2) (d3:i2<i3):Turn P w K (.Tuple elts x1 pos) (It3 K a b c) [z,TI,TO,i1,i2,i3] z (xp a b c z TI TO i1 i2 i3) where
 mem:=by simp
 obj:=fun i h st c hc=>by
  obtain ⟨sz,sI,⟨u,v,w,sO⟩,⟨o1,e1,c1,q1⟩,⟨o2,e2,c2,q2⟩,⟨o3,e3,c3,q3⟩⟩:=st
  simp only[List.mem_cons,List.not_mem_nil,or_false] at hc
  rcases hc with rfl | rfl | rfl | rfl | rfl | rfl
  ·exact⟨_,sz,fun v z=>by cases z⟩
  ·exact⟨_,sI,fun v z=>by cases z⟩
  ·exact⟨_,sO,fun v z=>by cases z⟩
  ·exact⟨_,e1,fun v z=>by rw[q1] at z;cases z⟩
  ·exact⟨_,e2,fun v z=>by rw[q2] at z;cases z⟩
  ·exact⟨_,e3,fun v z=>by rw[q3] at z;cases z⟩
 keep:=fun i h h' st k=>by
  obtain ⟨sz,sI,⟨u,v,w,sO⟩,s1,s2,s3⟩:=st
  exact⟨k _ (by simp) _ sz,k _ (by simp) _ sI,⟨u,v,w,k _ (by simp) _ sO⟩,s1.at fun o e=>k _ (by simp) o e,s2.at fun o e=>k _ (by simp) o e,s3.at fun o e=>k _ (by simp) o e⟩
 item:=by
  intro X hP hw hK hc i pins s σ H E I hf st hg
  subst hP hw hK
  obtain ⟨xs,ys,zs,x,y,q,hq1,hq2,hq3,hx,hy,hq⟩:=hg
  obtain ⟨its1,rv1,p1,hz1⟩:=I.list hq1
  obtain ⟨its2,rv2,p2,hz2⟩:=I.list hq2
  obtain ⟨its3,rv3,p3,hz3⟩:=I.list hq3
  obtain ⟨u,hu,ru⟩:=rv1.get hx
  obtain ⟨v,hv,rv⟩:=rv2.get hy
  obtain ⟨w,hw,rw'⟩:=rv3.get hq
  have Dp:=pP st p1.isList p2.isList p3.isList d1 d2 d3
  obtain ⟨sz,sI,⟨ua,ub,uc,sO⟩,s1,s2,s3⟩:=st
  refine DJ Dp sz sI sO s1 s2 s3 p1.isList p2.isList p3.isList (x:=u) (y:=v) (v:=w) (by simpa using hu) (by simpa using hv) (by simpa using hw) fun h1 z1 O1 t1 t2 t3 pr hsz kk=>?_
  obtain ⟨⟨zI,zO,n1,n2,n3,_,_,_⟩,⟨oI,_⟩,⟨iI,_⟩,⟨jI,_⟩,⟨kI,_⟩⟩:=Dp
  refine⟨.ref s.heap.objs.size,rfl,wpAny_letOwnedTupleGo_zip z1 fun h2 z2 sb=>?_⟩
  have zlt:z<s.heap.objs.size:=Heap.lt_size sz
  have pz:s.heap.objs.size≠z:=Nat.ne_of_gt zlt
  have hn:H s.heap.objs.size=none:=I.hok.fresh (Nat.le_refl _)
  have k2:∀c o,c∉[z,TI,TO,i1,i2,i3]→s.heap.get? c=some o→h2.get? c=some o:=fun c o hc e=>by
   simp only[List.mem_cons,List.not_mem_nil,or_false,not_or] at hc
   exact sb.extBut c o hc.1 (kk c o hc.1 hc.2.2.1 hc.2.2.2.1 hc.2.2.2.2.1 hc.2.2.2.2.2 e)
  have sm:aJ H (upd H s.heap.objs.size (.tup [x,y,q])):=fun c o e=>by rw[aI (bu e hn)];exact e
  refine⟨.ref s.heap.objs.size,upd H s.heap.objs.size (.tup [x,y,q]),?_,rfl,⟨s.heap.objs.size,x,y,q,rfl,hn,rfl,fun zs hz=>by rw[I.js hz hq1];exact hx,fun zs hz=>by rw[I.js hz hq2];exact hy,fun zs hz=>by rw[I.js hz hq3];exact hq⟩,
   ⟨z2,sb.extBut _ _ zI (kk _ _ zI oI iI jI kI sI),⟨u,v,w,sb.extBut _ _ zO O1⟩,t1.at fun o e=>sb.extBut _ _ n1 e,t2.at fun o e=>sb.extBut _ _ n2 e,t3.at fun o e=>sb.extBut _ _ n3 e⟩,fun c hc=>?_⟩
  ·refine I.oZ (t':=s.toks) hf k2 (fun c o e n=>by rw[aI (Nat.ne_of_lt (Heap.lt_size e))];exact n) sm fun c o e=>?_
   by_cases ec:c=s.heap.objs.size
   ·subst ec
    rw[aK] at e
    cases e
    exact⟨by simp only[List.length_cons,List.length_nil];rw[sizeLine_eq];decide,[u,v,w],.cons ru (.cons rv (.cons rw' .nil)),⟨_,sb.extBut _ _ pz pr,rfl,0,rfl⟩⟩
   ·rw[aI ec] at e
    refine (I.hok c o e).oO (fun d w' hd q=>k2 d w' (fun hm=>?_) q) (fun d q=>sm d _ q) fun d ds q=>sm d _ q
    have hdn:=(hf d hm).1
    rcases hd with rfl | hd
    ·rw[hdn] at e;cases e
    ·rw[hdn] at hd;cases hd
  ·have:=(hf c hc).1
   by_cases ec:c=s.heap.objs.size
   ·exfalso
    subst ec
    obtain ⟨_,e1,_⟩:=s1
    obtain ⟨_,e2,_⟩:=s2
    obtain ⟨_,e3,_⟩:=s3
    have no:∀{d:Addr}{o:Obj},s.heap.get? d=some o→s.heap.objs.size=d→False:=fun e q=>absurd (Heap.lt_size e) (by rw[← q];exact Nat.lt_irrefl _)
    simp only[List.mem_cons,List.not_mem_nil,or_false] at hc
    rcases hc with q | q | q | q | q | q
    ·exact pz q
    ·exact no sI q
    ·exact no sO q
    ·exact no e1 q
    ·exact no e2 q
    ·exact no e3 q
   ·rw[aI ec];exact this
 done:=by
  intro X hP hw hK hc i pins s σ H E I hf st hg
  subst hP hw hK
  obtain ⟨xs,ys,zs,hq1,hq2,hq3,hle⟩:=hg
  obtain ⟨its1,rv1,p1,hz1⟩:=I.list hq1
  obtain ⟨its2,rv2,p2,hz2⟩:=I.list hq2
  obtain ⟨its3,rv3,p3,hz3⟩:=I.list hq3
  have l1:=rv1.length
  have Dp:=pP st p1.isList p2.isList p3.isList d1 d2 d3
  obtain ⟨sz,sI,_,s1,s2,s3⟩:=st
  refine xx (I.ok.hd hc) Dp sz sI s1 p1.isList (by simp;omega) fun h1 kk=>⟨rfl,?_⟩
  have k2:∀c o,c∉[z,TI,TO,i1,i2,i3]→s.heap.get? c=some o→h1.get? c=some o:=fun c o hc e=>by
   simp only[List.mem_cons,List.not_mem_nil,or_false,not_or] at hc
   exact kk c o hc.1 hc.2.2.2.1 e
  refine I.oZ (t':=s.toks) hf k2 (fun _ _ _ n=>n) (aJ.refl H) fun c o e=>?_
  refine (I.hok c o e).oO (fun d w' hd q=>k2 d w' (fun hm=>?_) q) (fun d q=>q) fun d ds q=>q
  have hdn:=(hf d hm).1
  rcases hd with rfl | hd
  ·rw[hdn] at e;cases e
  ·rw[hdn] at hd;cases hd
 self:=fun _ _ _ _ _ st h=>wpAny_pyIter_zip st.1 h
section
variable {X:Cx}
def B8 (K:PySem.W.Frag) (ta:TA):TI:=fun σ H R=>ta σ H fun vs H1=>∃a b c,vs=[.ref a,.ref b,.ref c]∧(∃xs,SqL K H1 a xs)∧(∃ys,SqL K H1 b ys)∧(∃zs,SqL K H1 c zs)∧R (It3 K a b c) H1
theorem GO {xs:List V}{x y z:V}{us:List Value} (r:Vals [x,y,z] us):∃u v w,us=[u,v,w]∧RelV x u∧RelV y v∧RelV z w:=by
 cases r with
 | cons r1 r =>
  obtain ⟨v,w,rfl,r2,r3⟩:=vals2 r
  exact⟨_,v,w,rfl,r1,r2,r3⟩
theorem DF {elts:List Expr}{x1:Nat}{tp:Pos}{a b c:Expr}{ta:TA}{p pos:Pos} (hg:Gl X "zip") (hm:X.mg "zip" = none) (ha:PA X [a,b,c] ta) (hs:starEach [a,b,c] X.env=[(false,eval a X.env),(false,eval b X.env),(false,eval c X.env)]:=by rfl) (hs2:starEach [b,c] X.env=[(false,eval b X.env),(false,eval c X.env)]:=by rfl) :
  PI X (.Tuple elts x1 tp) (.Call (.Name "zip" p) [a,b,c] [] pos) (B8 X.K ta):=by
 intro pins s σ H R I h
 refine Call_ (nj I hg hm boot_zip (PyProof.Rows.callWith_type1 (thn (ha pos pins s σ H _ I h) fun us s1 ⟨vs,H1,I1,r1,q1⟩=>?_) (by rw[hs,hs2]) (by rw[hs2];rfl)))
 obtain ⟨l1,l2,l3,rfl,⟨xs,hx⟩,⟨ys,hy⟩,⟨zs,hz⟩,q⟩:=q1
 obtain ⟨u1,u2,u3,rfl,r2,r3,r4⟩:=GO (xs:=[]) r1
 obtain rfl:u1=Value.ref l1:=r2
 obtain rfl:u2=Value.ref l2:=r3
 obtain rfl:u3=Value.ref l3:=r4
 obtain ⟨its1,rv1,p1,hz1⟩:=I1.list hx
 obtain ⟨its2,rv2,p2,hz2⟩:=I1.list hy
 obtain ⟨its3,rv3,p3,hz3⟩:=I1.list hz
 refine zJ p1.isList p2.isList p3.isList fun h' sz sI sO t1 t2 t3 kk=>?_
 have I2:Inv X pins σ H1 { s1 with heap:=h' }:=I1.kept (t':=s1.toks) kk
 refine wpAny_pyIter_zip sz ⟨_,_,xp l1 l2 l3 (s1.heap.objs.size+5) (s1.heap.objs.size+3) (s1.heap.objs.size+4) s1.heap.objs.size (s1.heap.objs.size+1) (s1.heap.objs.size+2),It3 X.K l1 l2 l3,H1,rfl,I2,Aa _ _ _ _ _ _ _ _ _ (Nat.ne_of_lt (Nat.lt_succ_self _)) (Nat.lt_succ_self _) (Nat.lt_succ_self _),⟨sz,sI,⟨_,_,_,sO⟩,t1,t2,t3⟩,fun c hc=>?_,q⟩
 simp only[List.mem_cons,List.not_mem_nil,or_false] at hc
 have hge:s1.heap.objs.size≤c:=by rcases hc with rfl | rfl | rfl | rfl | rfl | rfl<;>first | exact Nat.le_add_right _ _ | exact Nat.le_refl _
 obtain ⟨g0,g1,g2,g3,g4,g5⟩:=I1.BR (H':=H1) hge (I1.hok.fresh hge)
 exact⟨g0,g1,g2,g3,g4,g5⟩
theorem AQ {K:PySem.W.Frag}{elts:List Expr}{x1:Nat}{tp:Pos}{a b c:Expr}{ta:TA}{p pos:Pos} (h:X.K=K) (hg:Gl X "zip") (hm:X.mg "zip" = none) (ha:PA X [a,b,c] ta) (hs:starEach [a,b,c] X.env=[(false,eval a X.env),(false,eval b X.env),(false,eval c X.env)]:=by rfl) (hs2:starEach [b,c] X.env=[(false,eval b X.env),(false,eval c X.env)]:=by rfl) :
  PI X (.Tuple elts x1 tp) (.Call (.Name "zip" p) [a,b,c] [] pos) (B8 K ta):=by subst h;exact DF hg hm ha hs hs2
end
end L2
namespace L3
open PySem L2
section
variable {K:PySem.W.Frag}{Γ:List Nat}{ta tb tc:TE}{da db dc:DE}
def AG (da db dc:DE) (δ:Dl) (P:List D→Prop):Prop:=da δ fun x=>db δ fun y=>dc δ fun z=>asL x fun xs=>asL y fun ys=>asL z fun zs=>(xs.length=ys.length∧xs.length=zs.length)∧P ((xs.zip (ys.zip zs)).map fun p=>.tup [p.1,p.2.1,p.2.2])
theorem D7 (ha:ES K Γ ta da) (hb:ES K Γ tb db) (hc:ES K Γ tc dc):IT K Γ (B8 K (eZ ta (eZ tb (eZ tc lI)))) (AG da db dc) :=
 ⟨fun δ P P' k h=>ha.mono _ _ _ (fun x z=>hb.mono _ _ _ (fun y z=>hc.mono _ _ _ (fun q z=>by
   obtain ⟨xs,e1,z⟩:=bP z;obtain ⟨ys,e2,z⟩:=bP z;obtain ⟨zs,e3,z⟩:=bP z;exact gB e1 (gB e2 (gB e3 ⟨z.1,k _ z.2⟩))) z) z) h,
 fun {B0 fps δ σ H R} o h=>ha.run o (ha.mono _ _ _ (fun x z v H1 f1 s1 r1 n1=>hb.run (o.same s1) (hb.mono _ _ _ (fun y z w H2 f2 s2 r2 n2=>hc.run ((o.same s1).same s2) (hc.mono _ _ _ (fun q z u H3 f3 s3 r3 n3=>by
  obtain ⟨xs,ex,z⟩:=bP z
  obtain ⟨ys,ey,z⟩:=bP z
  obtain ⟨zs,eq,z⟩:=bP z
  have r1':=(r1.same s2).same s3
  have r2':=r2.same s3
  obtain ⟨a,as,fa,rfl,hsa,hra,hina⟩:=r1'.seq ex
  obtain ⟨b,bs,fb,rfl,hsb,hrb,hinb⟩:=r2'.seq ey
  obtain ⟨c,cs,fc,rfl,hsc,hrc,hinc⟩:=r3.seq eq
  refine⟨a,b,c,rfl,⟨as,hsa⟩,⟨bs,hsb⟩,⟨cs,hsc⟩,z.2 (It3 K a b c) H3 (f1++(f2++f3)) ((s1.trans s2).trans s3) (fun j hj p hp=>(List.mem_append.mp hp).elim (n1 j hj p) fun hp=>(List.mem_append.mp hp).elim (n2 j hj p) (n3 j hj p)) fun B sB ag im=>?_⟩
  have rBa:Rf K B x (.ref a) f1:=r1'.mono (fun p hp u e=>by rw[ag p (List.mem_append_left _ hp)];exact e) im
  have rBb:Rf K B y (.ref b) f2:=r2'.mono (fun p hp u e=>by rw[ag p (List.mem_append_right _ (List.mem_append_left _ hp))];exact e) im
  have rBc:Rf K B q (.ref c) f3:=r3.mono (fun p hp u e=>by rw[ag p (List.mem_append_right _ (List.mem_append_right _ hp))];exact e) im
  obtain ⟨a',as',fa',e1,hsa',hra',_⟩:=rBa.seq ex
  obtain ⟨b',bs',fb',e2,hsb',hrb',_⟩:=rBb.seq ey
  obtain ⟨c',cs',fc',e3,hsc',hrc',_⟩:=rBc.seq eq
  cases e1;cases e2;cases e3
  have sq:∀{c:Addr}{zs:List V}{H3:Hp},SqL K B c zs→aJ B H3→SqL K H3 c zs:=fun h s3=>s3.seq h
  have la:=hra'.length
  have lb:=hrb'.length
  have lc:=hrc'.length
  obtain ⟨hl,hl2⟩:=z.1
  have hlen:((xs.zip (ys.zip zs)).map fun p=>D.tup [p.1,p.2.1,p.2.2]).length=xs.length:=by simp;omega
  refine⟨fun {i H3} s3 hi=>?_,fun {i H3 u H4 d} s3 hy hd=>?_,fun {i H3} s3 hi=>?_⟩
  ·rw[hlen] at hi
   exact⟨as',bs',cs',as'[i]'(by omega),bs'[i]'(by omega),cs'[i]'(by omega),sq hsa' s3,sq hsb' s3,sq hsc' s3,List.getElem?_eq_getElem _,List.getElem?_eq_getElem _,List.getElem?_eq_getElem _⟩
  ·obtain ⟨p,u1,u2,u3,rfl,hp,rfl,h1,h2,h3⟩:=hy
   have q1:=h1 as' (sq hsa' s3)
   have q2:=h2 bs' (sq hsb' s3)
   have q3:=h3 cs' (sq hsc' s3)
   obtain ⟨d1,g1,e1,t1,_⟩:=hra'.get' q1
   obtain ⟨d2,g2,e2,t2,_⟩:=hrb'.get' q2
   obtain ⟨d3,g3,e3,t3,_⟩:=hrc'.get' q3
   have ez:(xs.zip (ys.zip zs))[i]?=some (d1,(d2,d3)):=List.getElem?_zip_eq_some.mpr ⟨e1,List.getElem?_zip_eq_some.mpr ⟨e2,e3⟩⟩
   rw[List.getElem?_map,ez] at hd
   cases hd
   have s4:aJ H3 (upd H3 p (.tup [u1,u2,u3])):=aJ.lP hp
   refine⟨s4,g1++(g2++g3),⟨p,_,rfl,aK,u1,[u2,u3],g1,g2++g3,rfl,rfl,(t1.same s3).same s4,u2,[u3],g2,g3,rfl,rfl,(t2.same s3).same s4,u3,[],g3,[],rfl,(List.append_nil _).symm,(t3.same s3).same s4,rfl,rfl⟩,fun c hc=>?_⟩
   rcases List.mem_append.mp hc with w | w
   ·obtain ⟨u,hu,_⟩:=t1.dom c w;rw[hu];intro z;cases z
   ·rcases List.mem_append.mp w with w | w
    ·obtain ⟨u,hu,_⟩:=t2.dom c w;rw[hu];intro z;cases z
    ·obtain ⟨u,hu,_⟩:=t3.dom c w;rw[hu];intro z;cases z
  ·rw[hlen] at hi
   exact⟨as',bs',cs',sq hsa' s3,sq hsb' s3,sq hsc' s3,by omega⟩) z)) z)) h)⟩
end
end L3
namespace L3
open PySem L2
section
variable {K:PySem.W.Frag}{ρ:Bool}{Γr Γl Γ:List Nat}
theorem EM.free {te:TE}{de:DE} (h:EM K [] [] te de):EM K Γ [] te de:=⟨h.mono,fun o z=>h.run (o.sub fun _ h=>(nomatch h)) z⟩
end
end L3
namespace L2
open PySem
theorem Dr {X:Cx}{K:PySem.W.Frag} (h:X.K=K):SlR X (Fw K):=by subst h;exact Gn
end L2
namespace L3
open PySem L2
section
variable {K:PySem.W.Frag}{ρ:Bool}{Γr Γl Γ:List Nat}
def uB (i j:Nat) (E:bh) (δ:Dl):Prop:=qk δ i fun es=>j<δ.length∧1≤es.length∧(∀d∈es.drop 1,∃e,d=D.lst e)∧E.nx ((δ.set j none).set i none)
theorem zy (i j:Nat) (hi:i∈Γ:=by decide) (hj:j∉Γ:=by decide) (hij:i≠j:=by decide) :
  ST K ρ Γr Γl (GG (Ga K (tSl (Fw K) (eU i) (Bs (tC (.int 1))) tK)) (gH j) (qD (HV K "list" Bd (eU j)))) Γ (minus Γ [i]) (uB i j):=by
 intro B0 Dn E fps δ σ H kk o h
 obtain ⟨es,e,hjl,hes,hds,hE⟩:=Ah h
 obtain ⟨v,h1,a,xs0,rfl,h2,h3⟩:=o.val i _ e
 have hlen:=h3.length
 have cut:qS xs0 (some 1) none=xs0.drop 1:=by
  unfold qS
  rw[HT.me,show HT.sIx xs0.length 0 (some 1)=min 1 xs0.length from HT.jP _ _ 1,show min 1 xs0.length=1 by omega]
  exact List.take_of_length_le (by rw[List.length_drop];omega)
 have facts:∀m,m<(xs0.drop 1).length→∃c,(xs0.drop 1)[m]?=some (.ref c)∧(∃zs,H c=some (.lst zs))∧c∈fps i:=fun m hm=>by
  rw[List.length_drop] at hm
  obtain ⟨d,hd⟩:∃d,es[1+m]?=some d:=⟨_,List.getElem?_eq_getElem (by omega)⟩
  obtain ⟨e',rfl⟩:=hds d (List.mem_of_getElem? (i:=m) (by rw[List.getElem?_drop];exact hd))
  obtain ⟨v,f,hv,rv,hf⟩:=h3.get hd
  obtain ⟨c,zs,fz,rfl,hc,rfl,_⟩:=rv
  exact⟨c,by rw[List.getElem?_drop];exact hv,⟨zs,hc⟩,hf c List.mem_cons_self⟩
 refine⟨.ref a,h1,1,rfl,a,xs0,rfl,.inl (.inl h2),fun z=>?_,fun p hp=>?_⟩
 ·have:=z.1
  rw[show HT.sIx xs0.length 0 (some 1)=min 1 xs0.length from HT.jP _ _ 1] at this
  omega
 rw[cut]
 obtain ⟨ws,ew⟩:∃ws,xs0.drop 1=ws:=⟨_,rfl⟩
 rw[ew] at facts ⊢
 obtain ⟨H2,e2⟩:∃H2,upd H p (.tup ws)=H2:=⟨_,rfl⟩
 have sm2:aJ H H2:=by rw[← e2];exact aJ.lP hp
 have at':H2 p=some (.tup ws):=by rw[← e2];exact aK
 rw[e2]
 have np:p∉fps i:=fun z=>o.dom z hp
 have o2:=o.same sm2
 refine⟨p,rfl,⟨ws,.inl (.inl at')⟩,fun n m σ' H'=>m=ws.length - n∧σ'.length=σ.length∧(∀k,k≠j→σ'[k]?=σ[k]?)∧(∀c u,c∉fps i→H2 c=some u→H' c=some u)∧(∀c∈fps i,(∃z,H2 c=some (.lst z))→∃z,H' c=some (.lst z)),⟨ws.length,rfl,rfl,fun _ _=>rfl,fun _ _ _ h=>h,fun _ _ h=>h⟩,?_⟩
 rintro n m σ' H' ⟨rfl,hl',hs,keep,lst⟩
 have hp'':=keep p _ np at'
 by_cases hlt:n<ws.length
 ·obtain ⟨c,h1',⟨z0,h4⟩,h5⟩:=facts n hlt
  refine .inr ⟨⟨ws,.ref c,.inl (.inl hp''),h1'⟩,fun σ2 H3=>∃m',m' < ws.length - n∧m'=ws.length - (n+1)∧σ2.length=σ.length∧(∀k,k≠j→σ2[k]?=σ[k]?)∧(∀c u,c∉fps i→H2 c=some u→H3 c=some u)∧(∀c∈fps i,(∃z,H2 c=some (.lst z))→∃z,H3 c=some (.lst z)),fun _ _ q=>q,fun x H3 hy=>?_⟩
  obtain ⟨rfl,hy⟩:=hy
  have ex:=hy ws (.inl (.inl hp''))
  rw[h1'] at ex;cases ex
  obtain ⟨z,hz⟩:=lst c h5 ⟨z0,sm2 _ _ h4⟩
  refine⟨.ref c,List.getElem?_set_self (by rw[hl',o.len];exact hjl),.inl ⟨rfl,z,.inl (.inl hz)⟩,c,z,rfl,rfl,hz,ws.length - (n+1),by omega,rfl,by rw[List.length_set];exact hl',fun k hk=>by rw[List.getElem?_set_ne (Ne.symm hk)];exact hs k hk,fun b' u hb' hu=>?_,fun c' hc' hz'=>?_⟩
  ·rw[aI (fun z=>hb' (by rw[z];exact h5))]
   exact keep b' u hb' hu
  ·by_cases z:c'=c
   ·subst z;exact⟨[],aK⟩
   ·rw[aI z];exact lst c' hc' hz'
 ·refine .inl ⟨⟨ws,.inl (.inl hp''),by omega⟩,?_⟩
  have o3:=o2.EU j hj hl' hs
  have fpi:(if i=j then [] else fps i)=fps i:=by rw[if_neg hij]
  refine kk.nx (o3.drop hi fun c u hc hu=>keep c u (fun z=>hc ?_) hu) hE
  rw[fpi]
  exact z
end
end L3
namespace L3
open PySem L2
section
variable {K:PySem.W.Frag}{ρ:Bool}{Γr Γl Γ:List Nat}{B0:Hp}{fps:Nat→List Addr}{δ:Dl}{σ:St}{H H':Hp}
theorem Ok.app {x:D}{v:V}{fp fq:List Addr}{a:Addr}{xs:List V}{ds:List D}{i:Nat} (o:Ok K B0 Γ fps δ σ H) (hi:i∈Γ) (h1:σ[i]?=some (some (.ref a))) (h2:H a=some (.lst xs)) (h3:fps i=a::fq) (h4:Rfs K H ds xs fq)
  (r:Rf K H x v fp) (nd:fp.Nodup) (hb:∀b∈fp,B0 b=none∧Mu H b) (dj:∀b∈fp,∀k,b∉fps k) :
  Ok K B0 Γ (fun k=>if k=i then a::(fq++fp) else fps k) (δ.set i (some (.lst (ds++[x])))) σ (upd H a (.lst (xs++[v]))):=by
 have hown:=o.own i hi
 rw[h3] at hown
 obtain ⟨ndi,hmu⟩:=hown
 obtain ⟨na,ndq⟩:=List.nodup_cons.mp ndi
 have hfa:∀b∈fp,b≠a∧b∉fq:=fun b hb'=>by
  have:=dj b hb' i
  rw[h3] at this
  exact⟨fun z=>this (by rw[z];exact List.mem_cons_self),fun z=>this (List.mem_cons_of_mem _ z)⟩
 have nt:=(hmu a List.mem_cons_self).2.jV
 refine o.write hi (d':=.lst (ds++[x])) (fp':=a::(fq++fp)) h1 ⟨a,xs++[v],fq++fp,rfl,aK,rfl,?_⟩ ?_ (fun b hb'=>?_) (fun b hb'=>?_) ?_
 ·exact (h4.upd na nt).append ((Rfs.one r).upd (fun w=>(hfa a w).1 rfl) nt)
 ·refine List.nodup_cons.mpr ⟨fun w=>?_,List.nodup_append.mpr ⟨ndq,nd,fun b h1 c h2 z=>?_⟩⟩
  ·rcases List.mem_append.mp w with w | w
   ·exact na w
   ·exact (hfa a w).1 rfl
  ·subst z;exact (hfa b h2).2 h1
 ·refine Mu.upd ?_ (.inl ⟨_,rfl⟩)
  rcases List.mem_cons.mp hb' with w | w
  ·subst w;exact .inl ⟨xs,h2⟩
  ·rcases List.mem_append.mp w with w | w
   ·exact (hmu b (List.mem_cons_of_mem _ w)).2
   ·exact (hb b w).2
 ·rw[h3]
  rcases List.mem_cons.mp hb' with w | w
  ·subst w;exact .inl List.mem_cons_self
  ·rcases List.mem_append.mp w with w | w
   ·exact .inl (List.mem_cons_of_mem _ w)
   ·exact .inr ⟨(hb b w).1,dj b w⟩
 ·rw[h3];exact mW List.mem_cons_self
def BK (i j q:Nat) (de:DE) (E:bh) (δ:Dl):Prop:=fZ δ i fun ds=>fZ δ j fun es=>∃d,δ[q]?=some (some d)∧ds.length<1000∧es.length<1000∧de (δ.set i none) fun x=>E.nx (((δ.set q none).set i (some (.lst (ds++[d])))).set j (some (.lst (es++[x]))))
theorem Em {te:TE}{de:DE} (i j q:Nat) (he:EM K (minus Γ [i]) [] te de) (hi:i∈Γ:=by decide) (hj:j∈Γ:=by decide) (hq:q∈Γ:=by decide) (hij:i≠j:=by decide) (hiq:i≠q:=by decide) (hjq:j≠q:=by decide) :
  ST K ρ Γr Γl (t8 (qD (tBM K "list" oX (eU i) (eZ (eU q) lI))) (qD (tBM K "list" oX (eU j) (eZ te lI)))) Γ (minus Γ [q]) (BK i j q de):=by
 intro B0 Dn E fps δ σ H kk o h
 obtain ⟨ds,e1,h⟩:=gj h
 obtain ⟨es,e2,d,e3,z1,z2,h⟩:=gj h
 obtain ⟨a,xs,fa,s1,h1,f1,r1⟩:=o.wk e1
 obtain ⟨b,ys,fb,s2,h2,f2,r2⟩:=o.wk e2
 obtain ⟨v,s3,rv⟩:=o.val q d e3
 have oq:=o.own q hq
 have oi:=o.own i hi
 have nab:b≠a:=fun z=>o.dj i hi j hij.symm a (by rw[f1];exact List.mem_cons_self) (by rw[f2,← z];exact List.mem_cons_self)
 have naq:a∉fps q:=fun z=>o.dj i hi q hiq.symm a (by rw[f1];exact List.mem_cons_self) z
 refine⟨.ref a,s1,.inl ⟨rfl,xs,.inl (.inl h1)⟩,v,s3,a,xs,v,rfl,rfl,h1,by rw[r1.length];exact Nat.lt_of_lt_of_le z1 (jj (Nat.le_refl _)),?_⟩
 have ok1:Ok K B0 (minus Γ [q]) _ _ σ (upd H a (.lst (xs++[v]))):=(o.kill [q]).app (i:=i) (x:=d) (fp:=fps q) (bA.mpr ⟨hi,fun z=>hiq (List.mem_singleton.mp z)⟩) s1 h1 (by show (if i∈[q] then [] else fps i)=_;rw[if_neg (fun z=>hiq (List.mem_singleton.mp z))];exact f1) r1 rv oq.1 oq.2 (fun c hc k=>by
  show c∉(if k∈[q] then [] else fps k)
  split
  ·exact List.not_mem_nil
  ·rename_i hk;exact o.dj q hq k (fun z=>hk (List.mem_singleton.mpr z)) c hc)
 have rd:=o.drop (H':=upd H a (.lst (xs++[v]))) hi fun c u hc hu=>by
  rw[aI (fun z=>hc (by rw[z,f1];exact List.mem_cons_self))];exact hu
 refine⟨.ref b,s2,.inl ⟨rfl,ys,.inl (.inl (by rw[aI nab];exact h2))⟩,he.run rd (he.mono _ _ _ (fun x hE w H2 fp sm rw' nw=>?_) h)⟩
 have hb2:H2 b=some (.lst ys):=sm _ _ (by rw[aI nab];exact h2)
 refine⟨b,ys,w,rfl,rfl,hb2,by rw[r2.length];exact Nat.lt_of_lt_of_le z2 (jj (Nat.le_refl _)),?_⟩
 have new:∀c∈fp,upd H a (.lst (xs++[v])) c=none:=fun c hc=>(nw.src c hc).elim id fun ⟨_,z,_⟩=>nomatch z
 have ok2:=ok1.same sm
 have hjm:j∈minus Γ [q]:=bA.mpr ⟨hj,fun z=>hjq (List.mem_singleton.mp z)⟩
 have r2':Rfs K H2 es ys fb:=by
  have na:a∉fb:=fun z=>o.dj i hi j hij.symm a (by rw[f1];exact List.mem_cons_self) (by rw[f2];exact List.mem_cons_of_mem _ z)
  have nt:=(oi.2 a (by rw[f1];exact List.mem_cons_self)).2.jV
  exact (r2.upd na nt).same sm
 have ok3:=ok2.app (i:=j) (x:=x) (fp:=fp) hjm s2 hb2 (by show (if j=i then _ else if j∈[q] then [] else fps j)=_;rw[if_neg hij.symm,if_neg (fun z=>hjq (List.mem_singleton.mp z))];exact f2) r2' rw' nw.nd (fun c hc=>⟨ok1.b0.free (new c hc),nw.mu c hc⟩) (fun c hc k z=>ok1.dom z (new c hc))
 exact kk.nx ok3 hE
end
end L3
namespace Mine
open PySem L3
open L2 hiding D Rf Rfs Rp dI dT
open PyProof.Rows hiding St
open L3.Fl hiding St
local macro_rules | `(tactic| walk_at "v1") => `(tactic| simp only [D6,tO,A2,yA,HJ,Ht,Es,xI,qO,oD,AG,uB,BK,Cp,xi,Cv,C2,EX,FL,AX,Dj,GJ,xc,Cz,va,yi,Gj,vIf,mC,vC,vOp,vUn,yO,BA,AN,pC,AI,GC,vOr,FE,CF,Hx,BS,xJ,Ac,nV,Fj,En,Gf,sv,FJ,CB,Fe,yS,vi,yg,y8,qQ,vK,vL,um,BO,uZ,vZ,vn,fZ,uD,Ci,vIs,yk,CD,yy,yn,zj,zg,AW,Bq,AL,BY,Ba,CJ,Cc,BM,AD,vP,D.pX,zh,D.aY,A3,vO,xY,sZ,sU,rZ,HN,EH,wD,yE,EZ,AB,Dm,vQ,vG,se,sE,tm,jG,yH,Hy,vSl,HH,sQ,tw,qf,Ew,pB,pQ,lB,pU,vF,x6,Ec,jy,Be,BI,EY,B7,GR,Av,A5,sM,xN,ph,si,uW,wc,qA,sf,yU,sR,EA,Cw,xU,qk,rM,sd,yI,Bw,yo,D.toV,Option.some.injEq,forall_eq',yK,vY,HQ,Cf,EK,FX,Fc,Fm,xR,xj,EC,EG,noX,Hm,A6,A4,B2,Br,pJ,kill,List.foldl_nil,List.foldl_cons,List.set_cons_zero,List.set_cons_succ,List.getElem?_cons_zero,List.getElem?_cons_succ,List.getElem?_nil,kg,wC,Bool.false_eq_true,Bool.not_false,Bool.not_true,if_true,if_false,ite_true,ite_false,true_and,and_true,List.length_cons,List.length_nil,decide_eq_true_eq,Bool.not_eq_true',decide_eq_false_iff_not,List.length_map,Bool.true_eq_false,eq_self,not_true_eq_false,not_false_eq_true,Int.reduceToNat,Int.reduceEq,Int.reduceLT,Int.reduceLE,Int.reducePow,Int.reduceAdd,Int.reduceMul,Int.reduceSub,Int.reduceNeg,Int.toNat_natCast])
local macro_rules | `(tactic| walk_at "vb1") => `(tactic| simp only [D6,tO,A2,yA,HJ,Ht,Es,xI,qO,oD,AG,uB,BK,Cp,xi,Cv,C2,EX,FL,AX,Dj,GJ,xc,Cz,va,yi,Gj,vIf,mC,vC,vOp,vUn,yO,BA,AN,pC,AI,GC,vOr,FE,CF,Hx,BS,xJ,Ac,nV,Fj,En,Gf,sv,FJ,CB,Fe,yS,vi,yg,y8,qQ,vK,vL,um,BO,uZ,vZ,vn,fZ,uD,Ci,vIs,yk,CD,yy,yn,zj,zg,AW,Bq,AL,BY,Ba,CJ,Cc,BM,AD,vP,D.pX,zh,D.aY,A3,vO,xY,sZ,sU,rZ,HN,EH,wD,yE,EZ,AB,Dm,vQ,vG,se,sE,tm,jG,yH,Hy,vSl,HH,sQ,tw,qf,Ew,pB,pQ,lB,pU,vF,x6,Ec,jy,Be,BI,EY,B7,GR,Av,A5,sM,xN,ph,si,uW,wc,qA,sf,yU,sR,EA,Cw,xU,qk,rM,sd,yI,Bw,yo,D.toV,Option.some.injEq,forall_eq',yK,vY,HQ,Cf,EK,FX,Fc,Fm,xR,xj,EC,EG,noX,Hm,A6,A4,B2,Br,pJ,kill,List.foldl_nil,List.foldl_cons,List.set_cons_zero,List.set_cons_succ,List.getElem?_cons_zero,List.getElem?_cons_succ,List.getElem?_nil,kg,wC,Bool.false_eq_true,Bool.not_false,Bool.not_true,if_true,if_false,ite_true,ite_false,true_and,and_true,List.length_cons,List.length_nil,decide_eq_true_eq,Bool.not_eq_true',decide_eq_false_iff_not,List.length_map,Bool.true_eq_false,eq_self,not_true_eq_false,not_false_eq_true,Int.reduceToNat,Int.reduceEq,Int.reduceLT,Int.reduceLE,Int.reducePow,Int.reduceAdd,Int.reduceMul,Int.reduceSub,Int.reduceNeg,Int.toNat_natCast,je,fo,List.reduceReplicate,List.replicate_succ,List.replicate_zero,List.map_cons,List.map_nil,Option.getD_some,List.cons_append,List.nil_append,Nat.reduceAdd])
local macro_rules | `(tactic| walk_at "v") => `(tactic| try (walk_at "v1"))
local macro_rules | `(tactic| walk_at "vb") => `(tactic| try (walk_at "vb1"))
local macro_rules | `(tactic| walk_at "cd") => `(tactic| first | exact ⟨by decide,100,by decide,by decide⟩ | exact ⟨by omega,100,by omega,by decide⟩ | omega | decide | rfl | exact ⟨by decide,by decide,by decide⟩ | exact ⟨64,64,by omega,by omega,by decide⟩ | exact ⟨200,200,by omega,by omega,by decide⟩ | exact gk)
local macro_rules | `(tactic| walk_at "go") => `(tactic| repeat (first | (walk_at "v1") | ((with_reducible refine And.intro ?k1 ?_); (case k1 => walk_at "cd"))))
local macro_rules | `(tactic| walk_at "gb") => `(tactic| repeat (first | (walk_at "vb1") | ((with_reducible refine And.intro ?k1 ?_); (case k1 => walk_at "cd"))))
def top (i:Nat):Stmt:=PySem.Challenge.pw_evenmix_k42_whole_between_or_cut.main.body.getD i (.Pass ⟨0,0,0,0⟩)
def zD (i j:Nat):Stmt:=(match top i with | .ClassDef _ _ _ b _ _ _ _ _ _ _=>b | _=>[]).getD j (.Pass ⟨0,0,0,0⟩)
abbrev bU:Stmt:=top 4
abbrev iT:List Str:=["one","other"]
abbrev bV:List Str:=["one","other"]
theorem oM:bb iT bV (aq bU):=⟨rfl,rfl,rfl,by decide +kernel,rfl,by decide +kernel,by decide +kernel⟩
abbrev et:Stmt:=top 5
abbrev lL:List Str:=["one","other"]
abbrev fU:List Str:=["one","other"]
theorem vN:bb lL fU (aq et):=⟨rfl,rfl,rfl,by decide +kernel,rfl,by decide +kernel,by decide +kernel⟩
abbrev b8:Stmt:=top 7
abbrev iY:List Str:=["table"]
abbrev cX:List Str:=["table"]
theorem oJ:bb iY cX (aq b8):=⟨rfl,rfl,rfl,by decide +kernel,rfl,by decide +kernel,by decide +kernel⟩
abbrev bZ:Stmt:=top 8
abbrev iL:List Str:=["table"]
abbrev cH:List Str:=["table"]
theorem oN:bb iL cH (aq bZ):=⟨rfl,rfl,rfl,by decide +kernel,rfl,by decide +kernel,by decide +kernel⟩
abbrev bI:Stmt:=top 9
abbrev gu:List Str:=["table"]
abbrev b6:List Str:=["table"]
theorem lT:bb gu b6 (aq bI):=⟨rfl,rfl,rfl,by decide +kernel,rfl,by decide +kernel,by decide +kernel⟩
abbrev bT:Stmt:=top 10
abbrev iU:List Str:=["table"]
abbrev cG:List Str:=["table"]
theorem oB:bb iU cG (aq bT):=⟨rfl,rfl,rfl,by decide +kernel,rfl,by decide +kernel,by decide +kernel⟩
abbrev dA:Stmt:=top 11
abbrev j4:List Str:=["table","place"]
abbrev fA:List Str:=["table","place"]
theorem uI:bb j4 fA (aq dA):=⟨rfl,rfl,rfl,by decide +kernel,rfl,by decide +kernel,by decide +kernel⟩
abbrev cj:Stmt:=top 13
abbrev ij:List Str:=["rows","columns","low","high"]
abbrev cO:List Str:=["rows","columns","low","high"]
theorem m7:bb ij cO (aq cj):=⟨rfl,rfl,rfl,by decide +kernel,rfl,by decide +kernel,by decide +kernel⟩
abbrev b9:Stmt:=top 14
abbrev iE:List Str:=["low","high"]
abbrev dm:List Str:=["low","high"]
theorem oy:bb iE dm (aq b9):=⟨rfl,rfl,rfl,by decide +kernel,rfl,by decide +kernel,by decide +kernel⟩
abbrev cJ:Stmt:=zD 15 0
abbrev iG:List Str:=["self","rows","columns","low","high"]
abbrev df:List Str:=["self","rows","columns","low","high"]
theorem oH:bb iG df (aq cJ):=⟨rfl,rfl,rfl,by decide +kernel,rfl,by decide +kernel,by decide +kernel⟩
abbrev bJ:Stmt:=zD 15 1
abbrev jb:List Str:=["self","reach","low#","high#"]
abbrev bS:List Str:=["self"]
theorem iN:bb jb bS (aq bJ):=⟨rfl,rfl,rfl,by decide +kernel,rfl,by decide +kernel,by decide +kernel⟩
abbrev bX:Stmt:=zD 15 2
abbrev kf:List Str:=["self","way","goal","start","amount","step","row","low#","high#"]
abbrev cZ:List Str:=["self","way"]
theorem dw:bb kf cZ (aq bX):=⟨rfl,rfl,rfl,by decide +kernel,rfl,by decide +kernel,by decide +kernel⟩
abbrev cg:Stmt:=zD 15 3
abbrev ip:List Str:=["self","way","step","row","column"]
abbrev cR:List Str:=["self","way","step"]
theorem gW:bb ip cR (aq cg):=⟨rfl,rfl,rfl,by decide +kernel,rfl,by decide +kernel,by decide +kernel⟩
abbrev dF:Stmt:=zD 16 0
abbrev jQ:List Str:=["self","filling","raising","lowering","layer","row","fresh"]
abbrev eD:List Str:=["self","filling"]
theorem dM:bb jQ eD (aq dF):=⟨rfl,rfl,rfl,by decide +kernel,rfl,by decide +kernel,by decide +kernel⟩
abbrev el:Stmt:=zD 16 1
abbrev kc:List Str:=["self","cells","column","row"]
abbrev fg:List Str:=["self"]
theorem gz:bb kc fg (aq el):=⟨rfl,rfl,rfl,by decide +kernel,rfl,by decide +kernel,by decide +kernel⟩
abbrev fD:Stmt:=top 17
abbrev nO:List Str:=["lesser","greater"]
abbrev gM:List Str:=["lesser","greater"]
theorem wW:bb nO gM (aq fD):=⟨rfl,rfl,rfl,by decide +kernel,rfl,by decide +kernel,by decide +kernel⟩
abbrev hZ:Stmt:=top 18
abbrev pO:List Str:=["layer","ways","reached","fresh","source","place"]
abbrev iR:List Str:=["layer","ways","reached"]
theorem kQ:bb pO iR (aq hZ):=⟨rfl,rfl,rfl,by decide +kernel,rfl,by decide +kernel,by decide +kernel⟩
abbrev bw:Stmt:=top 19
abbrev gE:List Str:=["columns","rooms","free"]
abbrev bW:List Str:=["columns","rooms"]
theorem iV:bb gE bW (aq bw):=⟨rfl,rfl,rfl,by decide +kernel,rfl,by decide +kernel,by decide +kernel⟩
abbrev d7:Stmt:=top 21
abbrev j9:List Str:=["_law_found"]
abbrev d9:List Str:=["_law_found"]
theorem uo:bb j9 d9 (aq d7):=⟨rfl,rfl,rfl,by decide +kernel,rfl,by decide +kernel,by decide +kernel⟩
abbrev ff:Stmt:=top 22
abbrev lM:List Str:=["_law_script","_law_many","_law_found","_law_number","_law_cell","_law_k"]
abbrev fS:List Str:=["_law_script","_law_many"]
theorem fu:bb lM fS (aq ff):=⟨rfl,rfl,rfl,by decide +kernel,rfl,by decide +kernel,by decide +kernel⟩
abbrev eh:Stmt:=top 23
abbrev ki:List Str:=["_law_cell"]
abbrev ft:List Str:=["_law_cell"]
theorem uq:bb ki ft (aq eh):=⟨rfl,rfl,rfl,by decide +kernel,rfl,by decide +kernel,by decide +kernel⟩
abbrev dQ:Stmt:=top 24
abbrev lS:List Str:=["_law_script","_law_high","_law_wide","_law_found","_law_at","_law_line","_law_spot"]
abbrev fY:List Str:=["_law_script","_law_high","_law_wide"]
theorem ic:bb lS fY (aq dQ):=⟨rfl,rfl,rfl,by decide +kernel,rfl,by decide +kernel,by decide +kernel⟩
abbrev dO:Stmt:=top 25
abbrev lD:List Str:=["_law_table","_law_columns","_law_j"]
abbrev eL:List Str:=["_law_table"]
theorem j6:bb lD eL (aq dO):=⟨rfl,rfl,rfl,by decide +kernel,rfl,by decide +kernel,by decide +kernel⟩
abbrev eX:Stmt:=top 26
abbrev lE:List Str:=["_law_found","_law_rows","_law_columns","_law_low","_law_high","_law_line","_law_least","_law_most","_law_k"]
abbrev fV:List Str:=["_law_found","_law_rows","_law_columns","_law_low","_law_high"]
theorem gZ:bb lE fV (aq eX):=⟨rfl,rfl,rfl,by decide +kernel,rfl,by decide +kernel,by decide +kernel⟩
abbrev dE:Stmt:=top 27
abbrev jR:List Str:=["_law_some","_law_many","_law_k"]
abbrev eE:List Str:=["_law_some","_law_many"]
theorem lp:bb jR eE (aq dE):=⟨rfl,rfl,rfl,by decide +kernel,rfl,by decide +kernel,by decide +kernel⟩
abbrev dP:Stmt:=top 28
abbrev lH:List Str:=["_law_some","_law_others","_law_rows","_law_columns","_law_low","_law_high","_law_room","_law_k","_law_j"]
abbrev fQ:List Str:=["_law_some","_law_others","_law_rows","_law_columns","_law_low","_law_high"]
theorem gg:bb lH fQ (aq dP):=⟨rfl,rfl,rfl,by decide +kernel,rfl,by decide +kernel,by decide +kernel⟩
abbrev ee:Stmt:=top 29
abbrev ko:List Str:=["_law_cell","_law_scale"]
abbrev fj:List Str:=["_law_cell","_law_scale"]
theorem uy:bb ko fj (aq ee):=⟨rfl,rfl,rfl,by decide +kernel,rfl,by decide +kernel,by decide +kernel⟩
abbrev bY:Stmt:=top 30
abbrev jK:List Str:=["_law_table","_law_deck_here","_law_scale","_law_low","_law_high","_law_k","_law_cells"]
abbrev eN:List Str:=["_law_table","_law_deck_here","_law_scale"]
theorem fJ:bb jK eN (aq bY):=⟨rfl,rfl,rfl,by decide +kernel,rfl,by decide +kernel,by decide +kernel⟩
abbrev d8:Stmt:=top 31
abbrev kG:List Str:=["_law_sums_here","_law_cell","_law_scale","_law_found","_law_k","_law_part","_law_here","_law_there"]
abbrev eW:List Str:=["_law_sums_here","_law_cell","_law_scale"]
theorem eI:bb kG eW (aq d8):=⟨rfl,rfl,rfl,by decide +kernel,rfl,by decide +kernel,by decide +kernel⟩
abbrev ei:Stmt:=top 32
abbrev jf:List Str:=["_law_found","_law_rows","_law_columns","_law_low","_law_high"]
abbrev eY:List Str:=["_law_found","_law_rows","_law_columns","_law_low","_law_high"]
theorem ui:bb jf eY (aq ei):=⟨rfl,rfl,rfl,by decide +kernel,rfl,by decide +kernel,by decide +kernel⟩
abbrev dG:Stmt:=top 33
abbrev jJ:List Str:=["_law_cells","_law_many","_law_base","_law_left","_law_found","_law_k","_law_at"]
abbrev eJ:List Str:=["_law_cells","_law_many","_law_base"]
theorem fK:bb jJ eJ (aq dG):=⟨rfl,rfl,rfl,by decide +kernel,rfl,by decide +kernel,by decide +kernel⟩
abbrev bN:Stmt:=top 34
abbrev gR:List Str:=["_law_lows","_law_some","_law_base","_law_found","_law_k","_law_more"]
abbrev cD:List Str:=["_law_lows","_law_some","_law_base"]
theorem eT:bb gR cD (aq bN):=⟨rfl,rfl,rfl,by decide +kernel,rfl,by decide +kernel,by decide +kernel⟩
abbrev bE:Stmt:=top 35
abbrev il:List Str:=["_law_script","_law_high","_law_wide","_law_base","_law_digits_here","_law_least","_law_most","_law_k","_law_some","_law_line","_law_lows","_law_rest","_law_rows","_law_columns"]
abbrev cQ:List Str:=["_law_script"]
theorem aV:bb il cQ (aq bE):=⟨rfl,rfl,rfl,by decide +kernel,rfl,by decide +kernel,by decide +kernel⟩
abbrev cV:Stmt:=top 36
abbrev j5:List Str:=["_law_script","_law_deck_here","_law_shape_here","_law_scale","_law_table","_law_low","_law_high","_law_rows","_law_columns"]
abbrev eV:List Str:=["_law_script"]
theorem cS:bb j5 eV (aq cV):=⟨rfl,rfl,rfl,by decide +kernel,rfl,by decide +kernel,by decide +kernel⟩
abbrev jA:Stmt:=top 37
abbrev Aw:List Str:=["_law_script","_law_rows","_law_columns","_law_low","_law_high","_law_given","_law_handed","_law_found","_law_kind","_law_part","_law_again"]
abbrev ql:List Str:=["_law_script"]
theorem iD:bb Aw ql (aq jA):=⟨rfl,rfl,rfl,by decide +kernel,rfl,by decide +kernel,by decide +kernel⟩
structure Txt (K:PySem.W.Frag) (mg:Str→Option Value):Prop where
 len_:mg "len" = none
 isinstance_:mg "isinstance" = none
 int_:mg "int" = none
 bool_:mg "bool" = none
 list_:mg "list" = none
 range_:mg "range" = none
 min_:mg "min" = none
 max_:mg "max" = none
 sum_:mg "sum" = none
 sorted_:mg "sorted" = none
 tuple_:mg "tuple" = none
 zip_:mg "zip" = none
 any_:mg "any" = none
 ValueError_:mg "ValueError" = none
structure Cs where
 (MixError NoBounds Filling Reach:Addr)
structure Fns (K:PySem.W.Frag) (mg:Str→Option Value) (c:Cs):Prop where
 h_places_below:∃f fd,FnAt K mg "places_below" bU bV f fd
 h_less_row:∃f fd,FnAt K mg "less_row" et fU f fd
 h_copied_table:∃f fd,FnAt K mg "copied_table" b8 cX f fd
 h_sums_of_rows:∃f fd,FnAt K mg "sums_of_rows" bZ cH f fd
 h_sums_of_columns:∃f fd,FnAt K mg "sums_of_columns" bI b6 f fd
 h_turned_table:∃f fd,FnAt K mg "turned_table" bT cG f fd
 h_column_of:∃f fd,FnAt K mg "column_of" dA fA f fd
 h_table_between:∃f fd,FnAt K mg "table_between" cj cO f fd
 h_check_bounds:∃f fd,FnAt K mg "check_bounds" b9 dm f fd
 h_Filling_init:∃f fd,Ag K mg "Filling" c.Filling "Filling.__init__" cJ df f fd
 h_Filling_outcome:∃f fd,oG K c.Filling "outcome" "Filling.outcome" bJ bS f fd
 h_Filling_pour:∃f fd,oG K c.Filling "pour" "Filling.pour" bX cZ f fd
 h_Filling_slack:∃f fd,oG K c.Filling "slack" "Filling.slack" cg cR f fd
 h_Reach_init:∃f fd,Ag K mg "Reach" c.Reach "Reach.__init__" dF eD f fd
 h_Reach_way:∃f fd,oG K c.Reach "way" "Reach.way" el fg f fd
 h_ways_up:∃f fd,FnAt K mg "ways_up" fD gM f fd
 h_spread:∃f fd,FnAt K mg "spread" hZ iR f fd
 h_first_with_room:∃f fd,FnAt K mg "first_with_room" bw bW f fd
 h_law_whole:∃f fd,FnAt K mg "_law_whole" d7 d9 f fd
 h_law_deck:∃f fd,FnAt K mg "_law_deck" ff fS f fd
 h_law_shape:∃f fd,FnAt K mg "_law_shape" eh ft f fd
 h_law_tops:∃f fd,FnAt K mg "_law_tops" dQ fY f fd
 h_law_sums:∃f fd,FnAt K mg "_law_sums" dO eL f fd
 h_law_lies:∃f fd,FnAt K mg "_law_lies" eX fV f fd
 h_law_rising:∃f fd,FnAt K mg "_law_rising" dE eE f fd
 h_law_bars:∃f fd,FnAt K mg "_law_bars" dP fQ f fd
 h_law_width:∃f fd,FnAt K mg "_law_width" ee fj f fd
 h_law_spread:∃f fd,FnAt K mg "_law_spread" bY eN f fd
 h_law_moved:∃f fd,FnAt K mg "_law_moved" d8 eW f fd
 h_law_right:∃f fd,FnAt K mg "_law_right" ei eY f fd
 h_law_digits:∃f fd,FnAt K mg "_law_digits" dG eJ f fd
 h_law_digit_sums:∃f fd,FnAt K mg "_law_digit_sums" bN cD f fd
 h_law_by_digits:∃f fd,FnAt K mg "_law_by_digits" bE cQ f fd
 h_law_drawn:∃f fd,FnAt K mg "_law_drawn" cV eV f fd
 h_law:∃f fd,FnAt K mg "law" jA ql f fd
structure Exs (K:PySem.W.Frag) (mg:Str→Option Value) (base:Heap) (c:Cs):Prop where
 m_MixError:mg "MixError" = some (.ref c.MixError)
 m_NoBounds:mg "NoBounds" = some (.ref c.NoBounds)
 m_Filling:mg "Filling" = some (.ref c.Filling)
 m_Reach:mg "Reach" = some (.ref c.Reach)
 i_Filling:HR K c.Filling
 n_Filling_low:cL K c.Filling "low"
 n_Filling_high:cL K c.Filling "high"
 n_Filling_table:cL K c.Filling "table"
 n_Filling_wants:cL K c.Filling "wants"
 n_Filling_rooms:cL K c.Filling "rooms"
 i_Reach:HR K c.Reach
 n_Reach_rows:cL K c.Reach "rows"
 n_Reach_columns:cL K c.Reach "columns"
 n_Reach_goal:cL K c.Reach "goal"
 o_MixError:kD base c.MixError []
 o_NoBounds:kD base c.NoBounds [c.MixError]
 k_NoBounds:PySem.W.Il K c.NoBounds
section
variable {P:Program}{w:World}{K:PySem.W.Frag}{mg:Str→Option Value}{base:Heap}
def cC (one other:List Int):List Nat:=(List.range one.length).filter fun p=>decide (one.getD p 0<other.getD p 0)
def bL:DSp:=fun ds P=>∃one other,ds=[dI one,dI other]∧one.length≤1000∧one.length=other.length∧P (dI ((cC one other).map fun (p:Nat)=>(p:Int)))
theorem gv:cE bL:=by
 intro xs P P' k h
 unfold bL at h ⊢
 grind
theorem nR:∀ds P,bL ds P→ds.length=2:=by
 intro ds P h
 obtain ⟨_,_,e,_⟩:=h
 rw[e];rfl
theorem ir {c:Cs}{f:Addr}{fd:FuncData} (F:FnAt K mg "places_below" bU bV f fd) (A_:Fns K mg c) (T:Txt K mg) (xs:Exs K mg base c):bc P w K mg base CX0 1 f fd bV (spP K bL):=by
 refine F.fn.ok oM (fun vs H Q E h=>bB nR h) (fun cdv A outer s H vs Q E hr h=>?_)
 refine⟨_,(aA (bg (ym rfl (aO.of (sc0:=(aq bU)) (tn:=["place"]) (cap:=["one","other"]) (idx:=[0,1]) (by decide +kernel) rfl rfl) (br rfl T.range_ (af (aB (aQ (K:=K) rfl) (by rfl) T.len_ PySem.boot_len (af (pv 0) aj)) aj)) (fB.name (by decide)) (fun _ _ _ _ _=>aH (i:=0) (aN (l:=["place","one","other"]) (by decide +kernel)) rfl (by first | exact Or.inl rfl | exact Or.inr rfl) (by first | exact .inl rfl | exact .inr rfl)) (fun _ _ _ _ _=>yr (bt vp (aF (aw (K:=K) rfl) (pv 1) (pv 0) (fun _ _=>rfl)) (aF (aw (K:=K) rfl) (pv 2) (pv 0) (fun _ _=>rfl)) (bK _))) (fun _ _ _ _ _=>(pv 0)) (by intro _;rfl)))),cq (Γn:=[]) (N:=iT) (bf (M:=[]) (tI (cx (ai (EM.er (bp cT (ai (ES.er (aa 0)) au))) au)) (aM 0) (bo (EM.er (ax mm (ES.er (aE (aa 1) (ES.er (aa 0)))) (ES.er (aE (aa 2) (ES.er (aa 0))))))) (ER.aY (ES.er (aa 0))))) (fun ds P hS=>?_) h⟩
 obtain ⟨one,other,rfl,hl,he,hP⟩:=hS
 rw[show aZ iT [dI one,dI other]=[some (dI one),some (dI other)] from rfl]
 walk_at "v"
 refine zT (lo:=0) (n:=one.length) (p:=fun p=>decide (one.getD p 0<other.getD p 0)) (g:=fun (p:Nat)=>.int (p:Int)) (fun R h=>?_) hl (fun i hi R h=>?_) ?_
 ·walk_at "go";exact h
 ·walk_at "gb"
  rw[Int.zero_add]
  refine aL (by omega) (aL (by omega) ?_)
  walk_at "gb"
  split
  ·rename_i c
   rw[decide_eq_true c] at h
   exact h
  ·rename_i c
   rw[decide_eq_false c] at h
   exact h
 ·rw[iy];exact hP
def fX:DSp:=fun ds P=>∃one other:List Int,ds=[dI one,dI other]∧one.length=other.length∧one.length≤1000∧P (dI ((List.range one.length).map fun (i:Nat)=>one.getD i 0 - other.getD i 0))
theorem lj:cE fX:=by
 intro xs P P' k h
 unfold fX at h ⊢
 grind
theorem uk:∀ds P,fX ds P→ds.length=2:=by
 intro ds P h
 obtain ⟨_,_,e,_⟩:=h
 rw[e];rfl
theorem vd {c:Cs}{f:Addr}{fd:FuncData} (F:FnAt K mg "less_row" et fU f fd) (A_:Fns K mg c) (T:Txt K mg) (xs:Exs K mg base c):bc P w K mg base CX0 1 f fd fU (spP K fX):=by
 refine F.fn.ok vN (fun vs H Q E h=>bB uk h) (fun cdv A outer s H vs Q E hr h=>?_)
 refine⟨_,(aA (bg (bO (aO.of (sc0:=(aq et)) (tn:=["place"]) (cap:=["one","other"]) (idx:=[0,1]) (by decide +kernel) rfl rfl) (br rfl T.range_ (af (aB (aQ (K:=K) rfl) (by rfl) T.len_ PySem.boot_len (af (pv 0) aj)) aj)) (fB.name (by decide)) (fun _ _ _ _ _=>aH (i:=0) (aN (l:=["place","one","other"]) (by decide +kernel)) rfl (by first | exact Or.inl rfl | exact Or.inr rfl) (by first | exact .inl rfl | exact .inr rfl)) (fun _ _ _ _ _=>(aD gS (aF (aw (K:=K) rfl) (pv 1) (pv 0) (fun _ _=>rfl)) (aF (aw (K:=K) rfl) (pv 2) (pv 0) (fun _ _=>rfl))))))),cq (Γn:=[]) (N:=lL) (bf (M:=[]) (bD (cx (ai (EM.er (bp cT (ai (ES.er (aa 0)) au))) au)) (aM 0) (ax bR (ES.er (aE (aa 1) (ES.er (aa 0)))) (ES.er (aE (aa 2) (ES.er (aa 0))))))) (fun ds P hS=>?_) h⟩
 obtain ⟨one,other,rfl,he,hl,hP⟩:=hS
 rw[show aZ lL [dI one,dI other]=[some (dI one),some (dI other)] from rfl]
 walk_at "v"
 refine ia (lo:=0) (n:=one.length) (g:=fun (i:Nat)=>.int (one.getD i 0 - other.getD i 0)) (fun R h=>?_) hl (fun i hi R h=>?_) ?_
 ·walk_at "go";exact h
 ·walk_at "gb"
  rw[Int.zero_add]
  refine aL (by omega) (aL (by omega) ?_)
  walk_at "gb"
  exact h
 ·rw[iy];exact hP
def dW:DSp:=fun ds P=>∃t,ds=[dT t]∧t.length≤1000∧P (dT t)
theorem mz:cE dW:=by
 intro xs P P' k h
 unfold dW at h ⊢
 grind
theorem ni:∀ds P,dW ds P→ds.length=1:=by
 intro ds P h
 obtain ⟨_,e,_⟩:=h
 rw[e];rfl
theorem oF {c:Cs}{f:Addr}{fd:FuncData} (F:FnAt K mg "copied_table" b8 cX f fd) (A_:Fns K mg c) (T:Txt K mg) (xs:Exs K mg base c):bc P w K mg base CX0 1 f fd cX (spP K dW):=by
 refine F.fn.ok oJ (fun vs H Q E h=>bB ni h) (fun cdv A outer s H vs Q E hr h=>?_)
 refine⟨_,(aA (bg (bO (aO.of (sc0:=(aq b8)) (tn:=["row"]) (cap:=[]) (idx:=[]) (by decide +kernel) rfl rfl) (cI (K:=K) rfl (pv 0)) (fB.name (by decide)) (fun _ _ _ _ _=>aH (i:=0) (aN (l:=["row"]) (by decide +kernel)) rfl (by first | exact Or.inl rfl | exact Or.inr rfl) (by first | exact .inl rfl | exact .inr rfl)) (fun _ _ _ _ _=>(gL (fW (K:=K) rfl) (by rfl) T.list_ boot_list (af (pv 0) aj)))))),cq (Γn:=[]) (N:=iY) (bf (M:=[]) (bD (dH (aa 0)) (aM 0) (bp ma (ai (ES.er (aa 0)) au)))) (fun ds P hS=>?_) h⟩
 obtain ⟨t,rfl,hl,hP⟩:=hS
 rw[show aZ iY [dT t]=[some (dT t)] from rfl]
 walk_at "v"
 refine ny (t:=t) (fun R h=>h) hl (fun r hr R h=>by walk_at "gb";exact h) ?_
 exact hP
def cK:DSp:=fun ds P=>∃t,ds=[dT t]∧t.length≤1000∧P (dI (t.map List.sum))
theorem jh:cE cK:=by
 intro xs P P' k h
 unfold cK at h ⊢
 grind
theorem nN:∀ds P,cK ds P→ds.length=1:=by
 intro ds P h
 obtain ⟨_,e,_⟩:=h
 rw[e];rfl
theorem jU {c:Cs}{f:Addr}{fd:FuncData} (F:FnAt K mg "sums_of_rows" bZ cH f fd) (A_:Fns K mg c) (T:Txt K mg) (xs:Exs K mg base c):bc P w K mg base CX0 1 f fd cH (spP K cK):=by
 refine F.fn.ok oN (fun vs H Q E h=>bB nN h) (fun cdv A outer s H vs Q E hr h=>?_)
 refine⟨_,(aA (bg (bO (aO.of (sc0:=(aq bZ)) (tn:=["row"]) (cap:=[]) (idx:=[]) (by decide +kernel) rfl rfl) (cI (K:=K) rfl (pv 0)) (fB.name (by decide)) (fun _ _ _ _ _=>aH (i:=0) (aN (l:=["row"]) (by decide +kernel)) rfl (by first | exact Or.inl rfl | exact Or.inr rfl) (by first | exact .inl rfl | exact .inr rfl)) (fun _ _ _ _ _=>(aB (dX (K:=K) rfl rfl) (by rfl) T.sum_ boot_sum (af (pv 0) aj)))))),cq (Γn:=[]) (N:=iL) (bf (M:=[]) (bD (dH (aa 0)) (aM 0) (bp kn (ai (ES.er (aa 0)) au)))) (fun ds P hS=>?_) h⟩
 obtain ⟨t,rfl,hl,hP⟩:=hS
 rw[show aZ iL [dT t]=[some (dT t)] from rfl]
 walk_at "v"
 refine iC (t:=t) (g:=fun r=>.int r.sum) (fun R h=>h) hl (fun r hr R h=>?_) ?_
 ·walk_at "gb"
  exact h
 ·rw[iy];exact hP
def gh:DSp:=fun ds P=>∃(t:List (List Int)) (j:Nat),ds=[dT t,.int j]∧t.length≤1000∧(∀r∈t,j<r.length)∧P (dI (n6 t j))
theorem pS:cE gh:=by
 intro xs P P' k h
 unfold gh at h ⊢
 grind
theorem rK:∀ds P,gh ds P→ds.length=2:=by
 intro ds P h
 obtain ⟨_,_,e,_⟩:=h
 rw[e];rfl
theorem uO {c:Cs}{f:Addr}{fd:FuncData} (F:FnAt K mg "column_of" dA fA f fd) (A_:Fns K mg c) (T:Txt K mg) (xs:Exs K mg base c):bc P w K mg base CX0 1 f fd fA (spP K gh):=by
 refine F.fn.ok uI (fun vs H Q E h=>bB rK h) (fun cdv A outer s H vs Q E hr h=>?_)
 refine⟨_,(aA (bg (bO (aO.of (sc0:=(aq dA)) (tn:=["row"]) (cap:=["place"]) (idx:=[1]) (by decide +kernel) rfl rfl) (cI (K:=K) rfl (pv 0)) (fB.name (by decide)) (fun _ _ _ _ _=>aH (i:=0) (aN (l:=["row","place"]) (by decide +kernel)) rfl (by first | exact Or.inl rfl | exact Or.inr rfl) (by first | exact .inl rfl | exact .inr rfl)) (fun _ _ _ _ _=>(aF (aw (K:=K) rfl) (pv 0) (pv 1) (fun _ _=>rfl)))))),cq (Γn:=[]) (N:=j4) (bf (M:=[]) (bD (dH (aa 0)) (aM 0) (ER.aY (ES.er (aE (aa 0) (ES.er (aa 1))))))) (fun ds P hS=>?_) h⟩
 obtain ⟨t,j,rfl,hl,hj,hP⟩:=hS
 rw[show aZ j4 [dT t,.int j]=[some (dT t),some (.int j)] from rfl]
 walk_at "v"
 refine iC (t:=t) (g:=fun r=>.int (r.getD j 0)) (fun R h=>h) hl (fun r hr R h=>?_) ?_
 ·walk_at "gb"
  have:=hj r hr
  refine aL (by omega) ?_
  rw[Int.toNat_natCast]
  exact⟨rfl,h⟩
 ·rw[iy];exact hP
def turned (m:Nat) (t:List (List Int)):List (List Int):=(List.range m).map fun (j:Nat)=>n6 t j
def b7:DSp:=fun ds P=>∃(t:List (List Int)) (n m:Nat),ds=[dT t]∧bF n m t∧1≤n∧n≤1000∧m≤1000∧P (dT (turned m t))
theorem gn:cE b7:=by
 intro xs P P' k h
 unfold b7 at h ⊢
 grind
theorem nD:∀ds P,b7 ds P→ds.length=1:=by
 intro ds P h
 obtain ⟨_,_,_,e,_⟩:=h
 rw[e];rfl
theorem jW {c:Cs}{f:Addr}{fd:FuncData} (F:FnAt K mg "turned_table" bT cG f fd) (A_:Fns K mg c) (T:Txt K mg) (xs:Exs K mg base c):bc P w K mg base CX0 2 f fd cG (spP K b7):=by
 obtain ⟨f0,d0,E_column_of⟩:=A_.h_column_of
 have G_column_of:bc P w K mg base CX0 1 f0 d0 fA (spP K gh):=uO E_column_of A_ T xs
 refine F.fn.ok oB (fun vs H Q E h=>bB nD h) (fun cdv A outer s H vs Q E hr h=>?_)
 refine⟨_,(aA (bg (bO (aO.of (sc0:=(aq bT)) (tn:=["place"]) (cap:=["table"]) (idx:=[0]) (by decide +kernel) rfl rfl) (br rfl T.range_ (af (aB (aQ (K:=K) rfl) (by rfl) T.len_ PySem.boot_len (af (aF (aw (K:=K) rfl) (pv 0) ar (fun _ _=>rfl)) aj)) aj)) (fB.name (by decide)) (fun _ _ _ _ _=>aH (i:=0) (aN (l:=["place","table"]) (by decide +kernel)) rfl (by first | exact Or.inl rfl | exact Or.inr rfl) (by first | exact .inl rfl | exact .inr rfl)) (fun _ _ _ _ _=>(aR G_column_of (hr.mono (by decide)) rfl E_column_of.mg E_column_of.fn.kp E_column_of.bd .nil bz (af (pv 1) (af (pv 0) aj))))))),cq (Γn:=[]) (N:=iU) (bf (M:=[]) (bD (cx (ai (EM.er (bp cT (ai (ES.er (aE (aa 0) (EM.er av))) au))) au)) (aM 0) (aX (S:=gh) pS (ai (ES.er (aa 1)) (ai (ES.er (aa 0)) au))))) (fun ds P hS=>?_) h⟩
 obtain ⟨t,n,m,rfl,hR,hn,hn2,hm,hP⟩:=hS
 rw[show aZ iU [dT t]=[some (dT t)] from rfl]
 have ht:=hR.1
 have h0:=hR.row (i:=0) (by omega)
 walk_at "v"
 refine ia (lo:=0) (n:=m) (g:=fun (j:Nat)=>dI (n6 t j)) (fun R h=>?_) hm (fun j hj R h=>?_) ?_
 ·walk_at "v"
  refine dZ (by omega) ?_
  walk_at "v"
  rw[h0]
  exact⟨by omega,h⟩
 ·walk_at "gb"
  rw[Int.zero_add]
  exact⟨t,j,rfl,by omega,fun r hr=>by rw[hR.2 r hr];exact hj,h⟩
 ·rw[AZ];exact hP
def cM:DSp:=fun ds P=>∃(t:List (List Int)) (n m:Nat),ds=[dT t]∧bF n m t∧1≤n∧n≤1000∧m≤1000∧P (dI ((turned m t).map List.sum))
theorem kB:cE cM:=by
 intro xs P P' k h
 unfold cM at h ⊢
 grind
theorem kW:∀ds P,cM ds P→ds.length=1:=by
 intro ds P h
 obtain ⟨_,_,_,e,_⟩:=h
 rw[e];rfl
theorem lK {c:Cs}{f:Addr}{fd:FuncData} (F:FnAt K mg "sums_of_columns" bI b6 f fd) (A_:Fns K mg c) (T:Txt K mg) (xs:Exs K mg base c):bc P w K mg base CX0 3 f fd b6 (spP K cM):=by
 obtain ⟨f0,d0,E_sums_of_rows⟩:=A_.h_sums_of_rows
 have G_sums_of_rows:bc P w K mg base CX0 1 f0 d0 cH (spP K cK):=jU E_sums_of_rows A_ T xs
 obtain ⟨f1,d1,E_turned_table⟩:=A_.h_turned_table
 have G_turned_table:bc P w K mg base CX0 2 f1 d1 cG (spP K b7):=jW E_turned_table A_ T xs
 refine F.fn.ok lT (fun vs H Q E h=>bB kW h) (fun cdv A outer s H vs Q E hr h=>?_)
 refine⟨_,(aA (bg (aR G_sums_of_rows (hr.mono (by decide)) rfl E_sums_of_rows.mg E_sums_of_rows.fn.kp E_sums_of_rows.bd .nil bz (af (aR G_turned_table (hr.mono (by decide)) rfl E_turned_table.mg E_turned_table.fn.kp E_turned_table.bd .nil bz (af (pv 0) aj)) aj)))),cq (Γn:=[]) (N:=gu) (bf (M:=[]) (aX (S:=cK) jh (ai (EM.er (aX (S:=b7) gn (ai (ES.er (aa 0)) au))) au))) (fun ds P hS=>?_) h⟩
 obtain ⟨t,n,m,rfl,hR,hn,hn2,hm,hP⟩:=hS
 rw[show aZ gu [dT t]=[some (dT t)] from rfl]
 walk_at "v"
 refine⟨t,n,m,rfl,hR,hn,hn2,hm,?_⟩
 exact⟨turned m t,rfl,by unfold turned;rw[List.length_map,List.length_range];exact hm,hP⟩
def Low (n m:Nat) (low high:List (List Int)):Prop:=∀i j,i<n→j<m→cellAt low i j≤cellAt high i j
theorem sW {a b:List Int}:cC a b=[]↔∀j,j<a.length→b.getD j 0≤a.getD j 0:=by
 unfold cC
 rw[List.filter_eq_nil_iff]
 refine⟨fun h j hj=>?_,fun h j hj=>?_⟩
 ·have:=h j (List.mem_range.mpr hj)
  simp at this
  exact this
 ·have:=h j (List.mem_range.mp hj)
  simp
  exact this
def gp (c:Cs):DSX:=fun ds P R=>∃(low high:List (List Int)) (n m:Nat),ds=[dT low,dT high]∧bF n m low∧bF n m high∧n≤50∧m≤50∧(Low n m low high→P .non)∧(¬ Low n m low high→R c.NoBounds)
theorem my {c:Cs}:lO (gp c):=by
 intro xs P P' R R' k kr h
 obtain ⟨a,b,n,m,e,h1,h2,h3,h4,h5,h6⟩:=h
 exact⟨a,b,n,m,e,h1,h2,h3,h4,fun z=>k _ (h5 z),fun z=>kr _ (h6 z)⟩
theorem nK {c:Cs}:∀ds P R,gp c ds P R→ds.length=2:=by
 intro ds P R h
 obtain ⟨_,_,_,_,e,_⟩:=h
 rw[e];rfl
theorem oE {c:Cs}{f:Addr}{fd:FuncData} (F:FnAt K mg "check_bounds" b9 dm f fd) (A_:Fns K mg c) (T:Txt K mg) (xs:Exs K mg base c):bc P w K mg base (CXR P w) 2 f fd dm (spX K (gp c)):=by
 obtain ⟨f0,d0,E_places_below⟩:=A_.h_places_below
 have G_places_below:bc P w K mg base CX0 1 f0 d0 bV (spP K bL):=ir E_places_below A_ T xs
 refine F.fn.okX oy (fun vs H Q E h=>zc nK h) (fun cdv A outer s H vs Q E hr h=>?_)
 refine⟨_,(ak (fG (PT.nox (jr (aB (zG (K:=K) rfl rfl) (by rfl) T.any_ boot_any (af (bO (aO.of (sc0:=(aq b9)) (tn:=["row"]) (cap:=["low","high"]) (idx:=[0,1]) (by decide +kernel) rfl rfl) (br rfl T.range_ (af (aB (aQ (K:=K) rfl) (by rfl) T.len_ PySem.boot_len (af (pv 0) aj)) aj)) (fB.name (by decide)) (fun _ _ _ _ _=>aH (i:=0) (aN (l:=["row","low","high"]) (by decide +kernel)) rfl (by first | exact Or.inl rfl | exact Or.inr rfl) (by first | exact .inl rfl | exact .inr rfl)) (fun _ _ _ _ _=>(mO (qx hr.units) (aR G_places_below (hr.mono (by decide)) rfl E_places_below.mg E_places_below.fn.kp E_places_below.bd .nil bz (af (aF (aw (K:=K) rfl) (pv 2) (pv 0) (fun _ _=>rfl)) (af (aF (aw (K:=K) rfl) (pv 1) (pv 0) (fun _ _=>rfl)) aj))) (bM aj) (bK _)))) aj)))) (aA (Bp (xs.o_NoBounds.own xs.m_NoBounds) PySem.F.excBase_ValueError rfl rfl D5 (af lN aj))) cw)
   cw),y7 (Γn:=[]) (N:=iE) (fun R=>(AV (Ho (qe (EM.er (bp GZ (ai (EM.er (bD (cx (ai (EM.er (bp cT (ai (ES.er (aa 0)) au))) au)) (aM 0) (ax vw (EM.er (aX (S:=bL) gv (ai (ES.er (aE (aa 2) (ES.er (aa 0)))) (ai (ES.er (aE (aa 1) (ES.er (aa 0)))) au)))) (EM.er (cn bG))))) au)))) (CS (ai (EM.er lY) au)) (ST.sx cv))
   (ST.sx cv))) (fun ds P R hS=>?_) h⟩
 obtain ⟨low,high,n,m,rfl,hL,hH,n5,m5,hP,hR⟩:=hS
 rw[show aZ iE [dT low,dT high]=[some (dT low),some (dT high)] from rfl]
 have l1:=hL.1
 have l2:=hH.1
 walk_at "go"
 refine ia (lo:=0) (n:=n) (g:=fun (i:Nat)=>.bl (decide (cC (rowAt high i) (rowAt low i)≠[]))) (fun R h=>?_) (by omega) (fun i hi R h=>?_) ?_
 ·walk_at "go"
  rw[l1]
  exact h
 ·walk_at "gb"
  rw[Int.zero_add]
  have r1:=hL.row hi
  have r2:=hH.row hi
  refine dZ (by omega) (dZ (by omega) ?_)
  rw[Int.toNat_natCast]
  refine⟨_,_,rfl,by omega,by omega,?_⟩
  walk_at "gb"
  refine kN (xs:=(cC (rowAt high i) (rowAt low i)).map fun (p:Nat)=>(p:Int)) (ys:=[]) ?_
  have e:decide ((cC (rowAt high i) (rowAt low i)).map (fun (p:Nat)=>(p:Int))=[])=decide (cC (rowAt high i) (rowAt low i)=[]):=by
   rw[Bool.eq_iff_iff,decide_eq_true_eq,decide_eq_true_eq,List.map_eq_nil_iff]
  rw[decide_not] at h
  rw[e]
  exact h
 rw[show (List.range n).map (fun (i:Nat)=>L3.D.bl (decide (cC (rowAt high i) (rowAt low i)≠[])))=((List.range n).map fun (i:Nat)=>decide (cC (rowAt high i) (rowAt low i)≠[])).map L3.D.bl by rw[List.map_map];rfl]
 walk_at "go"
 have key:(((List.range n).map fun (i:Nat)=>decide (cC (rowAt high i) (rowAt low i)≠[])).any id=true)↔¬ Low n m low high:=by
  rw[List.any_eq_true]
  refine⟨fun ⟨b,hb,e⟩ hlow=>?_,fun h=>?_⟩
  ·obtain ⟨i,hi,rfl⟩:=List.mem_map.mp hb
   have hi:=List.mem_range.mp hi
   have e:cC (rowAt high i) (rowAt low i)≠[]:=by simpa using e
   exact e (sW.mpr fun j hj=>hlow i j hi (by rw[hH.row hi] at hj;exact hj))
  ·refine Classical.byContradiction fun hn=>h fun i j hi hj=>?_
   have:cC (rowAt high i) (rowAt low i)=[]:=Classical.byContradiction fun z=>hn ⟨true,List.mem_map.mpr ⟨i,List.mem_range.mpr hi,decide_eq_true z⟩,rfl⟩
   exact sW.mp this j (by rw[hH.row hi];exact hj)
 by_cases hlow:Low n m low high
 ·have e:((List.range n).map fun (i:Nat)=>decide (cC (rowAt high i) (rowAt low i)≠[])).any id=false:=by
   cases q:((List.range n).map fun (i:Nat)=>decide (cC (rowAt high i) (rowAt low i)≠[])).any id with
   | false=>rfl
   | true=>exact absurd hlow (key.mp q)
  rw[e]
  walk_at "go"
  exact hP hlow
 ·rw[key.mpr hlow]
  walk_at "go"
  exact hR hlow
abbrev dN (rs:List Nat):D:=dI (rs.map fun (r:Nat)=>(r:Int))
abbrev nT (ws:List (List Nat)):List (List Int):=ws.map fun l=>l.map fun (x:Nat)=>(x:Int)
def upL (n:Nat) (a b:List (List Int)):List (List Nat):=(List.range n).map fun p=>cC (rowAt a p) (rowAt b p)
def gO:DSp:=fun ds P=>∃(a b:List (List Int)) (n m:Nat),ds=[dT a,dT b]∧bF n m a∧bF n m b∧n≤50∧m≤50∧P (dT (nT (upL n a b)))
theorem mG:cE gO:=by
 intro xs P P' k h
 unfold gO at h ⊢
 grind
theorem vJ:∀ds P,gO ds P→ds.length=2:=by
 intro ds P h
 obtain ⟨_,_,_,_,e,_⟩:=h
 rw[e];rfl
theorem xA {c:Cs}{f:Addr}{fd:FuncData} (F:FnAt K mg "ways_up" fD gM f fd) (A_:Fns K mg c) (T:Txt K mg) (xs:Exs K mg base c):bc P w K mg base CX0 2 f fd gM (spP K gO):=by
 obtain ⟨f0,d0,E_places_below⟩:=A_.h_places_below
 have G_places_below:bc P w K mg base CX0 1 f0 d0 bV (spP K bL):=ir E_places_below A_ T xs
 refine F.fn.ok wW (fun vs H Q E h=>bB vJ h) (fun cdv A outer s H vs Q E hr h=>?_)
 refine⟨_,(aA (bg (bO (aO.of (sc0:=(aq fD)) (tn:=["place"]) (cap:=["lesser","greater"]) (idx:=[0,1]) (by decide +kernel) rfl rfl) (br rfl T.range_ (af (aB (aQ (K:=K) rfl) (by rfl) T.len_ PySem.boot_len (af (pv 0) aj)) aj)) (fB.name (by decide)) (fun _ _ _ _ _=>aH (i:=0) (aN (l:=["place","lesser","greater"]) (by decide +kernel)) rfl (by first | exact Or.inl rfl | exact Or.inr rfl) (by first | exact .inl rfl | exact .inr rfl)) (fun _ _ _ _ _=>(aR G_places_below (hr.mono (by decide)) rfl E_places_below.mg E_places_below.fn.kp E_places_below.bd .nil bz (af (aF (aw (K:=K) rfl) (pv 1) (pv 0) (fun _ _=>rfl)) (af (aF (aw (K:=K) rfl) (pv 2) (pv 0) (fun _ _=>rfl)) aj))))))),cq (Γn:=[]) (N:=nO) (bf (M:=[]) (bD (cx (ai (EM.er (bp cT (ai (ES.er (aa 0)) au))) au)) (aM 0) (aX (S:=bL) gv (ai (ES.er (aE (aa 1) (ES.er (aa 0)))) (ai (ES.er (aE (aa 2) (ES.er (aa 0)))) au))))) (fun ds P hS=>?_) h⟩
 obtain ⟨a,b,n,m,rfl,hA,hB,n5,m5,hP⟩:=hS
 rw[show aZ nO [dT a,dT b]=[some (dT a),some (dT b)] from rfl]
 have l1:=hA.1
 have l2:=hB.1
 walk_at "go"
 refine ia (lo:=0) (n:=n) (g:=fun (i:Nat)=>dN (cC (rowAt a i) (rowAt b i))) (fun R h=>?_) (by omega) (fun i hi R h=>?_) ?_
 ·walk_at "go"
  rw[l1]
  exact h
 ·walk_at "gb"
  rw[Int.zero_add]
  have r1:=hA.row hi
  have r2:=hB.row hi
  refine dZ (by omega) (dZ (by omega) ?_)
  rw[Int.toNat_natCast]
  exact⟨_,_,rfl,by omega,by omega,h⟩
 unfold nT upL at hP
 rw[List.map_map,show (dT ((List.range n).map ((fun l=>l.map fun (x:Nat)=>(x:Int)) ∘ fun p=>cC (rowAt a p) (rowAt b p))))=L3.D.lst ((List.range n).map fun (i:Nat)=>dN (cC (rowAt a i) (rowAt b i))) by show L3.D.lst (List.map dI _)=_;rw[List.map_map];rfl] at hP
 exact hP
def dC:DSp:=fun ds P=>∃(cs:List Nat) (r:List Int),ds=[dN cs,dI r]∧cs.length≤100∧(∀c∈cs,c<r.length)∧(∀c∈cs,0<r.getD c 0→P (.int (c:Int)))∧((∀c∈cs,¬ 0<r.getD c 0)→P .non)
theorem kF:cE dC:=by
 intro xs P P' k h
 obtain ⟨a,b,e,h1,h2,h3,h4⟩:=h
 exact⟨a,b,e,h1,h2,fun c z y=>k _ (h3 c z y),fun z=>k _ (h4 z)⟩
theorem kY:∀ds P,dC ds P→ds.length=2:=by
 intro ds P h
 obtain ⟨_,_,e,_⟩:=h
 rw[e];rfl
theorem lX {c:Cs}{f:Addr}{fd:FuncData} (F:FnAt K mg "first_with_room" bw bW f fd) (A_:Fns K mg c) (T:Txt K mg) (xs:Exs K mg base c):bc P w K mg base CX0 1 f fd bW (spP K dC):=by
 refine F.fn.ok iV (fun vs H Q E h=>bB kY h) (fun cdv A outer s H vs Q E hr h=>?_)
 refine⟨_,(ak (yY rfl (aO.of (sc0:=(aq bw)) (tn:=["column"]) (cap:=["rooms"]) (idx:=[1]) (by decide +kernel) rfl rfl) iV.nd rfl (by first | exact Or.inl rfl | exact Or.inr rfl) (cI (K:=K) rfl (pv 0)) (fB.name (by decide)) (fun _ _ _ _ _=>aH (i:=0) (aN (l:=["column","rooms"]) (by decide +kernel)) rfl (by first | exact Or.inl rfl | exact Or.inr rfl) (by first | exact .inl rfl | exact .inr rfl)) (fun _ _ _ _ _=>yr (bt we (aF (aw (K:=K) rfl) (pv 1) (pv 0) (fun _ _=>rfl)) ar (bK _))) (fun _ _ _ _ _=>(pv 0)))
   (aA (bg (u9 (bt (qx hr.units) (pv 2) (bM aj) (bK _)) (aF (aw (K:=K) rfl) (pv 2) ar (fun _ _=>rfl)) lZ)))),cq (Γn:=[]) (N:=gE) (az (ST.post (Γn:=[]) (aU 2 (EM.es (tI (dH (aa 0)) (aM 0) (bo (EM.er (ax mm (ES.er (aE (aa 1) (ES.er (aa 0)))) (EM.er av)))) (ER.aY (ES.er (aa 0)))))))
   (bf (M:=[]) (EB (bo (EM.er (ax vw (ES.er (aa 2)) (EM.er (cn bG))))) (ER.aY (ES.er (aE (aa 2) (EM.er av)))) lJ))) (fun ds P hS=>?_) h⟩
 obtain ⟨cs,r,rfl,hl,hr,hP,hN⟩:=hS
 rw[show aZ gE [dN cs,dI r]=[some (dN cs),some (dI r),none] from rfl]
 walk_at "go"
 refine pA (as:=cs) (f:=fun (c:Nat)=>.int (c:Int)) (p:=fun c=>decide (0<r.getD c 0)) (g:=fun (c:Nat)=>.int (c:Int)) (fun R h=>?_) (by omega) (fun i hi R h=>?_) ?_
 ·walk_at "go"
  rw[List.map_map] at *
  exact h
 ·walk_at "gb"
  have:=hr i hi
  refine aL (by omega) ?_
  rw[Int.toNat_natCast]
  walk_at "gb"
  by_cases z:0<r.getD i 0
  ·rw[if_pos z]
   rw[decide_eq_true z] at h
   exact h
  ·rw[if_neg z]
   rw[decide_eq_false z] at h
   exact h
 cases e:cs.filter (fun c=>decide (0<r.getD c 0)) with
 | nil =>
  walk_at "go"
  refine kN (xs:=[]) (ys:=[]) ?_
  walk_at "go"
  refine hN fun c hc z=>?_
  rw[List.filter_eq_nil_iff] at e
  exact e c hc (by simpa using z)
 | cons q l =>
  have hq:q∈cs.filter (fun c=>decide (0<r.getD c 0)):=by rw[e];exact List.mem_cons_self
  obtain ⟨h1,h2⟩:=List.mem_filter.mp hq
  rw[show L3.D.lst ((q::l).map fun (c:Nat)=>L3.D.int (c:Int))=dI ((q::l).map fun (c:Nat)=>(c:Int)) by show _=L3.D.lst (List.map L3.D.int _);rw[List.map_map];rfl]
  walk_at "go"
  refine kN (ys:=[]) ?_
  rw[decide_eq_false (by simp)]
  walk_at "go"
  refine aL (by simp only[List.map_cons,List.length_cons];omega) ⟨rfl,?_⟩
  exact hP q h1 (of_decide_eq_true h2)
abbrev i5 (p:Nat × Nat):D:=.tup [.int (p.1:Int),.int (p.2:Int)]
abbrev u5 (c:Cs) (low high t:List (List Int)) (w r:List Int):D:=.ins c.Filling ["low","high","table","wants","rooms"] [dT low,dT high,dT t,dI w,dI r]
abbrev rD (c:Cs) (al ah:Addr) (t:List (List Int)) (w r:List Int):D:=.ins c.Filling ["low","high","table","wants","rooms"] [.raw (.ref al),.raw (.ref ah),dT t,dI w,dI r]
theorem jL {ps:List (Nat × Nat)}{k:Nat}{p:Nat × Nat}{P:DK} (e:ps[k]?=some p) (h:P (i5 p)):asO (atI (ps.map i5) (k:Int)) P:=by
 have hl:=(List.getElem?_eq_some_iff.mp e).1
 refine (qm ?_).mpr h
 unfold atI
 rw[eR (by omega) (by rw[List.length_map];omega),Int.toNat_natCast]
 show (ps.map i5)[k]?=_
 rw[List.getElem?_map,e];rfl
def fO (c:Cs):DSp:=fun ds P=>∃(low high t:List (List Int)) (w r:List Int) (n m k:Nat) (cs:List (Nat × Nat)) (p:Nat × Nat),ds=[u5 c low high t w r,.lst (cs.map i5),.int (k:Int)]∧bF n m low∧bF n m high∧bF n m t∧cs[k]?=some p∧p.1<n∧p.2<m∧P (.int (if k % 2=0 then cellAt high p.1 p.2 - cellAt t p.1 p.2 else cellAt t p.1 p.2 - cellAt low p.1 p.2))
theorem lW {c:Cs}:cE (fO c):=by
 intro xs P P' k h
 obtain ⟨a1,a2,a3,a4,a5,a6,a7,a8,a9,a10,e,h1,h2,h3,h4,h5,h6,h⟩:=h
 exact⟨a1,a2,a3,a4,a5,a6,a7,a8,a9,a10,e,h1,h2,h3,h4,h5,h6,k _ h⟩
theorem mK {c:Cs}:∀ds P,fO c ds P→ds.length=3:=by
 intro ds P h
 obtain ⟨_,_,_,_,_,_,_,_,_,_,e,_⟩:=h
 rw[e];rfl
theorem nS {c:Cs}{f:Addr}{fd:FuncData} (F:oG K c.Filling "slack" "Filling.slack" cg cR f fd) (A_:Fns K mg c) (T:Txt K mg) (xs:Exs K mg base c):bc P w K mg base CX0 1 f fd cR (spP K (fO c)):=by
 refine F.fn.ok gW (fun vs H Q E h=>bB mK h) (fun cdv A outer s H vs Q E hr h=>?_)
 refine⟨_,(ak (aP (i:=3) gW.nd rfl (by first | exact Or.inl rfl | exact Or.inr rfl) (aF (eS (K:=K) rfl) (aF (aw (K:=K) rfl) (pv 1) (pv 2) (fun _ _=>rfl)) ar (fun _ _=>rfl)))
   (ak (aP (i:=4) gW.nd rfl (by first | exact Or.inl rfl | exact Or.inr rfl) (aF (eS (K:=K) rfl) (aF (aw (K:=K) rfl) (pv 1) (pv 2) (fun _ _=>rfl)) ar (fun _ _=>rfl)))
   (ak (fG (bt qh (aD cz (pv 2) ar) ar (bK _)) (aA (bg (aD gS (aF (aw (K:=K) rfl) (aF (aw (K:=K) rfl) (bq (K:=K) rfl (pv 0) rfl) (pv 3) (fun _ _=>rfl)) (pv 4) (fun _ _=>rfl)) (aF (aw (K:=K) rfl) (aF (aw (K:=K) rfl) (bq (K:=K) rfl (pv 0) rfl) (pv 3) (fun _ _=>rfl)) (pv 4) (fun _ _=>rfl))))) cw)
   (aA (bg (aD gS (aF (aw (K:=K) rfl) (aF (aw (K:=K) rfl) (bq (K:=K) rfl (pv 0) rfl) (pv 3) (fun _ _=>rfl)) (pv 4) (fun _ _=>rfl)) (aF (aw (K:=K) rfl) (aF (aw (K:=K) rfl) (bq (K:=K) rfl (pv 0) rfl) (pv 3) (fun _ _=>rfl)) (pv 4) (fun _ _=>rfl)))))))),cq (Γn:=[]) (N:=ip) (az (ST.post (Γn:=[]) (aU 3 (gT (aE (aa 1) (ES.er (aa 2))) (EM.er av))))
   (az (ST.post (Γn:=[]) (aU 4 (gT (aE (aa 1) (ES.er (aa 2))) (EM.er av))))
   (az (fL (bo (EM.er (ax xt (EM.er (ax aG (ES.er (aa 2)) (EM.er av))) (EM.er av)))) (bf (M:=[]) (ax bR (ES.er (aE (aE (cN ["low","high","table","wants","rooms"] 1 xs.i_Filling.cl xs.n_Filling_high (aa 0)) (ES.er (aa 3))) (ES.er (aa 4)))) (ES.er (aE (aE (cN ["low","high","table","wants","rooms"] 2 xs.i_Filling.cl xs.n_Filling_table (aa 0)) (ES.er (aa 3))) (ES.er (aa 4)))))) cv)
   (bf (M:=[]) (ax bR (ES.er (aE (aE (cN ["low","high","table","wants","rooms"] 2 xs.i_Filling.cl xs.n_Filling_table (aa 0)) (ES.er (aa 3))) (ES.er (aa 4)))) (ES.er (aE (aE (cN ["low","high","table","wants","rooms"] 0 xs.i_Filling.cl xs.n_Filling_low (aa 0)) (ES.er (aa 3))) (ES.er (aa 4))))))))) (fun ds P hS=>?_) h⟩
 obtain ⟨low,high,t,w,r,n,m,k,cs,p,rfl,hL,hH,hT,e,p1,p2,hP⟩:=hS
 rw[show aZ ip [u5 c low high t w r,.lst (cs.map i5),.int (k:Int)]=[some (u5 c low high t w r),some (.lst (cs.map i5)),some (.int (k:Int)),none,none] from rfl]
 walk_at "go"
 refine jL e ?_
 walk_at "go"
 refine jL e ?_
 walk_at "go"
 by_cases z:k % 2=0
 ·rw[if_pos (by omega)]
  rw[if_pos z] at hP
  refine mn hH (by omega) (by omega) ?_
  rw[Int.toNat_natCast,Int.toNat_natCast]
  refine mn hT (by omega) (by omega) ?_
  rw[Int.toNat_natCast,Int.toNat_natCast]
  exact hP
 ·rw[if_neg (by omega)]
  rw[if_neg z] at hP
  refine mn hT (by omega) (by omega) ?_
  rw[Int.toNat_natCast,Int.toNat_natCast]
  refine mn hL (by omega) (by omega) ?_
  rw[Int.toNat_natCast,Int.toNat_natCast]
  exact hP
open L3.Fl in
def mY:DSI:=fun ds P=>∃(ls:List Nat) (ws:List (List Nat)) (as:List (Nat × Option Nat)) (B:Nat),ds=[dN ls,dT (nT ws),.dic (kA as)]∧B≤50∧(∀l∈ls,l<ws.length)∧(∀v∈ws,v.length≤50∧∀p∈v,p<B)∧(kys as).Nodup∧(∀p∈kys as,p<B) ∧
 ∀new:List (Nat × Nat),(kys as++new.map Prod.fst).Nodup→(∀p∈new,p.2∈ls∧p.1∈ws.getD p.2 [])→(∀s∈ls,∀p∈ws.getD s [],p∈kys as++new.map Prod.fst)→P (dN (new.map Prod.fst)) (.dic (kA (as++nw new)))
theorem ot:Bv mY:=by
 intro xs P P' k h
 obtain ⟨a1,a2,a3,a4,e,h1,h2,h3,h4,h5,h⟩:=h
 exact⟨a1,a2,a3,a4,e,h1,h2,h3,h4,h5,fun new z1 z2 z3=>k _ _ (h new z1 z2 z3)⟩
theorem qr:∀ds P,mY ds P→ds.length=3:=by
 intro ds P h
 obtain ⟨_,_,_,_,e,_⟩:=h
 rw[e];rfl
theorem z7 {c:Cs}{f:Addr}{fd:FuncData} (F:FnAt K mg "spread" hZ iR f fd) (A_:Fns K mg c) (T:Txt K mg) (xs:Exs K mg base c):bc P w K mg base CX0 1 f fd iR (spI K 2 mY):=by
 refine F.fn.ok kQ (fun vs H Q E h=>DN qr h) (fun cdv A outer s H vs Q E hr h=>?_)
 refine⟨_,(ak (aP (i:=3) kQ.nd rfl (by first | exact Or.inl rfl | exact Or.inr rfl) (bM aj))
   (ak (eK PassesOwn.never rfl (cI (K:=K) rfl (pv 0)) (aH (i:=4) kQ.nd rfl (by first | exact Or.inl rfl | exact Or.inr rfl)) (aA (eK PassesOwn.never rfl (cI (K:=K) rfl (aF (aw (K:=K) rfl) (pv 1) (pv 4) (fun _ _=>rfl))) (aH (i:=5) kQ.nd rfl (by first | exact Or.inl rfl | exact Or.inr rfl)) (aA (fG (FY (zZ (vB hr) (pv 5) (pv 2)) (by with_unfolding_all rfl)) (ak (yc (vB hr) (pv 2) (pv 5) (pv 4) rfl)
   (aA (eA (jx PySem.F.plainAttrs_list PySem.F.slot_list_append PySem.F.type_list_append dy (pv 3) (af (pv 5) aj))))) cw)))))
   (aA (bg (pv 3))))),DP (Γn:=[3,2]) (N:=pO) (p:=2) (az (ST.post (Γn:=[3,2]) (dJ (M:=[]) 3 (cn bG)))
   (az (eQ (dH (aa 0)) (aM 4) (eQ (dH (aE (aa 1) (ES.er (aa 4)))) (aM 5) (fL (qe (EM.er (zr (ES.er (aa 5)) (mU 2)))) (az (FD 2 (B3 2 (ES.er (aa 5)) (ES.er (aa 4))))
   (ST.post (Γn:=[3,2]) (eO (M:=[]) 3 (ER.aY (ES.er (aa 5)))))) cv)))
   (bf (M:=[3]) (fI 3)))) (fun ds P a x hS hx=>?_) (by decide) (fun ds P h=>by have:=qr ds P h;omega) h⟩
 obtain ⟨ls,ws,as,B,rfl,hB,hl,hw,na,ba,hP⟩:=hS
 cases hx
 simp only[List.set_cons_zero,List.set_cons_succ]
 rw[show aZ pO [dN ls,dT (nT ws),.pin a (.dic (L3.Fl.kA as))]=[some (dN ls),some (dT (nT ws)),some (.pin a (.dic (L3.Fl.kA as))),none,none,none] from rfl]
 walk_at "go"
 have lw:(nT ws).length=ws.length:=by unfold nT;rw[List.length_map]
 have le:∀new:List (Nat × Nat),(kys as++new.map Prod.fst).Nodup→(∀p∈new,p.2∈ls∧p.1∈ws.getD p.2 [])→(kA (as++nw new)).length≤50∧new.length≤50:=fun new h1 h2=>by
  have:=iX (B:=B) h1 fun q hq=>by
   rcases List.mem_append.mp hq with z | z
   ·exact ba q z
   ·obtain ⟨p,hp,rfl⟩:=List.mem_map.mp z
    obtain ⟨k1,k2⟩:=h2 p hp
    have hl2:=hl _ k1
    refine (hw (ws.getD p.2 []) ?_).2 _ k2
    rw[List.getD_eq_getElem?_getD,List.getElem?_eq_getElem hl2]
    exact List.getElem_mem hl2
  rw[List.length_append,List.length_map,List.length_map] at this
  refine⟨?_,by omega⟩
  unfold kA nw
  rw[List.length_map,List.length_append,List.length_map];omega
 rw[show List.map L3.D.int (List.map (fun (r:Nat)=>(r:Int)) ls)=ls.map (fun (r:Nat)=>L3.D.int (r:Int)) by rw[List.map_map];rfl]
 refine jD (as:=ls) (f:=fun (r:Nat)=>L3.D.int (r:Int)) (fun i δ=>∃(new:List (Nat × Nat)) (o4 o5:Option D),δ=[some (dN ls),some (dT (nT ws)),some (L3.D.pin a (L3.D.dic (kA (as++nw new)))),some (dN (new.map Prod.fst)),o4,o5]∧(kys as++new.map Prod.fst).Nodup∧(∀p∈new,p.2∈ls∧p.1∈ws.getD p.2 [])∧∀s∈ls.take i,∀p∈ws.getD s [],p∈kys as++new.map Prod.fst) ⟨[],none,none,by simp [nw],by simpa using na,fun p h=>(nomatch h),fun s h=>by simp at h⟩ ?_ ?_
 ·rintro i s δ N e ⟨new,o4,o5,rfl,nd,hn,hc⟩ hN
  have hs:s∈ls:=List.mem_of_getElem? e
  have hsl:=hl s hs
  have ew:rowAt (nT ws) s=(ws.getD s []).map fun (x:Nat)=>(x:Int):=by
   unfold rowAt nT
   rw[List.getD_eq_getElem?_getD,List.getElem?_map,List.getElem?_eq_getElem hsl,List.getD_eq_getElem?_getD,List.getElem?_eq_getElem hsl];rfl
  obtain ⟨v,hv⟩:∃v,ws.getD s []=v:=⟨_,rfl⟩
  have vin:v∈ws:=by rw[← hv,List.getD_eq_getElem?_getD,List.getElem?_eq_getElem hsl];exact List.getElem_mem hsl
  walk_at "go"
  refine dZ (by omega) ?_
  rw[Int.toNat_natCast,ew,hv]
  walk_at "go"
  rw[show List.map L3.D.int (List.map (fun (r:Nat)=>(r:Int)) v)=v.map (fun (r:Nat)=>L3.D.int (r:Int)) by rw[List.map_map];rfl]
  refine jD (as:=v) (f:=fun (r:Nat)=>L3.D.int (r:Int)) (fun k δ=>∃(new:List (Nat × Nat)) (o5:Option D),δ=[some (dN ls),some (dT (nT ws)),some (L3.D.pin a (L3.D.dic (kA (as++nw new)))),some (dN (new.map Prod.fst)),some (.int (s:Int)),o5]∧(kys as++new.map Prod.fst).Nodup∧(∀p∈new,p.2∈ls∧p.1∈ws.getD p.2 [])∧(∀s∈ls.take i,∀p∈ws.getD s [],p∈kys as++new.map Prod.fst)∧∀p∈v.take k,p∈kys as++new.map Prod.fst) ⟨new,o5,rfl,nd,hn,hc,fun p h=>by simp at h⟩ ?_ ?_
  ·rintro k p δ N' e' ⟨new,o5,rfl,nd,hn,hc,hk⟩ hN'
   have hp:p∈v:=List.mem_of_getElem? e'
   obtain ⟨l1,l2⟩:=le new nd hn
   have tk:∀q,q∈v.take (k+1)→q∈v.take k∨q=p:=fun q hq=>by
    rw[List.take_succ,e'] at hq
    rcases List.mem_append.mp hq with z | z
    ·exact .inl z
    ·exact .inr (by simpa using z)
   have ky:kys (as++nw new)=kys as++new.map Prod.fst:=by rw[du,fR]
   walk_at "go"
   rw[HM,ky]
   by_cases hi:p∈kys as++new.map Prod.fst
   ·rw[decide_eq_true hi]
    walk_at "go"
    refine hN' _ ⟨new,_,rfl,nd,hn,hc,fun q hq=>?_⟩
    rcases tk q hq with z | z
    ·exact hk q z
    ·rw[z];exact hi
   ·rw[decide_eq_false hi]
    walk_at "go"
    have ep:putK (kA (as++nw new)) (.inl (p:Int)) (.int (s:Int))=kA (as++nw (new++[(p,s)])):=by
     have:=AF (as:=as++nw new) (c:=p) (o:=some s) (by rw[ky];exact hi)
     rw[show oV (some s)=V.int (s:Int) from rfl] at this
     rw[this]
     unfold nw
     rw[List.map_append,← List.append_assoc];rfl
    rw[ep,kM]
    have ef:(new.map Prod.fst).map (fun (r:Nat)=>(r:Int))++[(p:Int)]=((new++[(p,s)]).map Prod.fst).map fun (r:Nat)=>(r:Int):=by
     rw[List.map_append,List.map_append];rfl
    rw[ef]
    refine hN' _ ⟨new++[(p,s)],_,rfl,?_,fun q hq=>?_,fun s' hs' q hq=>?_,fun q hq=>?_⟩
    ·rw[List.map_append,← List.append_assoc]
     refine List.nodup_append.mpr ⟨nd,by simp,fun x hx y hy z=>?_⟩
     have:y=p:=by simpa using hy
     rw[z,this] at hx;exact hi hx
    ·rcases List.mem_append.mp hq with z | z
     ·exact hn q z
     ·cases List.mem_singleton.mp z
      exact⟨hs,by rw[hv];exact hp⟩
    ·rw[List.map_append,← List.append_assoc]
     exact List.mem_append_left _ (hc s' hs' q hq)
    ·rw[List.map_append,← List.append_assoc]
     rcases tk q hq with z | z
     ·exact List.mem_append_left _ (hk q z)
     ·rw[z];exact List.mem_append_right _ (by simp)
  ·rintro δ ⟨new,o5,rfl,nd,hn,hc,hk⟩
   refine hN _ ⟨new,_,_,rfl,nd,hn,fun s' hs' q hq=>?_⟩
   rw[List.take_succ,e] at hs'
   rcases List.mem_append.mp hs' with z | z
   ·exact hc s' z q hq
   ·have:s'=s:=by simpa using z
    rw[this,hv] at hq
    exact hk q (by rw[List.take_length];exact hq)
 ·rintro δ ⟨new,o4,o5,rfl,nd,hn,hc⟩
  walk_at "go"
  exact hP new nd hn fun s hs p hp=>hc s (by rw[List.take_length];exact hs) p hp
abbrev ve (c:Cs) (as bs:List (Nat × Option Nat)) (goal:Option Nat):D:=.ins c.Reach ["rows","columns","goal"] [.dic (kA as),.dic (kA bs),oD goal]
theorem wI {as:List (Nat × Option Nat)}{i:Nat} (h:i∈kys as):∃o,(i,o)∈as:=by
 obtain ⟨p,hp,rfl⟩:=List.mem_map.mp h
 exact⟨p.2,hp⟩
theorem vH {c:Nat}:∀{ps:List (Nat × Nat)},(jH ps c).length=2*ps.length
 | []=>rfl
 | [p]=>rfl
 | p::q::r=>by
  show (jH (q::r) c).length+1+1=_
  rw[vH];simp only[List.length_cons];omega
def i6 (c:Cs):DSp:=fun ds P=>∃(low high t:List (List Int)) (w:List Int) (as bs:List (Nat × Option Nat)) (rk ck:Nat→Nat) (n m B g:Nat),ds=[ve c as bs (some g)]∧Rc n m low high t w as bs rk ck B∧g∈kys bs∧n≤50∧∀ps,Wy n m low high t w g ps→P (.lst ((cellsOf ps).map i5))
theorem qF {c:Cs}:cE (i6 c):=by
 intro xs P P' k h
 obtain ⟨a1,a2,a3,a4,a5,a6,a7,a8,a9,a10,a11,a12,e,h1,h2,h3,h⟩:=h
 exact⟨a1,a2,a3,a4,a5,a6,a7,a8,a9,a10,a11,a12,e,h1,h2,h3,fun ps z=>k _ (h ps z)⟩
theorem rf {c:Cs}:∀ds P,i6 c ds P→ds.length=1:=by
 intro ds P h
 obtain ⟨_,_,_,_,_,_,_,_,_,_,_,_,e,_⟩:=h
 rw[e];rfl
theorem uQ {c:Cs}{f:Addr}{fd:FuncData} (F:oG K c.Reach "way" "Reach.way" el fg f fd) (A_:Fns K mg c) (T:Txt K mg) (xs:Exs K mg base c):bc P w K mg base CX0 1 f fd fg (spP K (i6 c)):=by
 refine F.fn.ok gz (fun vs H Q E h=>bB rf h) (fun cdv A outer s H vs Q E hr h=>?_)
 refine⟨_,(ak (aP (i:=1) gz.nd rfl (by first | exact Or.inl rfl | exact Or.inr rfl) (bM aj))
   (ak (aP (i:=2) gz.nd rfl (by first | exact Or.inl rfl | exact Or.inr rfl) (bq (K:=K) rfl (pv 0) rfl))
   (ak (qy PassesOwn.never (bt zo (pv 2) lZ (bK _)) (ak (aP (i:=3) gz.nd rfl (by first | exact Or.inl rfl | exact Or.inr rfl) (yT (vB hr) (bq (K:=K) rfl (pv 0) rfl) (pv 2) (fun _ _=>rfl)))
   (ak (eA (jx PySem.F.plainAttrs_list PySem.F.slot_list_append PySem.F.type_list_append dy (pv 1) (af (nM (af (pv 3) (af (pv 2) aj))) aj)))
   (ak (aP (i:=2) gz.nd rfl (by first | exact Or.inl rfl | exact Or.inr rfl) (yT (vB hr) (bq (K:=K) rfl (pv 0) rfl) (pv 3) (fun _ _=>rfl)))
   (aA (fG (bt zo (pv 2) lZ (bK _)) (aA (eA (jx PySem.F.plainAttrs_list PySem.F.slot_list_append PySem.F.type_list_append dy (pv 1) (af (nM (af (pv 3) (af (pv 2) aj))) aj)))) cw))))))
   (aA (bg (pv 1)))))),cq (Γn:=[1]) (N:=kc) (az (ST.post (Γn:=[1]) (dJ (M:=[]) 1 (cn bG)))
   (az (ST.post (Γn:=[1]) (aU 2 (cN ["rows","columns","goal"] 2 xs.i_Reach.cl xs.n_Reach_goal (aa 0))))
   (az (qG (bo (EM.er (ax Ca (ES.er (aa 2)) (EM.er lJ)))) (az (ST.post (Γn:=[1]) (aU 3 (EM.es (ER.flat (yj (ES.er (cN ["rows","columns","goal"] 1 xs.i_Reach.cl xs.n_Reach_columns (aa 0))) (ES.er (aa 2)))))))
   (az (ST.post (Γn:=[1]) (eO (M:=[]) 1 (nC (aT (ER.flat (ES.er (aa 3))) (aT (ER.flat (ES.er (aa 2))) bG)))))
   (az (ST.post (Γn:=[1]) (aU 2 (EM.es (ER.flat (yj (ES.er (cN ["rows","columns","goal"] 0 xs.i_Reach.cl xs.n_Reach_rows (aa 0))) (ES.er (aa 3)))))))
   (fL (bo (EM.er (ax Ca (ES.er (aa 2)) (EM.er lJ)))) (ST.post (Γn:=[1]) (eO (M:=[]) 1 (nC (aT (ER.flat (ES.er (aa 3))) (aT (ER.flat (ES.er (aa 2))) bG))))) cv)))))
   (bf (M:=[1]) (fI 1))))) (fun ds P hS=>?_) h⟩
 obtain ⟨low,high,t,w,as,bs,rk,ck,n,m,B,g,rfl,hR,hg,n5,hP⟩:=hS
 rw[show aZ kc [ve c as bs (some g)]=[some (ve c as bs (some g)),none,none,none] from rfl]
 walk_at "go"
 refine⟨fun μ δ=>(∃(ps:List (Nat × Nat)) (c':Nat) (o3:Option D),μ=ck c' + 1∧δ=[some (ve c as bs (some g)),some (.lst ((jH ps c').map i5)),some (.int (c':Int)),o3]∧Wp n m low high t bs rk ck g ps c')∨(∃(ps:List (Nat × Nat)) (o3:Option D),μ=0∧δ=[some (ve c as bs (some g)),some (.lst ((cellsOf ps).map i5)),some .non,o3]∧Wy n m low high t w g ps),⟨ck g+1,.inl ⟨[],g,none,rfl,rfl,⟨.inl ⟨rfl,rfl⟩,hg,fun p h=>(nomatch h),fun p h=>(nomatch h),List.nodup_nil,List.nodup_nil,fun p h=>(nomatch h),trivial,fun p h=>by simp at h⟩⟩⟩,?_⟩
 rintro μ δ (⟨ps,c',o3,rfl,rfl,hw⟩ | ⟨ps,o3,rfl,rfl,hw⟩)
 ·obtain ⟨o,ho⟩:=wI hw.ci
  obtain ⟨s,e1,_⟩:=hR.pb c' o ho
  subst e1
  obtain ⟨hs,hend,hgo⟩:=Wp.step hR hw ho
  obtain ⟨o2,ho2⟩:=wI hs
  have hl:=vH (c:=c') (ps:=ps)
  have hps:ps.length≤50:=by
   have:=iX (B:=n) hw.n1 fun q hq=>by
    obtain ⟨p,hp,rfl⟩:=List.mem_map.mp hq
    exact (hw.rg p hp).1
   rw[List.length_map] at this;omega
  walk_at "go"
  refine uN (v:=.int (s:Int)) (oW hR.nb ho) ?_
  walk_at "go"
  cases o2 with
  | none =>
   refine uN (v:=.non) (oW hR.na ho2) ?_
   walk_at "go"
   rw[show (jH ps c').map i5++[L3.D.tup [L3.D.int (s:Int),L3.D.int (c':Int)]]=(cellsOf (ps++[(s,c')])).map i5 by rw[qd,List.map_append];rfl]
   exact⟨0,by omega,.inr ⟨ps++[(s,c')],_,rfl,rfl,hend ho2⟩⟩
  | some c2 =>
   obtain ⟨h1,h2⟩:=hgo c2 ho2
   refine uN (v:=.int (c2:Int)) (oW hR.na ho2) ?_
   walk_at "go"
   refine⟨by rw[List.length_append,List.length_map,List.length_singleton];omega,?_⟩
   rw[show (jH ps c').map i5++[L3.D.tup [L3.D.int (s:Int),L3.D.int (c':Int)]]++[L3.D.tup [L3.D.int (s:Int),L3.D.int (c2:Int)]]=(jH (ps++[(s,c')]) c2).map i5 by rw[rW,List.map_append,List.append_assoc];rfl]
   exact⟨ck c2+1,by omega,.inl ⟨ps++[(s,c')],c2,_,rfl,rfl,h1⟩⟩
 ·walk_at "go"
  exact hP ps hw
theorem jw {a b:List Int}{p:Nat}:p∈cC a b↔p<a.length∧a.getD p 0<b.getD p 0:=by
 unfold cC
 rw[List.mem_filter,List.mem_range,decide_eq_true_eq]
theorem sh {a b:List Int}:(cC a b).length≤a.length:=by
 unfold cC
 exact Nat.le_trans (List.length_filter_le _ _) (by rw[List.length_range];exact Nat.le_refl _)
theorem wu {a b:List Int}:(cC a b).Nodup:=List.nodup_range.filter _
theorem Am {n s:Nat}{a b:List (List Int)} (h:s<n):(upL n a b).getD s []=cC (rowAt a s) (rowAt b s):=by
 unfold upL
 rw[List.getD_eq_getElem?_getD,List.getElem?_map,List.getElem?_range h];rfl
theorem qa {m s:Nat}{t:List (List Int)} (h:s<m):rowAt (turned m t) s=n6 t s:=by
 unfold rowAt turned
 rw[List.getD_eq_getElem?_getD,List.getElem?_map,List.getElem?_range h];rfl
theorem yX {t:List (List Int)}{s:Nat}:(n6 t s).length=t.length:=by unfold n6;rw[List.length_map]
theorem zf {t:List (List Int)}{s p:Nat} (h:p<t.length):(n6 t s).getD p 0=cellAt t p s:=by
 unfold n6 cellAt
 rw[List.getD_eq_getElem?_getD,List.getElem?_map,List.getElem?_eq_getElem h,List.getD_eq_getElem?_getD (l:=t),List.getElem?_eq_getElem h];rfl
theorem oh {n m:Nat}{t:List (List Int)} (h:bF n m t):bF m n (turned m t):=⟨by unfold turned;rw[List.length_map,List.length_range],fun r hr=>by
 obtain ⟨j,_,rfl⟩:=List.mem_map.mp hr
 rw[yX];exact h.1⟩
def eC (c:Cs):DSp:=fun ds P=>∃(low high t:List (List Int)) (w r:List Int) (n m:Nat),ds=[u5 c low high t w r]∧bF n m low∧bF n m high∧bF n m t∧w.length=n∧r.length=m∧1≤n∧n≤50∧1≤m∧m≤50 ∧
 ∀(layer:List Nat) (as bs:List (Nat × Option Nat)) (goal:Option Nat) (rk ck:Nat→Nat) (B:Nat),Rc n m low high t w as bs rk ck B→Cl n m low high t r layer as bs goal→(goal=none→layer=[])→P (ve c as bs goal)
theorem ou {c:Cs}:cE (eC c):=by
 intro xs P P' k h
 obtain ⟨a1,a2,a3,a4,a5,a6,a7,e,h1,h2,h3,h4,h5,h6,h7,h8,h9,h⟩:=h
 exact⟨a1,a2,a3,a4,a5,a6,a7,e,h1,h2,h3,h4,h5,h6,h7,h8,h9,fun a b c d e f g z1 z2 z3=>k _ (h a b c d e f g z1 z2 z3)⟩
theorem qH {c:Cs}:∀ds P,eC c ds P→ds.length=1:=by
 intro ds P h
 obtain ⟨_,_,_,_,_,_,_,e,_⟩:=h
 rw[e];rfl
theorem qP {c:Cs}:∀ds P,(eC c) ds P→(eC c) ds fun d=>(∃ns dd,d=.ins c.Reach ns dd)∧P d:=by
 intro ds P h
 unfold eC at h ⊢
 obtain ⟨a1,a2,a3,a4,a5,a6,a7,e,h1,h2,h3,h4,h5,h6,h7,h8,h9,h⟩:=h;exact⟨a1,a2,a3,a4,a5,a6,a7,e,h1,h2,h3,h4,h5,h6,h7,h8,h9,fun a b c d e f g z1 z2 z3=>⟨⟨_,_,rfl⟩,h a b c d e f g z1 z2 z3⟩⟩
theorem qR {c:Cs}{f:Addr}{fd:FuncData} (F:Ag K mg "Reach" c.Reach "Reach.__init__" dF eD f fd) (A_:Fns K mg c) (T:Txt K mg) (xs:Exs K mg base c):bc P w K mg base CX0 3 f fd eD (Co K c.Reach (eC c)):=by
 obtain ⟨f0,d0,E_ways_up⟩:=A_.h_ways_up
 have G_ways_up:bc P w K mg base CX0 2 f0 d0 gM (spP K gO):=xA E_ways_up A_ T xs
 obtain ⟨f1,d1,E_places_below⟩:=A_.h_places_below
 have G_places_below:bc P w K mg base CX0 1 f1 d1 bV (spP K bL):=ir E_places_below A_ T xs
 obtain ⟨f2,d2,E_turned_table⟩:=A_.h_turned_table
 have G_turned_table:bc P w K mg base CX0 2 f2 d2 cG (spP K b7):=jW E_turned_table A_ T xs
 obtain ⟨f3,d3,E_spread⟩:=A_.h_spread
 have G_spread:bc P w K mg base CX0 1 f3 d3 iR (spI K 2 mY):=z7 E_spread A_ T xs
 obtain ⟨f4,d4,E_first_with_room⟩:=A_.h_first_with_room
 have G_first_with_room:bc P w K mg base CX0 1 f4 d4 bW (spP K dC):=lX E_first_with_room A_ T xs
 refine F.fn.ok dM (fun vs H Q E h=>Bb qH h) (fun cdv A outer s H vs Q E hr h=>?_)
 refine⟨_,(ak (ix (K:=K) rfl (pv 0) vV rfl)
   (ak (ix (K:=K) rfl (pv 0) vV rfl)
   (ak (ix (K:=K) rfl (pv 0) lZ rfl)
   (ak (aP (i:=2) dM.nd rfl (by first | exact Or.inl rfl | exact Or.inr rfl) (aR G_ways_up (hr.mono (by decide)) rfl E_ways_up.mg E_ways_up.fn.kp E_ways_up.bd .nil bz (af (bq (K:=K) rfl (pv 1) rfl) (af (bq (K:=K) rfl (pv 1) rfl) aj))))
   (ak (aP (i:=3) dM.nd rfl (by first | exact Or.inl rfl | exact Or.inr rfl) (aR G_ways_up (hr.mono (by decide)) rfl E_ways_up.mg E_ways_up.fn.kp E_ways_up.bd .nil bz (af (aR G_turned_table (hr.mono (by decide)) rfl E_turned_table.mg E_turned_table.fn.kp E_turned_table.bd .nil bz (af (bq (K:=K) rfl (pv 1) rfl) aj)) (af (aR G_turned_table (hr.mono (by decide)) rfl E_turned_table.mg E_turned_table.fn.kp E_turned_table.bd .nil bz (af (bq (K:=K) rfl (pv 1) rfl) aj)) aj))))
   (ak (aP (i:=4) dM.nd rfl (by first | exact Or.inl rfl | exact Or.inr rfl) (aR G_places_below (hr.mono (by decide)) rfl E_places_below.mg E_places_below.fn.kp E_places_below.bd .nil bz (af (aD Gs (bM (af ar aj)) (aB (aQ (K:=K) rfl) (by rfl) T.len_ PySem.boot_len (af (bq (K:=K) rfl (pv 1) rfl) aj))) (af (bq (K:=K) rfl (pv 1) rfl) aj))))
   (ak (eK PassesOwn.never rfl (cI (K:=K) rfl (pv 4)) (aH (i:=5) dM.nd rfl (by first | exact Or.inl rfl | exact Or.inr rfl)) (aA (yc (vB hr) (bq (K:=K) rfl (pv 0) rfl) (pv 5) lZ rfl)))
   (aA (qy PassesOwn.never (PW.pt (pk (bt (qx hr.units) (pv 4) (bM aj) (bK _)) (mq (bt B9 (bq (K:=K) rfl (pv 0) rfl) lZ (bK _))))) (ak (aP (i:=6) dM.nd rfl (by first | exact Or.inl rfl | exact Or.inr rfl) (aR G_spread (hr.mono (by decide)) rfl E_spread.mg E_spread.fn.kp E_spread.bd .nil bz (af (pv 4) (af (pv 2) (af (bq (K:=K) rfl (pv 0) rfl) aj)))))
   (ak (ix (K:=K) rfl (pv 0) (aR G_first_with_room (hr.mono (by decide)) rfl E_first_with_room.mg E_first_with_room.fn.kp E_first_with_room.bd .nil bz (af (pv 6) (af (bq (K:=K) rfl (pv 1) rfl) aj))) rfl)
   (aA (aP (i:=4) dM.nd rfl (by first | exact Or.inl rfl | exact Or.inr rfl) (aR G_spread (hr.mono (by decide)) rfl E_spread.mg E_spread.fn.kp E_spread.bd .nil bz (af (pv 6) (af (pv 3) (af (bq (K:=K) rfl (pv 0) rfl) aj))))))))))))))))),Ep (N:=jQ) (qo xs.i_Reach.cl xs.n_Reach_rows yV (h:=qo xs.i_Reach.cl xs.n_Reach_columns yV (h:=qo xs.i_Reach.cl xs.n_Reach_goal lJ (h:=Bl (az (ST.post (Γn:=[0]) (aU 2 (EM.es (aX (S:=gO) mG (ai (ES.er (cN ["low","high","table","wants","rooms"] 2 xs.i_Filling.cl xs.n_Filling_table (aa 1))) (ai (ES.er (cN ["low","high","table","wants","rooms"] 1 xs.i_Filling.cl xs.n_Filling_high (aa 1))) au))))))
   (az (ST.post (Γn:=[0]) (aU 3 (EM.es (aX (S:=gO) mG (ai (EM.er (aX (S:=b7) gn (ai (ES.er (cN ["low","high","table","wants","rooms"] 0 xs.i_Filling.cl xs.n_Filling_low (aa 1))) au))) (ai (EM.er (aX (S:=b7) gn (ai (ES.er (cN ["low","high","table","wants","rooms"] 2 xs.i_Filling.cl xs.n_Filling_table (aa 1))) au))) au))))))
   (az (ST.post (Γn:=[0]) (aU 4 (EM.es (aX (S:=bL) gv (ai (EM.er (ax HF (EM.er (cn (aT av bG))) (EM.er (bp cT (ai (ES.er (cN ["low","high","table","wants","rooms"] 3 xs.i_Filling.cl xs.n_Filling_wants (aa 1))) au))))) (ai (ES.er (cN ["low","high","table","wants","rooms"] 3 xs.i_Filling.cl xs.n_Filling_wants (aa 1))) au))))))
   (az (eQ (dH (aa 4)) (aM 5) (AK 0 ["rows","columns","goal"] 0 xs.i_Reach.cl xs.n_Reach_rows (ES.er (aa 5)) (EM.er lJ)))
   (qG (qt (bo (EM.er (ax vw (ES.er (aa 4)) (EM.er (cn bG))))) (bo (EM.er (ax Er (FW ["rows","columns","goal"] 2 xs.i_Reach.cl xs.n_Reach_goal (mU 0)) (EM.er lJ))))) (az (wz 6 0 4 2 ["rows","columns","goal"] 1 ot xs.i_Reach.cl xs.n_Reach_columns)
   (az (Dk 0 ["rows","columns","goal"] 2 xs.i_Reach.cl xs.n_Reach_goal (EM.er (aX (S:=dC) kF (ai (ES.er (aa 6)) (ai (ES.er (cN ["low","high","table","wants","rooms"] 4 xs.i_Filling.cl xs.n_Filling_rooms (aa 1))) au)))))
   (wz 4 0 6 3 ["rows","columns","goal"] 0 ot xs.i_Reach.cl xs.n_Reach_rows)))))))))))) (fun ds P hS=>?_) (by decide) h⟩
 obtain ⟨low,high,t,w,r,n,m,rfl,hL,hH,hT,lw,lr,n1,n5,m1,m5,hP⟩:=hS
 rw[show aZ (jQ.drop 1) [u5 c low high t w r]=[some (u5 c low high t w r),none,none,none,none,none] from rfl]
 have upA:∀s,s<n→∀p,p∈(upL n t high).getD s []↔p<m∧cellAt t s p<cellAt high s p:=fun s hs p=>by
  rw[Am hs,jw,show (rowAt t s).length=m from hT.row hs]
 have dnA:∀s,s<m→∀p,p∈(upL m (turned m low) (turned m t)).getD s []↔p<n∧cellAt low p s<cellAt t p s:=fun s hs p=>by
  rw[Am hs,jw,qa hs,qa hs,yX,hL.1]
  refine and_congr_right fun hp=>?_
  rw[zf (by rw[hL.1];exact hp),zf (by rw[hT.1];exact hp)]
 have rtL:bF m n (turned m low):=oh hL
 have rtT:bF m n (turned m t):=oh hT
 have lup:(upL n t high).length=n:=by unfold upL;rw[List.length_map,List.length_range]
 have ldn:(upL m (turned m low) (turned m t)).length=m:=by unfold upL;rw[List.length_map,List.length_range]
 have huw:∀v∈upL n t high,v.length≤50∧∀p∈v,p<m:=fun v hv=>by
  obtain ⟨s,hs,rfl⟩:=List.mem_map.mp hv
  have hs:=List.mem_range.mp hs
  have e:=hT.row hs
  exact⟨Nat.le_trans sh (by rw[e];exact m5),fun p hp=>by have:=(jw.mp hp).1;rw[e] at this;exact this⟩
 have hdw:∀v∈upL m (turned m low) (turned m t),v.length≤50∧∀p∈v,p<n:=fun v hv=>by
  obtain ⟨s,hs,rfl⟩:=List.mem_map.mp hv
  have hs:=List.mem_range.mp hs
  have e:=rtL.row hs
  exact⟨Nat.le_trans sh (by rw[e];exact n5),fun p hp=>by have:=(jw.mp hp).1;rw[e] at this;exact this⟩
 generalize hup:upL n t high=upW at upA lup huw
 generalize hdn:upL m (turned m low) (turned m t)=dnW at dnA ldn hdw
 walk_at "go"
 intro s_
 walk_at "go"
 refine⟨t,high,n,m,rfl,hT,hH,n5,m5,?_⟩
 refine⟨low,n,m,rfl,hL,n1,by omega,by omega,?_⟩
 refine⟨t,n,m,rfl,hT,n1,by omega,by omega,?_⟩
 refine⟨turned m low,turned m t,m,n,rfl,rtL,rtT,m5,n5,?_⟩
 rw[hup,hdn]
 refine⟨by decide,⟨rfl,by omega,by omega⟩,?_⟩
 rw[CT]
 refine⟨List.replicate w.length 0,w,rfl,by rw[List.length_replicate];omega,List.length_replicate,?_⟩
 have ly0:∀p,p∈cC (List.replicate w.length 0) w↔p<n∧0<w.getD p 0:=fun p=>by
  rw[jw,List.length_replicate,lw]
  refine and_congr_right fun hp=>?_
  rw[List.getD_eq_getElem?_getD (l:=List.replicate n 0),List.getElem?_replicate,if_pos (by omega)];rfl
 have nd0:(cC (List.replicate w.length 0) w).Nodup:=wu
 generalize cC (List.replicate w.length 0) w=ly at ly0 nd0
 refine gB rfl ?_
 have hly:ly.length≤50:=Nat.le_trans (iX nd0 fun p hp=>((ly0 p).mp hp).1) n5
 rw[show List.map L3.D.int (List.map (fun (r:Nat)=>(r:Int)) ly)=ly.map (fun (r:Nat)=>L3.D.int (r:Int)) by rw[List.map_map];rfl]
 refine jD (as:=ly) (f:=fun (r:Nat)=>L3.D.int (r:Int)) (fun i δ=>∃o5:Option D,δ=[some (.pin s_ (ve c ((ly.take i).map fun p=>(p,none)) [] none)),some (u5 c low high t w r),some (dT (nT upW)),some (dT (nT dnW)),some (dN ly),o5,none]) ⟨none,rfl⟩ ?_ ?_
 ·rintro i p δ N e ⟨o5,rfl⟩ hN
  have hi:=(List.getElem?_eq_some_iff.mp e).1
  have hk:kys ((ly.take i).map fun p=>(p,(none:Option Nat)))=ly.take i:=by unfold kys;rw[List.map_map];exact List.map_id _
  have hp:p∉ly.take i:=fun z=>by
   have:=nd0
   rw[← List.take_append_drop i ly] at this
   obtain ⟨_,_,h3⟩:=List.nodup_append.mp this
   refine h3 p z p ?_ rfl
   rw[List.drop_eq_getElem_cons hi]
   have:=(List.getElem?_eq_some_iff.mp e).2
   rw[this];exact List.mem_cons_self
  refine⟨s_,_,kA ((ly.take i).map fun p=>(p,none)),rfl,rfl,rfl,?_⟩
  have lk:(kA ((ly.take i).map fun p=>(p,(none:Option Nat)))).length<1000:=by
   unfold kA;rw[List.length_map,List.length_map,List.length_take];omega
  refine⟨lk,?_⟩
  show N _
  have ep:putK (kA ((ly.take i).map fun p=>(p,(none:Option Nat)))) (.inl (p:Int)) (L3.D.toV L3.D.non)=kA ((ly.take (i+1)).map fun p=>(p,none)):=by
   rw[show L3.D.toV L3.D.non=oV none from rfl,AF (by rw[hk];exact hp),List.take_succ,e,List.map_append];rfl
  rw[ep]
  exact hN _ ⟨_,rfl⟩
 ·rintro δ ⟨o5,rfl⟩
  rw[List.take_length]
  have hk:kys (ly.map fun p=>(p,(none:Option Nat)))=ly:=by unfold kys;rw[List.map_map];exact List.map_id _
  have rc0:Rc n m low high t w (ly.map fun p=>(p,none)) [] (fun _=>0) (fun _=>0) 0:=⟨by rw[hk];exact nd0,List.nodup_nil,fun i hi=>⟨((ly0 i).mp (by rw[hk] at hi;exact hi)).1,Nat.le_refl _⟩,fun j hj=>(nomatch hj),fun i o e=>by
   obtain ⟨p,hp,q⟩:=List.mem_map.mp e
   cases q
   exact .inl ⟨rfl,((ly0 _).mp hp).2⟩,fun j o e=>(nomatch e),fun i hi hw=>by rw[hk];exact (ly0 i).mpr ⟨hi,hw⟩⟩
  have cl0:Cl n m low high t r ly (ly.map fun p=>(p,none)) [] none:=⟨fun l hl=>by rw[hk];exact hl,fun i hi hn=>absurd (by rw[hk] at hi;exact hi) hn,fun j hj=>(nomatch hj),fun c hc=>(nomatch hc)⟩
  refine⟨fun μ δ=>∃(layer:List Nat) (as bs:List (Nat × Option Nat)) (goal:Option Nat) (rk ck:Nat→Nat) (B:Nat) (o5 o6:Option D),μ=2*(m - bs.length)+(if layer=[] then 0 else 1)∧δ=[some (.pin s_ (ve c as bs goal)),some (u5 c low high t w r),some (dT (nT upW)),some (dT (nT dnW)),some (dN layer),o5,o6]∧Rc n m low high t w as bs rk ck B∧Cl n m low high t r layer as bs goal,⟨_,ly,_,[],none,_,_,0,_,none,rfl,rfl,rc0,cl0⟩,?_⟩
  rintro μ δ ⟨layer,as,bs,goal,rk,ck,B,o5,o6,rfl,rfl,hR,hC⟩
  walk_at "go"
  refine kN (xs:=layer.map fun (r:Nat)=>(r:Int)) (ys:=[]) ?_
  walk_at "go"
  by_cases hl:layer=[]
  ·rw[if_neg (by rw[hl];simp)]
   exact⟨⟨_,_,rfl⟩,hP layer as bs goal rk ck B hR hC fun _=>hl⟩
  rw[if_pos (by rw[List.map_eq_nil_iff];exact hl)]
  cases goal with
  | some g =>
   walk_at "go"
   exact⟨⟨_,_,rfl⟩,hP layer as bs (some g) rk ck B hR hC fun z=>by cases z⟩
  | none =>
  walk_at "go"
  rw[if_neg hl]
  refine⟨s_,_,kA bs,dN layer,dT (nT upW),rfl,rfl,rfl,rfl,layer,upW,bs,m,rfl,m5,fun l hl=>by rw[lup];exact (hR.la l (hC.ly l hl)).1,huw,hR.nb,fun p hp=>(hR.lb p hp).1,fun new nd hn hc=>⟨_,rfl,?_⟩⟩
  have up2:∀p∈new,p.2∈kys as∧p.1<m∧cellAt t p.2 p.1<cellAt high p.2 p.1:=fun p hp=>by
   obtain ⟨q1,q2⟩:=hn p hp
   have q3:=hC.ly _ q1
   exact⟨q3,(upA p.2 (hR.la _ q3).1 p.1).mp q2⟩
  have hRc2:=hR.up nd up2
  generalize hck:(fun c=>if c∈new.map Prod.fst then B+1 else ck c)=ck2 at hRc2
  have DY:bs.length+new.length≤m:=by
   have:=iX (B:=m) hRc2.nb fun p hp=>(hRc2.lb p hp).1
   rw[List.length_map,List.length_append,List.length_map] at this
   exact this
  have lt:∀new2:List (Nat × Nat),(∀p∈new2,p.2∈new.map Prod.fst)→2*(m - (bs++nw new).length)+(if new2.map Prod.fst=[] then 0 else 1)<2*(m - bs.length)+1:=fun new2 h2=>by
   rw[List.length_append,List.length_map]
   cases new with
   | nil =>
    cases new2 with
    | nil=>simp
    | cons q l=>exact absurd (h2 q List.mem_cons_self) (by simp)
   | cons q l =>
    simp only[List.length_cons] at DY ⊢
    split<;>omega
  have down2:∀new2:List (Nat × Nat),(∀p∈new2,p.2∈new.map Prod.fst∧p.1∈dnW.getD p.2 [])→∀p∈new2,p.2∈kys (bs++nw new)∧p.1<n∧cellAt low p.1 p.2<cellAt t p.1 p.2:=fun new2 h2 p hp=>by
   obtain ⟨q1,q2⟩:=h2 p hp
   have q3:p.2∈kys (bs++nw new):=by rw[du,fR];exact List.mem_append_right _ q1
   exact⟨q3,(dnA p.2 (hRc2.lb _ q3).1 p.1).mp q2⟩
  have cr2:∀new2:List (Nat × Nat),∀i∈kys (as++nw new2),i∉new2.map Prod.fst→∀j,j<m→cellAt t i j<cellAt high i j→j∈kys (bs++nw new):=fun new2 i hi hni j hj hlt=>by
   rw[du,fR] at hi ⊢
   have hia:i∈kys as:=(List.mem_append.mp hi).resolve_right hni
   by_cases hil:i∈layer
   ·exact hc i hil j ((upA i (hR.la i hia).1 j).mpr ⟨hj,hlt⟩)
   ·exact List.mem_append_left _ (hC.cr i hia hil j hj hlt)
  have cc2:∀new2:List (Nat × Nat),(∀s∈new.map Prod.fst,∀p∈dnW.getD s [],p∈kys as++new2.map Prod.fst)→∀j∈kys (bs++nw new),∀i,i<n→cellAt low i j<cellAt t i j→i∈kys (as++nw new2):=fun new2 h2 j hj i hi hlt=>by
   have hjm:=(hRc2.lb j hj).1
   rw[du,fR] at hj ⊢
   rcases List.mem_append.mp hj with z | z
   ·exact List.mem_append_left _ (hC.cc j z i hi hlt)
   ·exact h2 j z i ((dnA j hjm i).mpr ⟨hi,hlt⟩)
  refine⟨s_,_,L3.D.non,rfl,rfl,rfl,?_⟩
  walk_at "go"
  have gl0:∀c∈kys bs,r.getD c 0≤0:=hC.gl
  refine⟨new.map Prod.fst,r,rfl,by rw[List.length_map];omega,fun q hq=>by rw[lr];exact (hRc2.lb q (by rw[du,fR];exact List.mem_append_right _ hq)).1,fun g hg hgr=>?_,fun hno=>?_⟩
  ·refine⟨rfl,?_⟩
   refine⟨s_,_,kA as,dN (new.map Prod.fst),dT (nT dnW),rfl,rfl,rfl,rfl,new.map Prod.fst,dnW,as,n,rfl,n5,fun l hl=>?_,hdw,hRc2.na,fun p hp=>(hRc2.la p hp).1,fun new2 nd2 hn2 hc2=>⟨_,rfl,?_⟩⟩
   ·rw[ldn]
    exact (hRc2.lb l (by rw[du,fR];exact List.mem_append_right _ hl)).1
   exact⟨_,lt new2 (fun p hp=>(hn2 p hp).1),new2.map Prod.fst,as++nw new2,bs++nw new,some g,_,ck2,_,_,_,rfl,rfl,hRc2.down nd2 (down2 new2 hn2),⟨fun l hl=>by rw[du,fR];exact List.mem_append_right _ hl,cr2 new2,cc2 new2 hc2,⟨by rw[du,fR];exact List.mem_append_right _ hg,hgr⟩⟩⟩
  ·refine⟨rfl,?_⟩
   refine⟨s_,_,kA as,dN (new.map Prod.fst),dT (nT dnW),rfl,rfl,rfl,rfl,new.map Prod.fst,dnW,as,n,rfl,n5,fun l hl=>?_,hdw,hRc2.na,fun p hp=>(hRc2.la p hp).1,fun new2 nd2 hn2 hc2=>⟨_,rfl,?_⟩⟩
   ·rw[ldn]
    exact (hRc2.lb l (by rw[du,fR];exact List.mem_append_right _ hl)).1
   exact⟨_,lt new2 (fun p hp=>(hn2 p hp).1),new2.map Prod.fst,as++nw new2,bs++nw new,none,_,ck2,_,_,_,rfl,rfl,hRc2.down nd2 (down2 new2 hn2),⟨fun l hl=>by rw[du,fR];exact List.mem_append_right _ hl,cr2 new2,cc2 new2 hc2,fun q hq=>by
    rw[du,fR] at hq
    rcases List.mem_append.mp hq with z | z
    ·exact gl0 q z
    ·have:=hno q z;omega⟩⟩
theorem wL {p:Nat × Nat}:∀{l:List (Nat × Nat)},(cellsOf (p::l))[0]?=some p
 | []=>rfl
 | _::_=>rfl
theorem qc:∀{ps:List (Nat × Nat)},(cellsOf ps).getLast?=ps.getLast?
 | []=>rfl
 | [p]=>rfl
 | p::q::r=>by
  have ih:=qc (ps:=q::r)
  have:cellsOf (q::r)≠[]:=by cases r<;>exact List.cons_ne_nil _ _
  show (p::(p.1,q.2)::cellsOf (q::r)).getLast?=_
  cases e:cellsOf (q::r) with
  | nil=>exact absurd e this
  | cons a l=>rw[List.getLast?_cons_cons,List.getLast?_cons_cons,← e,ih,List.getLast?_cons_cons]
theorem sT:∀{ps:List (Nat × Nat)},(cellsOf ps).length≤2*ps.length
 | []=>Nat.le_refl _
 | [p]=>by show 1≤2*1;omega
 | p::q::r=>by
  have ih:=sT (ps:=q::r)
  show (cellsOf (q::r)).length+1+1≤_
  simp only[List.length_cons] at ih ⊢;omega
theorem Ed {ps:List (Nat × Nat)}{p:Nat × Nat}{P:DK} (e:ps.getLast?=some p) (h:P (i5 p)):asO (atI (ps.map i5) (-1)) P:=by
 have hne:ps≠[]:=fun z=>by rw[z] at e;cases e
 have hl:0<ps.length:=List.length_pos_iff.mpr hne
 refine (qm ?_).mpr h
 have:ixN (ps.map i5).length (-1)=some (ps.length - 1):=by
  unfold ixN
  rw[List.length_map,if_neg (by omega),if_pos (by omega)]
  congr 1;omega
 unfold atI
 rw[this]
 show (ps.map i5)[ps.length - 1]?=_
 rw[List.getElem?_map,← List.getLast?_eq_getElem?,e];rfl
def slA (low high t:List (List Int)) (cs:List (Nat × Nat)) (k:Nat):Int:=if k % 2=0 then cellAt high (cs.getD k (0,0)).1 (cs.getD k (0,0)).2 - cellAt t (cs.getD k (0,0)).1 (cs.getD k (0,0)).2 else cellAt t (cs.getD k (0,0)).1 (cs.getD k (0,0)).2 - cellAt low (cs.getD k (0,0)).1 (cs.getD k (0,0)).2
theorem BF:∀{l:List Int}{i:Nat}{v:Int},i<l.length→v<l.getD i 0→0<l.getD i 0→((l.set i v).map Int.toNat).sum<(l.map Int.toNat).sum
 | [],i,v,h,_,_=>by simp at h
 | x::l,0,v,_,h1,h2=>by
  replace h1:v<x:=h1
  replace h2:0<x:=h2
  simp only[List.set_cons_zero,List.map_cons,List.sum_cons]
  omega
 | x::l,i+1,v,h,h1,h2=>by
  have:=BF (l:=l) (i:=i) (v:=v) (by simpa using h) h1 h2
  simp only[List.set_cons_succ,List.map_cons,List.sum_cons]
  omega
def mu (w:List Int):Nat:=(w.map Int.toNat).sum
def gy (c:Cs):DSG:=fun x ds g1 g2 P=>∃(low high t:List (List Int)) (w r rows cols:List Int) (al ah:Addr) (g n m:Nat) (ps:List (Nat × Nat)),x=rD c al ah t w r∧ds=[.lst ((cellsOf ps).map i5)]∧g1=(al,dT low)∧g2=(ah,dT high)∧bF n m low∧bF n m high∧Fl.St n m rows cols low high t w r∧Wy n m low high t w g ps∧0<r.getD g 0∧n≤50 ∧
 ∀t' w' r',Fl.St n m rows cols low high t' w' r'→mu w' < mu w→P (rD c al ah t' w' r')
theorem mf {c:Cs}:BZ (gy c):=by
 intro x ds g1 g2 P P' k h
 obtain ⟨a1,a2,a3,a4,a5,a6,a7,a8,a9,a10,a11,a12,a13,e1,e2,e3,e4,h1,h2,h3,h4,h5,h6,h⟩:=h
 exact⟨a1,a2,a3,a4,a5,a6,a7,a8,a9,a10,a11,a12,a13,e1,e2,e3,e4,h1,h2,h3,h4,h5,h6,fun t' w' r' z1 z2=>k _ (h t' w' r' z1 z2)⟩
theorem m9 {c:Cs}:∀x ds g1 g2 P,gy c x ds g1 g2 P→ds.length+1=2:=by
 intro x ds g1 g2 P h
 obtain ⟨_,_,_,_,_,_,_,_,_,_,_,_,_,_,e,_⟩:=h
 rw[e];rfl
theorem ow {c:Cs}{f:Addr}{fd:FuncData} (F:oG K c.Filling "pour" "Filling.pour" bX cZ f fd) (A_:Fns K mg c) (T:Txt K mg) (xs:Exs K mg base c):bc P w K mg base CX0 2 f fd cZ (spG K (gy c)):=by
 obtain ⟨f0,d0,E_Filling_slack⟩:=A_.h_Filling_slack
 have G_Filling_slack:bc P w K mg base CX0 1 f0 d0 cR (spP K (fO c)):=nS E_Filling_slack A_ T xs
 refine F.fn.ok dw (fun vs H Q E h=>C9 m9 h) (fun cdv A outer s H vs Q E hr h=>?_)
 refine⟨_,om [7,8] (fun i hi x hx=>by
  rcases (show i=7∨i=8 by simpa using hi) with rfl | rfl<;>(obtain rfl:=Option.some.inj hx;rfl)) ((ak (aP (i:=2) dw.nd rfl (by first | exact Or.inl rfl | exact Or.inr rfl) (aF (eS (K:=K) rfl) (aF (aw (K:=K) rfl) (pv 1) ar (fun _ _=>rfl)) ar (fun _ _=>rfl)))
   (ak (aP (i:=3) dw.nd rfl (by first | exact Or.inl rfl | exact Or.inr rfl) (aF (eS (K:=K) rfl) (aF (aw (K:=K) rfl) (pv 1) (ya tV ar) (fun _ _=>rfl)) ar (fun _ _=>rfl)))
   (ak (aP (i:=4) dw.nd rfl (by first | exact Or.inl rfl | exact Or.inr rfl) (aB (nc (K:=K) rfl rfl) (by rfl) T.min_ boot_min (af (aD FH (bM (af (aF (aw (K:=K) rfl) (bq (K:=K) rfl (pv 0) rfl) (pv 3) (fun _ _=>rfl)) (af (aF (aw (K:=K) rfl) (bq (K:=K) rfl (pv 0) rfl) (pv 2) (fun _ _=>rfl)) aj))) (bO (aO.of (sc0:=(aq bX)) (tn:=["step"]) (cap:=["self","way"]) (idx:=[0,1]) (by decide +kernel) rfl rfl) (br rfl T.range_ (af (aB (aQ (K:=K) rfl) (by rfl) T.len_ PySem.boot_len (af (pv 1) aj)) aj)) (fB.name (by decide)) (fun _ _ _ _ _=>aH (i:=0) (aN (l:=["step","self","way"]) (by decide +kernel)) rfl (by first | exact Or.inl rfl | exact Or.inr rfl) (by first | exact .inl rfl | exact .inr rfl)) (fun _ _ _ _ _=>(yp (pv 1) xs.i_Filling.cl E_Filling_slack.mt G_Filling_slack (hr.mono (by decide)) E_Filling_slack.bd .nil bz (af (pv 2) (af (pv 0) aj)))))) aj)))
   (ak (eK PassesOwn.never rfl (br rfl T.range_ (af (aB (aQ (K:=K) rfl) (by rfl) T.len_ PySem.boot_len (af (pv 1) aj)) aj)) (aH (i:=5) dw.nd rfl (by first | exact Or.inl rfl | exact Or.inr rfl)) (ak (aP (i:=6) dw.nd rfl (by first | exact Or.inl rfl | exact Or.inr rfl) (aF (aw (K:=K) rfl) (bq (K:=K) rfl (pv 0) rfl) (aF (eS (K:=K) rfl) (aF (aw (K:=K) rfl) (pv 1) (pv 5) (fun _ _=>rfl)) ar (fun _ _=>rfl)) (fun _ _=>rfl)))
   (aA (iM (aD cA (aF (aw (K:=K) rfl) (pv 6) (aF (eS (K:=K) rfl) (aF (aw (K:=K) rfl) (pv 1) (pv 5) (fun _ _=>rfl)) ar (fun _ _=>rfl)) (fun _ _=>rfl)) (u9 (bt qh (aD cz (pv 5) ar) ar (bK _)) (pv 4) (ya tV (pv 4)))) (ku (pv 6) (aF (eS (K:=K) rfl) (aF (aw (K:=K) rfl) (pv 1) (pv 5) (fun _ _=>rfl)) ar (fun _ _=>rfl)) set_list)))))
   (ak (iM (aD gS (aF (aw (K:=K) rfl) (bq (K:=K) rfl (pv 0) rfl) (pv 3) (fun _ _=>rfl)) (pv 4)) (ku (bq (K:=K) rfl (pv 0) rfl) (pv 3) set_list))
   (aA (iM (aD gS (aF (aw (K:=K) rfl) (bq (K:=K) rfl (pv 0) rfl) (pv 2) (fun _ _=>rfl)) (pv 4)) (ku (bq (K:=K) rfl (pv 0) rfl) (pv 2) set_list))))))))),Eh (N:=kf) 1 5 (az (ST.post (Γn:=[0]) (aU 2 (gT (aE (aa 1) (EM.er av)) (EM.er av))))
   (az (ST.post (Γn:=[0]) (aU 3 (gT (aE (aa 1) (EM.er (zp x9 (EM.er av)))) (EM.er av))))
   (az (ST.post (Γn:=[0]) (aU 4 (EM.es (uA 0 7 8 (bp wU (ai (EM.er (ax HL (EM.er (cn (aT (ER.aY (ES.er (aE (cN ["low","high","table","wants","rooms"] 3 xs.i_Filling.cl xs.n_Filling_wants (aa 0)) (ES.er (aa 3))))) (aT (ER.aY (ES.er (aE (cN ["low","high","table","wants","rooms"] 4 xs.i_Filling.cl xs.n_Filling_rooms (aa 0)) (ES.er (aa 2))))) bG)))) (EM.er (bD (cx (ai (EM.er (bp cT (ai (ES.er (aa 1)) au))) au)) (aM 0) (yC (C:=c.Filling) ["low","high","table","wants","rooms"] lW (ES.er (aa 1)) (ai (ES.er (aa 2)) (ai (ES.er (aa 0)) au))))))) au))))))
   (az (eQ (cx (ai (EM.er (bp cT (ai (ES.er (aa 1)) au))) au)) (aM 5) (Di 0 7 8 6 ["low","high","table","wants","rooms"] 2 xs.i_Filling.cl xs.n_Filling_table (ES.er (gT (aE (aa 1) (ES.er (aa 5))) (EM.er av))) (EM.er (ax bR (ES.er (aE (aa 6) (ES.er (gT (aE (aa 1) (ES.er (aa 5))) (EM.er av))))) (EM.er (EB (bo (EM.er (ax xt (EM.er (ax aG (ES.er (aa 5)) (EM.er av))) (EM.er av)))) (ER.aY (ES.er (aa 4))) (zp x9 (ES.er (aa 4))))))) (ES.er (gT (aE (aa 1) (ES.er (aa 5))) (EM.er av)))))
   (az (xW 0 ["low","high","table","wants","rooms"] 3 xs.i_Filling.cl xs.n_Filling_wants (oQ 0 7 8 (EM.er (ax bR (ES.er (aE (cN ["low","high","table","wants","rooms"] 3 xs.i_Filling.cl xs.n_Filling_wants (aa 0)) (ES.er (aa 3)))) (ES.er (aa 4))))) (oQ 0 7 8 (ES.er (aa 3))))
   (xW 0 ["low","high","table","wants","rooms"] 4 xs.i_Filling.cl xs.n_Filling_rooms (oQ 0 7 8 (EM.er (ax bR (ES.er (aE (cN ["low","high","table","wants","rooms"] 4 xs.i_Filling.cl xs.n_Filling_rooms (aa 0)) (ES.er (aa 2)))) (ES.er (aa 4))))) (oQ 0 7 8 (ES.er (aa 2))))))))) rfl rfl (fun s_ x ds g1 g2 P hS=>?_) h⟩
 obtain ⟨low,high,t,w,r,rows,cols,al,ah,g,n,m,ps,rfl,rfl,rfl,rfl,hL,hH,hSt,hW,hg,n5,hP⟩:=hS
 refine⟨rfl,?_⟩
 rw[show pY 5 s_ (rD c al ah t w r) [L3.D.lst ((cellsOf ps).map i5)] (al,dT low) (ah,dT high)=[some (.pin s_ (rD c al ah t w r)),some (.lst ((cellsOf ps).map i5)),none,none,none,none,none,some (.pin al (dT low)),some (.pin ah (dT high))] from rfl]
 have hcs:∃p0 l0,ps=p0::l0∧p0.2=g:=hW.hd
 obtain ⟨p0,l0,ep0,eg⟩:=hcs
 obtain ⟨pl,epl,wl0⟩:=hW.ls
 have hc0:(cellsOf ps)[0]?=some p0:=by rw[ep0];exact wL
 have hcl:(cellsOf ps).getLast?=some pl:=by rw[qc];exact epl
 have hrg:=pq hW.rg
 have plin:pl∈ps:=List.mem_of_getLast? epl
 obtain ⟨pln,plm⟩:=hW.rg pl plin
 have gm:g<m:=by rw[← eg];exact (hW.rg p0 (by rw[ep0];exact List.mem_cons_self)).2
 have hps:ps.length≤50:=by
  have:=iX (B:=n) hW.n1 fun q hq=>by
   obtain ⟨p,hp,rfl⟩:=List.mem_map.mp hq
   exact (hW.rg p hp).1
  rw[List.length_map] at this;omega
 have hcn:(cellsOf ps).length≤100:=Nat.le_trans sT (by omega)
 have al0:Al (fun q=>cellAt t q.1 q.2<cellAt high q.1 q.2) (fun q=>cellAt low q.1 q.2<cellAt t q.1 q.2) (cellsOf ps):=xH.mpr ⟨hW.up,hW.lk⟩
 have pour:=fun x x1 xw xr al=>D3 (x:=x) hSt hW epl x1 xw xr al
 have lw:=hSt.wl
 have lr:=hSt.rl
 have hT:=hSt.rt
 generalize hcs:cellsOf ps=cs at hc0 hcl hrg hcn al0 pour
 walk_at "go"
 refine jL (k:=0) hc0 ?_
 walk_at "go"
 refine Ed hcl ?_
 walk_at "go"
 rw[eg]
 refine⟨s_,c.Filling,_,al,ah,dT low,dT high,[dT t,dI w,dI r],rfl,rfl,rfl,?_⟩
 walk_at "go"
 refine aL (by omega) ?_
 rw[Int.toNat_natCast]
 refine⟨rfl,?_⟩
 refine aL (by omega) ?_
 rw[Int.toNat_natCast]
 refine⟨rfl,by decide,?_⟩
 have slk:∀k,k<cs.length→∃p,cs[k]?=some p∧slA low high t cs k=if k % 2=0 then cellAt high p.1 p.2 - cellAt t p.1 p.2 else cellAt t p.1 p.2 - cellAt low p.1 p.2:=fun k hk=>⟨cs[k],List.getElem?_eq_getElem hk,by unfold slA;rw[List.getD_eq_getElem?_getD,List.getElem?_eq_getElem hk];rfl⟩
 refine ia (lo:=0) (n:=cs.length) (g:=fun (k:Nat)=>.int (slA low high t cs k)) (fun R h=>?_) (by omega) (fun k hk R h=>?_) ?_
 ·walk_at "go"
  exact h
 ·walk_at "gb"
  obtain ⟨p,ep,es⟩:=slk k hk
  have hp:=hrg p (List.mem_of_getElem? ep)
  rw[Int.zero_add]
  rw[es] at h
  exact⟨low,high,t,w,r,n,m,k,cs,p,rfl,hL,hH,hT,ep,hp.1,hp.2,h⟩
 rw[show (List.range cs.length).map (fun (k:Nat)=>L3.D.int (slA low high t cs k))=((List.range cs.length).map fun k=>slA low high t cs k).map L3.D.int by rw[List.map_map];rfl]
 refine⟨⟨rfl,gk,by rw[List.length_map,List.length_map,List.length_range];simp only[List.length_cons,List.length_nil];omega⟩,?_⟩
 rw[show L3.D.lst ([L3.D.int (w.getD pl.1 0),L3.D.int (r.getD g 0)]++((List.range cs.length).map fun k=>slA low high t cs k).map L3.D.int)=dI ([w.getD pl.1 0,r.getD g 0]++(List.range cs.length).map fun k=>slA low high t cs k) by show _=L3.D.lst (List.map L3.D.int _);rw[List.map_append];rfl]
 refine lB.mpr ⟨by simp,fun x hx hle=>?_⟩
 have x2:=hle (w.getD pl.1 0) (by simp)
 have x3:=hle (r.getD g 0) (by simp)
 have x4:∀k,k<cs.length→x≤slA low high t cs k:=fun k hk=>hle _ (List.mem_append_right _ (List.mem_map.mpr ⟨k,List.mem_range.mpr hk,rfl⟩))
 have x1:1≤x:=by
  rcases List.mem_append.mp hx with z | z
  ·simp only[List.mem_cons,List.not_mem_nil,or_false] at z
   omega
  ·obtain ⟨k,hk,rfl⟩:=List.mem_map.mp z
   have hk:=List.mem_range.mp hk
   obtain ⟨p,ep,es⟩:=slk k hk
   have q:=ED al0 k p ep
   rw[es]
   by_cases y:k % 2=0
   ·rw[if_pos y] at q ⊢;omega
   ·rw[if_neg y] at q ⊢;omega
 obtain ⟨hSt',_,_⟩:=pour x x1 x2 x3 (EV fun j p ep=>by
  have hj:=(List.getElem?_eq_some_iff.mp ep).1
  obtain ⟨p',ep',es⟩:=slk j hj
  rw[ep] at ep';cases ep'
  have:=x4 j hj
  rw[es] at this
  by_cases y:j % 2=0
  ·rw[if_pos y] at this ⊢;exact this
  ·rw[if_neg y] at this ⊢;exact this)
 clear pour
 refine⟨by omega,?_⟩
 refine dY (lo:=0) (n:=cs.length) (fun k δ=>∃(tk:List (List Int)) (o5:Option D),δ=[some (.pin s_ (rD c al ah tk w r)),some (.lst (cs.map i5)),some (.int (g:Int)),some (.int (pl.1:Int)),some (.int x),o5,none,some (.pin al (dT low)),some (.pin ah (dT high))]∧bF n m tk∧ap (if k % 2=0 then x else -x) (cs.drop k) tk=ap x cs t) ⟨t,none,rfl,hT,rfl⟩ ?_ ?_
 ·rintro k δ N hk ⟨tk,o5,rfl,hR,hap⟩ hN
  rw[Int.zero_add]
  have ek:cs[k]?=some cs[k]:=List.getElem?_eq_getElem hk
  obtain ⟨p,hp⟩:∃p,cs[k]=p:=⟨_,rfl⟩
  rw[hp] at ek
  obtain ⟨pn,pm⟩:=hrg p (List.mem_of_getElem? ek)
  have hrl:=hR.row pn
  have hlt:=hR.1
  rw[List.drop_eq_getElem_cons hk,hp] at hap
  refine⟨s_,_,tk.map dI,rfl,rfl,by simp only[List.length_set,List.length_cons,List.length_nil];omega,s_,c.Filling,_,al,ah,dT low,dT high,[dT tk,dI w,dI r],rfl,rfl,rfl,?_⟩
  walk_at "go"
  refine jL ek ?_
  walk_at "go"
  refine⟨p.1,(rowAt tk p.1).map L3.D.int,by rw[eR (by omega) (by omega),Int.toNat_natCast],?_,gk,?_⟩
  ·rw[List.getElem?_map,show tk[p.1]?=some (rowAt tk p.1) by unfold rowAt;rw[List.getD_eq_getElem?_getD,List.getElem?_eq_getElem (by omega)];rfl];rfl
  walk_at "go"
  refine jL ek ?_
  walk_at "go"
  refine aL (by omega) ?_
  rw[Int.toNat_natCast]
  walk_at "go"
  have fin:∀v:Int,ap (if (k+1) % 2=0 then x else -x) (cs.drop (k+1)) (setCell tk p.1 p.2 v)=ap x cs t→N [some (.pin s_ (L3.D.ins c.Filling ["low","high","table","wants","rooms"] [.raw (.ref al),.raw (.ref ah),.lst ((tk.map dI).set p.1 (.lst (((rowAt tk p.1).map L3.D.int).set p.2 (.int v)))),dI w,dI r])),some (.lst (cs.map i5)),some (.int (g:Int)),some (.int (pl.1:Int)),some (.int x),some (.int (k:Int)),none,some (.pin al (dT low)),some (.pin ah (dT high))]:=fun v hv=>by
   rw[nQ,show L3.D.lst (((rowAt tk p.1).set p.2 v).map L3.D.int)=dI ((rowAt tk p.1).set p.2 v) from rfl,← List.map_set]
   exact hN _ ⟨setCell tk p.1 p.2 v,_,rfl,hR.setCell pn,hv⟩
  have ap1:∀y:Int,ap y (p::cs.drop (k+1)) tk=ap (-y) (cs.drop (k+1)) (setCell tk p.1 p.2 (cellAt tk p.1 p.2+y)):=fun y=>rfl
  by_cases y:k % 2=0
  ·rw[if_pos y,ap1] at hap
   rw[if_pos (by omega)]
   refine jL ek ?_
   walk_at "go"
   exact⟨p.2,by rw[eR (by omega) (by omega),Int.toNat_natCast],fin _ (by rw[if_neg (by omega)];exact hap)⟩
  ·rw[if_neg y,ap1,Int.neg_neg] at hap
   rw[if_neg (by omega)]
   refine jL ek ?_
   walk_at "go"
   exact⟨p.2,by rw[eR (by omega) (by omega),Int.toNat_natCast],fin _ (by rw[if_pos (by omega)];exact hap)⟩
 ·rintro δ ⟨tk,o5,rfl,hR,hap⟩
  rw[List.drop_length] at hap
  replace hap:tk=ap x cs t:=hap
  subst hap
  walk_at "go"
  refine⟨s_,_,w.map L3.D.int,rfl,rfl,gk,s_,c.Filling,_,al,ah,dT low,dT high,[dT (ap x cs t),dI w,dI r],rfl,rfl,rfl,?_⟩
  walk_at "go"
  refine aL (by omega) ?_
  rw[Int.toNat_natCast]
  refine⟨rfl,s_,c.Filling,_,al,ah,dT low,dT high,[dT (ap x cs t),dI w,dI r],rfl,rfl,rfl,?_⟩
  walk_at "go"
  refine⟨pl.1,by rw[eR (by omega) (by omega),Int.toNat_natCast],?_⟩
  rw[nQ]
  refine⟨s_,_,r.map L3.D.int,rfl,rfl,gk,s_,c.Filling,_,al,ah,dT low,dT high,[dT (ap x cs t),dI (w.set pl.1 (w.getD pl.1 0 - x)),dI r],rfl,rfl,rfl,?_⟩
  walk_at "go"
  refine aL (by omega) ?_
  rw[Int.toNat_natCast]
  refine⟨rfl,s_,c.Filling,_,al,ah,dT low,dT high,[dT (ap x cs t),dI (w.set pl.1 (w.getD pl.1 0 - x)),dI r],rfl,rfl,rfl,?_⟩
  walk_at "go"
  refine⟨g,by rw[eR (by omega) (by omega),Int.toNat_natCast],?_⟩
  rw[nQ]
  exact hP _ _ _ hSt' (BF (by omega) (by omega) wl0)
def rO (a b:List Int):List Int:=(List.range a.length).map fun (i:Nat)=>a.getD i 0 - b.getD i 0
theorem wg {a b:List Int}:(rO a b).length=a.length:=by unfold rO;rw[List.length_map,List.length_range]
theorem less_get {a b:List Int}{i:Nat} (h:i<a.length):(rO a b).getD i 0=a.getD i 0 - b.getD i 0:=by
 unfold rO
 rw[List.getD_eq_getElem?_getD,List.getElem?_map,List.getElem?_range h];rfl
def dq (c:Cs):DSp:=fun ds P=>∃(rows cols:List Int) (low:List (List Int)) (al ah:Addr) (d:D) (n m:Nat),ds=[dI rows,dI cols,.pin al (dT low),.pin ah d]∧bF n m low∧rows.length=n∧cols.length=m∧1≤n∧n≤50∧m≤50∧P (rD c al ah low (rO rows (low.map List.sum)) (rO cols ((turned m low).map List.sum)))
theorem m4 {c:Cs}:cE (dq c):=by
 intro xs P P' k h
 obtain ⟨a1,a2,a3,a4,a5,a6,a7,a8,e,h1,h2,h3,h4,h5,h6,h⟩:=h
 exact⟨a1,a2,a3,a4,a5,a6,a7,a8,e,h1,h2,h3,h4,h5,h6,k _ h⟩
theorem nJ {c:Cs}:∀ds P,dq c ds P→ds.length=4:=by
 intro ds P h
 obtain ⟨_,_,_,_,_,_,_,_,e,_⟩:=h
 rw[e];rfl
theorem zC {c:Cs}:∀ds P,(dq c) ds P→(dq c) ds fun d=>(∃ns dd,d=.ins c.Filling ns dd)∧P d:=by
 intro ds P h
 unfold dq at h ⊢
 obtain ⟨a1,a2,a3,a4,a5,a6,a7,a8,e,h1,h2,h3,h4,h5,h6,h⟩:=h;exact⟨a1,a2,a3,a4,a5,a6,a7,a8,e,h1,h2,h3,h4,h5,h6,⟨_,_,rfl⟩,h⟩
theorem oC {c:Cs}{f:Addr}{fd:FuncData} (F:Ag K mg "Filling" c.Filling "Filling.__init__" cJ df f fd) (A_:Fns K mg c) (T:Txt K mg) (xs:Exs K mg base c):bc P w K mg base CX0 4 f fd df (spN K c.Filling (dq c)):=by
 obtain ⟨f0,d0,E_copied_table⟩:=A_.h_copied_table
 have G_copied_table:bc P w K mg base CX0 1 f0 d0 cX (spP K dW):=oF E_copied_table A_ T xs
 obtain ⟨f1,d1,E_less_row⟩:=A_.h_less_row
 have G_less_row:bc P w K mg base CX0 1 f1 d1 fU (spP K fX):=vd E_less_row A_ T xs
 obtain ⟨f2,d2,E_sums_of_rows⟩:=A_.h_sums_of_rows
 have G_sums_of_rows:bc P w K mg base CX0 1 f2 d2 cH (spP K cK):=jU E_sums_of_rows A_ T xs
 obtain ⟨f3,d3,E_sums_of_columns⟩:=A_.h_sums_of_columns
 have G_sums_of_columns:bc P w K mg base CX0 3 f3 d3 b6 (spP K cM):=lK E_sums_of_columns A_ T xs
 refine F.fn.ok oH (fun vs H Q E h=>DZ nJ h) (fun cdv A outer s H vs Q E hr h=>?_)
 refine⟨_,(ak (ix (K:=K) rfl (pv 0) (pv 3) rfl)
   (ak (ix (K:=K) rfl (pv 0) (pv 4) rfl)
   (ak (ix (K:=K) rfl (pv 0) (aR G_copied_table (hr.mono (by decide)) rfl E_copied_table.mg E_copied_table.fn.kp E_copied_table.bd .nil bz (af (pv 3) aj)) rfl)
   (ak (ix (K:=K) rfl (pv 0) (aR G_less_row (hr.mono (by decide)) rfl E_less_row.mg E_less_row.fn.kp E_less_row.bd .nil bz (af (pv 1) (af (aR G_sums_of_rows (hr.mono (by decide)) rfl E_sums_of_rows.mg E_sums_of_rows.fn.kp E_sums_of_rows.bd .nil bz (af (pv 3) aj)) aj))) rfl)
   (aA (ix (K:=K) rfl (pv 0) (aR G_less_row (hr.mono (by decide)) rfl E_less_row.mg E_less_row.fn.kp E_less_row.bd .nil bz (af (pv 2) (af (aR G_sums_of_columns (hr.mono (by decide)) rfl E_sums_of_columns.mg E_sums_of_columns.fn.kp E_sums_of_columns.bd .nil bz (af (pv 3) aj)) aj))) rfl)))))),FF (N:=iG) (mQ xs.i_Filling.cl xs.n_Filling_low (ER.rawOf (ES.er (aa 3))) (mQ xs.i_Filling.cl xs.n_Filling_high (ER.rawOf (ES.er (aa 4))) (mQ xs.i_Filling.cl xs.n_Filling_table (aX (S:=dW) mz (ai (mU 3) au)) (mQ xs.i_Filling.cl xs.n_Filling_wants (aX (S:=fX) lj (ai (ES.er (aa 1)) (ai (EM.er (aX (S:=cK) jh (ai (mU 3) au))) au))) (C7 xs.i_Filling.cl xs.n_Filling_rooms (aX (S:=fX) lj (ai (ES.er (aa 2)) (ai (EM.er (aX (S:=cM) kB (ai (mU 3) au))) au)))))))) (fun ds P hS=>?_) (by decide) (by decide +kernel) (by decide) h⟩
 obtain ⟨rows,cols,low,al,ah,d,n,m,rfl,hL,lr,lc,n1,n5,m5,hP⟩:=hS
 rw[show aZ (iG.drop 1) [dI rows,dI cols,.pin al (dT low),.pin ah d]=[some (dI rows),some (dI cols),some (.pin al (dT low)),some (.pin ah d)] from rfl]
 have l1:=hL.1
 walk_at "go"
 refine⟨al,_,rfl,?_⟩
 walk_at "go"
 refine⟨ah,_,rfl,?_⟩
 walk_at "go"
 refine⟨low,rfl,by omega,?_⟩
 walk_at "go"
 refine⟨low,rfl,by omega,?_⟩
 refine⟨rows,_,rfl,by rw[List.length_map];omega,by omega,?_⟩
 walk_at "go"
 refine⟨low,n,m,rfl,hL,n1,by omega,by omega,?_⟩
 refine⟨cols,_,rfl,by unfold turned;rw[List.length_map,List.length_map,List.length_range];omega,by omega,?_⟩
 exact hP
theorem qE {ms:List Int}{l:List Nat} (p:ms.Perm (l.map fun (x:Nat)=>(x:Int))) (o:ms.Pairwise (·≤·)) (nd:l.Nodup):∃R:List Nat,ms=R.map (fun (x:Nat)=>(x:Int))∧R.Perm l∧R.Pairwise (· < ·):=by
 have pos:∀x∈ms,0≤x:=fun x hx=>by
  obtain ⟨y,_,rfl⟩:=List.mem_map.mp (p.mem_iff.mp hx)
  omega
 have e:(ms.map Int.toNat).map (fun (x:Nat)=>(x:Int))=ms:=by
  rw[List.map_map]
  conv=>rhs;rw[← List.map_id ms]
  exact List.map_congr_left fun x hx=>by show ((x.toNat:Nat):Int)=x;have:=pos x hx;omega
 have p2:(ms.map Int.toNat).Perm l:=by
  have:=p.map Int.toNat
  rw[List.map_map] at this
  rw [show l.map (Int.toNat ∘ fun (x : Nat) => (x : Int)) = l by conv => rhs; rw [← List.map_id l]
                                                                 exact List.map_congr_left fun x _=>rfl] at this
  exact this
 refine⟨ms.map Int.toNat,e.symm,p2,?_⟩
 have nd2:(ms.map Int.toNat).Nodup:=p2.nodup_iff.mpr nd
 have le2:(ms.map Int.toNat).Pairwise (·≤·):=List.pairwise_map.mpr (o.imp fun {a b} h=>by omega)
 exact (le2.and nd2).imp fun {a b} h=>by omega
theorem zX {n m:Nat}{rows cols:List Int}{low high:List (List Int)}{j:Nat} (hL:bF n m low) (hj:j<m) (h:cols.getD j 0<ji low j):Cut n m rows cols low high [] [j]:=by
 unfold Cut
 have e1:sN n (fun i=>if i∈([]:List Nat) then rows.getD i 0 else 0)=0:=by
  rw[bj (g:=fun _=>0) fun i _=>if_neg List.not_mem_nil,cf]
 have e2:sN m (fun j'=>if j'∈[j] then cols.getD j' 0 else 0)=cols.getD j 0:=by
  rw[← uH (f:=fun j'=>cols.getD j' 0) (by simp) (by simpa using hj)];simp
 have e3:sN n (fun i=>sN m fun j'=>(if i∈([]:List Nat)∧j'∉[j] then cellAt high i j' else 0) - (if i∉([]:List Nat)∧j'∈[j] then cellAt low i j' else 0))=0 - ji low j:=by
  rw[mL hL]
  conv=>rhs;rw[← cf (n:=n)]
  rw[← qM]
  refine bj fun i _=>?_
  have:sN m (fun j'=>(if i∈([]:List Nat)∧j'∉[j] then cellAt high i j' else 0) - (if i∉([]:List Nat)∧j'∈[j] then cellAt low i j' else 0))=sN m (fun _=>0) - sN m (fun j'=>if j'∈[j] then cellAt low i j' else 0):=by
   rw[← qM]
   refine bj fun j' _=>?_
   rw[if_neg (fun z=>List.not_mem_nil z.1)]
   congr 1
   by_cases z:j'∈[j]
   ·rw[if_pos z,if_pos ⟨List.not_mem_nil,z⟩]
   ·rw[if_neg z,if_neg (fun y=>z y.2)]
  rw[this,cf,← uH (f:=fun j'=>cellAt low i j') (by simp) (by simpa using hj)]
  simp
 rw[e1,e2,e3];omega
theorem yv {a b:Int}:eqV (V.int a) (V.int b)=true↔a=b:=by
 show decide (a=b)=true↔_
 rw[decide_eq_true_eq]
theorem u7 {M:Int}:∀{l:List Int},M∈l→∃j,j<l.length∧l.getD j 0=M∧∀k,k<j→l.getD k 0≠M
 | [],h=>nomatch h
 | x::l,h=>by
  by_cases e:x=M
  ·exact⟨0,by simp,e,fun k hk=>by omega⟩
  ·obtain ⟨j,h1,h2,h3⟩:=u7 (l:=l) ((List.mem_cons.mp h).resolve_left (fun z=>e z.symm))
   refine⟨j+1,by simpa using h1,h2,fun k hk=>?_⟩
   cases k with
   | zero=>exact e
   | succ k=>exact h3 k (by omega)
structure Bt (n m:Nat) (rows cols:List Int) (low high t:List (List Int)):Prop where
 rt:bF n m t
 bd:∀i j,i<n→j<m→cellAt low i j≤cellAt t i j∧cellAt t i j≤cellAt high i j
 rs:∀i,i<n→jt t i=rows.getD i 0
 cs:∀j,j<m→ji t j=cols.getD j 0
structure Ct (n m:Nat) (rows cols:List Int) (low high:List (List Int)) (R Cs:List Nat):Prop where
 up1:R.Pairwise (· < ·)
 up2:Cs.Pairwise (· < ·)
 l1:∀i∈R,i<n
 l2:∀j∈Cs,j<m
 cut:Cut n m rows cols low high R Cs
def gA (c:Cs):DSO:=fun x g1 g2 P=>∃(low high:List (List Int)) (w r rows cols:List Int) (al ah:Addr) (n m:Nat),x=rD c al ah low w r∧g1=(al,dT low)∧g2=(ah,dT high)∧bF n m low∧bF n m high∧Low n m low high∧1≤n∧n≤50∧1≤m∧m≤50∧rows.length=n∧cols.length=m∧rows.sum=cols.sum∧w.length=n∧r.length=m ∧
 (∀i,i<n→rows.getD i 0=w.getD i 0+jt low i)∧(∀j,j<m→cols.getD j 0=r.getD j 0+ji low j) ∧
 (∀t,Bt n m rows cols low high t→P (.tup [.str "table",dT t]))∧∀R Cs,Ct n m rows cols low high R Cs→P (.tup [.str "cut",dN R,dN Cs])
theorem kE {c:Cs}:Ay (gA c):=by
 intro x g1 g2 P P' k h
 obtain ⟨a1,a2,a3,a4,a5,a6,a7,a8,a9,a10,e1,e2,e3,h1,h2,h3,h4,h5,h6,h7,h8,h9,h10,h11,h12,h13,h14,h15,h16⟩:=h
 exact⟨a1,a2,a3,a4,a5,a6,a7,a8,a9,a10,e1,e2,e3,h1,h2,h3,h4,h5,h6,h7,h8,h9,h10,h11,h12,h13,h14,fun t z=>k _ (h15 t z),fun R C z=>k _ (h16 R C z)⟩
theorem ok_Filling_outcome {c:Cs}{f:Addr}{fd:FuncData} (F:oG K c.Filling "outcome" "Filling.outcome" bJ bS f fd) (A_:Fns K mg c) (T:Txt K mg) (xs:Exs K mg base c):bc P w K mg base CX0 5 f fd bS (spO K (gA c)):=by
 obtain ⟨f0,d0,E_Reach_init⟩:=A_.h_Reach_init
 have G_Reach_init:bc P w K mg base CX0 3 f0 d0 eD (Co K c.Reach (eC c)):=qR E_Reach_init A_ T xs
 obtain ⟨f1,d1,E_Filling_pour⟩:=A_.h_Filling_pour
 have G_Filling_pour:bc P w K mg base CX0 2 f1 d1 cZ (spG K (gy c)):=ow E_Filling_pour A_ T xs
 obtain ⟨f2,d2,E_Reach_way⟩:=A_.h_Reach_way
 have G_Reach_way:bc P w K mg base CX0 1 f2 d2 fg (spP K (i6 c)):=uQ E_Reach_way A_ T xs
 refine F.fn.ok iN (fun vs H Q E h=>Dc h) (fun cdv A outer s H vs Q E hr h=>?_)
 refine⟨_,om [2,3] (fun i hi x hx=>by
  rcases (show i=2∨i=3 by simpa using hi) with rfl | rfl<;>(obtain rfl:=Option.some.inj hx;rfl)) ((ak (fG (bt vp (aB (nc (K:=K) rfl rfl) (by rfl) T.min_ boot_min (af (bq (K:=K) rfl (pv 0) rfl) aj)) ar (bK _)) (aA (bg (nM (af lN (af (bM aj) (af (bM (af (jx PySem.F.plainAttrs_list PySem.F.slot_list_index PySem.F.type_list_index Bo (bq (K:=K) rfl (pv 0) rfl) (af (aB (nc (K:=K) rfl rfl) (by rfl) T.min_ boot_min (af (bq (K:=K) rfl (pv 0) rfl) aj)) aj)) aj)) aj)))))) cw)
   (ak (qy PassesOwn.never (bt we (aB (zv (K:=K) rfl rfl) (by rfl) T.max_ boot_max (af (bq (K:=K) rfl (pv 0) rfl) aj)) ar (bK _)) (ak (aP (i:=1) iN.nd rfl (by first | exact Or.inl rfl | exact Or.inr rfl) (yh E_Reach_init.mkk G_Reach_init (hr.mono (by decide)) rfl E_Reach_init.mg E_Reach_init.bd .nil bz (af (pv 0) aj)))
   (ak (fG (bt B9 (bq (K:=K) rfl (pv 1) rfl) lZ (bK _)) (aA (bg (nM (af lN (af (aB (md rfl) (by rfl) T.sorted_ boot_sorted (af (bq (K:=K) rfl (pv 1) rfl) aj)) (af (aB (md rfl) (by rfl) T.sorted_ boot_sorted (af (bq (K:=K) rfl (pv 1) rfl) aj)) aj)))))) cw)
   (aA (eA (yp (pv 0) xs.i_Filling.cl E_Filling_pour.mt G_Filling_pour (hr.mono (by decide)) E_Filling_pour.bd .nil bz (af (wt (pv 1) xs.i_Reach.cl E_Reach_way.mt G_Reach_way (hr.mono (by decide)) E_Reach_way.bd .nil bz) aj)))))))
   (aA (bg (nM (af lN (af (bq (K:=K) rfl (pv 0) rfl) aj)))))))),C8 (Γn:=[]) (N:=jb) 1 (az (fL (y9 0 2 3 (bo (EM.er (ax mm (EM.er (bp wU (ai (ES.er (cN ["low","high","table","wants","rooms"] 4 xs.i_Filling.cl xs.n_Filling_rooms (aa 0))) au))) (EM.er av))))) (bf (M:=[]) (uA 0 2 3 (nC (aT lY (aT (cn bG) (aT (cn (aT (Ap (ES.er (cN ["low","high","table","wants","rooms"] 4 xs.i_Filling.cl xs.n_Filling_rooms (aa 0))) (EM.er (bp wU (ai (ES.er (cN ["low","high","table","wants","rooms"] 4 xs.i_Filling.cl xs.n_Filling_rooms (aa 0))) au)))) bG)) bG)))))) cv)
   (az (qG (y9 0 2 3 (bo (EM.er (ax mm (EM.er (bp FQ (ai (ES.er (cN ["low","high","table","wants","rooms"] 3 xs.i_Filling.cl xs.n_Filling_wants (aa 0))) au))) (EM.er av))))) (az (ST.post (Γn:=[0]) (aU 1 (EM.es (uA 0 2 3 (A8 ou qP (ai (ES.er (aa 0)) au))))))
   (az (fL (bo (EM.er (ax Er (ES.er (cN ["rows","columns","goal"] 2 xs.i_Reach.cl xs.n_Reach_goal (aa 1))) (EM.er lJ)))) (bf (M:=[]) (nC (aT lY (aT (bp yN (ai (ES.er (cN ["rows","columns","goal"] 0 xs.i_Reach.cl xs.n_Reach_rows (aa 1))) au)) (aT (bp yN (ai (ES.er (cN ["rows","columns","goal"] 1 xs.i_Reach.cl xs.n_Reach_columns (aa 1))) au)) bG))))) cv)
   (DQ 0 2 3 mf (Ej (EM.es (yC (C:=c.Reach) ["rows","columns","goal"] qF (ES.er (aa 1)) au)) FA)))))
   (bf (M:=[0]) (nC (eB lY (eB (C4 0 ["low","high","table","wants","rooms"] 2 xs.i_Filling.cl xs.n_Filling_table) bG)))))) rfl rfl (fun s_ x g1 g2 P hS=>?_) h⟩
 obtain ⟨low,high,w,r,rows,cols,al,ah,n,m,rfl,rfl,rfl,hL,hH,hlo,n1,n5,m1,m5,lr,lc,hsum,lw,lr2,hrs,hcs,hT,hCt⟩:=hS
 rw[show pY 1 s_ (rD c al ah low w r) [] (al,dT low) (ah,dT high)=[some (.pin s_ (rD c al ah low w r)),none,some (.pin al (dT low)),some (.pin ah (dT high))] from rfl]
 refine⟨s_,c.Filling,_,al,ah,dT low,dT high,[dT low,dI w,dI r],rfl,rfl,rfl,?_⟩
 walk_at "go"
 intro M hM hle
 have rge:∀j,j<m→M≤r.getD j 0:=fun j hj=>hle _ (by rw[List.getD_eq_getElem?_getD,List.getElem?_eq_getElem (by omega)];exact List.getElem_mem _)
 by_cases hM0:M<0
 ·rw[if_pos hM0]
  refine⟨s_,c.Filling,_,al,ah,dT low,dT high,[dT low,dI w,dI r],rfl,rfl,rfl,?_⟩
  walk_at "go"
  refine mh rfl ⟨gk,by omega,fun M' hM' hle'=>?_⟩
  obtain ⟨j,hj,ej,hf⟩:=u7 hM'
  have hMM:=hle' M hM
  have at_:∀k,k<r.length→(r.map L3.D.int)[k]?=some (.int (r.getD k 0)):=fun k hk=>by
   rw[List.getElem?_map,List.getElem?_eq_getElem hk,List.getD_eq_getElem?_getD,List.getElem?_eq_getElem hk];rfl
  refine⟨j,⟨_,at_ j hj,?_⟩,fun k z hk ez=>?_,by decide,by decide,?_⟩
  ·rw[ej];exact yv.mpr rfl
  ·rw[at_ k (by omega)] at ez
   cases ez
   exact Bool.eq_false_iff.mpr fun q=>hf k hk (yv.mp q)
  ·have:=hcs j (by omega)
   exact hCt [] [j] ⟨.nil,List.pairwise_singleton _ _,fun i hi=>(nomatch hi),fun q hq=>by cases List.mem_singleton.mp hq;omega,zX hL (by omega) (by omega)⟩
 rw[if_neg hM0]
 have st0:Fl.St n m rows cols low high low w r:=⟨hL,lw,lr2,fun i j hi hj=>⟨Int.le_refl _,hlo i j hi hj⟩,hrs,hcs,fun j hj=>by have:=rge j hj;omega,fun i hi _ j hj=>rfl⟩
 refine⟨fun μ δ=>∃(t:List (List Int)) (w r:List Int) (o1:Option D),μ=mu w∧δ=[some (.pin s_ (rD c al ah t w r)),o1,some (.pin al (dT low)),some (.pin ah (dT high))]∧Fl.St n m rows cols low high t w r,⟨_,low,w,r,none,rfl,rfl,st0⟩,?_⟩
 rintro μ δ ⟨t,w,r,o1,rfl,rfl,hs⟩
 have lw:=hs.wl
 refine⟨s_,c.Filling,_,al,ah,dT low,dT high,[dT t,dI w,dI r],rfl,rfl,rfl,?_⟩
 walk_at "go"
 intro M hM hge
 have wle:∀i,i<n→w.getD i 0≤M:=fun i hi=>hge _ (by rw[List.getD_eq_getElem?_getD,List.getElem?_eq_getElem (by omega)];exact List.getElem_mem _)
 by_cases hM0:0<M
 ·rw[if_pos hM0]
  obtain ⟨k,hk,ek⟩:∃k,k<n∧w.getD k 0=M:=by
   obtain ⟨k,hk,e⟩:=List.getElem_of_mem hM
   exact⟨k,by omega,by rw[List.getD_eq_getElem?_getD,List.getElem?_eq_getElem hk];exact e⟩
  refine⟨s_,c.Filling,_,al,ah,dT low,dT high,[dT t,dI w,dI r],rfl,rfl,rfl,?_⟩
  walk_at "go"
  refine⟨low,high,t,w,r,n,m,rfl,hL,hH,hs.rt,hs.wl,hs.rl,n1,n5,m1,m5,fun layer as bs goal rk ck B hR hC hg=>?_⟩
  cases goal with
  | none =>
   have hly:=hg rfl
   walk_at "go"
   have la:(kys as).length≤50:=Nat.le_trans (iX hR.na fun p hp=>(hR.la p hp).1) n5
   have lb:(kys bs).length≤50:=Nat.le_trans (iX hR.nb fun p hp=>(hR.lb p hp).1) m5
   refine⟨(kys as).map fun (p:Nat)=>(p:Int),yL,by rw[List.length_map];omega,fun ms p1 p2=>?_⟩
   refine⟨(kys bs).map fun (p:Nat)=>(p:Int),yL,by rw[List.length_map];omega,fun ms2 q1 q2=>?_⟩
   obtain ⟨R,rfl,rp,ru⟩:=qE p1 p2 hR.na
   obtain ⟨Cs,rfl,cp,cu⟩:=qE q1 q2 hR.nb
   walk_at "go"
   refine hCt R Cs ⟨ru,cu,fun i hi=>(hR.la i (rp.mem_iff.mp hi)).1,fun j hj=>(hR.lb j (cp.mem_iff.mp hj)).1,FV hs (fun i hi hw=>rp.mem_iff.mpr (hR.st i hi hw)) (fun i hi=>?_) (fun i hi j hj hlt=>cp.mem_iff.mpr (hC.cr i (rp.mem_iff.mp hi) (by rw[hly];exact List.not_mem_nil) j hj hlt)) (fun j hj=>hC.gl j (cp.mem_iff.mp hj)) (fun j hj i hi hlt=>rp.mem_iff.mpr (hC.cc j (cp.mem_iff.mp hj) i hi hlt)) k hk (by omega)⟩
   have hi':=rp.mem_iff.mp hi
   refine⟨(hR.la i hi').1,?_⟩
   obtain ⟨o,ho⟩:=wI hi'
   rcases hR.pa i o ho with z | ⟨c',_,z2,_,z4⟩
   ·exact .inl z.2
   ·exact .inr ⟨c',(hR.lb c' z2).1,z4⟩
  | some g =>
   walk_at "go"
   refine⟨s_,_,_,al,ah,dT low,dT high,rfl,rfl,rfl,by decide +kernel,?_⟩
   walk_at "go"
   refine⟨low,high,t,w,as,bs,rk,ck,n,m,B,g,rfl,hR,hC.gl.1,n5,fun ps hW=>?_⟩
   refine⟨low,high,t,w,r,rows,cols,al,ah,g,n,m,ps,rfl,rfl,rfl,rfl,hL,hH,hs,hW,hC.gl.2,n5,fun t' w' r' hs' hmu=>?_⟩
   exact⟨mu w',hmu,t',w',r',_,rfl,rfl,hs'⟩
 ·rw[if_neg hM0]
  walk_at "go"
  refine⟨s_,_,dT t,rfl,rfl,?_⟩
  walk_at "go"
  have fl:=filled hs lr lc hsum fun i hi=>by have:=wle i hi;omega
  exact hT t ⟨hs.rt,hs.bd,fl.1,fl.2⟩
def fP (c:Cs):DSX:=fun ds P R=>∃(rows cols:List Int) (low high:List (List Int)) (n m:Nat),ds=[dI rows,dI cols,dT low,dT high]∧bF n m low∧bF n m high∧1≤n∧n≤50∧1≤m∧m≤50∧rows.length=n∧cols.length=m ∧
 (¬ Low n m low high→R c.NoBounds)∧(Low n m low high→rows.sum≠cols.sum→P (.tup [.str "unlike",.int rows.sum,.int cols.sum])) ∧
 (Low n m low high→rows.sum=cols.sum→∀t,Bt n m rows cols low high t→P (.tup [.str "table",dT t]))∧(Low n m low high→rows.sum=cols.sum→∀U V,Ct n m rows cols low high U V→P (.tup [.str "cut",dN U,dN V]))
theorem iW {c:Cs}:lO (fP c):=by
 intro xs P P' R R' k kr h
 obtain ⟨a1,a2,a3,a4,a5,a6,e,h1,h2,h3,h4,h5,h6,h7,h8,h9,h10,h11,h12⟩:=h
 exact⟨a1,a2,a3,a4,a5,a6,e,h1,h2,h3,h4,h5,h6,h7,h8,fun z=>kr _ (h9 z),fun z y=>k _ (h10 z y),fun z y t q=>k _ (h11 z y t q),fun z y U V q=>k _ (h12 z y U V q)⟩
theorem mD {c:Cs}:∀ds P R,fP c ds P R→ds.length=4:=by
 intro ds P R h
 obtain ⟨_,_,_,_,_,_,e,_⟩:=h
 rw[e];rfl
theorem nH {c:Cs}{f:Addr}{fd:FuncData} (F:FnAt K mg "table_between" cj cO f fd) (A_:Fns K mg c) (T:Txt K mg) (xs:Exs K mg base c):bc P w K mg base (CXR P w) 6 f fd cO (spX K (fP c)):=by
 obtain ⟨f0,d0,E_check_bounds⟩:=A_.h_check_bounds
 have G_check_bounds:bc P w K mg base (CXR P w) 2 f0 d0 dm (spX K (gp c)):=oE E_check_bounds A_ T xs
 obtain ⟨f1,d1,E_Filling_outcome⟩:=A_.h_Filling_outcome
 have G_Filling_outcome:bc P w K mg base CX0 5 f1 d1 bS (spO K (gA c)):=ok_Filling_outcome E_Filling_outcome A_ T xs
 obtain ⟨f2,d2,E_Filling_init⟩:=A_.h_Filling_init
 have G_Filling_init:bc P w K mg base CX0 4 f2 d2 df (spN K c.Filling (dq c)):=oC E_Filling_init A_ T xs
 refine F.fn.okX m7 (fun vs H Q E h=>zc mD h) (fun cdv A outer s H vs Q E hr h=>?_)
 refine⟨_,(ak (eA (aR G_check_bounds (hr.mono (by decide)) rfl E_check_bounds.mg E_check_bounds.fn.kp E_check_bounds.bd .nil GB (PA.nox (af (pv 2) (af (pv 3) aj)))))
   (PSs.nox (ak (fG (bt vc (aB (dX (K:=K) rfl rfl) (by rfl) T.sum_ boot_sum (af (pv 0) aj)) (aB (dX (K:=K) rfl rfl) (by rfl) T.sum_ boot_sum (af (pv 1) aj)) (bK _)) (aA (bg (nM (af lN (af (aB (dX (K:=K) rfl rfl) (by rfl) T.sum_ boot_sum (af (pv 0) aj)) (af (aB (dX (K:=K) rfl rfl) (by rfl) T.sum_ boot_sum (af (pv 1) aj)) aj)))))) cw)
   (aA (bg (wt (yh E_Filling_init.mkk G_Filling_init (hr.mono (by decide)) rfl E_Filling_init.mg E_Filling_init.bd .nil bz (af (pv 0) (af (pv 1) (af (pv 2) (af (pv 3) aj))))) xs.i_Filling.cl E_Filling_outcome.mt G_Filling_outcome (hr.mono (by decide)) E_Filling_outcome.bd .nil bz)))))),y7 (Γn:=[]) (N:=ij) (fun R=>(AV (Eg my (ai (ES.er (aa 2)) (ai (ES.er (aa 3)) au)))
   (ST.sx (az (fL (bo (EM.er (ax BX (EM.er (bp kn (ai (ES.er (aa 0)) au))) (EM.er (bp kn (ai (ES.er (aa 1)) au)))))) (bf (M:=[]) (nC (aT lY (aT (bp kn (ai (ES.er (aa 0)) au)) (aT (bp kn (ai (ES.er (aa 1)) au)) bG))))) cv)
   (bf (M:=[]) (Ds m4 kE)))))) (fun ds P R hS=>?_) h⟩
 obtain ⟨rows,cols,low,high,n,m,rfl,hL,hH,n1,n5,m1,m5,lr,lc,hR,hU,hT,hC⟩:=hS
 rw[show aZ ij [dI rows,dI cols,dT low,dT high]=[some (dI rows),some (dI cols),some (dT low),some (dT high)] from rfl]
 walk_at "go"
 refine⟨low,high,n,m,rfl,hL,hH,n5,m5,fun hlo=>?_,fun hb=>hR hb⟩
 walk_at "go"
 by_cases he:rows.sum=cols.sum
 ·rw[if_neg (fun z=>z he)]
  refine⟨dI rows,dI cols,dT low,dT high,rfl,rfl,rfl,rfl,rfl,rfl,fun a2 a3=>?_⟩
  refine⟨rows,cols,low,a2,a3,dT high,n,m,rfl,hL,lr,lc,n1,n5,m5,⟨_,_,rfl,by decide +kernel⟩,?_⟩
  have l1:=hL.1
  refine⟨low,high,_,_,rows,cols,a2,a3,n,m,rfl,rfl,rfl,hL,hH,hlo,n1,n5,m1,m5,lr,lc,he,by rw[wg];exact lr,by rw[wg];exact lc,fun i hi=>?_,fun j hj=>?_,hT hlo he,hC hlo he⟩
  ·rw[less_get (by omega)]
   have:(low.map List.sum).getD i 0=jt low i:=by
    unfold jt rowAt
    rw[List.getD_eq_getElem?_getD,List.getElem?_map,List.getElem?_eq_getElem (by omega),List.getD_eq_getElem?_getD,List.getElem?_eq_getElem (by omega)];rfl
   rw[this];omega
  ·rw[less_get (by omega)]
   have:((turned m low).map List.sum).getD j 0=ji low j:=by
    unfold turned ji
    rw[List.getD_eq_getElem?_getD,List.getElem?_map,List.getElem?_map,List.getElem?_range hj];rfl
   rw[this];omega
 ·rw[if_pos he]
  walk_at "go"
  exact hU hlo he
def ed:DSp:=fun ds P=>∃i,ds=[.int i]∧P (.bl true)
theorem jZ:cE ed:=by
 intro xs P P' k h
 unfold ed at h ⊢
 grind
theorem rL:∀ds P,ed ds P→ds.length=1:=by
 intro ds P h
 obtain ⟨_,e,_⟩:=h
 rw[e];rfl
theorem mZ {c:Cs}{f:Addr}{fd:FuncData} (F:FnAt K mg "_law_whole" d7 d9 f fd) (A_:Fns K mg c) (T:Txt K mg) (xs:Exs K mg base c):bc P w K mg base CX0 1 f fd d9 (spP K ed):=by
 refine F.fn.ok uo (fun vs H Q E h=>bB rL h) (fun cdv A outer s H vs Q E hr h=>?_)
 refine⟨_,(aA (bg (xP (aB (fE (K:=K) rfl) (by rfl) T.isinstance_ boot_isinstance (af (pv 0) (af (kS (v:=.ty "int") rfl T.int_ boot_int rfl) aj))) (xG (Fv (aB (fE (K:=K) rfl) (by rfl) T.isinstance_ boot_isinstance (af (pv 0) (af (kS (v:=.ty "bool") rfl T.bool_ boot_bool rfl) aj)))))))),cq (Γn:=[]) (N:=j9) (bf (M:=[]) (tJ (EM.er (iB Eb (ES.er (aa 0)))) (D0 (EM.er (iB AY (ES.er (aa 0))))))) (fun ds P hS=>?_) h⟩
 obtain ⟨i,rfl,hP⟩:=hS
 rw[show aZ j9 [.int i]=[some (.int i)] from rfl]
 walk_at "v"
 exact hP
def gK:DSp:=fun ds P=>∃(ns:List Int) (k:Nat),ds=[.scr ns,.int (k:Int)]∧ns.length≤63∧k≤100∧∀dk:List Int,dk.length=k→(∀x∈dk,0≤x∧x<2 ^ 60)→P (dI dk)
theorem rF:cE gK:=by
 intro xs P P' k h
 unfold gK at h ⊢
 grind
theorem uz:∀ds P,gK ds P→ds.length=2:=by
 intro ds P h
 obtain ⟨_,_,e,_⟩:=h
 rw[e];rfl
theorem vo {c:Cs}{f:Addr}{fd:FuncData} (F:FnAt K mg "_law_deck" ff fS f fd) (A_:Fns K mg c) (T:Txt K mg) (xs:Exs K mg base c):bc P w K mg base CX0 1 f fd fS (spP K gK):=by
 refine F.fn.ok fu (fun vs H Q E h=>bB uz h) (fun cdv A outer s H vs Q E hr h=>?_)
 refine⟨_,(ak (aP (i:=2) fu.nd rfl (by first | exact Or.inl rfl | exact Or.inr rfl) (bM aj))
   (ak (aP (i:=3) fu.nd rfl (by first | exact Or.inl rfl | exact Or.inr rfl) (aD cA ar (aB (aQ (K:=K) rfl) (by rfl) T.len_ PySem.boot_len (af (pv 0) aj))))
   (ak (eK PassesOwn.never rfl (cI (K:=K) rfl (pv 0)) (aH (i:=4) fu.nd rfl (by first | exact Or.inl rfl | exact Or.inr rfl)) (aA (aP (i:=3) fu.nd rfl (by first | exact Or.inl rfl | exact Or.inr rfl) (aD cz (aD cA (aD bQ (pv 3) ar) (pv 4)) ar))))
   (ak (eK PassesOwn.never rfl (br rfl T.range_ (af (pv 1) aj)) (aH (i:=5) fu.nd rfl (by first | exact Or.inl rfl | exact Or.inr rfl)) (ak (aP (i:=3) fu.nd rfl (by first | exact Or.inl rfl | exact Or.inr rfl) (aD cz (aD cA (aD cA (aD bQ (pv 3) ar) ar) (pv 5)) ar))
   (aA (fG (bt vp (pv 5) (aB (aQ (K:=K) rfl) (by rfl) T.len_ PySem.boot_len (af (pv 0) aj)) (bK _)) (aA (eA (jx PySem.F.plainAttrs_list PySem.F.slot_list_append PySem.F.type_list_append dy (pv 2) (af (aD cz (aF (aw (K:=K) rfl) (pv 0) (pv 5) (fun _ _=>rfl)) (aD ux ar ar)) aj)))) (aA (eA (jx PySem.F.plainAttrs_list PySem.F.slot_list_append PySem.F.type_list_append dy (pv 2) (af (pv 3) aj))))))))
   (aA (bg (pv 2))))))),cq (Γn:=[2]) (N:=lM) (az (ST.post (Γn:=[2]) (dJ (M:=[]) 2 (cn bG)))
   (az (ST.post (Γn:=[2]) (aU 3 (EM.es (ax bR (EM.er av) (EM.er (bp cT (ai (ES.er (aa 0)) au)))))))
   (az (eQ (dH (aa 0)) (aM 4) (ST.post (Γn:=[2]) (aU 3 (EM.es (ax aG (EM.er (ax bR (EM.er (ax aG (ES.er (aa 3)) (EM.er av))) (ES.er (aa 4)))) (EM.er av))))))
   (az (eQ (cx (ai (ES.er (aa 1)) au)) (aM 5) (az (ST.post (Γn:=[2]) (aU 3 (EM.es (ax aG (EM.er (ax bR (EM.er (ax bR (EM.er (ax aG (ES.er (aa 3)) (EM.er av))) (EM.er av))) (ES.er (aa 5)))) (EM.er av)))))
   (fL (bo (EM.er (ax mm (ES.er (aa 5)) (EM.er (bp cT (ai (ES.er (aa 0)) au)))))) (ST.post (Γn:=[2]) (eO (M:=[]) 2 (ax aG (ES.er (aE (aa 0) (ES.er (aa 5)))) (EM.er (ax aG (EM.er av) (EM.er av)))))) (ST.post (Γn:=[2]) (eO (M:=[]) 2 (ER.aY (ES.er (aa 3))))))))
   (bf (M:=[2]) (fI 2)))))) (fun ds P hS=>?_) h⟩
 obtain ⟨ns,k,rfl,hz,hk,hP⟩:=hS
 rw[show aZ lM [.scr ns,.int (k:Int)]=[some (.scr ns),some (.int (k:Int)),none,none,none,none] from rfl]
 walk_at "go"
 refine jD (as:=ns) (f:=L3.D.int) (fun i δ=>∃(y:Int) (o4:Option D),δ=[some (.scr ns),some (.int (k:Int)),some (dI []),some (.int y),o4,none]∧0≤y∧y<2 ^ 32) ⟨_,none,rfl,by omega,by omega⟩ ?_ ?_
 ·rintro i a δ N e ⟨y,o4,rfl,h0,h1⟩ hN
  walk_at "go"
  have h:=emod_lt (x:=y*48271+a) (n:=2147483629) (by decide)
  exact hN _ ⟨_,_,rfl,h.1,by have:=h.2;omega⟩
 ·rintro δ ⟨y,o4,rfl,h0,h1⟩
  walk_at "go"
  refine dY (lo:=0) (n:=k) (fun i δ=>∃(y:Int) (dk:List Int) (o5:Option D),δ=[some (.scr ns),some (.int (k:Int)),some (dI dk),some (.int y),o4,o5]∧0≤y∧y<2 ^ 32∧dk.length=i∧∀x∈dk,0≤x∧x<2 ^ 60) ⟨y,[],none,rfl,h0,h1,rfl,fun x h=>(nomatch h)⟩ ?_ ?_
  ·rintro i δ N hi ⟨y,dk,o5,rfl,y0,y1,hl,hd⟩ hN
   rw[Int.zero_add]
   walk_at "go"
   have h:=emod_lt (x:=y*69621+7+i) (n:=2147483647) (by decide)
   have step:∀v:Int,0≤v→v<2 ^ 60→N [some (.scr ns),some (.int (k:Int)),some (dI (dk++[v])),some (.int ((y*69621+7+i) % 2147483647)),o4,some (.int (i:Int))]:=fun v v0 v1=>hN _ ⟨_,_,_,rfl,h.1,by have:=h.2;omega,by rw[List.length_append,hl];rfl,fun x hx=>by
    rcases List.mem_append.mp hx with z | z
    ·exact hd x z
    ·cases List.mem_singleton.mp z;exact⟨v0,v1⟩⟩
   split
   ·rename_i c
    refine aL (by omega) ?_
    walk_at "go"
    have v:=emod_lt (x:=ns.getD i 0) (n:=1000000000000000000) (by decide)
    rw[kM]
    exact step _ v.1 (by have:=v.2;omega)
   ·rw[kM]
    exact⟨by omega,step _ h.1 (by have:=h.2;omega)⟩
  ·rintro δ ⟨y,dk,o5,rfl,y0,y1,hl,hd⟩
   walk_at "go"
   exact hP dk hl hd
def gf:DSp:=fun ds P=>∃x:Int,ds=[.int x]∧0≤x∧∀n m:Nat,1≤n→n≤8→1≤m→m≤8→P (dI [(n:Int),(m:Int)])
theorem qz:cE gf:=by
 intro xs P P' k h
 unfold gf at h ⊢
 grind
theorem qX:∀ds P,gf ds P→ds.length=1:=by
 intro ds P h
 obtain ⟨_,e,_⟩:=h
 rw[e];rfl
theorem tZ {c:Cs}{f:Addr}{fd:FuncData} (F:FnAt K mg "_law_shape" eh ft f fd) (A_:Fns K mg c) (T:Txt K mg) (xs:Exs K mg base c):bc P w K mg base CX0 1 f fd ft (spP K gf):=by
 refine F.fn.ok uq (fun vs H Q E h=>bB qX h) (fun cdv A outer s H vs Q E hr h=>?_)
 refine⟨_,(ak (fG (bt qh (aD cz (pv 0) ar) ar (bK _)) (aA (bg (bM (af (aD cA ar (aD cz (aD cy (pv 0) ar) ar)) (af (aD cA ar (aD cz (aD cy (pv 0) ar) ar)) aj))))) cw)
   (aA (bg (bM (af (aD cA ar (aD cz (aD cy (pv 0) ar) ar)) (af (aD cA ar (aD cz (aD cy (pv 0) ar) ar)) aj)))))),cq (Γn:=[]) (N:=ki) (az (fL (bo (EM.er (ax xt (EM.er (ax aG (ES.er (aa 0)) (EM.er av))) (EM.er av)))) (bf (M:=[]) (cn (aT (ax bR (EM.er av) (EM.er (ax aG (EM.er (ax aG (ES.er (aa 0)) (EM.er av))) (EM.er av)))) (aT (ax bR (EM.er av) (EM.er (ax aG (EM.er (ax aG (ES.er (aa 0)) (EM.er av))) (EM.er av)))) bG)))) cv)
   (bf (M:=[]) (cn (aT (ax bR (EM.er av) (EM.er (ax aG (EM.er (ax aG (ES.er (aa 0)) (EM.er av))) (EM.er av)))) (aT (ax bR (EM.er av) (EM.er (ax aG (EM.er (ax aG (ES.er (aa 0)) (EM.er av))) (EM.er av)))) bG))))) (fun ds P hS=>?_) h⟩
 obtain ⟨x,rfl,x0,hP⟩:=hS
 rw[show aZ ki [.int x]=[some (.int x)] from rfl]
 have a1:=emod_lt (x:=x / 16) (n:=8) (by omega)
 have a2:=emod_lt (x:=x / 128) (n:=8) (by omega)
 have a3:=emod_lt (x:=x / 16) (n:=4) (by omega)
 have a4:=emod_lt (x:=x / 128) (n:=5) (by omega)
 have fin:∀a b:Int,1≤a→a≤8→1≤b→b≤8→P (L3.D.lst [L3.D.int a,L3.D.int b]):=fun a b p q r s=>by
  have:=hP a.toNat b.toNat (by omega) (by omega) (by omega) (by omega)
  rw[Int.toNat_of_nonneg (by omega),Int.toNat_of_nonneg (by omega)] at this
  exact this
 walk_at "go"
 split
 ·walk_at "go"
  exact fin _ _ (by omega) (by omega) (by omega) (by omega)
 ·walk_at "go"
  exact fin _ _ (by omega) (by omega) (by omega) (by omega)
def gP:DSp:=fun ds P=>∃(ns:List Int) (n m:Nat),ds=[.scr ns,.int (n:Int),.int (m:Int)]∧ns.length≤63∧1≤n∧n≤8∧1≤m∧m≤8∧∀t:List (List Int),bF n m t→(∀i j,i<n→j<m→(cellAt t i j).natAbs≤1000)→P (dT t)
theorem rC:cE gP:=by
 intro xs P P' k h
 unfold gP at h ⊢
 grind
theorem uM:∀ds P,gP ds P→ds.length=3:=by
 intro ds P h
 obtain ⟨_,_,_,e,_⟩:=h
 rw[e];rfl
theorem vE {c:Cs}{f:Addr}{fd:FuncData} (F:FnAt K mg "_law_tops" dQ fY f fd) (A_:Fns K mg c) (T:Txt K mg) (xs:Exs K mg base c):bc P w K mg base CX0 1 f fd fY (spP K gP):=by
 refine F.fn.ok ic (fun vs H Q E h=>bB uM h) (fun cdv A outer s H vs Q E hr h=>?_)
 refine⟨_,(ak (qw (i:=3) (aO.of (sc0:=(aq dQ)) (tn:=["_law_k"]) (cap:=["_law_wide"]) (idx:=[2]) (by decide +kernel) rfl rfl) ic.nd rfl (by first | exact Or.inl rfl | exact Or.inr rfl) (br rfl T.range_ (af (pv 1) aj)) (fB.name (by decide)) (fun _ _ _ _ _=>aH (i:=0) (aN (l:=["_law_k","_law_wide"]) (by decide +kernel)) rfl (by first | exact Or.inl rfl | exact Or.inr rfl) (by first | exact .inl rfl | exact .inr rfl)) (fun _ _ _ _ _=>(bO (aO.of (sc0:=(wG _ (aq dQ))) (tn:=["_law_j"]) (cap:=[]) (idx:=[]) (by decide +kernel) rfl rfl) (br rfl T.range_ (af (pv 1) aj)) (fB.name (by decide)) (fun _ _ _ _ _=>aH (i:=0) (aN (l:=["_law_j"]) (by decide +kernel)) rfl (by first | exact Or.inl rfl | exact Or.inr rfl) (by first | exact .inl rfl | exact .inr rfl)) (fun _ _ _ _ _=>ar))))
   (ak (eK PassesOwn.never rfl (br rfl T.range_ (af (aB (zP rfl) (by rfl) T.min_ boot_min (af (aB (aQ (K:=K) rfl) (by rfl) T.len_ PySem.boot_len (af (pv 0) aj)) (af ar aj))) aj)) (aH (i:=4) ic.nd rfl (by first | exact Or.inl rfl | exact Or.inr rfl)) (ak (aP (i:=5) ic.nd rfl (by first | exact Or.inl rfl | exact Or.inr rfl) (aF (aw (K:=K) rfl) (pv 3) (aD cz (pv 4) (pv 1)) (fun _ _=>rfl)))
   (ak (aP (i:=6) ic.nd rfl (by first | exact Or.inl rfl | exact Or.inr rfl) (aD cz (aD cy (pv 4) (pv 1)) (pv 2)))
   (aA (iM (aD gS (aD cA (aF (aw (K:=K) rfl) (pv 5) (pv 6) (fun _ _=>rfl)) (aD cz (aF (aw (K:=K) rfl) (pv 0) (pv 4) (fun _ _=>rfl)) ar)) ar) (ku (pv 5) (pv 6) set_list))))))
   (aA (bg (pv 3))))),cq (Γn:=[3]) (N:=lS) (az (ST.post (Γn:=[3]) (dJ (M:=[]) 3 (bD (cx (ai (ES.er (aa 1)) au)) (aM 0) (bD (cx (ai (ES.er (aa 1)) au)) (aM 0) av))))
   (az (eQ (cx (ai (EM.er (bp FC (ai (EM.er (bp cT (ai (ES.er (aa 0)) au))) (ai (EM.er av) au)))) au)) (aM 4) (CM 3 5 (EM.er (ax aG (ES.er (aa 4)) (ES.er (aa 1)))) (Dh (C6 6 (EM.er (ax aG (EM.er (ax aG (ES.er (aa 4)) (ES.er (aa 1)))) (ES.er (aa 2))))) (DH (EM.er (ax bR (EM.er (ax bR (ES.er (aE (aa 5) (ES.er (aa 6)))) (EM.er (ax aG (ES.er (aE (aa 0) (ES.er (aa 4)))) (EM.er av))))) (EM.er av))) (ES.er (aa 6))))))
   (bf (M:=[3]) (fI 3)))) (fun ds P hS=>?_) h⟩
 obtain ⟨ns,n,m,rfl,hz,n1,n8,m1,m8,hP⟩:=hS
 rw[show aZ lS [.scr ns,.int (n:Int),.int (m:Int)]=[some (.scr ns),some (.int (n:Int)),some (.int (m:Int)),none,none,none,none] from rfl]
 walk_at "go"
 refine ia (lo:=0) (n:=n) (g:=fun (_:Nat)=>dI (List.replicate m 0)) (fun R h=>?_) (by omega) (fun i hi R h=>?_) ?_
 ·walk_at "go"
  exact h
 ·walk_at "gb"
  refine ia (lo:=0) (n:=m) (g:=fun (_:Nat)=>.int 0) (fun R h=>?_) (by omega) (fun j hj R h=>?_) ?_
  ·walk_at "gb"
   exact h
  ·walk_at "gb"
   exact h
  ·rw[show (List.range m).map (fun (_:Nat)=>L3.D.int 0)=(List.replicate m (0:Int)).map L3.D.int by rw[List.map_replicate];exact List.ext_getElem (by simp) (by simp)]
   exact h
 rw[AZ]
 have lns:(if 200<(ns.length:Int) then 200 else (ns.length:Int))=ns.length:=if_neg (by omega)
 rw[lns,Int.toNat_natCast]
 refine⟨by omega,?_⟩
 have h0:bF n m ((List.range n).map fun _=>List.replicate m (0:Int)):=⟨by rw[List.length_map,List.length_range],fun r hr=>by
  obtain ⟨_,_,rfl⟩:=List.mem_map.mp hr
  exact List.length_replicate⟩
 have c0:∀i j,i<n→j<m→(cellAt ((List.range n).map fun _=>List.replicate m (0:Int)) i j).natAbs≤0:=fun i j hi hj=>by
  unfold cellAt
  rw[List.getD_eq_getElem?_getD (l:=List.map _ _),List.getElem?_map,List.getElem?_range hi]
  show ((List.replicate m (0:Int)).getD j 0).natAbs≤_
  rw[List.getD_eq_getElem?_getD,List.getElem?_replicate,if_pos hj];decide
 refine dY (lo:=0) (n:=ns.length) (fun k δ=>∃(t:List (List Int)) (o4 o6:Option D),δ=[some (.scr ns),some (.int (n:Int)),some (.int (m:Int)),some (dT t),o4,none,o6]∧bF n m t∧∀i j,i<n→j<m→(cellAt t i j).natAbs≤8*k) ⟨_,none,none,rfl,h0,c0⟩ ?_ ?_
 ·rintro k δ N hk ⟨t,o4,o6,rfl,hR,hc⟩ hN
  have lt:=hR.1
  rw[Int.zero_add]
  have a1:=emod_lt (x:=(k:Int)) (n:=(n:Int)) (by omega)
  have a2:=emod_lt (x:=(k:Int) / n) (n:=(m:Int)) (by omega)
  obtain ⟨a,ha⟩:∃a:Nat,(k:Int) % n=a:=⟨((k:Int) % n).toNat,by omega⟩
  obtain ⟨q,hq⟩:∃q:Nat,(k:Int) / n % m=q:=⟨((k:Int) / n % m).toNat,by omega⟩
  have lr:=hR.row (i:=a) (by omega)
  walk_at "v"
  refine zN (t:=t) (a:=a) rfl (fun R h=>?_) (by simp only[List.length_cons,List.length_nil,List.length_set];omega) (by omega) ?_
  ·walk_at "go"
   rw[ha]
   exact h
  rw[Int.toNat_natCast]
  walk_at "go"
  rw[hq]
  have vm:=emod_lt (x:=ns.getD k 0) (n:=13) (by omega)
  refine DB (t:=t) (r:=rowAt t a) (b:=q) (v:=cellAt t a q+ns.getD k 0 % 13 - 4) rfl rfl (fun R h=>?_) (fun R h=>?_) (by omega) ?_
  ·walk_at "go"
   refine aL (by omega) ?_
   rw[Int.toNat_natCast]
   refine aL (by omega) ?_
   rw[Int.toNat_natCast]
   walk_at "go"
   exact h
  ·walk_at "go"
   exact h
  walk_at "go"
  refine hN _ ⟨_,_,_,rfl,hR.setCell (i:=a) (j:=q) (v:=cellAt t a q+ns.getD k 0 % 13 - 4) (by omega),fun i j hi hj=>?_⟩
  rw[vx hR (by omega) (by omega)]
  have q0:=hc i j hi hj
  have q1:=hc a q (by omega) (by omega)
  split<;>omega
 ·rintro δ ⟨t,o4,o6,rfl,hR,hc⟩
  walk_at "go"
  exact hP t hR fun i j hi hj=>by have:=hc i j hi hj;omega
def jz (m:Nat) (t:List (List Int)):List Int:=(List.range m).map fun (j:Nat)=>ji t j
def dS:DSp:=fun ds P=>∃(t:List (List Int)) (n m:Nat),ds=[dT t]∧bF n m t∧1≤n∧n≤8∧1≤m∧m≤8∧P (.lst [dI (t.map List.sum),dI (jz m t)])
theorem jo:cE dS:=by
 intro xs P P' k h
 unfold dS at h ⊢
 grind
theorem ug:∀ds P,dS ds P→ds.length=1:=by
 intro ds P h
 obtain ⟨_,_,_,e,_⟩:=h
 rw[e];rfl
theorem kj {c:Cs}{f:Addr}{fd:FuncData} (F:FnAt K mg "_law_sums" dO eL f fd) (A_:Fns K mg c) (T:Txt K mg) (xs:Exs K mg base c):bc P w K mg base CX0 1 f fd eL (spP K dS):=by
 refine F.fn.ok j6 (fun vs H Q E h=>bB ug h) (fun cdv A outer s H vs Q E hr h=>?_)
 refine⟨_,(ak (aP (i:=1) j6.nd rfl (by first | exact Or.inl rfl | exact Or.inr rfl) (bM aj))
   (ak (eK PassesOwn.never rfl (br rfl T.range_ (af (aB (aQ (K:=K) rfl) (by rfl) T.len_ PySem.boot_len (af (aF (aw (K:=K) rfl) (pv 0) ar (fun _ _=>rfl)) aj)) aj)) (aH (i:=2) j6.nd rfl (by first | exact Or.inl rfl | exact Or.inr rfl)) (aA (eA (jx PySem.F.plainAttrs_list PySem.F.slot_list_append PySem.F.type_list_append dy (pv 1) (af (aB (dX (K:=K) rfl rfl) (by rfl) T.sum_ boot_sum (af (bO (aO.of (sc0:=(aq dO)) (tn:=["_law_line"]) (cap:=["_law_j"]) (idx:=[2]) (by decide +kernel) rfl rfl) (cI (K:=K) rfl (pv 0)) (fB.name (by decide)) (fun _ _ _ _ _=>aH (i:=0) (aN (l:=["_law_line","_law_j"]) (by decide +kernel)) rfl (by first | exact Or.inl rfl | exact Or.inr rfl) (by first | exact .inl rfl | exact .inr rfl)) (fun _ _ _ _ _=>(aF (aw (K:=K) rfl) (pv 0) (pv 1) (fun _ _=>rfl)))) aj)) aj)))))
   (aA (bg (bM (af (bO (aO.of (sc0:=(aq dO)) (tn:=["_law_line"]) (cap:=[]) (idx:=[]) (by decide +kernel) rfl rfl) (cI (K:=K) rfl (pv 0)) (fB.name (by decide)) (fun _ _ _ _ _=>aH (i:=0) (aN (l:=["_law_line"]) (by decide +kernel)) rfl (by first | exact Or.inl rfl | exact Or.inr rfl) (by first | exact .inl rfl | exact .inr rfl)) (fun _ _ _ _ _=>(aB (dX (K:=K) rfl rfl) (by rfl) T.sum_ boot_sum (af (pv 0) aj)))) (af (pv 1) aj))))))),cq (Γn:=[1]) (N:=lD) (az (ST.post (Γn:=[1]) (dJ (M:=[]) 1 (cn bG)))
   (az (eQ (cx (ai (EM.er (bp cT (ai (ES.er (aE (aa 0) (EM.er av))) au))) au)) (aM 2) (ST.post (Γn:=[1]) (eO (M:=[]) 1 (bp kn (ai (EM.er (bD (dH (aa 0)) (aM 0) (ER.aY (ES.er (aE (aa 0) (ES.er (aa 1))))))) au)))))
   (bf (M:=[1]) (cn (eB (bD (dH (aa 0)) (aM 0) (bp kn (ai (ES.er (aa 0)) au))) (eB (fI 1) bG)))))) (fun ds P hS=>?_) h⟩
 obtain ⟨t,n,m,rfl,hR,n1,n8,m1,m8,hP⟩:=hS
 rw[show aZ lD [dT t]=[some (dT t),none,none] from rfl]
 have lt:=hR.1
 have r0:=hR.row (i:=0) (by omega)
 walk_at "go"
 refine dZ (by omega) ?_
 walk_at "go"
 rw[show (rowAt t 0).length=m from r0]
 refine dY (lo:=0) (n:=m) (fun j δ=>∃(o2:Option D),δ=[some (dT t),some (dI (jz j t)),o2]) ⟨none,rfl⟩ ?_ ?_
 ·rintro j δ N hj ⟨o2,rfl⟩ hN
  have lc:(jz j t).length=j:=by unfold jz;rw[List.length_map,List.length_range]
  rw[Int.zero_add]
  walk_at "go"
  refine iC (t:=t) (g:=fun r=>.int (r.getD j 0)) (fun R h=>h) (by omega) (fun r hr R h=>?_) ?_
  ·have lr:=hR.2 r hr
   walk_at "gb"
   refine aL (by omega) ?_
   rw[Int.toNat_natCast]
   exact⟨rfl,h⟩
  rw[show t.map (fun r=>L3.D.int (r.getD j 0))=(t.map fun r=>r.getD j 0).map L3.D.int by rw[List.map_map];rfl]
  walk_at "go"
  rw[kM,show jz j t++[(t.map fun r=>r.getD j 0).sum]=jz (j+1) t by unfold jz;rw[List.range_succ,List.map_append];rfl]
  exact hN _ ⟨_,rfl⟩
 ·rintro δ ⟨o2,rfl⟩
  walk_at "go"
  refine iC (t:=t) (g:=fun r=>.int r.sum) (fun R h=>h) (by omega) (fun r hr R h=>by walk_at "gb";exact h) ?_
  rw[show t.map (fun r=>L3.D.int r.sum)=(t.map List.sum).map L3.D.int by rw[List.map_map];rfl]
  walk_at "go"
  exact hP
def wd (x s:Int):Int:=if x % 4=3 then 100000000000000000000 else s
def fi:DSp:=fun ds P=>∃x s:Int,ds=[.int x,.int s]∧P (.int (wd x s))
theorem kh:cE fi:=by
 intro xs P P' k h
 unfold fi at h ⊢
 grind
theorem rm:∀ds P,fi ds P→ds.length=2:=by
 intro ds P h
 obtain ⟨_,_,e,_⟩:=h
 rw[e];rfl
theorem uC {c:Cs}{f:Addr}{fd:FuncData} (F:FnAt K mg "_law_width" ee fj f fd) (A_:Fns K mg c) (T:Txt K mg) (xs:Exs K mg base c):bc P w K mg base CX0 1 f fd fj (spP K fi):=by
 refine F.fn.ok uy (fun vs H Q E h=>bB rm h) (fun cdv A outer s H vs Q E hr h=>?_)
 refine⟨_,(aA (bg (aF (aw (K:=K) rfl) (bM (af (pv 1) (af (pv 1) (af (pv 1) (af (aD ux ar ar) aj))))) (aD cz (pv 0) ar) (fun _ _=>rfl)))),cq (Γn:=[]) (N:=ko) (bf (M:=[]) (ER.aY (ES.er (aE (EM.es (cn (aT (ER.aY (ES.er (aa 1))) (aT (ER.aY (ES.er (aa 1))) (aT (ER.aY (ES.er (aa 1))) (aT (ax aG (EM.er av) (EM.er av)) bG)))))) (EM.er (ax aG (ES.er (aa 0)) (EM.er av))))))) (fun ds P hS=>?_) h⟩
 obtain ⟨x,s,rfl,hP⟩:=hS
 rw[show aZ ko [.int x,.int s]=[some (.int x),some (.int s)] from rfl]
 walk_at "go"
 have a1:=emod_lt (x:=x) (n:=4) (by omega)
 unfold wd at hP
 have:x % 4=0∨x % 4=1∨x % 4=2∨x % 4=3:=by omega
 rcases this with z | z | z | z
 ·rw[z] at hP ⊢;exact⟨rfl,hP⟩
 ·rw[z] at hP ⊢;exact⟨rfl,hP⟩
 ·rw[z] at hP ⊢;exact⟨rfl,hP⟩
 ·rw[z] at hP ⊢;exact⟨rfl,hP⟩
theorem pV {t s:List Int} (h:t.length=s.length):(((t.map L3.D.int).zip (s.map L3.D.int)).map fun p=>L3.D.tup [p.1,p.2])=(List.range t.length).map fun i=>L3.D.tup [.int (t.getD i 0),.int (s.getD i 0)]:=by
 refine List.ext_getElem (by simp [h]) fun i h1 h2=>?_
 have q1:i<t.length:=by simpa using h2
 have q2:i<s.length:=by omega
 rw[List.getElem_map,List.getElem_zip,List.getElem_map,List.getElem_map,List.getElem_map,List.getElem_range]
 show L3.D.tup [.int t[i],.int s[i]]=L3.D.tup [.int (t.getD i 0),.int (s.getD i 0)]
 rw[List.getD_eq_getElem?_getD,List.getD_eq_getElem?_getD,List.getElem?_eq_getElem q1,List.getElem?_eq_getElem q2];rfl
theorem oY {t:List (List Int)}{r:List Int}:t.map dI++[L3.D.lst (r.map L3.D.int)]=(t++[r]).map dI:=by simp
theorem kT {k m:Nat}{low:List (List Int)}{r:List Int} (h:bF k m low) (hr:r.length=m):bF (k+1) m (low++[r]):=⟨by rw[List.length_append,h.1];rfl,fun x hx=>by
 rcases List.mem_append.mp hx with z | z
 ·exact h.2 x z
 ·cases List.mem_singleton.mp z;exact hr⟩
theorem mR {k i j:Nat}{low:List (List Int)}{r:List Int} (h:low.length=k) (hi:i<k):cellAt (low++[r]) i j=cellAt low i j:=by
 unfold cellAt
 rw[List.getD_eq_getElem?_getD (l:=low++[r]),List.getElem?_append_left (by omega),← List.getD_eq_getElem?_getD]
theorem mF {k j:Nat}{low:List (List Int)}{r:List Int} (h:low.length=k):cellAt (low++[r]) k j=r.getD j 0:=by
 unfold cellAt
 rw[List.getD_eq_getElem?_getD (l:=low++[r]),List.getElem?_append_right (by omega),h,Nat.sub_self];rfl
theorem CG {m j:Nat}{f:Nat→Int} (h:j<m):((List.range m).map f).getD j 0=f j:=by
 rw[List.getD_eq_getElem?_getD,List.getElem?_map,List.getElem?_range h];rfl
def fC:DSp:=fun ds P=>∃(t:List (List Int)) (n m:Nat) (dk:List Int) (s:Int),ds=[dT t,dI dk,.int s]∧bF n m t∧1≤n∧n≤8∧1≤m∧m≤8∧dk.length=72∧(∀x∈dk,0≤x∧x<2 ^ 60)∧0≤s∧s<2 ^ 90∧(∀i j,i<n→j<m→(cellAt t i j).natAbs≤1000)∧∀low high,bF n m low→bF n m high→(∀i j,i<n→j<m→cellAt low i j≤s*cellAt t i j∧s*cellAt t i j≤cellAt high i j)→P (.lst [dT low,dT high])
theorem oz:cE fC:=by
 intro xs P P' k h
 unfold fC at h ⊢
 grind
theorem qq:∀ds P,fC ds P→ds.length=3:=by
 intro ds P h
 obtain ⟨_,_,_,_,_,e,_⟩:=h
 rw[e];rfl
theorem rj {c:Cs}{f:Addr}{fd:FuncData} (F:FnAt K mg "_law_spread" bY eN f fd) (A_:Fns K mg c) (T:Txt K mg) (xs:Exs K mg base c):bc P w K mg base CX0 2 f fd eN (spP K fC):=by
 obtain ⟨f0,d0,E_law_width⟩:=A_.h_law_width
 have G_law_width:bc P w K mg base CX0 1 f0 d0 fj (spP K fi):=uC E_law_width A_ T xs
 refine F.fn.ok fJ (fun vs H Q E h=>bB qq h) (fun cdv A outer s H vs Q E hr h=>?_)
 refine⟨_,(ak (aP (i:=3) fJ.nd rfl (by first | exact Or.inl rfl | exact Or.inr rfl) (bM aj))
   (ak (aP (i:=4) fJ.nd rfl (by first | exact Or.inl rfl | exact Or.inr rfl) (bM aj))
   (ak (eK PassesOwn.never rfl (br rfl T.range_ (af (aB (aQ (K:=K) rfl) (by rfl) T.len_ PySem.boot_len (af (pv 0) aj)) aj)) (aH (i:=5) fJ.nd rfl (by first | exact Or.inl rfl | exact Or.inr rfl)) (ak (qw (i:=6) (aO.of (sc0:=(aq bY)) (tn:=["_law_j"]) (cap:=["_law_deck_here","_law_k"]) (idx:=[1,5]) (by decide +kernel) rfl rfl) fJ.nd rfl (by first | exact Or.inl rfl | exact Or.inr rfl) (br rfl T.range_ (af (aB (aQ (K:=K) rfl) (by rfl) T.len_ PySem.boot_len (af (aF (aw (K:=K) rfl) (pv 0) ar (fun _ _=>rfl)) aj)) aj)) (fB.name (by decide)) (fun _ _ _ _ _=>aH (i:=0) (aN (l:=["_law_j","_law_deck_here","_law_k"]) (by decide +kernel)) rfl (by first | exact Or.inl rfl | exact Or.inr rfl) (by first | exact .inl rfl | exact .inr rfl)) (fun _ _ _ _ _=>(aF (aw (K:=K) rfl) (pv 1) (aD cA (aD cA ar (aD bQ ar (pv 2))) (pv 0)) (fun _ _=>rfl))))
   (ak (eA (jx PySem.F.plainAttrs_list PySem.F.slot_list_append PySem.F.type_list_append dy (pv 3) (af (bO (aO.of (sc0:=(aq bY)) (tn:=["_law_one","_law_cell"]) (cap:=["_law_scale"]) (idx:=[2]) (by decide +kernel) rfl rfl) (t9 (K:=K) rfl rfl T.zip_ (af (aF (aw (K:=K) rfl) (pv 0) (pv 5) (fun _ _=>rfl)) (af (pv 6) aj))) (fB.tup (iH.cons (by decide) (iH.cons (by decide) iH.nil))) (fun _ _ _ _ _=>oS (K:=K) (n:=2) rfl rfl (cF (aH (i:=0) (aN (l:=["_law_one","_law_cell","_law_scale"]) (by decide +kernel)) rfl (by first | exact Or.inl rfl | exact Or.inr rfl) (by first | exact .inl rfl | exact .inr rfl)) (cF (aH (i:=1) (aN (l:=["_law_one","_law_cell","_law_scale"]) (by decide +kernel)) rfl (by first | exact Or.inl rfl | exact Or.inr rfl) (by first | exact .inl rfl | exact .inr rfl)) jS))) (fun _ _ _ _ _=>(aD gS (aD bQ (pv 2) (pv 0)) (aD bQ (aD cz (pv 1) ar) (aR G_law_width (hr.mono (by decide)) rfl E_law_width.mg E_law_width.fn.kp E_law_width.bd .nil bz (af (aD cy (pv 1) ar) (af (pv 2) aj))))))) aj)))
   (aA (eA (jx PySem.F.plainAttrs_list PySem.F.slot_list_append PySem.F.type_list_append dy (pv 4) (af (bO (aO.of (sc0:=(aq bY)) (tn:=["_law_one","_law_cell"]) (cap:=["_law_scale"]) (idx:=[2]) (by decide +kernel) rfl rfl) (t9 (K:=K) rfl rfl T.zip_ (af (aF (aw (K:=K) rfl) (pv 0) (pv 5) (fun _ _=>rfl)) (af (pv 6) aj))) (fB.tup (iH.cons (by decide) (iH.cons (by decide) iH.nil))) (fun _ _ _ _ _=>oS (K:=K) (n:=2) rfl rfl (cF (aH (i:=0) (aN (l:=["_law_one","_law_cell","_law_scale"]) (by decide +kernel)) rfl (by first | exact Or.inl rfl | exact Or.inr rfl) (by first | exact .inl rfl | exact .inr rfl)) (cF (aH (i:=1) (aN (l:=["_law_one","_law_cell","_law_scale"]) (by decide +kernel)) rfl (by first | exact Or.inl rfl | exact Or.inr rfl) (by first | exact .inl rfl | exact .inr rfl)) jS))) (fun _ _ _ _ _=>(aD cA (aD bQ (pv 2) (pv 0)) (aD bQ (aD cz (aD cy (pv 1) ar) ar) (aR G_law_width (hr.mono (by decide)) rfl E_law_width.mg E_law_width.fn.kp E_law_width.bd .nil bz (af (aD cy (pv 1) ar) (af (pv 2) aj))))))) aj)))))))
   (aA (bg (bM (af (pv 3) (af (pv 4) aj)))))))),cq (Γn:=[4,3]) (N:=jK) (az (ST.post (Γn:=[3]) (dJ (M:=[]) 3 (cn bG)))
   (az (ST.post (Γn:=[4,3]) (dJ (M:=[]) 4 (cn bG)))
   (az (eQ (cx (ai (EM.er (bp cT (ai (ES.er (aa 0)) au))) au)) (aM 5) (az (ST.post (Γn:=[4,3]) (aU 6 (EM.es (bD (cx (ai (EM.er (bp cT (ai (ES.er (aE (aa 0) (EM.er av))) au))) au)) (aM 0) (ER.aY (ES.er (aE (aa 1) (EM.er (ax bR (EM.er (ax bR (EM.er av) (EM.er (ax aG (EM.er av) (ES.er (aa 2)))))) (ES.er (aa 0)))))))))))
   (az (ST.post (Γn:=[4,3]) (eO (M:=[]) 3 (bD (xu (aE (aa 0) (ES.er (aa 5))) (aa 6)) (uu (cY (aM 0) (cY (aM 1) kU))) (ax bR (EM.er (ax aG (ES.er (aa 2)) (ES.er (aa 0)))) (EM.er (ax aG (EM.er (ax aG (ES.er (aa 1)) (EM.er av))) (EM.er (aX (S:=fi) kh (ai (EM.er (ax aG (ES.er (aa 1)) (EM.er av))) (ai (ES.er (aa 2)) au))))))))))
   (ST.post (Γn:=[4,3]) (eO (M:=[]) 4 (bD (xu (aE (aa 0) (ES.er (aa 5))) (aa 6)) (uu (cY (aM 0) (cY (aM 1) kU))) (ax bR (EM.er (ax aG (ES.er (aa 2)) (ES.er (aa 0)))) (EM.er (ax aG (EM.er (ax aG (EM.er (ax aG (ES.er (aa 1)) (EM.er av))) (EM.er av))) (EM.er (aX (S:=fi) kh (ai (EM.er (ax aG (ES.er (aa 1)) (EM.er av))) (ai (ES.er (aa 2)) au)))))))))))))
   (bf (M:=[3,4]) (cn (eB (fI 3) (eB (fI 4) bG))))))) (fun ds P hS=>?_) h⟩
 obtain ⟨t,n,m,dk,s,rfl,hR,n1,n8,m1,m8,ld,hd,s0,s1,hc,hP⟩:=hS
 rw[show aZ jK [dT t,dI dk,.int s]=[some (dT t),some (dI dk),some (.int s),none,none,none,none] from rfl]
 have lt:=hR.1
 have r0:=hR.row (i:=0) (by omega)
 have wb:∀x:Int,0≤wd x s∧wd x s<2 ^ 90:=fun x=>by
  unfold wd
  split<;>omega
 have lt62:(t.length:Int)<4611686018427387904:=by omega
 walk_at "go"
 rw[lt]
 refine dY (lo:=0) (n:=n) (fun k δ=>∃(low high:List (List Int)) (o5 o6:Option D),δ=[some (dT t),some (dI dk),some (.int s),some (dT low),some (dT high),o5,o6]∧bF k m low∧bF k m high∧∀i j,i<k→j<m→cellAt low i j≤s*cellAt t i j∧s*cellAt t i j≤cellAt high i j) ⟨[],[],none,none,rfl,⟨rfl,fun r h=>(nomatch h)⟩,⟨rfl,fun r h=>(nomatch h)⟩,fun i j hi=>by omega⟩ ?_ ?_
 ·rintro k δ N hk ⟨low,high,o5,o6,rfl,hL,hH,hb⟩ hN
  rw[Int.zero_add]
  have ll:=hL.1
  have lh:=hH.1
  have lrk:=hR.row hk
  walk_at "go"
  refine ia (lo:=0) (n:=m) (g:=fun (j:Nat)=>.int (dk.getD (8+8*k+j) 0)) (fun R h=>?_) (by omega) (fun j hj R h=>?_) ?_
  ·walk_at "go"
   refine dZ (by omega) ?_
   walk_at "go"
   rw[show (rowAt t 0).length=m from r0]
   exact h
  ·walk_at "gb"
   refine aL (by omega) ?_
   rw[show (8+8*(k:Int)+(0+(j:Int))).toNat=8+8*k+j by omega]
   exact⟨rfl,h⟩
  rw[iy]
  obtain ⟨ck,hck⟩:∃ck:List Int,(List.range m).map (fun (j:Nat)=>dk.getD (8+8*k+j) 0)=ck:=⟨_,rfl⟩
  have lck:ck.length=m:=by rw[← hck,List.length_map,List.length_range]
  have bck:∀j,j<m→0≤ck.getD j 0∧ck.getD j 0<2 ^ 60:=fun j hj=>by
   rw[← hck,CG hj,List.getD_eq_getElem?_getD,List.getElem?_eq_getElem (by omega)]
   exact hd _ (List.getElem_mem _)
  rw[hck]
  walk_at "go"
  have cb:∀j,j<m→(s*cellAt t k j).natAbs<2 ^ 110:=fun j hj=>by
   have h1:=hc k j hk hj
   rw[Int.natAbs_mul]
   have h2:s.natAbs≤2 ^ 90:=by omega
   exact Nat.lt_of_le_of_lt (Nat.mul_le_mul h2 h1) (by decide)
  have mul1:∀j,j<m→A7 s (cellAt t k j):=fun j hj=>⟨90,11,by omega,by have:=hc k j hk hj;omega,by decide⟩
  have mul2:∀x y:Int,A7 (x % 4) (wd y s):=fun x y=>⟨3,90,by have:=emod_lt (x:=x) (n:=4) (by omega);omega,by have:=wb y;omega,by decide⟩
  refine ie (as:=List.range m) (f:=fun j=>L3.D.tup [.int (cellAt t k j),.int (ck.getD j 0)]) (g:=fun j=>.int (s*cellAt t k j - ck.getD j 0 % 4*wd (ck.getD j 0 / 16) s)) (fun R h=>?_) (by rw[List.length_range];omega) (fun j hj R h=>?_) ?_
  ·walk_at "go"
   refine dZ (by omega) ?_
   rw[Int.toNat_natCast]
   walk_at "go"
   rw[pV (by omega),lrk]
   exact h
  ·have hj:=List.mem_range.mp hj
   walk_at "gb"
   refine⟨mul1 j hj,divC (by decide) (by decide),_,_,rfl,?_⟩
   walk_at "gb"
   exact⟨mul2 _ _,h⟩
  rw[iy]
  walk_at "go"
  refine ie (as:=List.range m) (f:=fun j=>L3.D.tup [.int (cellAt t k j),.int (ck.getD j 0)]) (g:=fun j=>.int (s*cellAt t k j+ck.getD j 0 / 4 % 4*wd (ck.getD j 0 / 64) s)) (fun R h=>?_) (by rw[List.length_range];omega) (fun j hj R h=>?_) ?_
  ·walk_at "go"
   refine dZ (by omega) ?_
   rw[Int.toNat_natCast]
   walk_at "go"
   rw[pV (by omega),lrk]
   exact h
  ·have hj:=List.mem_range.mp hj
   walk_at "gb"
   refine⟨mul1 j hj,divC (by decide) (by decide),divC (by decide) (by decide),_,_,rfl,?_⟩
   walk_at "gb"
   exact⟨mul2 _ _,h⟩
  refine⟨by omega,?_⟩
  rw[oY,show ∀f:Nat→Int,(List.range m).map (fun j=>L3.D.int (f j))=((List.range m).map f).map L3.D.int from fun f=>by rw[List.map_map];rfl,oY]
  refine hN _ ⟨_,_,_,_,rfl,kT hL (by rw[List.length_map,List.length_range]),kT hH (by rw[List.length_map,List.length_range]),fun i j hi hj=>?_⟩
  by_cases z:i<k
  ·rw[mR ll z,mR lh z]
   exact hb i j z hj
  ·have:i=k:=by omega
   subst this
   rw[mF ll,mF lh,CG hj,CG hj]
   have e1:=emod_lt (x:=ck.getD j 0) (n:=4) (by omega)
   have e2:=emod_lt (x:=ck.getD j 0 / 4) (n:=4) (by omega)
   have p1:=Int.mul_nonneg e1.1 (wb (ck.getD j 0 / 16)).1
   have p2:=Int.mul_nonneg e2.1 (wb (ck.getD j 0 / 64)).1
   omega
 ·rintro δ ⟨low,high,o5,o6,rfl,hL,hH,hb⟩
  walk_at "go"
  exact hP low high hL hH hb
theorem zS {t s r:List (List Int)} (h:t.length=s.length) (h2:t.length=r.length):(((t.map dI).zip ((s.map dI).zip (r.map dI))).map fun p=>L3.D.tup [p.1,p.2.1,p.2.2])=(List.range t.length).map fun i=>L3.D.tup [dI (rowAt t i),dI (rowAt s i),dI (rowAt r i)]:=by
 refine List.ext_getElem (by simp;omega) fun i h1 h3=>?_
 have q1:i<t.length:=by simpa using h3
 have q2:i<s.length:=by omega
 have q3:i<r.length:=by omega
 rw[List.getElem_map,List.getElem_zip,List.getElem_zip,List.getElem_map,List.getElem_map,List.getElem_map,List.getElem_map,List.getElem_range]
 show L3.D.tup [dI t[i],dI s[i],dI r[i]]=L3.D.tup [dI (t.getD i []),dI (s.getD i []),dI (r.getD i [])]
 rw[List.getD_eq_getElem?_getD,List.getD_eq_getElem?_getD,List.getD_eq_getElem?_getD,List.getElem?_eq_getElem q1,List.getElem?_eq_getElem q2,List.getElem?_eq_getElem q3];rfl
def gI:DSp:=fun ds P=>∃(t low high:List (List Int)) (rows cols:List Int) (n m:Nat),ds=[dT t,dI rows,dI cols,dT low,dT high]∧bF n m low∧bF n m high∧1≤n∧n≤8∧1≤m∧m≤8∧rows.length=n∧cols.length=m∧Bt n m rows cols low high t∧P (.bl true)
theorem ra:cE gI:=by
 intro xs P P' k h
 unfold gI at h ⊢
 grind
theorem tU:∀ds P,gI ds P→ds.length=5:=by
 intro ds P h
 obtain ⟨_,_,_,_,_,_,_,e,_⟩:=h
 rw[e];rfl
theorem wq {c:Cs}{f:Addr}{fd:FuncData} (F:FnAt K mg "_law_lies" eX fV f fd) (A_:Fns K mg c) (T:Txt K mg) (xs:Exs K mg base c):bc P w K mg base CX0 2 f fd fV (spP K gI):=by
 obtain ⟨f0,d0,E_law_sums⟩:=A_.h_law_sums
 have G_law_sums:bc P w K mg base CX0 1 f0 d0 eL (spP K dS):=kj E_law_sums A_ T xs
 obtain ⟨f1,d1,E_law_whole⟩:=A_.h_law_whole
 have G_law_whole:bc P w K mg base CX0 1 f1 d1 d9 (spP K ed):=mZ E_law_whole A_ T xs
 refine F.fn.ok gZ (fun vs H Q E h=>bB tU h) (fun cdv A outer s H vs Q E hr h=>?_)
 refine⟨_,(ak (fG (PW.pt (lu (iF (jr (aB (fE (K:=K) rfl) (by rfl) T.isinstance_ boot_isinstance (af (pv 0) (af (kS (v:=.ty "list") rfl T.list_ boot_list rfl) aj))))) (kl (bt vc (aB (aQ (K:=K) rfl) (by rfl) T.len_ PySem.boot_len (af (pv 0) aj)) (aB (aQ (K:=K) rfl) (by rfl) T.len_ PySem.boot_len (af (pv 1) aj)) (bK _))))) (aA (bg kZ)) cw)
   (ak (eK PassesOwn.never rfl (AQ (K:=K) rfl rfl T.zip_ (af (pv 0) (af (pv 3) (af (pv 4) aj)))) (oS (K:=K) rfl rfl (cF (aH (i:=5) gZ.nd rfl (by first | exact Or.inl rfl | exact Or.inr rfl)) (cF (aH (i:=6) gZ.nd rfl (by first | exact Or.inl rfl | exact Or.inr rfl)) (cF (aH (i:=7) gZ.nd rfl (by first | exact Or.inl rfl | exact Or.inr rfl)) jS)))) (ak (fG (PW.pt (lu (iF (jr (aB (fE (K:=K) rfl) (by rfl) T.isinstance_ boot_isinstance (af (pv 5) (af (kS (v:=.ty "list") rfl T.list_ boot_list rfl) aj))))) (kl (bt vc (aB (aQ (K:=K) rfl) (by rfl) T.len_ PySem.boot_len (af (pv 5) aj)) (aB (aQ (K:=K) rfl) (by rfl) T.len_ PySem.boot_len (af (pv 2) aj)) (bK _))))) (aA (bg kZ)) cw)
   (aA (eK PassesOwn.never rfl (br rfl T.range_ (af (aB (aQ (K:=K) rfl) (by rfl) T.len_ PySem.boot_len (af (pv 5) aj)) aj)) (aH (i:=8) gZ.nd rfl (by first | exact Or.inl rfl | exact Or.inr rfl)) (aA (fG (PW.pt (lu (iF (jr (aR G_law_whole (hr.mono (by decide)) rfl E_law_whole.mg E_law_whole.fn.kp E_law_whole.bd .nil bz (af (aF (aw (K:=K) rfl) (pv 5) (pv 8) (fun _ _=>rfl)) aj)))) (kl (iF (v5 Cy Cy (aF (aw (K:=K) rfl) (pv 6) (pv 8) (fun _ _=>rfl)) (aF (aw (K:=K) rfl) (pv 5) (pv 8) (fun _ _=>rfl)) (aF (aw (K:=K) rfl) (pv 7) (pv 8) (fun _ _=>rfl))))))) (aA (bg kZ)) cw))))))
   (aA (bg (mO (GQ hr.units) (aR G_law_sums (hr.mono (by decide)) rfl E_law_sums.mg E_law_sums.fn.kp E_law_sums.bd .nil bz (af (pv 0) aj)) (bM (af (pv 1) (af (pv 2) aj))) (bK _)))))),cq (Γn:=[]) (N:=lE) (az (fL (lA (iQ (qe (EM.er (iB px (ES.er (aa 0)))))) (bo (EM.er (ax BX (EM.er (bp cT (ai (ES.er (aa 0)) au))) (EM.er (bp cT (ai (ES.er (aa 1)) au))))))) (bf (M:=[]) lq) cv)
   (az (eQ (D7 (aa 0) (aa 3) (aa 4)) (uu (cY (aM 5) (cY (aM 6) (cY (aM 7) kU)))) (az (fL (lA (iQ (qe (EM.er (iB px (ES.er (aa 5)))))) (bo (EM.er (ax BX (EM.er (bp cT (ai (ES.er (aa 5)) au))) (EM.er (bp cT (ai (ES.er (aa 2)) au))))))) (bf (M:=[]) lq) cv)
   (eQ (cx (ai (EM.er (bp cT (ai (ES.er (aa 5)) au))) au)) (aM 8) (fL (lA (iQ (qe (EM.er (aX (S:=ed) jZ (ai (ES.er (aE (aa 5) (ES.er (aa 8)))) au))))) (iQ (bo (EM.er (wa mm mm (ES.er (aE (aa 6) (ES.er (aa 8)))) (ES.er (aE (aa 5) (ES.er (aa 8)))) (ES.er (aE (aa 7) (ES.er (aa 8))))))))) (bf (M:=[]) lq) cv))))
   (bf (M:=[]) (ax He (EM.er (aX (S:=dS) jo (ai (ES.er (aa 0)) au))) (xD (ai (ES.er (aa 1)) (ai (ES.er (aa 2)) au))))))) (fun ds P hS=>?_) h⟩
 obtain ⟨t,low,high,rows,cols,n,m,rfl,hL,hH,n1,n8,m1,m8,lr,lc,hB,hP⟩:=hS
 rw[show aZ lE [dT t,dI rows,dI cols,dT low,dT high]=[some (dT t),some (dI rows),some (dI cols),some (dT low),some (dT high),none,none,none,none] from rfl]
 have ll:=hL.1
 have lh:=hH.1
 have lt:=hB.rt.1
 walk_at "go"
 rw[if_neg (by omega)]
 walk_at "go"
 rw[zS (by omega) (by omega),lt]
 refine jD (as:=List.range n) (f:=fun i=>L3.D.tup [dI (rowAt t i),dI (rowAt low i),dI (rowAt high i)]) (fun i δ=>∃(o5 o6 o7 o8:Option D),δ=[some (dT t),some (dI rows),some (dI cols),some (dT low),some (dT high),o5,o6,o7,o8]) ⟨none,none,none,none,rfl⟩ ?_ ?_
 ·rintro i i' δ N e ⟨o5,o6,o7,o8,rfl⟩ hN
  obtain ⟨q1,q2⟩:=List.getElem?_eq_some_iff.mp e
  rw[List.getElem_range] at q2
  subst q2
  have hi:i<n:=by rw[List.length_range] at q1;exact q1
  have lrt:=hB.rt.row hi
  have lrl:=hL.row hi
  have lrh:=hH.row hi
  walk_at "go"
  rw[if_neg (by omega)]
  walk_at "go"
  rw[lrt]
  refine dY (lo:=0) (n:=m) (fun k δ=>∃(o8:Option D),δ=[some (dT t),some (dI rows),some (dI cols),some (dT low),some (dT high),some (dI (rowAt t i)),some (dI (rowAt low i)),some (dI (rowAt high i)),o8]) ⟨_,rfl⟩ ?_ ?_
  ·rintro k δ N' hk ⟨o8,rfl⟩ hN'
   rw[Int.zero_add]
   have hbd:=hB.bd i k hi hk
   walk_at "go"
   refine aL (by omega) ?_
   rw[Int.toNat_natCast]
   refine⟨_,rfl,?_⟩
   walk_at "go"
   refine aL (by omega) ?_
   rw[Int.toNat_natCast]
   refine aL (by omega) ?_
   rw[Int.toNat_natCast]
   walk_at "go"
   rw[if_pos hbd.1]
   refine aL (by omega) ?_
   rw[Int.toNat_natCast]
   walk_at "go"
   have z:(rowAt t i).getD k 0≤(rowAt high i).getD k 0:=hbd.2
   rw[if_neg (fun y=>y z)]
   exact hN' _ ⟨_,rfl⟩
  ·rintro δ ⟨o8,rfl⟩
   walk_at "go"
   exact hN _ ⟨_,_,_,_,rfl⟩
 ·rintro δ ⟨o5,o6,o7,o8,rfl⟩
  walk_at "go"
  refine⟨t,n,m,rfl,hB.rt,n1,n8,m1,m8,?_⟩
  walk_at "go"
  have e1:t.map List.sum=rows:=by
   refine List.ext_getElem (by rw[List.length_map];omega) fun i h1 h2=>?_
   have:=hB.rs i (by omega)
   unfold jt rowAt at this
   rw[List.getD_eq_getElem?_getD,List.getElem?_eq_getElem (by omega),List.getD_eq_getElem?_getD,List.getElem?_eq_getElem h2] at this
   rw[List.getElem_map]
   exact this
  have e2:jz m t=cols:=by
   refine List.ext_getElem (by unfold jz;rw[List.length_map,List.length_range];omega) fun j h1 h2=>?_
   have:=hB.cs j (by omega)
   rw[List.getD_eq_getElem?_getD,List.getElem?_eq_getElem h2] at this
   have h3:(jz m t)[j]?=some (ji t j):=by unfold jz;rw[List.getElem?_map,List.getElem?_range (by omega)];rfl
   rw[List.getElem?_eq_getElem h1] at h3
   exact (Option.some.inj h3).trans this
  rw[e1,e2]
  refine rS (xs:=[rows,cols]) (ys:=[rows,cols]) ?_
  rw[if_neg (by decide),decide_eq_true rfl]
  exact hP
theorem qj {U:List Nat}{n:Nat} (h:U.Pairwise (· < ·)) (hn:∀x∈U,x<n):U.length≤n :=
 Mat.wx (h.imp fun z=>Nat.ne_of_lt z) hn
theorem xb {U:List Nat}{k:Nat} (hk:k<U.length):(U.map fun (r:Nat)=>(r:Int)).getD k 0=((U[k]:Nat):Int):=by
 rw[List.getD_eq_getElem?_getD,List.getElem?_map,List.getElem?_eq_getElem hk];rfl
def eM:DSp:=fun ds P=>∃(U:List Nat) (n:Nat),ds=[dN U,.int (n:Int)]∧n≤8∧U.Pairwise (· < ·)∧(∀x∈U,x<n)∧P (.bl true)
theorem jT:cE eM:=by
 intro xs P P' k h
 unfold eM at h ⊢
 grind
theorem qg:∀ds P,eM ds P→ds.length=2:=by
 intro ds P h
 obtain ⟨_,_,e,_⟩:=h
 rw[e];rfl
theorem rA {c:Cs}{f:Addr}{fd:FuncData} (F:FnAt K mg "_law_rising" dE eE f fd) (A_:Fns K mg c) (T:Txt K mg) (xs:Exs K mg base c):bc P w K mg base CX0 2 f fd eE (spP K eM):=by
 obtain ⟨f0,d0,E_law_whole⟩:=A_.h_law_whole
 have G_law_whole:bc P w K mg base CX0 1 f0 d0 d9 (spP K ed):=mZ E_law_whole A_ T xs
 refine F.fn.ok lp (fun vs H Q E h=>bB qg h) (fun cdv A outer s H vs Q E hr h=>?_)
 refine⟨_,(ak (fG (iF (jr (aB (fE (K:=K) rfl) (by rfl) T.isinstance_ boot_isinstance (af (pv 0) (af (kS (v:=.ty "list") rfl T.list_ boot_list rfl) aj))))) (aA (bg kZ)) cw)
   (ak (eK PassesOwn.never rfl (br rfl T.range_ (af (aB (aQ (K:=K) rfl) (by rfl) T.len_ PySem.boot_len (af (pv 0) aj)) aj)) (aH (i:=2) lp.nd rfl (by first | exact Or.inl rfl | exact Or.inr rfl)) (aA (fG (PW.pt (lu (iF (jr (aR G_law_whole (hr.mono (by decide)) rfl E_law_whole.mg E_law_whole.fn.kp E_law_whole.bd .nil bz (af (aF (aw (K:=K) rfl) (pv 0) (pv 2) (fun _ _=>rfl)) aj)))) (lu (iF (v5 Cy vp ar (aF (aw (K:=K) rfl) (pv 0) (pv 2) (fun _ _=>rfl)) (pv 1))) (kl (PW.pt (pk (bt we (pv 2) ar (bK _)) (mq (bt HS (aF (aw (K:=K) rfl) (pv 0) (aD gS (pv 2) ar) (fun _ _=>rfl)) (aF (aw (K:=K) rfl) (pv 0) (pv 2) (fun _ _=>rfl)) (bK _))))))))) (aA (bg kZ)) cw)))
   (aA (bg kZ)))),cq (Γn:=[]) (N:=jR) (az (fL (iQ (qe (EM.er (iB px (ES.er (aa 0)))))) (bf (M:=[]) lq) cv)
   (az (eQ (cx (ai (EM.er (bp cT (ai (ES.er (aa 0)) au))) au)) (aM 2) (fL (lA (iQ (qe (EM.er (aX (S:=ed) jZ (ai (ES.er (aE (aa 0) (ES.er (aa 2)))) au))))) (lA (iQ (bo (EM.er (wa mm mm (EM.er av) (ES.er (aE (aa 0) (ES.er (aa 2)))) (ES.er (aa 1)))))) (qt (bo (EM.er (ax mm (ES.er (aa 2)) (EM.er av)))) (bo (EM.er (ax mm (ES.er (aE (aa 0) (EM.er (ax bR (ES.er (aa 2)) (EM.er av))))) (ES.er (aE (aa 0) (ES.er (aa 2)))))))))) (bf (M:=[]) lq) cv))
   (bf (M:=[]) lq))) (fun ds P hS=>?_) h⟩
 obtain ⟨U,n,rfl,n8,hp,hn,hP⟩:=hS
 rw[show aZ jR [dN U,.int (n:Int)]=[some (dN U),some (.int (n:Int)),none] from rfl]
 have lU:=qj hp hn
 walk_at "go"
 refine dY (lo:=0) (n:=U.length) (fun i δ=>∃(o2:Option D),δ=[some (dN U),some (.int (n:Int)),o2]) ⟨none,rfl⟩ ?_ ?_
 ·rintro k δ N hk ⟨o2,rfl⟩ hN
  rw[Int.zero_add]
  have lm:(U.map fun (r:Nat)=>(r:Int)).length=U.length:=List.length_map ..
  have hk2:=hn _ (List.getElem_mem hk)
  walk_at "go"
  refine aL (by omega) ?_
  rw[Int.toNat_natCast,xb hk]
  refine⟨_,rfl,?_⟩
  walk_at "go"
  refine aL (by omega) ?_
  rw[Int.toNat_natCast,xb hk]
  walk_at "go"
  rw[if_pos (Int.natCast_nonneg _),if_neg (fun z=>z (by omega))]
  by_cases k0:0<k
  ·rw[if_pos (by omega)]
   have lt:=List.pairwise_iff_getElem.mp hp (k - 1) k (by omega) hk (by omega)
   refine aL (by omega) ?_
   rw[show ((k:Int) - 1).toNat=k - 1 by omega,xb (by omega)]
   refine aL (by omega) ?_
   rw[Int.toNat_natCast,xb hk]
   walk_at "go"
   rw[if_neg (by omega)]
   exact hN _ ⟨_,rfl⟩
  ·rw[if_neg (by omega)]
   exact hN _ ⟨_,rfl⟩
 ·rintro δ ⟨o2,rfl⟩
  walk_at "go"
  exact hP
theorem G4 {ns:List Int}{x:Int}:inD (.int x) (ns.map L3.D.int)=decide (x∈ns):=by
 have:inD (.int x) (ns.map L3.D.int)=true↔x∈ns:=by
  unfold inD inV
  rw[List.any_eq_true]
  constructor
  ·rintro ⟨v,hv,e⟩
   obtain ⟨d,hd,rfl⟩:=List.mem_map.mp hv
   obtain ⟨z,hz,rfl⟩:=List.mem_map.mp hd
   have e':(z == x)=true:=e
   rw[← eq_of_beq e'];exact hz
  ·intro h
   exact⟨.int x,List.mem_map.mpr ⟨.int x,List.mem_map.mpr ⟨x,h,rfl⟩,rfl⟩,by show (x == x)=true;exact beq_self_eq_true _⟩
 by_cases h:x∈ns
 ·rw[decide_eq_true h];exact this.mpr h
 ·rw[decide_eq_false h]
  cases e:inD (.int x) (ns.map L3.D.int) with
  | false=>rfl
  | true=>exact absurd (this.mp e) h
theorem G7 {neg:Bool}{x:Int}{ns:List Int}{P:DK} (h:P (.bl (if neg then !decide (x∈ns) else decide (x∈ns)))):vIn neg (.int x) (dI ns) P:=by
 refine⟨rfl,gk,?_⟩
 rw[G4]
 exact h
theorem Ib {U:List Nat}{k:Nat}:((k:Int)∈U.map fun (r:Nat)=>(r:Int))↔k∈U:=by
 rw[List.mem_map]
 exact ⟨fun ⟨a, ha, e⟩ => by have : a = k := by omega
                             rw[← this];exact ha,fun h=>⟨k,h,rfl⟩⟩
theorem sV {neg:Bool}{k:Nat}{U:List Nat}{P:DK} (h:P (.bl (if neg then !decide (k∈U) else decide (k∈U)))):vIn neg (.int (k:Int)) (dN U) P:=by
 refine G7 ?_
 rw[show decide ((k:Int)∈U.map fun (r:Nat)=>(r:Int))=decide (k∈U) from decide_eq_decide.mpr Ib]
 exact h
theorem CH {f:Nat→Int}{c:Nat}:∀{m:Nat},c<m→sN m (fun j=>if j=c then f j else 0)=f c
 | 0,h=>by omega
 | m+1,h=>by
  rw[dB]
  rcases Nat.lt_or_ge c m with z | z
  ·rw[CH z,if_neg (by omega)];omega
  ·have e:c=m:=by omega
   subst e
   rw[if_pos rfl,bj (g:=fun _=>0) (fun i hi=>if_neg (by omega)),cf];omega
theorem tQ {f:Nat→Int}{m:Nat}:∀{U:List Nat},U.Pairwise (· < ·)→(∀x∈U,x<m)→(U.map f).sum=sN m fun j=>if j∈U then f j else 0
 | [],_,_=>by
  rw[bj (g:=fun _=>0) (fun i _=>if_neg (List.not_mem_nil)),cf];rfl
 | c::U,hp,hn=>by
  obtain ⟨p1,p2⟩:=List.pairwise_cons.mp hp
  rw[List.map_cons,List.sum_cons,tQ p2 (fun x h=>hn x (List.mem_cons_of_mem _ h)),← CH (f:=f) (hn c List.mem_cons_self),← ik]
  refine bj fun j _=>?_
  by_cases z:j=c
  ·subst z
   rw[if_pos rfl,if_neg (fun h=>Nat.lt_irrefl _ (p1 j h)),if_pos List.mem_cons_self];omega
  ·rw[if_neg z]
   by_cases y:j∈U
   ·rw[if_pos y,if_pos (List.mem_cons_of_mem _ y)];omega
   ·rw[if_neg y,if_neg (fun h=>(List.mem_cons.mp h).elim z y)];rfl
def gC (low high:List (List Int)) (U V:List Nat) (i j:Nat):Int:=(if i∈U∧j∉V then cellAt high i j else 0) - (if i∉U∧j∈V then cellAt low i j else 0)
def gN:DSp:=fun ds P=>∃(rows cols:List Int) (low high:List (List Int)) (n m:Nat) (U V:List Nat),ds=[dN U,dN V,dI rows,dI cols,dT low,dT high]∧bF n m low∧bF n m high∧1≤n∧n≤8∧1≤m∧m≤8∧rows.length=n∧cols.length=m∧Ct n m rows cols low high U V∧P (.bl true)
theorem qY:cE gN:=by
 intro xs P P' k h
 unfold gN at h ⊢
 grind
theorem uS:∀ds P,gN ds P→ds.length=6:=by
 intro ds P h
 obtain ⟨_,_,_,_,_,_,_,_,e,_⟩:=h
 rw[e];rfl
theorem uY {c:Cs}{f:Addr}{fd:FuncData} (F:FnAt K mg "_law_bars" dP fQ f fd) (A_:Fns K mg c) (T:Txt K mg) (xs:Exs K mg base c):bc P w K mg base CX0 3 f fd fQ (spP K gN):=by
 obtain ⟨f0,d0,E_law_rising⟩:=A_.h_law_rising
 have G_law_rising:bc P w K mg base CX0 2 f0 d0 eE (spP K eM):=rA E_law_rising A_ T xs
 refine F.fn.ok gg (fun vs H Q E h=>bB uS h) (fun cdv A outer s H vs Q E hr h=>?_)
 refine⟨_,(ak (fG (PW.pt (lu (iF (jr (aR G_law_rising (hr.mono (by decide)) rfl E_law_rising.mg E_law_rising.fn.kp E_law_rising.bd .nil bz (af (pv 0) (af (aB (aQ (K:=K) rfl) (by rfl) T.len_ PySem.boot_len (af (pv 2) aj)) aj))))) (kl (iF (jr (aR G_law_rising (hr.mono (by decide)) rfl E_law_rising.mg E_law_rising.fn.kp E_law_rising.bd .nil bz (af (pv 1) (af (aB (aQ (K:=K) rfl) (by rfl) T.len_ PySem.boot_len (af (pv 3) aj)) aj)))))))) (aA (bg kZ)) cw)
   (ak (aP (i:=6) gg.nd rfl (by first | exact Or.inl rfl | exact Or.inr rfl) (aB (dX (K:=K) rfl rfl) (by rfl) T.sum_ boot_sum (af (bO (aO.of (sc0:=(aq dP)) (tn:=["_law_j"]) (cap:=["_law_columns"]) (idx:=[3]) (by decide +kernel) rfl rfl) (cI (K:=K) rfl (pv 1)) (fB.name (by decide)) (fun _ _ _ _ _=>aH (i:=0) (aN (l:=["_law_j","_law_columns"]) (by decide +kernel)) rfl (by first | exact Or.inl rfl | exact Or.inr rfl) (by first | exact .inl rfl | exact .inr rfl)) (fun _ _ _ _ _=>(aF (aw (K:=K) rfl) (pv 1) (pv 0) (fun _ _=>rfl)))) aj)))
   (ak (eK PassesOwn.never rfl (br rfl T.range_ (af (aB (aQ (K:=K) rfl) (by rfl) T.len_ PySem.boot_len (af (pv 2) aj)) aj)) (aH (i:=7) gg.nd rfl (by first | exact Or.inl rfl | exact Or.inr rfl)) (aA (eK PassesOwn.never rfl (br rfl T.range_ (af (aB (aQ (K:=K) rfl) (by rfl) T.len_ PySem.boot_len (af (pv 3) aj)) aj)) (aH (i:=8) gg.nd rfl (by first | exact Or.inl rfl | exact Or.inr rfl)) (ak (fG (PW.pt (pk (bt (Cn (K:=K) rfl) (pv 7) (pv 0) (by with_unfolding_all rfl)) (mq (bt (sG (K:=K) rfl) (pv 8) (pv 1) (by with_unfolding_all rfl))))) (aA (aP (i:=6) gg.nd rfl (by first | exact Or.inl rfl | exact Or.inr rfl) (aD cA (pv 6) (aF (aw (K:=K) rfl) (aF (aw (K:=K) rfl) (pv 5) (pv 7) (fun _ _=>rfl)) (pv 8) (fun _ _=>rfl))))) cw)
   (aA (fG (PW.pt (pk (bt (sG (K:=K) rfl) (pv 7) (pv 0) (by with_unfolding_all rfl)) (mq (bt (Cn (K:=K) rfl) (pv 8) (pv 1) (by with_unfolding_all rfl))))) (aA (aP (i:=6) gg.nd rfl (by first | exact Or.inl rfl | exact Or.inr rfl) (aD gS (pv 6) (aF (aw (K:=K) rfl) (aF (aw (K:=K) rfl) (pv 4) (pv 7) (fun _ _=>rfl)) (pv 8) (fun _ _=>rfl))))) cw))))))
   (aA (bg (mO we (aB (dX (K:=K) rfl rfl) (by rfl) T.sum_ boot_sum (af (bO (aO.of (sc0:=(aq dP)) (tn:=["_law_k"]) (cap:=["_law_rows"]) (idx:=[2]) (by decide +kernel) rfl rfl) (cI (K:=K) rfl (pv 0)) (fB.name (by decide)) (fun _ _ _ _ _=>aH (i:=0) (aN (l:=["_law_k","_law_rows"]) (by decide +kernel)) rfl (by first | exact Or.inl rfl | exact Or.inr rfl) (by first | exact .inl rfl | exact .inr rfl)) (fun _ _ _ _ _=>(aF (aw (K:=K) rfl) (pv 1) (pv 0) (fun _ _=>rfl)))) aj)) (pv 6) (bK _))))))),cq (Γn:=[]) (N:=lH) (az (fL (lA (iQ (qe (EM.er (aX (S:=eM) jT (ai (ES.er (aa 0)) (ai (EM.er (bp cT (ai (ES.er (aa 2)) au))) au)))))) (iQ (qe (EM.er (aX (S:=eM) jT (ai (ES.er (aa 1)) (ai (EM.er (bp cT (ai (ES.er (aa 3)) au))) au))))))) (bf (M:=[]) lq) cv)
   (az (ST.post (Γn:=[]) (aU 6 (EM.es (bp kn (ai (EM.er (bD (dH (aa 1)) (aM 0) (ER.aY (ES.er (aE (aa 1) (ES.er (aa 0))))))) au)))))
   (az (eQ (cx (ai (EM.er (bp cT (ai (ES.er (aa 2)) au))) au)) (aM 7) (eQ (cx (ai (EM.er (bp cT (ai (ES.er (aa 3)) au))) au)) (aM 8) (az (fL (qt (bo (EM.er (ax D9 (ES.er (aa 7)) (ES.er (aa 0))))) (bo (EM.er (ax D9 (ES.er (aa 8)) (ES.er (aa 1)))))) (ST.post (Γn:=[]) (aU 6 (EM.es (ax bR (ES.er (aa 6)) (ES.er (aE (aE (aa 5) (ES.er (aa 7))) (ES.er (aa 8)))))))) cv)
   (fL (qt (bo (EM.er (ax D9 (ES.er (aa 7)) (ES.er (aa 0))))) (bo (EM.er (ax D9 (ES.er (aa 8)) (ES.er (aa 1)))))) (ST.post (Γn:=[]) (aU 6 (EM.es (ax bR (ES.er (aa 6)) (ES.er (aE (aE (aa 4) (ES.er (aa 7))) (ES.er (aa 8)))))))) cv))))
   (bf (M:=[]) (ax mm (EM.er (bp kn (ai (EM.er (bD (dH (aa 0)) (aM 0) (ER.aY (ES.er (aE (aa 1) (ES.er (aa 0))))))) au))) (ES.er (aa 6))))))) (fun ds P hS=>?_) h⟩
 obtain ⟨rows,cols,low,high,n,m,U,V,rfl,hL,hH,n1,n8,m1,m8,lr,lc,hC,hP⟩:=hS
 rw[show aZ lH [dN U,dN V,dI rows,dI cols,dT low,dT high]=[some (dN U),some (dN V),some (dI rows),some (dI cols),some (dT low),some (dT high),none,none,none] from rfl]
 have ll:=hL.1
 have lh:=hH.1
 have lU:=qj hC.up1 hC.l1
 have lV:=qj hC.up2 hC.l2
 have cut:=hC.cut
 unfold Cut at cut
 rw[← tQ (f:=fun j=>cols.getD j 0) hC.up2 hC.l2,← tQ (f:=fun i=>rows.getD i 0) hC.up1 hC.l1] at cut
 walk_at "go"
 refine⟨U,n,by rw[lr],n8,hC.up1,hC.l1,?_⟩
 walk_at "go"
 refine⟨V,m,by rw[lc],m8,hC.up2,hC.l2,?_⟩
 walk_at "go"
 refine ie (as:=V) (f:=fun (r:Nat)=>L3.D.int (r:Int)) (g:=fun (r:Nat)=>.int (cols.getD r 0)) (fun R h=>?_) (by omega) (fun j hj R h=>?_) ?_
 ·walk_at "go"
  rw[List.map_map]
  exact h
 ·have:=hC.l2 j hj
  walk_at "gb"
  refine aL (by omega) ?_
  rw[Int.toNat_natCast]
  exact⟨rfl,h⟩
 rw[show V.map (fun (r:Nat)=>L3.D.int (cols.getD r 0))=(V.map fun (r:Nat)=>cols.getD r 0).map L3.D.int by rw[List.map_map];rfl]
 walk_at "go"
 rw[lr]
 refine dY (lo:=0) (n:=n) (fun i δ=>∃(o7 o8:Option D),δ=[some (dN U),some (dN V),some (dI rows),some (dI cols),some (dT low),some (dT high),some (.int ((V.map fun j=>cols.getD j 0).sum+sN i fun i=>sN m fun j=>gC low high U V i j)),o7,o8]) ⟨none,none,by rw[yl,Int.add_zero]⟩ ?_ ?_
 ·rintro i δ N hi ⟨o7,o8,rfl⟩ hN
  rw[Int.zero_add]
  walk_at "go"
  rw[lc]
  refine dY (lo:=0) (n:=m) (fun j δ=>∃(o8:Option D),δ=[some (dN U),some (dN V),some (dI rows),some (dI cols),some (dT low),some (dT high),some (.int ((V.map fun j=>cols.getD j 0).sum+(sN i fun i=>sN m fun j=>gC low high U V i j)+sN j fun j=>gC low high U V i j)),some (.int (i:Int)),o8]) ⟨o8,by rw[yl,Int.add_zero]⟩ ?_ ?_
  ·rintro j δ N' hj ⟨o8,rfl⟩ hN'
   rw[Int.zero_add]
   have lrl:=hL.row hi
   have lrh:=hH.row hi
   have fin:∀z:Int,z=(V.map fun j=>cols.getD j 0).sum+(sN i fun i=>sN m fun j=>gC low high U V i j)+(sN j fun j=>gC low high U V i j)+gC low high U V i j→N' [some (dN U),some (dN V),some (dI rows),some (dI cols),some (dT low),some (dT high),some (.int z),some (.int (i:Int)),some (.int (j:Int))]:=fun z hz=>hN' _ ⟨some (.int (j:Int)),by rw[hz,dB (n:=j),← Int.add_assoc]⟩
   walk_at "go"
   refine sV ?_
   by_cases hiU:i∈U
   ·simp only[Bool.false_eq_true,if_false,decide_eq_true hiU]
    walk_at "go"
    refine sV ?_
    by_cases hjV:j∈V
    ·simp only[if_true,decide_eq_true hjV,Bool.not_true]
     walk_at "go"
     refine sV ?_
     simp only[if_true,decide_eq_true hiU,Bool.not_true]
     walk_at "go"
     refine fin _ ?_
     rw[show gC low high U V i j=0 by unfold gC;rw[if_neg (fun z=>z.2 hjV),if_neg (fun z=>z.1 hiU)];rfl,Int.add_zero]
    ·simp only[if_true,decide_eq_false hjV,Bool.not_false]
     walk_at "go"
     refine dZ (by omega) ?_
     rw[Int.toNat_natCast]
     walk_at "go"
     refine aL (by omega) ?_
     rw[Int.toNat_natCast]
     walk_at "go"
     refine sV ?_
     simp only[if_true,decide_eq_true hiU,Bool.not_true]
     walk_at "go"
     refine fin _ ?_
     rw[show gC low high U V i j=(rowAt high i).getD j 0 by unfold gC;rw[if_pos ⟨hiU,hjV⟩,if_neg (fun z=>z.1 hiU)];exact Int.sub_zero _]
   ·simp only[Bool.false_eq_true,if_false,decide_eq_false hiU]
    walk_at "go"
    refine sV ?_
    simp only[if_true,decide_eq_false hiU,Bool.not_false]
    walk_at "go"
    refine sV ?_
    by_cases hjV:j∈V
    ·simp only[Bool.false_eq_true,if_false,decide_eq_true hjV]
     walk_at "go"
     refine dZ (by omega) ?_
     rw[Int.toNat_natCast]
     walk_at "go"
     refine aL (by omega) ?_
     rw[Int.toNat_natCast]
     walk_at "go"
     refine fin _ ?_
     rw[show gC low high U V i j=0 - (rowAt low i).getD j 0 by unfold gC;rw[if_neg (fun z=>hiU z.1),if_pos ⟨hiU,hjV⟩]]
     omega
    ·simp only[Bool.false_eq_true,if_false,decide_eq_false hjV]
     walk_at "go"
     refine fin _ ?_
     rw[show gC low high U V i j=0 by unfold gC;rw[if_neg (fun z=>hiU z.1),if_neg (fun z=>hjV z.2)];rfl,Int.add_zero]
  ·rintro δ ⟨o8,rfl⟩
   walk_at "go"
   exact hN _ ⟨_,o8,by rw[dB (n:=i),← Int.add_assoc]⟩
 ·rintro δ ⟨o7,o8,rfl⟩
  walk_at "go"
  refine ie (as:=U) (f:=fun (r:Nat)=>L3.D.int (r:Int)) (g:=fun (r:Nat)=>.int (rows.getD r 0)) (fun R h=>?_) (by omega) (fun j hj R h=>?_) ?_
  ·walk_at "go"
   rw[List.map_map]
   exact h
  ·have:=hC.l1 j hj
   walk_at "gb"
   refine aL (by omega) ?_
   rw[Int.toNat_natCast]
   exact⟨rfl,h⟩
  rw[show U.map (fun (r:Nat)=>L3.D.int (rows.getD r 0))=(U.map fun (r:Nat)=>rows.getD r 0).map L3.D.int by rw[List.map_map];rfl]
  walk_at "go"
  have z:(V.map fun j=>cols.getD j 0).sum+(sN n fun i=>sN m fun j=>gC low high U V i j)<(U.map fun r=>rows.getD r 0).sum:=cut
  rw[decide_eq_true z]
  exact hP
theorem mx:∀{xs:List Int}{i:Nat}{v:Int},i<xs.length→(xs.set i v).sum=xs.sum+v - xs.getD i 0
 | x::xs,0,v,_=>by simp;omega
 | x::xs,i+1,v,h=>by
  have:=mx (xs:=xs) (i:=i) (v:=v) (by simpa using h)
  simp only[List.set_cons_succ,List.sum_cons,List.getD_cons_succ]
  omega
def fh:DSp:=fun ds P=>∃(r:List Int) (x s:Int),ds=[dI r,.int x,.int s]∧1≤r.length∧r.length≤8∧0≤x∧x<2 ^ 60∧0≤s∧s<2 ^ 90∧∀r':List Int,r'.length=r.length→r'.sum=r.sum→P (dI r')
theorem j7:cE fh:=by
 intro xs P P' k h
 unfold fh at h ⊢
 grind
theorem qU:∀ds P,fh ds P→ds.length=3:=by
 intro ds P h
 obtain ⟨_,_,_,e,_⟩:=h
 rw[e];rfl
theorem uJ {c:Cs}{f:Addr}{fd:FuncData} (F:FnAt K mg "_law_moved" d8 eW f fd) (A_:Fns K mg c) (T:Txt K mg) (xs:Exs K mg base c):bc P w K mg base CX0 1 f fd eW (spP K fh):=by
 refine F.fn.ok eI (fun vs H Q E h=>bB qU h) (fun cdv A outer s H vs Q E hr h=>?_)
 refine⟨_,(ak (aP (i:=3) eI.nd rfl (by first | exact Or.inl rfl | exact Or.inr rfl) (gL (fW (K:=K) rfl) (by rfl) T.list_ boot_list (af (pv 0) aj)))
   (ak (eK PassesOwn.never rfl (br rfl T.range_ (af (aD cz (pv 1) ar) aj)) (aH (i:=4) eI.nd rfl (by first | exact Or.inl rfl | exact Or.inr rfl)) (ak (aP (i:=1) eI.nd rfl (by first | exact Or.inl rfl | exact Or.inr rfl) (aD cy (pv 1) ar))
   (ak (aP (i:=5) eI.nd rfl (by first | exact Or.inl rfl | exact Or.inr rfl) (aD bQ (aD cA ar (aD cz (pv 1) ar)) (pv 2)))
   (ak (aP (i:=6) eI.nd rfl (by first | exact Or.inl rfl | exact Or.inr rfl) (aD cz (aD cy (pv 1) ar) (aB (aQ (K:=K) rfl) (by rfl) T.len_ PySem.boot_len (af (pv 3) aj))))
   (ak (aP (i:=7) eI.nd rfl (by first | exact Or.inl rfl | exact Or.inr rfl) (aD cz (aD cy (pv 1) ar) (aB (aQ (K:=K) rfl) (by rfl) T.len_ PySem.boot_len (af (pv 3) aj))))
   (ak (iM (aD gS (aF (aw (K:=K) rfl) (pv 3) (pv 6) (fun _ _=>rfl)) (pv 5)) (ku (pv 3) (pv 6) set_list))
   (aA (iM (aD cA (aF (aw (K:=K) rfl) (pv 3) (pv 7) (fun _ _=>rfl)) (pv 5)) (ku (pv 3) (pv 7) set_list)))))))))
   (aA (bg (pv 3))))),cq (Γn:=[3]) (N:=kG) (az (ST.post (Γn:=[3]) (dJ (M:=[]) 3 (bp ma (ai (ES.er (aa 0)) au))))
   (az (eQ (cx (ai (EM.er (ax aG (ES.er (aa 1)) (EM.er av))) au)) (aM 4) (az (ST.post (Γn:=[3]) (aU 1 (EM.es (ax aG (ES.er (aa 1)) (EM.er av)))))
   (az (ST.post (Γn:=[3]) (aU 5 (EM.es (ax aG (EM.er (ax bR (EM.er av) (EM.er (ax aG (ES.er (aa 1)) (EM.er av))))) (ES.er (aa 2))))))
   (az (ST.post (Γn:=[3]) (aU 6 (EM.es (ax aG (EM.er (ax aG (ES.er (aa 1)) (EM.er av))) (EM.er (bp cT (ai (gJ 3) au)))))))
   (az (ST.post (Γn:=[3]) (aU 7 (EM.es (ax aG (EM.er (ax aG (ES.er (aa 1)) (EM.er av))) (EM.er (bp cT (ai (gJ 3) au)))))))
   (az (jN 3 (ax bR (qI (gJ 3) (ES.er (aa 6))) (ES.er (aa 5))) (ES.er (aa 6)))
   (jN 3 (ax bR (qI (gJ 3) (ES.er (aa 7))) (ES.er (aa 5))) (ES.er (aa 7)))))))))
   (bf (M:=[3]) (fI 3)))) (fun ds P hS=>?_) h⟩
 obtain ⟨r,x,s',rfl,r1,r8,x0,x1,s0,s1,hP⟩:=hS
 rw[show aZ kG [dI r,.int x,.int s']=[some (dI r),some (.int x),some (.int s'),none,none,none,none,none] from rfl]
 have x4:=emod_lt (x:=x) (n:=4) (by omega)
 obtain ⟨c,hc⟩:∃c:Nat,x % 4=c:=⟨(x % 4).toNat,by omega⟩
 walk_at "go"
 rw[hc,Int.toNat_natCast]
 refine dY (lo:=0) (n:=c) (fun i δ=>∃(y:Int) (r':List Int) (o4 o5 o6 o7:Option D),δ=[some (dI r),some (.int y),some (.int s'),some (dI r'),o4,o5,o6,o7]∧0≤y∧y<2 ^ 60∧r'.length=r.length∧r'.sum=r.sum) ⟨x,r,none,none,none,none,rfl,x0,x1,rfl,rfl⟩ ?_ ?_
 ·rintro i δ N hi ⟨y,r',o4,o5,o6,o7,rfl,y0,y1,hl,hs⟩ hN
  rw[Int.zero_add]
  walk_at "go"
  have ha:=emod_lt (x:=y / 4 / 7) (n:=(r'.length:Int)) (by omega)
  have hb:=emod_lt (x:=y / 4 / 56) (n:=(r'.length:Int)) (by omega)
  obtain ⟨a,ea⟩:∃a:Nat,y / 4 / 7 % (r'.length:Int)=a:=⟨(y / 4 / 7 % (r'.length:Int)).toNat,by omega⟩
  obtain ⟨b,eb⟩:∃b:Nat,y / 4 / 56 % (r'.length:Int)=b:=⟨(y / 4 / 56 % (r'.length:Int)).toNat,by omega⟩
  rw[ea,eb]
  rw[ea] at ha
  rw[eb] at hb
  obtain ⟨q,hq⟩:∃q,(1+y / 4 % 7)*s'=q:=⟨_,rfl⟩
  rw[hq]
  refine jO (r:=r') (a:=(a:Int)) (v:=r'.getD a 0 - q) rfl (fun R h'=>?_) (fun R h'=>h') (by omega) ?_
  ·walk_at "v"
   refine aL (by omega) ?_
   rw[Int.toNat_natCast]
   walk_at "v"
   exact h'
  rw[Int.toNat_natCast]
  walk_at "v"
  refine jO (r:=r'.set a (r'.getD a 0 - q)) (a:=(b:Int)) (v:=(r'.set a (r'.getD a 0 - q)).getD b 0+q) rfl (fun R h'=>?_) (fun R h'=>h') (by rw[List.length_set];omega) ?_
  ·walk_at "v"
   refine aL (by rw[List.length_set];omega) ?_
   rw[Int.toNat_natCast]
   walk_at "v"
   exact h'
  rw[Int.toNat_natCast]
  exact hN _ ⟨_,_,_,_,_,_,rfl,by omega,by omega,by rw[List.length_set,List.length_set];exact hl,by rw[mx (by rw[List.length_set];omega),mx (by omega)];omega⟩
 ·rintro δ ⟨y,r',o4,o5,o6,o7,rfl,y0,y1,hl,hs⟩
  walk_at "go"
  exact hP r' hl hs
def fm:DSp:=fun ds P=>∃(x:D) (low high:List (List Int)) (rows cols:List Int) (n m:Nat),ds=[x,dI rows,dI cols,dT low,dT high]∧bF n m low∧bF n m high∧1≤n∧n≤8∧1≤m∧m≤8∧rows.length=n∧cols.length=m∧((∃t,x=.tup [.str "table",dT t]∧Bt n m rows cols low high t)∨(∃U V,x=.tup [.str "cut",dN U,dN V]∧Ct n m rows cols low high U V))∧P (.bl true)
theorem ke:cE fm:=by
 intro xs P P' k h
 unfold fm at h ⊢
 grind
theorem qW:∀ds P,fm ds P→ds.length=5:=by
 intro ds P h
 obtain ⟨_,_,_,_,_,_,_,e,_⟩:=h
 rw[e];rfl
theorem uP {c:Cs}{f:Addr}{fd:FuncData} (F:FnAt K mg "_law_right" ei eY f fd) (A_:Fns K mg c) (T:Txt K mg) (xs:Exs K mg base c):bc P w K mg base CX0 4 f fd eY (spP K fm):=by
 obtain ⟨f0,d0,E_law_bars⟩:=A_.h_law_bars
 have G_law_bars:bc P w K mg base CX0 3 f0 d0 fQ (spP K gN):=uY E_law_bars A_ T xs
 obtain ⟨f1,d1,E_law_lies⟩:=A_.h_law_lies
 have G_law_lies:bc P w K mg base CX0 2 f1 d1 fV (spP K gI):=wq E_law_lies A_ T xs
 refine F.fn.ok ui (fun vs H Q E h=>bB qW h) (fun cdv A outer s H vs Q E hr h=>?_)
 refine⟨_,(ak (fG (PW.pt (lu (iF (jr (aB (fE (K:=K) rfl) (by rfl) T.isinstance_ boot_isinstance (af (pv 0) (af (kS (v:=.ty "tuple") rfl T.tuple_ boot_tuple rfl) aj))))) (kl (bt vp (aB (aQ (K:=K) rfl) (by rfl) T.len_ PySem.boot_len (af (pv 0) aj)) ar (bK _))))) (aA (bg kZ)) cw)
   (ak (fG (bt qh (aF (eS (K:=K) rfl) (pv 0) ar (fun _ _=>rfl)) lN (bK _)) (aA (bg (xP (mO qh (aB (aQ (K:=K) rfl) (by rfl) T.len_ PySem.boot_len (af (pv 0) aj)) ar (bK _)) (xG (aR G_law_lies (hr.mono (by decide)) rfl E_law_lies.mg E_law_lies.fn.kp E_law_lies.bd .nil bz (af (aF (eS (K:=K) rfl) (pv 0) ar (fun _ _=>rfl)) (af (pv 1) (af (pv 2) (af (pv 3) (af (pv 4) aj)))))))))) cw)
   (ak (fG (PW.pt (lu (bt vc (aF (eS (K:=K) rfl) (pv 0) ar (fun _ _=>rfl)) lN (bK _)) (kl (bt vc (aB (aQ (K:=K) rfl) (by rfl) T.len_ PySem.boot_len (af (pv 0) aj)) ar (bK _))))) (aA (bg kZ)) cw)
   (aA (bg (aR G_law_bars (hr.mono (by decide)) rfl E_law_bars.mg E_law_bars.fn.kp E_law_bars.bd .nil bz (af (aF (eS (K:=K) rfl) (pv 0) ar (fun _ _=>rfl)) (af (aF (eS (K:=K) rfl) (pv 0) ar (fun _ _=>rfl)) (af (pv 1) (af (pv 2) (af (pv 3) (af (pv 4) aj)))))))))))),cq (Γn:=[]) (N:=jf) (az (fL (lA (iQ (qe (EM.er (iB kit_tuple (ES.er (aa 0)))))) (bo (EM.er (ax mm (EM.er (bp cT (ai (ES.er (aa 0)) au))) (EM.er av))))) (bf (M:=[]) lq) cv)
   (az (fL (bo (EM.er (ax xt (ES.er (gT (aa 0) (EM.er av))) (EM.er lY)))) (bf (M:=[]) (tJ (EM.er (ax xt (EM.er (bp cT (ai (ES.er (aa 0)) au))) (EM.er av))) (aX (S:=gI) ra (ai (ES.er (gT (aa 0) (EM.er av))) (ai (ES.er (aa 1)) (ai (ES.er (aa 2)) (ai (ES.er (aa 3)) (ai (ES.er (aa 4)) au)))))))) cv)
   (az (fL (lA (bo (EM.er (ax BX (ES.er (gT (aa 0) (EM.er av))) (EM.er lY)))) (bo (EM.er (ax BX (EM.er (bp cT (ai (ES.er (aa 0)) au))) (EM.er av))))) (bf (M:=[]) lq) cv)
   (bf (M:=[]) (aX (S:=gN) qY (ai (ES.er (gT (aa 0) (EM.er av))) (ai (ES.er (gT (aa 0) (EM.er av))) (ai (ES.er (aa 1)) (ai (ES.er (aa 2)) (ai (ES.er (aa 3)) (ai (ES.er (aa 4)) au))))))))))) (fun ds P hS=>?_) h⟩
 obtain ⟨x,low,high,rows,cols,n,m,rfl,hL,hH,n1,n8,m1,m8,lr,lc,hx,hP⟩:=hS
 rcases hx with ⟨t,rfl,hB⟩ | ⟨U,V,rfl,hC⟩
 ·rw[show aZ jf [.tup [.str "table",dT t],dI rows,dI cols,dT low,dT high]=[some (.tup [.str "table",dT t]),some (dI rows),some (dI cols),some (dT low),some (dT high)] from rfl]
  walk_at "go"
  rw[if_neg (by decide),if_pos (by decide)]
  exact⟨t,low,high,rows,cols,n,m,rfl,hL,hH,n1,n8,m1,m8,lr,lc,hB,hP⟩
 ·rw[show aZ jf [.tup [.str "cut",dN U,dN V],dI rows,dI cols,dT low,dT high]=[some (.tup [.str "cut",dN U,dN V]),some (dI rows),some (dI cols),some (dT low),some (dT high)] from rfl]
  walk_at "go"
  rw[if_neg (by decide),if_neg (by decide),if_neg (fun z=>z (by decide))]
  exact⟨rows,cols,low,high,n,m,U,V,rfl,hL,hH,n1,n8,m1,m8,lr,lc,hC,hP⟩
def gw:DSp:=fun ds P=>∃(ms:List Int) (m:Nat) (b:Int),ds=[dI ms,.int m,.int b]∧1≤ms.length∧ms.length≤63∧m≤100∧0<b∧b<2 ^ 100∧∀xs:List Int,xs.length=m→(∀x∈xs,0≤x∧x<b)→P (dI xs)
theorem oA:cE gw:=by
 intro xs P P' k h
 obtain ⟨ms,m,b,e,h1,h2,h3,h4,h5,h⟩:=h
 exact⟨ms,m,b,e,h1,h2,h3,h4,h5,fun xs a b=>k _ (h xs a b)⟩
theorem qv:∀ds P,gw ds P→ds.length=3:=by
 intro ds P h
 obtain ⟨_,_,_,e,_⟩:=h
 rw[e];rfl
theorem rH {c:Cs}{f:Addr}{fd:FuncData} (F:FnAt K mg "_law_digits" dG eJ f fd) (A_:Fns K mg c) (T:Txt K mg) (xs:Exs K mg base c):bc P w K mg base CX0 1 f fd eJ (spP K gw):=by
 refine F.fn.ok fK (fun vs H Q E h=>bB qv h) (fun cdv A outer s H vs Q E hr h=>?_)
 refine⟨_,(ak (aP (i:=3) fK.nd rfl (by first | exact Or.inl rfl | exact Or.inr rfl) (gL (fW (K:=K) rfl) (by rfl) T.list_ boot_list (af (pv 0) aj)))
   (ak (aP (i:=4) fK.nd rfl (by first | exact Or.inl rfl | exact Or.inr rfl) (bM aj))
   (ak (eK PassesOwn.never rfl (br rfl T.range_ (af (pv 1) aj)) (aH (i:=5) fK.nd rfl (by first | exact Or.inl rfl | exact Or.inr rfl)) (ak (aP (i:=6) fK.nd rfl (by first | exact Or.inl rfl | exact Or.inr rfl) (aD cz (pv 5) (aB (aQ (K:=K) rfl) (by rfl) T.len_ PySem.boot_len (af (pv 3) aj))))
   (ak (eA (jx PySem.F.plainAttrs_list PySem.F.slot_list_append PySem.F.type_list_append dy (pv 4) (af (aD cz (aF (aw (K:=K) rfl) (pv 3) (pv 6) (fun _ _=>rfl)) (pv 2)) aj)))
   (aA (iM (aD cy (aF (aw (K:=K) rfl) (pv 3) (pv 6) (fun _ _=>rfl)) (pv 2)) (ku (pv 3) (pv 6) set_list))))))
   (aA (bg (pv 4)))))),cq (Γn:=[4,3]) (N:=jJ) (az (ST.post (Γn:=[3]) (dJ (M:=[]) 3 (bp ma (ai (ES.er (aa 0)) au))))
   (az (ST.post (Γn:=[4,3]) (dJ (M:=[]) 4 (cn bG)))
   (az (eQ (cx (ai (ES.er (aa 1)) au)) (aM 5) (az (ST.post (Γn:=[4,3]) (aU 6 (EM.es (ax aG (ES.er (aa 5)) (EM.er (bp cT (ai (gJ 3) au)))))))
   (az (ST.post (Γn:=[4,3]) (eO (M:=[]) 4 (ax aG (qI (gJ 3) (ES.er (aa 6))) (ES.er (aa 2)))))
   (jN 3 (ax aG (qI (gJ 3) (ES.er (aa 6))) (ES.er (aa 2))) (ES.er (aa 6))))))
   (bf (M:=[4]) (fI 4))))) (fun ds P hS=>?_) h⟩
 obtain ⟨ms,m,b,rfl,h1,h63,hm,b0,b1,hP⟩:=hS
 rw[show aZ jJ [dI ms,.int m,.int b]=[some (dI ms),some (.int m),some (.int b),none,none,none,none] from rfl]
 walk_at "go"
 refine dY (fun i δ=>∃(left xs:List Int) (o5 o6:Option D),δ=[some (dI ms),some (.int m),some (.int b),some (dI left),some (dI xs),o5,o6]∧left.length=ms.length∧xs.length=i∧∀x∈xs,0≤x∧x<b) ⟨ms,[],none,none,rfl,rfl,rfl,fun _ h=>(nomatch h)⟩ ?_ ?_
 ·rintro i δ N hi ⟨left,xs,o5,o6,rfl,hl,hx,hx0⟩ hN
  walk_at "go"
  have h:=emod_lt (x:=0+(i:Int)) (n:=(left.length:Int)) (by omega)
  refine aL (by omega) ?_
  walk_at "go"
  have hb:=emod_lt (x:=left.getD ((0+(i:Int)) % left.length).toNat 0) (n:=b) b0
  refine jO (r:=left) (a:=(0+(i:Int)) % left.length) (v:=left.getD ((0+(i:Int)) % left.length).toNat 0 / b) rfl (fun R h'=>?_) (fun R h'=>h') (by omega) ?_
  ·walk_at "v"
   refine aL (by omega) ?_
   walk_at "v"
   exact⟨⟨b0,100,by omega,by decide⟩,h'⟩
  ·walk_at "v"
   rw[kM]
   refine hN _ ⟨_,_,_,_,rfl,by rw[List.length_set];exact hl,by rw[List.length_append,hx];rfl,fun y hy=>?_⟩
   rcases List.mem_append.mp hy with q | q
   ·exact hx0 y q
   ·rw[List.mem_singleton.mp q];exact hb
 ·rintro δ ⟨left,xs,o5,o6,rfl,hl,hx,hx0⟩
  walk_at "v"
  exact hP xs hx hx0
theorem memD {xs:List Int}{i:Nat}{b:Int} (h:∀x∈xs,0≤x∧x<b) (hi:i<xs.length):0≤xs.getD i 0∧xs.getD i 0<b:=by
 rw[List.getD_eq_getElem?_getD,List.getElem?_eq_getElem hi]
 exact h _ (List.getElem_mem _)
def cB:DSp:=fun ds P=>∃(ls ms:List Int) (n:Nat) (b:Int),ds=[dI ls,dI ms,.int b]∧ls.length=n∧n≤8∧2*n≤ms.length∧ms.length≤1000∧(∀x∈ms,0≤x∧x<b)∧0<b∧b<2 ^ 50∧∀r:List Int,r.length=n→P (dI r)
theorem iw:cE cB:=by
 intro xs P P' k h
 unfold cB at h ⊢
 grind
theorem lC:∀ds P,cB ds P→ds.length=3:=by
 intro ds P h
 obtain ⟨_,_,_,_,e,_⟩:=h
 rw[e];rfl
theorem mT {c:Cs}{f:Addr}{fd:FuncData} (F:FnAt K mg "_law_digit_sums" bN cD f fd) (A_:Fns K mg c) (T:Txt K mg) (xs:Exs K mg base c):bc P w K mg base CX0 1 f fd cD (spP K cB):=by
 refine F.fn.ok eT (fun vs H Q E h=>bB lC h) (fun cdv A outer s H vs Q E hr h=>?_)
 refine⟨_,(ak (aP (i:=3) eT.nd rfl (by first | exact Or.inl rfl | exact Or.inr rfl) (bM aj))
   (ak (eK PassesOwn.never rfl (br rfl T.range_ (af (aB (aQ (K:=K) rfl) (by rfl) T.len_ PySem.boot_len (af (pv 0) aj)) aj)) (aH (i:=4) eT.nd rfl (by first | exact Or.inl rfl | exact Or.inr rfl)) (ak (aP (i:=5) eT.nd rfl (by first | exact Or.inl rfl | exact Or.inr rfl) (aD cA (aF (aw (K:=K) rfl) (pv 1) (aD bQ ar (pv 4)) (fun _ _=>rfl)) (aD bQ (pv 2) (aF (aw (K:=K) rfl) (pv 1) (aD cA (aD bQ ar (pv 4)) ar) (fun _ _=>rfl)))))
   (aA (eA (jx PySem.F.plainAttrs_list PySem.F.slot_list_append PySem.F.type_list_append dy (pv 3) (af (aD gS (aD cA (aF (aw (K:=K) rfl) (pv 0) (pv 4) (fun _ _=>rfl)) (pv 5)) (aD cy (pv 2) ar)) aj))))))
   (aA (bg (pv 3))))),cq (Γn:=[3]) (N:=gR) (az (ST.post (Γn:=[3]) (dJ (M:=[]) 3 (cn bG)))
   (az (eQ (cx (ai (EM.er (bp cT (ai (ES.er (aa 0)) au))) au)) (aM 4) (az (ST.post (Γn:=[3]) (aU 5 (EM.es (ax bR (ES.er (aE (aa 1) (EM.er (ax aG (EM.er av) (ES.er (aa 4)))))) (EM.er (ax aG (ES.er (aa 2)) (ES.er (aE (aa 1) (EM.er (ax bR (EM.er (ax aG (EM.er av) (ES.er (aa 4)))) (EM.er av)))))))))))
   (ST.post (Γn:=[3]) (eO (M:=[]) 3 (ax bR (EM.er (ax bR (ES.er (aE (aa 0) (ES.er (aa 4)))) (ES.er (aa 5)))) (EM.er (ax aG (ES.er (aa 2)) (EM.er av))))))))
   (bf (M:=[3]) (fI 3)))) (fun ds P hS=>?_) h⟩
 obtain ⟨ls,ms,n,b,rfl,ll,n8,lm,lm2,hm,b0,b1,hP⟩:=hS
 rw[show aZ gR [dI ls,dI ms,.int b]=[some (dI ls),some (dI ms),some (.int b),none,none,none] from rfl]
 walk_at "go"
 rw[ll]
 refine dY (lo:=0) (n:=n) (fun i δ=>∃(r:List Int) (o4 o5:Option D),δ=[some (dI ls),some (dI ms),some (.int b),some (dI r),o4,o5]∧r.length=i) ⟨[],none,none,rfl,rfl⟩ ?_ ?_
 ·rintro k δ N hk ⟨r,o4,o5,rfl,hl⟩ hN
  rw[Int.zero_add]
  have m1:=memD hm (i:=2*k) (by omega)
  have m2:=memD hm (i:=2*k+1) (by omega)
  walk_at "go"
  refine aL (by omega) ?_
  walk_at "go"
  refine aL (by omega) ?_
  rw[show (2*(k:Int)+1).toNat=2*k+1 by omega]
  walk_at "go"
  refine aL (by omega) ?_
  rw[Int.toNat_natCast]
  walk_at "go"
  rw[kM]
  exact hN _ ⟨_,_,_,rfl,by rw[List.length_append,hl];rfl⟩
 ·rintro δ ⟨r,o4,o5,rfl,hl⟩
  walk_at "go"
  exact hP r hl
theorem zL {α:Type}{as:List α}{f:α→D}:L3.cutD (as.map f) (some 1) none=(as.drop 1).map f:=by
 unfold L3.cutD
 rw[List.length_map,HT.me,show (some (1:Int))=some ((1:Nat):Int) from rfl,HT.jP,List.map_drop]
 rcases Nat.lt_or_ge as.length 1 with h | h
 ·have:as=[]:=List.length_eq_zero_iff.mp (by omega)
  subst this;rfl
 ·rw[Nat.min_eq_left h,List.take_of_length_le (by rw[List.length_drop,List.length_map];exact Nat.le_refl _)]
theorem Eo {ns:List Int}{a b:Nat}{x y:Int} (hx:x=(a:Int)) (hy:y=(b:Int)) (hab:a≤b) (hb:b≤ns.length):∃ms:List Int,L3.cutD (ns.map L3.D.int) (some x) (some y)=ms.map L3.D.int∧ms.length=b - a∧∀z∈ms,z∈ns:=by
 subst hx;subst hy
 refine⟨(ns.drop a).take (b - a),?_,by rw[List.length_take,List.length_drop];omega,fun z h=>List.mem_of_mem_drop (List.mem_of_mem_take h)⟩
 unfold L3.cutD
 rw[List.length_map,HT.jP,HT.jP,Nat.min_eq_left hb,Nat.min_eq_left (by omega),← List.map_drop,← List.map_take]
theorem Gm {ns:List Int}{b:Nat}{y:Int} (hy:y=(b:Int)) (hb:b≤ns.length):∃ms:List Int,L3.cutD (ns.map L3.D.int) none (some y)=ms.map L3.D.int∧ms.length=b∧∀z∈ms,z∈ns:=by
 subst hy
 refine⟨ns.take b,?_,by rw[List.length_take];omega,fun z h=>List.mem_of_mem_take h⟩
 unfold L3.cutD
 rw[List.length_map,HT.me,HT.jP,Nat.min_eq_left hb,List.drop_zero,Nat.sub_zero,← List.map_take]
theorem wM {ns:List Int}{a:Nat}{x:Int} (hx:x=(a:Int)) (ha:a≤ns.length):∃ms:List Int,L3.cutD (ns.map L3.D.int) (some x) none=ms.map L3.D.int∧ms.length=ns.length - a∧∀z∈ms,z∈ns:=by
 subst hx
 refine⟨ns.drop a,?_,by rw[List.length_drop],fun z h=>List.mem_of_mem_drop h⟩
 unfold L3.cutD
 rw[List.length_map,HT.me,HT.jP,List.map_drop,Nat.min_eq_left ha,List.take_of_length_le (by rw[List.length_drop,List.length_map];exact Nat.le_refl _)]
theorem tF {i:Nat}{δ:Dl}{de dx:DE}{E:bh}{r:List Int}{v:Int} (hs:δ[i]?=some (some (dI r))) (hde:∀R:DK,R (.int v)→de δ R) (hdx:∀R:DK,R (.int (-1))→dx δ R) (h1:1≤r.length) (h:E.nx (δ.set i (some (dI (r.set (r.length - 1) v))))):kq i de dx E δ:=by
 unfold kq
 refine hde _ ((jc hs).mpr (hdx _ ?_))
 show match ixN (r.map L3.D.int).length (-1) with | some j=>E.nx (δ.set i (some (.lst ((r.map L3.D.int).set j (.int v))))) | none=>False
 rw[show ixN (r.map L3.D.int).length (-1)=some (r.length - 1) by
  unfold ixN
  rw[List.length_map,if_neg (by omega),if_pos (by omega)]
  congr 1
  omega]
 show E.nx (δ.set i (some (.lst ((r.map L3.D.int).set (r.length - 1) (.int v)))))
 rw[nQ];exact h
theorem rX {ns:List Int}{Q:DK} (h:0<ns.length) (k:Q (.int (ns.getD (ns.length - 1) 0))):asO (atI (ns.map L3.D.int) (-1)) Q:=by
 have:ixN (ns.map L3.D.int).length (-1)=some (ns.length - 1):=by
  unfold ixN
  rw[List.length_map,if_neg (by omega),if_pos (by omega)]
  congr 1;omega
 unfold atI
 rw[this]
 show asO ((ns.map L3.D.int)[ns.length - 1]?) Q
 rw[List.getElem?_map,List.getElem?_eq_getElem (by omega)]
 rw[List.getD_eq_getElem?_getD,List.getElem?_eq_getElem (by omega)] at k
 exact k
theorem BN {ds:List D}{i:Int}{Q:DK} (h:0≤i∧i<ds.length) (k:∀z∈ds,Q z):asO (atI ds i) Q:=by
 have e:atI ds i=ds[i.toNat]?:=by
  unfold atI ixN
  rw[if_pos h.1,if_pos h.2];rfl
 have hl:i.toNat<ds.length:=by omega
 rw[e,List.getElem?_eq_getElem hl,pJ]
 exact k _ (List.getElem_mem hl)
theorem gD {A R:DS}{E:bh}{δ:Dl} (h:∀R',R'=R→xi A R' E δ):xi A R E δ:=h R rfl
def cP:DSp:=fun ds P=>∃ns:List Int,ds=[.scr ns]∧1<ns.length∧ns.length≤63∧∀(rows cols:List Int) (low high:List (List Int)) (n m:Nat),1≤n→n≤8→1≤m→m≤8→bF n m low→bF n m high→Low n m low high→rows.length=n→cols.length=m→rows.sum=cols.sum→P (.lst [dI rows,dI cols,dT low,dT high])
theorem lR:cE cP:=by
 intro xs P P' k h
 unfold cP at h ⊢
 grind
theorem mj:∀ds P,cP ds P→ds.length=1:=by
 intro ds P h
 obtain ⟨_,e,_⟩:=h
 rw[e];rfl
theorem nk {c:Cs}{f:Addr}{fd:FuncData} (F:FnAt K mg "_law_by_digits" bE cQ f fd) (A_:Fns K mg c) (T:Txt K mg) (xs:Exs K mg base c):bc P w K mg base CX0 2 f fd cQ (spP K cP):=by
 obtain ⟨f0,d0,E_law_digits⟩:=A_.h_law_digits
 have G_law_digits:bc P w K mg base CX0 1 f0 d0 eJ (spP K gw):=rH E_law_digits A_ T xs
 obtain ⟨f1,d1,E_law_sums⟩:=A_.h_law_sums
 have G_law_sums:bc P w K mg base CX0 1 f1 d1 eL (spP K dS):=kj E_law_sums A_ T xs
 obtain ⟨f2,d2,E_law_digit_sums⟩:=A_.h_law_digit_sums
 have G_law_digit_sums:bc P w K mg base CX0 1 f2 d2 cD (spP K cB):=mT E_law_digit_sums A_ T xs
 refine F.fn.ok aV (fun vs H Q E h=>bB mj h) (fun cdv A outer s H vs Q E hr h=>?_)
 refine⟨_,(ak (aP (i:=1) aV.nd rfl (by first | exact Or.inl rfl | exact Or.inr rfl) (aD cA ar (aD cz (aD cy (aF (aw (K:=K) rfl) (pv 0) ar (fun _ _=>rfl)) ar) ar)))
   (ak (aP (i:=2) aV.nd rfl (by first | exact Or.inl rfl | exact Or.inr rfl) (aD cA ar (aD cz (aD cy (aF (aw (K:=K) rfl) (pv 0) ar (fun _ _=>rfl)) ar) ar)))
   (ak (aP (i:=3) aV.nd rfl (by first | exact Or.inl rfl | exact Or.inr rfl) (aF (aw (K:=K) rfl) (bM (af ar (af ar (af (aD ux ar ar) aj)))) (aD cz (aD cy (aF (aw (K:=K) rfl) (pv 0) ar (fun _ _=>rfl)) ar) ar) (fun _ _=>rfl)))
   (ak (aP (i:=4) aV.nd rfl (by first | exact Or.inl rfl | exact Or.inr rfl) (aR G_law_digits (hr.mono (by decide)) rfl E_law_digits.mg E_law_digits.fn.kp E_law_digits.bd .nil bz (af (iO (jE (K:=K) rfl) (pv 0) (ja ar) kO) (af (aD cA (aD cA (aD bQ (aD bQ ar (pv 1)) (pv 2)) (aD bQ ar (pv 1))) (aD bQ ar (pv 2))) (af (pv 3) aj)))))
   (ak (aP (i:=5) aV.nd rfl (by first | exact Or.inl rfl | exact Or.inr rfl) (bM aj))
   (ak (aP (i:=6) aV.nd rfl (by first | exact Or.inl rfl | exact Or.inr rfl) (bM aj))
   (ak (eK PassesOwn.never rfl (br rfl T.range_ (af (pv 1) aj)) (aH (i:=7) aV.nd rfl (by first | exact Or.inl rfl | exact Or.inr rfl)) (ak (aP (i:=8) aV.nd rfl (by first | exact Or.inl rfl | exact Or.inr rfl) (iO (jE (K:=K) rfl) (pv 4) (ja (aD bQ (aD bQ ar (pv 7)) (pv 2))) (ja (aD cA (aD bQ (aD bQ ar (pv 7)) (pv 2)) (aD bQ ar (pv 2))))))
   (ak (qw (i:=9) (aO.of (sc0:=(aq bE)) (tn:=["_law_digit"]) (cap:=["_law_base"]) (idx:=[3]) (by decide +kernel) rfl rfl) aV.nd rfl (by first | exact Or.inl rfl | exact Or.inr rfl) (cI (K:=K) rfl (iO (jE (K:=K) rfl) (pv 8) kO (ja (pv 2)))) (fB.name (by decide)) (fun _ _ _ _ _=>aH (i:=0) (aN (l:=["_law_digit","_law_base"]) (by decide +kernel)) rfl (by first | exact Or.inl rfl | exact Or.inr rfl) (by first | exact .inl rfl | exact .inr rfl)) (fun _ _ _ _ _=>(aD gS (pv 0) (aD cy (pv 1) ar))))
   (ak (eA (jx PySem.F.plainAttrs_list PySem.F.slot_list_append PySem.F.type_list_append dy (pv 5) (af (pv 9) aj)))
   (aA (eA (jx PySem.F.plainAttrs_list PySem.F.slot_list_append PySem.F.type_list_append dy (pv 6) (af (bO (aO.of (sc0:=(aq bE)) (tn:=["_law_one","_law_more"]) (cap:=[]) (idx:=[]) (by decide +kernel) rfl rfl) (t9 (K:=K) rfl rfl T.zip_ (af (pv 9) (af (iO (jE (K:=K) rfl) (pv 8) (ja (pv 2)) kO) aj))) (fB.tup (iH.cons (by decide) (iH.cons (by decide) iH.nil))) (fun _ _ _ _ _=>oS (K:=K) (n:=2) rfl rfl (cF (aH (i:=0) (aN (l:=["_law_one","_law_more"]) (by decide +kernel)) rfl (by first | exact Or.inl rfl | exact Or.inr rfl) (by first | exact .inl rfl | exact .inr rfl)) (cF (aH (i:=1) (aN (l:=["_law_one","_law_more"]) (by decide +kernel)) rfl (by first | exact Or.inl rfl | exact Or.inr rfl) (by first | exact .inl rfl | exact .inr rfl)) jS))) (fun _ _ _ _ _=>(aD cA (pv 0) (pv 1)))) aj))))))))
   (ak (aP (i:=10) aV.nd rfl (by first | exact Or.inl rfl | exact Or.inr rfl) (aR G_law_sums (hr.mono (by decide)) rfl E_law_sums.mg E_law_sums.fn.kp E_law_sums.bd .nil bz (af (pv 5) aj)))
   (ak (aP (i:=11) aV.nd rfl (by first | exact Or.inl rfl | exact Or.inr rfl) (iO (jE (K:=K) rfl) (pv 4) (ja (aD bQ (aD bQ ar (pv 1)) (pv 2))) kO))
   (ak (aP (i:=12) aV.nd rfl (by first | exact Or.inl rfl | exact Or.inr rfl) (aR G_law_digit_sums (hr.mono (by decide)) rfl E_law_digit_sums.mg E_law_digit_sums.fn.kp E_law_digit_sums.bd .nil bz (af (aF (aw (K:=K) rfl) (pv 10) ar (fun _ _=>rfl)) (af (pv 11) (af (pv 3) aj)))))
   (ak (aP (i:=13) aV.nd rfl (by first | exact Or.inl rfl | exact Or.inr rfl) (aR G_law_digit_sums (hr.mono (by decide)) rfl E_law_digit_sums.mg E_law_digit_sums.fn.kp E_law_digit_sums.bd .nil bz (af (aF (aw (K:=K) rfl) (pv 10) ar (fun _ _=>rfl)) (af (iO (jE (K:=K) rfl) (pv 11) (ja (aD bQ ar (pv 1))) kO) (af (pv 3) aj)))))
   (ak (iM (aD gS (aD cA (aF (aw (K:=K) rfl) (pv 13) (ya tV ar) (fun _ _=>rfl)) (aB (dX (K:=K) rfl rfl) (by rfl) T.sum_ boot_sum (af (pv 12) aj))) (aB (dX (K:=K) rfl rfl) (by rfl) T.sum_ boot_sum (af (pv 13) aj))) (ku (pv 13) (ya tV ar) set_list))
   (aA (bg (bM (af (pv 12) (af (pv 13) (af (pv 5) (af (pv 6) aj))))))))))))))))))),cq (Γn:=[13,12,6,5]) (N:=il) (az (ST.post (Γn:=[]) (aU 1 (EM.es (ax bR (EM.er av) (EM.er (ax aG (EM.er (ax aG (ES.er (aE (aa 0) (EM.er av))) (EM.er av))) (EM.er av)))))))
   (az (ST.post (Γn:=[]) (aU 2 (EM.es (ax bR (EM.er av) (EM.er (ax aG (EM.er (ax aG (ES.er (aE (aa 0) (EM.er av))) (EM.er av))) (EM.er av)))))))
   (az (ST.post (Γn:=[]) (aU 3 (aE (EM.es (cn (aT av (aT av (aT (ax aG (EM.er av) (EM.er av)) bG))))) (EM.er (ax aG (EM.er (ax aG (ES.er (aE (aa 0) (EM.er av))) (EM.er av))) (EM.er av))))))
   (az (ST.post (Γn:=[]) (aU 4 (EM.es (aX (S:=gw) oA (ai (EM.er (rT (ES.er (aa 0)) (or_some (EM.er av)) or_none)) (ai (EM.er (ax bR (EM.er (ax bR (EM.er (ax aG (EM.er (ax aG (EM.er av) (ES.er (aa 1)))) (ES.er (aa 2)))) (EM.er (ax aG (EM.er av) (ES.er (aa 1)))))) (EM.er (ax aG (EM.er av) (ES.er (aa 2)))))) (ai (ES.er (aa 3)) au)))))))
   (az (ST.post (Γn:=[5]) (dJ (M:=[]) 5 (cn bG)))
   (az (ST.post (Γn:=[6,5]) (dJ (M:=[]) 6 (cn bG)))
   (az (eQ (cx (ai (ES.er (aa 1)) au)) (aM 7) (az (ST.post (Γn:=[6,5]) (aU 8 (EM.es (rT (ES.er (aa 4)) (or_some (EM.er (ax aG (EM.er (ax aG (EM.er av) (ES.er (aa 7)))) (ES.er (aa 2))))) (or_some (EM.er (ax bR (EM.er (ax aG (EM.er (ax aG (EM.er av) (ES.er (aa 7)))) (ES.er (aa 2)))) (EM.er (ax aG (EM.er av) (ES.er (aa 2)))))))))))
   (az (ST.post (Γn:=[9,6,5]) (dJ (M:=[]) 9 (bD (dH (EM.es (rT (ES.er (aa 8)) or_none (or_some (ES.er (aa 2)))))) (aM 0) (ax bR (ES.er (aa 0)) (EM.er (ax aG (ES.er (aa 1)) (EM.er av)))))))
   (ST.post (Γn:=[6,5]) (Em 5 6 9 (EM.free (bD (xu (aa 9) (EM.es (rT (ES.er (aa 8)) (or_some (ES.er (aa 2))) or_none))) (uu (cY (aM 0) (cY (aM 1) kU))) (ax bR (ES.er (aa 0)) (ES.er (aa 1))))))))))
   (az (ST.post (Γn:=[6,5]) (aU 10 (EM.es (aX (S:=dS) jo (ai (gJ 5) au)))))
   (az (ST.post (Γn:=[6,5]) (aU 11 (EM.es (rT (ES.er (aa 4)) (or_some (EM.er (ax aG (EM.er (ax aG (EM.er av) (ES.er (aa 1)))) (ES.er (aa 2))))) or_none))))
   (az (ST.post (Γn:=[12,6,5]) (dJ (M:=[]) 12 (aX (S:=cB) iw (ai (ES.er (aE (aa 10) (EM.er av))) (ai (ES.er (aa 11)) (ai (ES.er (aa 3)) au))))))
   (az (ST.post (Γn:=[13,12,6,5]) (dJ (M:=[]) 13 (aX (S:=cB) iw (ai (ES.er (aE (aa 10) (EM.er av))) (ai (EM.er (rT (ES.er (aa 11)) (or_some (EM.er (ax aG (EM.er av) (ES.er (aa 1))))) or_none)) (ai (ES.er (aa 3)) au))))))
   (az (jN 13 (ax bR (EM.er (ax bR (qI (gJ 13) (EM.er (zp x9 (EM.er av)))) (EM.er (bp kn (ai (gJ 12) au))))) (EM.er (bp kn (ai (gJ 13) au)))) (EM.er (zp x9 (EM.er av))))
   (bf (M:=[12,13,5,6]) (cn (eB (fI 12) (eB (fI 13) (eB (fI 5) (eB (fI 6) bG)))))))))))))))))) (fun ds P hS=>?_) h⟩
 obtain ⟨ns,rfl,hz1,hz,hP⟩:=hS
 rw[show aZ il [.scr ns]=[some (.scr ns),none,none,none,none,none,none,none,none,none,none,none,none,none] from rfl]
 obtain ⟨x,hx⟩:∃x,ns.getD (0:Int).toNat 0=x:=⟨_,rfl⟩
 have h4:=emod_lt (x:=x / 2) (n:=4) (by omega)
 have h5:=emod_lt (x:=x / 8) (n:=5) (by omega)
 have h3:=emod_lt (x:=x / 64) (n:=3) (by omega)
 obtain ⟨n,en⟩:∃n:Nat,(1+x / 2 % 4:Int)=n:=⟨(1+x / 2 % 4).toNat,by omega⟩
 obtain ⟨m,em⟩:∃m:Nat,(1+x / 8 % 5:Int)=m:=⟨(1+x / 8 % 5).toNat,by omega⟩
 have n1:1≤n:=by omega
 have n4:n≤4:=by omega
 have m1:1≤m:=by omega
 have m5:m≤5:=by omega
 refine gD fun R1 e1=>?_
 walk_at "go"
 refine aL (by omega) ?_
 rw[hx]
 walk_at "go"
 rw[en]
 subst e1
 refine gD fun R1 e1=>?_
 walk_at "go"
 refine aL (by omega) ?_
 rw[hx]
 walk_at "go"
 rw[em]
 subst e1
 refine gD fun R1 e1=>?_
 walk_at "go"
 refine aL (by omega) ?_
 rw[hx]
 walk_at "go"
 refine BN (by simp only[List.length_cons,List.length_nil];omega) fun z hz'=>?_
 obtain ⟨b,rfl,b0,b1⟩:∃b:Int,z=.int b∧0<b∧b<2 ^ 50:=by
  simp only[List.mem_cons,List.not_mem_nil,or_false] at hz'
  rcases hz' with rfl | rfl | rfl
  ·exact⟨_,rfl,by decide,by decide⟩
  ·exact⟨_,rfl,by decide,by decide⟩
  ·exact⟨_,rfl,by decide,by decide⟩
 clear hz'
 subst e1
 have nm:n*m≤20:=Nat.mul_le_mul n4 m5
 have nmI:(2*(n:Int)*(m:Int))=((2*n*m:Nat):Int):=by rw[Int.natCast_mul,Int.natCast_mul];rfl
 have big:2*(n:Int)*(m:Int)+2*(n:Int)+2*(m:Int)=((2*n*m+2*n+2*m:Nat):Int):=by rw[nmI];omega
 have nmA:2*n*m=2*(n*m):=Nat.mul_assoc ..
 refine gD fun R1 e1=>?_
 walk_at "go"
 have ld:(ns.drop 1).length=ns.length - 1:=List.length_drop
 refine⟨ns.drop 1,2*n*m+2*n+2*m,b,by rw[zL,big],by omega,by omega,by omega,b0,by omega,fun dg lg hg=>?_⟩
 walk_at "go"
 subst e1
 refine gD fun R1 e1=>?_
 walk_at "go"
 subst e1
 refine gD fun R1 e1=>?_
 walk_at "go"
 subst e1
 refine gD fun R1 e1=>?_
 walk_at "go"
 refine dY (lo:=0) (n:=n) (fun k δ=>∃(low high:List (List Int)) (o7 o8:Option D),δ=[some (.scr ns),some (.int (n:Int)),some (.int (m:Int)),some (.int b),some (dI dg),some (dT low),some (dT high),o7,o8,none,none,none,none,none]∧bF k m low∧bF k m high∧Low k m low high) ⟨[],[],none,none,rfl,⟨rfl,fun r h=>(nomatch h)⟩,⟨rfl,fun r h=>(nomatch h)⟩,fun i j hi=>by omega⟩ ?_ ?_
 ·rintro k δ N hk ⟨low,high,o7,o8,rfl,hL,hH,hb⟩ hN
  have ll:=hL.1
  have lh:=hH.1
  rw[Int.zero_add]
  have km:k*m+m≤n*m:=by
   have:=Nat.mul_le_mul_right m (show k+1≤n by omega)
   rw[Nat.add_mul,Nat.one_mul] at this
   exact this
  have kmA:2*k*m=2*(k*m):=Nat.mul_assoc ..
  have kmI:(2*(k:Int)*(m:Int))=((2*k*m:Nat):Int):=by rw[Int.natCast_mul,Int.natCast_mul];rfl
  refine gD fun R2 e2=>?_
  walk_at "go"
  obtain ⟨sm,esm,lsm,hsm⟩:=Eo (ns:=dg) (a:=2*k*m) (b:=2*k*m+2*m) (x:=2*(k:Int)*m) (y:=2*(k:Int)*m+2*m) kmI (by rw[kmI];omega) (by omega) (by omega)
  rw[esm]
  have lsm:sm.length=2*m:=by omega
  have hgs:∀z∈sm,0≤z∧z<b:=fun z h=>hg z (hsm z h)
  walk_at "go"
  subst e2
  refine gD fun R2 e2=>?_
  walk_at "go"
  obtain ⟨s1,e_1,l_1,m_1⟩:=Gm (ns:=sm) (b:=m) (y:=(m:Int)) rfl (by omega)
  refine sP (ns:=s1) (g:=fun z=>.int (z - b / 2)) (fun R h=>?_) (by omega) (fun z hz R h=>?_) ?_
  ·walk_at "go"
   rw[e_1]
   exact h
  ·walk_at "gb"
   exact h
  rw[show s1.map (fun z=>L3.D.int (z - b / 2))=(s1.map fun z=>z - b / 2).map L3.D.int from iy]
  obtain ⟨ln,eln⟩:∃ln,(s1.map fun z=>z - b / 2)=ln:=⟨_,rfl⟩
  have lln:ln.length=m:=by rw[← eln,List.length_map];exact l_1
  rw[eln]
  walk_at "go"
  subst e2
  obtain ⟨s2,e_2,l_2,m_2⟩:=wM (ns:=sm) (a:=m) (x:=(m:Int)) rfl (by omega)
  refine (jc (ds:=low.map dI) rfl).mpr ((jc (ds:=high.map dI) rfl).mpr ⟨_,rfl,by rw[List.length_map];omega,by rw[List.length_map];omega,?_⟩)
  refine ie (as:=List.range m) (f:=fun j=>L3.D.tup [.int (ln.getD j 0),.int (s2.getD j 0)]) (g:=fun j=>.int (ln.getD j 0+s2.getD j 0)) (fun R h=>?_) (by rw[List.length_range];omega) (fun j hj R h=>?_) ?_
  ·unfold HI
   walk_at "go"
   rw[e_2]
   walk_at "go"
   rw[pV (by omega),lln]
   exact h
  ·walk_at "gb"
   exact h
  rw[iy]
  walk_at "go"
  rw[oY,show ∀f:Nat→Int,(List.range m).map (fun j=>L3.D.int (f j))=((List.range m).map f).map L3.D.int from fun f=>by rw[List.map_map];rfl,oY]
  refine hN _ ⟨_,_,_,_,rfl,kT hL lln,kT hH (by rw[List.length_map,List.length_range]),fun i j hi hj=>?_⟩
  by_cases z:i<k
  ·rw[mR ll z,mR lh z]
   exact hb i j z hj
  ·have:i=k:=by omega
   subst this
   rw[mF ll,mF lh,CG hj]
   have:=memD (b:=b) (fun z h=>hgs z (m_2 z h)) (i:=j) (by omega)
   omega
 ·rintro δ ⟨low,high,o7,o8,rfl,hL,hH,hb⟩
  have ll:=hL.1
  have lh:=hH.1
  subst e1
  dsimp only
  refine gD fun R1 e1=>?_
  walk_at "go"
  refine⟨low,n,m,rfl,hL,n1,by omega,m1,by omega,?_⟩
  have lrs:(low.map List.sum).length=n:=by rw[List.length_map];exact ll
  have lcs:(jz m low).length=m:=by unfold jz;rw[List.length_map,List.length_range]
  walk_at "go"
  subst e1
  refine gD fun R1 e1=>?_
  walk_at "go"
  obtain ⟨rs,ers,lrs',hrs⟩:=wM (ns:=dg) (a:=2*n*m) (x:=2*(n:Int)*m) nmI (by omega)
  rw[ers]
  have hgr:∀z∈rs,0≤z∧z<b:=fun z h=>hg z (hrs z h)
  walk_at "go"
  subst e1
  refine gD fun R1 e1=>?_
  walk_at "go"
  refine⟨low.map List.sum,rs,n,b,rfl,lrs,by omega,by omega,by omega,hgr,b0,b1,fun r lr=>?_⟩
  walk_at "go"
  subst e1
  refine gD fun R1 e1=>?_
  walk_at "go"
  obtain ⟨r2,er2,lr2,hr2⟩:=wM (ns:=rs) (a:=2*n) (x:=2*(n:Int)) (by omega) (by omega)
  rw[er2]
  refine⟨jz m low,r2,m,b,rfl,lcs,by omega,by omega,by omega,fun z h=>hgr z (hr2 z h),b0,b1,fun c lc=>?_⟩
  walk_at "go"
  subst e1
  refine gD fun R1 e1=>?_
  refine tF (r:=c) (v:=c.getD (c.length - 1) 0+r.sum - c.sum) rfl (fun R h=>?_) (fun R h=>?_) (by omega) ?_
  ·walk_at "go"
   refine rX (by omega) ?_
   walk_at "go"
   exact h
  ·walk_at "go"
   exact h
  subst e1
  walk_at "go"
  exact hP _ _ low high n m n1 (by omega) m1 (by omega) hL hH hb lr (by rw[List.length_set];exact lc) (by rw[mx (by omega)];omega)
def gi:DSp:=fun ds P=>∃ns:List Int,ds=[.scr ns]∧ns.length≤63∧∀(rows cols:List Int) (low high:List (List Int)) (n m:Nat),1≤n→n≤8→1≤m→m≤8→bF n m low→bF n m high→Low n m low high→rows.length=n→cols.length=m→rows.sum=cols.sum→P (.lst [dI rows,dI cols,dT low,dT high])
theorem qp:cE gi:=by
 intro xs P P' k h
 unfold gi at h ⊢
 grind
theorem rJ:∀ds P,gi ds P→ds.length=1:=by
 intro ds P h
 obtain ⟨_,e,_⟩:=h
 rw[e];rfl
theorem tG {c:Cs}{f:Addr}{fd:FuncData} (F:FnAt K mg "_law_drawn" cV eV f fd) (A_:Fns K mg c) (T:Txt K mg) (xs:Exs K mg base c):bc P w K mg base CX0 3 f fd eV (spP K gi):=by
 obtain ⟨f0,d0,E_law_deck⟩:=A_.h_law_deck
 have G_law_deck:bc P w K mg base CX0 1 f0 d0 fS (spP K gK):=vo E_law_deck A_ T xs
 obtain ⟨f1,d1,E_law_shape⟩:=A_.h_law_shape
 have G_law_shape:bc P w K mg base CX0 1 f1 d1 ft (spP K gf):=tZ E_law_shape A_ T xs
 obtain ⟨f2,d2,E_law_tops⟩:=A_.h_law_tops
 have G_law_tops:bc P w K mg base CX0 1 f2 d2 fY (spP K gP):=vE E_law_tops A_ T xs
 obtain ⟨f3,d3,E_law_spread⟩:=A_.h_law_spread
 have G_law_spread:bc P w K mg base CX0 2 f3 d3 eN (spP K fC):=rj E_law_spread A_ T xs
 obtain ⟨f4,d4,E_law_sums⟩:=A_.h_law_sums
 have G_law_sums:bc P w K mg base CX0 1 f4 d4 eL (spP K dS):=kj E_law_sums A_ T xs
 obtain ⟨f5,d5,E_law_by_digits⟩:=A_.h_law_by_digits
 have G_law_by_digits:bc P w K mg base CX0 2 f5 d5 cQ (spP K cP):=nk E_law_by_digits A_ T xs
 obtain ⟨f6,d6,E_law_moved⟩:=A_.h_law_moved
 have G_law_moved:bc P w K mg base CX0 1 f6 d6 eW (spP K fh):=uJ E_law_moved A_ T xs
 refine F.fn.ok cS (fun vs H Q E h=>bB rJ h) (fun cdv A outer s H vs Q E hr h=>?_)
 refine⟨_,(ak (fG (PW.pt (pk (bt we (aB (aQ (K:=K) rfl) (by rfl) T.len_ PySem.boot_len (af (pv 0) aj)) ar (bK _)) (mq (bt qh (aD cz (aF (aw (K:=K) rfl) (pv 0) ar (fun _ _=>rfl)) ar) ar (bK _))))) (aA (bg (aR G_law_by_digits (hr.mono (by decide)) rfl E_law_by_digits.mg E_law_by_digits.fn.kp E_law_by_digits.bd .nil bz (af (pv 0) aj)))) cw)
   (ak (aP (i:=1) cS.nd rfl (by first | exact Or.inl rfl | exact Or.inr rfl) (aR G_law_deck (hr.mono (by decide)) rfl E_law_deck.mg E_law_deck.fn.kp E_law_deck.bd .nil bz (af (pv 0) (af ar aj))))
   (ak (aP (i:=2) cS.nd rfl (by first | exact Or.inl rfl | exact Or.inr rfl) (aR G_law_shape (hr.mono (by decide)) rfl E_law_shape.mg E_law_shape.fn.kp E_law_shape.bd .nil bz (af (aF (aw (K:=K) rfl) (pv 1) ar (fun _ _=>rfl)) aj)))
   (ak (aP (i:=3) cS.nd rfl (by first | exact Or.inl rfl | exact Or.inr rfl) (aF (aw (K:=K) rfl) (bM (af ar (af (aD cA (aD ux ar ar) ar) aj))) (aD cy (aD cz (aF (aw (K:=K) rfl) (pv 1) ar (fun _ _=>rfl)) ar) ar) (fun _ _=>rfl)))
   (ak (aP (i:=4) cS.nd rfl (by first | exact Or.inl rfl | exact Or.inr rfl) (aR G_law_tops (hr.mono (by decide)) rfl E_law_tops.mg E_law_tops.fn.kp E_law_tops.bd .nil bz (af (pv 0) (af (aF (aw (K:=K) rfl) (pv 2) ar (fun _ _=>rfl)) (af (aF (aw (K:=K) rfl) (pv 2) ar (fun _ _=>rfl)) aj)))))
   (ak (iM (aR G_law_spread (hr.mono (by decide)) rfl E_law_spread.mg E_law_spread.fn.kp E_law_spread.bd .nil bz (af (pv 4) (af (pv 1) (af (pv 3) aj)))) (tX (K:=K) rfl rfl (cF (aH (i:=5) cS.nd rfl (by first | exact Or.inl rfl | exact Or.inr rfl)) (cF (aH (i:=6) cS.nd rfl (by first | exact Or.inl rfl | exact Or.inr rfl)) jS))))
   (ak (iM (aR G_law_sums (hr.mono (by decide)) rfl E_law_sums.mg E_law_sums.fn.kp E_law_sums.bd .nil bz (af (bO (aO.of (sc0:=(aq cV)) (tn:=["_law_line"]) (cap:=["_law_scale"]) (idx:=[3]) (by decide +kernel) rfl rfl) (cI (K:=K) rfl (pv 4)) (fB.name (by decide)) (fun _ _ _ _ _=>aH (i:=0) (aN (l:=["_law_line","_law_scale"]) (by decide +kernel)) rfl (by first | exact Or.inl rfl | exact Or.inr rfl) (by first | exact .inl rfl | exact .inr rfl)) (fun _ _ _ _ _=>(bO (aO.of (sc0:=(wG _ (aq cV))) (tn:=["_law_one"]) (cap:=["_law_scale"]) (idx:=[1]) (by decide +kernel) rfl rfl) (cI (K:=K) rfl (pv 0)) (fB.name (by decide)) (fun _ _ _ _ _=>aH (i:=0) (aN (l:=["_law_one","_law_scale"]) (by decide +kernel)) rfl (by first | exact Or.inl rfl | exact Or.inr rfl) (by first | exact .inl rfl | exact .inr rfl)) (fun _ _ _ _ _=>(aD bQ (pv 1) (pv 0)))))) aj)) (tX (K:=K) rfl rfl (cF (aH (i:=7) cS.nd rfl (by first | exact Or.inl rfl | exact Or.inr rfl)) (cF (aH (i:=8) cS.nd rfl (by first | exact Or.inl rfl | exact Or.inr rfl)) jS))))
   (aA (bg (bM (af (aR G_law_moved (hr.mono (by decide)) rfl E_law_moved.mg E_law_moved.fn.kp E_law_moved.bd .nil bz (af (pv 7) (af (aF (aw (K:=K) rfl) (pv 1) ar (fun _ _=>rfl)) (af (pv 3) aj)))) (af (aR G_law_moved (hr.mono (by decide)) rfl E_law_moved.mg E_law_moved.fn.kp E_law_moved.bd .nil bz (af (pv 8) (af (aF (aw (K:=K) rfl) (pv 1) ar (fun _ _=>rfl)) (af (pv 3) aj)))) (af (pv 5) (af (pv 6) aj)))))))))))))),cq (Γn:=[6,5]) (N:=j5) (az (fL (qt (bo (EM.er (ax mm (EM.er (bp cT (ai (ES.er (aa 0)) au))) (EM.er av)))) (bo (EM.er (ax xt (EM.er (ax aG (ES.er (aE (aa 0) (EM.er av))) (EM.er av))) (EM.er av))))) (bf (M:=[]) (aX (S:=cP) lR (ai (ES.er (aa 0)) au))) cv)
   (az (ST.post (Γn:=[]) (aU 1 (EM.es (aX (S:=gK) rF (ai (ES.er (aa 0)) (ai (EM.er av) au))))))
   (az (ST.post (Γn:=[]) (aU 2 (EM.es (aX (S:=gf) qz (ai (ES.er (aE (aa 1) (EM.er av))) au)))))
   (az (ST.post (Γn:=[]) (aU 3 (aE (EM.es (cn (aT av (aT (ax bR (EM.er (ax aG (EM.er av) (EM.er av))) (EM.er av)) bG)))) (EM.er (ax aG (EM.er (ax aG (ES.er (aE (aa 1) (EM.er av))) (EM.er av))) (EM.er av))))))
   (az (ST.post (Γn:=[]) (aU 4 (EM.es (aX (S:=gP) rC (ai (ES.er (aa 0)) (ai (ES.er (aE (aa 2) (EM.er av))) (ai (ES.er (aE (aa 2) (EM.er av))) au)))))))
   (az (ST.post (Γn:=[6,5]) (CV 5 6 (aX (S:=fC) oz (ai (ES.er (aa 4)) (ai (ES.er (aa 1)) (ai (ES.er (aa 3)) au))))))
   (az (yF (EM.es (aX (S:=dS) jo (ai (EM.er (bD (dH (aa 4)) (aM 0) (bD (dH (aa 0)) (aM 0) (ax aG (ES.er (aa 1)) (ES.er (aa 0)))))) au))) (Cb (cY (aM 7) (cY (aM 8) kU))))
   (bf (M:=[5,6]) (cn (eB (aX (S:=fh) j7 (ai (ES.er (aa 7)) (ai (ES.er (aE (aa 1) (EM.er av))) (ai (ES.er (aa 3)) au)))) (eB (aX (S:=fh) j7 (ai (ES.er (aa 8)) (ai (ES.er (aE (aa 1) (EM.er av))) (ai (ES.er (aa 3)) au)))) (eB (fI 5) (eB (fI 6) bG))))))))))))) (fun ds P hS=>?_) h⟩
 obtain ⟨ns,rfl,hz,hP⟩:=hS
 rw[show aZ j5 [.scr ns]=[some (.scr ns),none,none,none,none,none,none,none,none] from rfl]
 have byd:1<ns.length→cP [.scr ns] P:=fun h=>⟨ns,rfl,h,hz,hP⟩
 refine gD fun R1 e1=>?_
 have main:R1 (kg P) [some (.scr ns),none,none,none,none,none,none,none,none]:=by
  subst e1
  refine gD fun R1 e1=>?_
  walk_at "go"
  refine⟨ns,72,rfl,hz,by omega,fun dk ld hd=>?_⟩
  have dk0:∀j,j<72→0≤dk.getD j 0∧dk.getD j 0<2 ^ 60:=fun j hj=>by
   rw[List.getD_eq_getElem?_getD,List.getElem?_eq_getElem (by omega)]
   exact hd _ (List.getElem_mem _)
  subst e1
  refine gD fun R1 e1=>?_
  walk_at "go"
  refine aL (by omega) ?_
  refine⟨_,rfl,(dk0 0 (by omega)).1,fun n m n1 n8 m1 m8=>?_⟩
  subst e1
  refine gD fun R1 e1=>?_
  walk_at "go"
  refine aL (by omega) ?_
  walk_at "go"
  have v4:=emod_lt (x:=dk.getD (1:Int).toNat 0) (n:=4) (by omega)
  refine BN (by simp only[List.length_cons,List.length_nil];omega) fun z hz'=>?_
  obtain ⟨sc,rfl,s0,s1⟩:∃b:Int,z=.int b∧0≤b∧b<2 ^ 90:=by
   simp only[List.mem_cons,List.not_mem_nil,or_false] at hz'
   rcases hz' with rfl | rfl
   ·exact⟨_,rfl,by omega,by omega⟩
   ·exact⟨_,rfl,by omega,by decide⟩
  clear hz' v4
  subst e1
  refine gD fun R1 e1=>?_
  walk_at "go"
  refine⟨ns,n,m,rfl,hz,n1,n8,m1,m8,fun t0 hR0 hc=>?_⟩
  subst e1
  refine gD fun R1 e1=>?_
  unfold CQ
  walk_at "go"
  refine⟨t0,n,m,dk,sc,rfl,hR0,n1,n8,m1,m8,ld,hd,s0,s1,hc,fun low high hL hH hb0=>?_⟩
  walk_at "go"
  refine⟨_,_,rfl,?_⟩
  subst e1
  refine gD fun R1 e1=>?_
  walk_at "go"
  have lt0:=hR0.1
  refine iC (t:=t0) (g:=fun r=>dI (r.map fun z=>sc*z)) (fun R h=>h) (by omega) (fun r hr R h=>?_) ?_
  ·have lr:=hR0.2 r hr
   walk_at "gb"
   refine sP (ns:=r) (g:=fun z=>.int (sc*z)) (fun R h=>?_) (by omega) (fun z hz R h=>?_) ?_
   ·walk_at "gb"
    exact h
   ·walk_at "gb"
    refine⟨⟨90,11,by omega,?_,by decide⟩,h⟩
    obtain ⟨i,hi,rfl⟩:=List.mem_iff_getElem.mp hr
    obtain ⟨j,hj,rfl⟩:=List.mem_iff_getElem.mp hz
    have:=hc i j (by omega) (by omega)
    unfold cellAt at this
    rw[List.getD_eq_getElem?_getD (l:=t0),List.getElem?_eq_getElem hi] at this
    simp only[Option.getD_some] at this
    rw[List.getD_eq_getElem?_getD,List.getElem?_eq_getElem hj] at this
    simp only[Option.getD_some] at this
    omega
   ·rw[iy] at *
    exact h
  rw[show t0.map (fun r=>dI (r.map fun z=>sc*z))=(t0.map fun r=>r.map fun z=>sc*z).map dI by rw[List.map_map];rfl]
  obtain ⟨t,ht⟩:∃t,(t0.map fun r=>r.map fun z=>sc*z)=t:=⟨_,rfl⟩
  rw[ht]
  have hR:bF n m t:=by
   rw[← ht]
   exact⟨by rw[List.length_map];exact lt0,fun r hr=>by
    obtain ⟨q,hq,rfl⟩:=List.mem_map.mp hr
    rw[List.length_map];exact hR0.2 q hq⟩
  have hlow:Low n m low high:=fun i j hi hj=>Int.le_trans (hb0 i j hi hj).1 (hb0 i j hi hj).2
  refine⟨t,n,m,rfl,hR,n1,n8,m1,m8,?_⟩
  have lt:=hR.1
  have lrs:(t.map List.sum).length=n:=by rw[List.length_map];exact lt
  have lcs:(jz m t).length=m:=by unfold jz;rw[List.length_map,List.length_range]
  have gr:∀i,i<n→jt t i=(t.map List.sum).getD i 0:=fun i hi=>by
   rw[List.getD_eq_getElem?_getD,List.getElem?_map,List.getElem?_eq_getElem (by omega)]
   show jt t i=(t[i]).sum
   unfold jt rowAt
   rw[List.getD_eq_getElem?_getD,List.getElem?_eq_getElem (by omega)];rfl
  have gc:∀j,j<m→ji t j=(jz m t).getD j 0:=fun j hj=>by unfold jz;rw[CG hj]
  have hs:(t.map List.sum).sum=(jz m t).sum:=by
   rw[nv,nv,lrs,lcs,bj (g:=fun i=>sN m fun j=>cellAt t i j) (fun i hi=>by rw[← gr i hi,oU hR hi]),bj (n:=m) (g:=fun j=>sN n fun i=>cellAt t i j) (fun j hj=>by rw[← gc j hj,mL hR]),mi]
  obtain ⟨rows,hrows⟩:∃rows,t.map List.sum=rows:=⟨_,rfl⟩
  obtain ⟨cols,hcols⟩:∃cols,jz m t=cols:=⟨_,rfl⟩
  rw[hrows] at lrs hs ⊢
  rw[hcols] at lcs hs ⊢
  walk_at "go"
  subst e1
  walk_at "go"
  refine aL (by omega) ?_
  refine⟨rows,_,sc,rfl,by omega,by omega,(dk0 2 (by omega)).1,(dk0 2 (by omega)).2,s0,s1,fun r' l1 q1=>?_⟩
  walk_at "go"
  refine aL (by omega) ?_
  refine⟨cols,_,sc,rfl,by omega,by omega,(dk0 3 (by omega)).1,(dk0 3 (by omega)).2,s0,s1,fun c' l2 q2=>?_⟩
  walk_at "go"
  exact hP r' c' low high n m n1 n8 m1 m8 hL hH hlow (by omega) (by omega) (by rw[q1,q2];exact hs)
 walk_at "go"
 split
 ·refine aL (by omega) ?_
  walk_at "go"
  split
  ·exact byd (by omega)
  ·exact main
 ·exact main
def Good (n m:Nat) (rows cols:List Int) (low high:List (List Int)) (x:D):Prop:=(∃t,x=.tup [.str "table",dT t]∧Bt n m rows cols low high t)∨(∃U V,x=.tup [.str "cut",dN U,dN V]∧Ct n m rows cols low high U V)
theorem Bh {l h:List (List Int)}{P:DK} (k:P (.bl false)):zq true (L3.D.lst [dT l,dT h]) (L3.D.lst [dT l,dT h]) P:=by
 have e:L3.D.old (L3.D.lst [dT l,dT h])=some (.lst [L2.dT l,L2.dT h]):=by
  simp only[L3.D.old,L3.D.olds,nr,nI];rfl
 have p:L2.D.eF [L2.dT l,L2.dT h]=true:=by
  simp only[L2.D.eF,L2.D.plain,L2.D.i8,L2.D.ib,Bool.and_true,Bool.true_and]
 refine⟨_,_,e,e,p,p,?_,?_⟩
 ·have d3:=L2.D.jd l
  have d4:=L2.D.jd h
  simp only[L2.D.fH,L2.D.depth] at *
  omega
 ·simp only[L2.D.jF,L2.D.eqb,L2.D.nh,L2.D.kR,decide_true,Bool.and_true,Bool.true_and,if_true,Bool.not_true]
  exact k
def nZ:DSp:=fun ds P=>∃ns,ds=[.scr ns]∧ns.length≤63∧P (.bl true)
theorem CO {ns:List Int}{P:DK} (hl:ns.length≤63) (h:P (.bl true)):nZ [.scr ns] P:=⟨ns,rfl,hl,h⟩
theorem Hb:cE nZ:=by
 intro xs P P' k h
 unfold nZ at h ⊢
 grind
theorem DL:∀ds P,nZ ds P→ds.length=1:=by
 intro ds P h
 obtain ⟨_,e,_⟩:=h
 rw[e];rfl
theorem GL {c:Cs}{f:Addr}{fd:FuncData} (F:FnAt K mg "law" jA ql f fd) (A_:Fns K mg c) (T:Txt K mg) (xs:Exs K mg base c):bc P w K mg base CX0 7 f fd ql (spP K nZ):=by
 obtain ⟨f0,d0,E_law_drawn⟩:=A_.h_law_drawn
 have G_law_drawn:bc P w K mg base CX0 3 f0 d0 eV (spP K gi):=tG E_law_drawn A_ T xs
 obtain ⟨f1,d1,E_table_between⟩:=A_.h_table_between
 have G_table_between:bc P w K mg base (CXR P w) 6 f1 d1 cO (spX K (fP c)):=nH E_table_between A_ T xs
 obtain ⟨f2,d2,E_law_right⟩:=A_.h_law_right
 have G_law_right:bc P w K mg base CX0 4 f2 d2 eY (spP K fm):=uP E_law_right A_ T xs
 refine F.fn.ok iD (fun vs H Q E h=>bB DL h) (fun cdv A outer s H vs Q E hr h=>?_)
 refine⟨_,(ak (iM (aR G_law_drawn (hr.mono (by decide)) rfl E_law_drawn.mg E_law_drawn.fn.kp E_law_drawn.bd .nil bz (af (pv 0) aj)) (tX (K:=K) rfl rfl (cF (aH (i:=1) iD.nd rfl (by first | exact Or.inl rfl | exact Or.inr rfl)) (cF (aH (i:=2) iD.nd rfl (by first | exact Or.inl rfl | exact Or.inr rfl)) (cF (aH (i:=3) iD.nd rfl (by first | exact Or.inl rfl | exact Or.inr rfl)) (cF (aH (i:=4) iD.nd rfl (by first | exact Or.inl rfl | exact Or.inr rfl)) jS))))))
   (ak (aP (i:=5) iD.nd rfl (by first | exact Or.inl rfl | exact Or.inr rfl) (bM (af (gL (fW (K:=K) rfl) (by rfl) T.list_ boot_list (af (pv 1) aj)) (af (gL (fW (K:=K) rfl) (by rfl) T.list_ boot_list (af (pv 2) aj)) aj))))
   (ak (aP (i:=6) iD.nd rfl (by first | exact Or.inl rfl | exact Or.inr rfl) (bM (af (bO (aO.of (sc0:=(aq jA)) (tn:=["_law_line"]) (cap:=[]) (idx:=[]) (by decide +kernel) rfl rfl) (cI (K:=K) rfl (pv 3)) (fB.name (by decide)) (fun _ _ _ _ _=>aH (i:=0) (aN (l:=["_law_line"]) (by decide +kernel)) rfl (by first | exact Or.inl rfl | exact Or.inr rfl) (by first | exact .inl rfl | exact .inr rfl)) (fun _ _ _ _ _=>(gL (fW (K:=K) rfl) (by rfl) T.list_ boot_list (af (pv 0) aj)))) (af (bO (aO.of (sc0:=(aq jA)) (tn:=["_law_line"]) (cap:=[]) (idx:=[]) (by decide +kernel) rfl rfl) (cI (K:=K) rfl (pv 4)) (fB.name (by decide)) (fun _ _ _ _ _=>aH (i:=0) (aN (l:=["_law_line"]) (by decide +kernel)) rfl (by first | exact Or.inl rfl | exact Or.inr rfl) (by first | exact .inl rfl | exact .inr rfl)) (fun _ _ _ _ _=>(gL (fW (K:=K) rfl) (by rfl) T.list_ boot_list (af (pv 0) aj)))) aj))))
   (ak (aP (i:=7) iD.nd rfl (by first | exact Or.inl rfl | exact Or.inr rfl) (aR G_table_between (hr.mono (by decide)) rfl E_table_between.mg E_table_between.fn.kp E_table_between.bd .nil EL (af (aF (aw (K:=K) rfl) (pv 5) ar (fun _ _=>rfl)) (af (aF (aw (K:=K) rfl) (pv 5) ar (fun _ _=>rfl)) (af (aF (aw (K:=K) rfl) (pv 6) ar (fun _ _=>rfl)) (af (aF (aw (K:=K) rfl) (pv 6) ar (fun _ _=>rfl)) aj))))))
   (ak (fG (PW.pt (lu (iF (jr (aR G_law_right (hr.mono (by decide)) rfl E_law_right.mg E_law_right.fn.kp E_law_right.bd .nil bz (af (pv 7) (af (pv 1) (af (pv 2) (af (pv 3) (af (pv 4) aj)))))))) (lu (bt (qx hr.units) (pv 5) (bM (af (pv 1) (af (pv 2) aj))) (bK _)) (kl (bt (qx hr.units) (pv 6) (bM (af (pv 3) (af (pv 4) aj))) (bK _)))))) (aA (bg kZ)) cw)
   (ak (aP (i:=8) iD.nd rfl (by first | exact Or.inl rfl | exact Or.inr rfl) (aF (eS (K:=K) rfl) (pv 7) ar (fun _ _=>rfl)))
   (ak (eK PassesOwn.never rfl (CW (K:=K) rfl (iO (Dr (K:=K) rfl) (pv 7) (ja ar) kO)) (aH (i:=9) iD.nd rfl (by first | exact Or.inl rfl | exact Or.inr rfl)) (aA (eA (FU PySem.F.plainAttrs_list PySem.F.slot_list_clear PySem.F.type_list_clear Cr (pv 9)))))
   (ak (aP (i:=10) iD.nd rfl (by first | exact Or.inl rfl | exact Or.inr rfl) (aR G_table_between (hr.mono (by decide)) rfl E_table_between.mg E_table_between.fn.kp E_table_between.bd .nil EL (af (pv 1) (af (pv 2) (af (pv 3) (af (pv 4) aj))))))
   (aA (bg (xP (mO qh (aF (eS (K:=K) rfl) (pv 10) ar (fun _ _=>rfl)) (pv 8) (bK _)) (xG (aR G_law_right (hr.mono (by decide)) rfl E_law_right.mg E_law_right.fn.kp E_law_right.bd .nil bz (af (pv 10) (af (pv 1) (af (pv 2) (af (pv 3) (af (pv 4) aj)))))))))))))))))),cq (Γn:=[]) (N:=Aw) (az (yF (EM.es (aX (S:=gi) qp (ai (ES.er (aa 0)) au))) (Cb (cY (aM 1) (cY (aM 2) (cY (aM 3) (cY (aM 4) kU))))))
   (az (ST.post (Γn:=[]) (aU 5 (EM.es (cn (aT (bp ma (ai (ES.er (aa 1)) au)) (aT (bp ma (ai (ES.er (aa 2)) au)) bG))))))
   (az (ST.post (Γn:=[]) (aU 6 (EM.es (cn (aT (bD (dH (aa 3)) (aM 0) (bp ma (ai (ES.er (aa 0)) au))) (aT (bD (dH (aa 4)) (aM 0) (bp ma (ai (ES.er (aa 0)) au))) bG))))))
   (az (ST.post (Γn:=[7]) (dJ (M:=[]) 7 (B5 iW (ai (ES.er (aE (aa 5) (EM.er av))) (ai (ES.er (aE (aa 5) (EM.er av))) (ai (ES.er (aE (aa 6) (EM.er av))) (ai (ES.er (aE (aa 6) (EM.er av))) au)))))))
   (az (fL (lA (iQ (qe (EM.er (aX (S:=fm) ke (ai (gJ 7) (ai (ES.er (aa 1)) (ai (ES.er (aa 2)) (ai (ES.er (aa 3)) (ai (ES.er (aa 4)) au))))))))) (lA (bo (EM.er (ax vw (ES.er (aa 5)) (xD (ai (ES.er (aa 1)) (ai (ES.er (aa 2)) au)))))) (bo (EM.er (ax vw (ES.er (aa 6)) (xD (ai (ES.er (aa 3)) (ai (ES.er (aa 4)) au)))))))) (bf (M:=[]) lq) cv)
   (az (ST.post (Γn:=[7]) (aU 8 (EM.es (ER.aY (GD (gJ 7) (EM.er av))))))
   (az (ST.post (Γn:=[]) (zy 7 9))
   (az (ST.post (Γn:=[]) (aU 10 (EM.es (B5 iW (ai (ES.er (aa 1)) (ai (ES.er (aa 2)) (ai (ES.er (aa 3)) (ai (ES.er (aa 4)) au))))))))
   (bf (M:=[]) (tJ (EM.er (ax xt (ES.er (gT (aa 10) (EM.er av))) (ES.er (aa 8)))) (aX (S:=fm) ke (ai (ES.er (aa 10)) (ai (ES.er (aa 1)) (ai (ES.er (aa 2)) (ai (ES.er (aa 3)) (ai (ES.er (aa 4)) au)))))))))))))))) (fun ds P hS=>?_) h⟩
 obtain ⟨ns,rfl,hz,hP⟩:=hS
 rw[show aZ Aw [.scr ns]=[some (.scr ns),none,none,none,none,none,none,none,none,none,none] from rfl]
 refine gD fun R1 e1=>?_
 walk_at "go"
 refine⟨ns,rfl,hz,fun rows cols low high n m n1 n8 m1 m8 hL hH hlow lrs lcs hs=>?_⟩
 have ll:=hL.1
 have lh:=hH.1
 walk_at "go"
 subst e1
 refine gD fun R1 e1=>?_
 walk_at "go"
 subst e1
 refine gD fun R1 e1=>?_
 walk_at "go"
 refine ny (t:=low) (fun R h=>by walk_at "go";exact h) (by omega) (fun r hr R h=>by walk_at "gb";exact h) ?_
 refine ny (t:=high) (fun R h=>by walk_at "go";exact h) (by omega) (fun r hr R h=>by walk_at "gb";exact h) ?_
 walk_at "go"
 subst e1
 refine gD fun R1 e1=>?_
 have two:∀(w:Str) (ds:List D),(∀d∈ds,∃e,d=L3.D.lst e)→Good n m rows cols low high (.tup (.str w::ds))→(∀y,Good n m rows cols low high y→∃ds',y=.tup (.str w::ds'))→R1 (kg P) [some (.scr ns),some (dI rows),some (dI cols),some (dT low),some (dT high),some (.lst [dI rows,dI cols]),some (.lst [dT low,dT high]),some (.tup (.str w::ds)),none,none,none]:=by
  intro w ds hds hx same
  subst e1
  refine gD fun R1 e1=>?_
  walk_at "go"
  refine⟨_,low,high,rows,cols,n,m,rfl,hL,hH,n1,n8,m1,m8,lrs,lcs,hx,?_⟩
  walk_at "go"
  refine rS (xs:=[rows,cols]) (ys:=[rows,cols]) ?_
  rw[if_pos rfl,decide_eq_true rfl]
  walk_at "go"
  refine Bh (l:=low) (h:=high) ?_
  walk_at "go"
  subst e1
  refine gD fun R1 e1=>?_
  walk_at "go"
  subst e1
  refine gD fun R1 e1=>?_
  walk_at "go"
  refine⟨fun d hd=>hds d hd,?_⟩
  subst e1
  refine gD fun R1 e1=>?_
  have fin:∀(y:D),Good n m rows cols low high y→R1 (kg P) [some (.scr ns),some (dI rows),some (dI cols),some (dT low),some (dT high),some (.lst [dI rows,dI cols]),some (.lst [dT low,dT high]),none,some (.str w),none,some y]:=by
   intro y hy
   obtain ⟨ds',rfl⟩:=same y hy
   subst e1
   walk_at "go"
   first | rw[if_pos rfl] | skip
   exact⟨_,low,high,rows,cols,n,m,rfl,hL,hH,n1,n8,m1,m8,lrs,lcs,hy,hP⟩
  walk_at "go"
  exact⟨rows,cols,low,high,n,m,rfl,hL,hH,n1,by omega,m1,by omega,lrs,lcs,fun z=>absurd hlow z,fun _ z=>absurd hs z,fun _ _ t hB=>fin _ (.inl ⟨t,rfl,hB⟩),fun _ _ U V hC=>fin _ (.inr ⟨U,V,rfl,hC⟩)⟩
 walk_at "go"
 refine⟨rows,cols,low,high,n,m,rfl,hL,hH,n1,by omega,m1,by omega,lrs,lcs,fun z=>absurd hlow z,fun _ z=>absurd hs z,fun _ _ t hB=>?_,fun _ _ U V hC=>?_⟩
 ·refine two _ [dT t] (fun d hd=>⟨_,List.mem_singleton.mp hd⟩) (.inl ⟨t,rfl,hB⟩) fun y hy=>?_
  rcases hy with ⟨t',rfl,_⟩ | ⟨U,V,_,hC⟩
  ·exact⟨_,rfl⟩
  ·exact absurd hC.cut (Cm hB.rt hB.bd hB.rs hB.cs)
 ·refine two _ [dN U,dN V] (fun d hd=>?_) (.inr ⟨U,V,rfl,hC⟩) fun y hy=>?_
  ·rcases List.mem_cons.mp hd with rfl | hd
   ·exact⟨_,rfl⟩
   ·rw[List.mem_singleton.mp hd];exact⟨_,rfl⟩
  ·rcases hy with ⟨t',_,hB⟩ | ⟨U',V',rfl,_⟩
   ·exact absurd hC.cut (Cm hB.rt hB.bd hB.rs hB.cs)
   ·exact⟨_,rfl⟩
end
end Mine
set_option maxHeartbeats 16000000
namespace Mine
open PySem L2 PyProof.Rows
theorem all_mk {l:PySem.W.OpenLaw}{w:World}{K:PySem.W.Frag}{h:Heap}{mg:Str→Option Value}{fa f0 f1 f2 f3 f4 f5 f6 f7 f8 f9 f10 f11 f12 f13 f14 f15 f16 f17 f18 f19 f20 f21 f22 f23 f24 f25 f26 f27 f28 f29 f30 f31 f32 f33 f34:Addr} (X:K.In h) (G:h.Ns mainGlobals mg) (hfa:mg "law" = some (.ref fa))
  {od0 an0 od1 an1 od2 an2 od3 an3 od4 an4 od5 an5 od6 an6 od7 an7 od8 an8 od9 an9 od10 an10 od11 an11 od12 an12 od13 an13 od14 an14 od15 an15 od16 an16 od17 an17 od18 an18 od19 an19 od20 an20 od21 an21 od22 an22 od23 an23 od24 an24 od25 an25 od26 an26 od27 an27 od28 an28 od29 an29 od30 an30 od31 an31 od32 an32 od33 an33 od34 an34:Option Addr}{sl0 sl1 sl2 sl3 sl4 sl5 sl6 sl7 sl8 sl9 sl10 sl11 sl12 sl13 sl14 sl15 sl16 sl17 sl18 sl19 sl20 sl21 sl22 sl23 sl24 sl25 sl26 sl27 sl28 sl29 sl30 sl31 sl32 sl33 sl34:Array (Option Value)}{oc0 kV0 dc0 pm0 cd0 ct0 oc1 kV1 dc1 pm1 cd1 ct1 oc2 kV2 dc2 pm2 cd2 ct2 oc3 kV3 dc3 pm3 cd3 ct3 oc4 kV4 dc4 pm4 cd4 ct4 oc5 kV5 dc5 pm5 cd5 ct5 oc6 kV6 dc6 pm6 cd6 ct6 oc7 kV7 dc7 pm7 cd7 ct7 oc8 kV8 dc8 pm8 cd8 ct8 oc9 kV9 dc9 pm9 cd9 ct9 oc10 kV10 dc10 pm10 cd10 ct10 oc11 kV11 dc11 pm11 cd11 ct11 oc12 kV12 dc12 pm12 cd12 ct12 oc13 kV13 dc13 pm13 cd13 ct13 oc14 kV14 dc14 pm14 cd14 ct14 oc15 kV15 dc15 pm15 cd15 ct15 oc16 kV16 dc16 pm16 cd16 ct16 oc17 kV17 dc17 pm17 cd17 ct17 oc18 kV18 dc18 pm18 cd18 ct18 oc19 kV19 dc19 pm19 cd19 ct19 oc20 kV20 dc20 pm20 cd20 ct20 oc21 kV21 dc21 pm21 cd21 ct21 oc22 kV22 dc22 pm22 cd22 ct22 oc23 kV23 dc23 pm23 cd23 ct23 oc24 kV24 dc24 pm24 cd24 ct24 oc25 kV25 dc25 pm25 cd25 ct25 oc26 kV26 dc26 pm26 cd26 ct26 oc27 kV27 dc27 pm27 cd27 ct27 oc28 kV28 dc28 pm28 cd28 ct28 oc29 kV29 dc29 pm29 cd29 ct29 oc30 kV30 dc30 pm30 cd30 ct30 oc31 kV31 dc31 pm31 cd31 ct31 oc32 kV32 dc32 pm32 cd32 ct32 oc33 kV33 dc33 pm33 cd33 ct33 oc34 kV34 dc34 pm34 cd34 ct34:Value}
  {C_MixError C_NoBounds C_Filling C_Reach:Addr}
  (a0:PySem.W.nsIn K mainGlobals "places_below" = some (some (.ref f0))) (l0:K.lookup f0=some ⟨oc0,od0,.func (PySem.W.fnOf "places_below" "places_below" (aW bU) (aS bU) (aq bU) .none kV0 dc0 pm0 an0 cd0 ct0),sl0⟩) (c0:PySem.W.codeIn K cd0 "places_below" = true) (k0:PySem.W.keepIn K (.ref f0)=true)
  (a1:PySem.W.nsIn K mainGlobals "less_row" = some (some (.ref f1))) (l1:K.lookup f1=some ⟨oc1,od1,.func (PySem.W.fnOf "less_row" "less_row" (aW et) (aS et) (aq et) .none kV1 dc1 pm1 an1 cd1 ct1),sl1⟩) (c1:PySem.W.codeIn K cd1 "less_row" = true) (k1:PySem.W.keepIn K (.ref f1)=true)
  (a2:PySem.W.nsIn K mainGlobals "copied_table" = some (some (.ref f2))) (l2:K.lookup f2=some ⟨oc2,od2,.func (PySem.W.fnOf "copied_table" "copied_table" (aW b8) (aS b8) (aq b8) .none kV2 dc2 pm2 an2 cd2 ct2),sl2⟩) (c2:PySem.W.codeIn K cd2 "copied_table" = true) (k2:PySem.W.keepIn K (.ref f2)=true)
  (a3:PySem.W.nsIn K mainGlobals "sums_of_rows" = some (some (.ref f3))) (l3:K.lookup f3=some ⟨oc3,od3,.func (PySem.W.fnOf "sums_of_rows" "sums_of_rows" (aW bZ) (aS bZ) (aq bZ) .none kV3 dc3 pm3 an3 cd3 ct3),sl3⟩) (c3:PySem.W.codeIn K cd3 "sums_of_rows" = true) (k3:PySem.W.keepIn K (.ref f3)=true)
  (a4:PySem.W.nsIn K mainGlobals "sums_of_columns" = some (some (.ref f4))) (l4:K.lookup f4=some ⟨oc4,od4,.func (PySem.W.fnOf "sums_of_columns" "sums_of_columns" (aW bI) (aS bI) (aq bI) .none kV4 dc4 pm4 an4 cd4 ct4),sl4⟩) (c4:PySem.W.codeIn K cd4 "sums_of_columns" = true) (k4:PySem.W.keepIn K (.ref f4)=true)
  (a5:PySem.W.nsIn K mainGlobals "turned_table" = some (some (.ref f5))) (l5:K.lookup f5=some ⟨oc5,od5,.func (PySem.W.fnOf "turned_table" "turned_table" (aW bT) (aS bT) (aq bT) .none kV5 dc5 pm5 an5 cd5 ct5),sl5⟩) (c5:PySem.W.codeIn K cd5 "turned_table" = true) (k5:PySem.W.keepIn K (.ref f5)=true)
  (a6:PySem.W.nsIn K mainGlobals "column_of" = some (some (.ref f6))) (l6:K.lookup f6=some ⟨oc6,od6,.func (PySem.W.fnOf "column_of" "column_of" (aW dA) (aS dA) (aq dA) .none kV6 dc6 pm6 an6 cd6 ct6),sl6⟩) (c6:PySem.W.codeIn K cd6 "column_of" = true) (k6:PySem.W.keepIn K (.ref f6)=true)
  (a7:PySem.W.nsIn K mainGlobals "table_between" = some (some (.ref f7))) (l7:K.lookup f7=some ⟨oc7,od7,.func (PySem.W.fnOf "table_between" "table_between" (aW cj) (aS cj) (aq cj) .none kV7 dc7 pm7 an7 cd7 ct7),sl7⟩) (c7:PySem.W.codeIn K cd7 "table_between" = true) (k7:PySem.W.keepIn K (.ref f7)=true)
  (a8:PySem.W.nsIn K mainGlobals "check_bounds" = some (some (.ref f8))) (l8:K.lookup f8=some ⟨oc8,od8,.func (PySem.W.fnOf "check_bounds" "check_bounds" (aW b9) (aS b9) (aq b9) .none kV8 dc8 pm8 an8 cd8 ct8),sl8⟩) (c8:PySem.W.codeIn K cd8 "check_bounds" = true) (k8:PySem.W.keepIn K (.ref f8)=true)
  (a9:PySem.W.findIn K (.ref C_Filling) "__init__" = some (some (.ref f9))) (i9:PySem.W.isFn K (.ref f9)=true) (l9:K.lookup f9=some ⟨oc9,od9,.func (PySem.W.fnOf "__init__" "Filling.__init__" (aW cJ) (aS cJ) (aq cJ) .none kV9 dc9 pm9 an9 cd9 ct9),sl9⟩) (c9:PySem.W.codeIn K cd9 "Filling.__init__" = true) (k9:PySem.W.keepIn K (.ref f9)=true)
  (a10:PySem.W.findIn K (.ref C_Filling) "outcome" = some (some (.ref f10))) (i10:PySem.W.isFn K (.ref f10)=true) (l10:K.lookup f10=some ⟨oc10,od10,.func (PySem.W.fnOf "outcome" "Filling.outcome" (aW bJ) (aS bJ) (aq bJ) .none kV10 dc10 pm10 an10 cd10 ct10),sl10⟩) (c10:PySem.W.codeIn K cd10 "Filling.outcome" = true) (k10:PySem.W.keepIn K (.ref f10)=true)
  (a11:PySem.W.findIn K (.ref C_Filling) "pour" = some (some (.ref f11))) (i11:PySem.W.isFn K (.ref f11)=true) (l11:K.lookup f11=some ⟨oc11,od11,.func (PySem.W.fnOf "pour" "Filling.pour" (aW bX) (aS bX) (aq bX) .none kV11 dc11 pm11 an11 cd11 ct11),sl11⟩) (c11:PySem.W.codeIn K cd11 "Filling.pour" = true) (k11:PySem.W.keepIn K (.ref f11)=true)
  (a12:PySem.W.findIn K (.ref C_Filling) "slack" = some (some (.ref f12))) (i12:PySem.W.isFn K (.ref f12)=true) (l12:K.lookup f12=some ⟨oc12,od12,.func (PySem.W.fnOf "slack" "Filling.slack" (aW cg) (aS cg) (aq cg) .none kV12 dc12 pm12 an12 cd12 ct12),sl12⟩) (c12:PySem.W.codeIn K cd12 "Filling.slack" = true) (k12:PySem.W.keepIn K (.ref f12)=true)
  (a13:PySem.W.findIn K (.ref C_Reach) "__init__" = some (some (.ref f13))) (i13:PySem.W.isFn K (.ref f13)=true) (l13:K.lookup f13=some ⟨oc13,od13,.func (PySem.W.fnOf "__init__" "Reach.__init__" (aW dF) (aS dF) (aq dF) .none kV13 dc13 pm13 an13 cd13 ct13),sl13⟩) (c13:PySem.W.codeIn K cd13 "Reach.__init__" = true) (k13:PySem.W.keepIn K (.ref f13)=true)
  (a14:PySem.W.findIn K (.ref C_Reach) "way" = some (some (.ref f14))) (i14:PySem.W.isFn K (.ref f14)=true) (l14:K.lookup f14=some ⟨oc14,od14,.func (PySem.W.fnOf "way" "Reach.way" (aW el) (aS el) (aq el) .none kV14 dc14 pm14 an14 cd14 ct14),sl14⟩) (c14:PySem.W.codeIn K cd14 "Reach.way" = true) (k14:PySem.W.keepIn K (.ref f14)=true)
  (a15:PySem.W.nsIn K mainGlobals "ways_up" = some (some (.ref f15))) (l15:K.lookup f15=some ⟨oc15,od15,.func (PySem.W.fnOf "ways_up" "ways_up" (aW fD) (aS fD) (aq fD) .none kV15 dc15 pm15 an15 cd15 ct15),sl15⟩) (c15:PySem.W.codeIn K cd15 "ways_up" = true) (k15:PySem.W.keepIn K (.ref f15)=true)
  (a16:PySem.W.nsIn K mainGlobals "spread" = some (some (.ref f16))) (l16:K.lookup f16=some ⟨oc16,od16,.func (PySem.W.fnOf "spread" "spread" (aW hZ) (aS hZ) (aq hZ) .none kV16 dc16 pm16 an16 cd16 ct16),sl16⟩) (c16:PySem.W.codeIn K cd16 "spread" = true) (k16:PySem.W.keepIn K (.ref f16)=true)
  (a17:PySem.W.nsIn K mainGlobals "first_with_room" = some (some (.ref f17))) (l17:K.lookup f17=some ⟨oc17,od17,.func (PySem.W.fnOf "first_with_room" "first_with_room" (aW bw) (aS bw) (aq bw) .none kV17 dc17 pm17 an17 cd17 ct17),sl17⟩) (c17:PySem.W.codeIn K cd17 "first_with_room" = true) (k17:PySem.W.keepIn K (.ref f17)=true)
  (a18:PySem.W.nsIn K mainGlobals "_law_whole" = some (some (.ref f18))) (l18:K.lookup f18=some ⟨oc18,od18,.func (PySem.W.fnOf "_law_whole" "_law_whole" (aW d7) (aS d7) (aq d7) .none kV18 dc18 pm18 an18 cd18 ct18),sl18⟩) (c18:PySem.W.codeIn K cd18 "_law_whole" = true) (k18:PySem.W.keepIn K (.ref f18)=true)
  (a19:PySem.W.nsIn K mainGlobals "_law_deck" = some (some (.ref f19))) (l19:K.lookup f19=some ⟨oc19,od19,.func (PySem.W.fnOf "_law_deck" "_law_deck" (aW ff) (aS ff) (aq ff) .none kV19 dc19 pm19 an19 cd19 ct19),sl19⟩) (c19:PySem.W.codeIn K cd19 "_law_deck" = true) (k19:PySem.W.keepIn K (.ref f19)=true)
  (a20:PySem.W.nsIn K mainGlobals "_law_shape" = some (some (.ref f20))) (l20:K.lookup f20=some ⟨oc20,od20,.func (PySem.W.fnOf "_law_shape" "_law_shape" (aW eh) (aS eh) (aq eh) .none kV20 dc20 pm20 an20 cd20 ct20),sl20⟩) (c20:PySem.W.codeIn K cd20 "_law_shape" = true) (k20:PySem.W.keepIn K (.ref f20)=true)
  (a21:PySem.W.nsIn K mainGlobals "_law_tops" = some (some (.ref f21))) (l21:K.lookup f21=some ⟨oc21,od21,.func (PySem.W.fnOf "_law_tops" "_law_tops" (aW dQ) (aS dQ) (aq dQ) .none kV21 dc21 pm21 an21 cd21 ct21),sl21⟩) (c21:PySem.W.codeIn K cd21 "_law_tops" = true) (k21:PySem.W.keepIn K (.ref f21)=true)
  (a22:PySem.W.nsIn K mainGlobals "_law_sums" = some (some (.ref f22))) (l22:K.lookup f22=some ⟨oc22,od22,.func (PySem.W.fnOf "_law_sums" "_law_sums" (aW dO) (aS dO) (aq dO) .none kV22 dc22 pm22 an22 cd22 ct22),sl22⟩) (c22:PySem.W.codeIn K cd22 "_law_sums" = true) (k22:PySem.W.keepIn K (.ref f22)=true)
  (a23:PySem.W.nsIn K mainGlobals "_law_lies" = some (some (.ref f23))) (l23:K.lookup f23=some ⟨oc23,od23,.func (PySem.W.fnOf "_law_lies" "_law_lies" (aW eX) (aS eX) (aq eX) .none kV23 dc23 pm23 an23 cd23 ct23),sl23⟩) (c23:PySem.W.codeIn K cd23 "_law_lies" = true) (k23:PySem.W.keepIn K (.ref f23)=true)
  (a24:PySem.W.nsIn K mainGlobals "_law_rising" = some (some (.ref f24))) (l24:K.lookup f24=some ⟨oc24,od24,.func (PySem.W.fnOf "_law_rising" "_law_rising" (aW dE) (aS dE) (aq dE) .none kV24 dc24 pm24 an24 cd24 ct24),sl24⟩) (c24:PySem.W.codeIn K cd24 "_law_rising" = true) (k24:PySem.W.keepIn K (.ref f24)=true)
  (a25:PySem.W.nsIn K mainGlobals "_law_bars" = some (some (.ref f25))) (l25:K.lookup f25=some ⟨oc25,od25,.func (PySem.W.fnOf "_law_bars" "_law_bars" (aW dP) (aS dP) (aq dP) .none kV25 dc25 pm25 an25 cd25 ct25),sl25⟩) (c25:PySem.W.codeIn K cd25 "_law_bars" = true) (k25:PySem.W.keepIn K (.ref f25)=true)
  (a26:PySem.W.nsIn K mainGlobals "_law_width" = some (some (.ref f26))) (l26:K.lookup f26=some ⟨oc26,od26,.func (PySem.W.fnOf "_law_width" "_law_width" (aW ee) (aS ee) (aq ee) .none kV26 dc26 pm26 an26 cd26 ct26),sl26⟩) (c26:PySem.W.codeIn K cd26 "_law_width" = true) (k26:PySem.W.keepIn K (.ref f26)=true)
  (a27:PySem.W.nsIn K mainGlobals "_law_spread" = some (some (.ref f27))) (l27:K.lookup f27=some ⟨oc27,od27,.func (PySem.W.fnOf "_law_spread" "_law_spread" (aW bY) (aS bY) (aq bY) .none kV27 dc27 pm27 an27 cd27 ct27),sl27⟩) (c27:PySem.W.codeIn K cd27 "_law_spread" = true) (k27:PySem.W.keepIn K (.ref f27)=true)
  (a28:PySem.W.nsIn K mainGlobals "_law_moved" = some (some (.ref f28))) (l28:K.lookup f28=some ⟨oc28,od28,.func (PySem.W.fnOf "_law_moved" "_law_moved" (aW d8) (aS d8) (aq d8) .none kV28 dc28 pm28 an28 cd28 ct28),sl28⟩) (c28:PySem.W.codeIn K cd28 "_law_moved" = true) (k28:PySem.W.keepIn K (.ref f28)=true)
  (a29:PySem.W.nsIn K mainGlobals "_law_right" = some (some (.ref f29))) (l29:K.lookup f29=some ⟨oc29,od29,.func (PySem.W.fnOf "_law_right" "_law_right" (aW ei) (aS ei) (aq ei) .none kV29 dc29 pm29 an29 cd29 ct29),sl29⟩) (c29:PySem.W.codeIn K cd29 "_law_right" = true) (k29:PySem.W.keepIn K (.ref f29)=true)
  (a30:PySem.W.nsIn K mainGlobals "_law_digits" = some (some (.ref f30))) (l30:K.lookup f30=some ⟨oc30,od30,.func (PySem.W.fnOf "_law_digits" "_law_digits" (aW dG) (aS dG) (aq dG) .none kV30 dc30 pm30 an30 cd30 ct30),sl30⟩) (c30:PySem.W.codeIn K cd30 "_law_digits" = true) (k30:PySem.W.keepIn K (.ref f30)=true)
  (a31:PySem.W.nsIn K mainGlobals "_law_digit_sums" = some (some (.ref f31))) (l31:K.lookup f31=some ⟨oc31,od31,.func (PySem.W.fnOf "_law_digit_sums" "_law_digit_sums" (aW bN) (aS bN) (aq bN) .none kV31 dc31 pm31 an31 cd31 ct31),sl31⟩) (c31:PySem.W.codeIn K cd31 "_law_digit_sums" = true) (k31:PySem.W.keepIn K (.ref f31)=true)
  (a32:PySem.W.nsIn K mainGlobals "_law_by_digits" = some (some (.ref f32))) (l32:K.lookup f32=some ⟨oc32,od32,.func (PySem.W.fnOf "_law_by_digits" "_law_by_digits" (aW bE) (aS bE) (aq bE) .none kV32 dc32 pm32 an32 cd32 ct32),sl32⟩) (c32:PySem.W.codeIn K cd32 "_law_by_digits" = true) (k32:PySem.W.keepIn K (.ref f32)=true)
  (a33:PySem.W.nsIn K mainGlobals "_law_drawn" = some (some (.ref f33))) (l33:K.lookup f33=some ⟨oc33,od33,.func (PySem.W.fnOf "_law_drawn" "_law_drawn" (aW cV) (aS cV) (aq cV) .none kV33 dc33 pm33 an33 cd33 ct33),sl33⟩) (c33:PySem.W.codeIn K cd33 "_law_drawn" = true) (k33:PySem.W.keepIn K (.ref f33)=true)
  (a34:PySem.W.nsIn K mainGlobals "law" = some (some (.ref f34))) (l34:K.lookup f34=some ⟨oc34,od34,.func (PySem.W.fnOf "law" "law" (aW jA) (aS jA) (aq jA) .none kV34 dc34 pm34 an34 cd34 ct34),sl34⟩) (c34:PySem.W.codeIn K cd34 "law" = true) (k34:PySem.W.keepIn K (.ref f34)=true)
  (sg:PySem.W.specialIn K (.builtin "object.__class__") "__get__" = some (some (.builtin "getset_descriptor.__get__"))) (tg:PySem.W.takesIn K (.builtin "object.__class__")=some true)
  (pg_Filling:PySem.W.plainGet K C_Filling Str.empty=true) (hd_Filling:PySem.W.hasDictIn K C_Filling=true) (po_Filling:PySem.W.plainOver K C_Filling=true) (sa_Filling:PySem.W.findIn K (.ref C_Filling) "__setattr__" = some (some (.builtin "object.__setattr__"))) (mk_Filling:PySem.W.makesIn K C_Filling=true) (kc_Filling:PySem.W.keepIn K (.ref C_Filling)=true)
  (cl_Filling:PySem.W.findIn K (.ref C_Filling) "__class__" = some (some (.builtin "object.__class__"))) (ob_Filling:PySem.W.mroIn K C_Filling (.type "object")=some true)
  (na_Filling_low:PySem.W.findIn K (.ref C_Filling) "low" = some none)
  (na_Filling_high:PySem.W.findIn K (.ref C_Filling) "high" = some none)
  (na_Filling_table:PySem.W.findIn K (.ref C_Filling) "table" = some none)
  (na_Filling_wants:PySem.W.findIn K (.ref C_Filling) "wants" = some none)
  (na_Filling_rooms:PySem.W.findIn K (.ref C_Filling) "rooms" = some none)
  (pg_Reach:PySem.W.plainGet K C_Reach Str.empty=true) (hd_Reach:PySem.W.hasDictIn K C_Reach=true) (po_Reach:PySem.W.plainOver K C_Reach=true) (sa_Reach:PySem.W.findIn K (.ref C_Reach) "__setattr__" = some (some (.builtin "object.__setattr__"))) (mk_Reach:PySem.W.makesIn K C_Reach=true) (kc_Reach:PySem.W.keepIn K (.ref C_Reach)=true)
  (cl_Reach:PySem.W.findIn K (.ref C_Reach) "__class__" = some (some (.builtin "object.__class__"))) (ob_Reach:PySem.W.mroIn K C_Reach (.type "object")=some true)
  (na_Reach_rows:PySem.W.findIn K (.ref C_Reach) "rows" = some none)
  (na_Reach_columns:PySem.W.findIn K (.ref C_Reach) "columns" = some none)
  (na_Reach_goal:PySem.W.findIn K (.ref C_Reach) "goal" = some none)
  {dd_MixError:Option Addr}{nm_MixError qn_MixError:Str}{bs_MixError:List Value}{ns_MixError:Addr}{hd_MixError:Bool}{sn_MixError:List Str}{sub_MixError:List Value}{ab_MixError:Bool}{col_MixError:Option Bool}{k0_MixError k1_MixError k2_MixError k3_MixError k5_MixError:Option Value}
  {dd_NoBounds:Option Addr}{nm_NoBounds qn_NoBounds:Str}{bs_NoBounds:List Value}{ns_NoBounds:Addr}{hd_NoBounds:Bool}{sn_NoBounds:List Str}{sub_NoBounds:List Value}{ab_NoBounds:Bool}{col_NoBounds:Option Bool}{k0_NoBounds k1_NoBounds k2_NoBounds k3_NoBounds k5_NoBounds:Option Value}
  (e_MixError:PySem.W.nsIn K mainGlobals "MixError" = some (some (.ref C_MixError)))
  (e_NoBounds:PySem.W.nsIn K mainGlobals "NoBounds" = some (some (.ref C_NoBounds)))
  (e_Filling:PySem.W.nsIn K mainGlobals "Filling" = some (some (.ref C_Filling)))
  (e_Reach:PySem.W.nsIn K mainGlobals "Reach" = some (some (.ref C_Reach)))
  (u_MixError:K.lookup C_MixError=some ⟨.type "type",dd_MixError,.cls ⟨nm_MixError,bs_MixError,.ref C_MixError::VB,ns_MixError,qn_MixError,hd_MixError,sn_MixError,sub_MixError,ab_MixError,col_MixError,false⟩,#[k0_MixError,k1_MixError,k2_MixError,k3_MixError,some (.builtin "ValueError.__new__"),k5_MixError]⟩) (v_MixError:PySem.W.excIn K C_MixError VB "ValueError.__new__" = true)
  (u_NoBounds:K.lookup C_NoBounds=some ⟨.type "type",dd_NoBounds,.cls ⟨nm_NoBounds,bs_NoBounds,.ref C_NoBounds::.ref C_MixError::VB,ns_NoBounds,qn_NoBounds,hd_NoBounds,sn_NoBounds,sub_NoBounds,ab_NoBounds,col_NoBounds,false⟩,#[k0_NoBounds,k1_NoBounds,k2_NoBounds,k3_NoBounds,some (.builtin "ValueError.__new__"),k5_NoBounds]⟩) (v_NoBounds:PySem.W.excIn K C_NoBounds VB "ValueError.__new__" = true)
  (ga_NoBounds:PySem.W.findIn K (.ref C_NoBounds) "__getattribute__" = some (some (.builtin "BaseException.__getattribute__"))) (ge_NoBounds:PySem.W.findIn K (.ref C_NoBounds) "__getattr__" = some none) (cl_NoBounds:PySem.W.findIn K (.ref C_NoBounds) "__class__" = some (some (.builtin "object.__class__"))) (ob_NoBounds:PySem.W.mroIn K C_NoBounds (.type "object")=some true) (be_NoBounds:PySem.W.mroIn K C_NoBounds (.type "BaseException")=some true)
  (z_len:PySem.W.nsIn K mainGlobals "len" = some none) (z_isinstance:PySem.W.nsIn K mainGlobals "isinstance" = some none) (z_int:PySem.W.nsIn K mainGlobals "int" = some none) (z_bool:PySem.W.nsIn K mainGlobals "bool" = some none) (z_list:PySem.W.nsIn K mainGlobals "list" = some none) (z_range:PySem.W.nsIn K mainGlobals "range" = some none) (z_min:PySem.W.nsIn K mainGlobals "min" = some none) (z_max:PySem.W.nsIn K mainGlobals "max" = some none) (z_sum:PySem.W.nsIn K mainGlobals "sum" = some none) (z_sorted:PySem.W.nsIn K mainGlobals "sorted" = some none) (z_tuple:PySem.W.nsIn K mainGlobals "tuple" = some none) (z_zip:PySem.W.nsIn K mainGlobals "zip" = some none) (z_any:PySem.W.nsIn K mainGlobals "any" = some none) (z_ValueError:PySem.W.nsIn K mainGlobals "ValueError" = some none) :
  ∃fd:FuncData,(∀(s:Shared) (v:Value),BindsTo s fd ⟨[v],[]⟩ [("_law_script",v)])∧∀base:Heap,K.In base→base.Ns mainGlobals mg→bc l.prog w K mg base CX0 7 fa fd ql (L3.spP K nZ):=by
 have e:=hfa.symm.trans (PySem.W.mg_of X G a34)
 cases e
 have T:Txt K mg:=⟨PySem.W.mg_none_of X G z_len,PySem.W.mg_none_of X G z_isinstance,PySem.W.mg_none_of X G z_int,PySem.W.mg_none_of X G z_bool,PySem.W.mg_none_of X G z_list,PySem.W.mg_none_of X G z_range,PySem.W.mg_none_of X G z_min,PySem.W.mg_none_of X G z_max,PySem.W.mg_none_of X G z_sum,PySem.W.mg_none_of X G z_sorted,PySem.W.mg_none_of X G z_tuple,PySem.W.mg_none_of X G z_zip,PySem.W.mg_none_of X G z_any,PySem.W.mg_none_of X G z_ValueError⟩
 have F0:=bC (st:=bU) l0 c0 k0
 have E0:FnAt K mg "places_below" bU bV f0 _:=⟨F0,PySem.W.mg_of X G a0,F0.binds (ps:=bV) fun _ _ _ _ _ _ us hl=>match us,hl with | [_,_],_=>rfl⟩
 have F1:=bC (st:=et) l1 c1 k1
 have E1:FnAt K mg "less_row" et fU f1 _:=⟨F1,PySem.W.mg_of X G a1,F1.binds (ps:=fU) fun _ _ _ _ _ _ us hl=>match us,hl with | [_,_],_=>rfl⟩
 have F2:=bC (st:=b8) l2 c2 k2
 have E2:FnAt K mg "copied_table" b8 cX f2 _:=⟨F2,PySem.W.mg_of X G a2,F2.binds (ps:=cX) fun _ _ _ _ _ _ us hl=>match us,hl with | [_],_=>rfl⟩
 have F3:=bC (st:=bZ) l3 c3 k3
 have E3:FnAt K mg "sums_of_rows" bZ cH f3 _:=⟨F3,PySem.W.mg_of X G a3,F3.binds (ps:=cH) fun _ _ _ _ _ _ us hl=>match us,hl with | [_],_=>rfl⟩
 have F4:=bC (st:=bI) l4 c4 k4
 have E4:FnAt K mg "sums_of_columns" bI b6 f4 _:=⟨F4,PySem.W.mg_of X G a4,F4.binds (ps:=b6) fun _ _ _ _ _ _ us hl=>match us,hl with | [_],_=>rfl⟩
 have F5:=bC (st:=bT) l5 c5 k5
 have E5:FnAt K mg "turned_table" bT cG f5 _:=⟨F5,PySem.W.mg_of X G a5,F5.binds (ps:=cG) fun _ _ _ _ _ _ us hl=>match us,hl with | [_],_=>rfl⟩
 have F6:=bC (st:=dA) l6 c6 k6
 have E6:FnAt K mg "column_of" dA fA f6 _:=⟨F6,PySem.W.mg_of X G a6,F6.binds (ps:=fA) fun _ _ _ _ _ _ us hl=>match us,hl with | [_,_],_=>rfl⟩
 have F7:=bC (st:=cj) l7 c7 k7
 have E7:FnAt K mg "table_between" cj cO f7 _:=⟨F7,PySem.W.mg_of X G a7,F7.binds (ps:=cO) fun _ _ _ _ _ _ us hl=>match us,hl with | [_,_,_,_],_=>rfl⟩
 have F8:=bC (st:=b9) l8 c8 k8
 have E8:FnAt K mg "check_bounds" b9 dm f8 _:=⟨F8,PySem.W.mg_of X G a8,F8.binds (ps:=dm) fun _ _ _ _ _ _ us hl=>match us,hl with | [_,_],_=>rfl⟩
 have F9:=bC (st:=cJ) l9 c9 k9
 have E9:Ag K mg "Filling" C_Filling "Filling.__init__" cJ df f9 _:=⟨F9,⟨mk_Filling,a9,i9,kc_Filling⟩,F9.binds (ps:=df) fun _ _ _ _ _ _ us hl=>match us,hl with | [_,_,_,_,_],_=>rfl,PySem.W.mg_of X G e_Filling⟩
 have F10:=bC (st:=bJ) l10 c10 k10
 have E10:oG K C_Filling "outcome" "Filling.outcome" bJ bS f10 _:=⟨F10,⟨a10,i10,k10⟩,F10.binds (ps:=bS) fun _ _ _ _ _ _ us hl=>match us,hl with | [_],_=>rfl⟩
 have F11:=bC (st:=bX) l11 c11 k11
 have E11:oG K C_Filling "pour" "Filling.pour" bX cZ f11 _:=⟨F11,⟨a11,i11,k11⟩,F11.binds (ps:=cZ) fun _ _ _ _ _ _ us hl=>match us,hl with | [_,_],_=>rfl⟩
 have F12:=bC (st:=cg) l12 c12 k12
 have E12:oG K C_Filling "slack" "Filling.slack" cg cR f12 _:=⟨F12,⟨a12,i12,k12⟩,F12.binds (ps:=cR) fun _ _ _ _ _ _ us hl=>match us,hl with | [_,_,_],_=>rfl⟩
 have F13:=bC (st:=dF) l13 c13 k13
 have E13:Ag K mg "Reach" C_Reach "Reach.__init__" dF eD f13 _:=⟨F13,⟨mk_Reach,a13,i13,kc_Reach⟩,F13.binds (ps:=eD) fun _ _ _ _ _ _ us hl=>match us,hl with | [_,_],_=>rfl,PySem.W.mg_of X G e_Reach⟩
 have F14:=bC (st:=el) l14 c14 k14
 have E14:oG K C_Reach "way" "Reach.way" el fg f14 _:=⟨F14,⟨a14,i14,k14⟩,F14.binds (ps:=fg) fun _ _ _ _ _ _ us hl=>match us,hl with | [_],_=>rfl⟩
 have F15:=bC (st:=fD) l15 c15 k15
 have E15:FnAt K mg "ways_up" fD gM f15 _:=⟨F15,PySem.W.mg_of X G a15,F15.binds (ps:=gM) fun _ _ _ _ _ _ us hl=>match us,hl with | [_,_],_=>rfl⟩
 have F16:=bC (st:=hZ) l16 c16 k16
 have E16:FnAt K mg "spread" hZ iR f16 _:=⟨F16,PySem.W.mg_of X G a16,F16.binds (ps:=iR) fun _ _ _ _ _ _ us hl=>match us,hl with | [_,_,_],_=>rfl⟩
 have F17:=bC (st:=bw) l17 c17 k17
 have E17:FnAt K mg "first_with_room" bw bW f17 _:=⟨F17,PySem.W.mg_of X G a17,F17.binds (ps:=bW) fun _ _ _ _ _ _ us hl=>match us,hl with | [_,_],_=>rfl⟩
 have F18:=bC (st:=d7) l18 c18 k18
 have E18:FnAt K mg "_law_whole" d7 d9 f18 _:=⟨F18,PySem.W.mg_of X G a18,F18.binds (ps:=d9) fun _ _ _ _ _ _ us hl=>match us,hl with | [_],_=>rfl⟩
 have F19:=bC (st:=ff) l19 c19 k19
 have E19:FnAt K mg "_law_deck" ff fS f19 _:=⟨F19,PySem.W.mg_of X G a19,F19.binds (ps:=fS) fun _ _ _ _ _ _ us hl=>match us,hl with | [_,_],_=>rfl⟩
 have F20:=bC (st:=eh) l20 c20 k20
 have E20:FnAt K mg "_law_shape" eh ft f20 _:=⟨F20,PySem.W.mg_of X G a20,F20.binds (ps:=ft) fun _ _ _ _ _ _ us hl=>match us,hl with | [_],_=>rfl⟩
 have F21:=bC (st:=dQ) l21 c21 k21
 have E21:FnAt K mg "_law_tops" dQ fY f21 _:=⟨F21,PySem.W.mg_of X G a21,F21.binds (ps:=fY) fun _ _ _ _ _ _ us hl=>match us,hl with | [_,_,_],_=>rfl⟩
 have F22:=bC (st:=dO) l22 c22 k22
 have E22:FnAt K mg "_law_sums" dO eL f22 _:=⟨F22,PySem.W.mg_of X G a22,F22.binds (ps:=eL) fun _ _ _ _ _ _ us hl=>match us,hl with | [_],_=>rfl⟩
 have F23:=bC (st:=eX) l23 c23 k23
 have E23:FnAt K mg "_law_lies" eX fV f23 _:=⟨F23,PySem.W.mg_of X G a23,F23.binds (ps:=fV) fun _ _ _ _ _ _ us hl=>match us,hl with | [_,_,_,_,_],_=>rfl⟩
 have F24:=bC (st:=dE) l24 c24 k24
 have E24:FnAt K mg "_law_rising" dE eE f24 _:=⟨F24,PySem.W.mg_of X G a24,F24.binds (ps:=eE) fun _ _ _ _ _ _ us hl=>match us,hl with | [_,_],_=>rfl⟩
 have F25:=bC (st:=dP) l25 c25 k25
 have E25:FnAt K mg "_law_bars" dP fQ f25 _:=⟨F25,PySem.W.mg_of X G a25,F25.binds (ps:=fQ) fun _ _ _ _ _ _ us hl=>match us,hl with | [_,_,_,_,_,_],_=>rfl⟩
 have F26:=bC (st:=ee) l26 c26 k26
 have E26:FnAt K mg "_law_width" ee fj f26 _:=⟨F26,PySem.W.mg_of X G a26,F26.binds (ps:=fj) fun _ _ _ _ _ _ us hl=>match us,hl with | [_,_],_=>rfl⟩
 have F27:=bC (st:=bY) l27 c27 k27
 have E27:FnAt K mg "_law_spread" bY eN f27 _:=⟨F27,PySem.W.mg_of X G a27,F27.binds (ps:=eN) fun _ _ _ _ _ _ us hl=>match us,hl with | [_,_,_],_=>rfl⟩
 have F28:=bC (st:=d8) l28 c28 k28
 have E28:FnAt K mg "_law_moved" d8 eW f28 _:=⟨F28,PySem.W.mg_of X G a28,F28.binds (ps:=eW) fun _ _ _ _ _ _ us hl=>match us,hl with | [_,_,_],_=>rfl⟩
 have F29:=bC (st:=ei) l29 c29 k29
 have E29:FnAt K mg "_law_right" ei eY f29 _:=⟨F29,PySem.W.mg_of X G a29,F29.binds (ps:=eY) fun _ _ _ _ _ _ us hl=>match us,hl with | [_,_,_,_,_],_=>rfl⟩
 have F30:=bC (st:=dG) l30 c30 k30
 have E30:FnAt K mg "_law_digits" dG eJ f30 _:=⟨F30,PySem.W.mg_of X G a30,F30.binds (ps:=eJ) fun _ _ _ _ _ _ us hl=>match us,hl with | [_,_,_],_=>rfl⟩
 have F31:=bC (st:=bN) l31 c31 k31
 have E31:FnAt K mg "_law_digit_sums" bN cD f31 _:=⟨F31,PySem.W.mg_of X G a31,F31.binds (ps:=cD) fun _ _ _ _ _ _ us hl=>match us,hl with | [_,_,_],_=>rfl⟩
 have F32:=bC (st:=bE) l32 c32 k32
 have E32:FnAt K mg "_law_by_digits" bE cQ f32 _:=⟨F32,PySem.W.mg_of X G a32,F32.binds (ps:=cQ) fun _ _ _ _ _ _ us hl=>match us,hl with | [_],_=>rfl⟩
 have F33:=bC (st:=cV) l33 c33 k33
 have E33:FnAt K mg "_law_drawn" cV eV f33 _:=⟨F33,PySem.W.mg_of X G a33,F33.binds (ps:=eV) fun _ _ _ _ _ _ us hl=>match us,hl with | [_],_=>rfl⟩
 have F34:=bC (st:=jA) l34 c34 k34
 have E34:FnAt K mg "law" jA ql fa _:=⟨F34,PySem.W.mg_of X G a34,F34.binds (ps:=ql) fun _ _ _ _ _ _ us hl=>match us,hl with | [_],_=>rfl⟩
 have A_:Fns K mg ⟨C_MixError,C_NoBounds,C_Filling,C_Reach⟩:=⟨⟨_,_,E0⟩,⟨_,_,E1⟩,⟨_,_,E2⟩,⟨_,_,E3⟩,⟨_,_,E4⟩,⟨_,_,E5⟩,⟨_,_,E6⟩,⟨_,_,E7⟩,⟨_,_,E8⟩,⟨_,_,E9⟩,⟨_,_,E10⟩,⟨_,_,E11⟩,⟨_,_,E12⟩,⟨_,_,E13⟩,⟨_,_,E14⟩,⟨_,_,E15⟩,⟨_,_,E16⟩,⟨_,_,E17⟩,⟨_,_,E18⟩,⟨_,_,E19⟩,⟨_,_,E20⟩,⟨_,_,E21⟩,⟨_,_,E22⟩,⟨_,_,E23⟩,⟨_,_,E24⟩,⟨_,_,E25⟩,⟨_,_,E26⟩,⟨_,_,E27⟩,⟨_,_,E28⟩,⟨_,_,E29⟩,⟨_,_,E30⟩,⟨_,_,E31⟩,⟨_,_,E32⟩,⟨_,_,E33⟩,⟨_,_,E34⟩⟩
 exact⟨PySem.W.fnOf "law" "law" (aW jA) (aS jA) (aq jA) .none kV34 dc34 pm34 an34 cd34 ct34,fun s v=>.of_eq rfl,fun base hb _=>GL E34 A_ T (c:=⟨C_MixError,C_NoBounds,C_Filling,C_Reach⟩) ⟨PySem.W.mg_of X G e_MixError,PySem.W.mg_of X G e_NoBounds,PySem.W.mg_of X G e_Filling,PySem.W.mg_of X G e_Reach,⟨⟨pg_Filling,hd_Filling,po_Filling,sa_Filling⟩,cl_Filling,sg,tg,ob_Filling⟩,na_Filling_low,na_Filling_high,na_Filling_table,na_Filling_wants,na_Filling_rooms,⟨⟨pg_Reach,hd_Reach,po_Reach,sa_Reach⟩,cl_Reach,sg,tg,ob_Reach⟩,na_Reach_rows,na_Reach_columns,na_Reach_goal,kD.of_lookup (ups:=[]) hb u_MixError rfl v_MixError,kD.of_lookup (ups:=[C_MixError]) hb u_NoBounds rfl v_NoBounds,⟨ga_NoBounds,ge_NoBounds,cl_NoBounds,ob_NoBounds,be_NoBounds,by unfold PySem.W.clsIn;rw[u_NoBounds];rfl⟩⟩⟩
theorem walk {l:PySem.W.OpenLaw}{q:Program}{loose:List Str}{XP:(Str→Option Value)→Heap→Prop}{YP:World→Heap→Prop}{d:DefRec}{K:Params→PySem.W.Frag} (hn:l.most=some 63) (hdf:d.params.defaults=[])
  (hY:∀(w:World) (h:Heap),YP w h→(K w.params).In h)
  (F:∀(w:World) (mg:Str→Option Value) (fa:Addr) (h:Heap),(K w.params).In h→h.Ns mainGlobals mg→mg d.name=some (.ref fa) →
   ∃fd:FuncData,(∀(s:Shared) (u:Value),BindsTo s fd ⟨[u],[]⟩ [("_law_script",u)])∧∀base:Heap,(K w.params).In base→base.Ns mainGlobals mg→bc l.prog w (K w.params) mg base CX0 7 fa fd ["_law_script"] (L3.spP (K w.params) nZ)) :
  PySem.W.WalkO q loose XP YP l.row.toRowW d [] (fun f vs=>PySem.call f vs) :=
 L2.xT (n:=63) (k:=7) (x:="_law_script") (CX:=fun _=>CX0) (sp:=fun w=>L3.spP (K w.params) nZ) hn (by decide) hdf ⟨rfl,by decide,by decide⟩ hY F (fun w H a ns hl hO hS=>⟨[.scr ns],⟨[],_,_,[],[],rfl,rfl,⟨a,rfl,L3.Hf hO hS,rfl⟩,rfl,rfl⟩,CO hl (fun v H' fp s r n=>r.1)⟩) fun _ _ _ _ _ z=>z
end Mine
open PySem PySem.W PyProof.Rows
namespace PySem.W.Fast
def tw2009073794070901388:=0
def tw9082987098418688996:=0
def tw16361038095474952142:=0
def tw17314990558705411119:=0
def tw11681065648727426890:=0
def tw11904817710864763948:=0
def tw15644238804686088802:=0
def tw16295015910009638100:=0
def tw5618492977351622212:=0
def tw17601395327872442145:=0
def tw4240238163963974961:=0
def tw5913891835432694289:=0
def tw7703508723754104609:=0
def tw4151188781968453519:=0
def tw16498117303361052175:=0
def tw4088012235995200900:=0
def tw7967134736252054195:=0
def tw2186306725934592612:=0
def tw889405863093880745:=0
def tw7829351262702621768:=0
def tw3945999480391441171:=0
def tw10007031581444320015:=0
def tw1197039688274495800:=0
def tw16407047013708527719:=0
def tw14175007246764366471:=0
def tw5730665975663081903:=0
def tw14753996068865521318:=0
def tw14934148031590468960:=0
def tw17062241026401330973:=0
def tw3136523786224919104:=0
def tw12185542870180614055:=0
def tw8730866635386978029:=0
def tw3487062310048970237:=0
def tw8466023749943286947:=0
def tw4936221088262601882:=0
def tw17436288745474138083:=0
def tw11611904265371054143:=0
def tw14283905553653432517:=0
def tw2102821254496526218:=0
def tw12368495933191715223:=0
def tw329618666776917104:=0
def tw5598617868664945839:=0
def tw10722649610705994551:=0
def tw6618426289154608587:=0
def tw10571499306303794893:=0
def tw2555155855058759355:=0
def tw1250102721650070109:=0
def tw13682331393135944099:=0
def tw1450168973330578985:=0
def tw4199614493796060195:=0
def tw13881717562416799628:=0
def tw14946398149332713850:=0
def tw4454736935363264629:=0
def tw9098283702130713612:=0
def tw7409453224410770222:=0
def tw14046822880901631148:=0
def tw13921857194152905922:=0
def tw12899934332359747843:=0
def tw8388416373773575958:=0
def tw9507337297645610831:=0
def tw11406214954545061604:=0
def tw9043320512640492364:=0
def tw6667007579676666122:=0
def tw17411050001800643103:=0
def tw2777268863357499922:=0
def tw14985609213876222723:=0
def tw16716485675850815270:=0
def tw7450702491589003253:=0
def tw13034146226712893727:=0
def tw2313058823193742517:=0
def tw13045555132877797231:=0
def tw11858944988583942360:=0
def tw6929804034409633800:=0
def tw7229751137245557017:=0
def tw3500494099803014654:=0
def tw14244307910247821072:=0
def tw9188628771334202197:=0
def tw16666775200397432868:=0
def tw1824959097660528802:=0
def tw1781169943352872867:=0
def tw8149291963268396132:=0
def tw15154513461143945847:=0
def tw12321920811528347197:=0
def tw9604846085362146281:=0
def tw1665036469113081740:=0
def tw11411275008545532919:=0
def tw17028937810160804764:=0
def tw13079134525006426965:=0
def tw9916035336242527206:=0
def tw18299436146596957959:=0
def tw12983327302626994261:=0
def tw8749370981092743325:=0
def tw4986559292257717806:=0
def tw4620789894720319334:=0
def tw14213767926133340519:=0
def tw5228122285837210251:=0
def tw12709625275605947900:=0
def tw3144837097673703927:=0
def tw3652194767852350798:=0
def tw13025158468511829248:=0
def tw14063388928915320233:=0
def tw13367516207991250112:=0
def tw14159450389476587830:=0
def tw753019283163179209:=0
def tw9064237816979182265:=0
def tw14018985581022032560:=0
def tw15512711675671009119:=0
def tw14524894988674281110:=0
def tw18107894879974533505:=0
def tw14644468655564072421:=0
def tw10863814859622506775:=0
def tw13824743656833685394:=0
def tw8028642781683231683:=0
def tw16750095571331074665:=0
def tw17621395334115328405:=0
def tw7508723564628652534:=0
def tw558000994848160495:=0
def tw2801011627625395979:=0
def tw630339346771799777:=0
def tw11008594377065017997:=0
def tw3734694751604133:=0
def tw10674465650031748498:=0
def tw9029022909395250065:=0
def tw16052462667414221357:=0
def tw4110149011318775300:=0
def tw9490674444888762830:=0
def tw7219951212998899514:=0
def tw8472011204994365225:=0
def tw2794754297306417549:=0
def tw16928728748185868074:=0
def tw6166118294249969088:=0
def tw13062421820003139005:=0
def tw104545628505126730:=0
def tw4921135676153928662:=0
def tw4748271729801507758:=0
def tw1097260626626420818:=0
def tw11762090248372288726:=0
def tw4107187829887465271:=0
def tw10837443515824127921:=0
def tw7380011968686559863:=0
def tw12255683216780202001:=0
def tw10077083023135951284:=0
def tw12978054188527999030:=0
def tw8379814006115446698:=0
def tw7601109045741600985:=0
def tw7471298385222632145:=0
def tw17624579539762108666:=0
def tw15046851786328125459:=0
def tw18152999934168847130:=0
def tw3666584785491859014:=0
def tw15430646854541178036:=0
def tw4262687502519283963:=0
def tw2998175121705551018:=0
def tw3493164755769383277:=0
def tw16773245171342226800:=0
def tw17047835480595235524:=0
def tw12239524022476937531:=0
def tw9932902201900773958:=0
def tw12776023440479827386:=0
def tw13677097168672466375:=0
def tw139807479361412853:=0
def tw1586215122045222917:=0
def tw726940993479312271:=0
def tw12058149764706029155:=0
def tw3360614133928147182:=0
def tw15923306695410282025:=0
def tw9944749397718967142:=0
def tw3763547287239603318:=0
def tw17813917178833091545:=0
def tw15757435018048546751:=0
def tw3476417474690765058:=0
def tw10377226867910311637:=0
def tw928538039750834070:=0
def tw13162783188210250248:=0
def tw7161544255127766856:=0
def tw5119360745380368623:=0
def tw5513104303039989347:=0
def tw2029276868249433676:=0
def tw2675244845979002697:=0
def tw4410315407850969304:=0
def tw14038799722268735392:=0
def tw8471932084057761327:=0
def tw10324041559831323375:=0
def tw9725596949520441422:=0
def tw178337722664577730:=0
def tw13211809485377131005:=0
def tw8800240964212881390:=0
def tw17553915824050469964:=0
def tw10688541868800771962:=0
def tw1074314390939034434:=0
def tw5403626836804915160:=0
def tw7572302321155798926:=0
def tw741059838603619523:=0
def tw5302125403345779420:=0
def tw680366705210506186:=0
def tw16335740685167281612:=0
def tw536527409216600960:=0
def tw16248926002604024562:=0
def tw1564943473130442521:=0
def tw11918504606525669051:=0
def tw3270236588825314592:=0
def tw3145348610315594328:=0
def tw14610399424419806247:=0
def tw8028211491093037742:=0
def tw10157493185028107801:=0
def tw3067304660907353826:=0
def tw5855557382357081658:=0
def tw415521045982088546:=0
def tw5423959511506500156:=0
def tw3206574115482171329:=0
def tw6501544114106797956:=0
def tw17141983778672206278:=0
def tw16702906140945729465:=0
def tw2798710773410110309:=0
def tw17510175130402371012:=0
def tw4109853768696383049:=0
def tw4633059025903975952:=0
def tw610234171608384063:=0
def tw9699254097681689928:=0
def tw10258875776726993428:=0
def tw13970063968904771578:=0
def tw13177237263462585763:=0
def tw8729653854813804542:=0
def tw5860444125474136948:=0
def tw8084501365921340817:=0
def tw15812569942051643151:=0
def tw15692844808905883998:=0
def tw8599783973442622754:=0
def tw5670866033641698122:=0
def tw11810921766875436665:=0
def tw1840017669238550889:=0
def tw5147189132491285230:=0
def tw1662304656752695727:=0
def tw11590025244957651976:=0
def tw1869140142209026156:=0
def tw499333577330623742:=0
def tw14480215611859601310:=0
def tw17944947759282662856:=0
def tw4372307371860827219:=0
def tw11560797312432503647:=0
def tw16061326580431322365:=0
def tw8592631993631012746:=0
def tw13758483681722734922:=0
def tw11322244161606123934:=0
def tw17129161549513520666:=0
def tw10052529327438740954:=0
def tw16374656949911945177:=0
def tw15528388247560334530:=0
def tw5284208610948256864:=0
def tw16902108178745153569:=0
def tw322232904958821192:=0
def tw3386785465585125473:=0
def tw16341178954141988178:=0
def tw13884306298476789117:=0
def tw3250339431938669292:=0
def tw4398691983561809735:=0
def tw14989176772255692342:=0
def tw17566970536687504989:=0
end PySem.W.Fast
set_option maxRecDepth 100000 in
set_option maxHeartbeats 0 in
theorem PySem.Challenge.cw_evenmix_k42_whole_between_or_cut_holds : PySem.Challenge.rw_evenmix_k42_whole_between_or_cut.Holds := by
 w_on;o_law;k_head;(case hw=>w_witness2)
 k_fill
 refine Mine.walk (l:=PySem.Challenge.rw_evenmix_k42_whole_between_or_cut) rfl rfl (fun w h Y=>PySem.W.kIn_of Y) ?F
 case F =>
  intro w mg fa h KX G hmg
  refine' Mine.all_mk KX G hmg ?a0 ?l0 ?c0 ?k0 ?a1 ?l1 ?c1 ?k1 ?a2 ?l2 ?c2 ?k2 ?a3 ?l3 ?c3 ?k3 ?a4 ?l4 ?c4 ?k4 ?a5 ?l5 ?c5 ?k5 ?a6 ?l6 ?c6 ?k6 ?a7 ?l7 ?c7 ?k7 ?a8 ?l8 ?c8 ?k8 ?a9 ?i9 ?l9 ?c9 ?k9 ?a10 ?i10 ?l10 ?c10 ?k10 ?a11 ?i11 ?l11 ?c11 ?k11 ?a12 ?i12 ?l12 ?c12 ?k12 ?a13 ?i13 ?l13 ?c13 ?k13 ?a14 ?i14 ?l14 ?c14 ?k14 ?a15 ?l15 ?c15 ?k15 ?a16 ?l16 ?c16 ?k16 ?a17 ?l17 ?c17 ?k17 ?a18 ?l18 ?c18 ?k18 ?a19 ?l19 ?c19 ?k19 ?a20 ?l20 ?c20 ?k20 ?a21 ?l21 ?c21 ?k21 ?a22 ?l22 ?c22 ?k22 ?a23 ?l23 ?c23 ?k23 ?a24 ?l24 ?c24 ?k24 ?a25 ?l25 ?c25 ?k25 ?a26 ?l26 ?c26 ?k26 ?a27 ?l27 ?c27 ?k27 ?a28 ?l28 ?c28 ?k28 ?a29 ?l29 ?c29 ?k29 ?a30 ?l30 ?c30 ?k30 ?a31 ?l31 ?c31 ?k31 ?a32 ?l32 ?c32 ?k32 ?a33 ?l33 ?c33 ?k33 ?a34 ?l34 ?c34 ?k34 ?sg ?tg ?pg_Filling ?hd_Filling ?po_Filling ?sa_Filling ?mk_Filling ?kc_Filling ?cl_Filling ?ob_Filling ?na_Filling_low ?na_Filling_high ?na_Filling_table ?na_Filling_wants ?na_Filling_rooms ?pg_Reach ?hd_Reach ?po_Reach ?sa_Reach ?mk_Reach ?kc_Reach ?cl_Reach ?ob_Reach ?na_Reach_rows ?na_Reach_columns ?na_Reach_goal ?e_MixError ?e_NoBounds ?e_Filling ?e_Reach ?u_MixError ?v_MixError ?u_NoBounds ?v_NoBounds ?ga_NoBounds ?ge_NoBounds ?cl_NoBounds ?ob_NoBounds ?be_NoBounds ?z_len ?z_isinstance ?z_int ?z_bool ?z_list ?z_range ?z_min ?z_max ?z_sum ?z_sorted ?z_tuple ?z_zip ?z_any ?z_ValueError
  (case e_MixError=>k_is)
  (case e_NoBounds=>k_is)
  (case e_Filling=>k_is)
  (case e_Reach=>k_is)
  (case a0=>k_is)
  (case l0=>k_is)
  (case c0=>k_is)
  (case k0=>k_is)
  (case a1=>k_is)
  (case l1=>k_is)
  (case c1=>k_is)
  (case k1=>k_is)
  (case a2=>k_is)
  (case l2=>k_is)
  (case c2=>k_is)
  (case k2=>k_is)
  (case a3=>k_is)
  (case l3=>k_is)
  (case c3=>k_is)
  (case k3=>k_is)
  (case a4=>k_is)
  (case l4=>k_is)
  (case c4=>k_is)
  (case k4=>k_is)
  (case a5=>k_is)
  (case l5=>k_is)
  (case c5=>k_is)
  (case k5=>k_is)
  (case a6=>k_is)
  (case l6=>k_is)
  (case c6=>k_is)
  (case k6=>k_is)
  (case a7=>k_is)
  (case l7=>k_is)
  (case c7=>k_is)
  (case k7=>k_is)
  (case a8=>k_is)
  (case l8=>k_is)
  (case c8=>k_is)
  (case k8=>k_is)
  (case a9=>k_is)
  (case i9=>k_is)
  (case l9=>k_is)
  (case c9=>k_is)
  (case k9=>k_is)
  (case a10=>k_is)
  (case i10=>k_is)
  (case l10=>k_is)
  (case c10=>k_is)
  (case k10=>k_is)
  (case a11=>k_is)
  (case i11=>k_is)
  (case l11=>k_is)
  (case c11=>k_is)
  (case k11=>k_is)
  (case a12=>k_is)
  (case i12=>k_is)
  (case l12=>k_is)
  (case c12=>k_is)
  (case k12=>k_is)
  (case a13=>k_is)
  (case i13=>k_is)
  (case l13=>k_is)
  (case c13=>k_is)
  (case k13=>k_is)
  (case a14=>k_is)
  (case i14=>k_is)
  (case l14=>k_is)
  (case c14=>k_is)
  (case k14=>k_is)
  (case a15=>k_is)
  (case l15=>k_is)
  (case c15=>k_is)
  (case k15=>k_is)
  (case a16=>k_is)
  (case l16=>k_is)
  (case c16=>k_is)
  (case k16=>k_is)
  (case a17=>k_is)
  (case l17=>k_is)
  (case c17=>k_is)
  (case k17=>k_is)
  (case a18=>k_is)
  (case l18=>k_is)
  (case c18=>k_is)
  (case k18=>k_is)
  (case a19=>k_is)
  (case l19=>k_is)
  (case c19=>k_is)
  (case k19=>k_is)
  (case a20=>k_is)
  (case l20=>k_is)
  (case c20=>k_is)
  (case k20=>k_is)
  (case a21=>k_is)
  (case l21=>k_is)
  (case c21=>k_is)
  (case k21=>k_is)
  (case a22=>k_is)
  (case l22=>k_is)
  (case c22=>k_is)
  (case k22=>k_is)
  (case a23=>k_is)
  (case l23=>k_is)
  (case c23=>k_is)
  (case k23=>k_is)
  (case a24=>k_is)
  (case l24=>k_is)
  (case c24=>k_is)
  (case k24=>k_is)
  (case a25=>k_is)
  (case l25=>k_is)
  (case c25=>k_is)
  (case k25=>k_is)
  (case a26=>k_is)
  (case l26=>k_is)
  (case c26=>k_is)
  (case k26=>k_is)
  (case a27=>k_is)
  (case l27=>k_is)
  (case c27=>k_is)
  (case k27=>k_is)
  (case a28=>k_is)
  (case l28=>k_is)
  (case c28=>k_is)
  (case k28=>k_is)
  (case a29=>k_is)
  (case l29=>k_is)
  (case c29=>k_is)
  (case k29=>k_is)
  (case a30=>k_is)
  (case l30=>k_is)
  (case c30=>k_is)
  (case k30=>k_is)
  (case a31=>k_is)
  (case l31=>k_is)
  (case c31=>k_is)
  (case k31=>k_is)
  (case a32=>k_is)
  (case l32=>k_is)
  (case c32=>k_is)
  (case k32=>k_is)
  (case a33=>k_is)
  (case l33=>k_is)
  (case c33=>k_is)
  (case k33=>k_is)
  (case a34=>k_is)
  (case l34=>k_is)
  (case c34=>k_is)
  (case k34=>k_is)
  (case sg=>k_is)
  (case tg=>k_is)
  (case pg_Filling=>k_is)
  (case hd_Filling=>k_is)
  (case po_Filling=>k_is)
  (case sa_Filling=>k_is)
  (case mk_Filling=>k_is)
  (case kc_Filling=>k_is)
  (case cl_Filling=>k_is)
  (case ob_Filling=>k_is)
  (case na_Filling_low=>k_is)
  (case na_Filling_high=>k_is)
  (case na_Filling_table=>k_is)
  (case na_Filling_wants=>k_is)
  (case na_Filling_rooms=>k_is)
  (case pg_Reach=>k_is)
  (case hd_Reach=>k_is)
  (case po_Reach=>k_is)
  (case sa_Reach=>k_is)
  (case mk_Reach=>k_is)
  (case kc_Reach=>k_is)
  (case cl_Reach=>k_is)
  (case ob_Reach=>k_is)
  (case na_Reach_rows=>k_is)
  (case na_Reach_columns=>k_is)
  (case na_Reach_goal=>k_is)
  (case u_MixError=>k_is)
  (case v_MixError=>k_exc)
  (case u_NoBounds=>k_is)
  (case v_NoBounds=>k_exc)
  (case ga_NoBounds=>k_is)
  (case ge_NoBounds=>k_is)
  (case cl_NoBounds=>k_is)
  (case ob_NoBounds=>k_is)
  (case be_NoBounds=>k_is)
  (case z_len=>k_is)
  (case z_isinstance=>k_is)
  (case z_int=>k_is)
  (case z_bool=>k_is)
  (case z_list=>k_is)
  (case z_range=>k_is)
  (case z_min=>k_is)
  (case z_max=>k_is)
  (case z_sum=>k_is)
  (case z_sorted=>k_is)
  (case z_tuple=>k_is)
  (case z_zip=>k_is)
  (case z_any=>k_is)
  (case z_ValueError=>k_is)
