import PyProof.Rows.All
import Wide.All
import OpenK.AllK
import Wide.FinOn
import Lean
import PyProof.EqAt
import PyProof.EqKinds
import PyProof.TupleCall
import PyProof.DictRoadsH
import PyProof.TupleKey
import PyProof.NeKinds
import PyProof.ZipIter
import KE.KRevIter
import PyProof.ListRange
import KE.LcSums
import PyProof.Rows.MinMaxN
import KE.KTryDeep
import PyProof.ExcArgsOwn
import PyProof.ExcAttrAll.ValueError
import KE.KSortKey
import KE.KLam
import KE.KNestM
import KE.KIntText
import PyProof.JoinWalk
import PyProof.StrCalls
import KE.KDictSum
import KE.KIsAll
import KE.RegKIsAll
import PySem.Challenge.RW_evenmix_k59_whole_fates_and_shares
abbrev dz := @List.getElem?_eq_getElem
abbrev gV := @List.getD_eq_getElem?_getD
abbrev mo := @List.mem_cons_of_mem
abbrev ox := @List.length_map
abbrev Fk := @List.mem_cons_self
abbrev Gc := @List.mem_singleton
abbrev KE := @List.mem_append_right
abbrev L6 := @List.length_cons
abbrev L7 := @List.getElem?_eq_some_iff
abbrev L8 := @List.mem_cons
abbrev L9 := @List.getElem?_map
abbrev Ma := @List.mem_map
abbrev Mb := @List.map_cons
abbrev Mc := @List.mem_append
abbrev Md := @List.length_range
abbrev Me := @PySem.W.mg_of
abbrev Mf := @List.mem_append_left
abbrev Mg := @Int.toNat_natCast
abbrev Mh := @List.nodup_cons
abbrev Mi := @Nat.le_refl
abbrev Mj := @List.sum_cons
abbrev Ml := @List.getElem?_set_ne
abbrev Mm := @List.nodup_append
abbrev Mn := @PySem.boot_len
abbrev Mo := @Nat.lt_of_lt_of_le
abbrev Mp := @List.map_map
abbrev Mq := @Nat.le_trans
abbrev Mr := @List.map_append
abbrev Ms := @List.mem_range
abbrev Mt := @List.getElem?_append_left
abbrev Mv := @Bool.false_ne_true
abbrev Mw := @List.length_replicate
abbrev Mx := @List.length_append
abbrev Mz := @List.size_toArray
abbrev MA := @List.getElem?_append_right
abbrev MB := @Option.some.inj
abbrev MC := @List.getElem?_set_self
abbrev MD := @List.drop_eq_getElem_cons
abbrev MF := @List.not_mem_nil
abbrev MG := @Nat.ne_of_lt
abbrev MI := @PySem.W.mg_none_of
abbrev MJ := @PySem.mem_of_lookup
abbrev MK := @List.getElem?_range
abbrev MN := @List.mem_of_getElem?
abbrev MO := @List.getElem_mem
abbrev MP := @List.all_eq_true
abbrev MQ := @List.length_set
abbrev MR := @List.append_assoc
abbrev MT := @List.getElem?_replicate
abbrev MU := @List.dropLast_concat_getLast
abbrev MV := @List.append_nil
abbrev MX := @List.take_append_drop
abbrev MY := @Array.length_toList
abbrev MZ := @List.mem_filter
abbrev M0 := @Ne.symm
abbrev M1 := @List.take_of_length_le
abbrev M3 := @Iff.rfl
abbrev M5 := @List.length_take
abbrev M6 := @List.getElem?_set
abbrev M8 := @Nat.lt_irrefl
abbrev M9 := @Option.getD_some
abbrev Na := @Int.zero_add
abbrev Nb := @Bool.and_eq_true
abbrev Nd := @List.replicate_succ
abbrev Nf := @List.map_congr_left
abbrev Nj := @PySem.W.kia_one
abbrev Nk := @PySem.F.plainAttrs_list
abbrev Nl := @List.length_drop
abbrev Nn := @PyProof.Rows.callWith_type1
abbrev Nq := @List.nodup_nil
abbrev Nt := @Nat.le_succ
abbrev Ny := @Bool.false_eq_true
abbrev ND := @PySem.F.type_list_append
abbrev NF := @PySem.F.slot_list_append
abbrev NG := @Nat.zero_le
abbrev NH := @List.drop_zero
abbrev NJ := @List.getLast?_cons_cons
abbrev NP := @Nat.min_eq_left
abbrev NQ := @Bool.eq_iff_iff
abbrev NU := @PySem.W.hideAll_none
abbrev NY := @List.getElem_of_mem
abbrev N1 := @List.getElem_range
abbrev N5 := @List.length_nil
abbrev N7 := @Bool.not_true
abbrev Oe := @PySem.F.excBase_ValueError
abbrev Of := @Nat.pow_le_pow_right
abbrev Og := @List.mem_of_mem_take
abbrev Ol := @Nat.le_of_lt
abbrev Om := @List.take_length
abbrev Oo := @List.lookup_cons
abbrev Oq := @List.mem_of_find?_eq_some
abbrev Ot := @PySem.W.hideAll_get
abbrev Ov := @List.map_take
abbrev Oy := @List.sum_append
abbrev Oz := @List.find?_cons
abbrev OA := @List.zip_cons_cons
abbrev OB := @List.mem_filterMap
abbrev OJ := @Int.le_refl
abbrev OS := @List.take_succ_eq_append_getElem
abbrev OT := @List.map_nil
abbrev OU := @List.flatten_cons
abbrev OV := @List.filter_eq_nil_iff
abbrev OW := @List.Pairwise.map
abbrev OX := @Nat.not_lt
abbrev OY := @Nat.lt_succ_self
abbrev OZ := @List.getElem_map
abbrev O0 := @List.ext_getElem
abbrev O1 := @List.drop_length
abbrev Pa := @List.map_drop
abbrev Pg := @List.take_succ_cons
abbrev Ph := @List.filterMap_cons
abbrev Pn := @List.map_set
abbrev Po := @List.all_map
abbrev Pr := @PySem.W.of_hideAll
abbrev Pt := @PySem.W.callWith_K
abbrev Pw := @List.mem_or_eq_of_mem_set
set_option linter.all false
set_option maxRecDepth 100000
namespace L2
open PySem
abbrev jR:=Int × List Int
section
variable {prog:Program}{w:World}
abbrev inner(prog:Program)(w:World):=PySem.intKind prog w
def iI(h:Heap)(k:jR)(a:Addr):Prop :=
 ∃o n t b,h.get? a=some o/\o.cls=.type "tuple"/\o.data=.seq #[.int k.1 t,.ref b] n/\IsTupleKey (inner prog w) h k.2 b
def sr(prog:Program)(w:World)(k:jR):Int:=reduceHash (Builtin.Tuple.tupleHashOf [hashInt k.1,tupleKeyHash (inner prog w) k.2])
def iI.ty{s:Shared}{k:jR}{a:Addr}(x:iI (prog:=prog) (w:=w) s.heap k a):s.TypeIs (.ref a) "tuple":=by
 obtain ⟨o,n,t,b,e,c,_⟩:=x
 exact⟨o,e,c⟩
def iI.uniq{h:Heap}{a:Addr}{x y:jR}(hx:iI (prog:=prog) (w:=w) h x a)(hy:iI (prog:=prog) (w:=w) h y a):x=y:=by
 obtain ⟨o,n,t,b,e,c,d,i⟩:=hx
 obtain ⟨o',n',t',b',e',c',d',i'⟩:=hy
 rw[e] at e'
 cases e'
 rw[d] at d'
 injection d' with q1 _
 have q2:=congrArg Array.toList q1
 injection q2 with q3 q4
 injection q3 with q5 _
 injection q4 with q6 _
 injection q6 with q7
 subst q7
 exact Prod.ext q5 (i.inj i')
def iI.stays{h h':Heap}{k:jR}{a d:Addr}{o:Obj}{es ep}(x:iI (prog:=prog) (w:=w) h k a)(ho:h.get? d=some o)(hd:o.data=.dict es ep)(hs:Heap.SameBut d h h'):iI (prog:=prog) (w:=w) h' k a:=by
 obtain ⟨o',n,t,b,e,c,q,i⟩:=x
 have ne:a≠d:=fun z=>by
  rw[z,ho] at e
  cases e
  rw[hd] at q
  exact nomatch q
 exact⟨o',n,t,b,(hs.2 a ne).trans e,c,q,i.keeps ho hd hs⟩
def AX{p1 p2:Program}{w1 w2:World}{ks:List Int}{vs:List Value}(h:ItemsAre (intKind p1 w1) ks vs):ItemsAre (intKind p2 w2) ks vs:=by
 induction h with
 |nil=>exact .nil
 |cons a _ ih=>exact .cons a ih
def yr{p1 p2:Program}{w1 w2:World}{h:Heap}{ks:List Int}{a:Addr}(x:IsTupleKey (intKind p1 w1) h ks a):IsTupleKey (intKind p2 w2) h ks a:=by
 obtain ⟨o,it,n,e1,e2,e3,e4⟩:=x
 exact⟨o,it,n,e1,e2,e3,AX e4⟩
variable {A:Around}{E:Value->Shared->Prop}{s:Shared}
def Dt{k:jR}{a:Addr}{Q:Int->Shared->Prop}(hu:A.units+2<cLine)(hk:iI (prog:=prog) (w:=w) s.heap k a)(h:Q (sr prog w k) { s with toks:=s.toks+(k.2.length+3) }):wpAny (model prog w) A (pyHash (.ref a)) Q E s:=by
 have ty:=hk.ty
 obtain ⟨o,n,t,b,ho,_,hd,hi⟩:=hk
 unfold pyHash
 first|unfold pyHashByItsType|skip
 first|refine wpAny_bind (wpAny_cRoomFor_or (.inr (by omega)) ?_)|skip
 refine (wpAny_bind (wpAny_specialOf ty F.slot_tuple_hash.lookup ?_))
 show wpAny (model prog w) A (if (some (Value.builtin "tuple.__hash__") == some Value.none)=true then _ else _) Q E s
 rw[if_neg (fun z=>by rw[beq_builtin_none] at z;cases z)]
 refine (wpAny_bind (wpAny_specialOf ty F.slot_tuple_hash.lookup ?_))
 show wpAny (model prog w) A (callSpecialIfBoundUnlessNone? (.ref a) "__hash__" _ >>= _) Q E s
 refine wpAny_bind (wpAny_callSpecialIfBoundUnlessNone?_slot ty F.slot_tuple_hash (wpAny_call_entry F.slot_tuple_hash ty F.entry_tuple_hash ?_ (F.args_tuple_hash_1 _)))
 show wpAny (model prog w) _ (Builtin.Tuple.tupleItemsOf (.ref a) >>= _) _ _ s
 refine wpAny_bind (wpAny_tupleItemsOf ho hd (wpAny_bind ?_))
 rw[<- Array.forIn_toList]
 refine wpAny_forIn_list _ (fun NK (z:Array Int) s'=>(NK=[.int k.1 t,.ref b]/\z.toList=[]/\s'=s)\/(NK=[.ref b]/\z.toList=[hashInt k.1]/\s'={ s with toks:=s.toks+1 })\/(NK=[]/\z.toList=[hashInt k.1,tupleKeyHash (inner prog w) k.2]/\s'={ s with toks:=s.toks+1+(k.2.length+1) })) _ ?_ ?_ _ _ (.inl ⟨rfl,rfl,rfl⟩)
 .rintro x NK z s' (⟨e1,e2,rfl⟩|⟨e1,e2,rfl⟩|⟨e1,_⟩)
  .cases e1
   refine wpAny_bind ((inner prog w).pyHash (k:=k.1) (by simp [inner,intKind,Value.isInt]) ?_)
   first
    |exact wpAny_pure (.inr (.inl ⟨rfl,by simp [e2];rfl,rfl⟩))
    |exact wpAny_bind (wpAny_pure (wpAny_pure (.inr (.inl ⟨rfl,by simp [e2];rfl,rfl⟩))))
  .cases e1
   refine wpAny_bind (wpAny_pyHash_tuple (knd:=inner prog w) (ks:=k.2) (by first|omega|(show A.in1.units<cLine;show A.units+1<cLine;omega)) hi ?_)
   first
    |exact wpAny_pure (.inr (.inr ⟨rfl,by simp [e2],rfl⟩))
    |exact wpAny_bind (wpAny_pure (wpAny_pure (.inr (.inr ⟨rfl,by simp [e2],rfl⟩))))
  .cases e1
 .rintro z s' (⟨e1,_⟩|⟨e1,_⟩|⟨_,e2,rfl⟩)
  .cases e1
  .cases e1
  show wpAny (model prog w) _ (retInt (Builtin.Tuple.tupleHashOf z.toList)) _ _ _
  rw[e2]
  refine wpAny_ret_mkInt ?_
  unfold sr reduceHash at h
  generalize Builtin.Tuple.tupleHashOf [hashInt k.1,tupleKeyHash (inner prog w) k.2]=m at h ⊢
  rw[show s.toks+(k.2.length+3)=s.toks+1+(k.2.length+1)+1 by omega] at h
  show wpAny (model prog w) A (if (decide (-(2:Int) ^ 63<=m) && decide (m<2 ^ 63))=true then _ else _) Q E _
  by_cases hr:(decide (-(2:Int) ^ 63<=m) && decide (m<2 ^ 63))=true
  .rw[if_pos hr] at h ⊢
   exact wpAny_pure h
  .rw[if_neg hr] at h ⊢
   exact wpAny_bind (wpAny_rule (wpAny_pure h))
def Iw{x y:jR}{a b:Addr}(hu:A.units+2<cLine)(hx:iI (prog:=prog) (w:=w) s.heap x a)(hy:iI (prog:=prog) (w:=w) s.heap y b):SeqAt.EqAt A s (.ref a) (.ref b) (decide (x=y)):=by
 by_cases Qm:a=b
 .subst Qm
  rw[hx.uniq hy,decide_eq_true rfl]
  exact SeqAt.EqAt.same _
 .obtain ⟨o1,n1,t1,b1,g1,c1,d1,i1⟩:=hx
  obtain ⟨o2,n2,t2,b2,g2,c2,d2,i2⟩:=hy
  have r1:s.heap.IsTuple a #[.int x.1 t1,.ref b1]:=⟨o1,g1,c1,n1,d1⟩
  have r2:s.heap.IsTuple b #[.int y.1 t2,.ref b2]:=⟨o2,g2,c2,n2,d2⟩
  have inn:SeqAt.EqAt A.in1 s (.ref b1) (.ref b2) (decide (x.2=y.2)):=fun TY w' E' Q' q=>by
   have:=wpAny_eqBool_tuple (prog:=TY) (w:=w') (knd:=intKind TY w') (A:=A.in1) (E:=E') (s:=s) (x:=x.2) (y:=y.2) (a:=b1) (b:=b2) (Q:=Q') (by show A.units+1<cLine;omega) (yr i1) (yr i2) q
   exact this
  have key:=SeqAt.RcAt.tuples (A:=A) (e:=fun j=>if j=0 then decide (x.1=y.1) else decide (x.2=y.2)) r1 r2 (by omega) (fun j h1 h2=>by
   have hj:j=0\/j=1:=by simp at h1;omega
   rcases hj with rfl|rfl
   .have:=SeqAt.EqAt.int_int (A:=A.in1) (s:=s) x.1 t1 y.1 t2
    rw[show (x.1 == y.1)=decide (x.1=y.1) from rfl] at this
    exact this
   .exact inn)
  refine SeqAt.EqAt.of_refs Qm ?_
  have e:decide (x=y)=((List.range (min (#[Value.int x.1 t1,Value.ref b1]:Array Value).size (#[Value.int y.1 t2,Value.ref b2]:Array Value).size)).all (fun j=>if j=0 then decide (x.1=y.1) else decide (x.2=y.2)) && (#[Value.int x.1 t1,Value.ref b1]:Array Value).size == (#[Value.int y.1 t2,Value.ref b2]:Array Value).size):=by
   rw[show (List.range (min (#[Value.int x.1 t1,Value.ref b1]:Array Value).size (#[Value.int y.1 t2,Value.ref b2]:Array Value).size))=[0,1] from rfl]
   rw[NQ]
   simp [Prod.ext_iff]
  rw[e]
  exact key
def Ao{ks:List Int}{a:Addr}{n:Nat}{Q:Bool->Shared->Prop}(hk:IsTupleKey (inner prog w) s.heap ks a)(h:Q true s):wpAny (model prog w) A (eqIsQuiet (n+1) (.ref a)) Q E s:=by
 have ty:=hk.typeIs
 obtain ⟨o,it,m,ho,_,hd,hi⟩:=hk
 unfold eqIsQuiet
 refine (wpAny_bind (wpAny_specialOf ty F.slot_tuple_eq.lookup ?_))
 show wpAny (model prog w) A (isInstance (.ref a) (.type "tuple") >>= _) Q E s
 refine (wpAny_bind (wpAny_isInstance ty isSubtype_tuple_tuple ?_))
 simp only[N7,Ny,if_false]
 refine (wpAny_bind (wpAny_seqItems ho hd (wpAny_bind ?_)))
 show wpAny (model prog w) A (forIn it _ _) _ E s
 rw[<- Array.forIn_toList]
 refine wpAny_forIn_list _ (fun NK r s'=>(r.1=none/\s'=s)/\∀v∈NK,carriedByValue v=true) _ ?_ ?_ _ _ ⟨⟨rfl,rfl⟩,hi.byValue⟩
 .rintro v NK r s' ⟨⟨hr,rfl⟩,Pe⟩
  rw[eqIsQuiet_byValue _ (Pe v Fk)]
  refine wpAny_bind (wpAny_pure ?_)
  simp only[N7,Ny,if_false]
  exact wpAny_pure ⟨⟨rfl,rfl⟩,fun u hu=>Pe u (mo _ hu)⟩
 .rintro ⟨r1,r2⟩ s' ⟨⟨hr,rfl⟩,_⟩
  simp only at hr
  subst hr
  exact wpAny_pure h
def AN{k:jR}{a:Addr}{Q:Bool->Shared->Prop}(hk:iI (prog:=prog) (w:=w) s.heap k a)(h:Q true s):wpAny (model prog w) A (eqIsQuiet 8 (.ref a)) Q E s:=by
 have ty:=hk.ty
 obtain ⟨o,n,t,b,ho,_,hd,hi⟩:=hk
 unfold eqIsQuiet
 refine (wpAny_bind (wpAny_specialOf ty F.slot_tuple_eq.lookup ?_))
 show wpAny (model prog w) A (isInstance (.ref a) (.type "tuple") >>= _) Q E s
 refine (wpAny_bind (wpAny_isInstance ty isSubtype_tuple_tuple ?_))
 simp only[N7,Ny,if_false]
 refine (wpAny_bind (wpAny_seqItems ho hd (wpAny_bind ?_)))
 show wpAny (model prog w) A (forIn (#[Value.int k.1 t,Value.ref b]:Array Value) _ _) _ E s
 rw[<- Array.forIn_toList]
 refine wpAny_forIn_list _ (fun NK r s'=>(r.1=none/\s'=s)/\∀v∈NK,v=.int k.1 t\/v=.ref b) _ ?_ ?_ _ _ ⟨⟨rfl,rfl⟩,fun v hv=>by simpa using hv⟩
 .rintro v NK r s' ⟨⟨hr,rfl⟩,Pe⟩
  rcases Pe v Fk with rfl|rfl
  .rw[eqIsQuiet_byValue _ rfl]
   refine wpAny_bind (wpAny_pure ?_)
   simp only[N7,Ny,if_false]
   exact wpAny_pure ⟨⟨rfl,rfl⟩,fun u hu=>Pe u (mo _ hu)⟩
  .refine wpAny_bind (Ao hi ?_)
   simp only[N7,Ny,if_false]
   exact wpAny_pure ⟨⟨rfl,rfl⟩,fun u hu=>Pe u (mo _ hu)⟩
 .rintro ⟨r1,r2⟩ s' ⟨⟨hr,rfl⟩,_⟩
  simp only at hr
  subst hr
  exact wpAny_pure h
end
def j7(prog:Program)(w:World):HeapKind prog w jR where
 is:=iI (prog:=prog) (w:=w)
 hash:=sr prog w
 draws:=fun k=>k.2.length+3
 room:=fun A=>A.units+2<cLine
 inj:=fun hx hy=>hx.uniq hy
 keeps:=fun x ho hd hs=>x.stays ho hd hs
 pyHash:=fun hu hk h=>Dt hu hk h
 eqBool:=fun hu hx hy h=>Iw hu hx hy _ _ _ _ h
 quiet:=fun hk h=>AN hk h
end L2
set_option Elab.async false
namespace L2
open PySem PySem.Spec PyProof.Rows
abbrev Key:=Sum Int Str
def se:Key->Value->Bool
 |.inl k,v=>Value.isInt k v
 |.inr x,v=>Value.isStrOf x v
def LS(w:World):Key->Int
 |.inl k=>hashInt k
 |.inr x=>hashStr w x
def dB:∀{k:Key}{v:Value},se k v=true->(∃i t,k=Sum.inl i/\v=Value.int i t)\/(∃x t,k=Sum.inr x/\v=Value.str x t)
 |.inl i,v,h=>by
  obtain ⟨t,e⟩:=Value.isInt_shape (k:=i) (v:=v) h
  exact .inl ⟨i,t,rfl,e⟩
 |.inr x,v,h=>by
  obtain ⟨t,e⟩:=Value.isStrOf_shape (x:=x) (v:=v) h
  exact .inr ⟨x,t,rfl,e⟩
def Dy(i:Int)(t:Tok):se (.inl i) (.int i t)=true:=by simp [se,Value.isInt]
def Dq(x:Str)(t:Tok):se (.inr x) (.str x t)=true:=by simp [se,Value.isStrOf]
def Kz(a b:Int):decide ((Sum.inl a:Key)=Sum.inl b)=(a == b):=by
 by_cases e:a=b
 .subst e;simp
 .have h:¬ (Sum.inl a:Key)=Sum.inl b:=fun q=>e (Sum.inl.inj q)
  rw[decide_eq_false h]
  exact (beq_eq_false_iff_ne.mpr e).symm
def JN(a b:Str):decide ((Sum.inr a:Key)=Sum.inr b)=decide (a=b):=by
 by_cases e:a=b
 .subst e;simp
 .have h:¬ (Sum.inr a:Key)=Sum.inr b:=fun q=>e (Sum.inr.inj q)
  rw[decide_eq_false h,decide_eq_false e]
def Kd(a:Int)(b:Str):decide ((Sum.inl a:Key)=Sum.inr b)=false:=decide_eq_false (fun q=>nomatch q)
def Kh(a:Str)(b:Int):decide ((Sum.inr a:Key)=Sum.inl b)=false:=decide_eq_false (fun q=>nomatch q)
def eP(prog:Program)(w:World):PySem.KeyKind prog w Key where
 is:=se
 hash:=LS w
 inj:=fun v a b ha hb=>by
  rcases dB ha with ⟨i,t,rfl,rfl⟩|⟨x,t,rfl,rfl⟩
  .rcases dB hb with ⟨j,u,rfl,e⟩|⟨y,u,rfl,e⟩
   .injection e with e1 _;rw[e1]
   .exact nomatch e
  .rcases dB hb with ⟨j,u,rfl,e⟩|⟨y,u,rfl,e⟩
   .exact nomatch e
   .injection e with e1 _;rw[e1]
 byValue:=fun k v h=>by
  rcases dB h with ⟨i,t,rfl,rfl⟩|⟨x,t,rfl,rfl⟩<;>rfl
 pyHash:=fun hv h=>by
  rcases dB hv with ⟨i,t,rfl,rfl⟩|⟨x,t,rfl,rfl⟩
  .exact wpAny_pyHash_int h
  .exact wpAny_pyHash_str h
 eqBool:=fun hu hv h=>by
  rcases dB hu with ⟨i,t,rfl,rfl⟩|⟨x,t,rfl,rfl⟩
  .rcases dB hv with ⟨j,u,rfl,rfl⟩|⟨y,u,rfl,rfl⟩
   .rw[Kz] at h;exact wpAny_eqBool_int h
   .rw[Kd] at h;exact SeqAt.EqAt.int_str i t y u _ _ _ _ h
  .rcases dB hv with ⟨j,u,rfl,rfl⟩|⟨y,u,rfl,rfl⟩
   .rw[Kh] at h;exact SeqAt.EqAt.str_int x t j u _ _ _ _ h
   .rw[JN] at h;exact wpAny_eqBool_str h
 «strs»:=fun k x t v h=>by
  rcases dB h with ⟨i,u,rfl,e⟩|⟨y,u,rfl,e⟩
  .exact nomatch e
  .injection e with e1 _
   subst e1
   cases v<;>rfl
def zU(prog:Program)(w:World)(k:Key)(v:Value):(eP prog w).is k v=se k v:=rfl
def yl(prog:Program)(w:World)(i:Int)(t:Tok):(eP prog w).is (.inl i) (.int i t)=true:=Dy i t
def yP(prog:Program)(w:World)(x:Str)(t:Tok):(eP prog w).is (.inr x) (.str x t)=true:=Dq x t
end L2
namespace L2
open PySem PySem.Spec PyProof.Rows
inductive V where
 |non|bl (b:Bool)|int (i:Int)|str (x:Str)|byt (b:Array UInt8)|flt (b:UInt64)|ref (a:Addr)|ty (n:String)
 deriving DecidableEq
def RelV:V->Value->Prop
 |.non,u=>u=Value.none
 |.bl b,u=>u=Value.bool b
 |.int i,u=>∃t,u=Value.int i t
 |.str x,u=>∃t,u=Value.str x t
 |.byt b,u=>∃t,u=Value.bytes b t
 |.flt b,u=>∃t,u=Value.float b t
 |.ref a,u=>u=Value.ref a
 |.ty n,u=>u=Value.type n
abbrev Vals:List V->List Value->Prop:=Paired RelV
def Vals.length{xs:List V}{us:List Value}(r:Vals xs us):xs.length=us.length:=Paired.length r
def Vals.get:∀{xs:List V}{us:List Value}{i:Nat}{x:V},Vals xs us->xs[i]?=some x->∃u,us[i]?=some u/\RelV x u
 |_,_,_,_,.nil,e=>by simp at e
 |_,_,0,_,.cons r _,e=>by simp at e;subst e;exact⟨_,rfl,r⟩
 |_,_,i+1,x,.cons _ t,e=>by
  obtain ⟨u,h1,h2⟩:=Vals.get (i:=i) (x:=x) t (by simpa using e)
  exact⟨u,by simpa using h1,h2⟩
def Vals.set{x:V}{u:Value}(r:RelV x u):∀{xs:List V}{us:List Value} (i:Nat),Vals xs us->Vals (xs.set i x) (us.set i u)
 |_,_,_,.nil=>.nil
 |_,_,0,.cons _ t=>.cons r t
 |_,_,i+1,.cons q t=>.cons q (Vals.set r i t)
def Vals.append:∀{xs ys:List V}{us ws:List Value},Vals xs us->Vals ys ws->Vals (xs++ys) (us++ws)
 |_,_,_,_,.nil,s=>s
 |_,_,_,_,.cons r t,s=>.cons r (Vals.append t s)
def Vals.take:∀{xs:List V}{us:List Value} (n:Nat),Vals xs us->Vals (xs.take n) (us.take n)
 |_,_,0,_=>.nil
 |_,_,_+1,.nil=>.nil
 |_,_,n+1,.cons r t=>.cons r (Vals.take n t)
def Vals.drop:∀{xs:List V}{us:List Value} (n:Nat),Vals xs us->Vals (xs.drop n) (us.drop n)
 |_,_,0,r=>r
 |_,_,_+1,.nil=>.nil
 |_,_,n+1,.cons _ t=>Vals.drop n t
def nc:Option V->Option Value->Prop
 |some v,some u=>RelV v u
 |none,none=>True
 |_,_=>False
def KV{κ:Type}:List (κ × V)->List (κ × Value)->Prop:=Paired fun (p:κ × V) (q:κ × Value)=>p.1=q.1/\RelV p.2 q.2
def kV:Key->V
 |.inl i=>.int i
 |.inr x=>.str x
inductive HO where
  |lst (xs:List V)
  |tup (xs:List V)
  |dK (kvs:List (Key × V))|dT (kvs:List (List Key × V))
  |set (S:Int->Bool) (n:Nat)
  |ins (C dx:Addr) (fs:List (Str × V))
  |own (x:Addr)
  |xd (fs:List (Str × V))
  |met (f x:Addr)
  |rng (lo hi:Int)
  |frz (o:Obj) (u:HO)
  |tbl (ps:Array Value)
  |ext (φ:Heap->Prop)
 |memo (φ:Int->List Int->Int->Prop) (ks:List jR)
abbrev Hp:=Addr->Option HO
def upd(H:Hp)(a:Addr)(o:HO):Hp:=fun b=>if b=a then some o else H b
def aw{H:Hp}{a:Addr}{o:HO}:upd H a o a=some o:=by unfold upd;rw[if_pos rfl]
def aF{H:Hp}{a b:Addr}{o:HO}(h:b≠a):upd H a o b=H b:=by unfold upd;rw[if_neg h]
def ID{H:Hp}{a:Addr}{o u:HO}:upd (upd H a o) a u=upd H a u:=by
 funext b;unfold upd;split<;>rfl
def LH{H:Hp}{a b:Addr}{o u:HO}(h:H a=some o)(h':H b=some u)(d:o≠u):a≠b:=by
 intro e;subst e;rw[h] at h';exact d (MB h')
def bj{H:Hp}{a b:Addr}{o:HO}(h:H a=some o)(h':H b=none):a≠b:=by
 intro e;subst e;rw[h] at h';cases h'
def Ag(k:jR):Bool:=decide (0<=k.1) && decide (k.1<8) && decide (k.2.length<=5) && k.2.all fun e=>decide (0<=e) && decide (e<7)
def lF(H:Hp)(φ:Int->List Int->Int->Prop)(x:jR × Addr × Value):Prop:=∃b n t,H x.2.1=some (.tup [.int x.1.1,.ref b])/\H b=some (.tup (x.1.2.map V.int))/\x.2.2=.int n t/\φ x.1.1 x.1.2 n/\Ag x.1=true
section
variable (P:Program)(w:World)
def cB(H:Hp)(h:Heap)(a:Addr):HO->Prop
 |.lst xs=>xs.length<=sizeLine/\∃(ML:List Value) (n:Nat),Vals xs ML/\h.get? a=some { cls:=.type "list",data:=.seq ML.toArray n }
 |.tup xs=>xs.length<=sizeLine/\∃ML:List Value,Vals xs ML/\IsTup h a ML.toArray
 |.dK kvs=>kvs.length<=sizeLine/\(a == sysModules)=false/\∃vs,KV kvs vs/\h.DictOf (eP P w) a vs
 |.dT kvs=>kvs.length<=sizeLine/\(a == sysModules)=false/\∃xs:List (List Key × Addr × Value),
   Paired (fun (p:List Key × V) (q:List Key × Addr × Value)=>p.1=q.1/\H q.2.1=some (.tup (p.1.map kV))/\RelV p.2 q.2.2) kvs xs /\
   ∃o es ep,h.get? a=some o/\o.ExactDict/\o.data=.dict es ep/\es.toList=xs.map (entryOfKey (tupleKind (eP P w)))/\(xs.map (·.1)).Nodup
 |.set S n=>h.SetOf (intKind P w) a S n
 |.ins C dx fs=>H dx=some (.own a)/\fs.length<=1000/\dx≠a/\h.get? a=some (PySem.W.instObj C dx) /\
   ∃mA,h.Ns1 dx mA/\(∀f,nc (fs.lookup f) (mA f))/\PySem.Within mA (fs.map (·.1))
 |.own _=>∃o,h.get? a=some o
 |.xd fs=>∃mA,h.Ns1 a mA/\∀f,nc (fs.lookup f) (mA f)
 |.rng lo hi=>∃t u v,h.get? a=some { cls:=.type "range",data:=.fields #[.int lo t,.int hi u,.int 1 v] }
 |.frz o u=>h.get? a=some o/\cB H h a u
 |.tbl ps=>h.get? a=some { cls:=.none,data:=.fields ps }
 |.met f x=>h.get? a=some (PySem.W.methodObj (.ref f) (.ref x))
 |.memo φ ks=>(a == sysModules)=false/\∃xs:List (jR × Addr × Value),(∀x∈xs,lF H φ x)/\(∀k∈ks,k∈xs.map (·.1)) /\
   ∃o es ep,h.get? a=some o/\o.ExactDict/\o.data=.dict es ep/\es.toList=xs.map (entryOfKey (j7 P w))/\(xs.map (·.1)).Nodup
 |.ext φ=>φ h/\(∃o,h.get? a=some o)/\∀h1 h2:Heap,φ h1->(∀o,h1.get? a=some o->h2.get? a=some o)->φ h2
def HOk(H:Hp)(h:Heap):Prop:=∀a o,H a=some o->cB P w H h a o
end
section
variable {P:Program}{w:World}{H H':Hp}{h h':Heap}{a:Addr}{o:HO}
def cB.lt(x:cB P w H h a o):a<h.objs.size:=by
 cases o with
 |lst xs=>obtain ⟨_,_,_,_,e⟩:=x;exact Heap.lt_size e
 |tup xs=>obtain ⟨_,_,_,p⟩:=x;exact p.lt
 |dK kvs=>obtain ⟨_,_,_,_,o,_,_,e,_⟩:=x;exact Heap.lt_size e
 |dT kvs=>obtain ⟨_,_,_,_,o,_,_,e,_⟩:=x;exact Heap.lt_size e
 |set S n=>obtain ⟨o,_,_,_,e,_⟩:=x;exact Heap.lt_size e
 |ins C dx fs=>obtain ⟨_,_,_,e,_⟩:=x;exact Heap.lt_size e
 |own y=>obtain ⟨_,e⟩:=x;exact Heap.lt_size e
 |xd fs=>obtain ⟨_,⟨_,_,_,e,_⟩,_⟩:=x;exact Heap.lt_size e
 |rng lo hi=>obtain ⟨_,_,_,e⟩:=x;exact Heap.lt_size e
 |frz ob u=>obtain ⟨e,_⟩:=x;exact Heap.lt_size e
 |tbl ps=>exact Heap.lt_size (show h.get? a=some _ from x)
 |met f y=>exact Heap.lt_size (show h.get? a=some _ from x)
 |ext φ=>obtain ⟨_,⟨_,e⟩,_⟩:=x;exact Heap.lt_size e
 |memo φ ks=>obtain ⟨_,_,_,_,_,_,_,e,_⟩:=x;exact Heap.lt_size e
def Paired.KI{α β:Type}{F G:α->β->Prop}:∀{U8:List α}{U7:List β},Paired F U8 U7->(∀a b,F a b->G a b)->Paired G U8 U7
 |_,_,.nil,_=>.nil
 |_,_,.cons r t,f=>.cons (f _ _ r) (Paired.KI t f)
def cB.rN(x:cB P w H h a o)(k:∀b u,(b=a\/H b=some (.own a))->h.get? b=some u->h'.get? b=some u)
  (ho:∀b,H b=some (.own a)->H' b=some (.own a)) (ht:∀b xs,H b=some (.tup xs)->H' b=some (.tup xs)):cB P w H' h' a o:=by
 induction o with
 |lst xs=>obtain ⟨z,ML,n,r,e⟩:=x;exact⟨z,ML,n,r,k _ _ (.inl rfl) e⟩
 |tup xs=>obtain ⟨z,ML,r,ob,e,c⟩:=x;exact⟨z,ML,r,ob,k _ _ (.inl rfl) e,c⟩
 |dK kvs=>obtain ⟨z,y,vs,r,ob,es,ep,e,c⟩:=x;exact⟨z,y,vs,r,ob,es,ep,k _ _ (.inl rfl) e,c⟩
 |dT kvs =>
  obtain ⟨z,y,xs,r,ob,es,ep,e,c⟩:=x
  exact⟨z,y,xs,Paired.KI r fun p q z=>⟨z.1,ht _ _ z.2.1,z.2.2⟩,ob,es,ep,k _ _ (.inl rfl) e,c⟩
 |set S n=>obtain ⟨ob,es,ep,t,e,c⟩:=x;exact⟨ob,es,ep,t,k _ _ (.inl rfl) e,c⟩
 |ins C dx fs =>
  obtain ⟨d,z,ne,e,mA,⟨od,es,ep,e2,c⟩,r⟩:=x
  exact⟨ho _ d,z,ne,k _ _ (.inl rfl) e,mA,⟨od,es,ep,k _ _ (.inr d) e2,c⟩,r⟩
 |own y=>obtain ⟨ob,e⟩:=x;exact⟨ob,k _ _ (.inl rfl) e⟩
 |xd fs=>obtain ⟨mA,⟨od,es,ep,e,c⟩,r⟩:=x;exact⟨mA,⟨od,es,ep,k _ _ (.inl rfl) e,c⟩,r⟩
 |rng lo hi=>obtain ⟨t,u,v,e⟩:=x;exact⟨t,u,v,k _ _ (.inl rfl) e⟩
 |frz ob u ih=>obtain ⟨e,q⟩:=x;exact⟨k _ _ (.inl rfl) e,ih q⟩
 |tbl ps =>
  have e:h.get? a=some { cls:=.none,data:=.fields ps }:=x
  show h'.get? a=some { cls:=.none,data:=.fields ps }
  exact k a _ (.inl rfl) e
 |met f y =>
  have e:h.get? a=some (PySem.W.methodObj (.ref f) (.ref y)):=x
  show h'.get? a=some (PySem.W.methodObj (.ref f) (.ref y))
  exact k a _ (.inl rfl) e
 |memo φ ks =>
  obtain ⟨y,xs,hx,hk,ob,es,ep,e,c⟩:=x
  exact⟨y,xs,fun z hz=>let ⟨b,n,t,q1,q2,q3⟩:=hx z hz;⟨b,n,t,ht _ _ q1,ht _ _ q2,q3⟩,hk,ob,es,ep,k _ _ (.inl rfl) e,c⟩
 |ext φ=>obtain ⟨p,⟨o,e⟩,st⟩:=x;exact⟨st _ _ p fun o q=>k _ _ (.inl rfl) q,⟨o,k _ _ (.inl rfl) e⟩,st⟩
def HOk.lt(x:HOk P w H h)(e:H a=some o):a<h.objs.size:=(x a o e).lt
def HOk.fresh(x:HOk P w H h)(e:h.objs.size<=a):H a=none:=by
 cases q:H a with
 |none=>rfl
 |some u=>exact absurd (Mo (x.lt q) e) (M8 _)
def HOk.kept(x:HOk P w H h)(k:∀b u,h.get? b=some u->h'.get? b=some u):HOk P w H h':=fun a o e =>
 (x a o e).rN (fun b u _ q=>k b u q) (fun _ q=>q) fun _ _ q=>q
def HOk.laid(x:HOk P w H h)(k:∀b u,h.get? b=some u->h'.get? b=some u)(hp:h.objs.size<=a)(Np:cB P w (upd H a o) h' a o):HOk P w (upd H a o) h':=fun b u e=>by
 have hn:=x.fresh hp
 by_cases hb:b=a
 .subst hb;rw[aw] at e;cases e;exact Np
 .rw[aF hb] at e
  exact (x b u e).rN (fun c v _ q=>k c v q) (fun c q=>by rw[aF (bj q hn)];exact q) fun c xs q=>by rw[aF (bj q hn)];exact q
end
def Rd(H:Hp)(a:Addr)(u:HO):Prop:=H a=some u\/∃o,H a=some (.frz o u)
def Rd.ok{P:Program}{w:World}{H:Hp}{h:Heap}{a:Addr}{u:HO}(r:Rd H a u)(x:HOk P w H h):cB P w H h a u:=by
 rcases r with r|⟨o,r⟩
 .exact x a u r
 .obtain ⟨_,q⟩:=x a _ r
  exact q
def Mut:Option HO->Prop
 |some (.lst _)=>True
 |some (.dK _)=>True
 |some (.dT _)=>True
 |some (.set _ _)=>True
 |some (.ins _ _ _)=>True
 |some (.ext _)=>True
 |some (.memo _ _)=>True
 |_=>False
section
variable {P:Program}{w:World}{H:Hp}{h h':Heap}{x e:Addr}{o':HO}
def HOk.write(ok:HOk P w H h)(mu:Mut (H x))(he:e=x\/H e=some (.own x))(k:∀b u,b≠e->h.get? b=some u->h'.get? b=some u)(UT:∃u,h'.get? e=some u)
  (Np:cB P w (upd H x o') h' x o'):HOk P w (upd H x o') h':=fun b u q=>by
 have U2:∀c y,H c=some (.own y)->c≠x:=fun c y r z=>by subst z;rw[r] at mu;exact mu
 have W9:∀c xs,H c=some (.tup xs)->c≠x:=fun c xs r z=>by subst z;rw[r] at mu;exact mu
 by_cases hb:b=x
 .subst hb;rw[aw] at q;cases q;exact Np
 .rw[aF hb] at q
  by_cases Tp:b=e
  .have q':H b=some (.own x):=by
    rcases he with z|z
    .exact absurd (Tp.trans z) hb
    .rw[Tp];exact z
   rw[q] at q';cases q'
   obtain ⟨v,hv⟩:=UT
   exact⟨v,by rw[Tp];exact hv⟩
  .refine (ok b u q).rN (fun c v hc r=>k c v ?_ r) (fun c r=>by rw[aF (U2 c b r)];exact r) fun c xs r=>by rw[aF (W9 c xs r)];exact r
   rcases hc with rfl|hc
   .exact Tp
   .rintro rfl
    rcases he with z|z
    .exact U2 c b hc z
    .rw[hc] at z;cases z;exact hb rfl
end
structure Un(fs ex:List Addr)(H H':Hp)(h h':Heap):Prop where
 keep:∀b o,h.get? b=some o->H b=none->b∉fs->b∉ex->h'.get? b=some o
 slot:∀b o,h.get? b=some o->H b=none->b∈fs->b∉ex->∃sl,h'.get? b=some { o with slots:=sl }
 free:∀b o,h.get? b=some o->H b=none->b∉ex->H' b=none
 there:∀b o,h.get? b=some o->b∉ex->∃o',h'.get? b=some o'
 tups:∀b xs,H b=some (.tup xs)->H' b=some (.tup xs)
 frzs:∀b o u,H b=some (.frz o u)->H' b=some (.frz o u)
 tbls:∀b ps,H b=some (.tbl ps)->∃more,H' b=some (.tbl (ps++more))
section
variable {fs ex:List Addr}{H H1:Hp}{h h1 h':Heap}{a x e:Addr}{o:HO}
def Un.any(u:Un fs ex H H1 h h1){b:Addr}{ob:Obj}(q:h.get? b=some ob)(n:H b=none)(hx:b∉ex):∃sl,h1.get? b=some { ob with slots:=sl }:=by
 by_cases hb:b∈fs
 .exact u.slot b ob q n hb hx
 .exact⟨ob.slots,u.keep b ob q n hb hx⟩
def Un.kept(k:∀b u,h.get? b=some u->h'.get? b=some u):Un fs ex H H h h' :=
 ⟨fun b ob q _ _ _=>k b ob q,fun b ob q _ _ _=>⟨ob.slots,k b ob q⟩,fun _ _ _ n _=>n,fun b ob q _=>⟨ob,k b ob q⟩,fun _ _ q=>q,fun _ _ _ q=>q,fun _ ps q=>⟨#[],by rw[q];simp⟩⟩
def Un.refl:Un fs ex H H h h:=Un.kept fun _ _ q=>q
def Un.laid(k:∀b u,h.get? b=some u->h'.get? b=some u)(hp:h.objs.size<=a)(hn:H a=none):Un fs ex H (upd H a o) h h' where
 keep:=fun b u q _ _ _=>k b u q
 slot:=fun b u q _ _ _=>⟨u.slots,k b u q⟩
 free:=fun b u q n _=>by rw[aF (MG (Mo (Heap.lt_size q) hp))];exact n
 there:=fun b u q _=>⟨u,k b u q⟩
 tups:=fun b xs q=>by rw[aF (bj q hn)];exact q
 frzs:=fun b u xs q=>by rw[aF (bj q hn)];exact q
 tbls:=fun b ps q=>⟨#[],by rw[aF (bj q hn),q];simp⟩
def Un.write(mu:Mut (H x))(he:e=x\/H e=some (.own x))(k:∀b u,b≠e->h.get? b=some u->h'.get? b=some u)(UT:∃u,h'.get? e=some u):Un fs ex H (upd H x o) h h':=by
 have hx:∀b,H b=none->b≠x:=fun b n z=>by subst z;rw[n] at mu;exact mu
 have hb:∀b,H b=none->b≠e:=fun b n z=>by
  subst z
  rcases he with r|r
  .exact hx b n r
  .rw[n] at r;cases r
 have hm:∀b u,H b=some u->¬ Mut (some u)->b≠x:=fun b u q nm z=>by subst z;rw[q] at mu;exact nm mu
 refine⟨fun b u q n _ _=>k b u (hb b n) q,fun b u q n _ _=>⟨u.slots,k b u (hb b n) q⟩,fun b u q n _=>by rw[aF (hx b n)];exact n,fun b u q _=>?_,
  fun b xs q=>by rw[aF (hm b _ q fun z=>z)];exact q,fun b u xs q=>by rw[aF (hm b _ q fun z=>z)];exact q,fun b ps q=>⟨#[],by rw[aF (hm b _ q fun z=>z),q];simp⟩⟩
 by_cases Tp:b=e
 .subst Tp;exact UT
 .exact⟨u,k b u Tp q⟩
end
def trk(h:Heap)(H:Hp):List Addr:=(List.range h.objs.size).filter fun a=>(H a).isSome
def wC(h:Heap)(H:Hp):Heap:=PySem.W.hideAll h (trk h H)
def Dm(h:Heap)(H:Hp):(wC h H).objs.size=h.objs.size:=PySem.W.hideAll_size _ _
def sP{h:Heap}{H:Hp}{b:Addr}{o:Obj}(e:h.get? b=some o)(n:H b=none):(wC h H).get? b=some o :=
 Ot _ e fun hm=>by
  have q:(H b).isSome=true:=(MZ.mp hm).2
  rw[n] at q;simp at q
def Hl{h:Heap}{H:Hp}{b:Addr}{o:Obj}(e:(wC h H).get? b=some o):h.get? b=some o/\H b=none:=by
 have e':h.get? b=some o:=Pr (trk h H) e
 refine⟨e',?_⟩
 cases q:H b with
 |none=>rfl
 |some x =>
  have hm:b∈trk h H:=MZ.mpr ⟨Ms.mpr (Heap.lt_size e'),by simp [q]⟩
  have z:(wC h H).get? b=none:=NU (trk h H) hm
  rw[z] at e;cases e
end L2
namespace L2
open PySem PySem.Spec PyProof.Rows
structure Mod(K:PySem.W.Frag)(mg:Str->Option Value)(base:Heap):Prop where
 kin:K.In base
 glob:base.Ns mainGlobals mg
 blt:∃mb,base.Ns builtinsNs mb/\∀x:Str,x≠"__name__"->mb x=bootBuiltins x
 nolimit:base.NoLimit
structure Cx where
 prog:Program
 w:World
 K:PySem.W.Frag
 mg:Str->Option Value
 base:Heap
 A:Around
 N:List Str
 s₀:Shared
 H₀:Hp
 env:Env
 outer:List Env
 stack:List Env
 ex:List Addr
 fn:Str->Bool
 calm:Bool
 pn:List (Addr × Obj)
 xe:Value->Shared->Prop
def frs(l:List Env):List Addr:=l.filterMap (·.frame)
abbrev Cx.fs(X:Cx):List Addr:=frs X.outer
def Vis(sc:Scope)(x:Str):Prop:=sc.names.lookup x=some .local\/sc.names.lookup x=some .cell\/sc.names.lookup x=some .free
def Loc(sc:Scope)(x:Str):Prop:=sc.names.lookup x=some .local\/sc.names.lookup x=some .cell
def Look(env:Env)(h:Heap)(m:Str->Option Value)(x:Str)(u:Value):Prop :=
 (env.kindOf x=some .local/\m x=some u)\/((env.kindOf x=some .cell\/env.kindOf x=some .free)/\∃c,env.cells.lookup x=some c/\h.IsCell c (some u))
structure Cx.Ok(X:Cx):Prop where
 mod:Mod X.K X.mg X.base
 kind:X.env.scope.kind=.function
 glob:X.env.globals=mainGlobals
 blt:X.env.builtins=builtinsNs
 above:X.s₀.heap.objs.size<=X.env.locals
 inj:∀x y c,X.env.cells.lookup x=some c->X.env.cells.lookup y=some c->x=y
 has:∀x,(X.env.kindOf x=some .cell\/X.env.kindOf x=some .free)->∃c,X.env.cells.lookup x=some c
 cab:∀x c,X.fn x=true->X.env.cells.lookup x=some c->X.s₀.heap.objs.size<=c
 hd:X.calm=true->X.A.handled=none
 frames:X.A.frames=some X.stack
 stk:X.stack=X.outer\/(X.stack=X.env::X.outer/\X.env.frame=some X.env.locals)
 exf:∀b∈X.ex,b≠X.env.locals/\∀x c,X.env.cells.lookup x=some c->c≠b
 bs:∀b o,X.base.get? b=some o->X.s₀.heap.get? b=some o/\X.H₀ b=none
 bsz:X.base.objs.size<=X.s₀.heap.objs.size
 noex:∀b o,X.base.get? b=some o->b∉X.ex
 exfs:∀b∈X.ex,b∉X.fs
 pB:X.s₀.heap.FunFrames X.base X.outer
 frf:∀b∈X.fs,X.H₀ b=none
structure Inv(X:Cx)(pins:List (Addr × Obj))(σ:List (Option V))(H:Hp)(s:Shared):Prop where
 ok:X.Ok
 os:s.os=X.s₀.os
 bare:AllBare s.gens
 base:Un X.fs X.ex X.H₀ H X.s₀.heap s.heap
 loc:∃m,s.heap.Ns X.env.locals m/\∀(i:Nat) (x:Str) (v:V),X.N[i]?=some x->σ[i]?=some (some v)->Vis X.env.scope x->∃u,RelV v u/\Look X.env s.heap m x u
 cell:∀x c,X.env.cells.lookup x=some c->∃v,s.heap.IsCell c v
 free:H X.env.locals=none
 freeC:∀x c,X.env.cells.lookup x=some c->H c=none
 pin:∀p∈X.pn++pins,s.heap.get? p.1=some p.2/\H p.1=none/\p.1≠X.env.locals/\p.1∉X.fs/\∀v,p.2.data≠.cell v
 hok:HOk X.prog X.w H s.heap
 len:σ.length=X.N.length
section
variable {X:Cx}{pins:List (Addr × Obj)}{σ:List (Option V)}{H H':Hp}{s:Shared}{h':Heap}
def Cx.Ok.L5(ok:X.Ok){b:Addr}{o:Obj}(e:X.base.get? b=some o):b∉X.fs:=fun hb=>by
 have:=(ok.pB.mem hb).1
 rw[e] at this;cases this
def Inv.bs(I:Inv X pins σ H s):∀b o,X.base.get? b=some o->s.heap.get? b=some o/\H b=none:=fun b o e =>
 ⟨I.base.keep b o (I.ok.bs b o e).1 (I.ok.bs b o e).2 (I.ok.L5 e) (I.ok.noex b o e),I.base.free b o (I.ok.bs b o e).1 (I.ok.bs b o e).2 (I.ok.noex b o e)⟩
def Inv.bk(I:Inv X pins σ H s):∀b o,X.base.get? b=some o->s.heap.get? b=some o:=fun b o e=>(I.bs b o e).1
def Inv.mod(I:Inv X pins σ H s):Mod X.K X.mg X.base:=I.ok.mod
def Inv.kIn(I:Inv X pins σ H s):X.K.In s.heap:=I.ok.mod.kin.keeps I.bk
def Inv.lt(I:Inv X pins σ H s):X.env.locals<s.heap.objs.size:=let ⟨_,hn,_⟩:=I.loc;hn.lt
def Inv.sz(I:Inv X pins σ H s):X.s₀.heap.objs.size<=s.heap.objs.size:=Mq I.ok.above (Ol I.lt)
def Inv.K3(I:Inv X pins σ H s){a:Addr}(h:s.heap.objs.size<=a):a∉X.fs:=fun hb=>by
 obtain ⟨_,o,ho,_⟩:=I.ok.pB.mem hb
 exact absurd (Mo (Heap.lt_size ho) (Mq I.sz h)) (M8 _)
def Inv.cne(I:Inv X pins σ H s):∀x c,X.env.cells.lookup x=some c->c≠X.env.locals:=fun x c e z=>by
 obtain ⟨v,o,ho,hd⟩:=I.cell x c e
 obtain ⟨m,⟨o',es,ep,RY,X8,_⟩,_⟩:=I.loc
 rw[z,RY] at ho;cases ho;rw[X8] at hd;cases hd
def Inv.pB(I:Inv X pins σ H s):s.heap.FunFrames X.base X.outer:=by
 have all:∀(l:List Env),(∀b∈frs l,b∈X.fs)->X.s₀.heap.FunFrames X.base l->s.heap.FunFrames X.base l:=by
  intro l
  induction l with
  |nil=>intro _ _;trivial
  |cons env r ih =>
   intro hs hl
   obtain ⟨hk,⟨L,o,hf,hn,ho,hd⟩,hr⟩:=hl
   have hL:L∈X.fs:=hs L (by unfold frs;rw[Ph,hf];exact Fk)
   obtain ⟨sl,e⟩:=I.base.slot L o ho (I.ok.frf L hL) hL fun z=>I.ok.exfs L z hL
   exact⟨hk,⟨L,_,hf,hn,e,hd⟩,ih (fun b hb=>hs b (by unfold frs;rw[Ph,hf];exact mo _ hb)) hr⟩
 exact all X.outer (fun _ hb=>hb) I.ok.pB
def Inv.stack(I:Inv X pins σ H s):s.heap.FunFrames X.base X.stack:=by
 rcases I.ok.stk with e|⟨e,hf⟩
 .rw[e];exact I.pB
 .rw[e]
  obtain ⟨m,hn,_⟩:=I.loc
  refine .cons (by rw[I.ok.kind];decide) hf hn ?_ I.pB
  exact Heap.get?_none_of_le (Mq I.ok.bsz I.ok.above)
def Inv.rM(I:Inv X pins σ H s):∀b∈frs X.stack,b∈X.env.locals::X.fs:=fun b hb=>by
 rcases I.ok.stk with e|⟨e,hf⟩
 .rw[e] at hb;exact mo _ hb
 .rw[e] at hb
  unfold frs at hb
  rw[Ph,hf] at hb
  exact hb
def Inv.ra(I:Inv X pins σ H s):∀b∈frs X.stack,H b=none:=fun b hb=>by
 rcases L8.mp (I.rM b hb) with e|hb
 .rw[e];exact I.free
 .obtain ⟨_,o,ho,_⟩:=I.ok.pB.mem hb
  exact I.base.free b o ho (I.ok.frf b hb) fun z=>I.ok.exfs b z hb
def Inv.step{g':Array GenState}{t':Nat}{d':Drawn}{ch:List Addr}(I:Inv X pins σ H s)
  (hch:∀b∈ch,(b∈X.ex\/X.s₀.heap.objs.size<=b)/\b≠X.env.locals/\(∀x c,X.env.cells.lookup x=some c->c≠b)/\∀p∈X.pn++pins,p.1≠b)
  (keep:∀b o,b≠X.env.locals->b∉X.fs->b∉ch->s.heap.get? b=some o->H b=none->h'.get? b=some o)
  (slot:∀b o,b≠X.env.locals->b∈X.fs->b∉ch->s.heap.get? b=some o->H b=none->∃sl,h'.get? b=some { o with slots:=sl }) (free:∀b o,b∉ch->s.heap.get? b=some o->H b=none->H' b=none)
  (there:∀b o,b∉ch->s.heap.get? b=some o->∃o',h'.get? b=some o')
  (tups:∀b xs,H b=some (.tup xs)->H' b=some (.tup xs)) (frzs:∀b o u,H b=some (.frz o u)->H' b=some (.frz o u)) (tbls:∀b ps,H b=some (.tbl ps)->∃more,H' b=some (.tbl (ps++more)))
  (ns:∀m,s.heap.Ns X.env.locals m->h'.Ns X.env.locals m) (hok:HOk X.prog X.w H' h') (hg:AllBare g') :
  Inv X pins σ H' { s with heap:=h',gens:=g',drawn:=d',toks:=t' }:=by
 have YS:∀b o,X.s₀.heap.get? b=some o->b≠X.env.locals:=fun b o e=>MG (Mo (Heap.lt_size e) I.ok.above)
 have V3:∀b o,X.s₀.heap.get? b=some o->b∉X.ex->b∉ch:=fun b o e hx hb=>by
  rcases (hch b hb).1 with z|z
  .exact hx z
  .exact absurd (Mo (Heap.lt_size e) z) (M8 _)
 have Sw:∀x c,X.env.cells.lookup x=some c->∀v,s.heap.IsCell c v->h'.IsCell c v:=fun x c e v ⟨o,ho,hd⟩=>by
  have U6:c∉ch:=fun z=>(hch c z).2.2.1 x c e rfl
  by_cases hc:c∈X.fs
  .obtain ⟨sl,q⟩:=slot c o (I.cne x c e) hc U6 ho (I.freeC x c e)
   exact⟨_,q,hd⟩
  .exact⟨o,keep c o (I.cne x c e) hc U6 ho (I.freeC x c e),hd⟩
 refine⟨I.ok,I.os,hg,⟨fun b o e n hb hx=>?_,fun b o e n hb hx=>?_,fun b o e n hx=>?_,fun b o e hx=>?_,fun b xs e=>tups b xs (I.base.tups b xs e),fun b o xs e=>frzs b o xs (I.base.frzs b o xs e),fun b ps e=>?_⟩,?_,fun x c e=>?_,?_,fun x c e=>?_,fun p hp=>?_,hok,I.len⟩
 .exact keep b o (YS b o e) hb (V3 b o e hx) (I.base.keep b o e n hb hx) (I.base.free b o e n hx)
 .obtain ⟨sl,e1⟩:=I.base.slot b o e n hb hx
  obtain ⟨sl',e2⟩:=slot b _ (YS b o e) hb (V3 b o e hx) e1 (I.base.free b o e n hx)
  exact⟨sl',e2⟩
 .obtain ⟨o',e1⟩:=I.base.there b o e hx
  exact free b o' (V3 b o e hx) e1 (I.base.free b o e n hx)
 .obtain ⟨o',e1⟩:=I.base.there b o e hx
  exact there b o' (V3 b o e hx) e1
 .obtain ⟨m1,e1⟩:=I.base.tbls b ps e
  obtain ⟨m2,e2⟩:=tbls b _ e1
  exact⟨m1++m2,by rw[e2,Array.append_assoc]⟩
 .obtain ⟨m,hn,hl⟩:=I.loc
  refine⟨m,ns m hn,fun i x v e1 e2 e3=>?_⟩
  obtain ⟨u,r,l⟩:=hl i x v e1 e2 e3
  refine⟨u,r,?_⟩
  rcases l with l|⟨k,c,e,z⟩
  .exact .inl l
  .exact .inr ⟨k,c,e,Sw x c e _ z⟩
 .obtain ⟨v,z⟩:=I.cell x c e
  exact⟨v,Sw x c e v z⟩
 .obtain ⟨m,⟨o,_,_,ho,_⟩,_⟩:=I.loc
  exact free _ o (fun z=>(hch _ z).2.1 rfl) ho I.free
 .obtain ⟨v,o,ho,hd⟩:=I.cell x c e
  exact free c o (fun z=>(hch c z).2.2.1 x c e rfl) ho (I.freeC x c e)
 .obtain ⟨e,n,ne,nf,d⟩:=I.pin p hp
  have U6:p.1∉ch:=fun z=>(hch p.1 z).2.2.2 p hp rfl
  exact⟨keep p.1 p.2 ne nf U6 e n,free p.1 p.2 U6 e n,ne,nf,d⟩
def Inv.un{t':Nat}(I:Inv X pins σ H s)(u:Un X.fs [] H H' s.heap h')(hok:HOk X.prog X.w H' h'):Inv X pins σ H' { s with heap:=h',toks:=t' }:=by
 obtain ⟨m,⟨o,es,ep,ho,r⟩,_⟩:=id I.loc
 obtain ⟨sl,hL⟩:=u.any ho I.free (by simp)
 exact I.step (g':=s.gens) (d':=s.drawn) (ch:=[]) (fun _ z=>nomatch z) (fun b o _ hb _ e n=>u.keep b o e n hb (by simp)) (fun b o _ hb _ e n=>u.slot b o e n hb (by simp)) (fun b o _ e n=>u.free b o e n (by simp)) (fun b o _ e=>u.there b o e (by simp)) u.tups u.frzs u.tbls (fun m' hm=>by
  obtain ⟨o',es',UE,RY,r'⟩:=hm
  rw[ho] at RY;cases RY
  exact⟨_,es',UE,hL,r'⟩) hok I.bare
def Inv.call{g':Array GenState}{t':Nat}{d':Drawn}{ch:List Addr}(I:Inv X pins σ H s)(u:Un (frs X.stack) ch H H' s.heap h')(hok:HOk X.prog X.w H' h')(hg:AllBare g')
  (hch:∀b∈ch,(b∈X.ex\/X.s₀.heap.objs.size<=b)/\b≠X.env.locals/\(∀x c,X.env.cells.lookup x=some c->c≠b)/\∀p∈X.pn++pins,p.1≠b) :
  Inv X pins σ H' { s with heap:=h',gens:=g',drawn:=d',toks:=t' }:=by
 obtain ⟨m,⟨o,es,ep,ho,r⟩,_⟩:=id I.loc
 obtain ⟨sl,hL⟩:=u.any ho I.free fun z=>(hch _ z).2.1 rfl
 exact I.step (ch:=ch) hch (fun b o hL hb hc e n=>u.keep b o e n (fun z=>(L8.mp (I.rM b z)).elim hL hb) hc) (fun b o _ _ hc e n=>u.any e n hc) (fun b o hc e n=>u.free b o e n hc) (fun b o hc e=>u.there b o e hc) u.tups u.frzs u.tbls (fun m' hm=>by
  obtain ⟨o',es',UE,RY,r'⟩:=hm
  rw[ho] at RY;cases RY
  exact⟨_,es',UE,hL,r'⟩) hok hg
def Inv.turned{t':Nat}{it:Addr}(I:Inv X pins σ H s)(k:∀b o,b≠it->s.heap.get? b=some o->h'.get? b=some o)(hn:H it=none)(hL:it≠X.env.locals)
  (h1:it∈X.ex\/X.s₀.heap.objs.size<=it) (h2:∀x c,X.env.cells.lookup x=some c->c≠it) (h3:∀p∈X.pn++pins,p.1≠it):Inv X pins σ H { s with heap:=h',toks:=t' }:=by
 have YR:∀b u,H b=some u->b≠it:=fun b u e z=>by rw[z,hn] at e;cases e
 refine I.step (g':=s.gens) (d':=s.drawn) (ch:=[it]) (fun b hb=>?_) (fun b o _ _ hc e _=>k b o (fun z=>hc (by simp [z])) e) (fun b o _ _ hc e _=>⟨o.slots,k b o (fun z=>hc (by simp [z])) e⟩) (fun _ _ _ _ n=>n)
  (fun b o hc e=>⟨o,k b o (fun z=>hc (by simp [z])) e⟩) (fun _ _ e=>e) (fun _ _ _ e=>e) (fun b ps e=>⟨#[],by rw[e];simp⟩) (fun m hm=>?_) (fun b u e=>?_) I.bare
 .have e:b=it:=by simpa using hb
  subst e
  exact⟨h1,hL,h2,h3⟩
 .obtain ⟨o,es,ep,ho,r⟩:=hm
  exact⟨o,es,ep,k _ o (M0 hL) ho,r⟩
 .refine (I.hok b u e).rN (fun c v hc q=>k c v ?_ q) (fun _ q=>q) fun _ _ q=>q
  rcases hc with z|z
  .rw[z];exact YR b u e
  .exact YR c _ z
def Inv.tok(I:Inv X pins σ H s)(t:Nat):Inv X pins σ H { s with toks:=t }:=I.un (h':=s.heap) (t':=t) Un.refl I.hok
def Inv.kept{t':Nat}(I:Inv X pins σ H s)(k:∀b u,s.heap.get? b=some u->h'.get? b=some u):Inv X pins σ H { s with heap:=h',toks:=t' }:=I.un (Un.kept k) (I.hok.kept k)
def Inv.laid{a:Addr}{o:HO}{t':Nat}(I:Inv X pins σ H s)(k:∀b u,s.heap.get? b=some u->h'.get? b=some u)(hp:s.heap.objs.size<=a)(Np:cB X.prog X.w (upd H a o) h' a o) :
  Inv X pins σ (upd H a o) { s with heap:=h',toks:=t' }:=I.un (Un.laid k hp (I.hok.fresh hp)) (I.hok.laid k hp Np)
def Inv.write{x e:Addr}{o:HO}{t':Nat}(I:Inv X pins σ H s)(mu:Mut (H x))(he:e=x\/H e=some (.own x))(k:∀b u,b≠e->s.heap.get? b=some u->h'.get? b=some u)(UT:∃u,h'.get? e=some u)
  (Np:cB X.prog X.w (upd H x o) h' x o):Inv X pins σ (upd H x o) { s with heap:=h',toks:=t' }:=I.un (Un.write mu he k UT) (I.hok.write mu he k UT Np)
def Inv.weak{σ':List (Option V)}(I:Inv X pins σ H s)(hl:σ'.length=σ.length)(w:∀(i:Nat) v,σ'[i]?=some (some v)->σ[i]?=some (some v)):Inv X pins σ' H s :=
 ⟨I.ok,I.os,I.bare,I.base,let ⟨m,hn,UP⟩:=I.loc;⟨m,hn,fun i x v e1 e2 e3=>UP i x v e1 (w i v e2) e3⟩,I.cell,I.free,I.freeC,I.pin,I.hok,hl.trans I.len⟩
def Inv.pA{Sn:List (Addr × Obj)}(I:Inv X pins σ H s)(h:∀p∈Sn,s.heap.get? p.1=some p.2/\H p.1=none/\p.1≠X.env.locals/\p.1∉X.fs/\∀v,p.2.data≠.cell v):Inv X Sn σ H s :=
 ⟨I.ok,I.os,I.bare,I.base,I.loc,I.cell,I.free,I.freeC,fun p hp=>(Mc.mp hp).elim (fun z=>I.pin p (Mf _ z)) (h p),I.hok,I.len⟩
def zx{N:List Str}(hN:N.Nodup){i j:Nat}{x:Str}(a:N[i]?=some x)(b:N[j]?=some x):i=j:=by
 obtain ⟨h1,e1⟩:=L7.mp a
 obtain ⟨h2,e2⟩:=L7.mp b
 exact (List.getElem_inj hN).mp (e1.trans e2.symm)
def vT{M:Model}{A:Around}{E:Value->Shared->Prop}{i:Nat}{x:Str}{v:V}{u:Value}{Q:Unit->Shared->Prop}(I:Inv X pins σ H s)(hN:X.N.Nodup)(hi:X.N[i]?=some x)(hx:Loc X.env.scope x)(r:RelV v u)
  (h:∀s',Inv X pins (σ.set i (some v)) H s'->(∃a,Heap.SameBut a s.heap s'.heap/\(a=X.env.locals\/X.env.cells.lookup x=some a))->Q () s') (hf:X.fn x=true\/X.env.scope.names.lookup x=some .local:=by first|exact .inl rfl|exact .inr rfl|assumption):wpAny M A (storeName X.env x u) Q E s:=by
 obtain ⟨m,hn,hl⟩:=id I.loc
 have UA:(X.env.scope.kind == .class || (X.env.scope.kind == .module && X.env.locals != X.env.globals))=false:=by rw[I.ok.kind];rfl
 have Vt:i<σ.length:=by rw[I.len];exact (L7.mp hi).1
 have cne:=I.cne
 have Sk:∀{a:Addr}{h':Heap},(∃o,s.heap.get? a=some o/\H a=none)->Heap.SameBut a s.heap h'->HOk X.prog X.w H h':=fun {a h'} ha hs b ob e=>by
  obtain ⟨_,_,T8⟩:=ha
  refine (I.hok b ob e).rN (fun c w' hc q=>(hs.2 c ?_).trans q) (fun _ q=>q) fun _ _ q=>q
  rintro rfl
  rcases hc with rfl|hc
  .rw[T8] at e;cases e
  .rw[T8] at hc;cases hc
 rcases hx with hk|hk
 .refine wpAny_storeName_local hk hn (fun h' XC hs=>?_) UA
  obtain ⟨oL,_,_,T5,_⟩:=id hn
  refine h _ ⟨I.ok,I.os,I.bare,⟨fun b o e n hb hx=>?_,fun b o e n hb hx=>?_,I.base.free,fun b o e hx=>?_,I.base.tups,I.base.frzs,I.base.tbls⟩,⟨_,XC,fun j y v' e1 e2 e3=>?_⟩,fun y c e=>?_,I.free,I.freeC,fun p hp=>?_,Sk ⟨oL,T5,I.free⟩ hs,by simpa using I.len⟩ ⟨_,hs,.inl rfl⟩
  .exact (hs.2 b (MG (Mo (Heap.lt_size e) I.ok.above))).trans (I.base.keep b o e n hb hx)
  .obtain ⟨sl,e1⟩:=I.base.slot b o e n hb hx
   exact⟨sl,(hs.2 b (MG (Mo (Heap.lt_size e) I.ok.above))).trans e1⟩
  .obtain ⟨o',e1⟩:=I.base.there b o e hx
   exact⟨o',(hs.2 b (MG (Mo (Heap.lt_size e) I.ok.above))).trans e1⟩
  .by_cases hj:j=i
   .subst hj
    rw[hi] at e1;cases e1
    rw[MC Vt] at e2
    cases e2
    exact⟨u,r,.inl ⟨hk,by simp⟩⟩
   .rw[Ml (M0 hj)] at e2
    obtain ⟨u',r',q⟩:=hl j y v' e1 e2 e3
    refine⟨u',r',?_⟩
    rcases q with ⟨k,e⟩|⟨k,c,e,z⟩
    .refine .inl ⟨k,?_⟩
     have:y≠x:=fun e=>hj (zx hN e1 (e▸hi))
     simp [this,e]
    .exact .inr ⟨k,c,e,z.sameBut hs (cne y c e)⟩
  .obtain ⟨w',z⟩:=I.cell y c e
   exact⟨w',z.sameBut hs (cne y c e)⟩
  .obtain ⟨e,n,ne,nf,d⟩:=I.pin p hp
   exact⟨(hs.2 p.1 ne).trans e,n,ne,nf,d⟩
 .have Ua:X.fn x=true:=by
   rcases hf with z|z
   .exact z
   .rw[z] at hk;cases hk
  obtain ⟨c,hc⟩:=I.ok.has x (.inl hk)
  obtain ⟨w',z⟩:=I.cell x c hc
  refine wpAny_storeName_cell I.ok.kind hk hc z (fun h' Tv hs=>?_)
  obtain ⟨oc,Y3,Xx⟩:=id z
  refine h { s with heap:=h' } ⟨I.ok,I.os,I.bare,⟨fun b o e n hb hx=>?_,fun b o e n hb hx=>?_,I.base.free,fun b o e hx=>?_,I.base.tups,I.base.frzs,I.base.tbls⟩,⟨m,hn.sameBut hs (M0 (cne x c hc)),fun j y v' e1 e2 e3=>?_⟩,fun y c' e=>?_,I.free,I.freeC,fun p hp=>?_,Sk ⟨oc,Y3,I.freeC x c hc⟩ hs,by simpa using I.len⟩ ⟨c,hs,.inr hc⟩
  .exact (hs.2 b (MG (Mo (Heap.lt_size e) (I.ok.cab x c Ua hc)))).trans (I.base.keep b o e n hb hx)
  .obtain ⟨sl,e1⟩:=I.base.slot b o e n hb hx
   exact⟨sl,(hs.2 b (MG (Mo (Heap.lt_size e) (I.ok.cab x c Ua hc)))).trans e1⟩
  .obtain ⟨o',e1⟩:=I.base.there b o e hx
   exact⟨o',(hs.2 b (MG (Mo (Heap.lt_size e) (I.ok.cab x c Ua hc)))).trans e1⟩
  .by_cases hj:j=i
   .subst hj
    rw[hi] at e1;cases e1
    rw[MC Vt] at e2
    cases e2
    exact⟨u,r,.inr ⟨.inl hk,c,hc,Tv⟩⟩
   .rw[Ml (M0 hj)] at e2
    obtain ⟨u',r',q⟩:=hl j y v' e1 e2 e3
    refine⟨u',r',?_⟩
    rcases q with q|⟨k,c',e,z'⟩
    .exact .inl q
    .refine .inr ⟨k,c',e,z'.sameBut hs ?_⟩
     rintro rfl
     exact hj (zx hN e1 (I.ok.inj _ _ _ e hc▸hi))
  .by_cases Ye:c'=c
   .subst Ye;exact⟨_,Tv⟩
   .obtain ⟨w2,z2⟩:=I.cell y c' e
    exact⟨w2,z2.sameBut hs Ye⟩
  .obtain ⟨e,n,ne,nf,d⟩:=I.pin p hp
   refine⟨(hs.2 p.1 ?_).trans e,n,ne,nf,d⟩
   intro q
   rw[q,Y3] at e
   have q':oc=p.2:=MB e
   exact d w' (by rw[<- q'];exact Xx)
def sF{M:Model}{A:Around}{E:Value->Shared->Prop}{i:Nat}{x:Str}{v:V}{u:Value}{Q:Unit->Shared->Prop}(I:Inv X pins σ H s)(hN:X.N.Nodup)(hi:X.N[i]?=some x)(hx:Loc X.env.scope x)(r:RelV v u)
  (h:∀s',Inv X pins (σ.set i (some v)) H s'->Q () s') (hf:X.fn x=true\/X.env.scope.names.lookup x=some .local:=by first|exact .inl rfl|exact .inr rfl|assumption):wpAny M A (storeName X.env x u) Q E s :=
 vT I hN hi hx r (fun s' I' _=>h s' I') hf
def Inv.xX{s':Shared}{ch:List Addr}(I:Inv X pins σ H s)(ho:s'.os=s.os)(u:Un (frs X.stack) ch H H' s.heap s'.heap)(hok:HOk X.prog X.w H' s'.heap)(hg:AllBare s'.gens)
  (hch:∀b∈ch,(b∈X.ex\/X.s₀.heap.objs.size<=b)/\b≠X.env.locals/\(∀x c,X.env.cells.lookup x=some c->c≠b)/\∀p∈X.pn++pins,p.1≠b):Inv X pins σ H' s':=by
 obtain ⟨h',g',d',t',o'⟩:=s'
 have e:o'=s.os:=ho
 subst e
 exact I.call (g':=g') (t':=t') (d':=d') u hok hg hch
end
abbrev XK:=Value->Option Addr->Hp->Prop
abbrev St:=List (Option V)
abbrev VK:=V->Hp->Prop
abbrev TE:=St->Hp->VK->Prop
abbrev TT:=St->Hp->(Bool->Hp->Prop)->Prop
abbrev TA:=St->Hp->(List V->Hp->Prop)->Prop
structure Ends where
 nx:St->Hp->Prop
 rt:VK
 bk:St->Hp->Prop:=fun _ _=>False
 ct:St->Hp->Prop:=fun _ _=>False
abbrev TS:=Ends->St->Hp->Prop
def EP(X:Cx)(pins:List (Addr × Obj))(σ:St)(Q:VK)(u:Value)(s':Shared):Prop:=∃v H',Inv X pins σ H' s'/\RelV v u/\Q v H'
def TP(X:Cx)(pins:List (Addr × Obj))(σ:St)(Q:Bool->Hp->Prop)(b:Bool)(s':Shared):Prop:=∃H',Inv X pins σ H' s'/\Q b H'
def AP(X:Cx)(pins:List (Addr × Obj))(σ:St)(Q:List V->Hp->Prop)(us:List Value)(s':Shared):Prop:=∃vs H',Inv X pins σ H' s'/\Vals vs us/\Q vs H'
def SP(X:Cx)(pins:List (Addr × Obj))(D:Ends)(f:Flow)(s':Shared):Prop :=
 match f with
 |.next=>∃σ' H',Inv X pins σ' H' s'/\D.nx σ' H'
 |.brk=>∃σ' H',Inv X pins σ' H' s'/\D.bk σ' H'
 |.cont=>∃σ' H',Inv X pins σ' H' s'/\D.ct σ' H'
 |.ret u=>∃v σ' H',Inv X pins σ' H' s'/\RelV v u/\D.rt v H'
def PE(X:Cx)(e:Expr)(t:TE):Prop :=
 ∀(pins:List (Addr × Obj)) (s:Shared) (σ:St) (H:Hp) (Q:VK),Inv X pins σ H s->t σ H Q->wpAny (model X.prog X.w) X.A (eval e X.env) (EP X pins σ Q) X.xe s
def PT(X:Cx)(e:Expr)(t:TT):Prop :=
 ∀(pins:List (Addr × Obj)) (s:Shared) (σ:St) (H:Hp) (Q:Bool->Hp->Prop),Inv X pins σ H s->t σ H Q->wpAny (model X.prog X.w) X.A (isTrue e X.env (eval e X.env)) (TP X pins σ Q) X.xe s
def PW(X:Cx)(e:Expr)(t:TT):Prop :=
 ∀(Sj:Sem Value) (pins:List (Addr × Obj)) (s:Shared) (σ:St) (H:Hp) (Q:Bool->Hp->Prop),Inv X pins σ H s->t σ H Q->wpAny (model X.prog X.w) X.A (isTrue e X.env Sj) (TP X pins σ Q) X.xe s
def PW.pt{X:Cx}{e:Expr}{t:TT}(h:PW X e t):PT X e t:=h _
def PA(X:Cx)(es:List Expr)(t:TA):Prop :=
 ∀(MH:Pos) (pins:List (Addr × Obj)) (s:Shared) (σ:St) (H:Hp) (Q:List V->Hp->Prop),Inv X pins σ H s->t σ H Q->wpAny (model X.prog X.w) X.A (spliced (backTo MH (starEach es X.env))) (AP X pins σ Q) X.xe s
def PS(X:Cx)(st:Stmt)(t:TS):Prop :=
 ∀(pins:List (Addr × Obj)) (s:Shared) (σ:St) (H:Hp) (D:Ends),Inv X pins σ H s->t D σ H->wpAny (model X.prog X.w) X.A (exec st X.env) (SP X pins D) X.xe s
def PSs(X:Cx)(st:List Stmt)(t:TS):Prop :=
 ∀(pins:List (Addr × Obj)) (s:Shared) (σ:St) (H:Hp) (D:Ends),Inv X pins σ H s->t D σ H->wpAny (model X.prog X.w) X.A (execs st X.env) (SP X pins D) X.xe s
def thn{α:Type}{t:Sem α}{Q Q':α->Shared->Prop}{M:Model}{A:Around}{E:Value->Shared->Prop}{s:Shared}(h:wpAny M A t Q E s)(hQ:∀a s,Q a s->Q' a s):wpAny M A t Q' E s:=wpAny_mono h hQ fun _ _ x=>x
end L2
namespace L2
open PySem PySem.Spec PyProof.Rows
section
variable {X:Cx}
def eJ(i:Nat):TE:=fun σ H Q=>∃v,σ[i]?=some (some v)/\Q v H
def tC(v:V):TE:=fun _ H Q=>Q v H
def J4{i:Nat}{x:Str}{MH:Pos}(hN:X.N[i]?=some x)(hv:Vis X.env.scope x)(hd:(x == ("__debug__" : Str))=false:=by decide)(PJ:(x == ("__classdict__" : Str))=false:=by decide):PE X (.Name x MH) (eJ i):=by
 intro pins s σ H Q I h
 obtain ⟨v,e,h⟩:=h
 obtain ⟨m,hn,hl⟩:=I.loc
 obtain ⟨u,r,l⟩:=hl i x v hN e hv
 have Pz:EP X pins σ Q u s:=⟨v,H,I,r,h⟩
 rcases l with ⟨hk,hm⟩|⟨hk,c,hc,Ql⟩
 .exact wpAny_Name (wpAny_loadName_local I.ok.kind hk hn hm Pz) hd
 .rcases hk with hk|hk
  .exact wpAny_Name (wpAny_loadName_cell I.ok.kind hk hc Ql Pz) hd
  .exact wpAny_Name (wpAny_loadName_free I.ok.kind hk hc Ql Pz PJ) hd
def au{i j MH}:PE X (.Constant (.int i) j MH) (tC (.int i)):=fun _ _ _ H _ I h=>wpAny_Constant_int ⟨.int i,H,I.tok _,⟨_,rfl⟩,h⟩
def BW{b j MH}:PE X (.Constant (.bool b) j MH) (tC (.bl b)):=fun _ _ _ H _ I h=>Constant_bool ⟨.bl b,H,I,rfl,h⟩
def jG{j MH}:PE X (.Constant .none j MH) (tC .non):=fun _ _ _ H _ I h=>Constant_none ⟨.non,H,I,rfl,h⟩
def dX{x j MH}:PE X (.Constant (.str x) j MH) (tC (.str x)):=fun _ _ _ H _ I h=>Calls.Constant_str ⟨.str x,H,I.tok _,⟨_,rfl⟩,h⟩
def Gl(X:Cx)(x:Str):Prop:=X.env.kindOf x=some .globalImplicit
def mW{E:Value->Shared->Prop}{pins:List (Addr × Obj)}{s:Shared}{σ:St}{H:Hp}{x:Str}{u:Value}{MH:Pos}{Q:Value->Shared->Prop}(I:Inv X pins σ H s)(hg:Gl X x)(hm:X.mg x=some u)(h:Q u s)
  (hd:(x == ("__debug__" : Str))=false:=by decide):wpAny (model X.prog X.w) X.A (eval (.Name x MH) X.env) Q E s :=
 Calls.Name_function_global I.ok.kind hg (Calls.loadGlobal_global (by rw[I.ok.glob];exact I.mod.glob.keeps I.bk) hm h) hd
def kF{E:Value->Shared->Prop}{pins:List (Addr × Obj)}{s:Shared}{σ:St}{H:Hp}{x:Str}{u:Value}{MH:Pos}{Q:Value->Shared->Prop}(I:Inv X pins σ H s)(hg:Gl X x)(hm:X.mg x=none)(hv:bootBuiltins x=some u)(h:Q u s)
  (hn:x≠"__name__":=by decide) (hd:(x == ("__debug__" : Str))=false:=by decide):wpAny (model X.prog X.w) X.A (eval (.Name x MH) X.env) Q E s:=by
 obtain ⟨mb,h1,h2⟩:=I.mod.blt
 exact Calls.Name_function_global I.ok.kind hg (Calls.loadGlobal_builtin (by rw[I.ok.glob];exact I.mod.glob.keeps I.bk) hm (by rw[I.ok.blt];exact h1.keeps I.bk) ((h2 x hn).trans hv) h) hd
def Bk{x:Str}{v:V}{u:Value}{MH:Pos}(hg:Gl X x)(hm:X.mg x=some u)(r:RelV v u)(hd:(x == ("__debug__" : Str))=false:=by decide):PE X (.Name x MH) (tC v) :=
 fun _ _ _ H _ I h=>mW I hg hm ⟨v,H,I,r,h⟩ hd
def wa{x:Str}{v:V}{u:Value}{MH:Pos}(hg:Gl X x)(hm:X.mg x=none)(hv:bootBuiltins x=some u)(r:RelV v u)(hn:x≠"__name__":=by decide)(hd:(x == ("__debug__" : Str))=false:=by decide):PE X (.Name x MH) (tC v) :=
 fun _ _ _ H _ I h=>kF I hg hm hv ⟨v,H,I,r,h⟩ hn hd
variable {a b:Expr}{ta tb:TE}{MH:Pos}
def PC(X:Cx)(op:CmpOp)(a b:Expr)(t:TE):Prop :=
 ∀(pins:List (Addr × Obj)) (s:Shared) (σ:St) (H:Hp) (Q:VK),Inv X pins σ H s->t σ H Q ->
  wpAny (model X.prog X.w) X.A (eval a X.env) (fun v s₁=>wpAny (model X.prog X.w) X.A (eval b X.env) (fun u PQ=>wpAny (model X.prog X.w) X.A (compareOp op v u) (EP X pins σ Q) X.xe PQ) X.xe s₁) X.xe s
def tB(t:TE):TT:=fun σ H Q=>t σ H fun x H1=>∃c,x=.bl c/\Q c H1
def Ke{op:CmpOp}{t:TE}(h:PC X op a b t)(h1:behindInMarks op b=false:=by first|exact nobehind _ (by decide) (by decide)|rfl):PT X (.Compare a [op] [b] MH) (tB t):=by
 intro pins s σ H Q I hw
 refine wpAny_isTrue_Compare1 (thn (h pins s σ H _ I hw) fun v s1 h1=>thn h1 fun u s2 h2=>thn h2 fun c s3 ⟨x,H1,I1,r1,q1⟩=>?_) h1
 obtain ⟨d,rfl,q⟩:=q1
 cases r1
 exact wpAny_truthy_bool ⟨H1,I1,q⟩
def rQ{e:Expr}{t:TE}(h:PE X e t)(he:∀Sj,isTrue e X.env Sj=(do let v <- Sj;standAt e.pos;holding [v] (truthy v)):=by intro _;rfl):PT X e (tB t):=by
 intro pins s σ H Q I hw
 refine isTrue_plain (thn (h pins s σ H _ I hw) fun v s1 ⟨x,H1,I1,r1,q1⟩=>?_) (he _)
 obtain ⟨d,rfl,q⟩:=q1
 cases r1
 exact wpAny_truthy_bool ⟨H1,I1,q⟩
variable {tA V0:TT}{NK:List Expr}
def LL(t u:TT):TT:=fun σ H Q=>t σ H fun c H1=>if c=true then u σ H1 Q else Q false H1
def tOr(t u:TT):TT:=fun σ H Q=>t σ H fun c H1=>if c=true then Q true H1 else u σ H1 Q
def LJ(t:TT):TT:=fun σ H Q=>t σ H fun c H1=>Q (!c) H1
def A4(ha:PT X a tA):PW X (.BoolOp .And [a] MH) tA:=by
 intro wh pins s σ H Q I h
 refine isTrue_and (thn (ha pins s σ H Q I h) fun c s1 e=>?_)
 cases c with
 |true=>exact isTrue_and_nil e
 |false=>exact e
def xl(ha:PT X a tA):PW X (.BoolOp .Or [a] MH) tA:=by
 intro wh pins s σ H Q I h
 refine isTrue_or (thn (ha pins s σ H Q I h) fun c s1 e=>?_)
 cases c with
 |false=>exact isTrue_or_nil e
 |true=>exact e
def GP(ha:PT X a tA)(hb:PW X (.BoolOp .And (b::NK) MH) V0):PW X (.BoolOp .And (a::b::NK) MH) (LL tA V0):=by
 intro wh pins s σ H Q I h
 refine isTrue_and (thn (ha pins s σ H _ I h) fun c s1 ⟨H1,I1,q1⟩=>?_)
 cases c with
 |true=>exact hb wh pins s1 σ H1 Q I1 q1
 |false=>exact⟨H1,I1,q1⟩
def Cj(ha:PT X a tA)(hb:PW X (.BoolOp .Or (b::NK) MH) V0):PW X (.BoolOp .Or (a::b::NK) MH) (tOr tA V0):=by
 intro wh pins s σ H Q I h
 refine isTrue_or (thn (ha pins s σ H _ I h) fun c s1 ⟨H1,I1,q1⟩=>?_)
 cases c with
 |true=>exact⟨H1,I1,q1⟩
 |false=>exact hb wh pins s1 σ H1 Q I1 q1
def wI(ha:PT X a tA):PT X (.UnaryOp .Not a MH) (LJ tA):=by
 intro pins s σ H Q I h
 exact isTrue_not (ha pins s σ H (fun c H1=>Q (!c) H1) I h)
def Jb(ta tb:TE):TE:=fun σ H Q=>ta σ H fun x H1=>∃c,x=.bl c/\if c=true then tb σ H1 Q else Q (.bl false) H1
def IX(ta:TE):TE:=fun σ H Q=>ta σ H fun x H1=>∃c,x=.bl c/\Q (.bl (!c)) H1
def KC{op}{t:TE}(h:PE X a t):PE X (.BoolOp op [a] MH) t:=fun pins s σ H Q I hw=>BoolOp_one (h pins s σ H Q I hw)
def Kw(ha:PE X a ta)(hb:PE X (.BoolOp .And (b::NK) MH) tb):PE X (.BoolOp .And (a::b::NK) MH) (Jb ta tb):=by
 intro pins s σ H Q I h
 refine BoolOp_and (thn (ha pins s σ H _ I h) fun v s1 ⟨x,H1,I1,r1,q1⟩=>?_)
 obtain ⟨c,rfl,q1⟩:=q1
 cases r1
 refine wpAny_truthy_bool ?_
 cases c with
 |true=>exact hb pins s1 σ H1 Q I1 q1
 |false=>exact⟨.bl false,H1,I1,rfl,q1⟩
def Jz(ha:PE X a ta):PE X (.UnaryOp .Not a MH) (IX ta):=by
 intro pins s σ H Q I h
 refine UnaryOp_ (thn (ha pins s σ H _ I h) fun v s1 ⟨x,H1,I1,r1,q1⟩=>?_)
 obtain ⟨c,rfl,q1⟩:=q1
 cases r1
 exact not_of (wpAny_truthy_bool ⟨.bl (!c),H1,I1,rfl,q1⟩)
def tIf(t:TT)(ta tb:TE):TE:=fun σ H Q=>t σ H fun c H1=>if c=true then ta σ H1 Q else tb σ H1 Q
def sX{c:Expr}(hc:PT X c tA)(ha:PE X a ta)(hb:PE X b tb):PE X (.IfExp c a b MH) (tIf tA ta tb):=by
 intro pins s σ H Q I h
 refine wpAny_IfExp (thn (hc pins s σ H _ I h) fun d s1 ⟨H1,I1,q1⟩=>?_)
 cases d with
 |true=>exact ha pins s1 σ H1 Q I1 q1
 |false=>exact hb pins s1 σ H1 Q I1 q1
end
end L2
namespace L2
open PySem PySem.Spec PyProof.Rows
def SqL(K:PySem.W.Frag)(H:Hp)(a:Addr)(xs:List V):Prop :=
 Rd H a (.lst xs) \/
  ∃(o:Obj) (ML:Array Value) (n:Nat),K.lookup a=some o/\o.cls=.type "list"/\o.dict=none/\o.data=.seq ML n/\ML.size<=sizeLine/\Vals xs ML.toList
def SqT(K:PySem.W.Frag)(H:Hp)(a:Addr)(xs:List V):Prop :=
 Rd H a (.tup xs) \/
  ∃(o:Obj) (ML:Array Value) (n:Nat),K.lookup a=some o/\o.cls=.type "tuple"/\o.data=.seq ML n/\ML.size<=sizeLine/\Vals xs ML.toList
def LW:Value->Option V
 |.none=>some .non
 |.bool b=>some (.bl b)
 |.int i _=>some (.int i)
 |.str x _=>some (.str x)
 |.bytes b _=>some (.byt b)
 |.float b _=>some (.flt b)
 |.ref a=>some (.ref a)
 |.type n=>some (.ty n)
 |_=>none
def RelV.abs{x:V}{u:Value}(r:RelV x u):LW u=some x:=by
 cases x with
 |non=>cases r;rfl
 |bl _=>cases r;rfl
 |int _=>obtain ⟨t,rfl⟩:=r;rfl
 |str _=>obtain ⟨t,rfl⟩:=r;rfl
 |byt _=>obtain ⟨t,rfl⟩:=r;rfl
 |flt _=>obtain ⟨t,rfl⟩:=r;rfl
 |ref _=>cases r;rfl
 |ty _=>cases r;rfl
def RelV.inj{x y:V}{u:Value}(r:RelV x u)(q:RelV y u):x=y:=MB (r.abs.symm.trans q.abs)
def Vals.inj:∀{xs ys:List V}{us:List Value},Vals xs us->Vals ys us->xs=ys
 |_,_,_,.nil,.nil=>rfl
 |_,_,_,.cons r t,.cons r' t'=>by rw[r.inj r',Vals.inj t t']
section
variable {X:Cx}{pins:List (Addr × Obj)}{σ:St}{H:Hp}{s:Shared}{a:Addr}{xs ys:List V}
def SqL.of{K:PySem.W.Frag}(h:H a=some (.lst xs)):SqL K H a xs:=.inl (.inl h)
def SqT.of{K:PySem.W.Frag}(h:H a=some (.tup xs)):SqT K H a xs:=.inl (.inl h)
def Inv.list(I:Inv X pins σ H s)(h:SqL X.K H a xs):∃ML:List Value,Vals xs ML/\PlainL s.heap a ML.toArray/\xs.length<=sizeLine:=by
 rcases h with h|⟨o,ML,n,hk,hc,hd,hs,hz,r⟩
 .obtain ⟨z,ML,n,r,e⟩:=h.ok I.hok
  exact⟨ML,r,⟨_,n,e,rfl,rfl,rfl⟩,z⟩
 .refine⟨ML.toList,r,⟨o,n,I.kIn a o hk,hc,hd,by simpa using hs⟩,?_⟩
  have e:=r.length
  simp only[MY] at e
  omega
def Inv.tuple(I:Inv X pins σ H s)(h:SqT X.K H a xs):∃ML:List Value,Vals xs ML/\IsTup s.heap a ML.toArray/\xs.length<=sizeLine:=by
 rcases h with h|⟨o,ML,n,hk,hc,hs,hz,r⟩
 .obtain ⟨z,ML,r,p⟩:=h.ok I.hok
  exact⟨ML,r,p,z⟩
 .refine⟨ML.toList,r,⟨o,I.kIn a o hk,hc,n,by simpa using hs⟩,?_⟩
  have e:=r.length
  simp only[MY] at e
  omega
def Inv.Ey(I:Inv X pins σ H s)(h:SqL X.K H a xs)(h':SqL X.K H a ys):xs=ys:=by
 obtain ⟨ML,r,⟨o,n,e,_,_,d⟩,_⟩:=I.list h
 obtain ⟨its',r',⟨o',n',e',_,_,d'⟩,_⟩:=I.list h'
 rw[e] at e';cases e'
 rw[d] at d'
 injection d' with d1 _
 have:ML=its':=by simpa using congrArg Array.toList d1
 subst this
 exact r.inj r'
end
abbrev Cx.oR(X:Cx)(E:Value->Shared->Prop):Cx:={ X with xe:=E }
abbrev Cx.nox(X:Cx):Cx:=X.oR fun _ _=>False
def Cx.Ok.oR{X:Cx}(ok:X.Ok)(E:Value->Shared->Prop):(X.oR E).Ok :=
 ⟨ok.mod,ok.kind,ok.glob,ok.blt,ok.above,ok.inj,ok.has,ok.cab,ok.hd,ok.frames,ok.stk,ok.exf,ok.bs,ok.bsz,ok.noex,ok.exfs,ok.pB,ok.frf⟩
def Cx.Ok.jd{X:Cx}{E:Value->Shared->Prop}(ok:(X.oR E).Ok):X.Ok :=
 ⟨ok.mod,ok.kind,ok.glob,ok.blt,ok.above,ok.inj,ok.has,ok.cab,ok.hd,ok.frames,ok.stk,ok.exf,ok.bs,ok.bsz,ok.noex,ok.exfs,ok.pB,ok.frf⟩
section
variable {X:Cx}{pins:List (Addr × Obj)}{σ:St}{H:Hp}{s:Shared}{E:Value->Shared->Prop}
def Inv.oR(I:Inv X pins σ H s)(E:Value->Shared->Prop):Inv (X.oR E) pins σ H s:=⟨I.ok.oR E,I.os,I.bare,I.base,I.loc,I.cell,I.free,I.freeC,I.pin,I.hok,I.len⟩
def Inv.jd(I:Inv (X.oR E) pins σ H s):Inv X pins σ H s:=⟨I.ok.jd,I.os,I.bare,I.base,I.loc,I.cell,I.free,I.freeC,I.pin,I.hok,I.len⟩
def SP.jd{D:Ends}{f:Flow}{s':Shared}(h:SP (X.oR E) pins D f s'):SP X pins D f s':=by
 cases f with
 |next=>obtain ⟨σ',H',I,q⟩:=h;exact⟨σ',H',I.jd,q⟩
 |brk=>obtain ⟨σ',H',I,q⟩:=h;exact⟨σ',H',I.jd,q⟩
 |cont=>obtain ⟨σ',H',I,q⟩:=h;exact⟨σ',H',I.jd,q⟩
 |ret u=>obtain ⟨v,σ',H',I,r,q⟩:=h;exact⟨v,σ',H',I.jd,r,q⟩
def PT.nox{e:Expr}{t:TT}(h:PT X.nox e t):PT X e t:=fun pins s σ H Q I hw =>
 wpAny_mono (h pins s σ H Q (I.oR _) hw) (fun _ _ ⟨H',I',q⟩=>⟨H',I'.jd,q⟩) fun _ _ z=>False.elim z
def PSs.nox{st:List Stmt}{t:TS}(h:PSs X.nox st t):PSs X st t:=fun pins s σ H D I hw =>
 wpAny_mono (h pins s σ H D (I.oR _) hw) (fun _ _ q=>q.jd) fun _ _ z=>False.elim z
end
section
variable {X:Cx}{st:Stmt}{NK:List Stmt}{t u:TS}{e:Expr}{te:TE}{MH:Pos}
def GA:TS:=fun D σ H=>D.nx σ H
def zH(t u:TS):TS:=fun D σ H=>t { D with nx:=u D } σ H
def bt:PSs X [] GA:=fun _ _ σ H _ I h=>wpAny_execs_nil ⟨σ,H,I,h⟩
def ao(h1:PS X st t)(h2:PSs X NK u):PSs X (st::NK) (zH t u):=by
 intro pins s σ H D I h
 refine wpAny_execs_cons (thn (h1 pins s σ H { D with nx:=u D } I h) fun f s1 q=>?_)
 cases f with
 |next =>
  obtain ⟨σ',H',I',q⟩:=q
  exact h2 pins s1 σ' H' D I' q
 |ret v=>exact q
 |brk=>exact q
 |cont=>exact q
def ar(h1:PS X st t):PSs X [st] t:=by
 intro pins s σ H D I h
 refine wpAny_execs_cons (thn (h1 pins s σ H D I h) fun f s1 q=>?_)
 cases f with
 |next=>exact wpAny_execs_nil q
 |ret v=>exact q
 |brk=>exact q
 |cont=>exact q
def Inv.quiet{pins:List (Addr × Obj)}{σ:St}{H:Hp}{s:Shared}(I:Inv X pins σ H s):interactive X.env=false:=by simp [interactive,I.ok.kind]
def Bg(te:TE):TS:=fun D σ H=>te σ H fun _ H1=>D.nx σ H1
def iO(he:PE X e te)(hs:swapsWith e none MH.line X.env=pure false:=by rfl):PS X (.Expr e MH) (Bg te):=by
 intro pins s σ H D I h
 exact wpAny_Expr_any (thn (he pins s σ H _ I h) fun v s1 ⟨x,H1,I1,r1,q1⟩=>⟨σ,H1,I1,q1⟩) I.quiet hs
def Iq(te:TE):TS:=fun D σ H=>te σ H D.rt
def aM(he:PE X e te):PS X (.Return (some e) MH) (Iq te):=by
 intro pins s σ H D I h
 exact wpAny_Return_some (thn (he pins s σ H _ I h) fun v s1 ⟨x,H1,I1,r1,q1⟩=>⟨x,σ,H1,I1,r1,q1⟩)
def Hg(c:TT)(t u:TS):TS:=fun D σ H=>c σ H fun b H1=>if b=true then t D σ H1 else u D σ H1
def eS{c:Expr}{a b:List Stmt}{tc:TT}(hc:PT X c tc)(ha:PSs X a t)(hb:PSs X b u):PS X (.If c a b MH) (Hg tc t u):=by
 intro pins s σ H D I h
 refine wpAny_If (thn (hc pins s σ H _ I h) fun d s1 ⟨H1,I1,q1⟩=>?_)
 cases d with
 |true=>exact ha pins s1 σ H1 D I1 q1
 |false=>exact hb pins s1 σ H1 D I1 q1
end
abbrev TG:=V->St->Hp->(St->Hp->Prop)->Prop
abbrev TGs:=List V->St->Hp->(St->Hp->Prop)->Prop
def PG(X:Cx)(M7:Expr)(t:TG):Prop :=
 ∀(pins:List (Addr × Obj)) (s:Shared) (σ:St) (H:Hp) (v:V) (u:Value) (Q:St->Hp->Prop),Inv X pins σ H s->RelV v u->t v σ H Q ->
  wpAny (model X.prog X.w) X.A (assign M7 X.env u) (fun _ s'=>∃σ' H',Inv X pins σ' H' s'/\Q σ' H') X.xe s
def PGs(X:Cx)(ts:List Expr)(t:TGs):Prop :=
 ∀(pins:List (Addr × Obj)) (s:Shared) (σ:St) (H:Hp) (vs:List V) (us:List Value) (Q:St->Hp->Prop),Inv X pins σ H s->Vals vs us->t vs σ H Q ->
  wpAny (model X.prog X.w) X.A (assignInOrder ((assignEach ts X.env).map (·.2)) us) (fun _ s'=>∃σ' H',Inv X pins σ' H' s'/\Q σ' H') X.xe s
abbrev HP:=V->V->V->Hp->(Hp->Prop)->Prop
def Jp(X:Cx)(t:HP):Prop :=
 ∀(pins:List (Addr × Obj)) (s:Shared) (σ:St) (H:Hp) (o i v:V) (ov iv u:Value) (Q:Hp->Prop),Inv X pins σ H s->RelV o ov->RelV i iv->RelV v u->t o i v H Q ->
  wpAny (model X.prog X.w) X.A (setItem ov iv u) (fun _ s'=>∃H',Inv X pins σ H' s'/\Q H') X.xe s
section
variable {X:Cx}{MH:Pos}
def kP(i:Nat):TG:=fun v σ H Q=>Q (σ.set i (some v)) H
def aT{i:Nat}{x:Str}(hN:X.N.Nodup)(hi:X.N[i]?=some x)(hx:Loc X.env.scope x)(hf:X.fn x=true\/X.env.scope.names.lookup x=some .local:=by first|exact .inl rfl|exact .inr rfl|assumption):PG X (.Name x MH) (kP i):=by
 intro pins s σ H v u Q I r h
 exact wpAny_assign_Name (sF I hN hi hx r (fun s' I'=>⟨_,H,I',h⟩) hf)
def Lu:TGs:=fun vs σ H Q=>vs=[]/\Q σ H
def Jg(t:TG)(u:TGs):TGs:=fun vs σ H Q=>∃v r,vs=v::r/\t v σ H fun σ' H'=>u r σ' H' Q
def Ic:PGs X [] Lu:=by
 intro pins s σ H vs us Q I r h
 obtain ⟨e,h⟩:=h
 subst e
 cases r
 exact assignInOrder_nil ⟨σ,H,I,h⟩
def yk{e:Expr}{es:List Expr}{t:TG}{u:TGs}(h1:PG X e t)(h2:PGs X es u)
  (hs:(assignEach (e::es) X.env).map (·.2)=assign e X.env::(assignEach es X.env).map (·.2):=by rfl):PGs X (e::es) (Jg t u):=by
 intro pins s σ H vs us Q I r h
 obtain ⟨v,vr,e1,h⟩:=h
 subst e1
 cases r with
 |cons r rr =>
  rw[hs]
  refine assignInOrder_cons (thn (h1 pins s σ H _ _ _ I r h) fun _ s1 ⟨UH,H1,I1,q1⟩=>?_)
  exact h2 pins s1 UH H1 _ _ Q I1 rr q1
def yT(to ti:TE)(t:HP):TG:=fun v σ H Q=>to σ H fun o H1=>ti σ H1 fun i H2=>t o i v H2 fun H3=>Q σ H3
def mq{o i:Expr}{to ti:TE}{t:HP}(ho:PE X o to)(hi:PE X i ti)(hs:Jp X t)
  (ha:∀v,assign (.Subscript o i MH) X.env v=(do
   let ov <- holding [v] (eval o X.env)
   let iv <- holding [v,ov] (eval i X.env)
   standAt MH
   holding [v,ov,iv] (setItem ov iv v)
   release [v,ov,iv] []):=by intro _;rfl):PG X (.Subscript o i MH) (yT to ti t):=by
 intro pins s σ H v u Q I r h
 rw[ha]
 refine wpAny_bind (wpAny_holding (thn (ho pins s σ H _ I h) fun ov s1 ⟨x,H1,I1,r1,q1⟩=>?_))
 refine wpAny_bind (wpAny_holding (thn (hi pins s1 σ H1 _ I1 q1) fun iv s2 ⟨y,H2,I2,r2,q2⟩=>?_))
 refine wpAny_bind (wpAny_standAt (wpAny_bind (wpAny_holding (thn (hs pins s2 σ H2 x y v ov iv u _ I2 r1 r2 r q2) fun _ s3 ⟨H3,I3,q3⟩=>?_))))
 exact wpAny_release ⟨σ,H3,I3,q3⟩
def mn(te:TE)(g:TG):TS:=fun D σ H=>te σ H fun x H1=>g x σ H1 D.nx
def kZ{tg e:Expr}{te:TE}{g:TG}(he:PE X e te)(hg:PG X tg g)(hs:swapsWithSole [tg] e MH.line X.env=pure false:=by rfl)(hw:swappedStores [tg] e X.env=pure none:=by rfl)
  (h1:(assignEach [tg] X.env).map (·.2)=[assign tg X.env]:=by rfl):PS X (.Assign [tg] e MH) (mn te g):=by
 intro pins s σ H D I h
 refine wpAny_Assign_stores (thn (he pins s σ H _ I h) fun v s1 ⟨x,H1,I1,r1,q1⟩=>?_) hs hw
 rw[h1]
 exact thn (hg pins s1 σ H1 x v _ I1 r1 q1) fun _ s2 q=>q
def aR{i:Nat}{x:Str}{e:Expr}{te:TE}{Pd:Pos}(hN:X.N.Nodup)(hi:X.N[i]?=some x)(hx:Loc X.env.scope x)(he:PE X e te)(hs:swapsWith e (some (.Name x Pd)) MH.line X.env=pure false:=by rfl)(hf:X.fn x=true\/X.env.scope.names.lookup x=some .local:=by first|exact .inl rfl|exact .inr rfl|assumption) :
  PS X (.Assign [.Name x Pd] e MH) (mn te (kP i)):=by
 intro pins s σ H D I h
 refine wpAny_Assign_Name (thn (he pins s σ H _ I h) fun v s1 ⟨y,H1,I1,r1,q1⟩=>?_) hs
 exact sF I1 hN hi hx r1 (fun s2 I2=>⟨_,H1,I2,q1⟩) hf
end
section
variable {X:Cx}{MH:Pos}
def FW(c:TT)(tb:TS):TS:=fun D σ H=>∃W:Nat->St->Hp->Prop,(∃m,W m σ H)/\∀m σ H,W m σ H ->
 c σ H fun b H1=>if b=true then ∃N:St->Hp->Prop,(∀σ' H',N σ' H'->∃m',m' < m/\W m' σ' H')/\tb { D with nx:=N,ct:=N,bk:=D.nx } σ H1 else D.nx σ H1
def sE{c:Expr}{Qh:List Stmt}{tc:TT}{tb:TS}(hp:PassesOwn (model X.prog X.w) X.A X.env X.xe)(hc:PT X c tc)(hb:PSs X Qh tb):PS X (.While c Qh [] MH) (FW tc tb):=by
 intro pins s σ H D I h
 obtain ⟨W,⟨m0,w0⟩,turn⟩:=h
 refine wpAny_While (codeAny_whileLoop (fun n s'=>∃σ' H',Inv X pins σ' H' s'/\W n σ' H') ?_ m0 ⟨σ,H,I,w0⟩)
 rintro n s1 ⟨UH,H1,I1,w1⟩
 refine wpAny_passesOwn hp (thn (hc pins s1 UH H1 _ I1 (turn n UH H1 w1)) fun b s2 ⟨H2,I2,q2⟩=>?_)
 cases b with
 |true =>
  obtain ⟨N,hN,q2⟩:=q2
  rw[if_pos rfl]
  refine wpAny_passesOwn hp (thn (hb pins s2 UH H2 _ I2 q2) fun f s3 q3=>?_)
  cases f with
  |next =>
   obtain ⟨S7,H3,I3,n3⟩:=q3
   obtain ⟨m',hm,w3⟩:=hN S7 H3 n3
   exact⟨m',hm,S7,H3,I3,w3⟩
  |cont =>
   obtain ⟨S7,H3,I3,n3⟩:=q3
   obtain ⟨m',hm,w3⟩:=hN S7 H3 n3
   exact⟨m',hm,S7,H3,I3,w3⟩
  |brk=>exact q3
  |ret v=>exact q3
 |false =>
  rw[if_neg Mv]
  exact wpAny_execs_nil ⟨UH,H2,I2,q2⟩
end
structure It where
 go:Nat->Hp->Prop
 yld:Nat->Hp->V->Hp->Prop
 stop:Nat->Hp->Prop
def uD(X:Cx)(pins:List (Addr × Obj))(H:Hp)(b:Addr):Prop :=
 H b=none/\b≠X.env.locals/\b∉X.fs/\(b∈X.ex\/X.s₀.heap.objs.size<=b)/\(∀x c,X.env.cells.lookup x=some c->c≠b)/\∀p∈X.pn++pins,p.1≠b
def Inv.LD{X:Cx}{pins:List (Addr × Obj)}{σ:St}{H H':Hp}{s:Shared}{b:Addr}(I:Inv X pins σ H s)(hb:s.heap.objs.size<=b)(hn:H' b=none):uD X pins H' b:=by
 refine⟨hn,Nat.ne_of_gt (Mo I.lt hb),I.K3 hb,.inr (Mq I.sz hb),fun x c e z=>?_,fun p hp z=>?_⟩
 .obtain ⟨v,q⟩:=I.cell x c e
  exact absurd (Mo q.lt (by rw[z];exact hb)) (M8 _)
 .exact absurd (Mo (Heap.lt_size (I.pin p hp).1) (by rw[z];exact hb)) (M8 _)
structure Turn(P:Program)(w:World)(K:PySem.W.Frag)(tg:Expr)(J:It)(fp:List Addr)(it:Addr)(tn:Nat->Heap->Prop):Prop where
 mem:it∈fp
 obj:∀i h,tn i h->∀b∈fp,∃o,h.get? b=some o/\∀v,o.data≠.cell v
 keep:∀i h h',tn i h->(∀b∈fp,∀o,h.get? b=some o->h'.get? b=some o)->tn i h'
 item:∀(X:Cx),X.prog=P->X.w=w->X.K=K->X.calm=true->∀(i:Nat) (pins:List (Addr × Obj)) (s:Shared) (σ:St) (H:Hp) (E:Value->Shared->Prop),Inv X pins σ H s->(∀b∈fp,uD X pins H b)->tn i s.heap->J.go i H ->
  wpAny (model P w) X.A (pyNext (.ref it)) (fun r s1=>∃u,r=some u /\
   wpAny (model P w) X.A (letOwnedTupleGo tg (.ref it) u) (fun _ s2=>∃x H',Inv X pins σ H' s2/\RelV x u/\J.yld i H x H'/\tn (i+1) s2.heap/\∀b∈fp,H' b=none) E s1) E s
 done:∀(X:Cx),X.prog=P->X.w=w->X.K=K->X.calm=true->∀(i:Nat) (pins:List (Addr × Obj)) (s:Shared) (σ:St) (H:Hp) (E:Value->Shared->Prop),Inv X pins σ H s->(∀b∈fp,uD X pins H b)->tn i s.heap->J.stop i H ->
  wpAny (model P w) X.A (pyNext (.ref it)) (fun r s1=>r=none/\Inv X pins σ H s1) E s
 self:∀(A:Around) (i:Nat) (s:Shared) (Q:Value->Shared->Prop) (E:Value->Shared->Prop),tn i s.heap->Q (.ref it) s->wpAny (model P w) A (pyIter (.ref it)) Q E s
abbrev TI:=St->Hp->(It->Hp->Prop)->Prop
def PIE(X:Cx)(pins:List (Addr × Obj))(σ:St)(tg:Expr)(R:It->Hp->Prop)(V5:Value)(s2:Shared):Prop :=
 ∃(it:Addr) (fp:List Addr) (tn:Nat->Heap->Prop) (J:It) (H':Hp),V5=.ref it/\Inv X pins σ H' s2/\Turn X.prog X.w X.K tg J fp it tn/\tn 0 s2.heap/\(∀b∈fp,uD X pins H' b)/\R J H'
def PI(X:Cx)(tg iter:Expr)(wi:TI):Prop :=
 ∀(pins:List (Addr × Obj)) (s:Shared) (σ:St) (H:Hp) (R:It->Hp->Prop),Inv X pins σ H s->wi σ H R ->
  wpAny (model X.prog X.w) X.A (eval iter X.env) (fun v s1=>wpAny (model X.prog X.w) X.A (pyIter v) (PIE X pins σ tg R) X.xe s1) X.xe s
def IJ{M:Model}{A:Around}{E:Value->Shared->Prop}{s:Shared}{tg:Expr}{it:Addr}{u:Value}{o:Obj}{n:String}{vs:Array Value}{Q:Unit->Shared->Prop}(ho:s.heap.get? it=some o)(hc:o.cls=.type n)(hd:o.data=.fields vs)
  (hn:["enumerate","zip","dict_itemiterator","dict_reverseitemiterator","odict_iterator","itertools.zip_longest","itertools.pairwise"].contains n=false) (hQ:Q () s):wpAny M A (letOwnedTupleGo tg (.ref it) u) Q E s:=by
 unfold letOwnedTupleGo
 cases tg<;>first
  |exact wpAny_pure hQ
  |(cases u<;>first
    |exact wpAny_pure hQ
    |(refine wpAny_bind (wpAny_load ho ?_)
      rw[hc,hd]
      show wpAny M A (if (["enumerate","zip","dict_itemiterator","dict_reverseitemiterator","odict_iterator","itertools.zip_longest","itertools.pairwise"].contains n && vs[0]? == some (rawInt _))=true then _ else _) Q E s
      rw[if_neg (by intro h;rw[hn,Bool.false_and] at h;cases h)]
      exact wpAny_pure hQ))
def Itl(K:PySem.W.Frag)(a:Addr):It :=
 ⟨fun i H=>∃xs x,SqL K H a xs/\xs[i]?=some x,fun i H x H'=>H'=H/\∀xs,SqL K H a xs->xs[i]?=some x,fun i H=>∃xs,SqL K H a xs/\xs.length<=i⟩
def Itr(lo:Int)(n:Nat):It:=⟨fun i _=>i<n,fun i H x H'=>H'=H/\x=.int (lo+i),fun i _=>n<=i⟩
def CF{P:Program}{w:World}{K:PySem.W.Frag}{tg:Expr}(a it:Addr):Turn P w K tg (Itl K a) [it] it (fun i h=>h.IsListIter it a i) where
 mem:=by simp
 obj:=fun i h st b hb=>by
  have e:b=it:=by simpa using hb
  subst e
  obtain ⟨o,e,c,d⟩:=st
  exact⟨o,e,fun v z=>by rw[d] at z;cases z⟩
 keep:=fun i h h' st k=>st.at fun o e=>k it (by simp) o e
 item:=by
  intro X hP hw hK hc i pins s σ H E I hf st hg
  subst hP hw hK
  obtain ⟨xs,x,hq,hx⟩:=hg
  obtain ⟨ML,rv,p,hz⟩:=I.list hq
  obtain ⟨u,hu,ru⟩:=rv.get hx
  obtain ⟨f0,f1,f2,f3,f4,f5⟩:=hf it (by simp)
  refine wpAny_pyNext_list_item st p.isList (x:=u) (by simpa using hu) fun h' TV sb=>?_
  have I1:Inv X pins σ H { s with heap:=h' }:=I.turned (t':=s.toks) (fun b o hb e=>(sb.2 b hb).trans e) f0 f1 f3 f4 f5
  obtain ⟨o,e,c,d⟩:=id TV
  exact⟨u,rfl,IJ (s:={ s with heap:=h' }) e c d (by decide) ⟨x,H,I1,ru,⟨rfl,fun ys hy=>by rw[I.Ey hy hq];exact hx⟩,TV,fun b hb=>(hf b hb).1⟩⟩
 done:=by
  intro X hP hw hK hc i pins s σ H E I hf st hg
  subst hP hw hK
  obtain ⟨xs,hq,hx⟩:=hg
  obtain ⟨ML,rv,p,hz⟩:=I.list hq
  obtain ⟨f0,f1,f2,f3,f4,f5⟩:=hf it (by simp)
  have hl:=rv.length
  exact wpAny_pyNext_list_end (I.ok.hd hc) st p.isList (by simp;omega) fun h' eb=>⟨rfl,I.turned (t':=s.toks) (fun b o hb e=>eb b o hb e) f0 f1 f3 f4 f5⟩
 self:=fun _ _ _ _ _ st h=>wpAny_pyIter_listiter st h
def AI{P:Program}{w:World}{K:PySem.W.Frag}{tg:Expr}(it:Addr)(lo:Int)(n:Nat):Turn P w K tg (Itr lo n) [it] it (fun i h=>IsRangeIter h it (lo+(i:Nat)*1) ((n:Int) - (i:Nat)) 1) where
 mem:=by simp
 obj:=fun i h st b hb=>by
  have e:b=it:=by simpa using hb
  subst e
  exact⟨_,st,fun v z=>by
   have z':Data.fields _=Data.cell v:=z
   cases z'⟩
 keep:=fun i h h' st k=>k it (by simp) _ st
 item:=by
  intro X hP hw hK hc i pins s σ H E I hf st hg
  subst hP hw hK
  obtain ⟨f0,f1,f2,f3,f4,f5⟩:=hf it (by simp)
  have W:=Walks.range (prog:=X.prog) (w:=X.w) (I.ok.hd hc) it lo 1 n
  refine W.item i s _ _ hg st fun v h' tk hv TV kk=>?_
  obtain ⟨t,rfl⟩:=hv
  have I1:Inv X pins σ H { s with heap:=h',toks:=tk }:=I.turned (fun b o hb e=>kk b o (by simpa using hb) e) f0 f1 f3 f4 f5
  refine⟨_,rfl,IJ (s:={ s with heap:=h',toks:=tk }) (n:="range_iterator") TV rfl rfl (by decide) ⟨.int (lo+i),H,I1,⟨t,?_⟩,⟨rfl,rfl⟩,TV,fun b hb=>(hf b hb).1⟩⟩
  rw[Int.mul_one]
 done:=by
  intro X hP hw hK hc i pins s σ H E I hf st hg
  subst hP hw hK
  obtain ⟨f0,f1,f2,f3,f4,f5⟩:=hf it (by simp)
  exact wpAny_pyNext_range_end (I.ok.hd hc) st (by have:n<=i:=hg;omega) fun h' eb=>⟨rfl,I.turned (t':=s.toks) (fun b o hb e=>eb b o hb e) f0 f1 f3 f4 f5⟩
 self:=fun _ _ _ _ _ st h=>wpAny_pyIter_rangeiter st h
end L2
namespace L2
open PySem PySem.Spec PyProof.Rows
section
variable {X:Cx}{tg:Expr}
def BP(K:PySem.W.Frag)(tl:TE):TI:=fun σ H R=>tl σ H fun x H1=>∃a,x=.ref a/\(∃xs,SqL K H1 a xs)/\R (Itl K a) H1
def Ht{l:Expr}{tl:TE}(hl:PE X l tl):PI X tg l (BP X.K tl):=by
 intro pins s σ H R I h
 refine thn (hl pins s σ H _ I h) fun v s1 ⟨x,H1,I1,r1,q1⟩=>?_
 obtain ⟨a,e,⟨xs,hq⟩,q⟩:=q1
 subst e
 cases r1
 obtain ⟨ML,rv,p,hz⟩:=I1.list hq
 refine wpAny_pyIter_list p.isList ?_
 refine⟨s1.heap.objs.size,[s1.heap.objs.size],_,_,H1,rfl,I1.kept (t':=s1.toks) fun b o e=>Heap.get?_push_of_some _ e,CF a _,⟨_,Heap.get?_push_size _ rfl,rfl,rfl⟩,fun b hb=>?_,q⟩
 have e:b=s1.heap.objs.size:=by simpa using hb
 subst e
 exact I1.LD (Mi _) (I1.hok.fresh (Mi _))
def ya{pins:List (Addr × Obj)}{σ:St}{H:Hp}{s:Shared}{R:It->Hp->Prop}{E:Value->Shared->Prop}{lo hi:Int}{t u v:Tok}{tk:Nat}(I:Inv X pins σ H s)(h1 : -(2 ^ 62)<=lo)(h2:lo<2 ^ 62)(h3 : -(2 ^ 62)<=hi)(h4:hi<2 ^ 62)
  (q:R (Itr lo (hi - lo).toNat) H):wpAny (model X.prog X.w) X.A (pyIter (.ref s.heap.objs.size)) (PIE X pins σ tg R) E { s with heap:=s.heap.push { cls:=.type "range",data:=.fields #[.int lo t,.int hi u,.int 1 v] },toks:=tk }:=by
 refine wpAny_pyIter_range (IsRange.new ..) (small_one h1 h2 h3 h4) ?_
 have I1:Inv X pins σ H { s with heap:=s.heap.push { cls:=.type "range",data:=.fields #[.int lo t,.int hi u,.int 1 v] },toks:=tk }:=I.kept fun b o e=>Heap.get?_push_of_some _ e
 refine⟨(s.heap.push { cls:=.type "range",data:=.fields #[.int lo t,.int hi u,.int 1 v] }).objs.size,[(s.heap.push { cls:=.type "range",data:=.fields #[.int lo t,.int hi u,.int 1 v] }).objs.size],_,_,H,rfl,
  I1.kept (t':=tk) fun b o e=>Heap.get?_push_of_some _ e,AI _ lo (hi - lo).toNat,?_,fun b hb=>?_,q⟩
 .have e1:lo+((0:Nat):Int)*1=lo:=by simp
  have e2:(((hi - lo).toNat:Nat):Int) - ((0:Nat):Int)=Builtin.Range.rangeSize lo hi 1:=by rw[rangeSize_one];split<;>omega
  show IsRangeIter _ _ (lo+((0:Nat):Int)*1) ((((hi - lo).toNat:Nat):Int) - ((0:Nat):Int)) 1
  rw[e1,e2]
  exact Heap.get?_push_size _ rfl
 .have e:b=(s.heap.push { cls:=.type "range",data:=.fields #[.int lo t,.int hi u,.int 1 v] }).objs.size:=by simpa using hb
  subst e
  exact I1.LD (Mi _) (I1.hok.fresh (Mi _))
def Jm(ta:TA):TI:=fun σ H R=>ta σ H fun vs H1=>∃j:Int,vs=[.int j]/\-(2 ^ 62)<=j/\j<2 ^ 62/\R (Itr 0 j.toNat) H1
def Jf(ta:TA):TI:=fun σ H R=>ta σ H fun vs H1=>∃i j:Int,vs=[.int i,.int j]/\(-(2 ^ 62)<=i/\i<2 ^ 62/\-(2 ^ 62)<=j/\j<2 ^ 62)/\R (Itr i (j - i).toNat) H1
def bJ{a:Expr}{ta:TA}{p MH:Pos}(hg:Gl X "range")(hm:X.mg "range" = none)(ha:PA X [a] ta)(hs:starEach [a] X.env=[(false,eval a X.env)]:=by rfl):PI X tg (.Call (.Name "range" p) [a] [] MH) (Jm ta):=by
 intro pins s σ H R I h
 refine Call_ (kF I hg hm boot_range (Nn (thn (ha MH pins s σ H _ I h) fun us s1 ⟨vs,H1,I1,r1,q1⟩=>?_) hs rfl))
 obtain ⟨j,e,q1,q2,q⟩:=q1
 subst e
 cases r1 with
 |cons r rr =>
  cases rr
  obtain ⟨t,rfl⟩:=r
  exact call_range_1 (ya I1 (by omega) (by omega) q1 q2 (by simpa using q))
def C8{a b:Expr}{ta:TA}{p MH:Pos}(hg:Gl X "range")(hm:X.mg "range" = none)(ha:PA X [a,b] ta)(hs:starEach [a,b] X.env=[(false,eval a X.env),(false,eval b X.env)]:=by rfl)(T2:starEach [b] X.env=[(false,eval b X.env)]:=by rfl) :
  PI X tg (.Call (.Name "range" p) [a,b] [] MH) (Jf ta):=by
 intro pins s σ H R I h
 refine Call_ (kF I hg hm boot_range (Nn (thn (ha MH pins s σ H _ I h) fun us s1 ⟨vs,H1,I1,r1,q1⟩=>?_) (by rw[hs,T2]) (by rw[T2];rfl)))
 obtain ⟨i,j,e,⟨q1,q2,q3,q4⟩,q⟩:=q1
 subst e
 cases r1 with
 |cons r rr =>
  cases rr with
  |cons r' rr =>
   cases rr
   obtain ⟨t,rfl⟩:=r
   obtain ⟨t',rfl⟩:=r'
   exact call_range_2 (ya I1 q1 q2 q3 q4 q)
def LK(wi:TI)(g:TG)(tb:TS):TS:=fun D σ H=>wi σ H fun J H1=>∃W:Nat->Nat->St->Hp->Prop,(∃m,W 0 m σ H1)/\∀i m σ H,W i m σ H ->
 (J.stop i H/\D.nx σ H)\/(J.go i H/\∃N:St->Hp->Prop,(∀σ' H',N σ' H'->∃m',m' < m/\W (i+1) m' σ' H')/\∀x H',J.yld i H x H'->g x σ H' fun Qo H2=>tb { D with nx:=N,ct:=N,bk:=D.nx } Qo H2)
def mv(fp:List Addr)(h:Heap):List (Addr × Obj):=fp.filterMap fun b=>(h.get? b).map fun o=>(b,o)
def lI{fp:List Addr}{h:Heap}{b:Addr}{o:Obj}(hb:b∈fp)(e:h.get? b=some o):(b,o)∈mv fp h:=OB.mpr ⟨b,hb,by rw[e];rfl⟩
def uY{fp:List Addr}{h:Heap}{p:Addr × Obj}(hp:p∈mv fp h):p.1∈fp/\h.get? p.1=some p.2:=by
 obtain ⟨b,hb,e⟩:=OB.mp hp
 cases q:h.get? b with
 |none=>rw[q] at e;cases e
 |some o =>
  rw[q] at e
  have e':(b,o)=p:=MB e
  subst e'
  exact⟨hb,q⟩
def Inv.pinned{pins:List (Addr × Obj)}{σ:St}{H:Hp}{s:Shared}{fp:List Addr}(I:Inv X pins σ H s)(hf:∀b∈fp,uD X pins H b)(ho:∀b∈fp,∃o,s.heap.get? b=some o/\∀v,o.data≠.cell v):Inv X (pins++mv fp s.heap) σ H s :=
 I.pA fun p hp=>(Mc.mp hp).elim (fun z=>I.pin p (KE _ z)) fun z=>by
  obtain ⟨hb,e⟩:=uY z
  obtain ⟨f0,f1,f2,_⟩:=hf p.1 hb
  obtain ⟨o,e',d⟩:=ho p.1 hb
  rw[e] at e';cases e'
  exact⟨e,f0,f1,f2,d⟩
def Inv.pw{pins pl:List (Addr × Obj)}{σ:St}{H:Hp}{s:Shared}(I:Inv X (pins++pl) σ H s):Inv X pins σ H s:=I.pA fun p hp=>I.pin p (KE _ (Mf _ hp))
def i7{iter:Expr}{Qh:List Stmt}{wi:TI}{g:TG}{tb:TS}{MH:Pos}(hp:PassesOwn (model X.prog X.w) X.A X.env X.xe)(hc:X.calm=true)(hi:PI X tg iter wi)(hg:PG X tg g)(hb:PSs X Qh tb)
  (hs:∀x,foldedSetIterable iter X.env x=pure x:=by intro _;rfl):PS X (.For tg iter Qh [] MH) (LK wi g tb):=by
 intro pins s σ H D I h
 refine wpAny_For (thn (hi pins s σ H _ I h) fun v s1 h1=>thn h1 fun V5 s2 h2=>?_) hs
 obtain ⟨it,fp,tn,J,H2,e,I2,T,TB,f2,W,⟨m0,w0⟩,turn⟩:=h2
 subst e
 have RL:∀{H':Hp},(∀b∈fp,H' b=none)->∀b∈fp,uD X pins H' b:=fun hn b hb=>⟨hn b hb,(f2 b hb).2⟩
 refine codeAny_forLoop_any (fun n s'=>∃i σ' H',Inv X pins σ' H' s'/\tn i s'.heap/\(∀b∈fp,H' b=none)/\W i n σ' H') ?_ m0 ⟨0,σ,H2,I2,TB,fun b hb=>(f2 b hb).1,w0⟩
 rintro n s3 ⟨i,S7,H3,I3,YH,Zm,w3⟩
 rcases turn i n S7 H3 w3 with ⟨stop,qn⟩|⟨go,N,hN,step⟩
 .refine wpAny_passesOwn hp (thn (T.done X rfl rfl rfl hc i pins s3 S7 H3 X.xe I3 (RL Zm) YH stop) fun r s4 ⟨hr,I4⟩=>?_)
  subst hr
  exact wpAny_execs_nil ⟨S7,H3,I4,qn⟩
 .refine wpAny_passesOwn hp (thn (T.item X rfl rfl rfl hc i pins s3 S7 H3 X.xe I3 (RL Zm) YH go) fun r s4 ⟨u,hr,h4⟩=>?_)
  subst hr
  refine wpAny_passesOwn hp (thn h4 fun _ s5 ⟨x,H5,I5,r5,y5,WY,fr5⟩=>?_)
  have YD:=I5.pinned (RL fr5) (T.obj _ _ WY)
  refine wpAny_passesOwn hp (thn (hg _ s5 S7 H5 x u _ YD r5 (step x H5 y5)) fun _ s6 ⟨σ6,H6,I6,q6⟩=>?_)
  refine wpAny_passesOwn hp (thn (hb _ s6 σ6 H6 _ I6 q6) fun f s7 q7=>?_)
  have again:∀{QB:St}{H7:Hp},Inv X (pins++mv fp s5.heap) QB H7 s7->N QB H7->∃m,m<n/\∃i σ' H',Inv X pins σ' H' s7/\tn i s7.heap/\(∀b∈fp,H' b=none)/\W i m σ' H':=fun {QB H7} I7 n7=>by
   obtain ⟨m',hm,w7⟩:=hN QB H7 n7
   refine⟨m',hm,i+1,QB,H7,I7.pw,T.keep _ _ _ WY fun b hb o e=>(I7.pin (b,o) (KE _ (KE _ (lI hb e)))).1,fun b hb=>?_,w7⟩
   obtain ⟨o,e,d⟩:=T.obj _ _ WY b hb
   exact (I7.pin (b,o) (KE _ (KE _ (lI hb e)))).2.1
  cases f with
  |next=>obtain ⟨QB,H7,I7,n7⟩:=q7;exact again I7 n7
  |cont=>obtain ⟨QB,H7,I7,n7⟩:=q7;exact again I7 n7
  |brk=>obtain ⟨QB,H7,I7,q7⟩:=q7;exact⟨QB,H7,I7.pw,q7⟩
  |ret v=>obtain ⟨x7,QB,H7,I7,r7,q7⟩:=q7;exact⟨x7,QB,H7,I7.pw,r7,q7⟩
end
end L2
namespace L2
open PySem PySem.Spec PyProof.Rows
abbrev R2:=V->V->Hp->VK->Prop
def OpR(X:Cx)(f:Value->Value->Sem Value)(r:R2):Prop :=
 ∀(pins:List (Addr × Obj)) (s:Shared) (σ:St) (H:Hp) (x y:V) (v u:Value) (Q:VK),Inv X pins σ H s->RelV x v->RelV y u->r x y H Q ->
  wpAny (model X.prog X.w) X.A (f v u) (EP X pins σ Q) X.xe s
def UnR(X:Cx)(f:Value->Sem Value)(r:V->Hp->VK->Prop):Prop :=
 ∀(pins:List (Addr × Obj)) (s:Shared) (σ:St) (H:Hp) (x:V) (v:Value) (Q:VK),Inv X pins σ H s->RelV x v->r x H Q ->
  wpAny (model X.prog X.w) X.A (f v) (EP X pins σ Q) X.xe s
def iZ(X:Cx)(f:Value)(r:List V->Hp->VK->Prop):Prop :=
 ∀(pins:List (Addr × Obj)) (s:Shared) (σ:St) (H:Hp) (xs:List V) (us:List Value) (Q:VK),Inv X pins σ H s->Vals xs us->r xs H Q ->
  wpAny (model X.prog X.w) X.A (call f us) (EP X pins σ Q) X.xe s
def tOp(r:R2)(ta tb:TE):TE:=fun σ H Q=>ta σ H fun x H1=>tb σ H1 fun y H2=>r x y H2 Q
def tUn(r:V->Hp->VK->Prop)(ta:TE):TE:=fun σ H Q=>ta σ H fun x H1=>r x H1 Q
def rI(C:Int->Int->Prop)(g:Int->Int->V):R2:=fun x y H Q=>∃i j,x=.int i/\y=.int j/\C i j/\Q (g i j) H
def rI0(g:Int->Int->V):R2:=fun x y H Q=>∃i j,x=.int i/\y=.int j/\Q (g i j) H
def rU(g:Int->V):V->Hp->VK->Prop:=fun x H Q=>∃i,x=.int i/\Q (g i) H
section
variable {X:Cx}{a b:Expr}{ta tb:TE}{MH:Pos}
def KG(ha:PE X a ta)(hb:PE X b tb){pins:List (Addr × Obj)}{s:Shared}{σ:St}{H:Hp}{R:V->V->Hp->Prop}(I:Inv X pins σ H s)
  (h:ta σ H fun x H1=>tb σ H1 fun y H2=>R x y H2) {Q:Value->Shared->Prop}{f:Value->Value->Sem Value}
  (hf:∀v u s2 x y H2,Inv X pins σ H2 s2->RelV x v->RelV y u->R x y H2->wpAny (model X.prog X.w) X.A (f v u) Q X.xe s2) :
  wpAny (model X.prog X.w) X.A (eval a X.env) (fun v s₁=>wpAny (model X.prog X.w) X.A (eval b X.env) (fun u PQ=>wpAny (model X.prog X.w) X.A (f v u) Q X.xe PQ) X.xe s₁) X.xe s:=by
 refine thn (ha pins s σ H _ I h) fun v s1 ⟨x,H1,I1,r1,q1⟩=>?_
 refine thn (hb pins s1 σ H1 _ I1 q1) fun u s2 ⟨y,H2,I2,r2,q2⟩=>?_
 exact hf v u s2 x y H2 I2 r1 r2 q2
def aS{op:Operator}{r:R2}(ho:OpR X (binaryOp op) r)(ha:PE X a ta)(hb:PE X b tb):PE X (.BinOp a op b MH) (tOp r ta tb):=by
 intro pins s σ H Q I h
 exact wpAny_BinOp (KG ha hb I h fun v u s2 x y H2 I2 rx ry q=>ho pins s2 σ H2 x y v u Q I2 rx ry q)
def Jd{op:UnaryOp}{r:V->Hp->VK->Prop}(ho:UnR X (unaryOp op) r)(ha:PE X a ta):PE X (.UnaryOp op a MH) (tUn r ta):=by
 intro pins s σ H Q I h
 exact UnaryOp_ (thn (ha pins s σ H _ I h) fun v s1 ⟨x,H1,I1,r1,q1⟩=>ho pins s1 σ H1 x v Q I1 r1 q1)
def opI{f:Value->Value->Sem Value}{C:Int->Int->Prop}{g:Int->Int->Int}
  (rule:∀(i j:Int) (t u:Tok) (s:Shared) (Q:Value->Shared->Prop) (E:Value->Shared->Prop),C i j->Q (.int (g i j) s.toks) { s with toks:=s.toks+1 }->wpAny (model X.prog X.w) X.A (f (.int i t) (.int j u)) Q E s) :
  OpR X f (rI C fun i j=>.int (g i j)):=by
 intro pins s σ H x y v u Q I rx ry h
 obtain ⟨i,j,rfl,rfl,hc,q⟩:=h
 obtain ⟨t,rfl⟩:=rx
 obtain ⟨t',rfl⟩:=ry
 exact rule i j t t' s _ _ hc ⟨.int (g i j),H,I.tok _,⟨_,rfl⟩,q⟩
def HI{f:Value->Value->Sem Value}{g:Int->Int->Int}
  (rule:∀(i j:Int) (t u:Tok) (s:Shared) (Q:Value->Shared->Prop) (E:Value->Shared->Prop),Q (.int (g i j) s.toks) { s with toks:=s.toks+1 }->wpAny (model X.prog X.w) X.A (f (.int i t) (.int j u)) Q E s) :
  OpR X f (rI0 fun i j=>.int (g i j)):=by
 intro pins s σ H x y v u Q I rx ry h
 obtain ⟨i,j,rfl,rfl,q⟩:=h
 obtain ⟨t,rfl⟩:=rx
 obtain ⟨t',rfl⟩:=ry
 exact rule i j t t' s _ _ ⟨.int (g i j),H,I.tok _,⟨_,rfl⟩,q⟩
def G6{f:Value->Value->Sem Value}{g:Int->Int->Bool}
  (rule:∀(i j:Int) (t u:Tok) (s:Shared) (Q:Value->Shared->Prop) (E:Value->Shared->Prop),Q (.bool (g i j)) s->wpAny (model X.prog X.w) X.A (f (.int i t) (.int j u)) Q E s) :
  OpR X f (rI0 fun i j=>.bl (g i j)):=by
 intro pins s σ H x y v u Q I rx ry h
 obtain ⟨i,j,rfl,rfl,q⟩:=h
 obtain ⟨t,rfl⟩:=rx
 obtain ⟨t',rfl⟩:=ry
 exact rule i j t t' s _ _ ⟨.bl (g i j),H,I,rfl,q⟩
def LV(i j:Int):Prop:=0<=j/\j<=1000000/\i.natAbs<2 ^ 64
def AA(k:Nat):(0:Int)<=2 ^ k:=by
 rw[two_pow_cast]
 exact Int.natCast_nonneg _
def fA:OpR X (binaryOp .Add) (rI0 fun i j=>.int (i+j)):=HI fun _ _ _ _ _ _ _ q=>add_int q
def oj:OpR X (binaryOp .Sub) (rI0 fun i j=>.int (i - j)):=HI fun _ _ _ _ _ _ _ q=>sub_int q
def gH:OpR X (binaryOp .Mod) (rI (fun _ j=>0<j) fun i j=>.int (i % j)):=opI fun i j _ _ _ _ _ hc q=>by
 have h1:(0:Int)<j:=hc
 exact mod_int' (by omega) (by rw[Int.fmod_eq_emod_of_nonneg i (by omega)];exact q)
def Aq:OpR X (binaryOp .Pow) (rI LV fun i j=>.int (i ^ j.toNat)):=opI fun _ _ _ _ _ _ _ hc q=>pow_int_small hc.1 hc.2.1 hc.2.2 q
def pF:OpR X (binaryOp .RShift) (rI (fun _ j=>0<=j) fun i j=>.int (i / 2 ^ j.toNat)):=opI fun i j _ _ _ _ _ hc q =>
 rshift_int hc (by rw[Int.fdiv_eq_ediv_of_nonneg i (AA _)];exact q)
def AY:OpR X (binaryOp .BitAnd) (rI0 fun i j=>.int (Builtin.bitAnd i j)):=HI fun _ _ _ _ _ _ _ q=>and_int q
def DV:OpR X (binaryOp .BitXor) (rI0 fun i j=>.int (Builtin.bitXor i j)):=HI fun _ _ _ _ _ _ _ q=>xor_int q
def unI{f:Value->Sem Value}{g:Int->Int}
  (rule:∀(i:Int) (t:Tok) (s:Shared) (Q:Value->Shared->Prop) (E:Value->Shared->Prop),Q (.int (g i) s.toks) { s with toks:=s.toks+1 }->wpAny (model X.prog X.w) X.A (f (.int i t)) Q E s) :
  UnR X f (rU fun i=>.int (g i)):=by
 intro pins s σ H x v Q I rx h
 obtain ⟨i,rfl,q⟩:=h
 obtain ⟨t,rfl⟩:=rx
 exact rule i t s _ _ ⟨.int (g i),H,I.tok _,⟨_,rfl⟩,q⟩
def GJ:UnR X (unaryOp .USub) (rU fun i=>.int (-i)):=unI fun _ _ _ _ _ q=>neg_int q
end
def bg:V->V->Bool
 |.non,.non=>true|.non,.int _=>true|.int _,.non=>true|.non,.bl _=>true|.bl _,.non=>true|.non,.str _=>true|.str _,.non=>true
 |.int _,.int _=>true|.bl _,.bl _=>true|.str _,.str _=>true|.byt _,.byt _=>true
 |.int _,.str _=>true|.str _,.int _=>true|.bl _,.str _=>true|.str _,.bl _=>true
 |_,_=>false
def rEq:R2:=fun x y H Q=>bg x y=true/\Q (.bl (decide (x=y))) H
def rNe:R2:=fun x y H Q=>bg x y=true/\Q (.bl (!decide (x=y))) H
def BH{i j:Int}:decide (V.int i=V.int j)=(i == j):=by
 rw[NQ]
 simp
def FP{i j:Bool}:decide (V.bl i=V.bl j)=(i == j):=by
 rw[NQ]
 simp
def BV{i j:Str}:decide (V.str i=V.str j)=(i == j):=by
 rw[NQ]
 simp
def BE{i j:Array UInt8}:decide (V.byt i=V.byt j)=(i.toList == j.toList):=by
 rw[NQ]
 cases i
 cases j
 simp
section
variable {X:Cx}{a b c:Expr}{ta tb tc:TE}{MH:Pos}
def bx{pins:List (Addr × Obj)}{σ:St}{H:Hp}{s:Shared}{Q:VK}{k k':Bool}(I:Inv X pins σ H s)(q:Q (.bl k) H)(e:k=k'):EP X pins σ Q (.bool k') s:=by
 subst e
 exact⟨.bl k,H,I,rfl,q⟩
def lQ:OpR X (compareOp .Eq) rEq:=by
 intro pins s σ H x y v u Q I rx ry h
 obtain ⟨hs,q⟩:=h
 cases x with
 |non =>
  cases rx
  cases y with
  |non=>cases ry;exact PySem.EqNone.eq_none_none (bx I q (by simp))
  |bl j=>cases ry;exact PySem.EqNone.eq_none_bool (bx I q (by simp))
  |int j=>obtain ⟨t',rfl⟩:=ry;exact PySem.EqNone.eq_none_int (bx I q (by simp))
  |str j=>obtain ⟨t',rfl⟩:=ry;exact PySem.EqNone.eq_none_str (bx I q (by simp))
  |_=>exact absurd (show false=true from hs) Mv
 |bl i =>
  cases rx
  cases y with
  |non=>cases ry;exact PySem.EqNone.eq_bool_none (bx I q (by simp))
  |bl j=>cases ry;exact eq_bool (bx I q FP)
  |str j=>obtain ⟨t',rfl⟩:=ry;exact PySem.EqMixed.eq_bool_str (bx I q (by simp))
  |_=>exact absurd (show false=true from hs) Mv
 |int i =>
  obtain ⟨t,rfl⟩:=rx
  cases y with
  |non=>cases ry;exact PySem.EqNone.eq_int_none (bx I q (by simp))
  |int j=>obtain ⟨t',rfl⟩:=ry;exact eq_int (bx I q BH)
  |str j=>obtain ⟨t',rfl⟩:=ry;exact PySem.EqMixed.eq_int_str (bx I q (by simp))
  |_=>exact absurd (show false=true from hs) Mv
 |str i =>
  obtain ⟨t,rfl⟩:=rx
  cases y with
  |non=>cases ry;exact PySem.EqNone.eq_str_none (bx I q (by simp))
  |bl j=>cases ry;exact PySem.EqMixed.eq_str_bool (bx I q (by simp))
  |int j=>obtain ⟨t',rfl⟩:=ry;exact PySem.EqMixed.eq_str_int (bx I q (by simp))
  |str j=>obtain ⟨t',rfl⟩:=ry;exact eq_str (bx I q BV)
  |_=>exact absurd (show false=true from hs) Mv
 |byt i =>
  obtain ⟨t,rfl⟩:=rx
  cases y with
  |byt j=>obtain ⟨t',rfl⟩:=ry;exact PySem.W.eq_bytes (bx I q BE)
  |_=>exact absurd (show false=true from hs) Mv
 |_=>cases y<;>exact absurd (show false=true from hs) Mv
def DP:OpR X (compareOp .NotEq) rNe:=by
 intro pins s σ H x y v u Q I rx ry h
 obtain ⟨hs,q⟩:=h
 cases x with
 |non =>
  cases rx
  cases y with
  |non=>cases ry;exact PySem.EqNone.ne_none_none (bx I q (by simp))
  |bl j=>cases ry;exact PySem.EqNone.ne_none_bool (bx I q (by simp))
  |int j=>obtain ⟨t',rfl⟩:=ry;exact PySem.EqNone.ne_none_int (bx I q (by simp))
  |str j=>obtain ⟨t',rfl⟩:=ry;exact PySem.EqNone.ne_none_str (bx I q (by simp))
  |_=>exact absurd (show false=true from hs) Mv
 |bl i =>
  cases rx
  cases y with
  |non=>cases ry;exact PySem.EqNone.ne_bool_none (bx I q (by simp))
  |bl j=>cases ry;exact ne_bool (bx I q (congrArg not FP))
  |str j=>obtain ⟨t',rfl⟩:=ry;exact PySem.EqMixed.ne_bool_str (bx I q (by simp))
  |_=>exact absurd (show false=true from hs) Mv
 |int i =>
  obtain ⟨t,rfl⟩:=rx
  cases y with
  |non=>cases ry;exact PySem.EqNone.ne_int_none (bx I q (by simp))
  |int j=>obtain ⟨t',rfl⟩:=ry;exact ne_int (bx I q (congrArg not BH))
  |str j=>obtain ⟨t',rfl⟩:=ry;exact PySem.EqMixed.ne_int_str (bx I q (by simp))
  |_=>exact absurd (show false=true from hs) Mv
 |str i =>
  obtain ⟨t,rfl⟩:=rx
  cases y with
  |non=>cases ry;exact PySem.EqNone.ne_str_none (bx I q (by simp))
  |bl j=>cases ry;exact PySem.EqMixed.ne_str_bool (bx I q (by simp))
  |int j=>obtain ⟨t',rfl⟩:=ry;exact PySem.EqMixed.ne_str_int (bx I q (by simp))
  |str j=>obtain ⟨t',rfl⟩:=ry;exact ne_str (bx I q (congrArg not BV))
  |_=>exact absurd (show false=true from hs) Mv
 |byt i =>
  obtain ⟨t,rfl⟩:=rx
  cases y with
  |byt j=>obtain ⟨t',rfl⟩:=ry;exact PySem.W.ne_bytes (bx I q (congrArg not BE))
  |_=>exact absurd (show false=true from hs) Mv
 |_=>cases y<;>exact absurd (show false=true from hs) Mv
def yR:OpR X (compareOp .Lt) (rI0 fun i j=>.bl (decide (i<j))):=G6 fun _ _ _ _ _ _ _ q=>lt_int q
def LN:OpR X (compareOp .LtE) (rI0 fun i j=>.bl (decide (i<=j))):=G6 fun _ _ _ _ _ _ _ q=>le_int q
def vD:OpR X (compareOp .Gt) (rI0 fun i j=>.bl (decide (j<i))):=G6 fun _ _ _ _ _ _ _ q=>gt_int q
def LI:OpR X (compareOp .GtE) (rI0 fun i j=>.bl (decide (j<=i))):=G6 fun _ _ _ _ _ _ _ q=>ge_int q
def ED:OpR X (compareOp .Is) (fun x y H Q=>y=.non/\Q (.bl (decide (x=.non))) H):=by
 intro pins s σ H x y v u Q I rx ry h
 obtain ⟨rfl,q⟩:=h
 cases ry
 refine is_none_gen (bx I q ?_)
 cases x<;>first
  |(cases rx;rfl)
  |(obtain ⟨t,rfl⟩:=rx;rfl)
def w8:OpR X (compareOp .IsNot) (fun x y H Q=>y=.non/\Q (.bl (!decide (x=.non))) H):=by
 intro pins s σ H x y v u Q I rx ry h
 obtain ⟨rfl,q⟩:=h
 cases ry
 refine isnot_none_gen (bx I q ?_)
 cases x<;>first
  |(cases rx;rfl)
  |(obtain ⟨t,rfl⟩:=rx;rfl)
def bu(b:Expr){op:CmpOp}(h:op≠.In:=by decide)(h2:op≠.NotIn:=by decide):behindInMarks op b=false:=by
 have e1:(op == CmpOp.In)=false:=by cases op<;>first|rfl|exact absurd rfl h
 have e2:(op == CmpOp.NotIn)=false:=by cases op<;>first|rfl|exact absurd rfl h2
 cases b<;>simp [behindInMarks,e1,e2]
def HJ{op:CmpOp}{r:R2}(ho:OpR X (compareOp op) r)(ha:PE X a ta)(hb:PE X b tb)(hm:behindInMarks op b=false):PE X (.Compare a [op] [b] MH) (tOp r ta tb):=by
 intro pins s σ H Q I h
 exact wpAny_Compare1 (KG ha hb I h fun v u s2 x y H2 I2 rx ry q=>ho pins s2 σ H2 x y v u Q I2 rx ry q) hm
def FV(t:TE):TT:=fun σ H Q=>t σ H fun x H'=>∃k,x=.bl k/\Q k H'
def bf{op:CmpOp}{r:R2}(ho:OpR X (compareOp op) r)(ha:PE X a ta)(hb:PE X b tb)(hm:behindInMarks op b=false):PT X (.Compare a [op] [b] MH) (FV (tOp r ta tb)):=by
 intro pins s σ H Q I h
 refine wpAny_isTrue_Compare1 (thn (ha pins s σ H _ I h) fun v s1 ⟨x,H1,I1,r1,q1⟩=>thn (hb pins s1 σ H1 _ I1 q1) fun u s2 ⟨y,H2,I2,r2,q2⟩ =>
  thn (ho pins s2 σ H2 x y v u _ I2 r1 r2 q2) fun c s3 ⟨z,H3,I3,r3,k,e,q3⟩=>?_) hm
 subst e
 cases r3
 exact wpAny_truthy_bool ⟨H3,I3,q3⟩
def FN(r r':R2)(ta tb tc:TE):TE:=fun σ H Q=>ta σ H fun x H1=>tb σ H1 fun y H2=>r x y H2 fun z H3=>∃k,z=.bl k /\
 (if k=true then tc σ H3 fun w' H4=>r' y w' H4 Q else Q (.bl false) H3)
def FD{op W8:CmpOp}{r r':R2}(ho:OpR X (compareOp op) r)(RY:OpR X (compareOp W8) r')(ha:PE X a ta)(hb:PE X b tb)(hc:PE X c tc)
  (hm:lastMarks [op,W8] [b,c]=false:=by with_unfolding_all rfl):PE X (.Compare a [op,W8] [b,c] MH) (FN r r' ta tb tc):=by
 intro pins s σ H Q I h
 refine Compare_chain (thn (ha pins s σ H _ I h) fun v s1 ⟨x,H1,I1,r1,q1⟩=>chain_link (thn (hb pins s1 σ H1 _ I1 q1) fun u s2 ⟨y,H2,I2,r2,q2⟩ =>
  thn (ho pins s2 σ H2 x y v u _ I2 r1 r2 q2) fun d s3 ⟨z,H3,I3,r3,k,e,q3⟩=>?_)) hm
 subst e
 cases r3
 refine wpAny_truthy_bool ?_
 cases k with
 |false=>exact ite_ff ⟨.bl false,H3,I3,rfl,q3⟩
 |true=>exact ite_tt (chain_last (thn (hc pins s3 σ H3 _ I3 q3) fun w' s4 ⟨z',H4,I4,r4,q4⟩=>RY pins s4 σ H4 y z' u w' Q I4 r2 r4 q4))
def wb:(sizeLine:Nat)<2 ^ 63:=by rw[sizeLine_eq];decide
def vals1{x:V}{us:List Value}(r:Vals [x] us):∃u,us=[u]/\RelV x u:=by
 cases r with
 |cons r1 r2=>cases r2;exact⟨_,rfl,r1⟩
def vals2{x y:V}{us:List Value}(r:Vals [x,y] us):∃u w',us=[u,w']/\RelV x u/\RelV y w':=by
 cases r with
 |cons r1 r2 =>
  cases r2 with
  |cons r3 r4=>cases r4;exact⟨_,_,rfl,r1,r3⟩
end
end L2
namespace L2
open PySem PySem.Spec PyProof.Rows
structure AL(h:Heap)(x dx C:Addr)(mA:Str->Option Value):Prop where
 obj:h.get? x=some (PySem.W.instObj C dx)
 ns:h.Ns1 dx mA
 ne:dx≠x
def CQ{h:Heap}{dx:Addr}{mA:Str->Option Value}(n:h.Ns1 dx mA):∃od,h.get? dx=some od/\∀name,PySem.W.lookIn name od=some (mA name):=by
 obtain ⟨o,es,ep,ho,hd,hk,_,hm⟩:=n
 refine⟨o,ho,fun name=>?_⟩
 have e:=hm name
 unfold nsFind findBy at e
 rw[<- Array.find?_toList] at e
 unfold PySem.W.lookIn
 rw[hd]
 dsimp only
 split
 .rename_i y q
  rw[q] at e
  exact congrArg some e
 .rename_i q
  rw[q] at e
  have a:es.toList.any (·.refKey)=false:=by
   rw[List.any_eq_false]
   intro y hy
   obtain ⟨z,t,XQ⟩:=hk y (Array.mem_toList_iff.mp hy)
   simp [DictEntry.refKey,XQ]
  have a':¬ es.toList.any (·.refKey)=true:=by rw[a];exact Mv
  rw[if_neg a']
  exact congrArg some e
def AL.look{h:Heap}{x dx C:Addr}{mA:Str->Option Value}(I:AL h x dx C mA):∃od,PySem.W.InstAt h x (PySem.W.instObj C dx) C (some od)/\∀name,PySem.W.lookIn name od=some (mA name) :=
 let ⟨od,ho,hl⟩:=CQ I.ns
 ⟨od,⟨I.obj,rfl,rfl,ho⟩,hl⟩
section
variable {prog:Program}{w:World}{A:Around}{E:Value->Shared->Prop}{s:Shared}{K:PySem.W.Frag}{x dx C f:Addr}{mA:Str->Option Value}{name:Str}{v:Value}
def get_map{Yw:Bool}{Q:Value->Shared->Prop}(X:K.In s.heap)(I:AL s.heap x dx C mA)(hg:PySem.W.plainGet K C name=true)(hh:PySem.W.hasDictIn K C=true)
  (ha:PySem.W.findIn K (.ref C) name=some none) (hv:mA name=some v) (V9:PySem.W.handedIn v=true) (h:Q v { s with toks:=s.toks+1 }) :
  wpAny (model prog w) A (getAttr (.ref x) name Yw) Q E s:=by
 obtain ⟨od,J,hl⟩:=I.look
 exact PySem.W.get_value X J (PySem.W.plainGet_of hg).1 (PySem.W.findObj_own hh ha rfl (by rw[hl,hv])) V9 h
def D9{pl:Sem Bool}{Q:Value × List Value->Shared->Prop}(X:K.In s.heap)(I:AL s.heap x dx C mA)(hg:PySem.W.plainGet K C name=true)
  (hf:PySem.W.findIn K (.ref C) name=some (some (.ref f))) (ht:PySem.W.isFn K (.ref f)=true) (hv:mA name=none) (h:Q (.ref f,[.ref x]) s) :
  wpAny (model prog w) A (getMethod (.ref x) name pl) Q E s:=by
 obtain ⟨od,J,hl⟩:=I.look
 exact PySem.W.method_fn X J (PySem.W.plainGet_of hg).1 (PySem.W.plainGet_of hg).2 hf (beq_iff_eq.mp ht) (by show (PySem.W.lookIn name od).map (·.isSome)=some false;rw[hl,hv];rfl) h
def Ib{ns:List Str}{Q:Unit->Shared->Prop}(X:K.In s.heap)(I:AL s.heap x dx C mA)
  (hs:PySem.W.findIn K (.ref C) "__setattr__" = some (some (.builtin "object.__setattr__"))) (hp:PySem.W.plainOver K C=true) (ht:PySem.W.takerIn K C name=some none) (hh:PySem.W.hasDictIn K C=true)
  (hw:PySem.Within mA ns) (hsz:ns.length<=sizeLine)
  (h:∀h',AL h' x dx C (fun y=>if y=name then some v else mA y)->Heap.SameBut dx s.heap h'->Q () { s with heap:=h',toks:=s.toks+2 }) :
  wpAny (model prog w) A (setAttr (.ref x) name v) Q E s:=by
 obtain ⟨od,J,hl⟩:=I.look
 refine PySem.W.set_plain X J hs (PySem.W.osa_open (s:={ s with toks:=s.toks+1 }) (r:=none) X J hp ht fun b=>?_)
 obtain ⟨cd,hc,X8⟩:=PySem.W.any_some hh
 have hx:s.heap.get? x=some ⟨.ref C,some dx,.plain,#[]⟩:=I.obj
 refine wpAny_bind (wpAny_pure (wpAny_bind (wpAny_bind (wpAny_loadPart hx (wpAny_bind (PySem.W.Looks.here (s:={ s with toks:=s.toks+1 }) (PySem.W.looks_clsIn X hc) ?_))))))
 rw[X8]
 refine wpAny_pure (a:=some dx) (wpAny_bind (wpAny_pure (wpAny_bind ?_)))
 refine wpAny_nsSet1 (s:={ s with toks:=s.toks+1 }) I.ns fun h' SK T2=>?_
 obtain ⟨oD,esD,epD,hoD,hdD,hcD⟩:=SK.count (PySem.Within.cons name v hw)
 refine wpAny_bind (wpAny_lookBehind hoD (by rw[hdD];exact pastItsLine_dict (Mq hcD (by rw[L6];omega))) ?_)
 exact wpAny_pure (h _ ⟨(T2.2 _ (M0 I.ne)).trans I.obj,SK,I.ne⟩ T2)
def DQ{R:Result->Shared->Prop}{vs:List Value}{kw:List (Str × Value)}(X:K.In s.heap)(hm:PySem.W.makesIn K C=true)
  (hi:PySem.W.findIn K (.ref C) "__init__" = some (some (.ref f))) (hf:PySem.W.typeIn K (.ref f)=some (.type "function"))
  (h:codeAny (model prog w) (A.under (.builtin "type.__call__" ⟨.ref C::vs,kw⟩)) (.call (.ref f) ⟨.ref (s.heap.objs.size+1)::vs,kw⟩) (PySem.W.InitBack (s.heap.objs.size+1) R)
   { s with heap:=(s.heap.push PySem.W.emptyDict).push (PySem.W.instObj C s.heap.objs.size) }) :
  codeAny (model prog w) A (.call (.ref C) ⟨vs,kw⟩) R s:=by
 obtain ⟨hh,g,d,t,os⟩:=s
 exact PySem.W.make_core (PySem.W.makes_of X hm) (PySem.W.looks_findIn X hi) (fun self=>PySem.W.bind_fn X self hf) (.inl rfl) h
end
def kB(f:Str)(v:V):List (Str × V)->List (Str × V)
 |[]=>[(f,v)]
 |(g,x)::r=>if g=f then (g,v)::r else (g,x)::kB f v r
def qu(f g:Str)(v:V):∀fs:List (Str × V),(kB f v fs).lookup g=if g=f then some v else fs.lookup g
 |[]=>by
  show List.lookup g [(f,v)]=_
  by_cases h:g=f
  .have hb:(g == f)=true:=beq_iff_eq.mpr h
   simp only[List.lookup,hb,if_pos h]
  .have hb:(g == f)=false:=beq_eq_false_iff_ne.mpr h
   simp only[List.lookup,hb,if_neg h]
 |(k,x)::r=>by
  have ih:=qu f g v r
  rw[show kB f v ((k,x)::r)=(if k=f then (k,v)::r else (k,x)::kB f v r) from rfl]
  by_cases hk:k=f
  .rw[if_pos hk]
   by_cases h:g=k
   .have hb:(g == k)=true:=beq_iff_eq.mpr h
    simp only[List.lookup,hb,if_pos (h.trans hk)]
   .have hb:(g == k)=false:=beq_eq_false_iff_ne.mpr h
    simp only[List.lookup,hb,if_neg (fun e:g=f=>h (e.trans hk.symm))]
  .rw[if_neg hk]
   by_cases h:g=k
   .have hb:(g == k)=true:=beq_iff_eq.mpr h
    simp only[List.lookup,hb,if_neg (fun e:g=f=>hk (h.symm.trans e))]
   .have hb:(g == k)=false:=beq_eq_false_iff_ne.mpr h
    simp only[List.lookup,hb]
    exact ih
def pL(f:Str)(v:V):∀fs:List (Str × V),f∈(kB f v fs).map (·.1)/\∀g,g∈fs.map (·.1)->g∈(kB f v fs).map (·.1)
 |[]=>⟨by simp [kB],fun g h=>by simp at h⟩
 |(k,x)::r=>by
  obtain ⟨i1,i2⟩:=pL f v r
  rw[show kB f v ((k,x)::r)=(if k=f then (k,v)::r else (k,x)::kB f v r) from rfl]
  by_cases hk:k=f
  .rw[if_pos hk]
   subst hk
   exact⟨by simp,fun g h=>by simpa using h⟩
  .rw[if_neg hk]
   refine⟨?_,fun g h=>?_⟩
   .rw[Mb]
    exact mo _ i1
   .rw[Mb] at h ⊢
    rcases L8.mp h with e|e
    .exact L8.mpr (.inl e)
    .exact mo _ (i2 g e)
def qq(f:Str)(v:V):∀fs:List (Str × V),(kB f v fs).length<=fs.length+1
 |[]=>by simp [kB]
 |(k,x)::r=>by
  have ih:=qq f v r
  rw[show kB f v ((k,x)::r)=(if k=f then (k,v)::r else (k,x)::kB f v r) from rfl]
  by_cases hk:k=f
  .rw[if_pos hk,L6,L6];omega
  .rw[if_neg hk,L6,L6];omega
def nc.some_of{v:V}{o:Option Value}(r:nc (some v) o):∃u,o=some u/\RelV v u:=by
 cases o with
 |none=>exact (show False from r).elim
 |some u=>exact⟨u,rfl,r⟩
def nc.none_of{o:Option Value}(r:nc none o):o=none:=by
 cases o with
 |none=>rfl
 |some u=>exact (show False from r).elim
def Dd{v:V}{u:Value}(r:RelV v u):PySem.W.handedIn u=true:=by
 cases v with
 |non=>cases (show u=Value.none from r);rfl
 |bl b=>cases (show u=Value.bool b from r);rfl
 |int i=>obtain ⟨t,e⟩:=(show ∃t,u=Value.int i t from r);cases e;rfl
 |str x=>obtain ⟨t,e⟩:=(show ∃t,u=Value.str x t from r);cases e;rfl
 |byt b=>obtain ⟨t,e⟩:=(show ∃t,u=Value.bytes b t from r);cases e;rfl
 |flt b=>obtain ⟨t,e⟩:=(show ∃t,u=Value.float b t from r);cases e;rfl
 |ref a=>cases (show u=Value.ref a from r);rfl
 |ty n=>cases (show u=Value.type n from r);rfl
section
variable {P:Program}{w:World}{H:Hp}{h:Heap}{a C dx:Addr}{fs:List (Str × V)}
def rf(hok:HOk P w H h)(e:H a=some (.ins C dx fs)):∃mA,AL h a dx C mA/\(∀f,nc (fs.lookup f) (mA f))/\PySem.Within mA (fs.map (·.1))/\fs.length<=1000/\H dx=some (.own a):=by
 obtain ⟨d,z,ne,ob,mA,n,r,q⟩:=(show cB P w H h a (.ins C dx fs) from hok a _ e)
 exact⟨mA,⟨ob,n,ne⟩,r,q,z,d⟩
end
structure Cls(K:PySem.W.Frag)(C:Addr):Prop where
 pg:PySem.W.plainGet K C Str.empty=true
 hd:PySem.W.hasDictIn K C=true
 po:PySem.W.plainOver K C=true
 sa:PySem.W.findIn K (.ref C) "__setattr__" = some (some (.builtin "object.__setattr__"))
def Cls.get{K:PySem.W.Frag}{C:Addr}(c:Cls K C)(f:Str):PySem.W.plainGet K C f=true:=c.pg
def bU(K:PySem.W.Frag)(C:Addr)(f:Str):Prop:=PySem.W.findIn K (.ref C) f=some none
def bU.KQ{K:PySem.W.Frag}{C:Addr}{f:Str}(n:bU K C f):PySem.W.takerIn K C f=some none:=by
 unfold PySem.W.takerIn
 rw[show PySem.W.findIn K (.ref C) f=some none from n]
 rfl
structure Meth(K:PySem.W.Frag)(C:Addr)(m:Str)(f:Addr):Prop where
 at_:PySem.W.findIn K (.ref C) m=some (some (.ref f))
 fn:PySem.W.isFn K (.ref f)=true
 kp:PySem.W.keepIn K (.ref f)=true
section
variable {X:Cx}{pins:List (Addr × Obj)}{σ:St}{H:Hp}{s:Shared}{a C dx:Addr}{fs:List (Str × V)}{f:Str}{v:V}{A:Around}{E:Value->Shared->Prop}
def zR{b:Bool}{Q:Value->Shared->Prop}(I:Inv X pins σ H s)(e:H a=some (.ins C dx fs))(c:Cls X.K C)(n:bU X.K C f)(l:fs.lookup f=some v)
  (h:∀u s',Inv X pins σ H s'->RelV v u->Q u s'):wpAny (model X.prog X.w) A (getAttr (.ref a) f b) Q E s:=by
 obtain ⟨mA,O,r,_,_,_⟩:=rf I.hok e
 obtain ⟨u,hu,ru⟩:=nc.some_of (v:=v) (o:=mA f) (by rw[<- l];exact r f)
 exact get_map I.kIn O (c.get f) c.hd n hu (Dd ru) (h u _ (I.tok _) ru)
def tU{m:Str}{g:Addr}{pl:Sem Bool}{Q:Value × List Value->Shared->Prop}(I:Inv X pins σ H s)(e:H a=some (.ins C dx fs))(c:Cls X.K C)(k:Meth X.K C m g)(l:fs.lookup m=none)
  (h:Q (.ref g,[.ref a]) s):wpAny (model X.prog X.w) A (getMethod (.ref a) m pl) Q E s:=by
 obtain ⟨mA,O,r,_,_,_⟩:=rf I.hok e
 have hn:mA m=none:=nc.none_of (by rw[<- l];exact r m)
 exact D9 I.kIn O (c.get m) k.at_ k.fn hn h
def zO{y:V}{u:Value}{Q:Unit->Shared->Prop}(I:Inv X pins σ H s)(e:H a=some (.ins C dx fs))(c:Cls X.K C)(n:bU X.K C f)(hl:fs.length<1000)(ry:RelV y u)
  (h:∀s',Inv X pins σ (upd H a (.ins C dx (kB f y fs))) s'->Q () s'):wpAny (model X.prog X.w) A (setAttr (.ref a) f u) Q E s:=by
 obtain ⟨mA,O,r,wi,_,ho⟩:=rf I.hok e
 have hz:(fs.map (·.1)).length<=sizeLine:=by rw[ox,sizeLine_eq];omega
 refine Ib I.kIn O c.sa c.po n.KQ c.hd wi hz fun h' O' sb=>h _ ?_
 have hd:∃o,h'.get? dx=some o:=let ⟨o,_,_,e',_⟩:=O'.ns;⟨o,e'⟩
 refine I.write (x:=a) (e:=dx) (by rw[e];exact True.intro) (.inr ho) (fun b q hb z=>(sb.2 b hb).trans z) hd ?_
 refine⟨by rw[aF O.ne];exact ho,?_,O.ne,O'.obj,_,O'.ns,fun g=>?_,fun g hg=>?_⟩
 .have:=qq f y fs;omega
 .show nc ((kB f y fs).lookup g) (if g=f then some u else mA g)
  rw[qu]
  by_cases q:g=f
  .rw[if_pos q,if_pos q];exact ry
  .rw[if_neg q,if_neg q];exact r g
 .by_cases q:g=f
  .rw[q];exact (pL f y fs).1
  .refine (pL f y fs).2 g (wi g fun z=>hg ?_)
   show (if g=f then some u else mA g)=none
   rw[if_neg q];exact z
def Inv.made(I:Inv X pins σ H s):Inv X pins σ (upd (upd H s.heap.objs.size (.own (s.heap.objs.size+1))) (s.heap.objs.size+1) (.ins C s.heap.objs.size []))
  { s with heap:=(s.heap.push PySem.W.emptyDict).push (PySem.W.instObj C s.heap.objs.size) }:=by
 have e1:(s.heap.push PySem.W.emptyDict).get? s.heap.objs.size=some PySem.W.emptyDict:=Heap.get?_push_size s.heap rfl
 have e2:((s.heap.push PySem.W.emptyDict).push (PySem.W.instObj C s.heap.objs.size)).get? (s.heap.objs.size+1)=some (PySem.W.instObj C s.heap.objs.size):=by
  have:=Heap.get?_push_size (s.heap.push PySem.W.emptyDict) (o:=PySem.W.instObj C s.heap.objs.size) rfl
  rwa [Heap.size_push] at this
 have e3:(s.heap.push PySem.W.emptyDict).Ns s.heap.objs.size (fun _=>none):=⟨PySem.W.emptyDict,#[],_,e1,rfl,(fun e he=>absurd he (by simp)),fun _=>rfl⟩
 have I1:=I.laid (a:=s.heap.objs.size) (o:=.own (s.heap.objs.size+1)) (h':=s.heap.push PySem.W.emptyDict) (t':=s.toks) (fun b u q=>Heap.get?_push_of_some _ q) (Mi _) ⟨_,e1⟩
 refine I1.laid (a:=s.heap.objs.size+1) (o:=.ins C s.heap.objs.size []) (t':=s.toks) (fun b u q=>Heap.get?_push_of_some _ q) (Nat.le_of_eq (Heap.size_push _ _)) ?_
 have ne:s.heap.objs.size≠s.heap.objs.size+1:=MG (OY _)
 refine⟨by rw[aF ne,aw],NG _,ne,e2,fun _=>none,(Heap.Ns1.of_empty e3).at fun o q=>Heap.get?_push_of_some _ q,fun _=>True.intro,fun y hy=>absurd rfl hy⟩
def HN{prog:Program}{w:World}{env:Env}{e:Expr}{f:Str}{MH:Pos}{s:Shared}{Q:Value->Shared->Prop}(hb:attributeBase e f env (eval e env)=eval e env)
  (h:wpAny (model prog w) A (eval e env) (fun o s₁=>wpAny (model prog w) A (getAttr o f true) Q E s₁) E s):wpAny (model prog w) A (eval (.Attribute e f MH) env) Q E s :=
 Attribute_any_ h (by rw[arm_eval_Attribute,hb])
end
def pC(K:PySem.W.Frag)(ta:TE)(f:Str):TE:=fun σ H Q=>ta σ H fun x H1=>∃a C dx fs v,x=.ref a/\H1 a=some (.ins C dx fs)/\Cls K C/\bU K C f/\fs.lookup f=some v/\Q v H1
def Ar(K:PySem.W.Frag)(ta tv:TE)(f:Str):TS:=fun D σ H=>tv σ H fun y H1=>ta σ H1 fun x H2=>∃a C dx fs,x=.ref a/\H2 a=some (.ins C dx fs)/\Cls K C/\bU K C f/\fs.length<1000 /\
 D.nx σ (upd H2 a (.ins C dx (kB f y fs)))
section
variable {X:Cx}{o e N4:Expr}{f:Str}{MH Pd:Pos}{ta tv:TE}
def Jr(he:PE X e ta)(hb:attributeBase e f X.env (eval e X.env)=eval e X.env):PE X (.Attribute e f MH) (pC X.K ta f):=by
 intro pins s σ H Q I h
 refine HN hb (thn (he pins s σ H _ I h) fun u s1 ⟨x,H1,I1,rx,a,C,dx,fs,v,ex,ea,c,n,l,q⟩=>?_)
 subst ex
 obtain rfl:u=Value.ref a:=rx
 exact zR I1 ea c n l fun u' s2 I2 ru=>⟨v,H1,I2,ru,q⟩
def Jw(ha:PE X o ta)(hv:PE X N4 tv)(hs:swapsWith N4 (some (.Attribute o f Pd)) MH.line X.env=pure false):PS X (.Assign [.Attribute o f Pd] N4 MH) (Ar X.K ta tv f):=by
 intro pins s σ H D I h
 refine plainObj_wpAny_Assign_Attribute (thn (hv pins s σ H _ I h) fun u s1 ⟨y,H1,I1,ry,q⟩=>thn (ha pins s1 σ H1 _ I1 q) fun ov s2 ⟨x,H2,I2,rx,a,C,dx,fs,ex,ea,c,n,l,q2⟩=>?_) hs
 subst ex
 obtain rfl:ov=Value.ref a:=rx
 exact zO I2 ea c n l ry fun s3 I3=>⟨σ,_,I3,q2⟩
end
section
variable {X:Cx}{pins:List (Addr × Obj)}{σ:St}{H:Hp}{s:Shared}{A:Around}{E:Value->Shared->Prop}{Q:Value->Shared->Prop}{c:Value}{b:Bool}
inductive nj(K:PySem.W.Frag)(H:Hp):V->Value->Prop where
 |non:nj K H .non (.type "NoneType")
 |bl (x:Bool):nj K H (.bl x) (.type "bool")
 |int (i:Int):nj K H (.int i) (.type "int")
 |str (x:Str):nj K H (.str x) (.type "str")
 |flt (x:UInt64):nj K H (.flt x) (.type "float")
 |lst {a:Addr}{xs:List V} (e:H a=some (.lst xs)):nj K H (.ref a) (.type "list")
 |frz {a:Addr}{o:Obj}{xs:List V} (e:H a=some (.frz o (.lst xs))):nj K H (.ref a) (.type "list")
 |tup {a:Addr}{xs:List V} (e:H a=some (.tup xs)):nj K H (.ref a) (.type "tuple")
 |dK {a:Addr}{kvs:List (Key × V)} (e:H a=some (.dK kvs)):nj K H (.ref a) (.type "dict")
 |dT {a:Addr}{kvs:List (List Key × V)} (e:H a=some (.dT kvs)):nj K H (.ref a) (.type "dict")
 |ins {a C dx:Addr}{fs:List (Str × V)} (e:H a=some (.ins C dx fs)) (cl:Cls K C) (ha:PySem.W.findIn K (.ref C) "__class__" = some (some (.builtin "object.__class__")))
   (hn:PySem.W.specialIn K (.builtin "object.__class__") "__get__" = some (some (.builtin "getset_descriptor.__get__"))) (htk:PySem.W.takesIn K (.builtin "object.__class__")=some true)
   (hm:PySem.W.mroIn K C (.type "object")=some true):nj K H (.ref a) (.ref C)
def CW{x:V}{u t:Value}(I:Inv X pins σ H s)(rx:RelV x u)(ty:nj X.K H x t)(e:PySem.W.kitOne X.K t c=some b)(h:∀tk,Q (.bool b) { s with toks:=tk }) :
  wpAny (model X.prog X.w) A (call (.builtin "isinstance") [u,c]) Q E s:=by
 cases ty with
 |non=>cases (show u=Value.none from rx);exact Nj PySem.W.kitx_none I.kIn True.intro e (fun z=>nomatch z) h
 |bl y=>cases (show u=Value.bool y from rx);exact Nj PySem.W.kitx_bool I.kIn True.intro e (fun z=>nomatch z) h
 |int i=>obtain ⟨t,q⟩:=(show ∃t,u=Value.int i t from rx);cases q;exact Nj PySem.W.kitx_int I.kIn True.intro e (fun z=>nomatch z) h
 |str y=>obtain ⟨t,q⟩:=(show ∃t,u=Value.str y t from rx);cases q;exact Nj PySem.W.kitx_str I.kIn True.intro e (fun z=>nomatch z) h
 |flt y=>obtain ⟨t,q⟩:=(show ∃t,u=Value.float y t from rx);cases q;exact Nj PySem.W.kitx_float I.kIn True.intro e (fun z=>nomatch z) h
 |@lst a xs ea =>
  cases (show u=Value.ref a from rx)
  obtain ⟨_,_,n,_,h1⟩:=(show cB X.prog X.w H s.heap a (.lst xs) from I.hok a _ ea)
  exact Nj PySem.W.kitx_list I.kIn ⟨_,h1,rfl⟩ e (fun z=>nomatch z) h
 |@frz a ob xs ea =>
  cases (show u=Value.ref a from rx)
  obtain ⟨_,_,_,n,_,h1⟩:=(show cB X.prog X.w H s.heap a (.frz ob (.lst xs)) from I.hok a _ ea)
  exact Nj PySem.W.kitx_list I.kIn ⟨_,h1,rfl⟩ e (fun z=>nomatch z) h
 |@tup a xs ea =>
  cases (show u=Value.ref a from rx)
  obtain ⟨_,_,_,p⟩:=(show cB X.prog X.w H s.heap a (.tup xs) from I.hok a _ ea)
  obtain ⟨o,h1,h2,_⟩:=p
  exact Nj PySem.W.kitx_tuple I.kIn ⟨o,h1,h2⟩ e (fun z=>nomatch z) h
 |@dK a kvs ea =>
  cases (show u=Value.ref a from rx)
  obtain ⟨_,_,vs,_,p⟩:=(show cB X.prog X.w H s.heap a (.dK kvs) from I.hok a _ ea)
  obtain ⟨o,es,ep,h1,h2,_⟩:=p
  exact Nj PySem.W.kitx_dict I.kIn ⟨o,h1,h2.1⟩ e (fun z=>nomatch z) h
 |@dT a kvs ea =>
  cases (show u=Value.ref a from rx)
  obtain ⟨_,_,xs,_,o,es,ep,h1,h2,_⟩:=(show cB X.prog X.w H s.heap a (.dT kvs) from I.hok a _ ea)
  exact Nj PySem.W.kitx_dict I.kIn ⟨o,h1,h2.1⟩ e (fun z=>nomatch z) h
 |@ins a C dx fs ea cl ha hn htk hm =>
  cases (show u=Value.ref a from rx)
  obtain ⟨mA,O,_⟩:=rf I.hok ea
  obtain ⟨od,J,_⟩:=O.look
  exact Nj (PySem.W.kitx_own (cl.get _) cl.hd ha hn htk hm) I.kIn J e (fun z=>nomatch z) h
end
end L2
namespace L2
open PySem PySem.Spec PyProof.Rows
structure hX(k:Nat)(A:Around):Prop where
 hd:A.handled=none
 dp:A.depth+3*k+5<recursionLimit
 un:A.units+16*k+200<cLine
def hX.mono{j k:Nat}{A:Around}(r:hX k A)(h:j<=k):hX j A:=⟨r.hd,by have:=r.dp;omega,by have:=r.un;omega⟩
def hX.deeper{k:Nat}{A:Around}(r:hX (k+1) A)(env:Env):hX k (A.deeper env) :=
 ⟨r.hd,by have:=r.dp;show A.depth+1+3*k+5<_;omega,by have:=r.un;show A.units+3+16*k+200<_;omega⟩
def AF{A:Around}{C:Addr}{us:List Value}{kw:List (Str × Value)}:(A.under (.builtin "type.__call__" ⟨.ref C::us,kw⟩)).depth=A.depth+1:=by
 first|rfl|simp [Around.under,Code.weight,Code.isCreation,Code.isGuard,Code.isCaller,Code.frames,Code.isFrame,guardIds]
def zV{A:Around}{C:Addr}{us:List Value}{kw:List (Str × Value)}:(A.under (.builtin "type.__call__" ⟨.ref C::us,kw⟩)).units=A.units+1:=by
 first|rfl|simp [Around.under,Code.cUnits,Code.frames,Code.isFrame]
def hX.make{k:Nat}{A:Around}(r:hX (k+1) A)(C:Addr)(us:List Value)(kw:List (Str × Value)):hX k (A.under (.builtin "type.__call__" ⟨.ref C::us,kw⟩)) :=
 ⟨r.hd,by have:=r.dp;rw[AF];omega,by have:=r.un;rw[zV];omega⟩
def hX.depth{k:Nat}{A:Around}(r:hX k A):A.depth<recursionLimit:=by have:=r.dp;omega
def hX.units{k:Nat}{A:Around}(r:hX k A):A.units+64<cLine:=by have:=r.un;omega
def m7:TA:=fun _ H Q=>Q [] H
def gp(ta:TE)(tr:TA):TA:=fun σ H Q=>ta σ H fun x H1=>tr σ H1 fun xs H2=>Q (x::xs) H2
section
variable {X:Cx}{e:Expr}{es:List Expr}{te:TE}{t:TA}{MH:Pos}
def aj:PA X [] m7:=fun _ _ _ _ H Q I h=>Calls.spliced_nil ⟨[],H,I,.nil,h⟩
def aa(ha:PE X e te)(hr:PA X es t)(hs:starEach (e::es) X.env=(false,eval e X.env)::starEach es X.env:=by rfl):PA X (e::es) (gp te t):=by
 intro MH pins s σ H Q I h
 rw[hs]
 show wpAny _ _ (spliced ((false,eval e X.env)::backTo MH (starEach es X.env))) _ _ s
 refine Calls.spliced_cons (thn (ha pins s σ H _ I h) fun u s1 ⟨x,H1,I1,r1,q1⟩=>?_)
 exact thn (hr MH pins s1 σ H1 _ I1 q1) fun us s2 ⟨xs,H2,I2,r2,q2⟩=>⟨x::xs,H2,I2,.cons r1 r2,q2⟩
def Lm(t:TA):TE:=fun σ H Q=>t σ H fun xs H1=>xs.length<=sizeLine/\∀p,H1 p=none->Q (.ref p) (upd H1 p (.tup xs))
def Kg(t:TA):TE:=fun σ H Q=>t σ H fun xs H1=>xs.length<=sizeLine/\∀p,H1 p=none->Q (.ref p) (upd H1 p (.lst xs))
def ir{x1}(h:PA X es t):PE X (.Tuple es x1 MH) (Lm t):=by
 intro pins s σ H Q I hq
 refine wpAny_Tuple_spliced (thn (h MH pins s σ H _ I hq) fun us s1 ⟨xs,H1,I1,r,z,q⟩=>⟨by rw[<- r.length];exact z,?_⟩)
 have hf:H1 s1.heap.objs.size=none:=I1.hok.fresh (Mi _)
 refine⟨.ref s1.heap.objs.size,upd H1 s1.heap.objs.size (.tup xs),I1.laid (t':=s1.toks) (fun b u e=>Heap.get?_push_of_some _ e) (Mi _) ?_,rfl,q _ hf⟩
 exact⟨z,us,r,⟨_,Heap.get?_push_size _ rfl,rfl,_,rfl⟩⟩
def cS(h:PA X es t):PE X (.List es MH) (Kg t):=by
 intro pins s σ H Q I hq
 refine wpAny_List_spliced (thn (h MH pins s σ H _ I hq) fun us s1 ⟨xs,H1,I1,r,z,q⟩=>⟨by rw[<- r.length];exact z,?_⟩)
 have hf:H1 s1.heap.objs.size=none:=I1.hok.fresh (Mi _)
 refine⟨.ref s1.heap.objs.size,upd H1 s1.heap.objs.size (.lst xs),I1.laid (t':=s1.toks) (fun b u e=>Heap.get?_push_of_some _ e) (Mi _) ?_,rfl,q _ hf⟩
 exact⟨z,us,0,r,Heap.get?_push_size _ rfl⟩
end
abbrev Sp:=List V->Hp->VK->XK->Prop
abbrev CXT:=List Env->Hp->Shared->XK->Value->Shared->Prop
structure Ae(P:Program)(w:World)(K:PySem.W.Frag)(mg:Str->Option Value)(base:Heap)(A:Around)(outer:List Env)(s:Shared)(H:Hp):Prop where
 frames:A.frames=some outer
 mod:Mod K mg base
 bs:∀b o,base.get? b=some o->s.heap.get? b=some o/\H b=none
 bsz:base.objs.size<=s.heap.objs.size
 pB:s.heap.FunFrames base outer
 frf:∀b∈frs outer,H b=none
 hok:HOk P w H s.heap
 bare:AllBare s.gens
def CE(outer:List Env)(P:Program)(w:World)(H:Hp)(s:Shared)(Q:VK)(u:Value)(s':Shared):Prop :=
 ∃v H',s'.os=s.os/\AllBare s'.gens/\Un (frs outer) [] H H' s.heap s'.heap/\HOk P w H' s'.heap/\RelV v u/\Q v H'
def CR(CX:CXT)(outer:List Env)(P:Program)(w:World)(H:Hp)(s:Shared)(Q:VK)(E:XK)(r:Result)(s':Shared):Prop :=
 match r with
 |.ok (.ret u)=>CE outer P w H s Q u s'
 |.ok _=>False
 |.error e=>CX outer H s E e s'
structure aI(P:Program)(w:World)(K:PySem.W.Frag)(mg:Str->Option Value)(base:Heap)(CX:CXT)(k:Nat)(f:Addr)(fd:FuncData)(ps:List Str)(sp:Sp):Prop where
 len:∀vs H Q E,sp vs H Q E->vs.length=ps.length
 run:∀(A:Around) (outer:List Env) (s:Shared) (H:Hp) (args:Args) (us:List Value) (vs:List V) (Q:VK) (E:XK),hX k A->Ae P w K mg base A outer s H->BindsTo s fd args (ps.zip us)->Vals vs us->sp vs H Q E ->
  codeAny (model P w) A (.call (.ref f) args) (CR CX outer P w H s Q E) s
def Ae.make{P:Program}{w:World}{K:PySem.W.Frag}{mg:Str->Option Value}{base:Heap}{A:Around}{outer:List Env}{s:Shared}{H:Hp}(e:Ae P w K mg base A outer s H)(C:Addr)(us:List Value)(kw:List (Str × Value)) :
  Ae P w K mg base (A.under (.builtin "type.__call__" ⟨.ref C::us,kw⟩)) outer s H:=⟨by first|exact e.frames|(simpa [Around.under,Code.envs,Code.isFrame,pushEnvs] using e.frames),e.mod,e.bs,e.bsz,e.pB,e.frf,e.hok,e.bare⟩
section
variable {X:Cx}{pins:List (Addr × Obj)}{σ:St}{H:Hp}{s s':Shared}
def Inv.yY(I:Inv X pins σ H s):Ae X.prog X.w X.K X.mg X.base X.A X.stack s H :=
 ⟨I.ok.frames,I.ok.mod,I.bs,Mq I.ok.bsz I.sz,I.stack,I.ra,I.hok,I.bare⟩
def Inv.after{Q:VK}{u:Value}(I:Inv X pins σ H s)(h:CE X.stack X.prog X.w H s Q u s'):EP X pins σ Q u s':=by
 obtain ⟨v,H',os,bare,un,hok,r,q⟩:=h
 obtain ⟨hh,g,d,t,os'⟩:=s'
 obtain rfl:os'=s.os:=os
 exact⟨v,H',I.call (h':=hh) (g':=g) (d':=d) (t':=t) (ch:=[]) un hok bare (fun b z=>absurd z (by simp)),r,q⟩
end
def tq(sp:Sp)(Qg:List V)(E:XK)(t:TA):TE:=fun σ H Q=>t σ H fun vs H1=>sp (vs++Qg) H1 Q E
def yH(C:Addr)(m:Str)(sp:Sp)(Qg:List V)(E:XK)(ta:TE)(t:TA):TE:=fun σ H Q=>ta σ H fun x H1=>∃a dx fs,x=.ref a/\H1 a=some (.ins C dx fs)/\fs.lookup m=none /\
 t σ H1 fun vs H2=>sp (x::(vs++Qg)) H2 Q E
def B6(C:Addr)(sp:Sp)(Qg:List V)(E:XK)(t:TA):TE:=fun σ H Q=>t σ H fun vs H1=>∀x dx,H1 x=none->H1 dx=none->dx≠x ->
 sp (.ref x::(vs++Qg)) (upd (upd H1 dx (.own x)) x (.ins C dx [])) (fun v H2=>v=.non/\Q (.ref x) H2) E
def Binds(K:PySem.W.Frag)(fd:FuncData)(ps:List Str)(ds:List Value):Prop :=
 ∀(s:Shared) (us:List Value),K.In s.heap->(us++ds).length=ps.length->BindsTo s fd ⟨us,[]⟩ (ps.zip (us++ds))
def Binds.all{K:PySem.W.Frag}{fd:FuncData}{ps:List Str}(h:∀us:List Value,us.length=ps.length->bindArgs fd ⟨us,[]⟩=pure (ps.zip us)):Binds K fd ps []:=fun s us _ hl=>by
 rw[MV] at hl ⊢
 exact .of_eq (h us hl)
def Passes(CX:CXT)(X:Cx)(E:XK):Prop:=∀(pins:List (Addr × Obj)) (σ:St) (H:Hp) (s:Shared) (e:Value) (s':Shared),Inv X pins σ H s->CX X.stack H s E e s'->X.xe e s'
section
variable {X:Cx}{CX:CXT}{k:Nat}{f C:Addr}{fd:FuncData}{ps:List Str}{sp:Sp}{Qg:List V}{ds:List Value}{E:XK}{x m:Str}{p MH Qy:Pos}{e o:Expr}{es:List Expr}{ta:TE}{t:TA}
def z7{pins:List (Addr × Obj)}{σ:St}{H:Hp}{s:Shared}{Q:VK}{us:List Value}{vs:List V}(F:aI X.prog X.w X.K X.mg X.base CX k f fd ps sp)(hr:hX k X.A)(hb:Binds X.K fd ps ds)(hd:Vals Qg ds)(hx:Passes CX X E)
  (I:Inv X pins σ H s) (r:Vals vs us) (h:sp (vs++Qg) H Q E):wpAny (model X.prog X.w) X.A (call (.ref f) us) (EP X pins σ Q) X.xe s:=by
 have r2:Vals (vs++Qg) (us++ds):=r.append hd
 have hl:(us++ds).length=ps.length:=by rw[<- r2.length];exact F.len _ _ _ _ h
 refine wpAny_call (codeAny_mono (F.run X.A X.stack s H ⟨us,[]⟩ (us++ds) (vs++Qg) Q E hr I.yY (hb s us I.kIn hl) r2 h) fun r s' hq=>?_)
 cases r with
 |error e=>exact hx pins σ H s e s' I hq
 |ok fl =>
  cases fl with
  |ret u=>exact I.after hq
  |next=>exact False.elim hq
  |brk=>exact False.elim hq
  |cont=>exact False.elim hq
def aB(F:aI X.prog X.w X.K X.mg X.base CX k f fd ps sp)(hr:hX k X.A)(hg:Gl X x)(hm:X.mg x=some (.ref f))(hk:PySem.W.keepIn X.K (.ref f)=true)(hb:Binds X.K fd ps ds)(hd:Vals Qg ds)(hx:Passes CX X E)
  (ha:PA X (e::es) t) (Tn:(x == ("__debug__" : Str))=false:=by decide) (he:starEach (e::es) X.env=(false,eval e X.env)::starEach es X.env:=by rfl) (Ri:(backTo MH (starEach es X.env)).any (·.1)=false:=by rfl) :
  PE X (.Call (.Name x p) (e::es) [] MH) (tq sp Qg E t):=by
 intro pins s σ H Q I h
 refine wpAny_Call_Name_kw (mW I hg hm ?_ Tn)
 refine Pt (h₀:=X.base) I.ok.mod.kin hk (thn (ha MH pins s σ H _ I h) fun us s1 ⟨vs,H1,I1,r,q⟩=>⟨I1.kIn,?_⟩) he Ri
 exact z7 F hr hb hd hx I1 r q
def o9{pl:Sem Bool}(he:PE X o ta)(c:Cls X.K C)(hm:Meth X.K C m f)(F:aI X.prog X.w X.K X.mg X.base CX k f fd ps sp)(hr:hX k X.A)(hb:Binds X.K fd ps ds)(hd:Vals Qg ds)(hx:Passes CX X E)(ha:PA X (e::es) t)
  (Tc:starEach (e::es) X.env=(false,eval e X.env)::starEach es X.env:=by rfl) (Ri:(backTo MH (starEach es X.env)).any (·.1)=false:=by rfl)
  (ht:eval (.Call (.Attribute o m Qy) (e::es) [] MH) X.env=(do
   let ov <- eval o X.env
   standAt Qy.atName
   let (f,first) <- holding [ov] (getMethod ov m pl)
   callWith MH f first (backTo MH (starEach (e::es) X.env)) (backToKw MH (keywordEach [] X.env))):=by rfl) :
  PE X (.Call (.Attribute o m Qy) (e::es) [] MH) (yH C m sp Qg E ta t):=by
 intro pins s σ H Q I h
 refine PySem.W.methodCall_KW (pl:=pl) (thn (he pins s σ H _ I h) fun u s1 ⟨x,H1,I1,rx,a,dx,fs,ex,ea,l,q⟩=>?_) ht
 subst ex
 obtain rfl:u=Value.ref a:=rx
 refine tU I1 ea c hm l ?_
 refine Pt (first:=[.ref a]) (h₀:=X.base) I.ok.mod.kin hm.kp (thn (ha MH pins s1 σ H1 _ I1 q) fun us s2 ⟨vs,H2,I2,r,q2⟩=>⟨I2.kIn,?_⟩) Tc Ri
 exact z7 (us:=.ref a::us) (vs:=.ref a::vs) F hr hb hd hx I2 (.cons rfl r) q2
def yx{pl:Sem Bool}(he:PE X o ta)(c:Cls X.K C)(hm:Meth X.K C m f)(F:aI X.prog X.w X.K X.mg X.base CX k f fd ps sp)(hr:hX k X.A)(hb:Binds X.K fd ps ds)(hd:Vals Qg ds)(hx:Passes CX X E)
  (ht:eval (.Call (.Attribute o m Qy) [] [] MH) X.env=(do
   let ov <- eval o X.env
   standAt Qy.atName
   let (f,first) <- holding [ov] (getMethod ov m pl)
   callWith MH f first (backTo MH (starEach [] X.env)) (backToKw MH (keywordEach [] X.env))):=by rfl) :
  PE X (.Call (.Attribute o m Qy) [] [] MH) (yH C m sp Qg E ta m7):=by
 intro pins s σ H Q I h
 refine PySem.W.methodCall_KW (pl:=pl) (thn (he pins s σ H _ I h) fun u s1 ⟨x,H1,I1,rx,a,dx,fs,ex,ea,l,q⟩=>?_) ht
 subst ex
 obtain rfl:u=Value.ref a:=rx
 refine tU I1 ea c hm l ?_
 exact PySem.W.callWith_K0 (first:=[.ref a]) I1.kIn hm.kp (z7 (us:=[.ref a]) (vs:=[.ref a]) F hr hb hd hx I1 (.cons rfl .nil) q)
structure Mk(K:PySem.W.Frag)(C f:Addr):Prop where
 makes:PySem.W.makesIn K C=true
 init:PySem.W.findIn K (.ref C) "__init__" = some (some (.ref f))
 fn:PySem.W.isFn K (.ref f)=true
 kp:PySem.W.keepIn K (.ref C)=true
def D6{pins:List (Addr × Obj)}{σ:St}{H:Hp}{s:Shared}{Q:VK}{us:List Value}{vs:List V}(M:Mk X.K C f)(F:aI X.prog X.w X.K X.mg X.base CX k f fd ps sp)(hr:hX (k+1) X.A)(hb:Binds X.K fd ps ds)(hd:Vals Qg ds)
  (hx:Passes CX X E) (I:Inv X pins σ H s) (r:Vals vs us)
  (h:∀x dx,H x=none->H dx=none->dx≠x->sp (.ref x::(vs++Qg)) (upd (upd H dx (.own x)) x (.ins C dx [])) (fun v H2=>v=.non/\Q (.ref x) H2) E) :
  wpAny (model X.prog X.w) X.A (call (.ref C) us) (EP X pins σ Q) X.xe s:=by
 have hq:=h (s.heap.objs.size+1) s.heap.objs.size (I.hok.fresh (Nt _)) (I.hok.fresh (Mi _)) (MG (OY _))
 have I2:=Inv.made (C:=C) I
 have r2:Vals (V.ref (s.heap.objs.size+1)::(vs++Qg)) (Value.ref (s.heap.objs.size+1)::(us++ds)):=.cons rfl (r.append hd)
 have hl:(Value.ref (s.heap.objs.size+1)::us++ds).length=ps.length:=by
  have e:=r2.length
  rw[F.len _ _ _ _ hq] at e
  exact e.symm
 refine wpAny_call (DQ (f:=f) I.kIn M.makes M.init (beq_iff_eq.mp M.fn) (codeAny_mono (F.run _ X.stack _ _ ⟨Value.ref (s.heap.objs.size+1)::us,[]⟩ (Value.ref (s.heap.objs.size+1)::(us++ds)) _ _ E (hr.make C us [])
  (I2.yY.make C us []) (hb _ (Value.ref (s.heap.objs.size+1)::us) I2.kIn hl) r2 hq) fun r s' Vl=>?_))
 cases r with
 |error e=>exact hx pins σ _ _ e s' I2 Vl
 |ok fl =>
  cases fl with
  |ret u =>
   obtain ⟨v,H',I3,rv,ev,q3⟩:=I2.after Vl
   subst ev
   exact⟨rv,⟨V.ref (s.heap.objs.size+1),H',I3,rfl,q3⟩⟩
  |next=>exact False.elim Vl
  |brk=>exact False.elim Vl
  |cont=>exact False.elim Vl
def rq(M:Mk X.K C f)(F:aI X.prog X.w X.K X.mg X.base CX k f fd ps sp)(hr:hX (k+1) X.A)(hg:Gl X x)(hm:X.mg x=some (.ref C))(hb:Binds X.K fd ps ds)(hd:Vals Qg ds)(hx:Passes CX X E)
  (ha:PA X (e::es) t) (Tn:(x == ("__debug__" : Str))=false:=by decide) (he:starEach (e::es) X.env=(false,eval e X.env)::starEach es X.env:=by rfl) (Ri:(backTo MH (starEach es X.env)).any (·.1)=false:=by rfl) :
  PE X (.Call (.Name x p) (e::es) [] MH) (B6 C sp Qg E t):=by
 intro pins s σ H Q I h
 refine wpAny_Call_Name_kw (mW I hg hm ?_ Tn)
 refine Pt (h₀:=X.base) I.ok.mod.kin M.kp (thn (ha MH pins s σ H _ I h) fun us s1 ⟨vs,H1,I1,r,q⟩=>⟨I1.kIn,?_⟩) he Ri
 exact D6 M F hr hb hd hx I1 r q
end
def PK(X:Cx)(Ta:List Keyword)(t:TA):Prop :=
 ∀(MH:Pos) (pins:List (Addr × Obj)) (s:Shared) (σ:St) (H:Hp) (Q:List V->Hp->Prop),Inv X pins σ H s->t σ H Q->wpAny (model X.prog X.w) X.A (evalAll ((backToKw MH (keywordEach Ta X.env)).map (·.2))) (AP X pins σ Q) X.xe s
section
variable {X:Cx}{x:Str}{MH RS:Pos}{e:Expr}{Ta:List Keyword}{te:TE}{t:TA}{nm:Option Str}
def FZ:PK X [] m7:=fun _ _ _ _ H Q I h=>wpAny_evalAll_nil ⟨[],H,I,.nil,h⟩
def A9(ha:PE X e te)(hr:PK X Ta t):PK X (⟨nm,e,RS⟩::Ta) (gp te t):=by
 intro MH pins s σ H Q I h
 show wpAny _ _ (evalAll ((do let v <- eval e X.env;standAt MH;pure v)::(backToKw MH (keywordEach Ta X.env)).map (·.2))) _ _ s
 refine wpAny_evalAll_cons (wpAny_bind (thn (ha pins s σ H _ I h) fun u s1 ⟨x,H1,I1,r1,q1⟩=>wpAny_bind (wpAny_standAt (wpAny_pure ?_))))
 exact thn (hr MH pins s1 σ H1 _ I1 q1) fun us s2 ⟨xs,H2,I2,r2,q2⟩=>⟨x::xs,H2,I2,.cons r1 r2,q2⟩
end
structure aE(N P:List Str)(sc:Scope):Prop where
 kind:sc.kind=.function
 co:sc.isCoroutine=false
 gen:sc.isGenerator=false
 nd:N.Nodup
 pre:N.take P.length=P
 par:∀x∈P,sc.names.lookup x=some .local\/sc.names.lookup x=some .cell
 nofree:∀y∈sc.names,y.2≠.free
def u9{kindOf:Str->Option NameKind}{x:Str}:∀{binds:List (Str × Value)}{m:Str->Option Value},(∀v,(x,v)∉binds)->bindL kindOf binds m x=m x
 |[],_,_=>rfl
 |(n,v)::r,m,h=>by
  unfold bindL
  rw[u9 fun w hw=>h w (mo _ hw)]
  split
  .have:x≠n:=by rintro rfl;exact h v Fk
   simp [this]
  .rfl
def vQ{kindOf:Str->Option NameKind}{x:Str}:∀{binds:List (Str × Value)}{m:Str->Option Value},(∀v,(x,v)∉binds)->bindC kindOf binds m x=m x
 |[],_,_=>rfl
 |(n,v)::r,m,h=>by
  unfold bindC
  rw[vQ fun w hw=>h w (mo _ hw)]
  split
  .rfl
  .have:x≠n:=by rintro rfl;exact h v Fk
   simp [this]
def vm{kindOf:Str->Option NameKind}{x:Str}{v:Value}:∀{P:List Str}{vs:List Value}{i:Nat}{m:Str->Option Value},P.Nodup->P[i]?=some x->vs[i]?=some v->kindOf x=some .local ->
  bindL kindOf (P.zip vs) m x=some v
 |[],_,_,_,_,h,_,_=>by simp at h
 |_::_,[],_,_,_,_,h,_=>by simp at h
 |p::P,w::vs,0,m,nd,h1,h2,hk=>by
  simp at h1 h2;subst h1;subst h2
  show bindL kindOf ((p,w)::P.zip vs) m p=_
  unfold bindL
  rw[u9 fun v hv=>(Mh.mp nd).1 (List.of_mem_zip hv).1,if_pos hk]
  simp
 |p::P,w::vs,i+1,m,nd,h1,h2,hk=>by
  show bindL kindOf ((p,w)::P.zip vs) m x=_
  unfold bindL
  exact vm (i:=i) (Mh.mp nd).2 (by simpa using h1) (by simpa using h2) hk
def vg{kindOf:Str->Option NameKind}{x:Str}{v:Value}:∀{P:List Str}{vs:List Value}{i:Nat}{m:Str->Option Value},P.Nodup->P[i]?=some x->vs[i]?=some v->kindOf x≠some .local ->
  bindC kindOf (P.zip vs) m x=some v
 |[],_,_,_,_,h,_,_=>by simp at h
 |_::_,[],_,_,_,_,h,_=>by simp at h
 |p::P,w::vs,0,m,nd,h1,h2,hk=>by
  simp at h1 h2;subst h1;subst h2
  show bindC kindOf ((p,w)::P.zip vs) m p=_
  unfold bindC
  rw[vQ fun v hv=>(Mh.mp nd).1 (List.of_mem_zip hv).1,if_neg hk]
  simp
 |p::P,w::vs,i+1,m,nd,h1,h2,hk=>by
  show bindC kindOf ((p,w)::P.zip vs) m x=_
  unfold bindC
  exact vg (i:=i) (Mh.mp nd).2 (by simpa using h1) (by simpa using h2) hk
def start(N:List Str)(vs:List V):St:=vs.map some++List.replicate (N.length - vs.length) none
def pq(CX:CXT)(P:Program)(w:World)(K:PySem.W.Frag)(mg:Str->Option Value)(base:Heap)(N:List Str)(qual:Str)(scope:Scope)(f:Addr)(cd:Value)(A:Around)(outer:List Env)(s:Shared)(H:Hp)(E:XK):Cx where
 prog:=P
 w:=w
 K:=K
 mg:=mg
 base:=base
 A:=A.deeper (envOfC qual scope s.heap.objs.size f cd)
 N:=N
 s₀:=s
 H₀:=H
 env:=envOfC qual scope s.heap.objs.size f cd
 outer:=outer
 stack:=envOfC qual scope s.heap.objs.size f cd::outer
 ex:=[]
 calm:=true
 fn:=fun _=>true
 pn:=[]
 xe:=fun e s'=>wpAny (model P w) (A.deeper (envOfC qual scope s.heap.objs.size f cd)) (leaving (envOfC qual scope s.heap.objs.size f cd) e) (fun _ W2=>CX outer H s E e W2) (fun e' W2=>CX outer H s E e' W2) s'
def y8{sc:Scope}{n:Nat}{x:Str}(h:sc.names.lookup x=some .cell):∃c,(cellsFrom n sc.names []).lookup x=some c:=by
 have q:=PySem.W.cellsFrom_some sc.names n [] (.inl h)
 exact Option.isSome_iff_exists.mp q
def Di{CX:CXT}{P:Program}{w:World}{K:PySem.W.Frag}{mg:Str->Option Value}{base:Heap}{N ps:List Str}{qual:Str}{scope:Scope}{f:Addr}{cd:Value}{A:Around}{outer:List Env}{s s1:Shared}{H:Hp}{E:XK}{us:List Value}{vs:List V}
  (S:aE N ps scope) (hd:A.handled=none) (e0:Ae P w K mg base A outer s H) (hl:vs.length=ps.length) (r:Vals vs us)
  (x:InCallC s s.heap.objs.size (bindL (envOfC qual scope s.heap.objs.size f cd).kindOf (ps.zip us) fun _=>none) (cellsFrom (s.heap.objs.size+1) scope.names []) (bindC (envOfC qual scope s.heap.objs.size f cd).kindOf (ps.zip us) fun _=>none) s1) :
  Inv (pq CX P w K mg base N qual scope f cd A outer s H E) [] (start N vs) H s1:=by
 have Ri:ps.length<=N.length:=by have:=congrArg List.length S.pre;rw[M5] at this;omega
 obtain ⟨h1,tk,rfl,hk⟩:=x.done
 have U4:∀b:Addr,b∉(pq CX P w K mg base N qual scope f cd A outer s H E).ex:=fun b z=>absurd (show b∈([]:List Addr) from z) (by simp)
 refine⟨⟨e0.mod,S.kind,rfl,rfl,Mi _,fun y z c h1 h2=>?_,fun y hy=>?_,fun y c _ h=>?_,fun _=>hd,Around.frames_deeper e0.frames,.inr ⟨rfl,rfl⟩,fun b z=>absurd z (U4 b),e0.bs,e0.bsz,fun b _ _=>U4 b,fun b z=>absurd z (U4 b),e0.pB,e0.frf⟩,
  rfl,e0.bare,Un.kept hk,⟨_,x.toInCall.ns,fun i y v h1 h2 h3=>?_⟩,fun y c h=>⟨_,x.cell y c h⟩,e0.hok.fresh (Mi _),fun y c h=>?_,fun p hp=>absurd (show p∈([]:List (Addr × Obj)) from hp) (by simp),e0.hok.kept hk,?_⟩
 .exact name_of_addr x.apart (MJ h1) (MJ h2)
 .have hy:scope.names.lookup y=some .cell\/scope.names.lookup y=some .free:=hy
  rcases hy with hy|hy
  .exact y8 hy
  .exact absurd rfl (S.nofree _ (MJ hy))
 .exact Ol (x.above y c (MJ h))
 .have hi:i<vs.length:=by
   unfold start at h2
   by_cases hi:i<vs.length
   .exact hi
   .rw[MA (by simpa using hi)] at h2
    rw[MT] at h2
    split at h2<;>cases h2
  have ha:vs[i]?=some v:=by
   unfold start at h2
   rw[Mt (by simpa using hi),L9] at h2
   cases e:vs[i]? with
   |none=>rw[e] at h2;cases h2
   |some a=>rw[e] at h2;cases h2;rfl
  obtain ⟨u,hu,rv⟩:=r.get ha
  have hp:ps[i]?=some y:=by
   rw[<- S.pre,List.getElem?_take_of_lt (by omega)];exact h1
  have YT:ps.Nodup:=by rw[<- S.pre];exact S.nd.sublist (List.take_sublist _ _)
  refine⟨u,rv,?_⟩
  rcases S.par y (MN hp) with k|k
  .exact .inl ⟨k,vm YT hp hu k⟩
  .obtain ⟨c,e⟩:=y8 (n:=s.heap.objs.size+1) k
   refine .inr ⟨.inl k,c,e,?_⟩
   have q:=x.cell y c e
   rw[vg YT hp hu (by show scope.names.lookup y≠_;rw[k];decide)] at q
   exact q
 .exact e0.hok.fresh (Ol (x.above y c (MJ h)))
 .unfold start
  show _=N.length
  rw[Mx,ox,Mw]
  omega
def Gz{CX:CXT}{P:Program}{w:World}{K:PySem.W.Frag}{mg:Str->Option Value}{base:Heap}{k:Nat}{f:Addr}{name qual:Str}{Nc:Arguments}{Qh:List Stmt}{scope:Scope}{dV kV doc pm cdv ct oc:Value}{an od:Option Addr}
  {osl:Array (Option Value)}{N ps:List Str}{sp:Sp} (lk:K.lookup f=some ⟨oc,od,.func (PySem.W.fnOf name qual Nc Qh scope dV kV doc pm an cdv ct),osl⟩) (PJ:PySem.W.codeIn K cdv qual=true) (S:aE N ps scope)
  (len:∀vs H Q E,sp vs H Q E->vs.length=ps.length)
  (P4:∀(A:Around) (outer:List Env) (s:Shared) (H:Hp) (vs:List V) (Q:VK) (E:XK),hX k (A.deeper (envOfC qual scope s.heap.objs.size f cdv))->sp vs H Q E ->
   ∃t,PSs (pq CX P w K mg base N qual scope f cdv A outer s H E) Qh t/\t { nx:=fun _ H'=>Q .non H',rt:=Q } (start N vs) H) :
  aI P w K mg base CX (k+1) f (PySem.W.fnOf name qual Nc Qh scope dV kV doc pm an cdv ct) ps sp:=by
 refine⟨len,fun A outer s H args us vs Q E hr e0 hb r S6=>?_⟩
 have hl:=len _ _ _ _ S6
 have KX:K.In s.heap:=e0.mod.kin.keeps fun b o e=>(e0.bs b o e).1
 have lim:s.heap.NoLimit:=e0.mod.nolimit.keeps fun b o e=>(e0.bs b o e).1
 have Vs:∀y∈ps.zip us,scope.names.lookup y.1=some .local\/(scope.names.lookup y.1=some .cell/\((cellsFrom (s.heap.objs.size+1) scope.names []).lookup y.1).isSome=true):=fun ⟨n,v⟩ hy=>by
  rcases S.par n (List.of_mem_zip hy).1 with q|q
  .exact .inl q
  .exact .inr ⟨q,PySem.W.cellsFrom_some _ _ _ (.inl q)⟩
 refine codeAny_call_function hr.depth (KX _ _ lk) rfl S.co S.gen rfl (PySem.W.codeRec_of KX PJ) (hb _ _ _ _ ?_)
 refine wpAny_newFunctionEnv_cells S.kind Vs fun env he s1 x=>?_
 subst he
 refine⟨lim.keeps x.toInCall.keep,codeAny_func ?_⟩
 obtain ⟨t,ht,hq⟩:=P4 A outer s H vs Q E (hr.deeper _) S6
 have I:Inv (pq CX P w K mg base N qual scope f cdv A outer s H E) [] (start N vs) H s1:=Di S hr.hd e0 hl r x
 refine wpAny_mono (ht [] s1 (start N vs) H _ I hq) (fun fl s' hs=>?_) fun e s' hs=>hs
 have Pz:∀{σ':St}{H':Hp}{v:V}{u:Value},Inv (pq CX P w K mg base N qual scope f cdv A outer s H E) [] σ' H' s'->RelV v u->Q v H'->CE outer P w H s Q u s' :=
  fun {σ' H' v u} J rv q=>⟨v,H',J.os,J.bare,J.base,J.hok,rv,q⟩
 cases fl with
 |ret u =>
  obtain ⟨v,σ',H',J,rv,q⟩:=hs
  exact Pz J rv q
 |next =>
  obtain ⟨σ',H',J,q⟩:=hs
  exact Pz (v:=V.non) (u:=Value.none) J rfl q
 |brk =>
  obtain ⟨_,_,_,q⟩:=hs
  exact False.elim q
 |cont =>
  obtain ⟨_,_,_,q⟩:=hs
  exact False.elim q
end L2
namespace L2
open PySem PySem.Spec PyProof.Rows
section
variable {X:Cx}{x:Str}{p MH:Pos}{e:Expr}{es:List Expr}{t:TA}{id T:String}{r:List V->Hp->VK->Prop}
def tCB(r:List V->Hp->VK->Prop)(t:TA):TE:=fun σ H Q=>t σ H fun vs H1=>r vs H1 Q
def ax(hc:iZ X (.builtin id) r)(hg:Gl X x)(hm:X.mg x=none)(hv:bootBuiltins x=some (.builtin id))(ha:PA X (e::es) t)(hn:x≠"__name__":=by decide)(Tn:(x == ("__debug__" : Str))=false:=by decide)
  (he:starEach (e::es) X.env=(false,eval e X.env)::starEach es X.env:=by rfl) (Ri:(backTo MH (starEach es X.env)).any (·.1)=false:=by rfl):PE X (.Call (.Name x p) (e::es) [] MH) (tCB r t):=by
 intro pins s σ H Q I h
 refine wpAny_Call_Name_kw (kF I hg hm hv ?_ hn Tn)
 exact PyProof.Rows.callWith_builtin1 (thn (ha MH pins s σ H _ I h) fun us s1 ⟨vs,H1,I1,r1,q1⟩=>hc pins s1 σ H1 vs us Q I1 r1 q1) he Ri
def gf(hc:iZ X (.type T) r)(hg:Gl X x)(hm:X.mg x=none)(hv:bootBuiltins x=some (.type T))(ha:PA X (e::es) t)(hn:x≠"__name__":=by decide)(Tn:(x == ("__debug__" : Str))=false:=by decide)
  (he:starEach (e::es) X.env=(false,eval e X.env)::starEach es X.env:=by rfl) (Ri:(backTo MH (starEach es X.env)).any (·.1)=false:=by rfl):PE X (.Call (.Name x p) (e::es) [] MH) (tCB r t):=by
 intro pins s σ H Q I h
 refine wpAny_Call_Name_kw (kF I hg hm hv ?_ hn Tn)
 exact Nn (thn (ha MH pins s σ H _ I h) fun us s1 ⟨vs,H1,I1,r1,q1⟩=>hc pins s1 σ H1 vs us Q I1 r1 q1) he Ri
end
end L2
namespace HT
open PySem PyProof.Rows
section
open PySem.SeqAt
open PySem.AutoSeq1 (wpAny_loadPart')
open PySem.MeetsSeq PySem.MeetsSeq2 PySem.MeetsSeq3
end
section
def sIx(n d:Nat):Option Int->Nat
 |none=>d
 |some v=>if v<0 then (v+(n:Int)).toNat else min v.toNat n
def mL(n d:Nat):sIx n d none=d:=rfl
def oB(n d k:Nat):sIx n d (some (k:Int))=min k n:=by
 show (if (k:Int)<0 then ((k:Int)+(n:Int)).toNat else min (k:Int).toNat n)=min k n
 rw[if_neg (by omega),Mg]
end
end HT
namespace L2
open PySem PySem.Spec PyProof.Rows
abbrev TO:=St->Hp->(Option Int->Hp->Prop)->Prop
def PO(X:Cx)(e:Option Expr)(t:TO):Prop :=
 ∀(pins:List (Addr × Obj)) (s:Shared) (σ:St) (H:Hp) (Q:Option Int->Hp->Prop),Inv X pins σ H s->t σ H Q ->
  wpAny (model X.prog X.w) X.A (evalPart e X.env) (fun u s'=>∃o H',Inv X pins σ H' s'/\IsPart u o/\Q o H') X.xe s
def CB:TO:=fun _ H Q=>Q none H
def IU(t:TE):TO:=fun σ H Q=>t σ H fun x H1=>∃i,x=.int i/\Q (some i) H1
section
variable {X:Cx}{e:Expr}{te:TE}{lo hi:Option Expr}{tl th:TO}{MH p2:Pos}
def lp:PO X none CB:=by
 intro pins s σ H Q I h
 rw[evalPart_none]
 exact wpAny_pure ⟨none,H,I,.none,h⟩
def ll(h:PE X e te):PO X (some e) (IU te):=by
 intro pins s σ H Q I hw
 rw[evalPart_some]
 refine thn (h pins s σ H _ I hw) fun u s1 ⟨x,H1,I1,r1,q1⟩=>?_
 obtain ⟨i,rfl,q⟩:=q1
 obtain ⟨t,rfl⟩:=r1
 exact⟨some i,H1,I1,.int i t,q⟩
def SlR(X:Cx)(r:V->Option Int->Option Int->Hp->VK->Prop):Prop :=
 ∀(pins:List (Addr × Obj)) (s:Shared) (σ:St) (H:Hp) (x:V) (v vl vu:Value) (lo hi:Option Int) (sl:Addr) (Q:VK),Inv X pins σ H s->RelV x v->s.heap.IsSliceOf sl vl vu .none->IsPart vl lo->IsPart vu hi->r x lo hi H Q ->
  ∃T id,typeLookup (.type T) "__getitem__" = pure (some (.builtin id))/\s.TypeIs v T/\wpAny (model X.prog X.w) X.A (getItem v (.ref sl)) (EP X pins σ Q) X.xe s
def tSl(r:V->Option Int->Option Int->Hp->VK->Prop)(te:TE)(tl th:TO):TE:=fun σ H Q=>te σ H fun x H1=>tl σ H1 fun l H2=>th σ H2 fun u H3=>r x l u H3 Q
def jU{r:V->Option Int->Option Int->Hp->VK->Prop}(hr:SlR X r)(he:PE X e te)(hl:PO X lo tl)(hu:PO X hi th):PE X (.Subscript e (.Slice lo hi none p2) MH) (tSl r te tl th):=by
 intro pins s σ H Q I h
 refine Subscript_ (thn (he pins s σ H _ I h) fun v s1 ⟨x,H1,I1,r1,q1⟩=>?_)
 refine wpAny_Slice (thn (hl pins s1 σ H1 _ I1 q1) fun vl s2 ⟨l,H2,I2,pl,q2⟩=>thn (hu pins s2 σ H2 _ I2 q2) fun vu s3 ⟨u,H3,I3,pu,q3⟩=>?_)
 rw[evalPart_none]
 refine wpAny_pure ?_
 have I4:Inv X pins σ H3 { s3 with heap:=s3.heap.push { cls:=.type "slice",data:=.fields #[vl,vu,.none] } }:=I3.kept (t':=s3.toks) fun b ob q=>Heap.get?_push_of_some _ q
 obtain ⟨T,id,hT,ht,hg⟩:=hr pins { s3 with heap:=s3.heap.push { cls:=.type "slice",data:=.fields #[vl,vu,.none] } } σ H3 x v vl vu l u s3.heap.objs.size Q I4 r1 (Heap.IsSliceOf.new ..) pl pu q3
 show wpAny (model X.prog X.w) X.A (subscriptTail e (.Slice lo hi none p2) v (.ref s3.heap.objs.size)) (EP X pins σ Q) X.xe { s3 with heap:=s3.heap.push { cls:=.type "slice",data:=.fields #[vl,vu,.none] } }
 exact tail_any (ops:=[.ref s3.heap.objs.size,v]) ht hT hg (by with_unfolding_all rfl)
def C3(xs:List V)(lo hi:Option Int):List V:=(xs.drop (HT.sIx xs.length 0 lo)).take (HT.sIx xs.length xs.length hi - HT.sIx xs.length 0 lo)
def zu(xs:List V)(lo hi:Option Int):(C3 xs lo hi).length<=xs.length:=by
 unfold C3
 rw[M5,Nl]
 omega
end
end L2
namespace L2
open PySem PySem.Spec PyProof.Rows
def ixN(n:Nat)(i:Int):Option Nat:=if 0<=i then (if i<n then some i.toNat else none) else if -(n:Int)<=i then some (i+n).toNat else none
def atI{α:Type}(xs:List α)(i:Int):Option α:=(ixN xs.length i).bind fun j=>xs[j]?
def Bb{n:Nat}{i:Int}{j:Nat}(h:ixN n i=some j):seqIndex? i n=some j/\j<n/\-(n:Int)<=i/\i<n:=by
 unfold ixN at h
 by_cases h0:0<=i
 .rw[if_pos h0] at h
  by_cases h1:i<n
  .rw[if_pos h1] at h
   have e:i.toNat=j:=MB h
   exact⟨by rw[seqIndex_of h0 h1,e],by omega,by omega,h1⟩
  .rw[if_neg h1] at h;cases h
 .rw[if_neg h0] at h
  by_cases h1 : -(n:Int)<=i
  .rw[if_pos h1] at h
   have e:(i+n).toNat=j:=MB h
   exact⟨by rw[seqIndex_neg (by omega) h1,e],by omega,h1,by omega⟩
  .rw[if_neg h1] at h;cases h
def Cf{α:Type}{xs:List α}{i:Int}{v:α}(h:atI xs i=some v):∃j,seqIndex? i xs.length=some j/\xs[j]?=some v/\j<xs.length/\-(xs.length:Int)<=i/\i<xs.length:=by
 unfold atI at h
 cases e:ixN xs.length i with
 |none=>rw[e] at h;cases h
 |some j =>
  rw[e] at h
  obtain ⟨h1,h2,h3,h4⟩:=Bb e
  exact⟨j,h1,h,h2,h3,h4⟩
def Hs(b:Expr):Prop:=∀o i,subscripted b false o i=operate [o,i] (getItem o i)
def IxR(X:Cx)(r:R2):Prop :=
 ∀(N4 slice:Expr) (pins:List (Addr × Obj)) (s:Shared) (σ:St) (H:Hp) (x y:V) (v u:Value) (Q:VK),Inv X pins σ H s->RelV x v->RelV y u->r x y H Q ->
  subscripted slice false v u=operate [v,u] (getItem v u)->wpAny (model X.prog X.w) X.A (subscriptTail N4 slice v u) (EP X pins σ Q) X.xe s
def MtR(X:Cx)(id:String)(r:V->List V->Hp->VK->Prop):Prop :=
 ∀(pins:List (Addr × Obj)) (s:Shared) (σ:St) (H:Hp) (x:V) (xs:List V) (v:Value) (us:List Value) (Q:VK),Inv X pins σ H s->RelV x v->Vals xs us->r x xs H Q ->
  wpAny (model X.prog X.w) X.A (call (.builtin id) (v::us)) (EP X pins σ Q) X.xe s
section
variable {X:Cx}{a b:Expr}{ta tb:TE}{MH:Pos}
def aP{r:R2}(hr:IxR X r)(ha:PE X a ta)(hb:PE X b tb)(hs:Hs b):PE X (.Subscript a b MH) (tOp r ta tb):=by
 intro pins s σ H Q I h
 exact Subscript_ (KG ha hb I h fun v u s2 x y H2 I2 rx ry q=>hr a b pins s2 σ H2 x y v u Q I2 rx ry q (hs _ _))
def CU(K:PySem.W.Frag):R2:=fun x y H Q=>∃p xs i v,x=.ref p/\y=.int i/\SqL K H p xs/\atI xs i=some v/\Q v H
def yM(K:PySem.W.Frag):R2:=fun x y H Q=>∃p xs i v,x=.ref p/\y=.int i/\SqT K H p xs/\atI xs i=some v/\Q v H
def Hm:IxR X (CU X.K):=by
 intro N4 slice pins s σ H x y v u Q I rx ry h hs
 obtain ⟨p,xs,i,z,rfl,rfl,hq,he,q⟩:=h
 cases rx
 obtain ⟨t,rfl⟩:=ry
 obtain ⟨ML,r,pl,hz⟩:=I.list hq
 obtain ⟨j,h1,h2,h3,h4,h5⟩:=Cf he
 obtain ⟨w,ew,QK⟩:=r.get h2
 have hl:=r.length
 have hn:=wb
 have Pz:EP X pins σ Q w s:=⟨z,H,I,QK,q⟩
 by_cases h0:0<=i
 .have hj:i.toNat=j:=by
   rw[seqIndex_of h0 h5] at h1
   exact MB h1
  exact item_listR pl.isList h0 (by omega) (by rw[hj];simpa using ew) Pz hs
 .have hj:(i+(ML.toArray.size:Int)).toNat=j:=by
   rw[seqIndex_neg (by omega) h4] at h1
   rw[Mz,<- hl]
   exact MB h1
  exact subscriptTail_builtinR (x:=w) pl.isList.typeIs slot_list_getitem.lookup
   (wpAny_getItem_list_neg (Q:=fun r s'=>r=w/\EP X pins σ Q r s') pl.isList (by omega) (by rw[Mz]<;>omega) (by omega) (by rw[hj];simpa using ew) ⟨rfl,Pz⟩) hs
def Kn:IxR X (yM X.K):=by
 intro N4 slice pins s σ H x y v u Q I rx ry h hs
 obtain ⟨p,xs,i,z,rfl,rfl,hq,he,q⟩:=h
 cases rx
 obtain ⟨t,rfl⟩:=ry
 obtain ⟨ML,r,pl,hz⟩:=I.tuple hq
 obtain ⟨j,h1,h2,h3,h4,h5⟩:=Cf he
 obtain ⟨w,ew,QK⟩:=r.get h2
 have hl:=r.length
 have hn:=wb
 have Pz:EP X pins σ Q w s:=⟨z,H,I,QK,q⟩
 exact subscriptTail_builtinR (x:=w) pl.typeIs slot_tuple_getitem.lookup
  (getItem_tuple (j:=j) (Q:=fun r s'=>r=w/\EP X pins σ Q r s') pl (by omega) (by omega) (by rw[Mz,<- hl];exact h1) (by simpa using ew) ⟨rfl,Pz⟩) hs
def Af(ML:List Value)(n j:Nat)(u:Value):Obj.mapSeq (·.setIfInBounds j u) { cls:=.type "list",data:=.seq ML.toArray n }={ cls:=.type "list",data:=.seq (ML.set j u).toArray n }:=by
 simp [Obj.mapSeq]
def Inv.lst{pins:List (Addr × Obj)}{σ:St}{H:Hp}{s:Shared}{p:Addr}{xs:List V}(I:Inv X pins σ H s)(h:H p=some (.lst xs)) :
  ∃(ML:List Value) (n:Nat),Vals xs ML/\s.heap.get? p=some { cls:=.type "list",data:=.seq ML.toArray n }/\xs.length<=sizeLine:=by
 obtain ⟨z,ML,n,r,e⟩:=I.hok p _ h
 exact⟨ML,n,r,e,z⟩
def Inv.Ju{pins:List (Addr × Obj)}{σ:St}{H:Hp}{s:Shared}{p:Addr}{xs ys:List V}{ML its':List Value}{n n':Nat}{f:Obj->Obj}(I:Inv X pins σ H s)(h:H p=some (.lst xs))
  (ho:s.heap.get? p=some { cls:=.type "list",data:=.seq ML.toArray n }) (hf:f { cls:=.type "list",data:=.seq ML.toArray n }={ cls:=.type "list",data:=.seq its'.toArray n' }) (r:Vals ys its') (hz:ys.length<=sizeLine) (t:Nat) :
  Inv X pins σ (upd H p (.lst ys)) { s with heap:=s.heap.update p f,toks:=t }:=by
 have e:(s.heap.update p f).get? p=some { cls:=.type "list",data:=.seq its'.toArray n' }:=by
  rw[Heap.get?_update_self f ho (by rw[hf]<;>rfl),hf]
 refine I.write (x:=p) (e:=p) (by rw[h];trivial) (.inl rfl) (fun b u hb q=>(Heap.get?_update_other _ _ (M0 hb)).trans q) ⟨_,e⟩ ?_
 exact⟨hz,its',n',r,e⟩
def vt:V->V->V->Hp->(Hp->Prop)->Prop:=fun o i v H Q=>∃p xs k j,o=.ref p/\i=.int k/\H p=some (.lst xs)/\ixN xs.length k=some j/\Q (upd H p (.lst (xs.set j v)))
def set_list:Jp X vt:=by
 intro pins s σ H o i v ov iv u Q I ro ri rv h
 obtain ⟨p,xs,k,j,rfl,rfl,hp,hj,q⟩:=h
 cases ro
 obtain ⟨t,rfl⟩:=ri
 obtain ⟨ML,n,r,ho,hz⟩:=I.lst hp
 obtain ⟨h1,h2,h3,h4⟩:=Bb hj
 have hl:=r.length
 have hn:=wb
 have I':Inv X pins σ (upd H p (.lst (xs.set j v))) { s with heap:=s.heap.update p (Obj.mapSeq (·.setIfInBounds j u)) } :=
  I.Ju hp ho (Af ML n j u) (r.set rv j) (by rw[MQ];exact hz) s.toks
 by_cases h0:0<=k
 .have hk:k.toNat=j:=by
   rw[seqIndex_of h0 h4] at h1
   exact MB h1
  exact PySem.W.ki_setAt ho h0 (by omega) (by rw[Mz,<- hl];exact h4) (by rw[hk];exact⟨_,I',q⟩)
 .have hk:(k+(ML.toArray.size:Int)).toNat=j:=by
   rw[seqIndex_neg (by omega) h3] at h1
   rw[Mz,<- hl]
   exact MB h1
  exact PySem.W.ki_setBack ho (by omega) (by rw[Mz,<- hl];exact h3) (by omega) (by rw[hk];exact⟨_,I',q⟩)
def wF(lo hi:Option Int)(n:Nat):(sliceBounds lo hi none n).1=((HT.sIx n 0 lo:Nat):Int)/\(sliceBounds lo hi none n).2.1=((HT.sIx n n hi:Nat):Int)/\(sliceBounds lo hi none n).2.2=1:=by
 refine⟨?_,?_,rfl⟩
 .cases lo with
  |none=>simp [sliceBounds,HT.sIx]
  |some i =>
   simp only[sliceBounds,HT.sIx,Option.getD_none,show (1:Int)>0 by decide,if_true]
   by_cases h:i<0
   .simp only[h,if_true]<;>omega
   .simp only[h,if_false]<;>omega
 .cases hi with
  |none=>simp [sliceBounds,HT.sIx]
  |some i =>
   simp only[sliceBounds,HT.sIx,Option.getD_none,show (1:Int)>0 by decide,if_true]
   by_cases h:i<0
   .simp only[h,if_true]<;>omega
   .simp only[h,if_false]<;>omega
def uy(ML:List Value)(lo hi:Option Int):slicePick ML.toArray lo hi none=((ML.drop (HT.sIx ML.length 0 lo)).take (HT.sIx ML.length ML.length hi - HT.sIx ML.length 0 lo)).toArray:=by
 obtain ⟨h1,h2,h3⟩:=wF lo hi ML.toArray.size
 unfold slicePick
 rw[h1,h2,h3]
 simp only[sliceRange_one,pick_run,Mz]<;>rfl
def J2(K:PySem.W.Frag):V->Option Int->Option Int->Hp->VK->Prop:=fun x lo hi H Q=>∃a xs,x=.ref a/\SqL K H a xs/\∀p,H p=none->Q (.ref p) (upd H p (.lst (C3 xs lo hi)))
def IA:SlR X (J2 X.K):=by
 intro pins s σ H x v vl vu lo hi sl Q I rx hs pl pu h
 obtain ⟨a,xs,rfl,hx,q⟩:=h
 cases rx
 obtain ⟨ML,r,ht,hz⟩:=I.list hx
 have OE:=r.length
 refine⟨"list",_,slot_list_getitem.lookup,ht.isList.typeIs,?_⟩
 refine wpAny_getItem_list_slice ht.isList hs pl pu .none (by simp) ?_ (by rw[Mz]<;>omega)
 rw[uy,<- OE]
 refine⟨.ref s.heap.objs.size,_,I.laid (t':=s.toks) (o:=.lst (C3 xs lo hi)) (fun b ob q=>Heap.get?_push_of_some _ q) (Mi _) ?_,rfl,q _ (I.hok.fresh (Mi _))⟩
 exact⟨Mq (zu xs lo hi) hz,_,0,(r.drop (HT.sIx xs.length 0 lo)).take (HT.sIx xs.length xs.length hi - HT.sIx xs.length 0 lo),Heap.get?_push_size _ rfl⟩
def ix:V->Bool
 |.non=>true
 |.bl _=>true
 |.int _=>true
 |.str _=>true
 |_=>false
def eqV:V->V->Bool
 |.non,.non=>true
 |.bl a,.bl b=>a == b
 |.bl a,.int b=>(if a then 1 else 0) == b
 |.int a,.bl b=>a == (if b then 1 else 0)
 |.int a,.int b=>a == b
 |.str a,.str b=>a == b
 |_,_=>false
def Ky{A:Around}{s:Shared}{y x:V}{u v:Value}(ry:RelV y u)(rx:RelV x v)(fy:ix y=true)(fx:ix x=true):SeqAt.EqAt A s u v (eqV y x):=by
 cases y with
 |non =>
  cases ry
  cases x with
  |non=>cases rx;exact SeqAt.EqAt.same _
  |bl b=>cases rx;exact SeqAt.EqAt.none_bool b
  |int b=>obtain ⟨t,rfl⟩:=rx;exact SeqAt.EqAt.none_int b t
  |str b=>obtain ⟨t,rfl⟩:=rx;exact SeqAt.EqAt.none_str b t
  |_=>exact absurd (show false=true from fx) Mv
 |bl a =>
  cases ry
  cases x with
  |non=>cases rx;exact SeqAt.EqAt.bool_none a
  |bl b=>cases rx;exact SeqAt.EqAt.bool_bool a b
  |int b=>obtain ⟨t,rfl⟩:=rx;exact SeqAt.EqAt.bool_int a b t
  |str b=>obtain ⟨t,rfl⟩:=rx;exact SeqAt.EqAt.bool_str a b t
  |_=>exact absurd (show false=true from fx) Mv
 |int a =>
  obtain ⟨t',rfl⟩:=ry
  cases x with
  |non=>cases rx;exact SeqAt.EqAt.int_none a t'
  |bl b=>cases rx;exact SeqAt.EqAt.int_bool a t' b
  |int b=>obtain ⟨t,rfl⟩:=rx;exact SeqAt.EqAt.int_int a t' b t
  |str b=>obtain ⟨t,rfl⟩:=rx;exact SeqAt.EqAt.int_str a t' b t
  |_=>exact absurd (show false=true from fx) Mv
 |str a =>
  obtain ⟨t',rfl⟩:=ry
  cases x with
  |non=>cases rx;exact SeqAt.EqAt.str_none a t'
  |bl b=>cases rx;exact SeqAt.EqAt.str_bool a t' b
  |int b=>obtain ⟨t,rfl⟩:=rx;exact SeqAt.EqAt.str_int a t' b t
  |str b=>obtain ⟨t,rfl⟩:=rx;exact SeqAt.EqAt.str_str a t' b t
  |_=>exact absurd (show false=true from fx) Mv
 |_=>exact absurd (show false=true from fy) Mv
def eqU(x:V)(u:Value):Bool:=match u with
 |.none=>eqV .non x
 |.bool b=>eqV (.bl b) x
 |.int i _=>eqV (.int i) x
 |.str z _=>eqV (.str z) x
 |_=>false
def zX{x y:V}{u:Value}(r:RelV y u)(f:ix y=true):eqU x u=eqV y x:=by
 cases y with
 |non=>cases r;rfl
 |bl b=>cases r;rfl
 |int i=>obtain ⟨t,rfl⟩:=r;rfl
 |str z=>obtain ⟨t,rfl⟩:=r;rfl
 |_=>exact absurd (show false=true from f) Mv
def wc{x:V}:∀{xs:List V}{us:List Value},Vals xs us->xs.all ix=true->us.any (eqU x)=xs.any fun y=>eqV y x
 |_,_,.nil,_=>rfl
 |y::xs,u::us,.cons r t,f=>by
  rw[List.all_cons,Nb] at f
  rw[List.any_cons,List.any_cons,zX r f.1,wc t f.2]
def o8{A:Around}{s:Shared}{x:V}{v:Value}(rx:RelV x v)(fx:ix x=true):∀{xs:List V}{us:List Value},Vals xs us->xs.all ix=true->∀u∈us,SeqAt.EqAt A s u v (eqU x u)
 |_,_,.nil,_=>fun u hu=>by cases hu
 |y::xs,u::us,.cons r t,f=>fun u' hu=>by
  rw[List.all_cons,Nb] at f
  rcases L8.mp hu with rfl|hu
  .rw[zX r f.1];exact Ky r rx f.1 fx
  .exact o8 rx fx t f.2 u' hu
def inV(x:V)(xs:List V):Bool:=xs.any fun y=>eqV y x
def rIn(K:PySem.W.Frag)(OK:Bool):R2:=fun x y H Q=>∃p xs,y=.ref p/\(SqL K H p xs\/SqT K H p xs)/\ix x=true/\xs.all ix=true/\Q (.bl (if OK then !inV x xs else inV x xs)) H
def CD:OpR X (compareOp .In) (rIn X.K false):=by
 intro pins s σ H x y v u Q I rx ry h
 obtain ⟨p,xs,rfl,hq,fx,fs,q⟩:=h
 cases ry
 rcases hq with hq|hq
 .obtain ⟨ML,r,pl,hz⟩:=I.list hq
  refine SeqAt.in_listAt (eqU x) pl.isList (fun w hw=>o8 rx fx r fs w (by simpa using hw)) ⟨.bl _,H,I,rfl,?_⟩
  rw[show ML.toArray.any (eqU x)=ML.any (eqU x) by simp,wc r fs]
  exact q
 .obtain ⟨ML,r,pl,hz⟩:=I.tuple hq
  refine SeqAt.in_tupleAt (eqU x) pl (fun w hw=>o8 rx fx r fs w (by simpa using hw)) ⟨.bl _,H,I,rfl,?_⟩
  rw[show ML.toArray.any (eqU x)=ML.any (eqU x) by simp,wc r fs]
  exact q
def wD:iZ X (.builtin "len") (fun xs H Q=>∃p ys,xs=[.ref p]/\(SqL X.K H p ys\/SqT X.K H p ys)/\Q (.int ys.length) H):=by
 intro pins s σ H xs us Q I r h
 obtain ⟨p,ys,rfl,hq,q⟩:=h
 obtain ⟨u,rfl,rx⟩:=vals1 r
 cases rx
 have hn:=wb
 rcases hq with hq|hq
 .obtain ⟨ML,r',pl,hz⟩:=I.list hq
  have OE:=r'.length
  exact Calls.call_len_list pl.isList (by simp only[Mz]<;>omega) ⟨.int ys.length,H,I.tok _,⟨s.toks+1,by rw[Mz,OE]⟩,q⟩
 .obtain ⟨ML,r',pl,hz⟩:=I.tuple hq
  have OE:=r'.length
  exact len_tuple pl (by simp only[Mz]<;>omega) ⟨.int ys.length,H,I.tok _,⟨s.toks+1,by rw[Mz,OE]⟩,q⟩
def xE:iZ X (.type "list") (fun xs H Q=>∃p ys,xs=[.ref p]/\(SqL X.K H p ys\/SqT X.K H p ys)/\∀l,H l=none->Q (.ref l) (upd H l (.lst ys))):=by
 intro pins s σ H xs us Q I r h
 obtain ⟨p,ys,rfl,hq,q⟩:=h
 obtain ⟨u,rfl,rx⟩:=vals1 r
 cases rx
 have Pz:∀(ML:List Value),Vals ys ML->ys.length<=sizeLine->∀(h':Heap) (c':Nat),(∀b o',s.heap.get? b=some o'->h'.get? b=some o') ->
   h'.get? s.heap.objs.size=some { cls:=.type "list",dict:=none,data:=.seq ML.toArray c',slots:=#[] }->EP X pins σ Q (.ref s.heap.objs.size) { s with heap:=h' }:=fun ML r' hz h' c' kp e =>
  ⟨.ref s.heap.objs.size,_,I.laid (t':=s.toks) kp (Mi _) (show cB X.prog X.w _ h' _ (.lst ys) from ⟨hz,ML,c',r',e⟩),rfl,q _ (I.hok.fresh (Mi _))⟩
 rcases hq with hq|hq
 .obtain ⟨ML,r',pl,hz⟩:=I.list hq
  have OE:=r'.length
  obtain ⟨o,ho,hc,n,hd⟩:=pl.isList
  exact call_list_seq p (.inl rfl) ho hc hd (fun h' c' kp e=>Pz ML r' hz h' c' kp e) (by simp only[Mz]<;>omega)
 .obtain ⟨ML,r',pl,hz⟩:=I.tuple hq
  have OE:=r'.length
  obtain ⟨o,ho,hc,n,hd⟩:=pl
  exact call_list_seq p (.inr rfl) ho hc hd (fun h' c' kp e=>Pz ML r' hz h' c' kp e) (by simp only[Mz]<;>omega)
def uq:iZ X (.type "tuple") (fun xs H Q=>∃p ys,xs=[.ref p]/\((SqL X.K H p ys/\∀l,H l=none->Q (.ref l) (upd H l (.tup ys)))\/(SqT X.K H p ys/\Q (.ref p) H))):=by
 intro pins s σ H xs us Q I r h
 obtain ⟨p,ys,rfl,h⟩:=h
 obtain ⟨u,rfl,rx⟩:=vals1 r
 cases rx
 rcases h with ⟨hq,q⟩|⟨hq,q⟩
 .obtain ⟨ML,r',pl,hz⟩:=I.list hq
  have OE:=r'.length
  refine call_tuple_list pl.isList (fun h' kp=>?_) (by simp only[Mz]<;>omega)
  have I1:Inv X pins σ H { s with heap:=h' }:=I.kept (t':=s.toks) kp
  have I2:Inv X pins σ (upd H h'.objs.size (.tup ys)) { s with heap:=h'.push { cls:=.type "tuple",data:=.seq ML.toArray } } :=
   I1.laid (t':=s.toks) (fun b o e=>Heap.get?_push_of_some _ e) (Mi _) (show cB X.prog X.w _ _ _ (.tup ys) from ⟨hz,ML,r',IsTup.new _ _⟩)
  exact⟨.ref h'.objs.size,_,I2,rfl,q _ (I1.hok.fresh (Mi _))⟩
 .obtain ⟨ML,r',pl,hz⟩:=I.tuple hq
  exact call_tuple_same pl ⟨.ref p,H,I,rfl,q⟩
def tyV(K:PySem.W.Frag)(T:String)(x:V)(H:Hp):Prop:=match x with
 |.str _=>T = "str"
 |.int _=>T = "int"
 |.ref p=>(T = "list"/\∃xs,SqL K H p xs)\/(T = "tuple"/\∃o,K.lookup p=some o/\o.cls=.type "tuple"/\o.dict=none) \/
   (T = "dict"/\((∃kvs,H p=some (.dK kvs))\/∃kvs,H p=some (.dT kvs)))\/(T = "set"/\∃S n,H p=some (.set S n))
 |_=>False
def JF{pins:List (Addr × Obj)}{σ:St}{H:Hp}{s:Shared}{T:String}{x:V}{v:Value}(I:Inv X pins σ H s)(r:RelV x v)(ty:tyV X.K T x H) :
  s.TypeIs v T/\∀a,v=.ref a->∃ob,s.heap.get? a=some ob/\ob.dict=none:=by
 cases x with
 |str z =>
  obtain ⟨t,rfl⟩:=r
  cases (show T = "str" from ty)
  exact⟨typeIs_str s z t,fun _ e=>nomatch e⟩
 |int i =>
  obtain ⟨t,rfl⟩:=r
  cases (show T = "int" from ty)
  exact⟨typeIs_int s i t,fun _ e=>nomatch e⟩
 |ref p =>
  cases r
  rcases ty with ⟨rfl,xs,hq⟩|⟨rfl,o,hk,hc,hd⟩|⟨rfl,hk⟩|⟨rfl,S,n,hk⟩
  .obtain ⟨ML,_,pl,_⟩:=I.list hq
   refine⟨pl.isList.typeIs,fun a e=>?_⟩
   cases e
   obtain ⟨o,n,e,c,hd,_⟩:=pl
   exact⟨o,e,hd⟩
  .refine⟨⟨o,I.kIn p o hk,hc⟩,fun a e=>?_⟩
   cases e
   exact⟨o,I.kIn _ o hk,hd⟩
  .have z:∃o,s.heap.get? p=some o/\o.ExactDict:=by
    rcases hk with ⟨kvs,hk⟩|⟨kvs,hk⟩
    .obtain ⟨_,_,_,_,o,_,_,e,ex,_⟩:=I.hok p _ hk
     exact⟨o,e,ex⟩
    .obtain ⟨_,_,_,_,o,_,_,e,ex,_⟩:=I.hok p _ hk
     exact⟨o,e,ex⟩
   obtain ⟨o,e,ex⟩:=z
   refine⟨⟨o,e,ex.1⟩,fun a e2=>?_⟩
   cases e2
   exact⟨o,e,ex.2.1⟩
  .obtain ⟨o,_,_,_,e,ex,_⟩:=I.hok p _ hk
   refine⟨⟨o,e,ex.1⟩,fun a e2=>?_⟩
   cases e2
   exact⟨o,e,ex.2.1⟩
 |_=>exact False.elim ty
def tBM(K:PySem.W.Frag)(T:String)(r:V->List V->Hp->VK->Prop)(to:TE)(t:TA):TE:=fun σ H Q=>to σ H fun x H1=>tyV K T x H1/\t σ H1 fun xs H2=>r x xs H2 Q
variable {o e:Expr}{es:List Expr}{to:TE}{t:TA}{name:Str}{Qy PR:Pos}{T id:String}{r:V->List V->Hp->VK->Prop}
def rS(pa:PlainAttrs T)(slot:Slot T name id)(hty:typeOf (.builtin id)=pure (.type "method_descriptor"))(hm:MtR X id r)(ho:PE X o to)(ha:PA X (e::es) t)
  (VD:attributeBase o name X.env (eval o X.env)=eval o X.env:=by rfl)
  (X0:((backTo PR (starEach (e::es) X.env)).all (fun x=>!x.1) && (backToKw PR (keywordEach [] X.env)).all (fun x=>x.1.isSome)
   && decide ((e::es).length+([]:List Keyword).length+(if ([]:List Keyword).isEmpty then 0 else 1)<30))=true:=by rfl)
  (Vr:(Qy.endLine == PR.line)=true:=by rfl) (hs:starEach (e::es) X.env=(false,eval e X.env)::starEach es X.env:=by rfl) (P2:(backTo PR (starEach es X.env)).any (·.1)=false:=by rfl) :
  PE X (.Call (.Attribute o name Qy) (e::es) [] PR) (tBM X.K T r to t):=by
 intro pins s σ H Q I h
 refine wpAny_Call_method_late VD X0 Vr rfl (thn (ho pins s σ H _ I h) fun v s1 ⟨x,H1,I1,r1,ty,q1⟩=>?_)
 obtain ⟨h1,h2⟩:=JF I1 r1 ty
 refine⟨T,id,pa,slot,hty,h1,h2,?_⟩
 have hA:=ha PR pins s1 σ H1 _ I1 q1
 rw[hs] at hA ⊢
 refine Calls.callWith_builtin (by show (false || (backTo PR (starEach es X.env)).any (·.1))=false;rw[P2]<;>rfl) (Calls.evalArgs_plain ?_)
 exact thn hA fun us s2 ⟨vs,H2,I2,r2,q2⟩=>hm pins s2 σ H2 x vs v us Q I2 r1 r2 q2
/- xs.append(e),list.index on a module's tuple .. are MtR facts of 06m -/
end
end L2
namespace L2
open PySem PySem.Spec PyProof.Rows
def MtM(X:Cx)(id:String)(r:V->List V->Hp->VK->Prop):Prop :=
 ∀(pins:List (Addr × Obj)) (s:Shared) (σ:St) (H:Hp) (x:V) (xs:List V) (v:Value) (us:List Value) (Q:VK),Inv X pins σ H s->RelV x v->Vals xs us->r x xs H Q ->
  wpAny (model X.prog X.w) X.A (call (.builtin id) (v::us)) (EP X pins σ Q) X.xe s
def Vals.one:∀{x:V}{us:List Value},Vals [x] us->∃u,us=[u]/\RelV x u
 |_,_,.cons r .nil=>⟨_,rfl,r⟩
def Vals.rep{xs:List V}{us:List Value}(h:Vals xs us):∀k:Nat,Vals (List.replicate k xs).flatten (List.replicate k us).flatten
 |0=>.nil
 |k+1=>by
  rw[Nd,Nd,OU,OU]
  exact Vals.append h (Vals.rep h k)
def foldl_rep(ML:List Value):∀(k:Nat) (acc:List Value),
  List.foldl (fun x1 x2=>x1++x2) acc.toArray (List.replicate k ML.toArray)=(acc++(List.replicate k ML).flatten).toArray
 |0,acc=>by simp
 |k+1,acc=>by
  have e:acc.toArray++ML.toArray=(acc++ML).toArray:=by simp
  have e2:(acc++ML)++(List.replicate k ML).flatten=acc++(List.replicate (k+1) ML).flatten:=by
   rw[Nd,OU,MR]
  rw[<- e2,<- foldl_rep ML k (acc++ML),<- e,Nd,List.foldl_cons]
section
variable {X:Cx}{pins:List (Addr × Obj)}{σ:St}{H:Hp}{s:Shared}{l b:Addr}{xs ys:List V}
def Inv.L0{ML its':List Value}{n:Nat}{f:Array Value->Array Value}{t':Nat}(I:Inv X pins σ H s)(hH:H l=some (.lst xs))
  (e:s.heap.get? l=some { cls:=.type "list",data:=.seq ML.toArray n }) (hf:f ML.toArray=its'.toArray) (hv:Vals ys its') (hz:ys.length<=sizeLine) :
  Inv X pins σ (upd H l (.lst ys)) { s with heap:=s.heap.update l (Obj.mapSeq f),toks:=t' }:=by
 have q:=PySem.IsL.update e f
 rw[hf] at q
 refine I.write (x:=l) (e:=l) (by rw[hH];exact trivial) (.inl rfl) (fun b' u hb hu=>(Heap.get?_update_other s.heap (Obj.mapSeq f) (M0 hb)).trans hu) ⟨_,q⟩ ?_
 exact⟨hz,its',_,hv,q⟩
def Inv.HK{ML:List Value}{t':Nat}(I:Inv X pins σ H s)(hv:Vals ys ML)(hz:ys.length<=sizeLine) :
  Inv X pins σ (upd H s.heap.objs.size (.lst ys)) { s with heap:=s.heap.push { cls:=.type "list",data:=.seq ML.toArray },toks:=t' } :=
 I.laid (fun _ _ q=>Heap.get?_push_of_some _ q) (Mi _) ⟨hz,ML,0,hv,Heap.get?_push_size _ rfl⟩
def Inv.fresh(I:Inv X pins σ H s):H s.heap.objs.size=none:=I.hok.fresh (Mi _)
def Inv.Fx(I:Inv X pins σ H s)(hH:H l=some (.lst xs)):xs.length<=sizeLine/\∃(ML:List Value) (n:Nat),Vals xs ML/\xs.length=ML.length/\s.heap.get? l=some { cls:=.type "list",data:=.seq ML.toArray n }:=by
 obtain ⟨z,ML,n,r,e⟩:=I.hok l _ hH
 exact⟨z,ML,n,r,r.length,e⟩
def Fn{n:Nat}(h:n<=sizeLine):Builtin.List.listTooLong n=false:=by
 unfold Builtin.List.listTooLong
 exact decide_eq_false (by omega)
end
section
variable {X:Cx}
def Cn:V->List V->Hp->VK->Prop:=fun x vs H Q=>∃l xs y,x=.ref l/\vs=[y]/\H l=some (.lst xs)/\xs.length<sizeLine/\Q .non (upd H l (.lst (xs++[y])))
def js:MtM X "list.append" Cn:=by
 intro pins s σ H x vs v us Q I rx rv h
 obtain ⟨l,xs,y,rfl,rfl,hH,hz,q⟩:=h
 cases rx
 obtain ⟨u,rfl,ru⟩:=rv.one
 obtain ⟨z,ML,n,r,hl,e⟩:=I.Fx hH
 refine call_meets F.slot_list_append ⟨_,e,rfl⟩ F.entry_list_append (F.args_list_append_2 _ _) (PySem.list_append l ML.toArray n u (by rw[Mz];omega)) ⟨e,?_⟩
 refine⟨.non,_,I.L0 (its':=ML++[u]) hH e (by simp) (r.append (.cons ru .nil)) ?_,rfl,q⟩
 rw[Mx,List.length_singleton]
 omega
def JO:R2:=fun x y H Q=>∃l b xs zs,x=.ref l/\y=.ref b/\H l=some (.lst xs)/\H b=some (.lst zs)/\xs.length+zs.length<=sizeLine/\∀p,H p=none->Q (.ref p) (upd H p (.lst (xs++zs)))
def rW:OpR X (binaryOp .Add) JO:=by
 intro pins s σ H x y v u Q I rx ry h
 obtain ⟨l,b,xs,zs,rfl,rfl,hH,hB,hz,q⟩:=h
 cases rx
 cases ry
 obtain ⟨z,ML,n,r,hl,e⟩:=I.Fx hH
 obtain ⟨z2,Pp,n2,r2,XJ,e2⟩:=I.Fx hB
 refine PySem.P.add_list e e2 ?_ (by rw[Mz,Mz];omega)
 have ea:ML.toArray++Pp.toArray=(ML++Pp).toArray:=by simp
 rw[ea]
 exact⟨.ref _,_,I.HK (t':=s.toks) (r.append r2) (by rw[Mx];omega),rfl,q _ I.fresh⟩
def Lc:R2:=fun x y H Q=>∃l k xs,x=.ref l/\y=.int k/\H l=some (.lst xs)/\-(2 ^ 63)<=k/\k<2 ^ 63/\xs.length*k.toNat<=sizeLine /\
 ∀p,H p=none->Q (.ref p) (upd H p (.lst (List.replicate k.toNat xs).flatten))
def len_rep{α:Type}(xs:List α)(k:Nat):(List.replicate k xs).flatten.length=k*xs.length:=by
 induction k with
 |zero=>simp
 |succ k ih=>rw[Nd,OU,Mx,ih,Nat.succ_mul,Nat.add_comm]
def zI:OpR X (binaryOp .Mult) Lc:=by
 intro pins s σ H x y v u Q I rx ry h
 obtain ⟨l,k,xs,rfl,rfl,hH,h1,h2,hz,q⟩:=h
 cases rx
 obtain ⟨t,rfl⟩:=ry
 obtain ⟨z,ML,n,r,hl,e⟩:=I.Fx hH
 have OE:ML.toArray.size*k.toNat<=sizeLine:=by rw[Mz,<- hl];exact hz
 have Yf:¬ ML.toArray.size*k.toNat>(2 ^ 63 - 1) / 8:=by
  have:(sizeLine:Nat)<=(2 ^ 63 - 1) / 8:=by decide
  omega
 have XZ:¬ (!Builtin.List.listFitsIndex k)=true:=by
  rw[fitsIndex_both h1 h2]
  exact Mv
 have Vq:¬ Builtin.List.listTooLong (ML.toArray.size*k.toNat)=true:=by
  rw[Fn OE]
  exact Mv
 have XA:List.foldl (fun x1 x2=>x1++x2) #[] (List.replicate (if ML.toArray.isEmpty=true then 0 else k.toNat) ML.toArray)=(List.replicate k.toNat ML).flatten.toArray:=by
  have f0:∀m:Nat,List.foldl (fun x1 x2=>x1++x2) #[] (List.replicate m ML.toArray)=(List.replicate m ML).flatten.toArray:=fun m=>by
   have:=foldl_rep ML m []
   rw[List.nil_append] at this
   exact this
  rw[f0]
  cases ML with
  |nil=>simp
  |cons a r'=>rw[if_neg (by simp)]
 refine wpAny_binaryOp_repeat_ref (T:="list") (U:="int") (by decide) ⟨_,e,rfl⟩ (fun s'=>typeIs_int s' k t) noFill_list_mul F.fills_int_mul F.slot_int_rmul repeat_list F.slot_int_index.lookup
  (call_meets F.slot_int_rmul (typeIs_int s k t) F.entry_int_rmul (F.args_int_rmul_2 _ _) (int___rmul___int_list k t l ML.toArray n)
   ⟨e,rfl,⟨_,e,rfl⟩,call_meets F.slot_list_mul ⟨_,e,rfl⟩ F.entry_list_mul (F.args_list_mul_2 _ _) (AutoListH.list___mul___list_int_3 l ML.toArray n k t XZ Yf Vq) ⟨e,?_⟩⟩)
 rw[XA]
 exact⟨.ref _,_,I.HK (t':=s.toks) (r.rep k.toNat) (by rw[len_rep,Nat.mul_comm];exact hz),rfl,q _ I.fresh⟩
end
section
end
section
end
end L2
namespace Att
open PySem PySem.W PySem.Calls PyProof.Rows
def qI{P:Params}{h:Heap}:∀(ns:List Int) (vs:List Value),WellAll P h vs (ns.map WData.int)->IntsAre vs ns:=by
 intro ns
 induction ns with
 |nil =>
  intro vs w
  rw[OT] at w
  cases w
  exact .nil
 |cons n ns ih =>
  intro vs w
  rw[Mb] at w
  cases w with
  |cons a b =>
   cases a
   exact .cons _ _ (ih _ b)
def Ds{l:OpenLaw}{n:Nat}(hn:l.most=some n){P:Params}{h:Heap}{args:List WData}{Ue:List Value}
  (TH:l.row.toRowW.claim.pre args=true) (Xl:WellAll P h Ue args) :
  ∃a vs ns,Ue=[Value.ref a]/\args=[WData.list (ns.map WData.int)]/\h.get? a=some { cls:=.type "list",data:=.seq vs.toArray }/\IntsAre vs ns/\ns.length<=n:=by
 have hsh:WShape.hasAll [] args [.list .int]=true:=(pre_splitW TH).1
 have hc:l.pre.holds [] { args:=args }=true:=(pre_splitW TH).2
 obtain ⟨d,r,rfl,h1,h2⟩:=hasAllW_cons hsh
 obtain rfl:=hasAllW_nil h2
 obtain ⟨xs,rfl,h3⟩:=hasW_list h1
 obtain ⟨ns,rfl⟩:=items_int h3
 have OE:ns.length<=n:=by
  unfold OpenLaw.pre at hc
  have h4:(WTm.not (.lt (.lit (.int (n:Int))) (.len (.arg 0)))).holds [] { args:=[.list (ns.map .int)] }=true:=by
   have h4:=(holds_andW hc).1
   rw[hn] at h4
   exact h4
  have h5:=condW_of h4 (w_not (w_lt w_lit (w_len_list (w_arg rfl))))
  rw[ox] at h5
  refine Nat.le_of_not_lt fun q=>?_
  have q':(n:Int)<((ns.length:Nat):Int):=by omega
  first
   |(rw[decide_eq_true q'] at h5;exact absurd h5 (by decide))
   |(simp at h5;omega)
 cases Xl with
 |cons w1 w2 =>
  cases w2
  cases w1 with
  |list ho Pe=>exact⟨_,_,ns,rfl,rfl,ho,qI ns _ Pe,OE⟩
def CH(l:OpenLaw)(args:List WData):l.row.toRowW.claim.post args (.bool true) args=true :=
 postW_of (r:=l.row.toRowW) (X:=(true == true))
  (show WShape.has [] (.bool true) .bool=true by first|rfl|decide|simp [WShape.has,WShape.arms,WShape.armsAll])
  (show (WTm.eq .res (.lit (.bool true))).value [] { args:=args,res:=some (.bool true),after:=args }=some (.bool (true == true)) from w_eq_bool (w_res rfl) w_lit) rfl
def yB{l:OpenLaw}{n:Nat}{q:Program}{Qj:List Str}{XP:(Str->Option Value)->Heap->Prop}{YP:World->Heap->Prop}{d:DefRec}
  (hn:l.most=some n) (Vy:d.params.defaults=[])
  (call:∀(w:World) (s₀ s₁:Shared) (mg mb:Str->Option Value) (fa:Addr) (o:Obj) (pm cd doc:Value) (a:Addr) (vs:List Value) (ns:List Int),
   Ground q Qj [] XP w s₀ mg mb s₁.heap->YP w s₁.heap ->
   s₁.heap.get? fa=some o->o.data=.func (docDef d.name d.params d.body d.scope pm cd doc)->s₁.heap.CodeRec cd d.name->mg d.name=some (.ref fa) ->
   s₁.heap.get? a=some { cls:=.type "list",data:=.seq vs.toArray }->IntsAre vs ns->ns.length<=n->s₁.gens=#[] ->
   codeAny (model l.prog w) callerA (.call (.ref fa) ⟨[.ref a],[]⟩) (fun r s'=>r=.ok (.ret (.bool true))/\OldK s₁.heap s'.heap/\s'.os=s₁.os/\AllBare s'.gens) s₁) :
  WalkO q Qj XP YP l.row.toRowW d [] (fun f vs=>PySem.call f vs):=by
 intro w s₀ s₁ mg mb G Y fa o pm cd doc dV kV ho hd PJ hD TJ hg args Ue as TH abC hrd Xl Ur
 obtain rfl:dV=.none:=Dflts.none hD Vy
 obtain rfl:kV=.none:=Dflts.noKw hD
 obtain ⟨a,vs,ns,rfl,rfl,Uq,Th,OE⟩:=Ds hn TH Xl
 refine enter_call (codeAny_mono (call w s₀ s₁ mg mb fa o pm cd doc a vs ns G Y ho (fd_plain hd) PJ TJ Uq Th OE hg) fun r s' hq=>?_)
 obtain ⟨rfl,h2,h3,h4⟩:=hq
 exact⟨.inl ⟨.bool true,.bool true,[],rfl,fun _=>rfl,.bool true,CH l _,fun _=>⟨List.Pairwise.nil,fun _ hm=>(nomatch hm)⟩⟩,h2,h3,h4⟩
section
end
end Att
namespace L2
open PySem PySem.Spec PyProof.Rows
def uZ:∀{vs:List Value}{ns:List Int},IntsAre vs ns->Vals (ns.map V.int) vs
 |_,_,.nil=>.nil
 |_,_,.cons n t h=>.cons ⟨t,rfl⟩ (uZ h)
end L2
namespace L2
open PySem PySem.Spec PyProof.Rows
end L2
/- THE LAST THEOREM (shape; LID, My.* are yours):
   My.Adr: a structure of Ug addresses that your layer names (classes,functions);My.Txt K t: a structure (Prop) of Ug equations over K;
   My.txt_mk:{K}{implicit addresses ..} (e1:nsIn K mainGlobals "law" = some (some (.ref f))) (e2:K.lookup f=some ⟨oc,od,.func (fnOf "law" "law" Nc Qh scope dV kV doc pm an cdv ct),sl⟩) (e3:codeIn K cdv "law" = true) .. : ∃t,My.Txt K t
set_option maxRecDepth 100000 in
set_option maxHeartbeats 0 in
theorem PySem.Challenge.cw_LID_holds : PySem.Challenge.rw_LID.Holds := by
 w_on;o_law;k_head;(case hw=>w_witness2)
 k_fill
 refine L2.walk_of (l:=PySem.Challenge.rw_LID) (n:=63) (k:=40) (x:="script") (CX:=fun w=>..) (sp:=fun _=>My.sp_law) rfl (by decide) rfl ⟨rfl,by decide,by decide⟩ (fun w h Y=>PySem.W.kIn_of Y) ?F ?S ?C
 case F =>
  intro w mg fa h KX G TJ
  have T:∃t,My.Txt (L2.KOf KX) t:=by
   dsimp only[]                          -- K must stand as «<heap const> w.params» for k_is
   refine' My.txt_mk ?e1 ?e2 ?e3 ..
   (case e1=>PySem.W.k_is)                    -- in Ug order: a name -> ML address -> ML object -> ML parts
   (case e2=>PySem.W.k_is)
   ..
  obtain ⟨t,T⟩:=T
  have e0:=TJ.symm.trans (Me KX G T.law)
  cases e0                                       -- fa is Ug law's own address
  exact⟨_,fun s u=>.of_eq rfl,fun base kb nb=>My.law_fn T kb nb⟩     -- if «.of_eq rfl» comes too early: refine' ⟨_,?b,fun base kb nb=>My.law_fn T kb nb⟩;exact fun s u=>.of_eq rfl
 case S=>exact fun w H a ns hl hO hS=>..
 case C=>exact ..
(Ug tactic k_is has no namespace: write k_is) -/
namespace L2
open PySem PySem.Spec PyProof.Rows
def aG(s:Stmt):Arguments:=match s with
 |.FunctionDef _ a _ _ _ _ _ _ _ _=>a
 |_=>{ posonlyargs:=[],args:=[],vararg:=none,kwonlyargs:=[],kw_defaults:=[],kwarg:=none,defaults:=[] }
def aD(s:Stmt):List Stmt:=match s with
 |.FunctionDef _ _ b _ _ _ _ _ _ _=>b
 |_=>[]
def ak(s:Stmt):Scope:=match s with
 |.FunctionDef _ _ _ _ _ _ sc _ _ _=>sc
 |_=>{ kind:=.function,names:=[],isGenerator:=false,isCoroutine:=false }
abbrev CX0:CXT:=fun _ _ _ _ _ _=>False
abbrev E0:XK:=fun _ _ _=>False
def aZ{X:Cx}:Passes CX0 X E0:=fun _ _ _ _ _ _ _ h=>h.elim
structure Fun(K:PySem.W.Frag)(x qual:Str)(st:Stmt)(f:Addr)(fd:FuncData):Prop where
 ex:∃(oc:Value) (od:Option Addr) (kV doc pm:Value) (an:Option Addr) (cdv ct:Value) (osl:Array (Option Value)),
  fd=PySem.W.fnOf x qual (aG st) (aD st) (ak st) .none kV doc pm an cdv ct/\K.lookup f=some ⟨oc,od,.func fd,osl⟩/\PySem.W.codeIn K cdv qual=true
 kp:PySem.W.keepIn K (.ref f)=true
section
variable {P:Program}{w:World}{K:PySem.W.Frag}{mg:Str->Option Value}{base:Heap}
def Fun.ok{x qual:Str}{st:Stmt}{f:Addr}{fd:FuncData}{N ps:List Str}{k:Nat}{sp:Sp}(F:Fun K x qual st f fd)(S:aE N ps (ak st))(len:∀vs H Q E,sp vs H Q E->vs.length=ps.length)
  (P4:∀(cdv:Value) (A:Around) (outer:List Env) (s:Shared) (H:Hp) (vs:List V) (Q:VK) (E:XK),hX k (A.deeper (envOfC qual (ak st) s.heap.objs.size f cdv))->sp vs H Q E ->
   ∃t,PSs (pq CX0 P w K mg base N qual (ak st) f cdv A outer s H E).nox (aD st) t/\t { nx:=fun _ H'=>Q .non H',rt:=Q } (start N vs) H):aI P w K mg base CX0 (k+1) f fd ps sp:=by
 obtain ⟨oc,od,kV,doc,pm,an,cdv,ct,osl,rfl,lk,PJ⟩:=F.ex
 refine Gz lk PJ S len fun A outer s H vs Q E hr S6=>?_
 obtain ⟨t,h,q⟩:=P4 cdv A outer s H vs Q E hr S6
 exact⟨t,h.nox,q⟩
def Fun.binds{x qual:Str}{st:Stmt}{f:Addr}{fd:FuncData}{ps:List Str}(F:Fun K x qual st f fd)
  (h:∀(kV doc pm:Value) (an:Option Addr) (cdv ct:Value) (us:List Value),us.length=ps.length->bindArgs (PySem.W.fnOf x qual (aG st) (aD st) (ak st) .none kV doc pm an cdv ct) ⟨us,[]⟩=pure (ps.zip us)):Binds K fd ps []:=by
 obtain ⟨oc,od,kV,doc,pm,an,cdv,ct,osl,rfl,lk,PJ⟩:=F.ex
 exact .all (h kV doc pm an cdv ct)
def aX{x qual:Str}{st:Stmt}{f:Addr}{oc:Value}{od an:Option Addr}{osl:Array (Option Value)}{kV doc pm cdv ct:Value}(l:K.lookup f=some ⟨oc,od,.func (PySem.W.fnOf x qual (aG st) (aD st) (ak st) .none kV doc pm an cdv ct),osl⟩)
  (c:PySem.W.codeIn K cdv qual=true) (k:PySem.W.keepIn K (.ref f)=true):Fun K x qual st f (PySem.W.fnOf x qual (aG st) (aD st) (ak st) .none kV doc pm an cdv ct):=⟨⟨oc,od,kV,doc,pm,an,cdv,ct,osl,rfl,l,c⟩,k⟩
end
def zk{A:Around}{k:Nat}(hr:hX k A):A.units+1<cLine:=Nat.lt_of_le_of_lt (Nat.add_le_add_left (by decide:1<=64) _) hr.units
def pS{n:Nat}(h:n<=1000):n<sizeLine:=Nat.lt_of_le_of_lt h (by decide)
section
variable {X:Cx}
def pv(i:Nat){x:Str}{MH:Pos}(hN:X.N[i]?=some x:=by rfl)(hv:Vis X.env.scope x:=by first|exact Or.inl rfl|exact Or.inr (Or.inl rfl)|exact Or.inr (Or.inr rfl))(hd:(x == ("__debug__" : Str))=false:=by decide)
  (PJ:(x == ("__classdict__" : Str))=false:=by decide):PE X (.Name x MH) (eJ i):=J4 hN hv hd PJ
end
end L2
set_option maxHeartbeats 4000000
namespace L2
open PySem PySem.Spec PyProof.Rows
def ft(env:Env):List (Str × NameKind)->List (Str × Addr)->List (Str × Addr)
 |[],acc=>acc
 |(n,k)::r,acc=>ft env r (if k == .free then (n,(env.cells.lookup n).getD 0)::acc else acc)
def uw{scope:Scope}{env:Env}(h:∀n,(n,NameKind.free)∈scope.names->∃c,env.cells.lookup n=some c):closureFor scope env=pure (ft env scope.names []):=by
 have go:∀(names:List (Str × NameKind)) (acc:List (Str × Addr)),(∀n,(n,NameKind.free)∈names->∃c,env.cells.lookup n=some c) ->
   (forIn names acc (fun (x:Str × NameKind) (cs:List (Str × Addr))=>match x with
    |(name,kind)=>if (kind == .free)=true then (do let c <- cellOf env name;pure (ForInStep.yield ((name,c)::cs))) else pure (ForInStep.yield cs)):Sem (List (Str × Addr)))=pure (ft env names acc):=by
  intro names
  induction names with
  |nil=>intro acc _;rfl
  |cons x r ih =>
   intro acc hn
   obtain ⟨n,k⟩:=x
   rw[List.forIn_cons]
   have hr:∀m,(m,NameKind.free)∈r->∃c,env.cells.lookup m=some c:=fun m hm=>hn m (mo _ hm)
   by_cases hk:k=.free
   .subst hk
    obtain ⟨c,hc⟩:=hn n Fk
    have e:cellOf env n=pure c:=by unfold cellOf;rw[hc]
    have e2:ft env ((n,NameKind.free)::r) acc=ft env r ((n,c)::acc):=by
     show ft env r (if (NameKind.free == NameKind.free)=true then (n,(env.cells.lookup n).getD 0)::acc else acc)=_
     rw[if_pos (by decide),hc];rfl
    rw[e2,<- ih _ hr]
    show (do let __do_lift <- (if (NameKind.free == NameKind.free)=true then (do let c <- cellOf env n;pure (ForInStep.yield ((n,c)::acc))) else pure (ForInStep.yield acc):Sem (ForInStep (List (Str × Addr))));_)=_
    rw[if_pos (by decide),e]
    rfl
   .have hb:(k == NameKind.free)=false:=by simpa using hk
    have e2:ft env ((n,k)::r) acc=ft env r acc:=by
     show ft env r (if (k == NameKind.free)=true then (n,(env.cells.lookup n).getD 0)::acc else acc)=_
     rw[hb];rfl
    rw[e2,<- ih _ hr]
    show (do let __do_lift <- (if (k == NameKind.free)=true then (do let c <- cellOf env n;pure (ForInStep.yield ((n,c)::acc))) else pure (ForInStep.yield acc):Sem (ForInStep (List (Str × Addr))));_)=_
    rw[hb]
    rfl
 have e:=go scope.names [] h
 unfold closureFor
 exact congrArg (fun (m:Sem (List (Str × Addr)))=>m >>= fun r=>pure r) e
def rO{env:Env}:∀{names:List (Str × NameKind)}{acc:List (Str × Addr)}{n:Str}{c:Addr},(n,c)∈ft env names acc->(n,c)∈acc\/((n,NameKind.free)∈names/\c=(env.cells.lookup n).getD 0)
 |[],acc,n,c,h=>.inl h
 |(m,k)::r,acc,n,c,h=>by
  rcases rO (names:=r) h with h|⟨h,e⟩
  .by_cases hk:k=.free
   .subst hk
    rw[if_pos (by decide)] at h
    rcases L8.mp h with e|h
    .cases e;exact .inr ⟨Fk,rfl⟩
    .exact .inl h
   .have hb:(k == NameKind.free)=false:=by simpa using hk
    rw[hb] at h
    exact .inl h
  .exact .inr ⟨mo _ h,e⟩
def iP{α:Type}:∀{l:List (Str × α)}{n:Str}{c:α},(n,c)∈l->∃d,l.lookup n=some d
 |[],_,_,h=>nomatch h
 |(k,v)::r,n,c,h=>by
  rw[Oo]
  cases hb:n == k with
  |true=>exact⟨v,rfl⟩
  |false =>
   rcases L8.mp h with e|h
   .cases e;simp at hb
   .exact iP h
def sU{env:Env}:∀{names:List (Str × NameKind)}{acc:List (Str × Addr)}{n:Str}{c:Addr},(n,c)∈acc->(n,c)∈ft env names acc
 |[],acc,n,c,h=>h
 |(m,k)::r,acc,n,c,h=>by
  refine sU (names:=r) ?_
  split
  .exact mo _ h
  .exact h
def n6{env:Env}:∀{names:List (Str × NameKind)}{acc:List (Str × Addr)}{n:Str},(n,NameKind.free)∈names->(n,(env.cells.lookup n).getD 0)∈ft env names acc
 |[],acc,n,h=>nomatch h
 |(m,k)::r,acc,n,h=>by
  rcases L8.mp h with e|h
  .cases e
   refine sU (names:=r) ?_
   rw[if_pos (by decide)]
   exact Fk
  .exact n6 (names:=r) h
def ku:∀{names:List (Str × NameKind)}{n:Nat}{acc:List (Str × Addr)}{x:Str}{c:Addr},(x,c)∈cellsFrom n names acc->(x,c)∈acc\/((x,NameKind.cell)∈names/\n<=c)
 |[],n,acc,x,c,h=>.inl h
 |(m,k)::r,n,acc,x,c,h=>by
  unfold cellsFrom at h
  by_cases hk:k=.cell
  .subst hk
   rw[if_pos (by decide)] at h
   rcases ku (names:=r) h with h|⟨h,e⟩
   .rcases L8.mp h with e|h
    .cases e;exact .inr ⟨Fk,Mi _⟩
    .exact .inl h
   .exact .inr ⟨mo _ h,by omega⟩
  .have hb:(k == NameKind.cell)=false:=by simpa using hk
   rw[hb] at h
   rcases ku (names:=r) h with h|⟨h,e⟩
   .exact .inl h
   .exact .inr ⟨mo _ h,e⟩
def gw:∀{names:List (Str × NameKind)}{n:Nat}{acc:List (Str × Addr)}{x:Str}{c:Addr},(x,c)∈acc->(x,c)∈cellsFrom n names acc
 |[],n,acc,x,c,h=>h
 |(m,k)::r,n,acc,x,c,h=>by
  unfold cellsFrom
  split
  .exact gw (names:=r) (mo _ h)
  .exact gw (names:=r) h
def kD:∀{names:List (Str × NameKind)}{n:Nat}{acc:List (Str × Addr)}{x:Str},(x,NameKind.cell)∈names->∃c,(x,c)∈cellsFrom n names acc
 |[],n,acc,x,h=>nomatch h
 |(m,k)::r,n,acc,x,h=>by
  unfold cellsFrom
  rcases L8.mp h with e|h
  .cases e
   rw[if_pos (by decide)]
   exact⟨n,gw (names:=r) Fk⟩
  .split
   .exact kD (names:=r) h
   .exact kD (names:=r) h
def jZ:∀{names:List (Str × NameKind)}{h:Heap}{acc:List (Str × Addr)}{x:Str}{c:Addr},(x,c)∈cellsFrom h.objs.size names acc->(x,c)∈acc\/(pushCells h names).IsCell c none
 |[],h,acc,x,c,m=>.inl m
 |(n,k)::r,h,acc,x,c,m=>by
  unfold cellsFrom at m
  unfold pushCells
  split at m
  .rename_i hk
   rw[if_pos hk]
   have m':(x,c)∈cellsFrom (h.push { cls:=.type "cell",data:=.cell none }).objs.size r ((n,h.objs.size)::acc):=by rw[Heap.size_push];exact m
   rcases jZ (names:=r) m' with z|z
   .rcases L8.mp z with e|z
    .cases e
     exact .inr ⟨_,pushCells_keeps _ _ _ _ (Heap.get?_push_size _ rfl),rfl⟩
    .exact .inl z
   .exact .inr z
  .rename_i hk
   rw[if_neg hk]
   exact jZ (names:=r) m
def kC:∀{names:List (Str × NameKind)}{n:Nat}{acc:List (Str × Addr)},(∀x c,(x,c)∈acc->c<n)->(∀x y c,(x,c)∈acc->(y,c)∈acc->x=y) ->
  ∀x y c,(x,c)∈cellsFrom n names acc->(y,c)∈cellsFrom n names acc->x=y
 |[],n,acc,lt,inj,x,y,c,h,h'=>inj x y c h h'
 |(m,k)::r,n,acc,lt,inj,x,y,c,h,h'=>by
  unfold cellsFrom at h h'
  split at h
  .rename_i hk
   rw[if_pos hk] at h'
   refine kC (names:=r) (n:=n+1) (acc:=(m,n)::acc) (fun x c hm=>?_) (fun x y c hm hm'=>?_) x y c h h'
   .rcases L8.mp hm with e|hm
    .cases e;exact OY _
    .exact Nat.lt_succ_of_lt (lt _ _ hm)
   .rcases L8.mp hm with e|hm<;>rcases L8.mp hm' with e'|hm'
    .cases e;cases e';rfl
    .cases e;exact absurd (lt _ _ hm') (M8 _)
    .cases e';exact absurd (lt _ _ hm) (M8 _)
    .exact inj _ _ _ hm hm'
  .rename_i hk
   rw[if_neg hk] at h'
   exact kC (names:=r) lt inj x y c h h'
def jC{env:Env}:∀{names:List (Str × NameKind)}{x:Str},
  (names.map fun (n,k)=>if (k == NameKind.free && env.scope.kind == .function && env.kindOf n == some .cell) then (n,NameKind.cell) else (n,k)).lookup x =
   (names.lookup x).map fun k=>if (k == NameKind.free && env.scope.kind == .function && env.kindOf x == some .cell)=true then NameKind.cell else k
 |[],x=>rfl
 |(n,k)::r,x=>by
  have ih:=@jC env r x
  show List.lookup x ((if (k == NameKind.free && env.scope.kind == .function && env.kindOf n == some .cell)=true then (n,NameKind.cell) else (n,k))::_)=_
  have e:(if (k == NameKind.free && env.scope.kind == .function && env.kindOf n == some .cell)=true then (n,NameKind.cell) else (n,k))=(n,if (k == NameKind.free && env.scope.kind == .function && env.kindOf n == some .cell)=true then NameKind.cell else k):=by split<;>rfl
  rw[e,Oo,Oo]
  cases hx:x == n with
  |true =>
   have hx':=beq_iff_eq.mp hx
   subst hx'
   rfl
  |false=>exact ih
structure aH(X:Cx)(scope:Scope)(tn cap:List Str)(idx:List Nat):Prop where
 kind:scope.kind=.function
 nd:(scope.names.map (·.1)).Nodup
 tnd:(tn++cap).Nodup
 ct:∀y∈cap,scope.names.lookup y=some .free
 ci:idx.map (fun i=>X.N[i]?)=cap.map some
 fr:∀y∈scope.names,y.2=.free->X.env.scope.names.lookup y.1=some .cell\/X.env.scope.names.lookup y.1=some .free
def mY{α:Type}:∀{l:List (Str × α)}{n:Str}{c:α},(l.map (·.1)).Nodup->(n,c)∈l->l.lookup n=some c
 |[],_,_,_,h=>nomatch h
 |(k,v)::r,n,c,nd,h=>by
  obtain ⟨h1,h2⟩:=Mh.mp nd
  rw[Oo]
  rcases L8.mp h with e|hm
  .cases e;simp
  .have PY:n≠k:=fun e=>h1 (Ma.mpr ⟨_,hm,e⟩)
   have hb:(n == k)=false:=beq_eq_false_iff_ne.mpr PY
   rw[hb]
   exact mY h2 hm
def AU(σ:St)(idx:List Nat):St:=idx.map fun i=>(σ[i]?).getD none
def gT(k:Nat)(idx:List Nat)(σ:St):St:=List.replicate k none++AU σ idx
def cxC(X:Cx)(N':List Str)(scope:Scope)(cs:List (Str × Addr))(C:Addr)(fp:List Addr)(s₀:Shared)(H₀:Hp):Cx where
 prog:=X.prog
 w:=X.w
 K:=X.K
 mg:=X.mg
 base:=X.base
 A:=X.A
 N:=N'
 s₀:=s₀
 H₀:=H₀
 env:=compEnvC scope cs C X.env
 outer:=X.stack
 stack:=X.stack
 ex:=fp
 fn:=fun x=>scope.names.lookup x == some .local || scope.names.lookup x == some .cell
 calm:=X.calm
 pn:=[]
 xe:=fun _ _=>False
def ph{M:Model}{A:Around}{E:Value->Shared->Prop}{s:Shared}{scope:Scope}{globals:Addr}{cl:List (Str × Addr)}{qual:Str}{yY:Env}{Q:Env->Shared->Prop}
  (hQ:Q { scope:=scope,locals:=s.heap.objs.size,globals:=globals,cells:=cellsFrom (s.heap.objs.size+1) scope.names cl,qual:=qual,func:=none,code:=yY.code,frame:=yY.frame,builtins:=yY.builtins }
   { s with heap:=pushCells (s.heap.push { cls:=.type "dict",data:=.dict #[] }) scope.names }) :
  wpAny M A (newFunctionEnv scope globals cl [] qual none .none (some yY)) Q E s:=by
 simp only[newFunctionEnv,Option.isSome_some,if_true]
 refine wpAny_bind (wpAny_alloc ?_)
 refine wpAny_bind (wpAny_layCells _ (fun name kind cells=>by cases hkc:kind == NameKind.cell<;>simp [hkc]) _ _ _ _ ?_)
 rw[show ({ s with heap:=s.heap.push { cls:=.type "dict",data:=.dict #[] } }:Shared).heap.objs.size=s.heap.objs.size+1 from Heap.size_push ..]
 exact wpAny_bind (wpAny_pure (wpAny_pure hQ))
section
variable {prog:Program}{w:World}{A:Around}{R:Result->Shared->Prop}{s:Shared}
def xg{P5 M7 iter:Expr}{QC:List Expr}{scope:Scope}{MH:Pos}{it acc:Value}{env:Env}(I:Nat->Shared->Prop)
  (turn:∀n s,I n s->wpAny (model prog w) A (pyNext it) (fun r s₁=>match r with
   |none=>R (.ok .next) s₁
   |some v=>wpAny (model prog w) A (letOwnedTupleGo M7 it v) (fun _ TQ=>wpAny (model prog w) A (assign M7 env v) (fun _ PQ =>
     wpAny (model prog w) A (forIn QC true fun c r=>if r=true then do let ok <- isTrue c env (eval c env);pure (ForInStep.yield ok) else pure (ForInStep.yield r)) (fun ok QF =>
      if ok=true then wpAny (model prog w) A (eval P5 env) (fun x Tz =>
       wpAny (model prog w) A (call (.builtin "list.append") [acc,x]) (fun _ UZ=>∃m,m<n/\I m UZ) (fun _ _=>False) Tz) (fun _ _=>False) QF
      else ∃m,m<n/\I m QF) (fun _ _=>False) PQ) (fun _ _=>False) TQ) (fun _ _=>False) s₁) (fun _ _=>False) s)
  (n:Nat) (h:I n s) :
  codeAny (model prog w) A (.compLoop (.ListComp P5 [⟨M7,iter,QC,0⟩] scope MH) 0 it acc env) R s:=by
 refine codeAny_loop rfl I (fun n s hI=>?_) n h
 show wpAny _ A ((compTurn (.ListComp P5 [⟨M7,iter,QC,0⟩] scope MH) 0 it acc env).onRaise (fun x=>do noteFrame x env;theTreesLotGoes x)) _ _ s
 refine wpAny_noted ?_
 rw[compTurn_list]
 refine wpAny_bind (wpAny_standAt (wpAny_bind (wpAny_mono (turn n s hI) (fun r s₁ Qd=>?_) fun _ _ h'=>h'.elim)))
 cases r with
 |none=>exact wpAny_pure Qd
 |some v =>
  refine wpAny_bind (wpAny_mono Qd (fun _ TQ Ve=>?_) fun _ _ h'=>h'.elim)
  refine wpAny_bind (wpAny_mono Ve (fun _ PQ Qs=>wpAny_bind (wpAny_mono Qs (fun ok QF TF=>?_) fun _ _ h'=>h'.elim)) fun _ _ h'=>h'.elim)
  cases ok with
  |false=>exact wpAny_pure ⟨rfl,TF⟩
  |true =>
   exact wpAny_bind (wpAny_bind (wpAny_mono TF (fun x Tz Vd=>wpAny_bind (wpAny_mono Vd (fun _ UZ Uj=>wpAny_pure (wpAny_pure ⟨rfl,Uj⟩)) fun _ _ h'=>h'.elim)) fun _ _ h'=>h'.elim))
end
section
variable {X:Cx}{pins:List (Addr × Obj)}{σ:St}{H:Hp}{s2:Shared}{scope:Scope}{tn cap:List Str}{idx:List Nat}{fp:List Addr}
abbrev qz:Obj:={ cls:=.type "list",data:=.seq ([]:List Value).toArray }
abbrev Es:Obj:={ cls:=.type "dict",data:=.dict #[] }
abbrev yO(h:Heap)(scope:Scope):Heap:=pushCells ((h.push qz).push Es) scope.names
abbrev wj(X:Cx)(h:Heap)(scope:Scope):List (Str × Addr):=cellsFrom (h.objs.size+1+1) scope.names (ft X.env scope.names [])
def FQ{σ:St}{idx:List Nat}{j:Nat}{v:V}(h:(AU σ idx)[j]?=some (some v)):∃i,idx[j]?=some i/\σ[i]?=some (some v):=by
 unfold AU at h
 rw[L9] at h
 cases e:idx[j]? with
 |none=>rw[e] at h;cases h
 |some i =>
  rw[e] at h
  have h':(σ[i]?).getD none=some v:=MB h
  refine⟨i,rfl,?_⟩
  cases q:σ[i]? with
  |none=>rw[q] at h';cases h'
  |some o=>rw[q] at h';have h'':o=some v:=h';rw[h'']
def Av(I:Inv X pins σ H s2)(S:aH X scope tn cap idx)(hf:∀b∈fp,uD X pins H b)(RJ:∀b∈fp,b<s2.heap.objs.size) :
  Inv (cxC X (tn++cap) scope (wj X s2.heap scope) (s2.heap.objs.size+1) fp s2 H) [(s2.heap.objs.size,qz)] (gT tn.length idx σ) H { s2 with heap:=yO s2.heap scope }:=by
 have old:∀b o,s2.heap.get? b=some o->(yO s2.heap scope).get? b=some o:=fun b o e=>pushCells_keeps _ _ _ _ (Heap.get?_push_of_some _ (Heap.get?_push_of_some _ e))
 have hsz:((s2.heap.push qz).push Es).objs.size=s2.heap.objs.size+1+1:=by rw[Heap.size_push,Heap.size_push]
 have SV:(yO s2.heap scope).get? s2.heap.objs.size=some qz:=pushCells_keeps _ _ _ _ (Heap.get?_push_of_some _ (Heap.get?_push_size _ rfl))
 have Qe:(yO s2.heap scope).Ns (s2.heap.objs.size+1) (fun _=>none):=by
  have e:=(Heap.Ns.new (s2.heap.push qz) (.type "dict")).keeps (pushCells_keeps scope.names _)
  rw[Heap.size_push] at e
  exact e
 have VV:∀x c,(x,c)∈ft X.env scope.names []->X.env.cells.lookup x=some c/\(x,NameKind.free)∈scope.names:=fun x c h=>by
  rcases rO h with z|⟨z,e⟩
  .nomatch z
  .obtain ⟨d,hd⟩:=I.ok.has x (S.fr _ z rfl)
   rw[hd] at e
   have e':c=d:=e
   subst e'
   exact⟨hd,z⟩
 have WT:∀x c,(x,c)∈wj X s2.heap scope->(X.env.cells.lookup x=some c/\(x,NameKind.free)∈scope.names)\/((x,NameKind.cell)∈scope.names/\s2.heap.objs.size+1+1<=c):=fun x c h=>by
  rcases ku h with z|z
  .exact .inl (VV x c z)
  .exact .inr z
 have clt:∀x c,X.env.cells.lookup x=some c->c<s2.heap.objs.size:=fun x c h=>by
  obtain ⟨v,q⟩:=I.cell x c h
  exact q.lt
 have VL:∀x,(x,NameKind.free)∈scope.names->scope.names.lookup x=some .free:=fun x h=>mY S.nd h
 have Sw:∀x,(x,NameKind.cell)∈scope.names->scope.names.lookup x=some .cell:=fun x h=>mY S.nd h
 refine⟨⟨I.ok.mod,S.kind,I.ok.glob,I.ok.blt,Nt _,fun x y c h1 h2=>?_,fun x hx=>?_,fun x c Ua h=>?_,I.ok.hd,I.ok.frames,.inl rfl,fun b hb=>⟨?_,fun x c h=>?_⟩,I.bs,Mq I.ok.bsz I.sz,fun b o e hb=>?_,fun b hb z=>?_,I.stack,I.ra⟩,
  rfl,I.bare,Un.kept old,⟨_,Qe,fun i x v e1 e2 e3=>?_⟩,fun x c h=>?_,I.hok.fresh (Nt _),fun x c h=>?_,fun p hp=>?_,I.hok.kept old,?_⟩
 .exact kC (fun x c h=>Nat.lt_succ_of_lt (Nat.lt_succ_of_lt (clt x c (VV x c h).1))) (fun x y c h h'=>I.ok.inj x y c (VV x c h).1 (VV y c h').1) x y c (MJ h1) (MJ h2)
 .have hx:(relabel scope X.env).names.lookup x=some .cell\/(relabel scope X.env).names.lookup x=some .free:=hx
  have e:=@jC X.env scope.names x
  have hk:∃k,scope.names.lookup x=some k/\(k=.cell\/k=.free):=by
   cases q:scope.names.lookup x with
   |none =>
    rw[q] at e
    rcases hx with z|z
    .have z':=e.symm.trans z;cases z'
    .have z':=e.symm.trans z;cases z'
   |some k =>
    rw[q] at e
    refine⟨k,rfl,?_⟩
    cases k with
    |cell=>exact .inl rfl
    |free=>exact .inr rfl
    |_ =>
     exfalso
     rcases hx with z|z
     .have z':=e.symm.trans z;cases z'
     .have z':=e.symm.trans z;cases z'
  obtain ⟨k,hk,UQ⟩:=hk
  have hm:=MJ hk
  rcases UQ with rfl|rfl
  .obtain ⟨c,hc⟩:=kD (n:=s2.heap.objs.size+1+1) (acc:=ft X.env scope.names []) hm
   exact iP hc
  .exact iP (gw (n6 (env:=X.env) (acc:=[]) hm))
 .rcases WT x c (MJ h) with ⟨_,z⟩|⟨_,z⟩
  .have Ua:(scope.names.lookup x == some .local || scope.names.lookup x == some .cell)=true:=Ua
   rw[VL x z] at Ua
   exact absurd Ua (by decide)
  .show s2.heap.objs.size<=c
   omega
 .-- b is not Ug block's frame
  intro z
  have z':b=s2.heap.objs.size+1:=z
  exact absurd (RJ b hb) (by rw[z'];exact OX.mpr (Nt _))
 .rcases WT x c (MJ h) with ⟨z,_⟩|⟨_,z⟩
  .exact (hf b hb).2.2.2.2.1 x c z
  .intro e
   exact absurd (RJ b hb) (by rw[<- e];exact OX.mpr (Mq (Mq (Nt _) (Nt _)) z))
 .rcases (hf b hb).2.2.2.1 with z|z
  .exact I.ok.noex b o e z
  .exact absurd (Mo (Heap.lt_size e) (Mq I.ok.bsz z)) (M8 _)
 .obtain ⟨_,f1,f2,_⟩:=hf b hb
  rcases L8.mp (I.rM b z) with e|e
  .exact f1 e
  .exact f2 e
 .-- Ug names
  have e1:(tn++cap)[i]?=some x:=e1
  have e2:(gT tn.length idx σ)[i]?=some (some v):=e2
  unfold gT at e2
  by_cases hi:i<tn.length
  .rw[Mt (by rw[Mw];exact hi),MT,if_pos hi] at e2
   cases e2
  .rw[MA (by rw[Mw];omega),Mw] at e2
   rw[MA (by omega)] at e1
   obtain ⟨i0,h1,h2⟩:=FQ e2
   have hN:X.N[i0]?=some x:=by
    have q:=congrArg (fun l=>l[i - tn.length]?) S.ci
    simp only[L9,h1,e1,Option.map_some] at q
    exact MB q
   have T9:=S.ct x (MN e1)
   have SM:=MJ T9
   have hk:=S.fr _ SM rfl
   obtain ⟨m,hn,hl⟩:=I.loc
   obtain ⟨u,r,l⟩:=hl i0 x v hN h2 (hk.elim (fun z=>.inr (.inl z)) fun z=>.inr (.inr z))
   refine⟨u,r,.inr ⟨?_,?_⟩⟩
   .show (relabel scope X.env).names.lookup x=some .cell\/(relabel scope X.env).names.lookup x=some .free
    have e:=@jC X.env scope.names x
    rw[T9] at e
    have e':(relabel scope X.env).names.lookup x=some (if (NameKind.free == NameKind.free && X.env.scope.kind == .function && X.env.kindOf x == some .cell)=true then NameKind.cell else NameKind.free):=e
    rw[e']
    split
    .exact .inl rfl
    .exact .inr rfl
   .rcases l with ⟨UR,_⟩|⟨_,c,hc,z⟩
    .exfalso
     have UR:X.env.scope.names.lookup x=some .local:=UR
     rcases hk with q|q
     .have q:X.env.scope.names.lookup x=some .cell:=q
      rw[q] at UR;cases UR
     .have q:X.env.scope.names.lookup x=some .free:=q
      rw[q] at UR;cases UR
    .obtain ⟨d,hd⟩:=iP (gw (names:=scope.names) (n:=s2.heap.objs.size+1+1) (n6 (env:=X.env) (acc:=[]) SM))
     refine⟨c,?_,z.keeps old⟩
     rcases WT x d (MJ hd) with ⟨q,_⟩|⟨q,_⟩
     .rw[hc] at q;cases q;exact hd
     .have:=Sw x q;rw[T9] at this;cases this
 .have hm:(x,c)∈cellsFrom ((s2.heap.push qz).push Es).objs.size scope.names (ft X.env scope.names []):=by rw[hsz];exact MJ h
  rcases jZ hm with z|z
  .obtain ⟨v,q⟩:=I.cell x c (VV x c z).1
   exact⟨v,q.keeps old⟩
  .exact⟨_,z⟩
 .rcases WT x c (MJ h) with ⟨z,_⟩|⟨_,z⟩
  .exact I.freeC x c z
  .exact I.hok.fresh (by omega)
 .have UN:p∈[(s2.heap.objs.size,qz)]:=hp
  obtain rfl:=Gc.mp UN
  refine⟨SV,I.hok.fresh (Mi _),MG (OY _),fun z=>?_,fun v z=>?_⟩
  .rcases L8.mp (I.rM _ z) with e|e
   .exact absurd I.lt (by rw[<- e];exact M8 _)
   .exact I.K3 (Mi _) e
  .have z':Data.seq _ _=Data.cell v:=z
   cases z'
 .show (gT tn.length idx σ).length=(tn++cap).length
  have:=congrArg List.length S.ci
  unfold gT AU
  simp only[Mx,Mw,ox] at this ⊢
  omega
def comp_back{N':List Str}{cs:List (Str × Addr)}{C D:Addr}{Sn:List (Addr × Obj)}{σ':St}{H8:Hp}{s8:Shared}{vs:List V}{ML:List Value}{n:Nat}(I:Inv X pins σ H s2)(hf:∀b∈fp,uD X pins H b)
  (J:Inv (cxC X N' scope cs C fp s2 H) Sn σ' H8 s8) (hD:s2.heap.objs.size<=D) (VJ:H8 D=none) (XW:s8.heap.get? D=some { cls:=.type "list",data:=.seq ML.toArray n }) (r:Vals vs ML) (hz:vs.length<=sizeLine) :
  Inv X pins σ (upd H8 D (.lst vs)) s8:=by
 have u:=J.base
 have hb:∀b o,s2.heap.get? b=some o->b≠D:=fun b o e=>MG (Mo (Heap.lt_size e) hD)
 refine I.xX (ch:=fp) J.os ⟨u.keep,u.slot,fun b o e n hx=>?_,u.there,fun b xs e=>?_,fun b o xs e=>?_,fun b ps e=>?_⟩ (fun b o e=>?_) J.bare fun b hbf=>?_
 .rw[aF (hb b o e)];exact u.free b o e n hx
 .have q:=u.tups b xs e
  rw[aF (bj q VJ)];exact q
 .have q:=u.frzs b o xs e
  rw[aF (bj q VJ)];exact q
 .obtain ⟨m,q⟩:=u.tbls b ps e
  exact⟨m,by rw[aF (bj q VJ)];exact q⟩
 .by_cases e1:b=D
  .subst e1
   rw[aw] at e
   cases e
   exact⟨hz,ML,n,r,XW⟩
  .rw[aF e1] at e
   exact (J.hok b o e).rN (fun _ _ _ q=>q) (fun c q=>by rw[aF (bj q VJ)];exact q) fun c xs q=>by rw[aF (bj q VJ)];exact q
 .obtain ⟨_,f1,_,f3,f4,f5⟩:=hf b hbf
  exact⟨f3,f1,f4,f5⟩
def PTs(X:Cx)(QC:List Expr)(tt:TT):Prop :=
 ∀(pins:List (Addr × Obj)) (s:Shared) (σ:St) (H:Hp) (Q:Bool->Hp->Prop),Inv X pins σ H s->tt σ H Q ->
  wpAny (model X.prog X.w) X.A (forIn QC true fun c r=>if r=true then do let ok <- isTrue c X.env (eval c X.env);pure (ForInStep.yield ok) else pure (ForInStep.yield r)) (TP X pins σ Q) X.xe s
def G7:TT:=fun _ H Q=>Q true H
def Cu:PTs X [] G7:=fun _ _ _ H _ I h=>wpAny_tests_nil ⟨H,I,h⟩
def rh{c:Expr}{tc:TT}(h:PT X c tc):PTs X [c] tc:=fun pins s σ H Q I q=>wpAny_tests_one (h pins s σ H Q I q)
def vW(wi:TI)(g:TG)(tt:TT)(te:TE)(k:Nat)(idx:List Nat):TE:=fun σ H Q=>wi σ H fun J H1 =>
 ∃W:Nat->Nat->List V->Hp->Prop,(∃m,W 0 m [] H1)/\∀i m vs H,W i m vs H ->
  (J.stop i H/\vs.length<=sizeLine/\∀p,H p=none->Q (.ref p) (upd H p (.lst vs))) \/
  (J.go i H/\vs.length<=sizeLine/\∃N:List V->Hp->Prop,(∀Tt H',N Tt H'->∃m',m' < m/\W (i+1) m' Tt H')/\∀x H',J.yld i H x H'->g x (gT k idx σ) H' fun Qo H2=>tt Qo H2 fun b H3 =>
   if b=true then te Qo H3 fun v H4=>N (vs++[v]) H4 else N vs H3)
def gi(k:Nat)(g:TG):Prop:=∀x σ H Q,g x σ H Q->g x σ H fun Qo H2=>Q Qo H2/\Qo.length=σ.length/\∀j,k<=j->Qo[j]?=σ[j]?
def gi.name{i k:Nat}(h:i<k):gi k (kP i):=fun x σ H Q q=>⟨q,by simp,fun j hj=>by rw[Ml (by omega)]⟩
def CN{k j:Nat}{idx:List Nat}{σ:St}{v:V}(h:(gT k idx σ)[j]?=some (some v)):k<=j:=by
 by_cases hj:j<k
 .unfold gT at h
  rw[Mt (by rw[Mw];exact hj),MT,if_pos hj] at h
  cases h
 .omega
def su{P5 M7 iter:Expr}{QC:List Expr}{MH:Pos}{g:TG}{tt:TT}{te:TE}{E:Value->Shared->Prop}{it:Addr}{UJ:Nat->Heap->Prop}{J:It}{Q:VK}{RR:Value->Addr->Result->Shared->Prop}
  (Px:X.calm=true) (S:aH X scope tn cap idx) (Ss:gi tn.length g)
  (hg:∀cs C fp s₀ H₀,PG (cxC X (tn++cap) scope cs C fp s₀ H₀) M7 g) (ht:∀cs C fp s₀ H₀,PTs (cxC X (tn++cap) scope cs C fp s₀ H₀) QC tt)
  (he:∀cs C fp s₀ H₀,PE (cxC X (tn++cap) scope cs C fp s₀ H₀) P5 te)
  (I:Inv X pins σ H s2) (T:Turn X.prog X.w X.K M7 J fp it UJ) (TB:UJ 0 s2.heap) (f2:∀b∈fp,uD X pins H b)
  (hW:∃W:Nat->Nat->List V->Hp->Prop,(∃m,W 0 m [] H)/\∀i m vs H,W i m vs H ->
   (J.stop i H/\vs.length<=sizeLine/\∀p,H p=none->Q (.ref p) (upd H p (.lst vs))) \/
   (J.go i H/\vs.length<=sizeLine/\∃N:List V->Hp->Prop,(∀Tt H',N Tt H'->∃m',m' < m/\W (i+1) m' Tt H')/\∀x H',J.yld i H x H'->g x (gT tn.length idx σ) H' fun Qo H2=>tt Qo H2 fun b H3 =>
    if b=true then te Qo H3 fun v H4=>N (vs++[v]) H4 else N vs H3))
  (hRR:∀(s8:Shared) (H8:Hp) (C D:Addr) (m:Str->Option Value),Inv X pins σ H8 s8->s8.heap.Ns C m->H8 C=none->s2.heap.objs.size<=C->Q (.ref D) H8->RR (.ref D) C (.ok .next) s8) :
  wpAny (model X.prog X.w) X.A (newList []) (fun acc QF=>wpAny (model X.prog X.w) X.A (newFunctionEnv scope X.env.globals (ft X.env scope.names []) [] X.env.qual none .none (some X.env)) (fun VW Tz =>
   codeAny (model X.prog X.w) X.A (.compStart (.ListComp P5 [⟨M7,iter,QC,0⟩] scope MH) 0 (.ref it) acc { VW with scope:=relabel scope X.env }) (RR acc VW.locals) Tz) E QF) E s2:=by
 obtain ⟨W,⟨m0,w0⟩,turn⟩:=hW
 have RJ:∀b∈fp,b<s2.heap.objs.size:=fun b hb=>by
  obtain ⟨o,e,_⟩:=T.obj _ _ TB b hb
  exact Heap.lt_size e
 have I4:=Av I S f2 RJ
 refine wpAny_newObj_type (ph ?_)
 have e1:({ s2 with heap:=s2.heap.push qz }:Shared).heap.objs.size=s2.heap.objs.size+1:=Heap.size_push ..
 rw[e1]
 generalize hX':cxC X (tn++cap) scope (wj X s2.heap scope) (s2.heap.objs.size+1) fp s2 H=X' at I4
 have hA:X'.A=X.A:=by subst hX';rfl
 have Rh:X'.prog=X.prog:=by subst hX';rfl
 have hw:X'.w=X.w:=by subst hX';rfl
 have hK:X'.K=X.K:=by subst hX';rfl
 have VA:X'.calm=true:=by subst hX';exact Px
 have Vf:X'.xe=fun _ _=>False:=by subst hX';rfl
 have TK:X'.env.locals=s2.heap.objs.size+1:=by subst hX';rfl
 have Xt:X'.pn=[]:=by subst hX';rfl
 have hex:X'.ex=fp:=by subst hX';rfl
 have Xn:X'.s₀=s2:=by subst hX';rfl
 have hg':PG X' M7 g:=by subst hX';exact hg _ _ _ _ _
 have ht':PTs X' QC tt:=by subst hX';exact ht _ _ _ _ _
 have he':PE X' P5 te:=by subst hX';exact he _ _ _ _ _
 have Vw:X'.env={ scope:=relabel scope X.env,locals:=s2.heap.objs.size+1,globals:=X.env.globals,cells:=wj X s2.heap scope,qual:=X.env.qual,func:=none,code:=X.env.code,frame:=X.env.frame,builtins:=X.env.builtins }:=by subst hX';rfl
 let lo:List Value->Nat->Obj:=fun ML n=>{ cls:=.type "list",data:=.seq ML.toArray n }
 have RL:∀{H':Hp}{pl:List (Addr × Obj)},(∀b∈fp,H' b=none)->(∀p∈pl,p.1∉fp)->∀b∈fp,uD X' pl H' b:=fun {H' pl} hn hp b hb=>by
  have q:=I4.ok.exf b (by rw[hex];exact hb)
  have q2:=I4.ok.exfs b (by rw[hex];exact hb)
  refine⟨hn b hb,q.1,q2,.inl (by rw[hex];exact hb),q.2,fun p UN z=>?_⟩
  rw[Xt] at UN
  exact hp p UN (by rw[z];exact hb)
 have Dfp:s2.heap.objs.size∉fp:=fun z=>M8 _ (RJ _ z)
 have D1:∀(o:Obj),∀p∈[((s2.heap.objs.size:Addr),o)],p.1∉fp:=fun o p hp=>by
  obtain rfl:=Gc.mp hp
  exact Dfp
 have Va:∀s3:Shared,s3={ s2 with heap:=yO s2.heap scope } ->
   codeAny (model X.prog X.w) X.A (.compLoop (.ListComp P5 [⟨M7,iter,QC,0⟩] scope MH) 0 (.ref it) (.ref s2.heap.objs.size) X'.env) (RR (.ref s2.heap.objs.size) (s2.heap.objs.size+1)) s3:=by
  intro s3 hs3
  subst hs3
  refine xg (fun n s'=>∃i vs ML nn σ' H',Inv X' [(s2.heap.objs.size,lo ML nn)] σ' H' s'/\(∀(j:Nat) v,(gT tn.length idx σ)[j]?=some (some v)->σ'[j]?=some (some v))/\σ'.length=(gT tn.length idx σ).length/\UJ i s'.heap/\(∀b∈fp,H' b=none)/\Vals vs ML/\W i n vs H') ?_ m0
   ⟨0,[],[],0,_,H,I4,fun _ _ z=>z,rfl,T.keep _ _ _ TB (fun b hb o e=>pushCells_keeps _ _ _ _ (Heap.get?_push_of_some _ (Heap.get?_push_of_some _ e))),fun b hb=>(f2 b hb).1,.nil,w0⟩
  rintro n s' ⟨i,vs,ML,nn,σ',H',I',V6,Xe,TV,Zn,rv,w'⟩
  have I5:Inv X' [(s2.heap.objs.size,lo ML nn)] (gT tn.length idx σ) H' s':=I'.weak Xe.symm V6
  rcases turn i n vs H' w' with ⟨stop,hz,q⟩|⟨go,hz,N,hN,step⟩
  .-- it ends
   have td:=T.done X' Rh hw hK VA i _ s' _ H' (fun _ _=>False) I5 (RL Zn (D1 _)) TV stop
   rw[hA] at td
   refine thn td fun r s8 ⟨hr,I8⟩=>?_
   subst hr
   obtain ⟨T4,Up,_⟩:=I8.pin (s2.heap.objs.size,lo ML nn) (by rw[Xt];exact Gc.mpr rfl)
   have J8:Inv X pins σ (upd H' s2.heap.objs.size (.lst vs)) s8:=by
    subst hX'
    exact comp_back I f2 I8 (Mi _) Up T4 rv hz
   obtain ⟨m,hm,_⟩:=I8.loc
   rw[TK] at hm
   have hCf:H' (s2.heap.objs.size+1)=none:=by have:=I8.free;rw[TK] at this;exact this
   refine hRR s8 _ _ _ m J8 hm ?_ (Nt _) (q _ Up)
   rw[aF (Nat.ne_of_gt (OY _))]
   exact hCf
  .-- a turn
   have ti:=T.item X' Rh hw hK VA i _ s' _ H' (fun _ _=>False) I5 (RL Zn (D1 _)) TV go
   rw[hA] at ti
   refine thn ti fun r s5 ⟨u,hr,h5⟩=>?_
   subst hr
   refine thn h5 fun _ s6 ⟨x,H6,I6,r6,y6,WX,fr6⟩=>?_
   have YC:=I6.pinned (RL fr6 (D1 _)) (T.obj _ _ WX)
   have ag:=hg' _ s6 _ H6 x u _ YC r6 (Ss _ _ _ _ (step x H6 y6))
   rw[Rh,hw,hA,Vf] at ag
   refine thn ag fun _ s7 ⟨QB,H7,I7,q7,hl7,hj7⟩=>?_
   have ZD:=ht' _ s7 QB H7 _ I7 q7
   rw[Rh,hw,hA,Vf] at ZD
   refine thn ZD fun b s8 ⟨H8,I8,q8⟩=>?_
   have again:∀{s9:Shared}{H9:Hp}{vs9:List V}{its9:List Value}{n9:Nat},Inv X' ([(s2.heap.objs.size,lo its9 n9)]++mv fp s6.heap) QB H9 s9->Vals vs9 its9->N vs9 H9 ->
     ∃m,m<n/\∃i vs ML nn σ' H',Inv X' [(s2.heap.objs.size,lo ML nn)] σ' H' s9/\(∀(j:Nat) v,(gT tn.length idx σ)[j]?=some (some v)->σ'[j]?=some (some v))/\σ'.length=(gT tn.length idx σ).length/\UJ i s9.heap/\(∀b∈fp,H' b=none)/\Vals vs ML/\W i m vs H':=by
    intro s9 H9 vs9 its9 n9 I9 r9 n9'
    obtain ⟨m',hm',w9⟩:=hN _ _ n9'
    refine⟨m',hm',i+1,vs9,its9,n9,QB,H9,I9.pw,fun j v e=>by rw[hj7 j (CN e)];exact e,hl7,T.keep _ _ _ WX fun b hb o e=>(I9.pin (b,o) (KE _ (KE _ (lI hb e)))).1,fun b hb=>?_,r9,w9⟩
    obtain ⟨o,e,d⟩:=T.obj _ _ WX b hb
    exact (I9.pin (b,o) (KE _ (KE _ (lI hb e)))).2.1
   cases b with
   |false =>
    exact again I8 rv q8
   |true =>
    have ae:=he' _ s8 QB H8 _ I8 q8
    rw[Rh,hw,hA,Vf] at ae
    refine thn ae fun xv s9 ⟨v9,H9,I9,r9,q9⟩=>?_
    obtain ⟨T4,Up,Y2,hp4,_⟩:=I9.pin (s2.heap.objs.size,lo ML nn) (KE _ (Mf _ (Gc.mpr rfl)))
    have rvl:=rv.length
    refine append_at (hsz:=by rw[Mz];omega) T4 fun h' RI RY=>?_
    have nfp:∀p∈mv fp s6.heap,p.1≠s2.heap.objs.size:=fun p hp z=>Dfp (by rw[<- z];exact (uY hp).1)
    have I10:Inv X' (mv fp s6.heap) QB H9 s9:=I9.pA fun p hp=>I9.pin p (KE _ (KE _ hp))
    have ZG:Inv X' (mv fp s6.heap) QB H9 { s9 with heap:=h' }:=I10.turned (t':=s9.toks) (it:=s2.heap.objs.size) (fun b o hb e=>RI.extBut b o hb e) Up Y2 (.inr (by rw[Xn];exact Mi _))
     (fun x c e z=>by
      obtain ⟨v,o,q1,q2⟩:=I9.cell x c e
      rw[z,T4] at q1
      cases q1
      cases q2) (fun p hp=>by rw[Xt] at hp;exact nfp p hp)
    have eo:({ cls:=.type "list",data:=.seq (ML.toArray.push xv) (nn+1) }:Obj)=lo (ML++[xv]) (nn+1):=by
     show ({ cls:=.type "list",data:=.seq (ML.toArray.push xv) (nn+1) }:Obj)={ cls:=.type "list",data:=.seq (ML++[xv]).toArray (nn+1) }
     rw[List.push_toArray]
    refine again (vs9:=vs++[v9]) (its9:=ML++[xv]) (n9:=nn+1) (ZG.pA fun p hp=>?_) (rv.append (.cons r9 .nil)) q9
    rcases Mc.mp hp with hp|hp
    .obtain rfl:=Gc.mp hp
     refine⟨RY.trans (congrArg some eo),Up,Y2,hp4,fun v z=>?_⟩
     have z':Data.seq _ _=Data.cell v:=z
     cases z'
    .exact ZG.pin p (KE _ hp)
 refine codeAny_compStart_list ?_ ?_
 .have:=Va _ rfl
  rw[Vw] at this
  exact this
 .refine T.self _ 0 _ _ _ (T.keep _ _ _ TB (fun b hb o e=>pushCells_keeps _ _ _ _ (Heap.get?_push_of_some _ (Heap.get?_push_of_some _ e)))) ?_
  have:=Va _ rfl
  rw[Vw] at this
  exact this
def Bf(I:Inv X pins σ H s2)(S:aH X scope tn cap idx):closureFor scope X.env=pure (ft X.env scope.names []) :=
 uw fun n hm=>I.ok.has n (S.fr _ hm rfl)
def zb(S:aH X scope tn cap idx):∀x∈scope.names,x.2=.local->scope.names.lookup x.1=some .local:=fun x hx e=>by
 obtain ⟨n,k⟩:=x
 have e':k=NameKind.local:=e
 subst e'
 exact mY S.nd hx
def rj{P5 M7 iter:Expr}{QC:List Expr}{MH:Pos}{wi:TI}{g:TG}{tt:TT}{te:TE}(Px:X.calm=true)(S:aH X scope tn cap idx)(hi:PI X M7 iter wi)(Ss:gi tn.length g)
  (hg:∀cs C fp s₀ H₀,PG (cxC X (tn++cap) scope cs C fp s₀ H₀) M7 g) (ht:∀cs C fp s₀ H₀,PTs (cxC X (tn++cap) scope cs C fp s₀ H₀) QC tt)
  (he:∀cs C fp s₀ H₀,PE (cxC X (tn++cap) scope cs C fp s₀ H₀) P5 te) (hs:∀x,foldedSetIterable iter X.env x=pure x:=by intro _;rfl) :
  PE X (.ListComp P5 [⟨M7,iter,QC,0⟩] scope MH) (vW wi g tt te tn.length idx):=by
 intro pins s σ H Q I h
 rw[eval_ListComp]
 refine wpAny_comprehension_free (use:=none) rfl hs (Bf I S) S.kind (zb S) (thn (hi pins s σ H _ I h) fun v s1 h1=>thn h1 fun V5 s2 h2=>?_)
 obtain ⟨it,fp,UJ,J,H2,e,I2,T,TB,f2,hW⟩:=h2
 subst e
 refine su Px S Ss hg ht he I2 T TB f2 hW fun s8 H8 C D m I8 hm hC hsz q=>?_
 refine⟨m,hm,fun h' RI=>⟨.ref D,H8,?_,rfl,q⟩⟩
 exact I8.turned (t':=s8.toks) (it:=C) (fun b o hb e=>RI.extBut b o hb e) hC (fun z=>absurd I2.lt (by rw[<- z];exact OX.mpr hsz)) (.inr (Mq I2.sz hsz))
  (fun x c e z=>by
   obtain ⟨v,q⟩:=I2.cell x c e
   exact absurd q.lt (by rw[z];exact OX.mpr hsz)) (fun p hp z=>absurd (Heap.lt_size (I2.pin p hp).1) (by rw[z];exact OX.mpr hsz))
def Bq{P5 M7 iter:Expr}{QC:List Expr}{MH S8 py:Pos}{wi:TI}{g:TG}{tt:TT}{te:TE}{i:Nat}{y:Str}(Px:X.calm=true)(S:aH X scope tn cap idx)(hN:X.N.Nodup)(hy:X.N[i]?=some y)(hx:Loc X.env.scope y)
  (hi:PI X M7 iter wi) (Ss:gi tn.length g)
  (hg:∀cs C fp s₀ H₀,PG (cxC X (tn++cap) scope cs C fp s₀ H₀) M7 g) (ht:∀cs C fp s₀ H₀,PTs (cxC X (tn++cap) scope cs C fp s₀ H₀) QC tt)
  (he:∀cs C fp s₀ H₀,PE (cxC X (tn++cap) scope cs C fp s₀ H₀) P5 te)
  (Vi:swapsWith (.ListComp P5 [⟨M7,iter,QC,0⟩] scope MH) (some (.Name y py)) S8.line X.env=pure true:=by rfl) (hs:∀x,foldedSetIterable iter X.env x=pure x:=by intro _;rfl)
  (hf:X.fn y=true\/X.env.scope.names.lookup y=some .local:=by first|exact .inl rfl|exact .inr rfl|assumption) :
  PS X (.Assign [.Name y py] (.ListComp P5 [⟨M7,iter,QC,0⟩] scope MH) S8) (mn (vW wi g tt te tn.length idx) (kP i)):=by
 intro pins s σ H D I h
 rw[exec_Assign_Name_used _ _ _ _ Vi]
 refine wpAny_bind (wpAny_standAt (wpAny_bind ?_))
 show wpAny _ X.A (do let _ <- comprehension (.ListComp P5 [⟨M7,iter,QC,0⟩] scope MH) scope X.env _ (newList []) false (eval iter X.env) (some (assign (.Name y py) X.env))) _ _ s
 refine wpAny_bind (wpAny_mono (wpAny_comprehension_free (use:=some (assign (.Name y py) X.env)) (Q:=fun _ s'=>SP X pins D .next s') rfl hs (Bf I S) S.kind (zb S)
  (thn (hi pins s σ H _ I h) fun v s1 h1=>thn h1 fun V5 s2 h2=>?_)) (fun _ s' hq=>wpAny_pure (wpAny_pure hq)) fun _ _ e=>e)
 obtain ⟨it,fp,UJ,J,H2,e,I2,T,TB,f2,hW⟩:=h2
 subst e
 refine su (Q:=fun x H1=>kP i x σ H1 D.nx) Px S Ss hg ht he I2 T TB f2 hW fun s8 H8 C DD m I8 hm hC hsz q=>?_
 show wpAny _ X.A (assign (.Name y py) X.env (.ref DD)) _ _ _
 have CL:C≠X.env.locals:=fun z=>absurd I2.lt (by rw[<- z];exact OX.mpr hsz)
 have CC:∀x c,X.env.cells.lookup x=some c->c≠C:=fun x c e z=>by
  obtain ⟨v,q⟩:=I2.cell x c e
  exact absurd q.lt (by rw[z];exact OX.mpr hsz)
 refine wpAny_assign_Name (vT (v:=.ref DD) I8 hN hy hx rfl (fun s9 I9 ⟨a,Wb,ha⟩=>?_) hf)
 have aC:C≠a:=fun z=>by
  rcases ha with e|e
  .exact CL (z.trans e)
  .exact CC _ _ e z.symm
 refine⟨m,hm.sameBut Wb aC,fun h' RI=>⟨_,H8,?_,q⟩⟩
 exact I9.turned (t':=s9.toks) (it:=C) (fun b o hb e=>RI.extBut b o hb e) hC CL (.inr (Mq I2.sz hsz)) CC (fun p hp z=>absurd (Heap.lt_size (I2.pin p hp).1) (by rw[z];exact OX.mpr hsz))
end
def Gk(J:It)(g:TG)(te:TE)(k:Nat)(idx:List Nat)(σ:St)(H1:Hp)(Q:VK):Prop :=
 ∃W:Nat->Nat->List V->Hp->Prop,(∃m,W 0 m [] H1)/\∀i m vs H,W i m vs H ->
  (J.stop i H/\vs.length<=sizeLine/\∀p,H p=none->Q (.ref p) (upd H p (.lst vs))) \/
  (J.go i H/\vs.length<=sizeLine/\∃N:List V->Hp->Prop,(∀Tt H',N Tt H'->∃m',m' < m/\W (i+1) m' Tt H')/\∀x H',J.yld i H x H'->g x (gT k idx σ) H' fun Qo H2=>te Qo H2 fun v H4=>N (vs++[v]) H4)
def sW(wi:TI)(g:TG)(te:TE)(k:Nat)(idx:List Nat):TE:=fun σ H Q=>wi σ H fun J H1=>Gk J g te k idx σ H1 Q
def pG{wi:TI}{g:TG}{te:TE}{k:Nat}{idx:List Nat}:sW wi g te k idx=vW wi g G7 te k idx:=by
 have e:∀(A B:Prop),(if true=true then A else B)=A:=fun A B=>if_pos rfl
 unfold sW Gk vW G7
 simp only[if_true]
section
variable {X:Cx}{scope:Scope}{tn cap:List Str}{idx:List Nat}
def bK{P5 M7 iter:Expr}{MH:Pos}{wi:TI}{g:TG}{te:TE}(S:aH X scope tn cap idx)(hi:PI X M7 iter wi)(Ss:gi tn.length g)
  (hg:∀cs C fp s₀ H₀,PG (cxC X (tn++cap) scope cs C fp s₀ H₀) M7 g)
  (he:∀cs C fp s₀ H₀,PE (cxC X (tn++cap) scope cs C fp s₀ H₀) P5 te) (Px:X.calm=true:=by rfl) (hs:∀x,foldedSetIterable iter X.env x=pure x:=by intro _;rfl) :
  PE X (.ListComp P5 [⟨M7,iter,[],0⟩] scope MH) (sW wi g te tn.length idx):=by
 rw[pG]
 exact rj Px S hi Ss hg (fun _ _ _ _ _=>Cu) he hs
def xP{P5 M7 iter:Expr}{MH S8 py:Pos}{wi:TI}{g:TG}{te:TE}{i:Nat}{y:Str}(S:aH X scope tn cap idx)(hN:X.N.Nodup)(hy:X.N[i]?=some y)(hx:Loc X.env.scope y)
  (hi:PI X M7 iter wi) (Ss:gi tn.length g)
  (hg:∀cs C fp s₀ H₀,PG (cxC X (tn++cap) scope cs C fp s₀ H₀) M7 g)
  (he:∀cs C fp s₀ H₀,PE (cxC X (tn++cap) scope cs C fp s₀ H₀) P5 te) (Px:X.calm=true:=by rfl)
  (Vi:swapsWith (.ListComp P5 [⟨M7,iter,[],0⟩] scope MH) (some (.Name y py)) S8.line X.env=pure true:=by rfl) (hs:∀x,foldedSetIterable iter X.env x=pure x:=by intro _;rfl)
  (hf:X.fn y=true\/X.env.scope.names.lookup y=some .local:=by first|exact .inl rfl|exact .inr rfl|assumption) :
  PS X (.Assign [.Name y py] (.ListComp P5 [⟨M7,iter,[],0⟩] scope MH) S8) (mn (sW wi g te tn.length idx) (kP i)):=by
 rw[pG]
 exact Bq Px S hN hy hx hi Ss hg (fun _ _ _ _ _=>Cu) he Vi hs hf
end
end L2
namespace L2
open PySem PySem.Spec PyProof.Rows
inductive D where
 |non|bl (b:Bool)|int (i:Int)|str (x:Str)|lst (ds:List D)|tup (ds:List D)
mutual
def Rf(H:Hp):D->V->List Addr->Prop
 |.non,v,fp=>v=.non/\fp=[]
 |.bl b,v,fp=>v=.bl b/\fp=[]
 |.int i,v,fp=>v=.int i/\fp=[]
 |.str x,v,fp=>v=.str x/\fp=[]
 |.lst ds,v,fp=>∃a xs fq,v=.ref a/\H a=some (.lst xs)/\fp=a::fq/\Rfs H ds xs fq
 |.tup ds,v,fp=>∃a xs,v=.ref a/\H a=some (.tup xs)/\Rfs H ds xs fp
def Rfs(H:Hp):List D->List V->List Addr->Prop
 |[],xs,fp=>xs=[]/\fp=[]
 |d::ds,xs,fp=>∃x r f1 f2,xs=x::r/\fp=f1++f2/\Rf H d x f1/\Rfs H ds r f2
end
def Rp(H:Hp)(d:D)(v:V):Prop:=∃fp,Rf H d v fp
def Rfs.length{H:Hp}:∀{ds:List D}{vs:List V}{fp:List Addr},Rfs H ds vs fp->vs.length=ds.length
 |[],_,_,h=>by obtain ⟨rfl,_⟩:=h;rfl
 |d::ds,vs,fp,h=>by
  obtain ⟨x,r,f1,f2,e1,e2,h1,h2⟩:=h
  subst e1
  rw[L6,L6,Rfs.length h2]
def Rfs.get{H:Hp}:∀{ds:List D}{vs:List V}{fp:List Addr}{i:Nat}{d:D},Rfs H ds vs fp->ds[i]?=some d->∃v f,vs[i]?=some v/\Rf H d v f/\(∀a∈f,a∈fp)
 |[],_,_,_,_,_,e=>by simp at e
 |d::ds,vs,fp,0,d',h,e=>by
  obtain ⟨x,r,f1,f2,rfl,rfl,h1,h2⟩:=h
  simp at e;subst e
  exact⟨x,f1,rfl,h1,fun a ha=>Mf _ ha⟩
 |d::ds,vs,fp,i+1,d',h,e=>by
  obtain ⟨x,r,f1,f2,rfl,rfl,h1,h2⟩:=h
  obtain ⟨v,f,e1,h3,k⟩:=Rfs.get (i:=i) h2 (by simpa using e)
  exact⟨v,f,by simpa using e1,h3,fun a ha=>KE _ (k a ha)⟩
abbrev dI(xs:List Int):D:=.lst (xs.map D.int)
abbrev dT(t:List (List Int)):D:=.lst (t.map dI)
end L2
namespace L2
open PySem PySem.Spec PyProof.Rows
section
variable {X:Cx}
def yy:iZ X (.builtin "isinstance") (fun xs H Q=>∃x n t b,xs=[x,.ty n]/\nj X.K H x t/\PySem.W.kitOne X.K t (.type n)=some b/\Q (.bl b) H):=by
 intro pins s σ H xs us Q I r h
 obtain ⟨x,n,t,b,rfl,ty,e,q⟩:=h
 obtain ⟨u,w',rfl,rx,rn⟩:=vals2 r
 obtain rfl:w'=Value.type n:=rn
 exact CW I rx ty e fun tk=>⟨.bl b,H,I.tok _,rfl,q⟩
def kO:∀{xs:List Int}{us:List Value},Vals (xs.map V.int) us->IntsAre us xs
 |[],us,r=>by cases r;exact .nil
 |x::xs,us,r=>by
  cases r with
  |cons r rr =>
   obtain ⟨t,rfl⟩:=r
   exact .cons _ _ (kO rr)
def FI(hc:X.calm=true):iZ X (.builtin "sum") (fun xs H Q=>∃(a:Addr) (ns:List Int),xs=[.ref a]/\SqL X.K H a (ns.map V.int)/\Q (.int ns.sum) H):=by
 intro pins s σ H xs us Q I r h
 obtain ⟨a,ns,rfl,hS,q⟩:=h
 obtain ⟨u,rfl,ru⟩:=vals1 r
 obtain rfl:u=Value.ref a:=ru
 obtain ⟨ML,rv,pl,hz⟩:=I.list hS
 have hi:=kO rv
 obtain ⟨PX,e⟩:=hi.allInts.items
 have hl:s.heap.IsList a (intItems PX):=by rw[<- e];exact pl.isList
 refine sum_intListG (I.ok.hd hc) hl fun h' tk t' hk=>⟨.int ns.sum,H,I.kept hk,⟨t',?_⟩,q⟩
 have e2:numsOf ML.toArray.toList=ns:=hi.numsOf
 rw[e,nums_intItems] at e2
 rw[preSum_eq,M1 (by simp),e2]
end
section
end
mutual
def D.plain:D->Bool
 |.non=>true|.bl _=>false|.int _=>true|.str _=>true
 |.lst ds=>D.fY ds|.tup ds=>D.fY ds
def D.fY:List D->Bool
 |[]=>true
 |d::ds=>D.plain d && D.fY ds
end
mutual
def D.depth:D->Nat
 |.lst ds=>D.gO ds+1|.tup ds=>D.gO ds+1
 |_=>0
def D.gO:List D->Nat
 |[]=>0
 |d::ds=>max (D.depth d) (D.gO ds)
end
mutual
def D.eqb:D->D->Bool
 |.non,.non=>true
 |.int i,.int j=>i == j
 |.str i,.str j=>i == j
 |.lst a,.lst b=>D.lB a b
 |.tup a,.tup b=>D.lB a b
 |_,_=>false
def D.lB:List D->List D->Bool
 |[],[]=>true
 |a::as,b::bs=>D.eqb a b && D.lB as bs
 |_,_=>false
end
def D.kQ:∀{a b:List D},D.lB a b=(decide (a.length=b.length) && (List.range a.length).all fun i=>match a[i]?,b[i]? with|some x,some y=>D.eqb x y|_,_=>false)
 |[],[]=>rfl
 |[],b::bs=>by simp [D.lB]
 |a::as,[]=>by simp [D.lB]
 |a::as,b::bs=>by
  rw[D.lB,D.kQ (a:=as) (b:=bs),L6,List.range_succ_eq_map,List.all_cons,Po]
  by_cases h:as.length=bs.length
  .simp [h,Function.comp_def]
  .simp [h]
end L2
namespace L2
open PySem PySem.Spec PyProof.Rows
open PySem.SeqAt
def D.fI:∀{ds:List D}{i:Nat}{d:D},D.fY ds=true->ds[i]?=some d->d.plain=true
 |[],i,d,_,e=>by simp at e
 |c::ds,0,d,h,e=>by
  simp at e;subst e
  rw[D.fY,Nb] at h
  exact h.1
 |c::ds,i+1,d,h,e=>by
  rw[D.fY,Nb] at h
  exact D.fI (i:=i) h.2 (by simpa using e)
def D.jF:∀{ds:List D}{i:Nat}{d:D},ds[i]?=some d->d.depth<=D.gO ds
 |[],i,d,e=>by simp at e
 |c::ds,0,d,e=>by
  simp at e;subst e
  rw[D.gO]
  exact Nat.le_max_left _ _
 |c::ds,i+1,d,e=>by
  rw[D.gO]
  exact Mq (D.jF (i:=i) (by simpa using e)) (Nat.le_max_right _ _)
def D.Ef{a b:List D}(hl:a.length=b.length)(f:Nat->Bool)(h:∀i x y,a[i]?=some x->b[i]?=some y->f i=D.eqb x y):D.lB a b=(List.range a.length).all f:=by
 rw[D.kQ,decide_eq_true hl,Bool.true_and,NQ]
 simp only[MP,Ms]
 constructor
 .intro q i hi
  have:=q i hi
  rw[dz hi,dz (show i<b.length by omega)] at this
  rw[h i _ _ (dz hi) (dz (show i<b.length by omega))]
  exact this
 .intro q i hi
  have:=q i hi
  rw[h i _ _ (dz hi) (dz (show i<b.length by omega))] at this
  rw[dz hi,dz (show i<b.length by omega)]
  exact this
def D.oQ{a b:List D}(hl:a.length≠b.length):D.lB a b=false:=by
 rw[D.kQ,decide_eq_false hl,Bool.false_and]
def Cb{H:Hp}:∀(n:Nat) (d e:D) (v:V),d.depth<=n->Rp H d v->Rp H e v->d.plain=true->D.eqb d e=true:=by
 intro n
 induction n with
 |zero =>
  intro d e v hn hd he hp
  obtain ⟨f,hd⟩:=hd
  obtain ⟨g,he⟩:=he
  cases d with
  |non=>obtain ⟨rfl,_⟩:=hd;cases e with
   |non=>rfl
   |lst ds=>obtain ⟨_,_,_,z,_⟩:=he;cases z
   |tup ds=>obtain ⟨_,_,z,_⟩:=he;cases z
   |_=>obtain ⟨z,_⟩:=he;cases z
  |bl b=>cases hp
  |int i=>obtain ⟨rfl,_⟩:=hd;cases e with
   |int j=>obtain ⟨z,_⟩:=he;cases z;simp [D.eqb]
   |lst ds=>obtain ⟨_,_,_,z,_⟩:=he;cases z
   |tup ds=>obtain ⟨_,_,z,_⟩:=he;cases z
   |_=>obtain ⟨z,_⟩:=he;cases z
  |str i=>obtain ⟨rfl,_⟩:=hd;cases e with
   |str j=>obtain ⟨z,_⟩:=he;cases z;simp [D.eqb]
   |lst ds=>obtain ⟨_,_,_,z,_⟩:=he;cases z
   |tup ds=>obtain ⟨_,_,z,_⟩:=he;cases z
   |_=>obtain ⟨z,_⟩:=he;cases z
  |lst ds=>rw[D.depth] at hn;omega
  |tup ds=>rw[D.depth] at hn;omega
 |succ n ih =>
  intro d e v hn hd he hp
  have go:∀(ds es:List D) (xs:List V) (f g:List Addr),D.gO ds<=n->Rfs H ds xs f->Rfs H es xs g->D.fY ds=true->D.lB ds es=true:=by
   intro ds es xs f g hn h1 h2 hp
   have l1:=h1.length
   have l2:=h2.length
   rw[D.Ef (by omega) (fun _=>true) (fun i x y e1 e2=>?_)]
   .simp
   .obtain ⟨v1,f1,q1,r1,_⟩:=h1.get e1
    obtain ⟨v2,f2,q2,r2,_⟩:=h2.get e2
    rw[q1] at q2;cases q2
    exact (ih x y v1 (Mq (D.jF e1) hn) ⟨_,r1⟩ ⟨_,r2⟩ (D.fI hp e1)).symm
  obtain ⟨f,hd⟩:=hd
  obtain ⟨g,he⟩:=he
  cases d with
  |non=>obtain ⟨rfl,_⟩:=hd;cases e with
   |non=>rfl
   |lst ds=>obtain ⟨_,_,_,z,_⟩:=he;cases z
   |tup ds=>obtain ⟨_,_,z,_⟩:=he;cases z
   |_=>obtain ⟨z,_⟩:=he;cases z
  |bl b=>cases hp
  |int i=>obtain ⟨rfl,_⟩:=hd;cases e with
   |int j=>obtain ⟨z,_⟩:=he;cases z;simp [D.eqb]
   |lst ds=>obtain ⟨_,_,_,z,_⟩:=he;cases z
   |tup ds=>obtain ⟨_,_,z,_⟩:=he;cases z
   |_=>obtain ⟨z,_⟩:=he;cases z
  |str i=>obtain ⟨rfl,_⟩:=hd;cases e with
   |str j=>obtain ⟨z,_⟩:=he;cases z;simp [D.eqb]
   |lst ds=>obtain ⟨_,_,_,z,_⟩:=he;cases z
   |tup ds=>obtain ⟨_,_,z,_⟩:=he;cases z
   |_=>obtain ⟨z,_⟩:=he;cases z
  |lst ds =>
   obtain ⟨a,xs,fq,rfl,e1,rfl,hd⟩:=hd
   cases e with
   |lst es =>
    obtain ⟨b,ys,gq,z,e2,rfl,he⟩:=he
    cases z
    rw[e1] at e2;cases e2
    rw[D.eqb]
    exact go ds es xs fq gq (by rw[D.depth] at hn;omega) hd he hp
   |tup es =>
    obtain ⟨b,ys,z,e2,he⟩:=he
    cases z
    rw[e1] at e2;cases e2
   |_=>obtain ⟨z,_⟩:=he;cases z
  |tup ds =>
   obtain ⟨a,xs,rfl,e1,hd⟩:=hd
   cases e with
   |tup es =>
    obtain ⟨b,ys,z,e2,he⟩:=he
    cases z
    rw[e1] at e2;cases e2
    rw[D.eqb]
    exact go ds es xs f g (by rw[D.depth] at hn;omega) hd he hp
   |lst es =>
    obtain ⟨b,ys,gq,z,e2,rfl,he⟩:=he
    cases z
    rw[e1] at e2;cases e2
   |_=>obtain ⟨z,_⟩:=he;cases z
def JM{X:Cx}{pins:List (Addr × Obj)}{σ:St}{H:Hp}{s:Shared}(I:Inv X pins σ H s):∀(n:Nat) (d e:D) (x y:V) (u w:Value) (A:Around),d.depth<=n->Rp H d x->Rp H e y->RelV x u->RelV y w->d.plain=true->e.plain=true->A.units+n<cLine ->
  EqAt A s u w (D.eqb d e):=by
 intro n
 induction n with
 |zero =>
  intro d e x y u w A hn hd he rx ry pd pe hu
  obtain ⟨f,hd⟩:=hd
  obtain ⟨g,he⟩:=he
  have Qk:A.units<cLine:=by omega
  cases d with
  |non =>
   obtain ⟨rfl,_⟩:=hd;obtain rfl:u=.none:=rx
   cases e with
   |non=>obtain ⟨rfl,_⟩:=he;obtain rfl:w=.none:=ry;exact EqAt.same _
   |bl b=>cases pe
   |int j=>obtain ⟨rfl,_⟩:=he;obtain ⟨t,rfl⟩:=ry;exact EqAt.none_int _ _
   |str j=>obtain ⟨rfl,_⟩:=he;obtain ⟨t,rfl⟩:=ry;exact EqAt.none_str _ _
   |lst es=>obtain ⟨b,ys,gq,rfl,e2,_,he⟩:=he;obtain rfl:w=.ref b:=ry;obtain ⟨_,_,pl,_⟩:=I.list (SqL.of e2);exact EqAt.none_list pl.isList Qk
   |tup es=>obtain ⟨b,ys,rfl,e2,he⟩:=he;obtain rfl:w=.ref b:=ry;obtain ⟨_,_,pl,_⟩:=I.tuple (SqT.of e2);exact EqAt.none_tuple pl Qk
  |bl b=>cases pd
  |int i =>
   obtain ⟨rfl,_⟩:=hd;obtain ⟨t0,rfl⟩:=rx
   cases e with
   |non=>obtain ⟨rfl,_⟩:=he;obtain rfl:w=.none:=ry;exact EqAt.int_none _ _
   |bl b=>cases pe
   |int j=>obtain ⟨rfl,_⟩:=he;obtain ⟨t,rfl⟩:=ry;exact EqAt.int_int _ _ _ _
   |str j=>obtain ⟨rfl,_⟩:=he;obtain ⟨t,rfl⟩:=ry;exact EqAt.int_str _ _ _ _
   |lst es=>obtain ⟨b,ys,gq,rfl,e2,_,he⟩:=he;obtain rfl:w=.ref b:=ry;obtain ⟨_,_,pl,_⟩:=I.list (SqL.of e2);exact EqAt.int_list _ _ pl.isList Qk
   |tup es=>obtain ⟨b,ys,rfl,e2,he⟩:=he;obtain rfl:w=.ref b:=ry;obtain ⟨_,_,pl,_⟩:=I.tuple (SqT.of e2);exact EqAt.int_tuple _ _ pl Qk
  |str i =>
   obtain ⟨rfl,_⟩:=hd;obtain ⟨t0,rfl⟩:=rx
   cases e with
   |non=>obtain ⟨rfl,_⟩:=he;obtain rfl:w=.none:=ry;exact EqAt.str_none _ _
   |bl b=>cases pe
   |int j=>obtain ⟨rfl,_⟩:=he;obtain ⟨t,rfl⟩:=ry;exact EqAt.str_int _ _ _ _
   |str j=>obtain ⟨rfl,_⟩:=he;obtain ⟨t,rfl⟩:=ry;exact EqAt.str_str _ _ _ _
   |lst es=>obtain ⟨b,ys,gq,rfl,e2,_,he⟩:=he;obtain rfl:w=.ref b:=ry;obtain ⟨_,_,pl,_⟩:=I.list (SqL.of e2);exact EqAt.str_list _ _ pl.isList Qk
   |tup es=>obtain ⟨b,ys,rfl,e2,he⟩:=he;obtain rfl:w=.ref b:=ry;obtain ⟨_,_,pl,_⟩:=I.tuple (SqT.of e2);exact EqAt.str_tuple _ _ pl Qk
  |lst ds=>rw[D.depth] at hn;omega
  |tup ds=>rw[D.depth] at hn;omega
 |succ n ih =>
  intro d e x y u w A hn hd he rx ry pd pe hu
  have Qk:A.units<cLine:=by omega
  have ud:A.in1.units+n<cLine:=by show A.units+1+n<cLine;omega
  cases d with
  |non=>exact ih _ _ x y u w A (by simp [D.depth]) hd he rx ry pd pe (by omega)
  |bl b=>cases pd
  |int i=>exact ih _ _ x y u w A (by simp [D.depth]) hd he rx ry pd pe (by omega)
  |str i=>exact ih _ _ x y u w A (by simp [D.depth]) hd he rx ry pd pe (by omega)
  |lst ds =>
   have X7:=hd
   have X4:=he
   obtain ⟨f,a,xs,fq,rfl,e1,rfl,hd⟩:=hd
   obtain rfl:u=.ref a:=rx
   obtain ⟨ML,rv,pl,hz⟩:=I.list (SqL.of e1)
   obtain ⟨g,he⟩:=he
   cases e with
   |non=>obtain ⟨rfl,_⟩:=he;obtain rfl:w=.none:=ry;exact EqAt.list_none pl.isList Qk
   |bl b=>cases pe
   |int j=>obtain ⟨rfl,_⟩:=he;obtain ⟨t,rfl⟩:=ry;exact EqAt.list_int _ _ pl.isList Qk
   |str j=>obtain ⟨rfl,_⟩:=he;obtain ⟨t,rfl⟩:=ry;exact EqAt.list_str _ _ pl.isList Qk
   |tup es=>obtain ⟨b,ys,rfl,e2,he⟩:=he;obtain rfl:w=.ref b:=ry;obtain ⟨_,_,Sm,_⟩:=I.tuple (SqT.of e2);exact EqAt.list_tuple pl.isList Sm Qk
   |lst es =>
    obtain ⟨b,ys,gq,rfl,e2,rfl,he⟩:=he
    obtain rfl:w=.ref b:=ry
    by_cases Qm:a=b
    .subst Qm
     rw[Cb _ _ _ _ (Mi _) X7 X4 pd]
     exact EqAt.same _
    .obtain ⟨Pp,Sl,Sm,Xf⟩:=I.list (SqL.of e2)
     refine EqAt.of_refs Qm ?_
     have l1:=rv.length
     have l2:=Sl.length
     have m1:=hd.length
     have m2:=he.length
     by_cases hl:ds.length=es.length
     .have key:=RcAt.lists (A:=A) (e:=fun i=>match ds[i]?,es[i]? with|some x,some y=>D.eqb x y|_,_=>false) pl.isList Sm.isList (by simp;omega) Qk (fun j h1 h2=>by
       have j1:j<ds.length:=by simp at h1;omega
       have j2:j<es.length:=by omega
       simp only[dz j1,dz j2]
       obtain ⟨v1,f1,q1,r1,_⟩:=hd.get (dz j1)
       obtain ⟨v2,f2,q2,r2,_⟩:=he.get (dz j2)
       obtain ⟨u1,p1,t1⟩:=rv.get q1
       obtain ⟨u2,p2,t2⟩:=Sl.get q2
       have i1:ML.toArray[j]=u1:=by
        have:=L7.mp p1
        obtain ⟨_,z⟩:=this
        simpa using z
       have i2:Pp.toArray[j]=u2:=by
        have:=L7.mp p2
        obtain ⟨_,z⟩:=this
        simpa using z
       rw[i1,i2]
       exact ih _ _ v1 v2 u1 u2 A.in1 (by have:=D.jF (dz j1);rw[D.depth] at hn;omega) ⟨_,r1⟩ ⟨_,r2⟩ t1 t2 (D.fI pd (dz j1)) (D.fI pe (dz j2)) ud)
      have e3:D.eqb (.lst ds) (.lst es)=(List.range ML.toArray.size).all fun i=>match ds[i]?,es[i]? with|some x,some y=>D.eqb x y|_,_=>false:=by
       rw[D.eqb,D.kQ,decide_eq_true hl,Bool.true_and]
       rw[show ML.toArray.size=ds.length by simp;omega]
       all_goals rfl
      rw[e3]
      exact key
     .rw[D.eqb,D.oQ hl]
      exact RcAt.lists_lengths pl.isList Sm.isList (by simp;omega) Qk
  |tup ds =>
   have X7:=hd
   have X4:=he
   obtain ⟨f,a,xs,rfl,e1,hd⟩:=hd
   obtain rfl:u=.ref a:=rx
   obtain ⟨ML,rv,pl,hz⟩:=I.tuple (SqT.of e1)
   obtain ⟨g,he⟩:=he
   cases e with
   |non=>obtain ⟨rfl,_⟩:=he;obtain rfl:w=.none:=ry;exact EqAt.tuple_none pl Qk
   |bl b=>cases pe
   |int j=>obtain ⟨rfl,_⟩:=he;obtain ⟨t,rfl⟩:=ry;exact EqAt.tuple_int _ _ pl Qk
   |str j=>obtain ⟨rfl,_⟩:=he;obtain ⟨t,rfl⟩:=ry;exact EqAt.tuple_str _ _ pl Qk
   |lst es=>obtain ⟨b,ys,gq,rfl,e2,_,he⟩:=he;obtain rfl:w=.ref b:=ry;obtain ⟨_,_,Sm,_⟩:=I.list (SqL.of e2);exact EqAt.tuple_list pl Sm.isList Qk
   |tup es =>
    obtain ⟨b,ys,rfl,e2,he⟩:=he
    obtain rfl:w=.ref b:=ry
    by_cases Qm:a=b
    .subst Qm
     rw[Cb _ _ _ _ (Mi _) X7 X4 pd]
     exact EqAt.same _
    .obtain ⟨Pp,Sl,Sm,Xf⟩:=I.tuple (SqT.of e2)
     refine EqAt.of_refs Qm ?_
     have l1:=rv.length
     have l2:=Sl.length
     have m1:=hd.length
     have m2:=he.length
     have key:=RcAt.tuples (A:=A) (e:=fun i=>match ds[i]?,es[i]? with|some x,some y=>D.eqb x y|_,_=>false) pl Sm Qk (fun j h1 h2=>by
       have j1:j<ds.length:=by simp at h1;omega
       have j2:j<es.length:=by simp at h2;omega
       simp only[dz j1,dz j2]
       obtain ⟨v1,f1,q1,r1,_⟩:=hd.get (dz j1)
       obtain ⟨v2,f2,q2,r2,_⟩:=he.get (dz j2)
       obtain ⟨u1,p1,t1⟩:=rv.get q1
       obtain ⟨u2,p2,t2⟩:=Sl.get q2
       have i1:ML.toArray[j]=u1:=by
        have:=L7.mp p1
        obtain ⟨_,z⟩:=this
        simpa using z
       have i2:Pp.toArray[j]=u2:=by
        have:=L7.mp p2
        obtain ⟨_,z⟩:=this
        simpa using z
       rw[i1,i2]
       exact ih _ _ v1 v2 u1 u2 A.in1 (by have:=D.jF (dz j1);rw[D.depth] at hn;omega) ⟨_,r1⟩ ⟨_,r2⟩ t1 t2 (D.fI pd (dz j1)) (D.fI pe (dz j2)) ud)
     have e3:D.eqb (.tup ds) (.tup es)=((List.range (min ML.toArray.size Pp.toArray.size)).all (fun i=>match ds[i]?,es[i]? with|some x,some y=>D.eqb x y|_,_=>false) && ML.toArray.size == Pp.toArray.size):=by
      rw[D.eqb]
      have z1:ML.toArray.size=ds.length:=by simp;omega
      have z2:Pp.toArray.size=es.length:=by simp;omega
      rw[z1,z2]
      by_cases hl:ds.length=es.length
      .rw[D.kQ,decide_eq_true hl,Bool.true_and,hl,Nat.min_self,beq_self_eq_true,Bool.and_true]
       all_goals rfl
      .rw[D.oQ hl]
       have:(ds.length == es.length)=false:=beq_eq_false_iff_ne.mpr hl
       rw[this,Bool.and_false]
     rw[e3]
     exact key
def EG(ds es:List D)(i:Nat):Bool:=match ds[i]?,es[i]? with|some x,some y=>D.eqb x y|_,_=>false
def zm{X:Cx}{pins:List (Addr × Obj)}{σ:St}{H:Hp}{s:Shared}(I:Inv X pins σ H s){A:Around}{ds es:List D}{xs ys:List V}{f g:List Addr}{ML Pp:List Value}(hd:Rfs H ds xs f)(he:Rfs H es ys g)(rv:Vals xs ML)(Sl:Vals ys Pp)
  (pd:D.fY ds=true) (pe:D.fY es=true) (hu:A.units+1+D.gO ds<cLine):∀j (h1:j<ML.toArray.size) (h2:j<Pp.toArray.size),EqAt A.in1 s ML.toArray[j] Pp.toArray[j] (EG ds es j):=by
 intro j h1 h2
 have l1:=rv.length
 have l2:=Sl.length
 have m1:=hd.length
 have m2:=he.length
 have j1:j<ds.length:=by simp at h1;omega
 have j2:j<es.length:=by simp at h2;omega
 unfold EG
 simp only[dz j1,dz j2]
 obtain ⟨v1,f1,q1,r1,_⟩:=hd.get (dz j1)
 obtain ⟨v2,f2,q2,r2,_⟩:=he.get (dz j2)
 obtain ⟨u1,p1,t1⟩:=rv.get q1
 obtain ⟨u2,p2,t2⟩:=Sl.get q2
 have i1:ML.toArray[j]=u1:=by
  obtain ⟨_,z⟩:=L7.mp p1
  simpa using z
 have i2:Pp.toArray[j]=u2:=by
  obtain ⟨_,z⟩:=L7.mp p2
  simpa using z
 rw[i1,i2]
 exact JM I _ _ _ v1 v2 u1 u2 A.in1 (D.jF (dz j1)) ⟨_,r1⟩ ⟨_,r2⟩ t1 t2 (D.fI pd (dz j1)) (D.fI pe (dz j2)) hu
def sZ{ds es:List D}(hl:ds.length=es.length):D.lB ds es=(List.range ds.length).all (EG ds es):=by
 rw[D.kQ,decide_eq_true hl,Bool.true_and]
 rfl
section
variable {X:Cx}
def D5(OK:Bool):R2:=fun x y H Q=>∃ds es,Rp H (.lst ds) x/\Rp H (.lst es) y/\D.fY ds=true/\D.fY es=true/\D.gO ds<=60/\Q (.bl (if OK then !D.lB ds es else D.lB ds es)) H
def J9(hu:X.A.units+64<cLine):OpR X (compareOp .Eq) (D5 false):=by
 intro pins s σ H x y v u Q I rx ry h
 obtain ⟨ds,es,⟨f,a,xs,fq,rfl,e1,rfl,hd⟩,⟨g,b,ys,gq,rfl,e2,rfl,he⟩,pd,pe,hdp,q⟩:=h
 obtain rfl:v=.ref a:=rx
 obtain rfl:u=.ref b:=ry
 obtain ⟨ML,rv,pl,hz⟩:=I.list (SqL.of e1)
 obtain ⟨Pp,Sl,Sm,Xf⟩:=I.list (SqL.of e2)
 have l1:=rv.length
 have l2:=Sl.length
 have m1:=hd.length
 have m2:=he.length
 by_cases hl:ds.length=es.length
 .refine eq_listAt pl.isList Sm.isList (by simp;omega) (by omega) (zm I hd he rv Sl pd pe (by omega)) (bx I q ?_)
  rw[sZ hl,show ML.toArray.size=ds.length by simp;omega]
  all_goals rfl
 .refine eq_list_lengthsAt pl.isList Sm.isList (by simp;omega) (by omega) (bx I q ?_)
  rw[D.oQ hl]
  all_goals rfl
def sO(hu:X.A.units+64<cLine):OpR X (compareOp .NotEq) (D5 true):=by
 intro pins s σ H x y v u Q I rx ry h
 obtain ⟨ds,es,⟨f,a,xs,fq,rfl,e1,rfl,hd⟩,⟨g,b,ys,gq,rfl,e2,rfl,he⟩,pd,pe,hdp,q⟩:=h
 obtain rfl:v=.ref a:=rx
 obtain rfl:u=.ref b:=ry
 obtain ⟨ML,rv,pl,hz⟩:=I.list (SqL.of e1)
 obtain ⟨Pp,Sl,Sm,Xf⟩:=I.list (SqL.of e2)
 have l1:=rv.length
 have l2:=Sl.length
 have m1:=hd.length
 have m2:=he.length
 by_cases hl:ds.length=es.length
 .refine RcNeAt.lists pl.isList Sm.isList (by simp;omega) (by omega) (zm I hd he rv Sl pd pe (by omega)) _ _ _ _ (bx I q ?_)
  rw[sZ hl,show ML.toArray.size=ds.length by simp;omega]
  all_goals rfl
 .refine RcNeAt.lists_lengths pl.isList Sm.isList (by simp;omega) (by omega) _ _ _ _ (bx I q ?_)
  rw[D.oQ hl]
  all_goals rfl
end
def D.kn:∀(xs:List Int),D.fY (xs.map D.int)=true
 |[]=>rfl
 |x::xs=>by rw[Mb,D.fY,D.kn xs];rfl
def D.mx:∀(t:List (List Int)),D.fY (t.map dI)=true
 |[]=>rfl
 |x::xs=>by rw[Mb,D.fY,D.mx xs,D.plain,D.kn];rfl
def D.mj:∀(xs:List Int),D.gO (xs.map D.int)=0
 |[]=>rfl
 |x::xs=>by rw[Mb,D.gO,D.mj xs];rfl
def D.qo:∀(t:List (List Int)),D.gO (t.map dI)<=1
 |[]=>by rw[OT,D.gO];omega
 |x::xs=>by
  have:=D.qo xs
  rw[Mb,D.gO,D.depth,D.mj]
  exact Nat.max_le.mpr ⟨Mi _,this⟩
def D.pP:∀(xs ys:List Int),D.lB (xs.map D.int) (ys.map D.int)=decide (xs=ys)
 |[],[]=>rfl
 |[],y::ys=>rfl
 |x::xs,[]=>rfl
 |x::xs,y::ys=>by
  rw[Mb,Mb,D.lB,D.pP xs ys,D.eqb]
  by_cases h:x=y
  .subst h;simp
  .have:(x == y)=false:=beq_eq_false_iff_ne.mpr h
   simp [this,h]
def D.vf:∀(xs ys:List (List Int)),D.lB (xs.map dI) (ys.map dI)=decide (xs=ys)
 |[],[]=>rfl
 |[],y::ys=>rfl
 |x::xs,[]=>rfl
 |x::xs,y::ys=>by
  rw[Mb,Mb,D.lB,D.vf xs ys,D.eqb,D.pP]
  by_cases h:x=y
  .subst h;simp
  .simp [h]
def K1(i j:Int):Prop:=∃m n:Nat,i.natAbs<2 ^ m/\j.natAbs<2 ^ n/\m+n<=100000000
def K5(i j:Int):Prop:=0<j/\∃m:Nat,j.natAbs<2 ^ m/\m<=9000
section
variable {X:Cx}
def rE:OpR X (binaryOp .Mult) (rI K1 fun i j=>.int (i*j)):=opI fun i j _ _ _ _ _ hc q=>by
 obtain ⟨m,n,h1,h2,h3⟩:=hc
 exact mul_int q (mulOk_of_bits (intBits_le h1) (intBits_le h2) (by omega))
def mr:OpR X (binaryOp .FloorDiv) (rI K5 fun i j=>.int (i / j)):=opI fun i j _ _ _ _ _ hc q=>by
 obtain ⟨h0,m,h1,h2⟩:=hc
 have hj:j.natAbs≠0:=by omega
 refine floordiv_int (by omega) ?_ (.inl (PyProof.noPylong_of_log2 (Mo ((Nat.log2_lt hj).mpr h1) h2)))
 rw[Int.fdiv_eq_ediv_of_nonneg i (by omega)]
 exact q
end
def yt(scope sc0:Scope):Scope:={ scope with names:=scope.names.map fun (n,k)=>if (k == .free && sc0.kind == .function && sc0.names.lookup n == some .cell) then (n,.cell) else (n,k) }
def tm:List Str->Bool
 |[]=>true
 |x::xs=>!xs.contains x && tm xs
def aN:∀{l:List Str},tm l=true->l.Nodup
 |[],_=>Nq
 |x::xs,h=>by
  rw[tm,Nb,Bool.not_eq_true'] at h
  refine Mh.mpr ⟨fun z=>?_,aN h.2⟩
  have:=List.contains_iff_mem.mpr z
  rw[this] at h
  exact absurd h.1 (by decide)
def FU(sc0 scope:Scope)(tn cap:List Str):Bool :=
 decide (scope.kind=.function) && tm (scope.names.map (·.1)) && tm (tn++cap) && cap.all (fun y=>decide (scope.names.lookup y=some .free)) &&
  scope.names.all fun y=>!decide (y.2=.free) || (decide (sc0.names.lookup y.1=some .cell) || decide (sc0.names.lookup y.1=some .free))
def aH.of{X:Cx}{sc0 scope:Scope}{tn cap:List Str}{idx:List Nat}(h:FU sc0 scope tn cap=true)(e:X.env.scope=sc0)(ci:idx.map (fun i=>X.N[i]?)=cap.map some):aH X scope tn cap idx:=by
 unfold FU at h
 simp only[Nb,decide_eq_true_eq,MP,Bool.or_eq_true,Bool.not_eq_true',decide_eq_false_iff_not] at h
 obtain ⟨⟨⟨⟨h1,h2⟩,h3⟩,h4⟩,h5⟩:=h
 refine⟨h1,aN h2,aN h3,h4,ci,fun y hy hf=>?_⟩
 rw[e]
 rcases h5 y hy with z|z
 .exact absurd hf z
 .exact z
structure FnAt(K:PySem.W.Frag)(mg:Str->Option Value)(x:Str)(st:Stmt)(ps:List Str)(f:Addr)(fd:FuncData):Prop where
 fn:Fun K x x st f fd
 mg:mg x=some (.ref f)
 bd:Binds K fd ps []
end L2
namespace L2
open PySem PySem.Spec PyProof.Rows
def small{n:Nat}(h:n<=100000):n<=sizeLine:=Mq h (by rw[sizeLine_eq];decide)
section
variable {X:Cx}{K:PySem.W.Frag}
def az(h:X.K=K):IxR X (CU K):=by subst h;exact Hm
def bY(h:X.K=K):IxR X (yM K):=by subst h;exact Kn
def bS{tg l:Expr}{tl:TE}(h:X.K=K)(hl:PE X l tl):PI X tg l (BP K tl):=by subst h;exact Ht hl
def aK(h:X.K=K):iZ X (.builtin "len") (fun xs H Q=>∃p ys,xs=[.ref p]/\(SqL K H p ys\/SqT K H p ys)/\Q (.int ys.length) H):=by subst h;exact wD
def lE(h:X.K=K):iZ X (.builtin "isinstance") (fun xs H Q=>∃x n t b,xs=[x,.ty n]/\nj K H x t/\PySem.W.kitOne K t (.type n)=some b/\Q (.bl b) H):=by subst h;exact yy
def eR(h:X.K=K)(hc:X.calm=true):iZ X (.builtin "sum") (fun xs H Q=>∃(a:Addr) (ns:List Int),xs=[.ref a]/\SqL K H a (ns.map V.int)/\Q (.int ns.sum) H):=by subst h;exact FI hc
def fQ(h:X.K=K):iZ X (.type "list") (fun xs H Q=>∃p ys,xs=[.ref p]/\(SqL K H p ys\/SqT K H p ys)/\∀l,H l=none->Q (.ref l) (upd H l (.lst ys))):=by subst h;exact xE
def jA(h:X.K=K):SlR X (J2 K):=by subst h;exact IA
def J0(h:X.K=K):OpR X (compareOp .In) (rIn K false):=by subst h;exact CD
end
def sy{K:PySem.W.Frag}{n:String}:PySem.W.kitOne K (.type n) (.type n)=some true:=by unfold PySem.W.kitOne;rw[if_pos (beq_self_eq_true _)]
end L2
namespace L2
open PySem PySem.Spec PyProof.Rows
def EV(X:Cx)(f:Value)(ks:List Str)(r:List V->List V->Hp->VK->Prop):Prop :=
 ∀(pins:List (Addr × Obj)) (s:Shared) (σ:St) (H:Hp) (xs zs:List V) (us ws:List Value) (Q:VK),Inv X pins σ H s->Vals xs us->Vals zs ws->r xs zs H Q ->
  wpAny (model X.prog X.w) X.A (call f us (ks.zip ws)) (EP X pins σ Q) X.xe s
section
variable {X:Cx}{x:Str}{p MH:Pos}{e:Expr}{es:List Expr}{Ta:List Keyword}{t tk:TA}{id:String}{ks:List Str}{r:List V->List V->Hp->VK->Prop}
def K9(r:List V->List V->Hp->VK->Prop)(t tk:TA):TE:=fun σ H Q=>t σ H fun vs H1=>tk σ H1 fun zs H2=>r vs zs H2 Q
def CP(hc:EV X (.builtin id) ks r)(hg:Gl X x)(hm:X.mg x=none)(hv:bootBuiltins x=some (.builtin id))(ha:PA X (e::es) t)(hkw:PK X Ta tk)(XM:(backToKw MH (keywordEach Ta X.env)).filterMap (·.1)=ks:=by rfl)(hn:x≠"__name__":=by decide)(Tn:(x == ("__debug__" : Str))=false:=by decide)
  (he:backTo MH (starEach (e::es) X.env)=(false,eval e X.env)::backTo MH (starEach es X.env):=by rfl) (P2:(backTo MH (starEach (e::es) X.env)).any (·.1)=false:=by rfl) (Pe:(backToKw MH (keywordEach Ta X.env)).all (·.1.isSome)=true:=by rfl)
  (XO:(backToKw MH (keywordEach Ta X.env)).any (·.1.isNone)=false:=by rfl):PE X (.Call (.Name x p) (e::es) Ta MH) (K9 r t tk):=by
 intro pins s σ H Q I h
 refine wpAny_Call_Name_kw (kF I hg hm hv ?_ hn Tn)
 refine callWith_kw (thn (ha MH pins s σ H _ I h) fun us s1 ⟨vs,H1,I1,r1,q1⟩=>?_) he P2 Pe XO
 refine thn (hkw MH pins s1 σ H1 _ I1 q1) fun ws s2 ⟨zs,H2,I2,rz,q2⟩=>?_
 rw[XM]
 exact hc pins s2 σ H2 vs zs us ws Q I2 r1 rz q2
end
section
variable {X:Cx}{K:PySem.W.Frag}
def hV:∀{us:List Value}{ns:List Int},IntsAre us ns->Vals (ns.map V.int) us
 |_,_,.nil=>.nil
 |_,_,.cons n t h=>.cons ⟨t,rfl⟩ (hV h)
def qT(hK:X.K=K):EV X (.builtin "sorted") ["reverse"] (fun xs zs H Q=>∃(a:Addr) (ns:List Int) (b:Bool),xs=[.ref a]/\zs=[.bl b]/\SqL K H a (ns.map V.int)/\ns.length<64 /\
  ∀(l:Addr) (ms:List Int),H l=none->ms.Perm ns->Ordered b ms->Q (.ref l) (upd H l (.lst (ms.map V.int)))):=by
 subst hK
 intro pins s σ H xs zs us ws Q I r rz h
 obtain ⟨a,ns,b,rfl,rfl,hS,hz,q⟩:=h
 obtain ⟨u,rfl,ru⟩:=vals1 r
 obtain ⟨u2,rfl,W4⟩:=vals1 rz
 obtain rfl:u=Value.ref a:=ru
 obtain rfl:u2=Value.bool b:=W4
 obtain ⟨ML,rv,pl,_⟩:=I.list hS
 have hl:=rv.length
 rw[ox] at hl
 refine sorted_ints_rev pl.isList (kO rv) (by omega) fun out ms a1 a2 a3=>?_
 obtain ⟨n,he⟩:=sortedAll_at s.heap ML out
 have hn:H (s.heap.objs.size+1)=none:=I.hok.fresh (Nt _)
 have Y5:=a2.length_eq
 refine⟨.ref (s.heap.objs.size+1),_,I.laid (t':=s.toks) (o:=.lst (ms.map V.int)) (fun b o e=>sortedAll_old e) (Nt _) ⟨?_,out.toList,n,hV a1,?_⟩,rfl,q _ ms hn a2 a3⟩
 .rw[ox];exact small (by omega)
 .exact he
end
section
end
section
end
end L2
namespace L2
open PySem PySem.Spec PyProof.Rows
def tZ(ns:List Int):List Int:=ns.mergeSort fun a b=>decide (b<=a)
def iL(ns:List Int):(tZ ns).Perm ns:=List.mergeSort_perm ns _
def pV(ns:List Int):(tZ ns).Pairwise (·>=·):=by
 have h:=List.pairwise_mergeSort (le:=fun a b:Int=>decide (b<=a)) (fun a b c h1 h2=>by simp only[decide_eq_true_eq] at *;omega) (fun a b=>by simp only[Bool.or_eq_true,decide_eq_true_eq];omega) ns
 exact h.imp fun h=>by simpa using h
def qW{ms ns:List Int}(hp:ms.Perm ns)(h:ms.Pairwise (·>=·)):ms=tZ ns :=
 (hp.trans (iL ns).symm).eq_of_pairwise (fun x y _ _ h1 h2=>Int.le_antisymm h2 h1) h (pV ns)
def qx(ns:List Int):(tZ ns).length=ns.length:=(iL ns).length_eq
end L2
namespace L3
open PySem L2
inductive D where
 |non|bl (b:Bool)|int (i:Int)|str (x:Str)|lst (ds:List D)|tup (ds:List D)|dic (kvs:List (Key × V))|dit (kvs:List (List Key × V))|scr (ns:List Int)|pin (a:Addr) (d:D)|mem (φ:Int->List Int->Int->Prop)|raw (w:V)|ins (C:Addr) (ns:List Str) (ds:List D)
def NT:HO->Prop|.tbl _=>False|_=>True
def yF:Str:="falling_places.<locals>.<lambda>"
def um(c:Addr):HO:=.ext fun h=>h.CodeRec (.ref c) yF
def TabAt(P:Addr)(H:Hp):Prop:=∃ps,H P=some (.tbl ps)/\TriplesOk ps.toList/\∀MH cv,codeAmong MH ps.toList=some cv->∃c,cv=.ref c/\H c=some (um c)
structure Same(H H':Hp):Prop where
 st:∀b o,H b=some o->NT o->H' b=some o
 tb:∀b ps,H b=some (.tbl ps)->∃ps',H' b=some (.tbl ps')
 ti:∀P,TabAt P H->TabAt P H'
def Same.refl(H:Hp):Same H H:=⟨fun _ _ h _=>h,fun _ ps h=>⟨ps,h⟩,fun _ h=>h⟩
def Same.trans{H H1 H2:Hp}(a:Same H H1)(b:Same H1 H2):Same H H2:=⟨fun c o h n=>b.st c o (a.st c o h n) n,fun c ps h=>let ⟨_,h1⟩:=a.tb c ps h;b.tb c _ h1,fun P h=>b.ti P (a.ti P h)⟩
def Same.free{H H':Hp}(e:Same H H'){l:Addr}(h:H' l=Option.none):H l=Option.none:=by
 cases q:H l with
 |none=>rfl
 |some o =>
  by_cases n:NT o
  .rw[e.st l o q n] at h;cases h
  .cases o with
   |tbl ps=>obtain ⟨ps',z⟩:=e.tb l ps q;rw[z] at h;cases h
   |_=>exact absurd trivial n
def Same.all{H H':Hp}(k:∀b u,H b=some u->H' b=some u):Same H H' :=
 ⟨fun b u e _=>k b u e,fun b ps e=>⟨ps,k b _ e⟩,fun P ⟨ps,e,g1,g2⟩=>⟨ps,k P _ e,g1,fun MH cv z=>let ⟨c,z1,z2⟩:=g2 MH cv z;⟨c,z1,k c _ z2⟩⟩⟩
def Same.jn{H:Hp}{p:Addr}{o:HO}(h:H p=none):Same H (upd H p o):=Same.all fun b u e=>by rw[aF (bj e h)];exact e
def Same.seq{K:PySem.W.Frag}{H H':Hp}{a:Addr}{xs:List V}(e:Same H H')(h:SqL K H a xs):SqL K H' a xs:=by
 rcases h with (h|⟨o,h⟩)|h
 .exact .inl (.inl (e.st _ _ h trivial))
 .exact .inl (.inr ⟨o,e.st _ _ h trivial⟩)
 .exact .inr h
def uA:Addr:=91
def iy(K:PySem.W.Frag)(H:Hp):Prop:=TabAt uA H
def iy.same{K:PySem.W.Frag}{H H':Hp}(t:iy K H)(s:Same H H'):iy K H':=s.ti _ t
structure SB(K:PySem.W.Frag)(B H:Hp):Prop extends Same B H where
 tv:iy K B
def SB.trans{K:PySem.W.Frag}{B H H':Hp}(a:SB K B H)(s:Same H H'):SB K B H':=⟨a.toSame.trans s,a.tv⟩
def SB.now{K:PySem.W.Frag}{B H:Hp}(a:SB K B H):iy K H:=a.tv.same a.toSame
instance {K:PySem.W.Frag}{B H:Hp}:CoeOut (SB K B H) (Same B H):=⟨SB.toSame⟩
def SB.refl{K:PySem.W.Frag}{H:Hp}(t:iy K H):SB K H H:=⟨Same.refl H,t⟩
def Kc(K:PySem.W.Frag)(a:Addr)(xs:List V):Prop :=
 ∃(o:Obj) (ML:Array Value) (n:Nat),K.lookup a=some o/\o.cls=.type "list"/\o.dict=none/\o.data=.seq ML n/\ML.size<=sizeLine/\Vals xs ML.toList
def Sc(K:PySem.W.Frag)(H:Hp)(a:Addr)(xs:List V):Prop:=(∃o,H a=some (.frz o (.lst xs)))\/Kc K a xs
def Sc.seq{K:PySem.W.Frag}{H:Hp}{a:Addr}{xs:List V}(h:Sc K H a xs):SqL K H a xs:=h.elim (fun ⟨o,h⟩=>.inl (.inr ⟨o,h⟩)) .inr
def Im(o:HO):Prop:=(∃xs,o=.tup xs)\/(∃o' u,o=.frz o' u)\/∃φ ks,o=.memo φ ks
section
variable {K:PySem.W.Frag}
mutual
def Rf(K:PySem.W.Frag)(H:Hp):D->V->List Addr->Prop
 |.non,v,fp=>v=.non/\fp=[]
 |.bl b,v,fp=>v=.bl b/\fp=[]
 |.int i,v,fp=>v=.int i/\fp=[]
 |.str x,v,fp=>v=.str x/\fp=[]
 |.lst ds,v,fp=>∃a xs fq,v=.ref a/\H a=some (.lst xs)/\fp=a::fq/\Rfs K H ds xs fq
 |.tup ds,v,fp=>∃a xs,v=.ref a/\H a=some (.tup xs)/\Rfs K H ds xs fp
 |.dic kvs,v,fp=>∃a,v=.ref a/\H a=some (.dK kvs)/\(∀p∈kvs,ix p.2=true)/\fp=[a]
 |.dit kvs,v,fp=>∃a,v=.ref a/\H a=some (.dT kvs)/\(∀p∈kvs,ix p.2=true)/\fp=[a]
 |.scr ns,v,fp=>∃a,v=.ref a/\Sc K H a (ns.map V.int)/\fp=[]
 |.pin a d,v,fp=>v=.ref a/\Rf K H d v fp
 |.mem φ,v,fp=>∃a,v=.ref a/\H a=some (.memo φ [])/\fp=[]
 |.raw w,v,fp=>v=w/\fp=[]
 |.ins C ns ds,v,fp=>∃a dx xs fq,v=.ref a/\H a=some (.ins C dx (ns.zip xs))/\fp=a::fq/\Rfs K H ds xs fq
def Rfs(K:PySem.W.Frag)(H:Hp):List D->List V->List Addr->Prop
 |[],xs,fp=>xs=[]/\fp=[]
 |d::ds,xs,fp=>∃x r f1 f2,xs=x::r/\fp=f1++f2/\Rf K H d x f1/\Rfs K H ds r f2
end
def Rp(K:PySem.W.Frag)(H:Hp)(d:D)(v:V):Prop:=∃fp,Rf K H d v fp
def Rps(K:PySem.W.Frag)(H:Hp)(ds:List D)(vs:List V):Prop:=∃fp,Rfs K H ds vs fp
mutual
def Rf.mono{H H':Hp}:∀{d:D}{v:V}{fp:List Addr},Rf K H d v fp->(∀a∈fp,∀o,H a=some o->H' a=some o)->(∀a o,H a=some o->Im o->H' a=some o)->Rf K H' d v fp
 |.non,_,_,h,_,_=>h
 |.bl _,_,_,h,_,_=>h
 |.int _,_,_,h,_,_=>h
 |.str _,_,_,h,_,_=>h
 |.lst ds,v,fp,h,k,t=>by
  obtain ⟨a,xs,fq,e1,e2,e3,h⟩:=h
  subst e3
  exact⟨a,xs,fq,e1,k a Fk _ e2,rfl,Rfs.mono h (fun b hb=>k b (mo _ hb)) t⟩
 |.tup ds,v,fp,h,k,t=>by
  obtain ⟨a,xs,e1,e2,h⟩:=h
  exact⟨a,xs,e1,t a _ e2 (.inl ⟨_,rfl⟩),Rfs.mono h k t⟩
 |.dic kvs,v,fp,h,k,t=>by
  obtain ⟨a,e1,e2,e3,e4⟩:=h
  subst e4
  exact⟨a,e1,k a Fk _ e2,e3,rfl⟩
 |.dit kvs,v,fp,h,k,t=>by
  obtain ⟨a,e1,e2,e3,e4⟩:=h
  subst e4
  exact⟨a,e1,k a Fk _ e2,e3,rfl⟩
 |.scr ns,v,fp,h,k,t=>by
  obtain ⟨a,e1,e2,e3⟩:=h
  refine⟨a,e1,?_,e3⟩
  rcases e2 with ⟨o,e2⟩|e2
  .exact .inl ⟨o,t a _ e2 (.inr (.inl ⟨_,_,rfl⟩))⟩
  .exact .inr e2
 |.pin a d,v,fp,h,k,t=>⟨h.1,Rf.mono h.2 k t⟩
 |.mem φ,v,fp,h,k,t=>by
  obtain ⟨a,e1,e2,e3⟩:=h
  exact⟨a,e1,t a _ e2 (.inr (.inr ⟨_,_,rfl⟩)),e3⟩
 |.raw _,_,_,h,_,_=>h
 |.ins C ns ds,v,fp,h,k,t=>by
  obtain ⟨a,dx,xs,fq,e1,e2,e3,h⟩:=h
  subst e3
  exact⟨a,dx,xs,fq,e1,k a Fk _ e2,rfl,Rfs.mono h (fun b hb=>k b (mo _ hb)) t⟩
def Rfs.mono{H H':Hp}:∀{ds:List D}{vs:List V}{fp:List Addr},Rfs K H ds vs fp->(∀a∈fp,∀o,H a=some o->H' a=some o)->(∀a o,H a=some o->Im o->H' a=some o)->Rfs K H' ds vs fp
 |[],_,_,h,_,_=>h
 |d::ds,vs,fp,h,k,t=>by
  obtain ⟨x,r,f1,f2,e1,e2,h1,h2⟩:=h
  subst e2
  exact⟨x,r,f1,f2,e1,rfl,Rf.mono h1 (fun b hb=>k b (Mf _ hb)) t,Rfs.mono h2 (fun b hb=>k b (KE _ hb)) t⟩
end
mutual
def Rf.lK{H H':Hp}:∀{d:D}{v:V}{fp:List Addr},Rf K H d v fp->(∀a∈fp,∀o,H a=some o->NT o->H' a=some o)->(∀a o,H a=some o->Im o->H' a=some o)->Rf K H' d v fp
 |.non,_,_,h,_,_=>h
 |.bl _,_,_,h,_,_=>h
 |.int _,_,_,h,_,_=>h
 |.str _,_,_,h,_,_=>h
 |.lst ds,v,fp,h,k,t=>by
  obtain ⟨a,xs,fq,e1,e2,e3,h⟩:=h
  subst e3
  exact⟨a,xs,fq,e1,k a Fk _ e2 trivial,rfl,Rfs.lK h (fun b hb=>k b (mo _ hb)) t⟩
 |.tup ds,v,fp,h,k,t=>by
  obtain ⟨a,xs,e1,e2,h⟩:=h
  exact⟨a,xs,e1,t a _ e2 (.inl ⟨_,rfl⟩),Rfs.lK h k t⟩
 |.dic kvs,v,fp,h,k,t=>by
  obtain ⟨a,e1,e2,e3,e4⟩:=h
  subst e4
  exact⟨a,e1,k a Fk _ e2 trivial,e3,rfl⟩
 |.dit kvs,v,fp,h,k,t=>by
  obtain ⟨a,e1,e2,e3,e4⟩:=h
  subst e4
  exact⟨a,e1,k a Fk _ e2 trivial,e3,rfl⟩
 |.scr ns,v,fp,h,k,t=>by
  obtain ⟨a,e1,e2,e3⟩:=h
  refine⟨a,e1,?_,e3⟩
  rcases e2 with ⟨o,e2⟩|e2
  .exact .inl ⟨o,t a _ e2 (.inr (.inl ⟨_,_,rfl⟩))⟩
  .exact .inr e2
 |.pin a d,v,fp,h,k,t=>⟨h.1,Rf.lK h.2 k t⟩
 |.mem φ,v,fp,h,k,t=>by
  obtain ⟨a,e1,e2,e3⟩:=h
  exact⟨a,e1,t a _ e2 (.inr (.inr ⟨_,_,rfl⟩)),e3⟩
 |.raw _,_,_,h,_,_=>h
 |.ins C ns ds,v,fp,h,k,t=>by
  obtain ⟨a,dx,xs,fq,e1,e2,e3,h⟩:=h
  subst e3
  exact⟨a,dx,xs,fq,e1,k a Fk _ e2 trivial,rfl,Rfs.lK h (fun b hb=>k b (mo _ hb)) t⟩
def Rfs.lK{H H':Hp}:∀{ds:List D}{vs:List V}{fp:List Addr},Rfs K H ds vs fp->(∀a∈fp,∀o,H a=some o->NT o->H' a=some o)->(∀a o,H a=some o->Im o->H' a=some o)->Rfs K H' ds vs fp
 |[],_,_,h,_,_=>h
 |d::ds,vs,fp,h,k,t=>by
  obtain ⟨x,r,f1,f2,e1,e2,h1,h2⟩:=h
  subst e2
  exact⟨x,r,f1,f2,e1,rfl,Rf.lK h1 (fun b hb=>k b (Mf _ hb)) t,Rfs.lK h2 (fun b hb=>k b (KE _ hb)) t⟩
end
def Rf.same{H H':Hp}{d:D}{v:V}{fp:List Addr}(h:Rf K H d v fp)(s:Same H H'):Rf K H' d v fp:=h.lK (fun a _ o e n=>s.st a o e n) fun a o e i=>s.st a o e (by rcases i with ⟨_,rfl⟩|⟨_,_,rfl⟩|⟨_,_,rfl⟩<;>trivial)
def Rfs.same{H H':Hp}{d:List D}{v:List V}{fp:List Addr}(h:Rfs K H d v fp)(s:Same H H'):Rfs K H' d v fp:=h.lK (fun a _ o e n=>s.st a o e n) fun a o e i=>s.st a o e (by rcases i with ⟨_,rfl⟩|⟨_,_,rfl⟩|⟨_,_,rfl⟩<;>trivial)
def Rp.same{H H':Hp}{d:D}{v:V}(h:Rp K H d v)(s:Same H H'):Rp K H' d v:=let ⟨fp,h⟩:=h;⟨fp,h.same s⟩
def Rps.same{H H':Hp}{d:List D}{v:List V}(h:Rps K H d v)(s:Same H H'):Rps K H' d v:=let ⟨fp,h⟩:=h;⟨fp,h.same s⟩
mutual
def Rf.dom{H:Hp}:∀{d:D}{v:V}{fp:List Addr},Rf K H d v fp->∀a∈fp,∃o,H a=some o/\¬ Im o
 |.non,_,_,h,a,ha=>by obtain ⟨_,rfl⟩:=h;nomatch ha
 |.bl _,_,_,h,a,ha=>by obtain ⟨_,rfl⟩:=h;nomatch ha
 |.int _,_,_,h,a,ha=>by obtain ⟨_,rfl⟩:=h;nomatch ha
 |.str _,_,_,h,a,ha=>by obtain ⟨_,rfl⟩:=h;nomatch ha
 |.lst ds,v,fp,h,b,hb=>by
  obtain ⟨a,xs,fq,e1,e2,e3,h⟩:=h
  subst e3
  rcases L8.mp hb with e|hb
  .subst e;exact⟨_,e2,fun z=>by rcases z with ⟨_,z⟩|⟨_,_,z⟩|⟨_,_,z⟩<;>cases z⟩
  .exact Rfs.dom h b hb
 |.tup ds,v,fp,h,b,hb=>by
  obtain ⟨a,xs,e1,e2,h⟩:=h
  exact Rfs.dom h b hb
 |.dic kvs,v,fp,h,b,hb=>by
  obtain ⟨a,e1,e2,e3,e4⟩:=h
  subst e4
  cases Gc.mp hb
  exact⟨_,e2,fun z=>by rcases z with ⟨_,z⟩|⟨_,_,z⟩|⟨_,_,z⟩<;>cases z⟩
 |.dit kvs,v,fp,h,b,hb=>by
  obtain ⟨a,e1,e2,e3,e4⟩:=h
  subst e4
  cases Gc.mp hb
  exact⟨_,e2,fun z=>by rcases z with ⟨_,z⟩|⟨_,_,z⟩|⟨_,_,z⟩<;>cases z⟩
 |.scr ns,v,fp,h,b,hb=>by
  obtain ⟨a,e1,e2,e3⟩:=h
  subst e3;nomatch hb
 |.pin a d,v,fp,h,b,hb=>Rf.dom h.2 b hb
 |.mem φ,v,fp,h,b,hb=>by
  obtain ⟨a,e1,e2,e3⟩:=h
  subst e3;nomatch hb
 |.raw _,_,_,h,a,ha=>by obtain ⟨_,rfl⟩:=h;nomatch ha
 |.ins C ns ds,v,fp,h,b,hb=>by
  obtain ⟨a,dx,xs,fq,e1,e2,e3,h⟩:=h
  subst e3
  rcases L8.mp hb with e|hb
  .subst e;exact⟨_,e2,fun z=>by rcases z with ⟨_,z⟩|⟨_,_,z⟩|⟨_,_,z⟩<;>cases z⟩
  .exact Rfs.dom h b hb
def Rfs.dom{H:Hp}:∀{ds:List D}{vs:List V}{fp:List Addr},Rfs K H ds vs fp->∀a∈fp,∃o,H a=some o/\¬ Im o
 |[],_,_,h,a,ha=>by obtain ⟨_,rfl⟩:=h;nomatch ha
 |d::ds,vs,fp,h,b,hb=>by
  obtain ⟨x,r,f1,f2,e1,e2,h1,h2⟩:=h
  subst e2
  rcases Mc.mp hb with hb|hb
  .exact Rf.dom h1 b hb
  .exact Rfs.dom h2 b hb
end
def Rfs.upd{H:Hp}{d:List D}{v:List V}{fp:List Addr}{l:Addr}{o:HO}(h:Rfs K H d v fp)(hl:l∉fp)(hm:∀o,H l=some o->¬ Im o):Rfs K (upd H l o) d v fp :=
 h.mono (fun a ha u e=>by rw[aF (fun z=>hl (by rw[<- z];exact ha))];exact e) fun a o e i=>by rw[aF (fun z=>hm o (by rw[<- z];exact e) i)];exact e
def Rfs.length{H:Hp}:∀{ds:List D}{vs:List V}{fp:List Addr},Rfs K H ds vs fp->vs.length=ds.length
 |[],_,_,h=>by obtain ⟨rfl,_⟩:=h;rfl
 |d::ds,vs,fp,h=>by
  obtain ⟨x,r,f1,f2,e1,e2,h1,h2⟩:=h
  subst e1
  rw[L6,L6,Rfs.length h2]
def Rfs.append{H:Hp}:∀{ds es:List D}{vs ws:List V}{fp fq:List Addr},Rfs K H ds vs fp->Rfs K H es ws fq->Rfs K H (ds++es) (vs++ws) (fp++fq)
 |[],es,vs,ws,fp,fq,h,h'=>by obtain ⟨rfl,rfl⟩:=h;exact h'
 |d::ds,es,vs,ws,fp,fq,h,h'=>by
  obtain ⟨x,r,f1,f2,rfl,rfl,h1,h2⟩:=h
  exact⟨x,r++ws,f1,f2++fq,rfl,MR ..,h1,Rfs.append h2 h'⟩
def Rfs.one{H:Hp}{d:D}{v:V}{fp:List Addr}(h:Rf K H d v fp):Rfs K H [d] [v] fp:=⟨v,[],fp,[],rfl,(MV _).symm,h,rfl,rfl⟩
def Rfs.get{H:Hp}:∀{ds:List D}{vs:List V}{fp:List Addr}{i:Nat}{d:D},Rfs K H ds vs fp->ds[i]?=some d->∃v f,vs[i]?=some v/\Rf K H d v f/\(∀a∈f,a∈fp)
 |[],_,_,_,_,_,e=>by simp at e
 |d::ds,vs,fp,0,d',h,e=>by
  obtain ⟨x,r,f1,f2,rfl,rfl,h1,h2⟩:=h
  simp at e;subst e
  exact⟨x,f1,rfl,h1,fun a ha=>Mf _ ha⟩
 |d::ds,vs,fp,i+1,d',h,e=>by
  obtain ⟨x,r,f1,f2,rfl,rfl,h1,h2⟩:=h
  obtain ⟨v,f,e1,h3,k⟩:=Rfs.get (i:=i) h2 (by simpa using e)
  exact⟨v,f,by simpa using e1,h3,fun a ha=>KE _ (k a ha)⟩
def Rfs.get'{H:Hp}{ds:List D}{vs:List V}{fp:List Addr}{i:Nat}{v:V}(h:Rfs K H ds vs fp)(e:vs[i]?=some v):∃d f,ds[i]?=some d/\Rf K H d v f/\(∀a∈f,a∈fp):=by
 have hl:=h.length
 obtain ⟨hi,_⟩:=L7.mp e
 have Qf:i<ds.length:=by omega
 obtain ⟨v',f,e1,h1,k⟩:=h.get (d:=ds[i]) (dz Qf)
 rw[e] at e1;cases e1
 exact⟨ds[i],f,dz Qf,h1,k⟩
def D.bg:D->Bool
 |.non=>true|.bl _=>true|.int _=>true|.str _=>true|_=>false
def D.toV:D->V
 |.non=>.non|.bl b=>.bl b|.int i=>.int i|.str x=>.str x|_=>.non
def Rf.bg{H:Hp}{d:D}{v:V}{fp:List Addr}(h:Rf K H d v fp)(s:d.bg=true):v=d.toV/\fp=[]:=by
 cases d<;>first|exact h|cases s
def Rf.ug{H:Hp}{d:D}(s:d.bg=true):Rf K H d d.toV []:=by
 cases d<;>first|exact⟨rfl,rfl⟩|cases s
def Rp.int{H:Hp}{i:Int}{v:V}(h:Rp K H (.int i) v):v=.int i:=h.choose_spec.1
def Rp.bl{H:Hp}{i:Bool}{v:V}(h:Rp K H (.bl i) v):v=.bl i:=h.choose_spec.1
def Rfs.jk{H:Hp}:∀{ds:List D}{vs:List V}{fp:List Addr},Rfs K H ds vs fp->ds.all D.bg=true->vs=ds.map D.toV/\fp=[]
 |[],vs,fp,h,_=>h
 |d::ds,vs,fp,h,s=>by
  obtain ⟨x,r,f1,f2,rfl,rfl,h1,h2⟩:=h
  simp only[List.all_cons,Nb] at s
  obtain ⟨rfl,rfl⟩:=h1.bg s.1
  obtain ⟨rfl,rfl⟩:=Rfs.jk h2 s.2
  exact⟨rfl,rfl⟩
def Rfs.oA{H:Hp}:∀{ds:List D},ds.all D.bg=true->Rfs K H ds (ds.map D.toV) []
 |[],_=>⟨rfl,rfl⟩
 |d::ds,s=>by
  simp only[List.all_cons,Nb] at s
  exact⟨_,_,[],[],rfl,rfl,Rf.ug s.1,Rfs.oA s.2⟩
def D.items:D->Option (List D)
 |.lst ds=>some ds|.scr ns=>some (ns.map D.int)|_=>none
def Rfs.ofInts{H:Hp}:∀{ns:List Int},Rfs K H (ns.map D.int) (ns.map V.int) []
 |[]=>⟨rfl,rfl⟩
 |n::ns=>⟨_,_,[],[],rfl,rfl,⟨rfl,rfl⟩,Rfs.ofInts⟩
def Rf.seq{H:Hp}{d:D}{ds:List D}{v:V}{fp:List Addr}(h:Rf K H d v fp)(e:d.items=some ds):∃a xs fq,v=.ref a/\SqL K H a xs/\Rfs K H ds xs fq/\∀b∈fq,b∈fp:=by
 cases d with
 |lst es =>
  cases e
  obtain ⟨a,xs,fq,e1,e2,rfl,h⟩:=h
  exact⟨a,xs,fq,e1,.inl (.inl e2),h,fun b hb=>mo _ hb⟩
 |scr ns =>
  cases e
  obtain ⟨a,e1,e2,e3⟩:=h
  exact⟨a,_,[],e1,e2.seq,Rfs.ofInts,fun b hb=>nomatch hb⟩
 |_=>cases e
def Rp.seq{H:Hp}{d:D}{ds:List D}{v:V}(h:Rp K H d v)(e:d.items=some ds):∃a xs fq,v=.ref a/\SqL K H a xs/\Rfs K H ds xs fq :=
 let ⟨_,h⟩:=h;let ⟨a,xs,fq,h1,h2,h3,_⟩:=h.seq e;⟨a,xs,fq,h1,h2,h3⟩
def Rp.tup{H:Hp}{ds:List D}{v:V}(h:Rp K H (.tup ds) v):∃a xs fq,v=.ref a/\SqT K H a xs/\Rfs K H ds xs fq:=by
 obtain ⟨fp,a,xs,e1,e2,h⟩:=h
 exact⟨a,xs,fp,e1,.inl (.inl e2),h⟩
def Mu(H:Hp)(a:Addr):Prop:=(∃xs,H a=some (.lst xs))\/(∃kvs,H a=some (.dK kvs))\/(∃kvs,H a=some (.dT kvs))\/∃C dx fs,H a=some (.ins C dx fs)
def Mu.same{H H':Hp}{a:Addr}(h:Mu H a)(s:Same H H'):Mu H' a:=by
 rcases h with ⟨x,h⟩|⟨x,h⟩|⟨x,h⟩|⟨C,dx,fs,h⟩
 .exact .inl ⟨x,s.st _ _ h trivial⟩
 .exact .inr (.inl ⟨x,s.st _ _ h trivial⟩)
 .exact .inr (.inr (.inl ⟨x,s.st _ _ h trivial⟩))
 .exact .inr (.inr (.inr ⟨C,dx,fs,s.st _ _ h trivial⟩))
def Mu.some{H:Hp}{a:Addr}(h:Mu H a):H a≠none:=by
 rcases h with ⟨x,h⟩|⟨x,h⟩|⟨x,h⟩|⟨C,dx,fs,h⟩<;>rw[h]<;>intro z<;>cases z
def Mu.nu{H:Hp}{a:Addr}(h:Mu H a):∀o,H a=Option.some o->¬ Im o:=by
 rcases h with ⟨x,h⟩|⟨x,h⟩|⟨x,h⟩|⟨C,dx,fs,h⟩<;>rw[h]<;>intro o e z<;>cases e<;>rcases z with ⟨_,z⟩|⟨_,_,z⟩|⟨_,_,z⟩<;>cases z
def Mu.upd{H:Hp}{a l:Addr}{o:HO}(h:Mu H a)(ho:(∃xs,o=.lst xs)\/(∃xs,o=.dK xs)\/(∃xs,o=.dT xs)\/∃C dx fs,o=.ins C dx fs):Mu (upd H l o) a:=by
 by_cases e:a=l
 .subst e
  rcases ho with ⟨xs,rfl⟩|⟨xs,rfl⟩|⟨xs,rfl⟩|⟨C,dx,fs,rfl⟩
  .exact .inl ⟨xs,aw⟩
  .exact .inr (.inl ⟨xs,aw⟩)
  .exact .inr (.inr (.inl ⟨xs,aw⟩))
  .exact .inr (.inr (.inr ⟨C,dx,fs,aw⟩))
 .unfold Mu
  rw[aF e]
  exact h
abbrev Dl:=List (Option D)
structure Ok(K:PySem.W.Frag)(B0:Hp)(Γ:List Nat)(fps:Nat->List Addr)(δ:Dl)(σ:St)(H:Hp):Prop where
 len:σ.length=δ.length
 b0:SB K B0 H
 val:∀i d,δ[i]?=some (some d)->∃v,σ[i]?=some (some v)/\Rf K H d v (fps i)
 non:∀i,(∀d,δ[i]?≠some (some d))->fps i=[]
 own:∀i∈Γ,(fps i).Nodup/\∀a∈fps i,B0 a=none/\Mu H a
 dj:∀i∈Γ,∀j,j≠i->∀a∈fps i,a∉fps j
variable {B0:Hp}{Γ:List Nat}{fps:Nat->List Addr}{δ:Dl}{σ:St}{H H':Hp}
def Ok.same(o:Ok K B0 Γ fps δ σ H)(s:Same H H'):Ok K B0 Γ fps δ σ H' :=
 ⟨o.len,o.b0.trans s,fun i d e=>let ⟨v,h1,h2⟩:=o.val i d e;⟨v,h1,h2.same s⟩,o.non,fun i hi=>⟨(o.own i hi).1,fun a ha=>⟨((o.own i hi).2 a ha).1,((o.own i hi).2 a ha).2.same s⟩⟩,o.dj⟩
def Ok.sub{Γ':List Nat}(o:Ok K B0 Γ fps δ σ H)(h:∀i∈Γ',i∈Γ):Ok K B0 Γ' fps δ σ H :=
 ⟨o.len,o.b0,o.val,o.non,fun i hi=>o.own i (h i hi),fun i hi=>o.dj i (h i hi)⟩
def Ok.dom(o:Ok K B0 Γ fps δ σ H){i:Nat}{a:Addr}(h:a∈fps i):H a≠none:=by
 by_cases e:∃d,δ[i]?=some (some d)
 .obtain ⟨d,e⟩:=e
  obtain ⟨v,_,r⟩:=o.val i d e
  obtain ⟨u,hu,_⟩:=r.dom a h
  rw[hu];intro z;cases z
 .rw[o.non i (fun d z=>e ⟨d,z⟩)] at h
  nomatch h
structure Nw(H H':Hp)(fps:Nat->List Addr)(M:List Nat)(fp:List Addr):Prop where
 nd:fp.Nodup
 mu:∀a∈fp,Mu H' a
 src:∀a∈fp,H a=none\/∃j∈M,a∈fps j
def Nw.nil{M:List Nat}:Nw H H' fps M []:=⟨Nq,fun _ h=>(nomatch h),fun _ h=>(nomatch h)⟩
def Nw.later{H1:Hp}{M:List Nat}{fp:List Addr}(n:Nw H1 H' fps M fp)(s:Same H H1):Nw H H' fps M fp :=
 ⟨n.nd,n.mu,fun a ha=>(n.src a ha).elim (fun z=>.inl (s.free z)) .inr⟩
def Nw.same{H1:Hp}{M:List Nat}{fp:List Addr}(n:Nw H H' fps M fp)(s:Same H' H1):Nw H H1 fps M fp:=⟨n.nd,fun a ha=>(n.mu a ha).same s,n.src⟩
def Nw.any{fps':Nat->List Addr}{fp:List Addr}(n:Nw H H' fps [] fp):Nw H H' fps' [] fp:=⟨n.nd,n.mu,fun a ha=>(n.src a ha).elim .inl fun ⟨_,h,_⟩=>nomatch h⟩
def Nw.fresh{fp:List Addr}(n:Nw H H' fps [] fp):∀a∈fp,H a=none:=fun a ha=>(n.src a ha).elim id fun ⟨_,h,_⟩=>nomatch h
def kill(M:List Nat)(δ:Dl):Dl:=M.foldl (fun δ j=>δ.set j none) δ
def iX:∀{M:List Nat}{δ:Dl},(kill M δ).length=δ.length
 |[],_=>rfl
 |j::M,δ=>by rw[kill,List.foldl_cons];exact (iX (M:=M)).trans (by simp)
def sY:∀{M:List Nat}{δ:Dl}{i:Nat}{d:D},(kill M δ)[i]?=some (some d)↔i∉M/\δ[i]?=some (some d)
 |[],_,_,_=>by simp [kill]
 |j::M,δ,i,d=>by
  rw[kill,List.foldl_cons]
  have:=sY (M:=M) (δ:=δ.set j none) (i:=i) (d:=d)
  rw[kill] at this
  rw[this,L8]
  by_cases e:i=j
  .subst e
   simp [M6]
  .rw[Ml (M0 e)]
   simp [e]
def minus(Γ M:List Nat):List Nat:=Γ.filter fun i=>!M.contains i
def eT{Γ M:List Nat}{i:Nat}:i∈minus Γ M↔i∈Γ/\i∉M:=by
 unfold minus
 rw[MZ]
 simp
def Ok.kill(o:Ok K B0 Γ fps δ σ H)(M:List Nat):Ok K B0 (minus Γ M) (fun i=>if i∈M then [] else fps i) (kill M δ) σ H:=by
 refine⟨by rw[iX];exact o.len,o.b0,fun i d e=>?_,fun i e=>?_,fun i hi=>?_,fun i hi j hj a ha=>?_⟩
 .obtain ⟨h1,h2⟩:=sY.mp e
  rw[if_neg h1]
  exact o.val i d h2
 .by_cases h:i∈M
  .rw[if_pos h]
  .rw[if_neg h]
   exact o.non i fun d z=>e d (sY.mpr ⟨h,z⟩)
 .obtain ⟨h1,h2⟩:=eT.mp hi
  rw[if_neg h2]
  exact o.own i h1
 .obtain ⟨h1,h2⟩:=eT.mp hi
  rw[if_neg h2] at ha
  by_cases h:j∈M
  .rw[if_pos h];exact MF
  .rw[if_neg h];exact o.dj i h1 j hj a ha
def Ok.D8{M:List Nat}{x:D}{v:V}{fp:List Addr}(o:Ok K B0 Γ fps δ σ H)(i:Nat)(hM:∀j∈M,j∈Γ)(s:Same H H')(r:Rf K H' x v fp)(n:Nw H H' fps M fp) :
  Ok K B0 (i::minus (minus Γ M) [i]) (fun j=>if j=i then (if i<δ.length then fp else []) else if j∈M then [] else fps j) ((L3.kill M δ).set i (some x)) (σ.set i (some v)) H':=by
 have ok:=(o.kill M).same s
 have YI:∀a∈fp,∀j,j∉M->a∉fps j:=fun a ha j hj z=>by
  rcases n.src a ha with e|⟨k,hk,e⟩
  .exact o.dom z e
  .exact o.dj k (hM k hk) j (fun q=>hj (by rw[q];exact hk)) a e z
 refine⟨by simp [iX,o.len],ok.b0,fun j d e=>?_,fun j e=>?_,fun j hj=>?_,fun j hj k hk a ha=>?_⟩
 .by_cases h:j=i
  .subst h
   rw[M6] at e
   simp only[iX] at e
   by_cases hl:j<δ.length
   .simp [hl] at e
    subst e
    refine⟨v,?_,?_⟩
    .rw[M6];simp [o.len,hl]
    .rw[if_pos rfl,if_pos hl];exact r
   .simp [hl] at e
  .rw[Ml (M0 h)] at e
   rw[Ml (M0 h),if_neg h]
   exact ok.val j d e
 .by_cases h:j=i
  .subst h
   rw[if_pos rfl]
   by_cases hl:j<δ.length
   .exact absurd (by rw[M6];simp [iX,hl]) (e x)
   .rw[if_neg hl]
  .rw[if_neg h]
   exact ok.non j fun d z=>e d (by rw[Ml (M0 h)];exact z)
 .by_cases h:j=i
  .subst h
   rw[if_pos rfl]
   split
   .refine⟨n.nd,fun a ha=>⟨?_,n.mu a ha⟩⟩
    rcases n.src a ha with e|⟨k,hk,e⟩
    .exact o.b0.free e
    .exact ((o.own k (hM k hk)).2 a e).1
   .exact⟨Nq,fun _ z=>nomatch z⟩
  .rw[if_neg h]
   rcases L8.mp hj with z|hj
   .exact absurd z h
   .exact ok.own j (eT.mp hj).1
 .by_cases h:j=i
  .subst h
   rw[if_pos rfl] at ha
   rw[if_neg hk]
   split at ha
   .by_cases hm:k∈M
    .rw[if_pos hm];exact MF
    .rw[if_neg hm];exact YI a ha k hm
   .nomatch ha
  .rcases L8.mp hj with z|hj
   .exact absurd z h
   rw[if_neg h] at ha
   have SQ:=eT.mp (eT.mp hj).1
   rw[if_neg SQ.2] at ha
   by_cases T6:k=i
   .rw[if_pos T6]
    split
    .exact fun z=>YI a z j SQ.2 ha
    .exact MF
   .rw[if_neg T6]
    split
    .exact MF
    .exact o.dj j SQ.1 k hk a ha
def Ok.Bi{x:D}{v:V}{fp:List Addr}(o:Ok K B0 Γ fps δ σ H)(i:Nat)(s:Same H H')(r:Rf K H' x v fp)(n:∀j∈Γ,∀a∈fp,a∉fps j) :
  Ok K B0 (minus Γ [i]) (fun j=>if j=i then (if i<δ.length then fp else []) else fps j) (δ.set i (some x)) (σ.set i (some v)) H':=by
 have ok:=o.same s
 refine⟨by simp [o.len],ok.b0,fun j d e=>?_,fun j e=>?_,fun j hj=>?_,fun j hj k hk a ha=>?_⟩
 .by_cases h:j=i
  .subst h
   rw[M6] at e
   by_cases hl:j<δ.length
   .simp [hl] at e
    subst e
    refine⟨v,?_,?_⟩
    .rw[M6];simp [o.len,hl]
    .rw[if_pos rfl,if_pos hl];exact r
   .simp [hl] at e
  .rw[Ml (M0 h)] at e
   rw[Ml (M0 h),if_neg h]
   exact ok.val j d e
 .by_cases h:j=i
  .subst h
   rw[if_pos rfl]
   by_cases hl:j<δ.length
   .exact absurd (by rw[M6];simp [hl]) (e x)
   .rw[if_neg hl]
  .rw[if_neg h]
   exact ok.non j fun d z=>e d (by rw[Ml (M0 h)];exact z)
 .obtain ⟨h1,h2⟩:=eT.mp hj
  rw[if_neg (fun z=>h2 (by rw[z];exact Gc.mpr rfl))]
  exact ok.own j h1
 .obtain ⟨h1,h2⟩:=eT.mp hj
  rw[if_neg (fun z=>h2 (by rw[z];exact Gc.mpr rfl))] at ha
  by_cases T6:k=i
  .rw[if_pos T6]
   split
   .exact fun z=>n j h1 a z ha
   .exact MF
  .rw[if_neg T6]
   exact o.dj j h1 k hk a ha
def xo{H:Hp}{c:Addr}(h:H c=some (um c)):¬ Mu H c:=by
 rintro (⟨x,z⟩|⟨x,z⟩|⟨x,z⟩|⟨C,dx,fs,z⟩)<;>rw[h] at z<;>cases z
def SB.keep{fp:List Addr}(b:SB K B0 H)(n:∀a∈fp,B0 a=none/\Mu H a)(keep:∀b u,b∉fp->H b=some u->H' b=some u):SB K B0 H':=by
 have nb:∀{c u},B0 c=some u->c∉fp:=fun {c u} e z=>by have:=(n c z).1;rw[e] at this;cases this
 refine⟨⟨fun c u e x=>keep c u (nb e) (b.st c u e x),fun c ps e=>let ⟨ps',z⟩:=b.tb c ps e;⟨ps',keep c _ (nb e) z⟩,fun P t=>?_⟩,b.tv⟩
 obtain ⟨W6,e0,_⟩:=id t
 obtain ⟨ps,e,g1,g2⟩:=b.ti P t
 exact⟨ps,keep P _ (nb e0) e,g1,fun MH cv z=>let ⟨c,z1,z2⟩:=g2 MH cv z;⟨c,z1,keep c _ (fun y=>xo z2 (n c y).2) z2⟩⟩
def Ok.rebase(o:Ok K B0 Γ fps δ σ H):∃B1,Same B0 B1/\Ok K B1 Γ fps δ σ H/\(∀a,(∀j∈Γ,a∉fps j)->B1 a=H a):=by
 have key:∀b u,B0 b=some u->¬ ∃j∈Γ,b∈fps j:=fun b u e ⟨j,hj,hb⟩=>by
  have:=((o.own j hj).2 b hb).1
  rw[e] at this;cases this
 have s1:Same B0 (fun a=>if (∃j∈Γ,a∈fps j) then none else H a):=⟨fun b u e n=>by
   show (if _ then _ else _)=_
   rw[if_neg (key b u e)]
   exact o.b0.st b u e n,fun b ps e=>by
   obtain ⟨ps',z⟩:=o.b0.tb b ps e
   refine⟨ps',?_⟩
   show (if _ then _ else _)=_
   rw[if_neg (key b _ e)];exact z,fun P t=>by
   obtain ⟨W6,e0,_⟩:=id t
   obtain ⟨ps,e,g1,g2⟩:=o.b0.ti P t
   refine⟨ps,?_,g1,fun MH cv z=>?_⟩
   .show (if _ then _ else _)=_
    rw[if_neg (key P _ e0)];exact e
   .obtain ⟨c,z1,z2⟩:=g2 MH cv z
    refine⟨c,z1,?_⟩
    show (if _ then _ else _)=_
    rw[if_neg (fun ⟨j,hj,hc⟩=>xo z2 ((o.own j hj).2 c hc).2)];exact z2⟩
 have s2:Same (fun a=>if (∃j∈Γ,a∈fps j) then none else H a) H:=Same.all fun b u e=>by
  by_cases z:∃j∈Γ,b∈fps j
  .simp only[if_pos z] at e;cases e
  .simp only[if_neg z] at e;exact e
 refine⟨fun a=>if (∃j∈Γ,a∈fps j) then none else H a,s1,⟨o.len,⟨s2,o.b0.tv.same s1⟩,o.val,o.non,fun i hi=>⟨(o.own i hi).1,fun a ha=>⟨?_,((o.own i hi).2 a ha).2⟩⟩,o.dj⟩,fun a h=>?_⟩
 .show (if _ then _ else _)=_
  rw[if_pos ⟨i,hi,ha⟩]
 .show (if _ then _ else _)=_
  rw[if_neg (fun ⟨j,hj,z⟩=>h j hj z)]
def Ok.base{B1:Hp}(o:Ok K B1 Γ fps δ σ H)(s:Same B0 B1)(t:iy K B0):Ok K B0 Γ fps δ σ H :=
 ⟨o.len,⟨s.trans o.b0.toSame,t⟩,o.val,o.non,fun i hi=>⟨(o.own i hi).1,fun a ha=>⟨s.free ((o.own i hi).2 a ha).1,((o.own i hi).2 a ha).2⟩⟩,o.dj⟩
end
end L3
namespace L3
open PySem L2
abbrev DK:=D->Prop
abbrev DE:=Dl->DK->Prop
abbrev DT:=Dl->(Bool->Prop)->Prop
abbrev DA:=Dl->(List D->Prop)->Prop
structure ER(K:PySem.W.Frag)(Γ:List Nat)(t:TE)(d:DE):Prop where
 mono:∀δ (P P':DK),(∀x,P x->P' x)->d δ P->d δ P'
 run:∀{B0 fps δ σ H Q},Ok K B0 Γ fps δ σ H->d δ (fun x=>∀v H',Same H H'->Rp K H' x v->Q v H')->t σ H Q
structure ES(K:PySem.W.Frag)(Γ:List Nat)(t:TE)(d:DE):Prop where
 mono:∀δ (P P':DK),(∀x,P x->P' x)->d δ P->d δ P'
 run:∀{B0 fps δ σ H Q},Ok K B0 Γ fps δ σ H->d δ (fun x=>∀v H' fp,Same H H'->Rf K H' x v fp->(∀j∈Γ,∀a∈fp,a∉fps j)->Q v H')->t σ H Q
structure EM(K:PySem.W.Frag)(Γ M:List Nat)(t:TE)(d:DE):Prop where
 mono:∀δ (P P':DK),(∀x,P x->P' x)->d δ P->d δ P'
 run:∀{B0 fps δ σ H Q},Ok K B0 Γ fps δ σ H->d δ (fun x=>∀v H' fp,Same H H'->Rf K H' x v fp->Nw H H' fps M fp->Q v H')->t σ H Q
structure TR(K:PySem.W.Frag)(Γ:List Nat)(t:TT)(d:DT):Prop where
 mono:∀δ (P P':Bool->Prop),(∀x,P x->P' x)->d δ P->d δ P'
 run:∀{B0 fps δ σ H Q},Ok K B0 Γ fps δ σ H->d δ (fun b=>∀H',Same H H'->Q b H')->t σ H Q
structure AR(K:PySem.W.Frag)(Γ:List Nat)(t:TA)(d:DA):Prop where
 mono:∀δ (P P':List D->Prop),(∀x,P x->P' x)->d δ P->d δ P'
 run:∀{B0 fps δ σ H Q},Ok K B0 Γ fps δ σ H->d δ (fun xs=>∀vs H',Same H H'->Rps K H' xs vs->Q vs H')->t σ H Q
structure AS(K:PySem.W.Frag)(Γ:List Nat)(t:TA)(d:DA):Prop where
 mono:∀δ (P P':List D->Prop),(∀x,P x->P' x)->d δ P->d δ P'
 run:∀{B0 fps δ σ H Q},Ok K B0 Γ fps δ σ H->d δ (fun xs=>∀vs H' fp,Same H H'->Rfs K H' xs vs fp->(∀j∈Γ,∀a∈fp,a∉fps j)->Q vs H')->t σ H Q
structure AM(K:PySem.W.Frag)(Γ M:List Nat)(t:TA)(d:DA):Prop where
 mono:∀δ (P P':List D->Prop),(∀x,P x->P' x)->d δ P->d δ P'
 run:∀{B0 fps δ σ H Q},Ok K B0 Γ fps δ σ H->d δ (fun xs=>∀vs H' fp,Same H H'->Rfs K H' xs vs fp->Nw H H' fps M fp->Q vs H')->t σ H Q
section
variable {K:PySem.W.Frag}{Γ M:List Nat}{t ta tb tc:TE}{d da db dc:DE}
def EM.es(h:EM K Γ [] t d):ES K Γ t d:=⟨h.mono,fun o q=>h.run o (h.mono _ _ _ (fun x z v H' fp s r n=>z v H' fp s r fun j _ a ha y=>o.dom y (n.fresh a ha)) q)⟩
def ES.er(h:ES K Γ t d):ER K Γ t d:=⟨h.mono,fun o q=>h.run o (h.mono _ _ _ (fun x z v H' fp s r n=>z v H' s ⟨fp,r⟩) q)⟩
def EM.er(h:EM K Γ M t d):ER K Γ t d:=⟨h.mono,fun o q=>h.run o (h.mono _ _ _ (fun x z v H' fp s r n=>z v H' s ⟨fp,r⟩) q)⟩
def Gn(d:DE)(δ:Dl)(P:DK):Prop:=d δ fun x=>x.bg=true/\P x
def ER.bg(h:ER K Γ t d):EM K Γ [] t (Gn d):=⟨fun δ P P' k q=>h.mono _ _ _ (fun x z=>⟨z.1,k x z.2⟩) q,fun o q=>h.run o (h.mono _ _ _ (fun x z v H' s r=>by
 obtain ⟨fp,r⟩:=r
 obtain ⟨_,rfl⟩:=r.bg z.1
 exact z.2 v H' [] s r Nw.nil) q)⟩
def lU(i:Nat)(δ:Dl)(P:DK):Prop:=match δ[i]? with|some (some d)=>P d|_=>False
def j5{i:Nat}{δ:Dl}{P:DK}(h:lU i δ P):∃d,δ[i]?=some (some d)/\P d:=by
 unfold lU at h
 split at h
 .exact⟨_,by assumption,h⟩
 .exact h.elim
def qh{i:Nat}:∀δ (P P':DK),(∀x,P x->P' x)->lU i δ P->lU i δ P':=fun δ P P' k h=>by
 unfold lU at h ⊢
 split
 .rename_i e;rw[e] at h;exact k _ h
 .rename_i e;revert h;split
  .rename_i e';exact absurd e' (e _)
  .exact id
def fR(i:Nat):ER K Γ (eJ i) (lU i):=⟨qh,fun {B0 fps δ σ H Q} o q=>by
 obtain ⟨d,e,q⟩:=j5 q
 obtain ⟨v,e1,r⟩:=o.val i d e
 exact⟨v,e1,q v H (Same.refl H) ⟨_,r⟩⟩⟩
def af(i:Nat)(h:i∉Γ:=by decide):ES K Γ (eJ i) (lU i):=⟨qh,fun {B0 fps δ σ H Q} o q=>by
 obtain ⟨d,e,q⟩:=j5 q
 obtain ⟨v,e1,r⟩:=o.val i d e
 exact⟨v,e1,q v H _ (Same.refl H) r fun j hj a ha z=>o.dj j hj i (fun y=>h (by rw[y];exact hj)) a z ha⟩⟩
def jH(i:Nat)(h:i∈Γ:=by decide):EM K Γ [i] (eJ i) (lU i):=⟨qh,fun {B0 fps δ σ H Q} o q=>by
 obtain ⟨d,e,q⟩:=j5 q
 obtain ⟨v,e1,r⟩:=o.val i d e
 exact⟨v,e1,q v H _ (Same.refl H) r ⟨(o.own i h).1,fun a ha=>((o.own i h).2 a ha).2,fun a ha=>.inr ⟨i,Gc.mpr rfl,ha⟩⟩⟩⟩
def vC(d:D)(YB:Dl)(P:DK):Prop:=P d
def av{i:Int}:EM K Γ [] (tC (.int i)) (vC (.int i)):=⟨fun _ _ _ k h=>k _ h,fun {_ _ _ _ H _} _ q=>q _ H [] (Same.refl H) ⟨rfl,rfl⟩ Nw.nil⟩
def Gb{i:Bool}:EM K Γ [] (tC (.bl i)) (vC (.bl i)):=⟨fun _ _ _ k h=>k _ h,fun {_ _ _ _ H _} _ q=>q _ H [] (Same.refl H) ⟨rfl,rfl⟩ Nw.nil⟩
def dW{i:Str}:EM K Γ [] (tC (.str i)) (vC (.str i)):=⟨fun _ _ _ k h=>k _ h,fun {_ _ _ _ H _} _ q=>q _ H [] (Same.refl H) ⟨rfl,rfl⟩ Nw.nil⟩
def j3:EM K Γ [] (tC .non) (vC .non):=⟨fun _ _ _ k h=>k _ h,fun {_ _ _ _ H _} _ q=>q _ H [] (Same.refl H) ⟨rfl,rfl⟩ Nw.nil⟩
abbrev D2:=D->D->DK->Prop
abbrev nf:Nat->List Addr:=fun _=>[]
structure OpV(K:PySem.W.Frag)(r:R2)(rv:D2):Prop where
 mono:∀x y (P P':DK),(∀z,P z->P' z)->rv x y P->rv x y P'
 run:∀{H x y v w Q},Rp K H x v->Rp K H y w->rv x y (fun z=>∀u H' fp,Same H H'->Rf K H' z u fp->Nw H H' nf [] fp->Q u H')->r v w H Q
def vOp(rv:D2)(da db:DE)(δ:Dl)(P:DK):Prop:=da δ fun x=>db δ fun y=>rv x y P
def aA{r:R2}{rv:D2}(ho:OpV K r rv)(ha:ER K Γ ta da)(hb:ER K Γ tb db):EM K Γ [] (tOp r ta tb) (vOp rv da db) :=
 ⟨fun δ P P' k h=>ha.mono _ _ _ (fun x z=>hb.mono _ _ _ (fun y z=>ho.mono x y _ _ k z) z) h,
 fun o q=>ha.run o (ha.mono _ _ _ (fun x z v H1 s1 r1=>hb.run (o.same s1) (hb.mono _ _ _ (fun y z w H2 s2 r2=>ho.run (r1.same s2) r2 (ho.mono _ _ _ _ (fun u z u' H' fp s r n=>z u' H' fp ((s1.trans s2).trans s) r (n.any.later (s1.trans s2))) z)) z)) q)⟩
abbrev D1:=D->DK->Prop
structure UnV(K:PySem.W.Frag)(r:V->Hp->VK->Prop)(rv:D1):Prop where
 mono:∀x (P P':DK),(∀z,P z->P' z)->rv x P->rv x P'
 run:∀{H x v Q},Rp K H x v->rv x (fun z=>∀u H' fp,Same H H'->Rf K H' z u fp->Nw H H' nf [] fp->Q u H')->r v H Q
def vUn(rv:D1)(da:DE)(δ:Dl)(P:DK):Prop:=da δ fun x=>rv x P
def Jk{r:V->Hp->VK->Prop}{rv:D1}(ho:UnV K r rv)(ha:ER K Γ ta da):EM K Γ [] (tUn r ta) (vUn rv da) :=
 ⟨fun δ P P' k h=>ha.mono _ _ _ (fun x z=>ho.mono x _ _ k z) h,
 fun o q=>ha.run o (ha.mono _ _ _ (fun x z v H1 s1 r1=>ho.run r1 (ho.mono _ _ _ (fun u z u' H' fp s r n=>z u' H' fp (s1.trans s) r (n.any.later s1)) z)) q)⟩
def vI0(g:Int->Int->D)(x:D)(y:D)(P:DK):Prop:=match x,y with|.int i,.int j=>P (g i j)|_,_=>False
def vI(C:Int->Int->Prop)(g:Int->Int->D)(x:D)(y:D)(P:DK):Prop:=match x,y with|.int i,.int j=>C i j/\P (g i j)|_,_=>False
def vU(g:Int->D)(x:D)(P:DK):Prop:=match x with|.int i=>P (g i)|_=>False
def DY{g:Int->Int->D}:∀x y (P P':DK),(∀z,P z->P' z)->vI0 g x y P->vI0 g x y P':=fun x y P P' k h=>by
 unfold vI0 at h ⊢;revert h;split<;>first|exact k _|exact id
def Hv{C:Int->Int->Prop}{g:Int->Int->D}:∀x y (P P':DK),(∀z,P z->P' z)->vI C g x y P->vI C g x y P':=fun x y P P' k h=>by
 unfold vI at h ⊢;revert h;split<;>first|exact fun h=>⟨h.1,k _ h.2⟩|exact id
def A0{f:Int->Int->V}{g:Int->Int->D}(hs:∀i j,(g i j).bg=true/\(g i j).toV=f i j):OpV K (rI0 f) (vI0 g):=⟨DY,fun {H x y v w Q} r1 r2 h=>by
 unfold vI0 at h
 split at h
 .rename_i i j
  refine⟨i,j,r1.int,r2.int,?_⟩
  rw[<- (hs i j).2]
  exact h _ H [] (Same.refl H) (Rf.ug (hs i j).1) Nw.nil
 .exact h.elim⟩
def Ku{C:Int->Int->Prop}{f:Int->Int->V}{g:Int->Int->D}(hs:∀i j,(g i j).bg=true/\(g i j).toV=f i j):OpV K (rI C f) (vI C g):=⟨Hv,fun {H x y v w Q} r1 r2 h=>by
 unfold vI at h
 split at h
 .rename_i i j
  refine⟨i,j,r1.int,r2.int,h.1,?_⟩
  rw[<- (hs i j).2]
  exact h.2 _ H [] (Same.refl H) (Rf.ug (hs i j).1) Nw.nil
 .exact h.elim⟩
def dS{f:Int->Int->Int}:OpV K (rI0 fun i j=>.int (f i j)) (vI0 fun i j=>.int (f i j)):=A0 fun _ _=>⟨rfl,rfl⟩
def pH{f:Int->Int->Bool}:OpV K (rI0 fun i j=>.bl (f i j)) (vI0 fun i j=>.bl (f i j)):=A0 fun _ _=>⟨rfl,rfl⟩
def bG{C:Int->Int->Prop}{f:Int->Int->Int}:OpV K (rI C fun i j=>.int (f i j)) (vI C fun i j=>.int (f i j)):=Ku fun _ _=>⟨rfl,rfl⟩
def Ji{f:Int->Int}:UnV K (rU fun i=>.int (f i)) (vU fun i=>.int (f i)):=⟨fun x P P' k h=>by unfold vU at h ⊢;revert h;split<;>first|exact k _|exact id,fun {H x v Q} r1 h=>by
 unfold vU at h
 split at h
 .rename_i i
  exact⟨i,r1.int,h _ H [] (Same.refl H) ⟨rfl,rfl⟩ Nw.nil⟩
 .exact h.elim⟩
def sR(OK:Bool)(x:D)(y:D)(P:DK):Prop:=x.bg=true/\y.bg=true/\bg x.toV y.toV=true/\P (.bl (if OK then !decide (x.toV=y.toV) else decide (x.toV=y.toV)))
def vc{OK:Bool}:∀x y (P P':DK),(∀z,P z->P' z)->sR OK x y P->sR OK x y P':=fun x y P P' k h=>⟨h.1,h.2.1,h.2.2.1,k _ h.2.2.2⟩
def qS:OpV K rEq (sR false):=⟨vc,fun {H x y v w Q} ⟨f1,r1⟩ ⟨f2,r2⟩ h=>by
 rw[(r1.bg h.1).1,(r2.bg h.2.1).1]
 exact⟨h.2.2.1,h.2.2.2 _ H [] (Same.refl H) ⟨rfl,rfl⟩ Nw.nil⟩⟩
def KP:OpV K rNe (sR true):=⟨vc,fun {H x y v w Q} ⟨f1,r1⟩ ⟨f2,r2⟩ h=>by
 rw[(r1.bg h.1).1,(r2.bg h.2.1).1]
 exact⟨h.2.2.1,h.2.2.2 _ H [] (Same.refl H) ⟨rfl,rfl⟩ Nw.nil⟩⟩
def xR{OK:Bool}{i j:Int}{P:DK}:sR OK (.int i) (.int j) P↔P (.bl (if OK then !decide (i=j) else decide (i=j))):=by
 unfold sR
 simp only[D.bg,D.toV,bg,true_and,V.int.injEq]
def rG(x:D)(y:D)(P:DK):Prop:=match x.items,y with|some ds,.int i=>(match atI ds i with|some d=>P d|none=>False)|_,_=>False
def qe(x:D)(y:D)(P:DK):Prop:=match x,y with|.tup ds,.int i=>(match atI ds i with|some d=>P d|none=>False)|_,_=>False
def sC{x y:D}{P:DK}(h:rG x y P):∃ds i d,x.items=some ds/\y=.int i/\atI ds i=some d/\P d:=by
 unfold rG at h
 split at h
 .split at h
  .exact⟨_,_,_,by assumption,rfl,by assumption,h⟩
  .exact h.elim
 .exact h.elim
def t9{x y:D}{P:DK}(h:qe x y P):∃ds i d,x=.tup ds/\y=.int i/\atI ds i=some d/\P d:=by
 unfold qe at h
 split at h
 .split at h
  .exact⟨_,_,_,rfl,rfl,by assumption,h⟩
  .exact h.elim
 .exact h.elim
def HY{x:D}{ds:List D}{i:Int}{d:D}{P:DK}(ex:x.items=some ds)(e:atI ds i=some d)(h:P d):rG x (.int i) P:=by unfold rG;simp only[ex,e];exact h
def Hw{ds:List D}{i:Int}{d:D}{P:DK}(e:atI ds i=some d)(h:P d):qe (.tup ds) (.int i) P:=by unfold qe;simp only[e];exact h
def vJ:∀x y (P P':DK),(∀z,P z->P' z)->rG x y P->rG x y P':=fun x y P P' k h=>by
 obtain ⟨ds,i,d,ex,rfl,e,h⟩:=sC h;exact HY ex e (k _ h)
def vk:∀x y (P P':DK),(∀z,P z->P' z)->qe x y P->qe x y P':=fun x y P P' k h=>by
 obtain ⟨ds,i,d,rfl,rfl,e,h⟩:=t9 h;exact Hw e (k _ h)
def Rfs.at{H:Hp}{ds:List D}{xs:List V}{fq:List Addr}{i:Int}{d:D}(h:Rfs K H ds xs fq)(e:atI ds i=some d):∃v f,atI xs i=some v/\Rf K H d v f/\∀a∈f,a∈fq:=by
 unfold atI at e ⊢
 rw[h.length]
 cases hj:ixN ds.length i with
 |none=>rw[hj] at e;cases e
 |some j=>rw[hj] at e;exact h.get e
def qb(ha:ER K Γ ta da)(hb:ER K Γ tb db):ER K Γ (tOp (CU K) ta tb) (vOp rG da db) :=
 ⟨fun δ P P' k h=>ha.mono _ _ _ (fun x z=>hb.mono _ _ _ (fun y z=>vJ x y _ _ k z) z) h,
 fun o q=>ha.run o (ha.mono _ _ _ (fun x z v H1 s1 r1=>hb.run (o.same s1) (hb.mono _ _ _ (fun y z w H2 s2 r2=>by
  obtain ⟨ds,i,d,ex,rfl,e,z⟩:=sC z
  obtain ⟨a,xs,fq,rfl,hs,hr⟩:=(r1.same s2).seq ex
  obtain ⟨v,f,e1,r3,_⟩:=hr.at e
  exact⟨a,xs,i,v,rfl,r2.int,hs,e1,z v H2 (s1.trans s2) ⟨f,r3⟩⟩) z)) q)⟩
def zG(ha:ER K Γ ta da)(hb:ER K Γ tb db):ER K Γ (tOp (yM K) ta tb) (vOp qe da db) :=
 ⟨fun δ P P' k h=>ha.mono _ _ _ (fun x z=>hb.mono _ _ _ (fun y z=>vk x y _ _ k z) z) h,
 fun o q=>ha.run o (ha.mono _ _ _ (fun x z v H1 s1 r1=>hb.run (o.same s1) (hb.mono _ _ _ (fun y z w H2 s2 r2=>by
  obtain ⟨ds,i,d,rfl,rfl,e,z⟩:=t9 z
  obtain ⟨a,xs,fq,rfl,hs,hr⟩:=(r1.same s2).tup
  obtain ⟨v,f,e1,r3,_⟩:=hr.at e
  exact⟨a,xs,i,v,rfl,r2.int,hs,e1,z v H2 (s1.trans s2) ⟨f,r3⟩⟩) z)) q)⟩
def bb(ha:ES K Γ ta da)(hb:ER K Γ tb db):ES K Γ (tOp (CU K) ta tb) (vOp rG da db) :=
 ⟨fun δ P P' k h=>ha.mono _ _ _ (fun x z=>hb.mono _ _ _ (fun y z=>vJ x y _ _ k z) z) h,
 fun o q=>ha.run o (ha.mono _ _ _ (fun x z v H1 fp s1 r1 n=>hb.run (o.same s1) (hb.mono _ _ _ (fun y z w H2 s2 r2=>by
  obtain ⟨ds,i,d,ex,rfl,e,z⟩:=sC z
  obtain ⟨a,xs,fq,rfl,hs,hr,Uv⟩:=(r1.same s2).seq ex
  obtain ⟨v,f,e1,r3,k⟩:=hr.at e
  exact⟨a,xs,i,v,rfl,r2.int,hs,e1,z v H2 f (s1.trans s2) r3 fun j hj b hb=>n j hj b (Uv b (k b hb))⟩) z)) q)⟩
def iG(ha:ES K Γ ta da)(hb:ER K Γ tb db):ES K Γ (tOp (yM K) ta tb) (vOp qe da db) :=
 ⟨fun δ P P' k h=>ha.mono _ _ _ (fun x z=>hb.mono _ _ _ (fun y z=>vk x y _ _ k z) z) h,
 fun o q=>ha.run o (ha.mono _ _ _ (fun x z v H1 fp s1 r1 n=>hb.run (o.same s1) (hb.mono _ _ _ (fun y z w H2 s2 r2=>by
  obtain ⟨ds,i,d,rfl,rfl,e,z⟩:=t9 z
  obtain ⟨a,xs,rfl,hs,hr⟩:=r1.same s2
  obtain ⟨v,f,e1,r3,k⟩:=hr.at e
  exact⟨a,xs,i,v,rfl,r2.int,.inl (.inl hs),e1,z v H2 f (s1.trans s2) r3 fun j hj b hb=>n j hj b (k b hb)⟩) z)) q)⟩
def asB(x:D)(P:Bool->Prop):Prop:=match x with|.bl k=>P k|_=>False
def vA(d:DE)(δ:Dl)(P:Bool->Prop):Prop:=d δ fun x=>asB x P
def pZ{x:D}{P:Bool->Prop}(h:asB x P):∃k,x=.bl k/\P k:=by
 unfold asB at h
 split at h
 .exact⟨_,rfl,h⟩
 .exact h.elim
def Eg{x:D}{P P':Bool->Prop}(k:∀b,P b->P' b)(h:asB x P):asB x P':=by
 obtain ⟨b,rfl,h⟩:=pZ h;exact k b h
def aY(h:ER K Γ t d):TR K Γ (FV t) (vA d):=⟨fun δ P P' k q=>h.mono _ _ _ (fun x z=>Eg k z) q,fun o q=>h.run o (h.mono _ _ _ (fun x z v H' s r=>by
 obtain ⟨b,rfl,z⟩:=pZ z;exact⟨b,r.bl,z H' s⟩) q)⟩
def Du(h:ER K Γ t d):TR K Γ (tB t) (vA d):=⟨fun δ P P' k q=>h.mono _ _ _ (fun x z=>Eg k z) q,fun o q=>h.run o (h.mono _ _ _ (fun x z v H' s r=>by
 obtain ⟨b,rfl,z⟩:=pZ z;exact⟨b,r.bl,z H' s⟩) q)⟩
def Kr(c e:DT)(δ:Dl)(P:Bool->Prop):Prop:=c δ fun k=>if k=true then e δ P else P false
def vOr(c e:DT)(δ:Dl)(P:Bool->Prop):Prop:=c δ fun k=>if k=true then P true else e δ P
def JG(c:DT)(δ:Dl)(P:Bool->Prop):Prop:=c δ fun k=>P (!k)
def fh{b:Bool}{A B A' B':Prop}(h1:A->A')(h2:B->B')(h:if b=true then A else B):if b=true then A' else B':=by
 cases b
 .exact h2 h
 .exact h1 h
def Ft{u1 u2:TT}{c e:DT}(h1:TR K Γ u1 c)(h2:TR K Γ u2 e):TR K Γ (LL u1 u2) (Kr c e) :=
 ⟨fun δ P P' k q=>h1.mono _ _ _ (fun b z=>fh (h2.mono _ _ _ k) (k _) z) q,
 fun o q=>h1.run o (h1.mono _ _ _ (fun b z H' s=>fh (fun z=>h2.run (o.same s) (h2.mono _ _ _ (fun b z H2 s2=>z H2 (s.trans s2)) z)) (fun z=>z H' s) z) q)⟩
def B8{u1 u2:TT}{c e:DT}(h1:TR K Γ u1 c)(h2:TR K Γ u2 e):TR K Γ (tOr u1 u2) (vOr c e) :=
 ⟨fun δ P P' k q=>h1.mono _ _ _ (fun b z=>fh (k _) (h2.mono _ _ _ k) z) q,
 fun o q=>h1.run o (h1.mono _ _ _ (fun b z H' s=>fh (fun z=>z H' s) (fun z=>h2.run (o.same s) (h2.mono _ _ _ (fun b z H2 s2=>z H2 (s.trans s2)) z)) z) q)⟩
def wu{u1:TT}{c:DT}(h1:TR K Γ u1 c):TR K Γ (LJ u1) (JG c) :=
 ⟨fun δ P P' k q=>h1.mono _ _ _ (fun b z=>k _ z) q,fun o q=>h1.run o (h1.mono _ _ _ (fun b z H' s=>z H' s) q)⟩
def EI(da db:DE)(δ:Dl)(P:DK):Prop:=vA da δ fun k=>if k=true then db δ P else P (.bl false)
def GR(da:DE)(δ:Dl)(P:DK):Prop:=vA da δ fun k=>P (.bl (!k))
def Ir(ha:ER K Γ ta da)(hb:EM K Γ [] tb db):EM K Γ [] (Jb ta tb) (EI da db) :=
 ⟨fun δ P P' k q=>(aY ha).mono _ _ _ (fun b z=>fh (hb.mono _ _ _ k) (k _) z) q,
 fun o q=>ha.run o (ha.mono _ _ _ (fun x z v H' s r=>by
  obtain ⟨b,rfl,z⟩:=pZ z
  exact⟨b,r.bl,fh (fun z=>hb.run (o.same s) (hb.mono _ _ _ (fun y z u H2 fp s2 r2 n2=>z u H2 fp (s.trans s2) r2 (n2.later s)) z)) (fun z=>z _ H' [] s ⟨rfl,rfl⟩ Nw.nil) z⟩) q)⟩
def Hq(ha:ER K Γ ta da):EM K Γ [] (IX ta) (GR da) :=
 ⟨fun δ P P' k q=>(aY ha).mono _ _ _ (fun b z=>k _ z) q,
 fun o q=>ha.run o (ha.mono _ _ _ (fun x z v H' s r=>by
  obtain ⟨b,rfl,z⟩:=pZ z
  exact⟨b,r.bl,z _ H' [] s ⟨rfl,rfl⟩ Nw.nil⟩) q)⟩
def vIf(c:DT)(da db:DE)(δ:Dl)(P:DK):Prop:=c δ fun k=>if k=true then da δ P else db δ P
def Gm{u:TT}{c:DT}(hc:TR K Γ u c)(ha:EM K Γ [] ta da)(hb:EM K Γ [] tb db):EM K Γ [] (tIf u ta tb) (vIf c da db) :=
 ⟨fun δ P P' k q=>hc.mono _ _ _ (fun b z=>fh (ha.mono _ _ _ k) (hb.mono _ _ _ k) z) q,
 fun o q=>hc.run o (hc.mono _ _ _ (fun b z H' s=>fh (fun z=>ha.run (o.same s) (ha.mono _ _ _ (fun y z u H2 fp s2 r2 n2=>z u H2 fp (s.trans s2) r2 (n2.later s)) z)) (fun z=>hb.run (o.same s) (hb.mono _ _ _ (fun y z u H2 fp s2 r2 n2=>z u H2 fp (s.trans s2) r2 (n2.later s)) z)) z) q)⟩
def z6(r r':D2)(da db dc:DE)(δ:Dl)(P:DK):Prop:=da δ fun x=>db δ fun y=>r x y fun z=>asB z fun k=>if k=true then dc δ fun w=>r' y w P else P (.bl false)
def DF{r r':R2}{rv YL:D2}(ho:OpV K r rv)(RY:OpV K r' YL)(ha:ER K Γ ta da)(hb:ER K Γ tb db)(hc:ER K Γ tc dc):EM K Γ [] (FN r r' ta tb tc) (z6 rv YL da db dc) :=
 ⟨fun δ P P' k h=>ha.mono _ _ _ (fun x z=>hb.mono _ _ _ (fun y z=>ho.mono x y _ _ (fun u z=>Eg (fun b z=>fh (hc.mono _ _ _ fun w z=>RY.mono _ _ _ _ k z) (k _) z) z) z) z) h,
 fun o q=>ha.run o (ha.mono _ _ _ (fun x z v H1 s1 r1=>hb.run (o.same s1) (hb.mono _ _ _ (fun y z w H2 s2 r2=>ho.run (r1.same s2) r2 (ho.mono _ _ _ _ (fun u z u' H3 fp s3 r3 n3=>by
  obtain ⟨b,rfl,z⟩:=pZ z
  have V1:=(s1.trans s2).trans s3
  refine⟨b,r3.1,fh (fun z=>?_) (fun z=>z _ H3 [] V1 ⟨rfl,rfl⟩ Nw.nil) z⟩
  exact hc.run (o.same V1) (hc.mono _ _ _ (fun w z w' H4 s4 r4=>RY.run (r2.same (s3.trans s4)) r4 (RY.mono _ _ _ _ (fun u z u' H' fp s r n=>z u' H' fp ((V1.trans s4).trans s) r (n.any.later (V1.trans s4))) z)) z)) z)) z)) q)⟩
def AD(YB:Dl)(P:List D->Prop):Prop:=P []
def oU(da:DE)(dr:DA)(δ:Dl)(P:List D->Prop):Prop:=da δ fun x=>dr δ fun xs=>P (x::xs)
def aq:AR K Γ m7 AD:=⟨fun _ _ _ k h=>k _ h,fun {_ _ _ _ H _} o q=>q [] H (Same.refl H) ⟨[],rfl,rfl⟩⟩
def bw:AM K Γ [] m7 AD:=⟨fun _ _ _ k h=>k _ h,fun {_ _ _ _ H _} o q=>q [] H [] (Same.refl H) ⟨rfl,rfl⟩ Nw.nil⟩
def Kb:AS K Γ m7 AD:=⟨fun _ _ _ k h=>k _ h,fun {_ _ _ _ H _} o q=>q [] H [] (Same.refl H) ⟨rfl,rfl⟩ fun _ _ _ h=>nomatch h⟩
def ai{tr:TA}{dr:DA}(ha:ER K Γ ta da)(hr:AR K Γ tr dr):AR K Γ (gp ta tr) (oU da dr) :=
 ⟨fun δ P P' k h=>ha.mono _ _ _ (fun x z=>hr.mono _ _ _ (fun y z=>k _ z) z) h,
 fun o q=>ha.run o (ha.mono _ _ _ (fun x z v H1 s1 r1=>hr.run (o.same s1) (hr.mono _ _ _ (fun xs z vs H2 s2 r2=>by
  obtain ⟨f1,r1⟩:=r1.same s2
  obtain ⟨f2,r2⟩:=r2
  exact z _ H2 (s1.trans s2) ⟨f1++f2,_,_,f1,f2,rfl,rfl,r1,r2⟩) z)) q)⟩
def Ip{tr:TA}{dr:DA}(ha:ES K Γ ta da)(hr:AS K Γ tr dr):AS K Γ (gp ta tr) (oU da dr) :=
 ⟨fun δ P P' k h=>ha.mono _ _ _ (fun x z=>hr.mono _ _ _ (fun y z=>k _ z) z) h,
 fun o q=>ha.run o (ha.mono _ _ _ (fun x z v H1 f1 s1 r1 n1=>hr.run (o.same s1) (hr.mono _ _ _ (fun xs z vs H2 f2 s2 r2 n2 =>
  z _ H2 (f1++f2) (s1.trans s2) ⟨_,_,f1,f2,rfl,rfl,r1.same s2,r2⟩ fun j hj a ha=>(Mc.mp ha).elim (n1 j hj a) (n2 j hj a)) z)) q)⟩
def iQ{M':List Nat}{tr:TA}{dr:DA}(ha:EM K Γ M ta da)(hr:AM K Γ M' tr dr)(hM:∀i∈M,i∈Γ/\i∉M':=by decide)(Zi:∀i∈M',i∈Γ:=by decide):AM K Γ (M++M') (gp ta tr) (oU da dr) :=
 ⟨fun δ P P' k h=>ha.mono _ _ _ (fun x z=>hr.mono _ _ _ (fun y z=>k _ z) z) h,
 fun {B0 fps δ σ H Q} o q=>ha.run o (ha.mono _ _ _ (fun x z v H1 f1 s1 r1 n1=>hr.run (o.same s1) (hr.mono _ _ _ (fun xs z vs H2 f2 s2 r2 n2=>by
  refine z _ H2 (f1++f2) (s1.trans s2) ⟨_,_,f1,f2,rfl,rfl,r1.same s2,r2⟩ ⟨?_,fun a ha=>(Mc.mp ha).elim (fun h=>(n1.mu a h).same s2) (n2.mu a),fun a ha=>?_⟩
  .refine Mm.mpr ⟨n1.nd,n2.nd,fun a h1 b h2 e=>?_⟩
   subst e
   rcases n2.src a h2 with e|⟨j,hj,e⟩
   .exact (n1.mu a h1).some e
   .rcases n1.src a h1 with e'|⟨i,hi,e'⟩
    .exact o.dom e e'
    .exact o.dj i (hM i hi).1 j (fun y=>(hM i hi).2 (by rw[<- y];exact hj)) a e' e
  .rcases Mc.mp ha with h|h
   .exact (n1.src a h).imp id fun ⟨j,h1,h2⟩=>⟨j,Mf _ h1,h2⟩
   .exact (n2.src a h).elim (fun e=>.inl (s1.free e)) fun ⟨j,h1,h2⟩=>.inr ⟨j,KE _ h1,h2⟩) z)) q)⟩
def jO{n:Nat}(h:n<=1000):n<=sizeLine:=Mq h (by rw[sizeLine_eq];decide)
def Fh(da:DA)(δ:Dl)(P:DK):Prop:=da δ fun xs=>xs.length<=1000/\P (.lst xs)
def Ko(da:DA)(δ:Dl)(P:DK):Prop:=da δ fun xs=>xs.length<=1000/\P (.tup xs)
def dw{u:TA}{dr:DA}(hr:AM K Γ M u dr)(hM:∀i∈M,i∈Γ:=by decide):EM K Γ M (Kg u) (Fh dr) :=
 ⟨fun δ P P' k h=>hr.mono _ _ _ (fun y z=>⟨z.1,k _ z.2⟩) h,
 fun {B0 fps δ σ H Q} o q=>hr.run o (hr.mono _ _ _ (fun xs z vs H1 fp s1 r1 n1=>by
  refine⟨by rw[r1.length];exact jO z.1,fun p hp=>?_⟩
  have hs:Same H1 (upd H1 p (.lst vs)):=Same.jn hp
  refine z.2 _ _ (p::fp) (s1.trans hs) ⟨p,vs,fp,rfl,aw,rfl,r1.same hs⟩ ⟨Mh.mpr ⟨fun h=>(n1.mu p h).some hp,n1.nd⟩,fun a ha=>?_,fun a ha=>?_⟩
  .rcases L8.mp ha with e|h
   .subst e;exact .inl ⟨vs,aw⟩
   .exact (n1.mu a h).same hs
  .rcases L8.mp ha with e|h
   .subst e;exact .inl (s1.free hp)
   .exact n1.src a h) q)⟩
def iq{u:TA}{dr:DA}(hr:AM K Γ M u dr):EM K Γ M (Lm u) (Ko dr) :=
 ⟨fun δ P P' k h=>hr.mono _ _ _ (fun y z=>⟨z.1,k _ z.2⟩) h,
 fun {B0 fps δ σ H Q} o q=>hr.run o (hr.mono _ _ _ (fun xs z vs H1 fp s1 r1 n1=>by
  refine⟨by rw[r1.length];exact jO z.1,fun p hp=>?_⟩
  have hs:Same H1 (upd H1 p (.tup vs)):=Same.jn hp
  exact z.2 _ _ fp (s1.trans hs) ⟨p,vs,rfl,aw,r1.same hs⟩ (n1.same hs)) q)⟩
def Ka{u:TA}{dr:DA}(hr:AR K Γ u dr):ER K Γ (Kg u) (Fh dr) :=
 ⟨fun δ P P' k h=>hr.mono _ _ _ (fun y z=>⟨z.1,k _ z.2⟩) h,
 fun {B0 fps δ σ H Q} o q=>hr.run o (hr.mono _ _ _ (fun xs z vs H1 s1 r1=>by
  obtain ⟨fp,r1⟩:=r1
  refine⟨by rw[r1.length];exact jO z.1,fun p hp=>?_⟩
  have hs:Same H1 (upd H1 p (.lst vs)):=Same.jn hp
  exact z.2 _ _ (s1.trans hs) ⟨p::fp,p,vs,fp,rfl,aw,rfl,r1.same hs⟩) q)⟩
abbrev DSp:=List D->DK->Prop
def bE(S:DSp):Prop:=∀xs (P P':DK),(∀z,P z->P' z)->S xs P->S xs P'
def spP(K:PySem.W.Frag)(S:DSp):Sp:=fun vs H Q _=>∃ds,Rps K H ds vs/\iy K H/\S ds fun x=>∀v H' fp,Same H H'->Rf K H' x v fp->Nw H H' nf [] fp->Q v H'
structure nA(K:PySem.W.Frag)(r:List V->Hp->VK->Prop)(S:DSp):Prop where
 mono:bE S
 run:∀{H xs vs Q},Rps K H xs vs->S xs (fun z=>∀u H' fp,Same H H'->Rf K H' z u fp->Nw H H' nf [] fp->Q u H')->r vs H Q
def ql(S:DSp)(dr:DA)(δ:Dl)(P:DK):Prop:=dr δ fun xs=>S xs P
def aW{r:List V->Hp->VK->Prop}{S:DSp}{u:TA}{dr:DA}(hc:nA K r S)(hr:AR K Γ u dr):EM K Γ [] (tCB r u) (ql S dr) :=
 ⟨fun δ P P' k h=>hr.mono _ _ _ (fun y z=>hc.mono _ _ _ k z) h,
 fun {B0 fps δ σ H Q} o q=>hr.run o (hr.mono _ _ _ (fun xs z vs H1 s1 r1=>hc.run r1 (hc.mono _ _ _ (fun u z u' H' fp s r n=>z u' H' fp (s1.trans s) r (n.any.later s1)) z)) q)⟩
def aJ{S:DSp}{E:XK}{u:TA}{dr:DA}(hS:bE S)(hr:AR K Γ u dr):EM K Γ [] (tq (spP K S) [] E u) (ql S dr) :=
 ⟨fun δ P P' k h=>hr.mono _ _ _ (fun y z=>hS _ _ _ k z) h,
 fun {B0 fps δ σ H Q} o q=>hr.run o (hr.mono _ _ _ (fun xs z vs H1 s1 r1=>⟨xs,by rw[MV];exact r1,(o.b0.trans s1).now,hS _ _ _ (fun u z u' H' fp s r n=>z u' H' fp (s1.trans s) r (n.any.later s1)) z⟩) q)⟩
end
end L3
namespace L3
open PySem L2
structure cf where
 nx:Dl->Prop
 rt:D->Dl->Prop
 bk:Dl->Prop
 ct:Dl->Prop
abbrev DS:=cf->Dl->Prop
structure RtI(B0:Hp)(Γr:List Nat)(fps:Nat->List Addr)(H:Hp)(fp:List Addr):Prop where
 nd:fp.Nodup
 mu:∀a∈fp,Mu H a
 nw:∀a∈fp,B0 a=none
 dj:∀j∈Γr,∀a∈fp,a∉fps j
structure EOk(K:PySem.W.Frag)(ρ:Bool)(Γr Γl Γn:List Nat)(B0:Hp)(Dn:Ends)(E:cf):Prop where
 nx:∀{fps δ σ H},Ok K B0 Γn fps δ σ H->E.nx δ->Dn.nx σ H
 bk:∀{fps δ σ H},Ok K B0 Γl fps δ σ H->E.bk δ->Dn.bk σ H
 ct:∀{fps δ σ H},Ok K B0 Γl fps δ σ H->E.ct δ->Dn.ct σ H
 rt:∀{fps δ σ H x v fp},Ok K B0 Γr fps δ σ H->Rf K H x v fp->(ρ=true->RtI B0 Γr fps H fp)->E.rt x δ->Dn.rt v H
def ST(K:PySem.W.Frag)(ρ:Bool)(Γr Γl:List Nat)(t:TS)(Γ Γn:List Nat)(d:DS):Prop :=
 ∀⦃B0:Hp⦄ ⦃Dn:Ends⦄ ⦃E:cf⦄ ⦃fps:Nat->List Addr⦄ ⦃δ:Dl⦄ ⦃σ:St⦄ ⦃H:Hp⦄,EOk K ρ Γr Γl Γn B0 Dn E->Ok K B0 Γ fps δ σ H->d E δ->t Dn σ H
section
variable {K:PySem.W.Frag}{ρ:Bool}{Γr Γl Γ Ud UX Γn M:List Nat}{t u:TS}{te tb:TE}{de da db:DE}{d e:DS}
def Ed(E:cf)(δ:Dl):Prop:=E.nx δ
def Hy(d e:DS)(E:cf)(δ:Dl):Prop:=d { E with nx:=e E } δ
def bA:ST K ρ Γr Γl GA Γ Γ Ed:=fun _ _ _ _ _ _ _ k o h=>k.nx o h
def ay(h1:ST K ρ Γr Γl t Γ Ud d)(h2:ST K ρ Γr Γl u Ud UX e):ST K ρ Γr Γl (zH t u) Γ UX (Hy d e) :=
 fun {B0 Dn E fps δ σ H} k o h=>h1 (Dn:={ Dn with nx:=u Dn }) (E:={ E with nx:=e E }) ⟨fun o h=>h2 k o h,k.bk,k.ct,k.rt⟩ o h
def ST.post(h:ST K ρ Γr Γl t Γ Ud d)(s:∀i∈Γn,i∈Ud:=by decide):ST K ρ Γr Γl t Γ Γn d:=fun _ _ _ _ _ _ _ k o q=>h ⟨fun o h=>k.nx (o.sub s) h,k.bk,k.ct,k.rt⟩ o q
def D3(M:List Nat)(i:Nat)(de:DE)(E:cf)(δ:Dl):Prop:=de δ fun x=>E.nx ((kill M δ).set i (some x))
def eh(i:Nat)(he:EM K Γ M te de)(hM:∀j∈M,j∈Γ:=by decide):ST K ρ Γr Γl (mn te (kP i)) Γ (i::minus (minus Γ M) [i]) (D3 M i de) :=
 fun _ _ _ _ _ _ _ k o h=>he.run o (he.mono _ _ _ (fun x z v H' fp s r n=>k.nx (o.D8 i hM s r n) z) h)
def JE(i:Nat)(de:DE)(E:cf)(δ:Dl):Prop:=de δ fun x=>E.nx (δ.set i (some x))
def bh(i:Nat)(he:ES K Γ te de):ST K ρ Γr Γl (mn te (kP i)) Γ (minus Γ [i]) (JE i de) :=
 fun _ _ _ _ _ _ _ k o h=>he.run o (he.mono _ _ _ (fun x z v H' fp s r n=>k.nx (o.Bi i s r n) z) h)
def JD(M:List Nat)(de:DE)(E:cf)(δ:Dl):Prop:=de δ fun x=>E.rt x (kill M δ)
def aO(he:EM K Γ M te de)(hM:∀j∈M,j∈Γ:=by decide)(hr:∀j∈Γr,j∈Γ/\j∉M:=by decide):ST K ρ Γr Γl (Iq te) Γ Γn (JD M de) :=
 fun {B0 Dn E fps δ σ H} k o h=>he.run o (he.mono _ _ _ (fun x z v H' fp s r n=>by
  have ok:=((o.kill M).same s).sub (Γ':=Γr) fun i hi=>eT.mpr (hr i hi)
  refine k.rt ok r (fun _=>⟨n.nd,n.mu,fun a ha=>?_,fun j hj a ha=>?_⟩) z
  .rcases n.src a ha with e|⟨i,hi,e⟩
   .exact o.b0.free e
   .exact ((o.own i (hM i hi)).2 a e).1
  .show a∉if j∈M then [] else fps j
   rw[if_neg (hr j hj).2]
   intro z
   rcases n.src a ha with e|⟨i,hi,e⟩
   .exact o.dom z e
   .exact o.dj i (hM i hi) j (fun y=>(hr j hj).2 (by rw[y];exact hi)) a e z) h)
def Hk(c:DT)(d e:DS)(E:cf)(δ:Dl):Prop:=c δ fun b=>if b=true then d E δ else e E δ
def gn{c:TT}{dc:DT}(hc:TR K Γ c dc)(h1:ST K ρ Γr Γl t Γ Γn d)(h2:ST K ρ Γr Γl u Γ Γn e):ST K ρ Γr Γl (Hg c t u) Γ Γn (Hk dc d e) :=
 fun _ _ _ _ _ _ _ k o h=>hc.run o (hc.mono _ _ _ (fun b z H' s=>fh (fun z=>h1 k (o.same s) z) (fun z=>h2 k (o.same s) z) z) h)
structure GT(K:PySem.W.Frag)(Γ:List Nat)(g:TG)(dg:D->Dl->(Dl->Prop)->Prop):Prop where
 mono:∀x δ (P P':Dl->Prop),(∀z,P z->P' z)->dg x δ P->dg x δ P'
 run:∀{B0 fps δ σ H x v fp Q},Ok K B0 Γ fps δ σ H->Rf K H x v fp->(∀j∈Γ,∀a∈fp,a∉fps j)->dg x δ (fun δ'=>∀fps' σ',Ok K B0 Γ fps' δ' σ' H->(∀j∈Γ,fps' j=fps j)->Q σ' H)->g v σ H Q
structure GTs(K:PySem.W.Frag)(Γ:List Nat)(g:TGs)(dg:List D->Dl->(Dl->Prop)->Prop):Prop where
 mono:∀x δ (P P':Dl->Prop),(∀z,P z->P' z)->dg x δ P->dg x δ P'
 run:∀{B0 fps δ σ H x v fp Q},Ok K B0 Γ fps δ σ H->Rfs K H x v fp->(∀j∈Γ,∀a∈fp,a∉fps j)->dg x δ (fun δ'=>∀fps' σ',Ok K B0 Γ fps' δ' σ' H->(∀j∈Γ,fps' j=fps j)->Q σ' H)->g v σ H Q
def xI(i:Nat)(x:D)(δ:Dl)(P:Dl->Prop):Prop:=P (δ.set i (some x))
def aU(i:Nat)(h:i∉Γ:=by decide):GT K Γ (kP i) (xI i):=⟨fun _ _ _ _ k h=>k _ h,fun {B0 fps δ σ H x v fp Q} o r n q=>by
 have ok:=(o.Bi i (Same.refl H) r n).sub (Γ':=Γ) fun j hj=>eT.mpr ⟨hj,fun z=>h (by rw[<- Gc.mp z];exact hj)⟩
 exact q _ _ ok fun j hj=>by rw[if_neg (fun z=>h (by rw[<- z];exact hj))]⟩
def Jh(xs:List D)(δ:Dl)(P:Dl->Prop):Prop:=match xs with|[]=>P δ|_=>False
def DZ(dg:D->Dl->(Dl->Prop)->Prop)(dr:List D->Dl->(Dl->Prop)->Prop)(xs:List D)(δ:Dl)(P:Dl->Prop):Prop:=match xs with|x::r=>dg x δ fun δ'=>dr r δ' P|[]=>False
def Ig:GTs K Γ Lu Jh:=⟨fun x _ _ _ k h=>by cases x with|nil=>exact k _ h|cons _ _=>exact h,fun {B0 fps δ σ H x v fp Q} o r n q=>by
 cases x with
 |nil=>obtain ⟨rfl,_⟩:=r;exact⟨rfl,q _ _ o fun _ _=>rfl⟩
 |cons _ _=>exact q.elim⟩
def yC{g:TG}{gs:TGs}{dg:D->Dl->(Dl->Prop)->Prop}{dr:List D->Dl->(Dl->Prop)->Prop}(h1:GT K Γ g dg)(h2:GTs K Γ gs dr):GTs K Γ (Jg g gs) (DZ dg dr) :=
 ⟨fun x _ _ _ k h=>by
  cases x with
  |nil=>exact h
  |cons x r=>exact h1.mono _ _ _ _ (fun z h=>h2.mono _ _ _ _ k h) h,
 fun {B0 fps δ σ H x v fp Q} o r n q=>by
  cases x with
  |nil=>exact q.elim
  |cons x xs =>
   obtain ⟨y,ys,f1,f2,rfl,rfl,r1,r2⟩:=r
   refine⟨y,ys,rfl,h1.run o r1 (fun j hj a ha=>n j hj a (Mf _ ha)) (h1.mono _ _ _ _ (fun δ' z fps' σ' o' e=>?_) q)⟩
   exact h2.run o' r2 (fun j hj a ha=>by rw[e j hj];exact n j hj a (KE _ ha)) (h2.mono _ _ _ _ (fun Ts z R5 Qo o2 e2=>z R5 Qo o2 fun j hj=>(e2 j hj).trans (e j hj)) z)⟩
def LG(n:Nat)(dg:List D->Dl->(Dl->Prop)->Prop)(x:D)(δ:Dl)(P:Dl->Prop):Prop:=match x with|.tup ds=>ds.length=n/\dg ds δ P|_=>False
def JC(de:DE)(dg:D->Dl->(Dl->Prop)->Prop)(E:cf)(δ:Dl):Prop:=de δ fun x=>dg x δ E.nx
def G9{g:TG}{dg:D->Dl->(Dl->Prop)->Prop}(he:ES K Γ te de)(hg:GT K Γ g dg):ST K ρ Γr Γl (mn te g) Γ Γ (JC de dg) :=
 fun _ _ _ _ _ _ _ k o h=>he.run o (he.mono _ _ _ (fun x z v H' fp s r n=>hg.run (o.same s) r n (hg.mono _ _ _ _ (fun δ' z fps' σ' o' _=>k.nx o' z) z)) h)
structure HE(K:PySem.W.Frag)(J:It)(B:Hp)(ds:List D):Prop where
 go:∀{i H},Same B H->i<ds.length->J.go i H
 yld:∀{i H x H' d},Same B H->J.yld i H x H'->ds[i]?=some d->Same H H'/\∃fp,Rf K H' d x fp/\∀a∈fp,B a≠none
 stop:∀{i H},Same B H->ds.length<=i->J.stop i H
abbrev DI:=Dl->(List D->Prop)->Prop
structure IT(K:PySem.W.Frag)(Γ:List Nat)(wi:TI)(di:DI):Prop where
 mono:∀δ (P P':List D->Prop),(∀x,P x->P' x)->di δ P->di δ P'
 run:∀{B0 fps δ σ H R},Ok K B0 Γ fps δ σ H->di δ (fun ds=>∀(J:It) (H':Hp) (fq:List Addr),Same H H'->(∀j∈Γ,∀a∈fq,a∉fps j) ->
  (∀B,Same B H'->(∀a∈fq,B a=H' a)->(∀a o,H' a=some o->Im o->B a=some o)->HE K J B ds)->R J H')->wi σ H R
def asL(x:D)(P:List D->Prop):Prop:=match x.items with|some ds=>P ds|none=>False
def dQ{x:D}{P:List D->Prop}(h:asL x P):∃ds,x.items=some ds/\P ds:=by
 unfold asL at h;split at h
 .exact⟨_,by assumption,h⟩
 .exact h.elim
def j4{x:D}{ds:List D}{P:List D->Prop}(e:x.items=some ds)(h:P ds):asL x P:=by unfold asL;rw[e];exact h
def Hd(de:DE)(δ:Dl)(P:List D->Prop):Prop:=de δ fun x=>asL x P
def dm(he:ES K Γ te de):IT K Γ (BP K te) (Hd de) :=
 ⟨fun δ P P' k h=>he.mono _ _ _ (fun x z=>by obtain ⟨ds,e,z⟩:=dQ z;exact j4 e (k _ z)) h,
 fun {B0 fps δ σ H R} o h=>he.run o (he.mono _ _ _ (fun x z v H' fp s r n=>by
  obtain ⟨ds,ex,z⟩:=dQ z
  obtain ⟨a,xs,fq,rfl,hs,hr,Uv⟩:=r.seq ex
  refine⟨a,rfl,⟨xs,hs⟩,z (Itl K a) H' fp s n fun B sB ag im=>?_⟩
  have rB:Rf K B x (.ref a) fp:=r.mono (fun b hb u e=>by rw[ag b hb];exact e) im
  obtain ⟨a',PX,PZ,e1,RI,Xr,abM⟩:=rB.seq ex
  cases e1
  have sq:∀{H2:Hp},Same B H2->SqL K H2 a PX:=fun s2=>by
   rcases RI with (h|⟨o',h⟩)|h
   .exact .inl (.inl (s2.st _ _ h trivial))
   .exact .inl (.inr ⟨o',s2.st _ _ h trivial⟩)
   .exact .inr h
  have hl:=Xr.length
  refine⟨fun {i H2} s2 hi=>⟨PX,PX[i]'(by omega),sq s2,by simp [hl,hi]⟩,fun {i H2 y H3 d} s2 hy hd=>?_,fun {i H2} s2 hi=>⟨PX,sq s2,by omega⟩⟩
  obtain ⟨rfl,hy⟩:=hy
  have e2:=hy PX (sq s2)
  obtain ⟨d',f,e3,r3,k3⟩:=Xr.get' e2
  rw[hd] at e3;cases e3
  exact⟨Same.refl _,f,r3.same s2,fun b hb=>by
   obtain ⟨u,hu,_⟩:=r3.dom b hb
   rw[hu];intro z;cases z⟩) h)⟩
def asI(xs:List D)(P:Int->Prop):Prop:=match xs with|[.int j]=>P j|_=>False
def Io(xs:List D)(P:Int->Int->Prop):Prop:=match xs with|[.int i,.int j]=>P i j|_=>False
def wd{xs:List D}{P:Int->Prop}(h:asI xs P):∃j,xs=[.int j]/\P j:=by
 unfold asI at h;split at h
 .exact⟨_,rfl,h⟩
 .exact h.elim
def yj{xs:List D}{P:Int->Int->Prop}(h:Io xs P):∃i j,xs=[.int i,.int j]/\P i j:=by
 unfold Io at h;split at h
 .exact⟨_,_,rfl,h⟩
 .exact h.elim
def oY(lo:Int)(n:Nat):List D:=(List.range n).map fun (k:Nat)=>.int (lo+(k:Int))
def Gd{lo:Int}{n:Nat}{B:Hp}:HE K (Itr lo n) B (oY lo n):=⟨fun {i H2} s2 hi=>by unfold Itr;simpa [oY] using hi,fun {i H2 y H3 d} s2 hy hd=>by
 obtain ⟨rfl,rfl⟩:=hy
 unfold oY at hd
 rw[L9] at hd
 cases e:(List.range n)[i]? with
 |none=>rw[e] at hd;cases hd
 |some k =>
  rw[e] at hd
  obtain ⟨h1,h2⟩:=L7.mp e
  rw[N1] at h2
  subst h2
  cases hd
  exact⟨Same.refl _,[],⟨rfl,rfl⟩,fun _ h=>nomatch h⟩,fun {i H2} s2 hi=>by unfold Itr;simpa [oY] using hi⟩
def EK(da:DA)(δ:Dl)(P:List D->Prop):Prop:=da δ fun xs=>asI xs fun j=>(-(2 ^ 62)<=j/\j<2 ^ 62)/\P (oY 0 j.toNat)
def En(da:DA)(δ:Dl)(P:List D->Prop):Prop:=da δ fun xs=>Io xs fun i j=>(-(2 ^ 62)<=i/\i<2 ^ 62/\-(2 ^ 62)<=j/\j<2 ^ 62)/\P (oY i (j - i).toNat)
def Rps.ints1{H:Hp}{j:Int}{vs:List V}(h:Rps K H [.int j] vs):vs=[.int j]:=by
 obtain ⟨fp,x,r,f1,f2,rfl,_,⟨rfl,_⟩,⟨rfl,_⟩⟩:=h;rfl
def Rps.ints2{H:Hp}{i j:Int}{vs:List V}(h:Rps K H [.int i,.int j] vs):vs=[.int i,.int j]:=by
 obtain ⟨fp,x,r,f1,f2,rfl,_,⟨rfl,_⟩,y,r',f1,f2,rfl,_,⟨rfl,_⟩,⟨rfl,_⟩⟩:=h;rfl
def dP{u:TA}{da:DA}(ha:AR K Γ u da):IT K Γ (Jm u) (EK da) :=
 ⟨fun δ P P' k h=>ha.mono _ _ _ (fun x z=>by obtain ⟨j,rfl,z⟩:=wd z;exact⟨z.1,k _ z.2⟩) h,
 fun {B0 fps δ σ H R} o h=>ha.run o (ha.mono _ _ _ (fun xs z vs H' s r=>by
  obtain ⟨j,rfl,z⟩:=wd z
  exact⟨j,r.ints1,z.1.1,z.1.2,z.2 _ H' [] s (fun _ _ _ h=>(nomatch h)) fun B _ _ _=>Gd⟩) h)⟩
def HW{u:TA}{da:DA}(ha:AR K Γ u da):IT K Γ (Jf u) (En da) :=
 ⟨fun δ P P' k h=>ha.mono _ _ _ (fun x z=>by obtain ⟨i,j,rfl,z⟩:=yj z;exact⟨z.1,k _ z.2⟩) h,
 fun {B0 fps δ σ H R} o h=>ha.run o (ha.mono _ _ _ (fun xs z vs H' s r=>by
  obtain ⟨i,j,rfl,z⟩:=yj z
  exact⟨i,j,r.ints2,z.1,z.2 _ H' [] s (fun _ _ _ h=>(nomatch h)) fun B _ _ _=>Gd⟩) h)⟩
def nr(dg:D->Dl->(Dl->Prop)->Prop)(db:DS)(E:cf):List D->Dl->Prop
 |[],δ=>E.nx δ
 |x::xs,δ=>dg x δ fun δ'=>db { nx:=nr dg db E xs,ct:=nr dg db E xs,bk:=E.nx,rt:=E.rt } δ'
def JR(di:DI)(dg:D->Dl->(Dl->Prop)->Prop)(db:DS)(E:cf)(δ:Dl):Prop:=di δ fun ds=>nr dg db E ds δ
def RtI.base{B1 B0:Hp}{fps:Nat->List Addr}{H:Hp}{fp:List Addr}(r:RtI B1 Γr fps H fp)(s:Same B0 B1)(_:iy K B0):RtI B0 Γr fps H fp:=⟨r.nd,r.mu,fun a ha=>s.free (r.nw a ha),r.dj⟩
def jf{wi:TI}{di:DI}{g:TG}{dg:D->Dl->(Dl->Prop)->Prop}{tb:TS}{db:DS}(hi:IT K Γ wi di)(hg:GT K Γ g dg)(hb:ST K ρ Γr Γ tb Γ Γ db):ST K ρ Γr Γl (LK wi g tb) Γ Γ (JR di dg db):=by
 intro B0 Dn E fps δ σ H k o h
 refine hi.run o (hi.mono _ _ _ (fun ds z J H1 fq s1 n1 Uu=>?_) h)
 obtain ⟨B1,sB,o1,ag⟩:=(o.same s1).rebase
 have hJ:HE K J B1 ds:=Uu B1 o1.b0 (fun a ha=>ag a fun j hj=>n1 j hj a ha) fun a u e im=>by
  rw[ag a fun j hj ha=>((o1.own j hj).2 a ha).2.nu u e im];exact e
 refine⟨fun i m σ H=>m=ds.length - i/\i<=ds.length/\∃fps δ,Ok K B1 Γ fps δ σ H/\nr dg db E (ds.drop i) δ,⟨ds.length,by omega,NG _,fps,δ,o1,by rw[NH];exact z⟩,?_⟩
 rintro i m Qo H2 ⟨rfl,hi2,R5,Ts,o2,z2⟩
 by_cases NZ:i<ds.length
 .refine .inr ⟨hJ.go o2.b0 NZ,_,fun σ' H' q=>q,fun x H3 hy=>?_⟩
  obtain ⟨s3,fp,r3,n3⟩:=hJ.yld o2.b0 hy (dz NZ)
  rw[MD NZ] at z2
  refine hg.run (o2.same s3) r3 (fun j hj a ha hz=>n3 a ha ((o2.own j hj).2 a hz).1) (hg.mono _ _ _ _ (fun δ' z' fps' σ' o' e'=>?_) z2)
  refine hb (E:={ nx:=nr dg db E (ds.drop (i+1)),ct:=nr dg db E (ds.drop (i+1)),bk:=E.nx,rt:=E.rt }) ⟨fun o4 z4=>⟨ds.length - (i+1),by omega,rfl,NZ,_,_,o4,z4⟩,fun o4 z4=>k.nx (o4.base sB o.b0.tv) z4,fun o4 z4=>⟨ds.length - (i+1),by omega,rfl,NZ,_,_,o4,z4⟩,fun o4 r4 i4 z4=>k.rt (o4.base sB o.b0.tv) r4 (fun y=>(i4 y).base sB o.b0.tv) z4⟩ o' z'
 .have e:i=ds.length:=by omega
  subst e
  rw[O1] at z2
  exact .inl ⟨hJ.stop o2.b0 (Mi _),k.nx (o2.base sB o.b0.tv) z2⟩
def Jv(c:DT)(db:DS)(E:cf)(δ:Dl):Prop:=∃W:Nat->Dl->Prop,(∃m,W m δ)/\∀m δ,W m δ->c δ fun b=>if b=true then db { nx:=fun δ'=>∃m',m' < m/\W m' δ',ct:=fun δ'=>∃m',m' < m/\W m' δ',bk:=E.nx,rt:=E.rt } δ else E.nx δ
def rF{c:TT}{dc:DT}{tb:TS}{db:DS}(hc:TR K Γ c dc)(hb:ST K ρ Γr Γ tb Γ Γ db):ST K ρ Γr Γl (FW c tb) Γ Γ (Jv dc db):=by
 intro B0 Dn E fps δ σ H k o h
 obtain ⟨W,⟨m,w0⟩,turn⟩:=h
 refine⟨fun m σ H=>∃fps δ,Ok K B0 Γ fps δ σ H/\W m δ,⟨m,fps,δ,o,w0⟩,?_⟩
 rintro m Qo H2 ⟨R5,Ts,o2,w2⟩
 refine hc.run o2 (hc.mono _ _ _ (fun b z H' s=>fh (fun z=>?_) (fun z=>k.nx (o2.same s) z) z) (turn m Ts w2))
 refine⟨fun σ H=>∃m',m' < m/\∃fps δ,Ok K B0 Γ fps δ σ H/\W m' δ,fun σ' H' q=>q,hb (E:={ nx:=fun δ'=>∃m',m' < m/\W m' δ',ct:=fun δ'=>∃m',m' < m/\W m' δ',bk:=E.nx,rt:=E.rt }) ⟨?_,fun o4 z4=>k.nx o4 z4,?_,k.rt⟩ (o2.same s) z⟩
 .rintro fps δ σ H o4 ⟨m',h1,h2⟩
  exact⟨m',h1,fps,δ,o4,h2⟩
 .rintro fps δ σ H o4 ⟨m',h1,h2⟩
  exact⟨m',h1,fps,δ,o4,h2⟩
def u7(f:D->(List D->Prop)->Prop):List D->List D->(List D->Prop)->Prop
 |[],acc,P=>P acc
 |x::xs,acc,P=>f x fun ys=>u7 f xs (acc++ys) P
def sk{f:D->(List D->Prop)->Prop}(hf:∀x P P',(∀z,P z->P' z)->f x P->f x P'):∀xs acc (P P':List D->Prop),(∀z,P z->P' z)->u7 f xs acc P->u7 f xs acc P'
 |[],acc,P,P',k,h=>k _ h
 |x::xs,acc,P,P',k,h=>hf x _ _ (fun z h=>sk hf xs _ P P' k h) h
def fu(k:Nat)(idx:List Nat)(δ:Dl):Dl:=List.replicate k none++idx.map fun i=>(δ[i]?).getD none
def Jl{k:Nat}{idx:List Nat}{B0:Hp}{fps:Nat->List Addr}{δ:Dl}{σ:St}{H:Hp}(o:Ok K B0 Γ fps δ σ H):Ok K H [] (fun j=>match (fu k idx δ)[j]? with|some (some _)=>fps (idx.getD (j - k) 0)|_=>[]) (fu k idx δ) (gT k idx σ) H:=by
 refine⟨by simp [fu,gT,AU],SB.refl o.b0.now,fun i d e=>?_,fun i h=>?_,fun _ h=>(nomatch h),fun _ h=>(nomatch h)⟩
 .rw[e]
  unfold fu at e
  unfold gT AU
  by_cases hi:i<k
  .rw[Mt (by simpa using hi)] at e
   simp [hi] at e
  .rw[MA (by simpa using hi),Mw,L9] at e
   cases ej:idx[i - k]? with
   |none=>rw[ej] at e;simp at e
   |some j =>
    rw[ej] at e
    simp only[Option.map_some,Option.some.injEq] at e
    have e':δ[j]?=some (some d):=by
     cases q:δ[j]? with
     |none=>rw[q] at e;cases e
     |some x=>rw[q] at e;simp at e;rw[e]
    obtain ⟨v,h1,h2⟩:=o.val j d e'
    refine⟨v,?_,?_⟩
    .rw[MA (by simpa using hi),Mw,L9,ej]
     simp [h1]
    .show Rf K H d v (fps (idx.getD (i - k) 0))
     rw[gV,ej]
     exact h2
 .show (match (fu k idx δ)[i]? with|some (some _)=>_|_=>_)=_
  split
  .exact absurd (by assumption) (h _)
  .rfl
def ka(dg:D->Dl->(Dl->Prop)->Prop)(dt:DT)(de:DE)(δ:Dl)(x:D)(R:List D->Prop):Prop:=dg x δ fun Ts=>dt Ts fun b=>if b=true then de Ts fun y=>R [y] else R []
def nF(di:DI)(dg:D->Dl->(Dl->Prop)->Prop)(dt:DT)(de:DE)(k:Nat)(idx:List Nat)(δ:Dl)(P:DK):Prop:=di δ fun ds=>ds.length<=1000/\u7 (ka dg dt de (fu k idx δ)) ds [] fun ys=>P (.lst ys)
def AO{Γ':List Nat}{g:TG}{dg:D->Dl->(Dl->Prop)->Prop}{tt:TT}{dt:DT}(hg:GT K Γ' g dg)(ht:TR K Γ' tt dt)(hm:∀δ (P P':DK),(∀x,P x->P' x)->de δ P->de δ P')(δ:Dl):∀x P P',(∀z,P z->P' z)->ka dg dt de δ x P->ka dg dt de δ x P' :=
 fun x P P' k h=>hg.mono _ _ _ _ (fun Ts h=>ht.mono _ _ _ (fun b h=>fh (hm _ _ _ fun y h=>k _ h) (k _) h) h) h
def rd{wi:TI}{di:DI}{g:TG}{dg:D->Dl->(Dl->Prop)->Prop}{tt:TT}{dt:DT}{k:Nat}{idx:List Nat}(hi:IT K [] wi di)(hg:GT K [] g dg)(ht:TR K [] tt dt)(he:EM K [] [] te de) :
  EM K Γ [] (vW wi g tt te k idx) (nF di dg dt de k idx):=by
 have hm:=AO hg ht he.mono
 refine⟨fun δ P P' k h=>hi.mono _ _ _ (fun ds z=>⟨z.1,sk (hm _) _ _ _ _ (fun ys h=>k _ h) z.2⟩) h,fun {B0 fps δ σ H Q} o h=>hi.run (o.sub (Γ':=[]) fun _ h=>(nomatch h)) (hi.mono _ _ _ (fun ds z J H1 fq s1 n1 Uu=>?_) h)⟩
 have hJ:HE K J H1 ds:=Uu H1 (Same.refl _) (fun _ _=>rfl) fun a u e im=>e
 obtain ⟨hz,z⟩:=z
 refine⟨fun i m vs H2=>m=ds.length - i/\i<=ds.length/\Same H1 H2/\vs.length<=i/\∃ys fp,Rfs K H2 ys vs fp/\Nw H1 H2 nf [] fp/\u7 (ka dg dt de (fu k idx δ)) (ds.drop i) ys fun ys=>∀v H' fp,Same H H'->Rf K H' (.lst ys) v fp->Nw H H' fps [] fp->Q v H',
  ⟨ds.length,by omega,NG _,Same.refl _,NG _,[],[],⟨rfl,rfl⟩,Nw.nil,by rw[NH];exact z⟩,?_⟩
 rintro i m vs H2 ⟨rfl,hi2,s2,Vg,ys,fp,r2,n2,z2⟩
 by_cases NZ:i<ds.length
 .refine .inr ⟨hJ.go s2 NZ,jO (by omega),_,fun Tt H' q=>q,fun x H3 hy=>?_⟩
  obtain ⟨s3,fx,r3,n3⟩:=hJ.yld s2 hy (dz NZ)
  rw[MD NZ] at z2
  have oi:=(Jl (k:=k) (idx:=idx) ((o.same s1).same (s2.trans s3)))
  refine hg.run oi r3 (fun _ h=>(nomatch h)) (hg.mono _ _ _ _ (fun δ' z' fps' σ' o' e'=>?_) z2)
  refine ht.run o' (ht.mono _ _ _ (fun b z' H4 s4=>fh (fun z'=>he.run (o'.same s4) (he.mono _ _ _ (fun y z' v H5 f5 s5 r5 n5=>?_) z')) (fun z'=>?_) z') z')
  .have W0:=s3.trans (s4.trans s5)
   refine⟨ds.length - (i+1),by omega,rfl,NZ,s2.trans W0,by simp;omega,ys++[y],fp++f5,(r2.same W0).append (Rfs.one r5),⟨?_,fun a ha=>?_,fun a ha=>?_⟩,z'⟩
   .refine Mm.mpr ⟨n2.nd,n5.nd,fun a h1 b h2 e=>?_⟩
    subst e
    exact ((n2.mu a h1).same (s3.trans s4)).some (n5.fresh a h2)
   .rcases Mc.mp ha with h|h
    .exact (n2.mu a h).same W0
    .exact n5.mu a h
   .rcases Mc.mp ha with h|h
    .exact n2.src a h
    .exact .inl ((s2.trans (s3.trans s4)).free (n5.fresh a h))
  .have TX:=s3.trans s4
   dsimp only at z'
   rw[MV] at z'
   exact⟨ds.length - (i+1),by omega,rfl,NZ,s2.trans TX,by omega,ys,fp,r2.same TX,n2.same TX,z'⟩
 .have e:i=ds.length:=by omega
  subst e
  rw[O1] at z2
  refine .inl ⟨hJ.stop s2 (Mi _),jO (by omega),fun p hp=>?_⟩
  have hs:Same H2 (upd H2 p (.lst vs)):=Same.jn hp
  refine z2 _ _ (p::fp) ((s1.trans s2).trans hs) ⟨p,vs,fp,rfl,aw,rfl,r2.same hs⟩ ⟨Mh.mpr ⟨fun h=>(n2.mu p h).some hp,n2.nd⟩,fun a ha=>?_,fun a ha=>?_⟩
  .rcases L8.mp ha with e|h
   .subst e;exact .inl ⟨vs,aw⟩
   .exact (n2.mu a h).same hs
  .rcases L8.mp ha with e|h
   .subst e;exact .inl ((s1.trans s2).free hp)
   .exact .inl (s1.free (n2.fresh a h))
def FO(YB:Dl)(P:Bool->Prop):Prop:=P true
def Kl:TR K Γ G7 FO:=⟨fun _ _ _ k h=>k _ h,fun {_ _ _ _ H _} o q=>q H (Same.refl H)⟩
def aL(N:List Str)(ds:List D):Dl:=ds.map some++List.replicate (N.length - ds.length) none
def Rfs.split{H:Hp}:∀{ds:List D}{vs:List V}{fp:List Addr},Rfs K H ds vs fp->∃fps:Nat->List Addr,(∀i d,ds[i]?=some d->∃v,vs[i]?=some v/\Rf K H d v (fps i))/\∀i,ds.length<=i->fps i=[]
 |[],vs,fp,h=>⟨fun _=>[],fun i d e=>by simp at e,fun _ _=>rfl⟩
 |d::ds,vs,fp,h=>by
  obtain ⟨x,r,f1,f2,rfl,rfl,h1,h2⟩:=h
  obtain ⟨fps,k1,k2⟩:=Rfs.split h2
  refine⟨fun i=>match i with|0=>f1|j+1=>fps j,fun i d' e=>?_,fun i hi=>?_⟩
  .cases i with
   |zero=>simp at e;subst e;exact⟨x,rfl,h1⟩
   |succ j=>simpa using k1 j d' (by simpa using e)
  .cases i with
   |zero=>simp at hi
   |succ j=>exact k2 j (by simpa using hi)
def mf{N:List Str}{ds:List D}{vs:List V}{H:Hp}(h:Rps K H ds vs)(tv:iy K H):∃fps,Ok K H [] fps (aL N ds) (L2.start N vs) H:=by
 obtain ⟨fp,h⟩:=h
 have hl:=h.length
 obtain ⟨fps,k1,k2⟩:=h.split
 refine⟨fps,by simp [aL,L2.start,hl],SB.refl tv,fun i d e=>?_,fun i e=>?_,fun _ h=>(nomatch h),fun _ h=>(nomatch h)⟩
 .unfold aL at e
  unfold L2.start
  by_cases hi:i<ds.length
  .rw[Mt (by simpa using hi),L9,dz hi] at e
   simp at e
   obtain ⟨v,h1,h2⟩:=k1 i d (by rw[dz hi,e])
   exact⟨v,by rw[Mt (by simpa [hl] using hi),L9,h1];rfl,h2⟩
  .rw[MA (by simpa using hi),MT] at e
   split at e<;>cases e
 .by_cases hi:i<ds.length
  .refine absurd ?_ (e ds[i])
   unfold aL
   rw[Mt (by simpa using hi),L9,dz hi]
   rfl
  .exact k2 i (by omega)
abbrev qt(P:DK):cf:=⟨fun _=>P .non,fun x _=>P x,fun _=>False,fun _=>False⟩
def bz{N:List Str}{S:DSp}(hs:ST K true [] [] t [] Γn d)(hd:∀ds P,S ds P->d (qt P) (aL N ds)) :
  ∀{vs H Q E},spP K S vs H Q E->t { nx:=fun _ H'=>Q .non H',rt:=Q } (L2.start N vs) H:=by
 rintro vs H Q E ⟨ds,r,tv,h⟩
 obtain ⟨fps,o⟩:=mf (N:=N) r tv
 refine hs (E:=qt _) ⟨fun {fps δ σ H'} o z=>?_,fun o (z:False)=>z.elim,fun o (z:False)=>z.elim,fun o r i z=>?_⟩ o (hd ds _ h)
 .exact z _ H' [] o.b0 ⟨rfl,rfl⟩ Nw.nil
 .exact z _ _ _ o.b0 r ⟨(i rfl).nd,(i rfl).mu,fun a ha=>.inl ((i rfl).nw a ha)⟩
end
end L3
namespace L3
open PySem L2
section
variable {K:PySem.W.Frag}{ρ:Bool}{Γr Γl Γ M:List Nat}{t u:TS}{te tx t1 t2:TE}{de dx d1 d2:DE}{d e:DS}
variable {B0:Hp}{fps:Nat->List Addr}{δ:Dl}{σ:St}{H H':Hp}
def Ok.zM(o:Ok K B0 Γ fps δ σ H){i:Nat}(hi:i∈Γ){d':D}{v:V}{fp':List Addr}(hv:σ[i]?=some (some v))(r:Rf K H' d' v fp')(nd:fp'.Nodup)(mu:∀a∈fp',Mu H' a)
  (src:∀a∈fp',a∈fps i\/(B0 a=none/\∀j,a∉fps j)) (sb:SB K B0 H') (keep:∀b u,b∉fps i->H b=some u->NT u->H' b=some u) :
  Ok K B0 Γ (fun j=>if j=i then fp' else fps j) (δ.set i (some d')) σ H':=by
 have NZ:i<δ.length:=by rw[<- o.len];exact (L7.mp hv).1
 refine⟨by simp [o.len],sb,fun j d e=>?_,fun j h=>?_,fun j hj=>?_,fun j hj k hk a ha=>?_⟩
 .by_cases h:j=i
  .subst h
   rw[M6] at e
   simp [NZ] at e
   subst e
   exact⟨v,hv,by rw[if_pos rfl];exact r⟩
  .rw[Ml (M0 h)] at e
   obtain ⟨w,h1,h2⟩:=o.val j d e
   refine⟨w,h1,?_⟩
   rw[if_neg h]
   exact h2.lK (fun a ha u e n=>keep a u (fun z=>o.dj i hi j h a z ha) e n) fun a u e im=>keep a u (fun z=>((o.own i hi).2 a z).2.nu u e im) e (by rcases im with ⟨_,rfl⟩|⟨_,_,rfl⟩|⟨_,_,rfl⟩<;>trivial)
 .by_cases h':j=i
  .subst h'
   exact absurd (by rw[M6];simp [NZ]) (h d')
  .rw[if_neg h']
   exact o.non j fun d z=>h d (by rw[Ml (M0 h')];exact z)
 .by_cases h:j=i
  .subst h
   rw[if_pos rfl]
   refine⟨nd,fun a ha=>⟨?_,mu a ha⟩⟩
   rcases src a ha with z|z
   .exact ((o.own j hi).2 a z).1
   .exact z.1
  .rw[if_neg h]
   refine⟨(o.own j hj).1,fun a ha=>⟨((o.own j hj).2 a ha).1,?_⟩⟩
   have hn:a∉fps i:=fun z=>o.dj i hi j h a z ha
   rcases ((o.own j hj).2 a ha).2 with ⟨x,z⟩|⟨x,z⟩|⟨x,z⟩|⟨C,dx,fs,z⟩
   .exact .inl ⟨x,keep a _ hn z trivial⟩
   .exact .inr (.inl ⟨x,keep a _ hn z trivial⟩)
   .exact .inr (.inr (.inl ⟨x,keep a _ hn z trivial⟩))
   .exact .inr (.inr (.inr ⟨C,dx,fs,keep a _ hn z trivial⟩))
 .by_cases h:j=i
  .subst h
   rw[if_pos rfl] at ha
   rw[if_neg hk]
   rcases src a ha with z|z
   .exact o.dj j hi k hk a z
   .exact z.2 k
  .rw[if_neg h] at ha
   by_cases T6:k=i
   .rw[if_pos T6]
    intro z
    rcases src a z with y|y
    .exact o.dj j hj i (M0 h) a ha y
    .exact y.2 j ha
   .rw[if_neg T6]
    exact o.dj j hj k hk a ha
def oN(δ:Dl)(i:Nat)(P:List D->Prop):Prop:=match δ[i]? with|some (some (.lst ds))=>P ds|_=>False
def Ok.write(o:Ok K B0 Γ fps δ σ H){i:Nat}(hi:i∈Γ){d':D}{v:V}{fp':List Addr}(hv:σ[i]?=some (some v))(r:Rf K H' d' v fp')(nd:fp'.Nodup)(mu:∀a∈fp',Mu H' a)
  (src:∀a∈fp',a∈fps i\/(B0 a=none/\∀j,a∉fps j)) (keep:∀b u,b∉fps i->H b=some u->H' b=some u) :
  Ok K B0 Γ (fun j=>if j=i then fp' else fps j) (δ.set i (some d')) σ H':=o.zM hi hv r nd mu src (o.b0.keep (fun a ha=>(o.own i hi).2 a ha) keep) fun b u n e _=>keep b u n e
def pM{δ:Dl}{i:Nat}{P:List D->Prop}(h:oN δ i P):∃ds,δ[i]?=some (some (.lst ds))/\P ds:=by
 unfold oN at h;split at h
 .exact⟨_,by assumption,h⟩
 .exact h.elim
def Ok.EC(o:Ok K B0 Γ fps δ σ H){i:Nat}{ds:List D}(e:δ[i]?=some (some (.lst ds))):∃a xs fq,σ[i]?=some (some (.ref a))/\H a=some (.lst xs)/\fps i=a::fq/\Rfs K H ds xs fq:=by
 obtain ⟨v,h1,a,xs,fq,rfl,h2,h3,h4⟩:=o.val i _ e
 exact⟨a,xs,fq,h1,h2,h3,h4⟩
def rA{a:Addr}{w:HO}{fp:List Addr}(ha:a∈fp):∀b u,b∉fp->H b=some u->upd H a w b=some u:=fun b u hb e=>by
 rw[aF (fun z=>hb (by rw[z];exact ha))];exact e
def wm(M:List Nat)(i:Nat)(de:DE)(E:cf)(δ:Dl):Prop:=oN δ i fun ds=>de δ fun x=>ds.length<1000/\E.nx ((kill M δ).set i (some (.lst (ds++[x]))))
def jt(i:Nat)(he:EM K Γ M te de)(hi:i∈Γ/\i∉M:=by decide)(hM:∀j∈M,j∈Γ:=by decide):ST K ρ Γr Γl (Bg (tBM K "list" Cn (eJ i) (gp te m7))) Γ (minus Γ M) (wm M i de):=by
 intro B0 Dn E fps δ σ H k o h
 obtain ⟨ds,e,h⟩:=pM h
 obtain ⟨a,xs,fq,h1,h2,h3,h4⟩:=o.EC e
 refine⟨.ref a,h1,.inl ⟨rfl,xs,.inl (.inl h2)⟩,he.run o (he.mono _ _ _ (fun x z v H1 fp s r n=>?_) h)⟩
 refine⟨a,xs,v,rfl,rfl,s.st _ _ h2 trivial,by rw[h4.length];exact Mo z.1 (jO (Mi _)),?_⟩
 have ok:=(o.kill M).same s
 have Uw:i∈minus Γ M:=eT.mpr hi
 have Rj:=o.own i hi.1
 rw[h3] at Rj
 obtain ⟨nd,Sr⟩:=Rj
 obtain ⟨na,U5⟩:=Mh.mp nd
 have Vu:∀b∈fp,b≠a/\b∉fq:=fun b hb=>by
  have:b∉fps i:=fun z=>by
   rcases n.src b hb with y|⟨j,hj,y⟩
   .exact o.dom z y
   .exact o.dj j (hM j hj) i (fun w=>hi.2 (by rw[w];exact hj)) b y z
  rw[h3] at this
  exact⟨fun z=>this (by rw[z];exact Fk),fun z=>this (mo _ z)⟩
 have nt:=((Sr a Fk).2.same s).nu
 refine k.nx (ok.write Uw (d':=.lst (ds++[x])) (fp':=a::(fq++fp)) h1 ⟨a,xs++[v],fq++fp,rfl,aw,rfl,?_⟩ ?_ (fun b hb=>?_) (fun b hb=>?_) ?_) z.2
 .exact ((h4.same s).upd na nt).append ((Rfs.one r).upd (fun w=>(Vu a w).1 rfl) nt)
 .refine Mh.mpr ⟨fun w=>?_,Mm.mpr ⟨U5,n.nd,fun b h1 c h2 z=>?_⟩⟩
  .rcases Mc.mp w with w|w
   .exact na w
   .exact (Vu a w).1 rfl
  .subst z;exact (Vu b h2).2 h1
 .refine Mu.upd ?_ (.inl ⟨_,rfl⟩)
  rcases L8.mp hb with w|w
  .subst w;exact .inl ⟨xs,s.st _ _ h2 trivial⟩
  .rcases Mc.mp w with w|w
   .exact (Sr b (mo _ w)).2.same s
   .exact n.mu b w
 .show b∈(if i∈M then [] else fps i)\/_
  rw[if_neg hi.2,h3]
  rcases L8.mp hb with w|w
  .subst w;exact .inl Fk
  .rcases Mc.mp w with w|w
   .exact .inl (mo _ w)
   .refine .inr ⟨?_,fun j=>?_⟩
    .rcases n.src b w with y|⟨j,hj,y⟩
     .exact o.b0.free y
     .exact ((o.own j (hM j hj)).2 b y).1
    .show b∉(if j∈M then [] else fps j)
     split
     .exact MF
     .rename_i hj
      intro z
      rcases n.src b w with y|⟨j',SQ,y⟩
      .exact o.dom z y
      .exact o.dj j' (hM j' SQ) j (fun q=>hj (by rw[q];exact SQ)) b y z
 .show ∀b u,b∉(if i∈M then [] else fps i)->_
  rw[if_neg hi.2,h3]
  exact rA Fk
def Rfs.set{H:Hp}{x:D}{v:V}{fp:List Addr}(r:Rf K H x v fp)(nd:fp.Nodup):∀{ds:List D}{xs:List V}{fq:List Addr}{j:Nat},Rfs K H ds xs fq->fq.Nodup->(∀a∈fp,a∉fq)->j<ds.length ->
  ∃PZ,Rfs K H (ds.set j x) (xs.set j v) PZ/\PZ.Nodup/\∀a∈PZ,a∈fq\/a∈fp
 |[],xs,fq,j,h,_,_,hj=>by simp at hj
 |d::ds,xs,fq,j,h,hn,hd,hj=>by
  obtain ⟨y,ys,f1,f2,rfl,rfl,h1,h2⟩:=h
  obtain ⟨n1,n2,n3⟩:=Mm.mp hn
  cases j with
  |zero =>
   refine⟨fp++f2,⟨v,ys,fp,f2,rfl,rfl,r,h2⟩,Mm.mpr ⟨nd,n2,fun a ha b hb z=>?_⟩,fun a ha=>?_⟩
   .subst z;exact hd a ha (KE _ hb)
   .exact (Mc.mp ha).elim .inr fun z=>.inl (KE _ z)
  |succ j =>
   obtain ⟨PZ,r',SE,k'⟩:=Rfs.set r nd (j:=j) h2 n2 (fun a ha z=>hd a ha (KE _ z)) (by simpa using hj)
   refine⟨f1++PZ,⟨y,ys.set j v,f1,PZ,rfl,rfl,h1,r'⟩,Mm.mpr ⟨n1,SE,fun a ha b hb z=>?_⟩,fun a ha=>?_⟩
   .subst z
    rcases k' a hb with w|w
    .exact n3 a ha a w rfl
    .exact hd a w (Mf _ ha)
   .rcases Mc.mp ha with w|w
    .exact .inl (Mf _ w)
    .exact (k' a w).imp (KE _) id
def rX(i:Nat)(de dx:DE)(E:cf)(δ:Dl):Prop:=de δ fun x=>oN δ i fun ds=>dx δ fun k=>asI [k] fun n=>match ixN ds.length n with|some j=>E.nx (δ.set i (some (.lst (ds.set j x))))|none=>False
def Ej{n:Nat}{i:Int}{j:Nat}(h:ixN n i=some j):j<n:=by
 unfold ixN at h
 split at h
 .split at h
  .cases h;omega
  .cases h
 .split at h
  .cases h;omega
  .cases h
def Ax(o:Ok K B0 Γ fps δ σ H){i j:Nat}(hi:i∈Γ){ds:List D}{x:D}{v:V}{fp:List Addr}(e:δ[i]?=some (some (.lst ds)))(r:Rf K H x v fp)(nd:fp.Nodup)(mu:∀a∈fp,Mu H a)(src:∀a∈fp,B0 a=none/\∀j,a∉fps j)(hj:j<ds.length) :
  ∃a xs,σ[i]?=some (some (.ref a))/\H a=some (.lst xs)/\xs.length=ds.length/\∃fps',Ok K B0 Γ fps' (δ.set i (some (.lst (ds.set j x)))) σ (upd H a (.lst (xs.set j v))):=by
 obtain ⟨a,xs,fq,h1,h2,h3,h4⟩:=o.EC e
 have Rj:=o.own i hi
 rw[h3] at Rj
 obtain ⟨T1,Sr⟩:=Rj
 obtain ⟨na,U5⟩:=Mh.mp T1
 have nt:=(Sr a Fk).2.nu
 have R0:∀b∈fp,b∉fps i:=fun b hb=>(src b hb).2 i
 rw[h3] at R0
 obtain ⟨PZ,r',SE,k'⟩:=Rfs.set r nd h4 U5 (fun b hb z=>R0 b hb (mo _ z)) hj
 have V4:a∉PZ:=fun z=>(k' a z).elim na fun w=>R0 a w Fk
 refine⟨a,xs,h1,h2,h4.length,_,o.write hi (fp':=a::PZ) h1 ⟨a,xs.set j v,PZ,rfl,aw,rfl,r'.upd V4 nt⟩ (Mh.mpr ⟨V4,SE⟩) (fun b hb=>Mu.upd ?_ (.inl ⟨_,rfl⟩)) (fun b hb=>?_) ?_⟩
 .rcases L8.mp hb with w|w
  .subst w;exact .inl ⟨xs,h2⟩
  .rcases k' b w with w|w
   .exact (Sr b (mo _ w)).2
   .exact mu b w
 .rw[h3]
  rcases L8.mp hb with w|w
  .subst w;exact .inl Fk
  .rcases k' b w with w|w
   .exact .inl (mo _ w)
   .exact .inr (src b w)
 .rw[h3];exact rA Fk
def cY{x:D}{P:Int->Prop}(h:asI [x] P):∃j,x=.int j/\P j:=by
 obtain ⟨j,e,h⟩:=wd h;cases e;exact⟨j,rfl,h⟩
def om(i:Nat)(he:EM K Γ [] te de)(hx:ER K Γ tx dx)(hi:i∈Γ:=by decide):ST K ρ Γr Γl (mn te (yT (eJ i) tx vt)) Γ Γ (rX i de dx):=by
 intro B0 Dn E fps δ σ H k o h
 refine he.run o (he.mono _ _ _ (fun x z v H1 fp s r n=>?_) h)
 obtain ⟨ds,e,z⟩:=pM z
 obtain ⟨a0,_,_,h1,_⟩:=(o.same s).EC e
 refine⟨.ref a0,h1,hx.run (o.same s) (hx.mono _ _ _ (fun y z w H2 s2 r2=>?_) z)⟩
 obtain ⟨m,em,z9⟩:=cY z
 subst em
 cases ej:ixN ds.length m with
 |none=>rw[ej] at z9;exact z9.elim
 |some j =>
  rw[ej] at z9
  obtain ⟨a,xs,e1,e2,e3,fps',o'⟩:=Ax ((o.same s).same s2) hi e (r.same s2) n.nd (fun a ha=>(n.mu a ha).same s2) (fun a ha=>⟨o.b0.free (n.fresh a ha),fun j z=>o.dom z (n.fresh a ha)⟩) (Ej ej)
  rw[h1] at e1;cases e1
  exact⟨a0,xs,m,j,rfl,r2.int,e2,by rw[e3];exact ej,k.nx o' z9⟩
def Rfs.inner{H:Hp}:∀{ds:List D}{xs:List V}{fq:List Addr}{j:Nat}{es:List D},Rfs K H ds xs fq->fq.Nodup->ds[j]?=some (.lst es) ->
  ∃b ys fe,xs[j]?=some (.ref b)/\H b=some (.lst ys)/\Rfs K H es ys fe/\b∈fq/\(∀a∈fe,a∈fq)/\b∉fe/\fe.Nodup /\
   ∀{H':Hp}{es':List D}{S5:List V}{QD:List Addr},(∀c u,c≠b->H c=some u->H' c=some u)->H' b=some (.lst S5)->(∀u,H b=some u->¬ Im u)->Rfs K H' es' S5 QD->QD.Nodup->b∉QD->(∀a∈QD,a∈fe\/a∉fq) ->
    ∃PZ,Rfs K H' (ds.set j (.lst es')) xs PZ/\PZ.Nodup/\∀a∈PZ,a∈fq\/a∈QD
 |[],xs,fq,j,es,h,_,e=>by simp at e
 |d::ds,xs,fq,j,es,h,hn,e=>by
  obtain ⟨y,ys,f1,f2,rfl,rfl,h1,h2⟩:=h
  obtain ⟨n1,n2,n3⟩:=Mm.mp hn
  cases j with
  |zero =>
   simp at e;subst e
   obtain ⟨b,zs,fe,rfl,hb,rfl,h3⟩:=h1
   obtain ⟨m1,m2⟩:=Mh.mp n1
   refine⟨b,zs,fe,rfl,hb,h3,Mf _ Fk,fun a ha=>Mf _ (mo _ ha),m1,m2,fun {H' es' S5 QD} k1 k2 k3 k4 k5 k6 k7=>?_⟩
   refine⟨(b::QD)++f2,⟨_,ys,b::QD,f2,rfl,rfl,⟨b,S5,QD,rfl,k2,rfl,k4⟩,?_⟩,Mm.mpr ⟨Mh.mpr ⟨k6,k5⟩,n2,fun a ha c hc z=>?_⟩,fun a ha=>?_⟩
   .exact h2.mono (fun c hc u e=>k1 c u (fun z=>n3 b Fk c hc z.symm) e) fun c u e im=>k1 c u (fun z=>k3 u (by rw[<- z];exact e) im) e
   .subst z
    rcases L8.mp ha with w|w
    .exact n3 a (by rw[w];exact Fk) a hc rfl
    .rcases k7 a w with w|w
     .exact n3 a (mo _ w) a hc rfl
     .exact w (KE _ hc)
   .rcases Mc.mp ha with w|w
    .rcases L8.mp w with w|w
     .exact .inl (Mf _ (by rw[w];exact Fk))
     .exact .inr w
    .exact .inl (KE _ w)
  |succ j =>
   obtain ⟨b,zs,fe,e1,hb,h3,UC,US,Tp,Qt,K'⟩:=Rfs.inner (j:=j) h2 n2 (by simpa using e)
   refine⟨b,zs,fe,by simpa using e1,hb,h3,KE _ UC,fun a ha=>KE _ (US a ha),Tp,Qt,fun {H' es' S5 QD} k1 k2 k3 k4 k5 k6 k7=>?_⟩
   obtain ⟨PZ,r',SE,s'⟩:=K' k1 k2 k3 k4 k5 k6 fun a ha=>(k7 a ha).imp id fun w z=>w (KE _ z)
   have hy:Rf K H' d y f1:=h1.mono (fun c hc u e=>k1 c u (fun z=>n3 c hc b UC z) e) fun c u e im=>k1 c u (fun z=>k3 u (by rw[<- z];exact e) im) e
   refine⟨f1++PZ,⟨y,ys,f1,PZ,rfl,rfl,hy,r'⟩,Mm.mpr ⟨n1,SE,fun a ha c hc z=>?_⟩,fun a ha=>?_⟩
   .subst z
    rcases s' a hc with w|w
    .exact n3 a ha a w rfl
    .rcases k7 a w with w|w
     .exact n3 a ha a (US a w) rfl
     .exact w (Mf _ ha)
   .rcases Mc.mp ha with w|w
    .exact .inl (Mf _ w)
    .exact (s' a w).imp (KE _) id
def zh(o:Ok K B0 Γ fps δ σ H){i j:Nat}(hi:i∈Γ){ds es es':List D}(e:δ[i]?=some (some (.lst ds)))(ej:ds[j]?=some (.lst es)) :
  ∃a xs b ys fe,σ[i]?=some (some (.ref a))/\H a=some (.lst xs)/\xs.length=ds.length/\xs[j]?=some (.ref b)/\H b=some (.lst ys)/\Rfs K H es ys fe/\fe.Nodup/\b∉fe/\(∀a∈fe,a∈fps i)/\b∈fps i /\
   ∀{S5:List V}{QD:List Addr},Rfs K H es' S5 QD->QD.Nodup->b∉QD->(∀c∈QD,Mu H c)->(∀c∈QD,c∈fe\/(B0 c=none/\∀j,c∉fps j))->∃fps',Ok K B0 Γ fps' (δ.set i (some (.lst (ds.set j (.lst es'))))) σ (upd H b (.lst S5)):=by
 obtain ⟨a,xs,fq,h1,h2,h3,h4⟩:=o.EC e
 have Rj:=o.own i hi
 rw[h3] at Rj
 obtain ⟨T1,Sr⟩:=Rj
 obtain ⟨na,U5⟩:=Mh.mp T1
 obtain ⟨b,ys,fe,e1,hb,h5,UC,US,Tp,Qt,K'⟩:=h4.inner U5 ej
 refine⟨a,xs,b,ys,fe,h1,h2,h4.length,e1,hb,h5,Qt,Tp,fun c hc=>by rw[h3];exact mo _ (US c hc),by rw[h3];exact mo _ UC,fun {S5 QD} r nd nb mu src=>?_⟩
 have nt:=(Sr b (mo _ UC)).2.nu
 have Qm:a≠b:=fun z=>na (by rw[z];exact UC)
 obtain ⟨PZ,r',SE,k'⟩:=K' (H':=upd H b (.lst S5)) (fun c u hc e=>by rw[aF hc];exact e) aw nt (r.upd nb nt) nd nb fun c hc=>(src c hc).imp id fun w z=>w.2 i (by rw[h3];exact mo _ z)
 have V4:a∉PZ:=fun z=>by
  rcases k' a z with w|w
  .exact na w
  .rcases src a w with w|w
   .exact na (US a w)
   .exact w.2 i (by rw[h3];exact Fk)
 refine⟨_,o.write hi (fp':=a::PZ) h1 ⟨a,xs,PZ,rfl,by rw[aF Qm];exact h2,rfl,r'⟩ (Mh.mpr ⟨V4,SE⟩) (fun c hc=>Mu.upd ?_ (.inl ⟨_,rfl⟩)) (fun c hc=>?_) ?_⟩
 .rcases L8.mp hc with w|w
  .subst w;exact .inl ⟨xs,h2⟩
  .rcases k' c w with w|w
   .exact (Sr c (mo _ w)).2
   .exact mu c w
 .rw[h3]
  rcases L8.mp hc with w|w
  .subst w;exact .inl Fk
  .rcases k' c w with w|w
   .exact .inl (mo _ w)
   .rcases src c w with w|w
    .exact .inl (mo _ (US c w))
    .exact .inr w
 .rw[h3];exact rA (mo _ UC)
def vv(o:Option D)(P:List D->Prop):Prop:=match o with|some (.lst es)=>P es|_=>False
def pR{o:Option D}{P:List D->Prop}(h:vv o P):∃es,o=some (.lst es)/\P es:=by
 unfold vv at h;split at h
 .exact⟨_,rfl,h⟩
 .exact h.elim
def qg(i:Nat)(de d1 d2:DE)(E:cf)(δ:Dl):Prop:=de δ fun x=>oN δ i fun ds=>d1 δ fun k=>asI [k] fun m=>vv (atI ds m) fun es=>d2 δ fun k2=>asI [k2] fun m2=>match ixN ds.length m,ixN es.length m2 with|some j,some j2=>E.nx (δ.set i (some (.lst (ds.set j (.lst (es.set j2 x))))))|_,_=>False
def yS(i:Nat)(he:EM K Γ [] te de)(h1:ER K Γ t1 d1)(h2:ER K Γ t2 d2)(hi:i∈Γ:=by decide):ST K ρ Γr Γl (mn te (yT (tOp (CU K) (eJ i) t1) t2 vt)) Γ Γ (qg i de d1 d2):=by
 intro B0 Dn E fps δ σ H k o h
 refine he.run o (he.mono _ _ _ (fun x z v H1 fp s r n=>?_) h)
 obtain ⟨ds,e,z⟩:=pM z
 obtain ⟨a0,xs0,fq0,g1,_⟩:=(o.same s).EC e
 refine⟨.ref a0,g1,h1.run (o.same s) (h1.mono _ _ _ (fun y z w H2 s2 r2=>?_) z)⟩
 obtain ⟨m,em,z8⟩:=cY z
 subst em
 obtain ⟨es,ej,z8⟩:=pR z8
 cases ejj:ixN ds.length m with
 |none=>unfold atI at ej;rw[ejj] at ej;cases ej
 |some j =>
  have o2:=(o.same s).same s2
  have Zs:ds[j]?=some (.lst es):=by unfold atI at ej;rw[ejj] at ej;exact ej
  obtain ⟨a,xs,b,ys,fe,e1,e2,e3,e4,e5,e6,e7,e8,e9,_,KK⟩:=zh (es':=[]) o2 hi e Zs
  rw[g1] at e1;cases e1
  refine⟨a0,xs,m,.ref b,rfl,r2.int,.inl (.inl e2),by unfold atI;rw[e3,ejj];exact e4,h2.run o2 (h2.mono _ _ _ (fun y2 z w2 H3 s3 r3=>?_) z8)⟩
  obtain ⟨m2,em2,z9⟩:=cY z
  subst em2
  rw[ejj] at z9
  cases ej2:ixN es.length m2 with
  |none=>rw[ej2] at z9;exact z9.elim
  |some j2 =>
   rw[ej2] at z9
   have o3:=o2.same s3
   obtain ⟨a',PX,b',S5,QD,f1,f2,f3,f4,f5,f6,f7,f8,f9,UW,KK⟩:=zh (es':=es.set j2 x) o3 hi e Zs
   rw[g1] at f1;cases f1
   rw[s3.st _ _ e2 trivial] at f2;cases f2
   rw[e4] at f4;cases f4
   have r4:=r.same (s2.trans s3)
   have src:∀c∈fp,B0 c=none/\∀j,c∉fps j:=fun a ha=>⟨o.b0.free (n.fresh a ha),fun j z=>o.dom z (n.fresh a ha)⟩
   obtain ⟨PZ,r',SE,k'⟩:=Rfs.set r4 n.nd f6 f7 (fun c hc z=>(src c hc).2 i (f9 c z)) (Ej ej2)
   have mu':∀c∈PZ,Mu H3 c:=fun c hc=>by
    rcases k' c hc with w|w
    .exact ((o3.own i hi).2 c (f9 c w)).2
    .exact (n.mu c w).same (s2.trans s3)
   obtain ⟨fps',o'⟩:=KK r' SE (fun z=>(k' b z).elim f8 fun w=>(src b w).2 i UW) mu' (fun c hc=>(k' c hc).imp id fun w=>src c w)
   exact⟨b,S5,m2,j2,rfl,r3.int,f5,by rw[f6.length];exact ej2,k.nx o' z9⟩
def cutD(ds:List D)(lo hi:Option Int):List D:=(ds.drop (HT.sIx ds.length 0 lo)).take (HT.sIx ds.length ds.length hi - HT.sIx ds.length 0 lo)
abbrev DO:=Dl->(Option Int->Prop)->Prop
structure OR(K:PySem.W.Frag)(Γ:List Nat)(t:TO)(d:DO):Prop where
 mono:∀δ (P P':Option Int->Prop),(∀x,P x->P' x)->d δ P->d δ P'
 run:∀{B0 fps δ σ H Q},Ok K B0 Γ fps δ σ H->d δ (fun x=>∀H',Same H H'->Q x H')->t σ H Q
def xb(YB:Dl)(P:Option Int->Prop):Prop:=P none
def FC(d:DE)(δ:Dl)(P:Option Int->Prop):Prop:=d δ fun x=>asI [x] fun i=>P (some i)
def or_none:OR K Γ CB xb:=⟨fun _ _ _ k h=>k _ h,fun {_ _ _ _ H _} o q=>q H (Same.refl H)⟩
def or_some(h:ER K Γ te de):OR K Γ (IU te) (FC de):=⟨fun δ P P' k q=>h.mono _ _ _ (fun x z=>by obtain ⟨j,rfl,z⟩:=cY z;exact k _ z) q,
 fun o q=>h.run o (h.mono _ _ _ (fun x z v H' s r=>by obtain ⟨j,rfl,z⟩:=cY z;exact⟨j,r.int,z H' s⟩) q)⟩
def vSl(de:DE)(dl dh:DO)(δ:Dl)(P:DK):Prop:=de δ fun x=>dl δ fun l=>dh δ fun u=>asL x fun ds=>ds.all D.bg=true/\P (.lst (cutD ds l u))
def HU{ds:List D}{lo hi:Option Int}:C3 (ds.map D.toV) lo hi=(cutD ds lo hi).map D.toV:=by
 unfold C3 cutD
 rw[ox,Ov,Pa]
def EH{ds:List D}{lo hi:Option Int}(h:ds.all D.bg=true):(cutD ds lo hi).all D.bg=true:=by
 unfold cutD
 rw[MP] at h ⊢
 exact fun x hx=>h x (List.mem_of_mem_drop (Og hx))
def sV{tl th:TO}{dl dh:DO}(he:ER K Γ te de)(hl:OR K Γ tl dl)(hh:OR K Γ th dh):EM K Γ [] (tSl (J2 K) te tl th) (vSl de dl dh) :=
 ⟨fun δ P P' k h=>he.mono _ _ _ (fun x z=>hl.mono _ _ _ (fun l z=>hh.mono _ _ _ (fun u z=>by obtain ⟨ds,e,z⟩:=dQ z;exact j4 e ⟨z.1,k _ z.2⟩) z) z) h,
 fun {B0 fps δ σ H Q} o h=>he.run o (he.mono _ _ _ (fun x z v H1 s1 r1=>hl.run (o.same s1) (hl.mono _ _ _ (fun l z H2 s2=>hh.run ((o.same s1).same s2) (hh.mono _ _ _ (fun u z H3 s3=>by
  obtain ⟨ds,e,z⟩:=dQ z
  obtain ⟨a,xs,fq,rfl,hs,hr⟩:=(r1.same (s2.trans s3)).seq e
  obtain ⟨rfl,rfl⟩:=hr.jk z.1
  refine⟨a,_,rfl,hs,fun p hp=>?_⟩
  rw[HU]
  have s4:Same H3 (upd H3 p (.lst ((cutD ds l u).map D.toV))):=Same.jn hp
  refine z.2 _ _ [p] (((s1.trans s2).trans s3).trans s4) ⟨p,_,[],rfl,aw,rfl,Rfs.oA (EH z.1)⟩ ⟨by simp,fun b hb=>?_,fun b hb=>?_⟩
  .cases Gc.mp hb;exact .inl ⟨_,aw⟩
  .cases Gc.mp hb;exact .inl (((s1.trans s2).trans s3).free hp)) z)) z)) h)⟩
def Gw(x:D)(y:D)(P:DK):Prop:=match x,y with|.lst a,.lst b=>(a.all D.bg=true/\b.all D.bg=true/\a.length+b.length<=1000)/\P (.lst (a++b))|_,_=>False
def Jq{H:Hp}{p:Addr}{ds:List D}(h:ds.all D.bg=true)(hp:H p=none):Same H (upd H p (.lst (ds.map D.toV)))/\Rf K (upd H p (.lst (ds.map D.toV))) (.lst ds) (.ref p) [p]/\Nw H (upd H p (.lst (ds.map D.toV))) nf [] [p] :=
 ⟨Same.jn hp,⟨p,_,[],rfl,aw,rfl,Rfs.oA h⟩,⟨by simp,fun b hb=>by cases Gc.mp hb;exact .inl ⟨_,aw⟩,fun b hb=>by cases Gc.mp hb;exact .inl hp⟩⟩
def A5:OpV K JO Gw:=⟨fun x y P P' k h=>by unfold Gw at h ⊢;revert h;split<;>first|exact fun h=>⟨h.1,k _ h.2⟩|exact id,fun {H x y v w Q} r1 r2 h=>by
 unfold Gw at h
 split at h
 .rename_i a b
  obtain ⟨⟨s1,s2,hl⟩,h⟩:=h
  obtain ⟨f1,l1,xs,q1,rfl,e1,_,Xp⟩:=r1
  obtain ⟨f2,l2,ys,q2,rfl,e2,_,T3⟩:=r2
  obtain ⟨rfl,_⟩:=Xp.jk s1
  obtain ⟨rfl,_⟩:=T3.jk s2
  refine⟨l1,l2,_,_,rfl,rfl,e1,e2,by rw[ox,ox];exact jO hl,fun p hp=>?_⟩
  rw[<- Mr]
  obtain ⟨n1,n2,n3⟩:=Jq (K:=K) (ds:=a++b) (by rw[List.all_append,s1,s2];rfl) hp
  exact h _ _ _ n1 n2 n3
 .exact h.elim⟩
def uB(xs:List D)(k:Nat):List D:=(List.replicate k xs).flatten
def GW(x:D)(y:D)(P:DK):Prop:=match x,y with|.lst a,.int k=>(a.all D.bg=true/\(-(2 ^ 63)<=k/\k<2 ^ 63)/\a.length*k.toNat<=1000)/\P (.lst (uB a k.toNat))|_,_=>False
def Ge:OpV K Lc GW:=⟨fun x y P P' k h=>by unfold GW at h ⊢;revert h;split<;>first|exact fun h=>⟨h.1,k _ h.2⟩|exact id,fun {H x y v w Q} r1 r2 h=>by
 unfold GW at h
 split at h
 .rename_i a n
  obtain ⟨⟨s1,⟨b1,b2⟩,hl⟩,h⟩:=h
  obtain ⟨f1,l1,xs,q1,rfl,e1,_,Xp⟩:=r1
  obtain ⟨rfl,_⟩:=Xp.jk s1
  refine⟨l1,n,_,rfl,r2.int,e1,b1,b2,by rw[ox];exact jO hl,fun p hp=>?_⟩
  have:(List.replicate n.toNat (a.map D.toV)).flatten=(uB a n.toNat).map D.toV:=by unfold uB;rw[List.map_flatten,List.map_replicate]
  rw[this]
  obtain ⟨n1,n2,n3⟩:=Jq (K:=K) (ds:=uB a n.toNat) (by
   rw[MP] at s1 ⊢
   intro x hx
   unfold uB at hx
   obtain ⟨l,h1,h2⟩:=List.mem_flatten.mp hx
   rw[(List.mem_replicate.mp h1).2] at h2
   exact s1 x h2) hp
  exact h _ _ _ n1 n2 n3
 .exact h.elim⟩
def inD(x:D)(ds:List D):Bool:=inV x.toV (ds.map D.toV)
def vIn(OK:Bool)(x:D)(y:D)(P:DK):Prop:=x.bg=true/\asL y fun ds=>ds.all D.bg=true/\P (.bl (if OK then !inD x ds else inD x ds))
def jv{d:D}(h:d.bg=true):ix d.toV=true:=by cases d<;>first|rfl|cases h
def L1{OK:Bool}:OpV K (rIn K OK) (vIn OK):=⟨fun x y P P' k h=>⟨h.1,by obtain ⟨ds,e,z⟩:=dQ h.2;exact j4 e ⟨z.1,k _ z.2⟩⟩,fun {H x y v w Q} r1 r2 h=>by
 obtain ⟨hx,h⟩:=h
 obtain ⟨ds,e,hs,h⟩:=dQ h
 obtain ⟨f1,r1⟩:=r1
 obtain ⟨rfl,_⟩:=r1.bg hx
 obtain ⟨a,xs,fq,rfl,hsq,hr⟩:=r2.seq e
 obtain ⟨rfl,_⟩:=hr.jk hs
 refine⟨a,_,rfl,.inl hsq,jv hx,?_,h _ H [] (Same.refl H) ⟨rfl,rfl⟩ Nw.nil⟩
 rw[Po,MP]
 rw[MP] at hs
 exact fun y hy=>jv (hs y hy)⟩
def CT(xs:List D)(P:DK):Prop:=match xs with|[x]=>(match x with|.tup ds=>P (.int ds.length)|x=>asL x fun ds=>P (.int ds.length))|_=>False
def Rps.one{H:Hp}{x:D}{vs:List V}(h:Rps K H [x] vs):∃v,vs=[v]/\Rp K H x v:=by
 obtain ⟨fp,y,r,f1,f2,rfl,_,h1,⟨rfl,_⟩⟩:=h
 exact⟨y,rfl,f1,h1⟩
def cO:nA K (fun xs H Q=>∃p ys,xs=[.ref p]/\(SqL K H p ys\/SqT K H p ys)/\Q (.int ys.length) H) CT:=⟨fun xs P P' k h=>by
  unfold CT at h ⊢
  revert h
  split
  .split
   .exact fun h=>k _ h
   .exact fun h=>by obtain ⟨ds,e,z⟩:=dQ h;exact j4 e (k _ z)
  .exact id,
 fun {H xs vs Q} r h=>by
  unfold CT at h
  split at h
  .obtain ⟨v,rfl,r0⟩:=r.one
   split at h
   .obtain ⟨a,ys,fq,rfl,hs,hr⟩:=r0.tup
    refine⟨a,ys,rfl,.inr hs,?_⟩
    rw[hr.length]
    exact h _ H [] (Same.refl H) ⟨rfl,rfl⟩ Nw.nil
   .obtain ⟨ds,e,h⟩:=dQ h
    obtain ⟨a,ys,fq,rfl,hs,hr⟩:=r0.seq e
    refine⟨a,ys,rfl,.inl hs,?_⟩
    rw[hr.length]
    exact h _ H [] (Same.refl H) ⟨rfl,rfl⟩ Nw.nil
  .exact h.elim⟩
def tQ{ds:List D}{P:DK}:CT [.lst ds] P↔P (.int ds.length):=M3
def yE{ds:List Int}{P:DK}:CT [.scr ds] P↔P (.int ds.length):=by
 show P (.int ((ds.map D.int).length:Nat))↔_
 rw[ox]
def je:List D->Option (List Int)
 |[]=>some []
 |.int i::ds=>(je ds).map (i::·)
 |_=>none
def jL:∀{ns:List Int},je (ns.map D.int)=some ns
 |[]=>rfl
 |n::ns=>by rw[Mb,je,jL];rfl
def vh:∀{ds:List D}{ns:List Int},je ds=some ns->ds=ns.map D.int
 |[],ns,h=>by cases h;rfl
 |.int i::ds,ns,h=>by
  rw[je] at h
  cases e:je ds with
  |none=>rw[e] at h;cases h
  |some ms=>rw[e] at h;cases h;rw[vh e];rfl
 |.non::_,_,h=>by cases h
 |.bl _::_,_,h=>by cases h
 |.str _::_,_,h=>by cases h
 |.lst _::_,_,h=>by cases h
 |.tup _::_,_,h=>by cases h
 |.dic _::_,_,h=>by cases h
 |.dit _::_,_,h=>by cases h
 |.scr _::_,_,h=>by cases h
def Rfs.yf{H:Hp}{ns:List Int}{vs:List V}{fp:List Addr}(h:Rfs K H (ns.map D.int) vs fp):vs=ns.map V.int:=by
 have hs:(ns.map D.int).all D.bg=true:=by rw[Po,MP];exact fun _ _=>rfl
 rw[(h.jk hs).1,Mp]
 rfl
def zB(x:D)(P:List Int->Prop):Prop:=asL x fun ds=>match je ds with|some ns=>P ns|none=>False
def gy{x:D}{P:List Int->Prop}(h:zB x P):∃ns,x.items=some (ns.map D.int)/\P ns:=by
 obtain ⟨ds,e,h⟩:=dQ h
 cases q:je ds with
 |none=>rw[q] at h;exact h.elim
 |some ns=>rw[q] at h;rw[vh q] at e;exact⟨ns,e,h⟩
def ot{x:D}{ns:List Int}{P:List Int->Prop}(e:x.items=some (ns.map D.int))(h:P ns):zB x P:=by
 refine j4 e ?_
 rw[jL];exact h
def Iu(xs:List D)(P:DK):Prop:=match xs with|[x]=>zB x fun ns=>P (.int ns.sum)|_=>False
def mP:nA K (fun xs H Q=>∃(a:Addr) (ns:List Int),xs=[.ref a]/\SqL K H a (ns.map V.int)/\Q (.int ns.sum) H) Iu:=⟨fun xs P P' k h=>by
  unfold Iu at h ⊢
  revert h
  split
  .exact fun h=>by obtain ⟨ns,e,z⟩:=gy h;exact ot e (k _ z)
  .exact id,
 fun {H xs vs Q} r h=>by
  unfold Iu at h
  split at h
  .obtain ⟨v,rfl,r0⟩:=r.one
   obtain ⟨ns,e,h⟩:=gy h
   obtain ⟨a,ys,fq,rfl,hs,hr⟩:=r0.seq e
   rw[hr.yf] at hs
   exact⟨a,ns,rfl,hs,h _ H [] (Same.refl H) ⟨rfl,rfl⟩ Nw.nil⟩
  .exact h.elim⟩
def yQ(xs:List D)(P:DK):Prop:=match xs with|[x]=>asL x fun ds=>ds.all D.bg=true/\P (.lst ds)|_=>False
def mG:nA K (fun xs H Q=>∃p ys,xs=[.ref p]/\(SqL K H p ys\/SqT K H p ys)/\∀l,H l=none->Q (.ref l) (upd H l (.lst ys))) yQ:=⟨fun xs P P' k h=>by
  unfold yQ at h ⊢
  revert h
  split
  .exact fun h=>by obtain ⟨ds,e,z⟩:=dQ h;exact j4 e ⟨z.1,k _ z.2⟩
  .exact id,
 fun {H xs vs Q} r h=>by
  unfold yQ at h
  split at h
  .obtain ⟨v,rfl,r0⟩:=r.one
   obtain ⟨ds,e,Y1,h⟩:=dQ h
   obtain ⟨a,ys,fq,rfl,hs,hr⟩:=r0.seq e
   obtain ⟨rfl,_⟩:=hr.jk Y1
   refine⟨a,_,rfl,.inl hs,fun l hl=>?_⟩
   obtain ⟨n1,n2,n3⟩:=Jq (K:=K) Y1 hl
   exact h _ _ _ n1 n2 n3
  .exact h.elim⟩
end
end L3
namespace L3
open PySem L2
open PyProof.Rows (Ordered)
section
variable {K:PySem.W.Frag}{Γ:List Nat}{te ta:TE}{de da:DE}
def bB{wi:TI}{di:DI}{g:TG}{dg:D->Dl->(Dl->Prop)->Prop}{k:Nat}{idx:List Nat}(hi:IT K [] wi di)(hg:GT K [] g dg)(he:EM K [] [] te de):EM K Γ [] (sW wi g te k idx) (nF di dg FO de k idx):=by
 rw[pG];exact rd hi hg Kl he
def D.tyn:D->Option String
 |.non=>some "NoneType"|.bl _=>some "bool"|.int _=>some "int"|.str _=>some "str"|.lst _=>some "list"|.tup _=>some "tuple"|.dic _=>some "dict"|.dit _=>some "dict"|.scr _=>none|.pin _ _=>none|.mem _=>none|.raw _=>none|.ins _ _ _=>none
def Rp.ty{H:Hp}{d:D}{v:V}{n:String}(h:Rp K H d v)(e:d.tyn=some n):nj K H v (.type n):=by
 obtain ⟨fp,h⟩:=h
 cases d with
 |non=>cases e;obtain ⟨rfl,_⟩:=h;exact .non
 |bl b=>cases e;obtain ⟨rfl,_⟩:=h;exact .bl _
 |int b=>cases e;obtain ⟨rfl,_⟩:=h;exact .int _
 |str b=>cases e;obtain ⟨rfl,_⟩:=h;exact .str _
 |lst ds=>cases e;obtain ⟨a,xs,fq,rfl,h2,_⟩:=h;exact .lst h2
 |tup ds=>cases e;obtain ⟨a,xs,rfl,h2,_⟩:=h;exact .tup h2
 |dic ds=>cases e;obtain ⟨a,rfl,h2,_⟩:=h;exact .dK h2
 |dit ds=>cases e;obtain ⟨a,rfl,h2,_⟩:=h;exact .dT h2
 |scr ns=>cases e
 |pin a d=>cases e
 |mem φ=>cases e
 |raw w=>cases e
 |ins C ns ds=>cases e
def isB(m n:String):Bool:=m == n || (m == "bool" && n == "int")
def Bs(n:String):Prop:=∀(K:PySem.W.Frag) (d:D) (m:String),d.tyn=some m->PySem.W.kitOne K (.type m) (.type n)=some (isB m n)
def GX:Bs "int":=fun K d m e=>by cases d<;>cases e<;>first|exact sy|with_unfolding_all rfl
def Fi:Bs "bool":=fun K d m e=>by cases d<;>cases e<;>first|exact sy|with_unfolding_all rfl
def kit_tuple:Bs "tuple":=fun K d m e=>by cases d<;>cases e<;>first|exact sy|with_unfolding_all rfl
def vIs(n:String)(da:DE)(δ:Dl)(P:DK):Prop:=da δ fun x=>match x.tyn with|some m=>P (.bl (isB m n))|none=>False
def pU{n:String}(hk:Bs n)(ha:ER K Γ ta da):EM K Γ [] (tCB (fun xs H Q=>∃x n t b,xs=[x,.ty n]/\nj K H x t/\PySem.W.kitOne K t (.type n)=some b/\Q (.bl b) H) (gp ta (gp (tC (.ty n)) m7))) (vIs n da) :=
 ⟨fun δ P P' k h=>ha.mono _ _ _ (fun x z=>by
   revert z;split
   .exact fun z=>k _ z
   .exact id) h,
 fun {B0 fps δ σ H Q} o h=>ha.run o (ha.mono _ _ _ (fun x z v H1 s1 r1=>by
   split at z
   .rename_i m e
    exact⟨v,n,_,_,rfl,r1.ty e,hk K x m e,z _ H1 [] s1 ⟨rfl,rfl⟩ Nw.nil⟩
   .exact z.elim) h)⟩
mutual
def D.old:D->Option L2.D
 |.non=>some .non|.bl b=>some (.bl b)|.int i=>some (.int i)|.str x=>some (.str x)
 |.lst ds=>(D.olds ds).map L2.D.lst|.tup ds=>(D.olds ds).map L2.D.tup
 |.dic _=>none|.dit _=>none|.scr _=>none|.pin _ _=>none|.mem _=>none|.raw _=>none|.ins _ _ _=>none
def D.olds:List D->Option (List L2.D)
 |[]=>some []
 |d::ds=>match D.old d,D.olds ds with|some x,some xs=>some (x::xs)|_,_=>none
end
mutual
def Rf.old{H:Hp}:∀{d:D}{d':L2.D}{v:V}{fp:List Addr},Rf K H d v fp->d.old=some d'->L2.Rf H d' v fp
 |.non,d',v,fp,h,e=>by rw[D.old] at e;cases e;rw[L2.Rf];exact h
 |.bl _,d',v,fp,h,e=>by rw[D.old] at e;cases e;rw[L2.Rf];exact h
 |.int _,d',v,fp,h,e=>by rw[D.old] at e;cases e;rw[L2.Rf];exact h
 |.str _,d',v,fp,h,e=>by rw[D.old] at e;cases e;rw[L2.Rf];exact h
 |.lst ds,d',v,fp,h,e=>by
  rw[D.old] at e
  cases q:D.olds ds with
  |none=>rw[q] at e;cases e
  |some es =>
   rw[q] at e;cases e
   obtain ⟨a,xs,fq,e1,e2,e3,h⟩:=h
   rw[L2.Rf]
   exact⟨a,xs,fq,e1,e2,e3,Rfs.old h q⟩
 |.tup ds,d',v,fp,h,e=>by
  rw[D.old] at e
  cases q:D.olds ds with
  |none=>rw[q] at e;cases e
  |some es =>
   rw[q] at e;cases e
   obtain ⟨a,xs,e1,e2,h⟩:=h
   rw[L2.Rf]
   exact⟨a,xs,e1,e2,Rfs.old h q⟩
 |.dic _,d',v,fp,h,e=>by rw[D.old] at e;cases e
 |.dit _,d',v,fp,h,e=>by rw[D.old] at e;cases e
 |.scr _,d',v,fp,h,e=>by rw[D.old] at e;cases e
 |.pin _ _,d',v,fp,h,e=>by rw[D.old] at e;cases e
 |.mem _,d',v,fp,h,e=>by rw[D.old] at e;cases e
 |.raw _,d',v,fp,h,e=>by rw[D.old] at e;cases e
 |.ins _ _ _,d',v,fp,h,e=>by rw[D.old] at e;cases e
def Rfs.old{H:Hp}:∀{ds:List D}{WS:List L2.D}{vs:List V}{fp:List Addr},Rfs K H ds vs fp->D.olds ds=some WS->L2.Rfs H WS vs fp
 |[],WS,vs,fp,h,e=>by rw[D.olds] at e;cases e;rw[L2.Rfs];exact h
 |d::ds,WS,vs,fp,h,e=>by
  rw[D.olds] at e
  obtain ⟨x,r,f1,f2,e1,e2,h1,h2⟩:=h
  cases q1:d.old with
  |none=>rw[q1] at e;simp at e
  |some x' =>
   cases q2:D.olds ds with
   |none=>rw[q1,q2] at e;simp at e
   |some PX =>
    rw[q1,q2] at e
    cases e
    rw[L2.Rfs]
    exact⟨x,r,f1,f2,e1,e2,Rf.old h1 q1,Rfs.old h2 q2⟩
end
abbrev dI(xs:List Int):D:=.lst (xs.map D.int)
abbrev dT(t:List (List Int)):D:=.lst (t.map dI)
def Dv(OK:Bool)(x:D)(y:D)(P:DK):Prop:=∃a b,x.old=some (.lst a)/\y.old=some (.lst b)/\L2.D.fY a=true/\L2.D.fY b=true/\L2.D.gO a<=60/\P (.bl (if OK then !L2.D.lB a b else L2.D.lB a b))
def yz{OK:Bool}:OpV K (D5 OK) (Dv OK):=⟨fun x y P P' k h=>by
  obtain ⟨a,b,h1,h2,h3,h4,h5,h⟩:=h
  exact⟨a,b,h1,h2,h3,h4,h5,k _ h⟩,
 fun {H x y v w Q} ⟨f1,r1⟩ ⟨f2,r2⟩ h=>by
  obtain ⟨a,b,h1,h2,h3,h4,h5,h⟩:=h
  exact⟨a,b,⟨f1,r1.old h1⟩,⟨f2,r2.old h2⟩,h3,h4,h5,h _ H [] (Same.refl H) ⟨rfl,rfl⟩ Nw.nil⟩⟩
def Lv:OpV K (D5 false) (Dv false):=yz
def x6:OpV K (D5 true) (Dv true):=yz
def vO:∀{ns:List Int},D.olds (ns.map D.int)=some (ns.map L2.D.int)
 |[]=>by rw[OT,D.olds];rfl
 |n::ns=>by rw[Mb,D.olds,vO,D.old];rfl
def AK{ns:List Int}:(dI ns).old=some (L2.dI ns):=by rw[D.old,vO];rfl
def uU:∀{t:List (List Int)},D.olds (t.map dI)=some (t.map L2.dI)
 |[]=>by rw[OT,D.olds];rfl
 |n::ns=>by rw[Mb,D.olds,uU,AK];rfl
def DN{t:List (List Int)}:(dT t).old=some (L2.dT t):=by rw[D.old,uU];rfl
def kU{OK:Bool}{xs ys:List Int}{P:DK}(h:P (.bl (if OK then !decide (xs=ys) else decide (xs=ys)))):Dv OK (dI xs) (dI ys) P :=
 ⟨_,_,AK,AK,D.kn _,D.kn _,by rw[D.mj];omega,by rw[D.pP];exact h⟩
def pX{OK:Bool}{xs ys:List (List Int)}{P:DK}(h:P (.bl (if OK then !decide (xs=ys) else decide (xs=ys)))):Dv OK (dT xs) (dT ys) P :=
 ⟨_,_,DN,DN,D.mx _,D.mx _,Mq (D.qo _) (by omega),by rw[D.vf];exact h⟩
def mV(b:Bool)(xs:List D)(P:DK):Prop:=match xs with|[x]=>zB x fun ns=>ns.length<64/\∀ms:List Int,ms.Perm ns->Ordered b ms->P (dI ms)|_=>False
def Rf.ofInts{H:Hp}{p:Addr}{ms:List Int}(e:H p=some (.lst (ms.map V.int))):Rf K H (dI ms) (.ref p) [p]:=⟨p,_,[],rfl,e,rfl,Rfs.ofInts⟩
def Nw.one{H H':Hp}{p:Addr}{xs:List V}(h:H p=none)(e:H' p=some (.lst xs)):Nw H H' nf [] [p]:=⟨by simp,fun b hb=>by cases Gc.mp hb;exact .inl ⟨_,e⟩,fun b hb=>by cases Gc.mp hb;exact .inl h⟩
def wA{u:TA}{dr:DA}{b:Bool}(hr:AR K Γ u dr):EM K Γ [] (K9 (fun xs zs H Q=>∃(a:Addr) (ns:List Int) (b:Bool),xs=[.ref a]/\zs=[.bl b]/\SqL K H a (ns.map V.int)/\ns.length<64 /\
  ∀(l:Addr) (ms:List Int),H l=none->ms.Perm ns->Ordered b ms->Q (.ref l) (upd H l (.lst (ms.map V.int)))) u (gp (tC (.bl b)) m7)) (ql (mV b) dr):=by
 have mono:bE (mV b):=fun xs P P' k h=>by
  unfold mV at h ⊢
  revert h
  split
  .exact fun h=>by obtain ⟨ns,e,z⟩:=gy h;exact ot e ⟨z.1,fun ms a b=>k _ (z.2 ms a b)⟩
  .exact id
 refine⟨fun δ P P' k h=>hr.mono _ _ _ (fun y z=>mono _ _ _ k z) h,fun {B0 fps δ σ H Q} o q=>hr.run o (hr.mono _ _ _ (fun xs z vs H1 s1 r1=>?_) q)⟩
 unfold mV at z
 split at z
 .obtain ⟨v,rfl,r0⟩:=r1.one
  obtain ⟨ns,e,z⟩:=gy z
  obtain ⟨a,ys,fq,rfl,hs,hr⟩:=r0.seq e
  rw[hr.yf] at hs
  refine⟨a,ns,b,rfl,rfl,hs,z.1,fun l ms hl hp ho=>?_⟩
  have s2:Same H1 (upd H1 l (.lst (ms.map V.int))):=Same.jn hl
  exact z.2 ms hp ho _ _ [l] (s1.trans s2) (Rf.ofInts aw) ((Nw.one hl aw).any.later s1)
 .exact z.elim
def D.tJ:D->Bool|.non=>true|.raw w=>decide (w=.non)|_=>false
def Rp.A1{H:Hp}{d:D}{v:V}(h:Rp K H d v):decide (v=.non)=d.tJ:=by
 obtain ⟨fp,h⟩:=h
 cases d with
 |non=>obtain ⟨rfl,_⟩:=h;rfl
 |bl b=>obtain ⟨rfl,_⟩:=h;rfl
 |int b=>obtain ⟨rfl,_⟩:=h;rfl
 |str b=>obtain ⟨rfl,_⟩:=h;rfl
 |lst ds=>obtain ⟨a,xs,fq,rfl,_⟩:=h;rfl
 |tup ds=>obtain ⟨a,xs,rfl,_⟩:=h;rfl
 |dic ds=>obtain ⟨a,rfl,_⟩:=h;rfl
 |dit ds=>obtain ⟨a,rfl,_⟩:=h;rfl
 |scr ns=>obtain ⟨a,rfl,_⟩:=h;rfl
 |pin a d=>obtain ⟨rfl,_⟩:=h;rfl
 |mem φ=>obtain ⟨a,rfl,_⟩:=h;rfl
 |raw w=>obtain ⟨rfl,_⟩:=h;rfl
 |ins C ns ds=>obtain ⟨a,dx,xs,fq,rfl,_⟩:=h;rfl
def yh(OK:Bool)(x:D)(y:D)(P:DK):Prop:=match y with|.non=>P (.bl (if OK then !x.tJ else x.tJ))|_=>False
def vX{OK:Bool}:∀x y (P P':DK),(∀z,P z->P' z)->yh OK x y P->yh OK x y P':=fun x y P P' k h=>by
 unfold yh at h ⊢;revert h;split<;>first|exact k _|exact id
def IV:OpV K (fun x y H Q=>y=.non/\Q (.bl (decide (x=.non))) H) (yh false):=⟨vX,fun {H x y v w Q} r1 r2 h=>by
 unfold yh at h
 split at h
 .refine⟨r2.choose_spec.1,?_⟩
  rw[r1.A1];exact h _ H [] (Same.refl H) ⟨rfl,rfl⟩ Nw.nil
 .exact h.elim⟩
def Am:OpV K (fun x y H Q=>y=.non/\Q (.bl (!decide (x=.non))) H) (yh true):=⟨vX,fun {H x y v w Q} r1 r2 h=>by
 unfold yh at h
 split at h
 .refine⟨r2.choose_spec.1,?_⟩
  rw[r1.A1];exact h _ H [] (Same.refl H) ⟨rfl,rfl⟩ Nw.nil
 .exact h.elim⟩
end
def bc{K:PySem.W.Frag}{S:DSp}{n:Nat}(hS:∀ds P,S ds P->ds.length=n){vs:List V}{H:Hp}{Q:VK}{E:XK}(h:spP K S vs H Q E):vs.length=n:=by
 obtain ⟨ds,⟨fp,r⟩,_,h⟩:=h
 rw[r.length];exact hS _ _ h
def DC{dg:D->Dl->(Dl->Prop)->Prop}{db:DS}{E:cf}(I:Nat->Dl->Prop){ds:List D}{δ:Dl}(h0:I 0 δ)
  (hs:∀i d δ (N:Dl->Prop),ds[i]?=some d->I i δ->(∀δ',I (i+1) δ'->N δ')->dg d δ fun δ'=>db { nx:=N,ct:=N,bk:=E.nx,rt:=E.rt } δ')
  (hd:∀δ,I ds.length δ->E.nx δ):nr dg db E ds δ:=by
 have key:∀(n:Nat) (i:Nat) (δ:Dl),ds.length - i=n->i<=ds.length->I i δ->nr dg db E (ds.drop i) δ:=by
  intro n
  induction n with
  |zero =>
   intro i δ h1 h2 hI
   have:i=ds.length:=by omega
   subst this
   rw[O1]
   exact hd δ hI
  |succ n ih =>
   intro i δ h1 h2 hI
   have NZ:i<ds.length:=by omega
   rw[MD NZ]
   exact hs i _ δ _ (dz NZ) hI fun δ' h'=>ih (i+1) δ' (by omega) NZ h'
 have:=key ds.length 0 δ (by omega) (NG _) h0
 rwa [NH] at this
end L3
namespace L3
open PySem L2
end L3
namespace L3
open PySem
open L2 hiding D Rf Rfs Rp dI dT
section
variable {di:DI}{dg:D->Dl->(Dl->Prop)->Prop}{dt:DT}{de:DE}{k:Nat}{idx:List Nat}{δ:Dl}{P:DK}
def oG{α:Type}{as:List α}{f:α->D}{p:α->Bool}{g:α->D}(SS:∀R:List D->Prop,R (as.map f)->di δ R)(hl:as.length<=1000)
  (hb:∀a∈as,∀R:List D->Prop,R (if p a then [g a] else [])->ka dg dt de (fu k idx δ) (f a) R) (h:P (.lst ((as.filter p).map g))):nF di dg dt de k idx δ P:=by
 refine SS _ ⟨by rw[ox];exact hl,?_⟩
 have key:∀(as:List α) (acc:List D),(∀a∈as,∀R:List D->Prop,R (if p a then [g a] else [])->ka dg dt de (fu k idx δ) (f a) R)->P (.lst (acc++(as.filter p).map g))->u7 (ka dg dt de (fu k idx δ)) (as.map f) acc fun ys=>P (.lst ys):=by
  intro as
  induction as with
  |nil=>intro acc _ h;rw[List.filter_nil,OT,MV] at h;exact h
  |cons a as ih =>
   intro acc hb h
   refine hb a Fk _ (ih _ (fun x hx=>hb x (mo _ hx)) ?_)
   by_cases hp:p a=true
   .rw[if_pos hp,MR];rwa [List.filter_cons_of_pos hp] at h
   .rw[if_neg hp,MV];rwa [List.filter_cons_of_neg hp] at h
 exact key as [] hb h
def kT{α:Type}{as:List α}{f:α->D}{g:α->D}(SS:∀R:List D->Prop,R (as.map f)->di δ R)(hl:as.length<=1000)
  (hb:∀a∈as,∀R:List D->Prop,R [g a]->ka dg dt de (fu k idx δ) (f a) R) (h:P (.lst (as.map g))):nF di dg dt de k idx δ P:=by
 refine oG (p:=fun _=>true) SS hl (fun a ha R h=>hb a ha R h) ?_
 rw[List.filter_eq_self.mpr (fun _ _=>rfl)]
 exact h
def zS{ns:List Int}{p:Int->Bool}{g:Int->D}(SS:∀R:List D->Prop,R (ns.map D.int)->di δ R)(hl:ns.length<=1000)
  (hb:∀n∈ns,∀R:List D->Prop,R (if p n then [g n] else [])->ka dg dt de (fu k idx δ) (.int n) R) (h:P (.lst ((ns.filter p).map g))):nF di dg dt de k idx δ P:=oG SS hl hb h
def eV{lo:Int}{n:Nat}{g:Nat->D}(SS:∀R:List D->Prop,R (oY lo n)->di δ R)(hl:n<=1000)
  (hb:∀i,i<n->∀R:List D->Prop,R [g i]->ka dg dt de (fu k idx δ) (.int (lo+(i:Int))) R) (h:P (.lst ((List.range n).map g))):nF di dg dt de k idx δ P :=
 kT (as:=List.range n) (f:=fun (k:Nat)=>D.int (lo+(k:Int))) SS (by rw[Md];exact hl) (fun a ha=>hb a (Ms.mp ha)) h
def De{lo:Int}{n:Nat}{p:Nat->Bool}{g:Nat->D}(SS:∀R:List D->Prop,R (oY lo n)->di δ R)(hl:n<=1000)
  (hb:∀i,i<n->∀R:List D->Prop,R (if p i then [g i] else [])->ka dg dt de (fu k idx δ) (.int (lo+(i:Int))) R) (h:P (.lst (((List.range n).filter p).map g))):nF di dg dt de k idx δ P :=
 oG (as:=List.range n) (f:=fun (k:Nat)=>D.int (lo+(k:Int))) SS (by rw[Md];exact hl) (fun a ha=>hb a (Ms.mp ha)) h
def kW{t:List (List Int)}{g:List Int->D}(SS:∀R:List D->Prop,R (t.map dI)->di δ R)(hl:t.length<=1000)
  (hb:∀r∈t,∀R:List D->Prop,R [g r]->ka dg dt de (fu k idx δ) (dI r) R) (h:P (.lst (t.map g))):nF di dg dt de k idx δ P:=kT SS hl hb h
variable {db:DS}{E:cf}
def iV{α:Type}{as:List α}{f:α->D}(I:Nat->Dl->Prop)(h0:I 0 δ)
  (hs:∀i a δ (N:Dl->Prop),as[i]?=some a->I i δ->(∀δ',I (i+1) δ'->N δ')->dg (f a) δ fun δ'=>db { nx:=N,ct:=N,bk:=E.nx,rt:=E.rt } δ')
  (hd:∀δ,I as.length δ->E.nx δ):nr dg db E (as.map f) δ:=by
 refine DC I h0 (fun i d δ N e hI hN=>?_) (fun δ hI=>hd δ (by rwa [ox] at hI))
 rw[L9] at e
 cases q:as[i]? with
 |none=>rw[q] at e;cases e
 |some a=>rw[q] at e;cases e;exact hs i a δ N q hI hN
def mE{lo:Int}{n:Nat}(I:Nat->Dl->Prop)(h0:I 0 δ)
  (hs:∀i δ (N:Dl->Prop),i<n->I i δ->(∀δ',I (i+1) δ'->N δ')->dg (.int (lo+(i:Int))) δ fun δ'=>db { nx:=N,ct:=N,bk:=E.nx,rt:=E.rt } δ')
  (hd:∀δ,I n δ->E.nx δ):nr dg db E (oY lo n) δ:=by
 refine iV (as:=List.range n) (f:=fun (k:Nat)=>D.int (lo+(k:Int))) I h0 (fun i a δ N e hI hN=>?_) (fun δ hI=>hd δ (by rwa [Md] at hI))
 obtain ⟨h1,h2⟩:=L7.mp e
 rw[N1] at h2
 subst h2
 exact hs i δ N (by simpa using h1) hI hN
end
def KU{ns:List Int}{i:Int}(h0:0<=i)(h:i<ns.length):atI (ns.map D.int) i=some (.int (ns.getD i.toNat 0)):=by
 unfold atI ixN
 rw[if_pos h0,ox,if_pos h]
 show (ns.map D.int)[i.toNat]?=_
 rw[L9,gV]
 have:i.toNat<ns.length:=by omega
 rw[dz this]
 rfl
def cP{ns:List Int}:(ns.map D.int).all D.bg=true:=by rw[Po,MP];exact fun _ _=>rfl
def eQ{n:Nat}{i:Int}(h0:0<=i)(h:i<n):ixN n i=some i.toNat:=by unfold ixN;rw[if_pos h0,if_pos h]
def t7{ns:List Int}{j:Nat}{v:Int}:(ns.map D.int).set j (.int v)=(ns.set j v).map D.int:=(Pn ..).symm
def v8{ns:List Int}{v:Int}:ns.map D.int++[.int v]=(ns++[v]).map D.int:=by simp
def emod_lt{x n:Int}(h:0<n):0<=x % n/\x % n<n:=⟨Int.emod_nonneg x (by omega),Int.emod_lt_of_pos x h⟩
section
variable {P:DK}
def asO(o:Option D)(P:DK):Prop:=match o with|some d=>P d|none=>False
def ye{d:D}:asO (some d) P↔P d:=M3
def xy{o:Option D}{d:D}(h:o=some d):asO o P↔P d:=by rw[h];rfl
def Gr{k:Bool}{Q:Bool->Prop}:asB (.bl k) Q↔Q k:=M3
def Cg{g:Int->Int->D}{i j:Int}:vI0 g (.int i) (.int j) P↔P (g i j):=M3
def DW{C:Int->Int->Prop}{g:Int->Int->D}{i j:Int}:vI C g (.int i) (.int j) P↔C i j/\P (g i j):=M3
def Ei{g:Int->D}{i:Int}:vU g (.int i) P↔P (g i):=M3
def Co{i:Int}{Q:Int->Prop}:asI [.int i] Q↔Q i:=M3
def zt{i j:Int}{Q:Int->Int->Prop}:Io [.int i,.int j] Q↔Q i j:=M3
def B5{ds:List D}{Q:List D->Prop}:asL (.lst ds) Q↔Q ds:=M3
def Cp{ns:List Int}{Q:List D->Prop}:asL (.scr ns) Q↔Q (ns.map D.int):=M3
def rK{ds:List D}{i:Int}:rG (.lst ds) (.int i) P↔asO (atI ds i) P:=M3
def yJ{ns:List Int}{i:Int}:rG (.scr ns) (.int i) P↔asO (atI (ns.map D.int) i) P:=M3
def ym{ds:List D}{i:Int}:qe (.tup ds) (.int i) P↔asO (atI ds i) P:=M3
def xT{ds:List D}:CT [.tup ds] P↔P (.int ds.length):=M3
def xO{OK:Bool}{x:D}:yh OK x .non P↔P (.bl (if OK then !x.tJ else x.tJ)):=M3
def zi{a b:List D}:Gw (.lst a) (.lst b) P↔(a.all D.bg=true/\b.all D.bg=true/\a.length+b.length<=1000)/\P (.lst (a++b)):=M3
def yq{a:List D}{k:Int}:GW (.lst a) (.int k) P↔(a.all D.bg=true/\(-(2 ^ 63)<=k/\k<2 ^ 63)/\a.length*k.toNat<=1000)/\P (.lst (uB a k.toNat)):=M3
def vZ{ds:List D}:yQ [.lst ds] P↔ds.all D.bg=true/\P (.lst ds):=M3
def v5{ns:List Int}:yQ [.scr ns] P↔P (dI ns):=by
 show ((ns.map D.int).all D.bg=true/\P _)↔_
 rw[cP];exact⟨fun h=>h.2,fun h=>⟨rfl,h⟩⟩
def vN{ns:List Int}:Iu [dI ns] P↔P (.int ns.sum):=by
 show (match je (ns.map D.int) with|some ns=>P (.int ns.sum)|none=>False)↔_
 rw[jL]
def jr{ns:List Int}{Q:List Int->Prop}:zB (dI ns) Q↔Q ns:=by
 show (match je (ns.map D.int) with|some ns=>Q ns|none=>False)↔_
 rw[jL]
def EN{g:List D->Dl->(Dl->Prop)->Prop}{n:Nat}{ds:List D}{δ:Dl}{Q:Dl->Prop}:LG n g (.tup ds) δ Q↔ds.length=n/\g ds δ Q:=M3
def zg{g:D->Dl->(Dl->Prop)->Prop}{gs:List D->Dl->(Dl->Prop)->Prop}{x:D}{xs:List D}{δ:Dl}{Q:Dl->Prop}:DZ g gs (x::xs) δ Q↔g x δ fun δ'=>gs xs δ' Q:=M3
def B2{δ:Dl}{Q:Dl->Prop}:Jh [] δ Q↔Q δ:=M3
def Bz{i:Nat}{δ:Dl}{ds:List D}{Q:List D->Prop}(h:δ[i]?=some (some (.lst ds))):oN δ i Q↔Q ds:=by unfold oN;rw[h]
def BN{i:Int}:(D.int i).tyn=some "int":=rfl
def GS{i:Bool}:(D.bl i).tyn=some "bool":=rfl
def Cz{i:List D}:(D.lst i).tyn=some "list":=rfl
def Bw{i:List D}:(D.tup i).tyn=some "tuple":=rfl
def BJ{i:Str}:(D.str i).tyn=some "str":=rfl
def Cd:D.non.tyn=some "NoneType":=rfl
def Gp:isB "int" "int" = true:=rfl
def Fq:isB "int" "bool" = false:=rfl
def Fe:isB "list" "list" = true:=rfl
def Eh:isB "tuple" "tuple" = true:=rfl
def DX:isB "str" "str" = true:=rfl
def D7:isB "bool" "bool" = true:=rfl
def DB:isB "bool" "int" = true:=rfl
def FA:isB "int" "list" = false:=rfl
def Fw:isB "NoneType" "list" = false:=rfl
end
end L3
namespace L2
open PySem PySem.Spec PyProof.Rows
section
variable {X:Cx}{K:PySem.W.Frag}
def m3(hK:X.K=K)(hc:X.calm=true):iZ X (.builtin "min") (fun xs H Q=>∃(a:Addr) (ns:List Int),xs=[.ref a]/\SqL K H a (ns.map V.int)/\0<ns.length/\∀M,M∈ns->(∀x∈ns,M<=x)->Q (.int M) H):=by
 subst hK
 intro pins s σ H xs us Q I r h
 obtain ⟨a,ns,rfl,hS,PY,q⟩:=h
 obtain ⟨u,rfl,ru⟩:=vals1 r
 obtain rfl:u=Value.ref a:=ru
 obtain ⟨ML,rv,pl,hz⟩:=I.list hS
 have hi:=kO rv
 obtain ⟨PX,e⟩:=hi.allInts.items
 have hl:s.heap.IsList a (intItems PX):=by rw[<- e];exact pl.isList
 have Qe:ns=PX.toList.map (·.1):=by rw[<- hi.numsOf,<- nums_intItems,<- e]
 have hsz:0<PX.size:=by
  have h3:=PY;rw[Qe,ox,MY] at h3;exact h3
 refine min_intList (I.ok.hd hc) hl hsz fun v h' tk hv hk=>?_
 obtain ⟨t,rfl⟩:=intItems_at hv
 obtain ⟨h1,h2⟩:=argBest_lt (numAt PX) (PX.size - 1)
 refine⟨.int _,H,I.kept hk,⟨t,rfl⟩,q _ ?_ fun b hb=>?_⟩
 .rw[Qe,numAt_eq];exact getD_mem (by rw[ox,MY];omega)
 .rw[Qe] at hb
  obtain ⟨j,hj,rfl⟩:=mem_getD hb
  rw[ox,MY] at hj
  rw[<- numAt_eq];exact h2 j (by omega)
def uX(hK:X.K=K)(hc:X.calm=true):iZ X (.builtin "max") (fun xs H Q=>∃(a:Addr) (ns:List Int),xs=[.ref a]/\SqL K H a (ns.map V.int)/\0<ns.length/\∀M,M∈ns->(∀x∈ns,x<=M)->Q (.int M) H):=by
 subst hK
 intro pins s σ H xs us Q I r h
 obtain ⟨a,ns,rfl,hS,PY,q⟩:=h
 obtain ⟨u,rfl,ru⟩:=vals1 r
 obtain rfl:u=Value.ref a:=ru
 obtain ⟨ML,rv,pl,hz⟩:=I.list hS
 have hi:=kO rv
 obtain ⟨PX,e⟩:=hi.allInts.items
 have hl:s.heap.IsList a (intItems PX):=by rw[<- e];exact pl.isList
 have Qe:ns=PX.toList.map (·.1):=by rw[<- hi.numsOf,<- nums_intItems,<- e]
 have hsz:0<PX.size:=by
  have h3:=PY;rw[Qe,ox,MY] at h3;exact h3
 refine max_intList (I.ok.hd hc) hl hsz fun v h' tk hv hk=>?_
 obtain ⟨t,rfl⟩:=intItems_at hv
 obtain ⟨h1,h2⟩:=argBest_gt (numAt PX) (PX.size - 1)
 refine⟨.int _,H,I.kept hk,⟨t,rfl⟩,q _ ?_ fun b hb=>?_⟩
 .rw[Qe,numAt_eq];exact getD_mem (by rw[ox,MY];omega)
 .rw[Qe] at hb
  obtain ⟨j,hj,rfl⟩:=mem_getD hb
  rw[ox,MY] at hj
  rw[<- numAt_eq];exact h2 j (by omega)
def vP:∀{bs:List Bool}{ML:List Value},Vals (bs.map V.bl) ML->LSm.BoolsAre ML bs
 |[],_,.nil=>.nil
 |b::bs,_,.cons r t=>by
  cases (show _=Value.bool b from r)
  exact .cons b (vP t)
def Dx(hK:X.K=K)(hc:X.calm=true):iZ X (.builtin "any") (fun xs H Q=>∃(a:Addr) (bs:List Bool),xs=[.ref a]/\SqL K H a (bs.map V.bl)/\Q (.bl (bs.any id)) H):=by
 subst hK
 intro pins s σ H xs us Q I r h
 obtain ⟨l,bs,rfl,hS,q⟩:=h
 obtain ⟨u,rfl,ru⟩:=vals1 r
 obtain rfl:u=Value.ref l:=ru
 obtain ⟨vs,rv,pl,hz⟩:=I.list hS
 have hb:=vP rv
 have hl:=pl.isList
 have NZ:l<s.heap.objs.size:=by obtain ⟨_,e,_⟩:=hl;exact Heap.lt_size e
 refine PySem.call_any_walk (wpAny_pyIter_list hl ?_)
 refine⟨s.heap.objs.size,[s.heap.objs.size,l],[s.heap.objs.size],vs.toArray.size,_,_,fun i=>(bs[i]?).getD false,rfl,Walks.list (A:=X.A.in1) (I.ok.hd hc) _ l (MG NZ) vs.toArray,
  ⟨⟨_,Heap.get?_push_size _ rfl,rfl,rfl⟩,hl.push _⟩,fun i v s' Q' E' hP hQ=>?_,fun h' tk hk=>?_⟩
 .obtain ⟨b,e,rfl⟩:=hb.get i v (by simpa using hP)
  simp only[e,M9] at hQ
  exact wpAny_truthy_bool hQ
 .have e:((List.range vs.toArray.size).any fun i=>(bs[i]?).getD false)=bs.any id:=by
   rw[Mz,hb.length];exact LSm.range_any bs
  rw[e]
  exact⟨.bl _,H,I.kept (LSm.kept_iter hk),rfl,q⟩
def CJ(n:Nat):List V:=(List.range n).map fun (k:Nat)=>.int (k:Int)
def xY(te:TE):TE:=fun σ H Q=>te σ H fun x H1=>∃j:Int,x=.int j/\j<=100000/\-(2 ^ 62)<=j/\∀l,H1 l=none->Q (.ref l) (upd H1 l (.lst (CJ j.toNat)))
def xV{e:Expr}{te:TE}{p p2 MH S9:Pos}(hc:X.calm=true)(hg:Gl X "list")(hm:X.mg "list" = none)(XX:Gl X "range")(XD:X.mg "range" = none)(he:PE X e te)
  (hs:starEach [Expr.Call (.Name "range" p2) [e] [] S9] X.env=[(false,eval (.Call (.Name "range" p2) [e] [] S9) X.env)]:=by rfl) (T2:starEach [e] X.env=[(false,eval e X.env)]:=by rfl) :
  PE X (.Call (.Name "list" p) [.Call (.Name "range" p2) [e] [] S9] [] MH) (xY te):=by
 intro pins s σ H Q I h
 refine wpAny_Call_Name_kw (kF I hg hm boot_list ?_)
 refine Nn ?_ hs rfl
 rw[hs]
 refine Calls.spliced_cons ?_
 refine wpAny_Call_Name_kw (kF I XX XD boot_range ?_)
 refine Nn ?_ T2 rfl
 rw[T2]
 refine Calls.spliced_cons (thn (he pins s σ H _ I h) fun v s1 ⟨x,H1,I1,r1,j,ex,hj,hj2,q⟩=>?_)
 subst ex
 obtain ⟨t,rfl⟩:=r1
 refine Calls.spliced_nil (call_range_1 (Calls.spliced_nil ?_))
 have hn:Builtin.Range.rangeSize 0 j 1=(j.toNat:Nat):=by rw[rangeSize_one];split<;>omega
 refine call_list_range (n:=j.toNat) (I.ok.hd hc) (IsRange.new ..) (small_one (by omega) (by omega) hj2 (by omega)) hn (by omega) fun h' tk P6 c' hk Sv SV=>?_
 have hsz:∀o:Obj,(s1.heap.push o).objs.size=s1.heap.objs.size+1:=fun o=>Heap.size_push ..
 have k1:∀b o,s1.heap.get? b=some o->h'.get? b=some o:=fun b o e=>hk b o (Heap.get?_push_of_some _ e)
 have hn1:H1 (s1.heap.objs.size+1)=none:=I1.hok.fresh (Nt _)
 dsimp only at Sv ⊢
 rw[hsz] at Sv ⊢
 have VE:Vals (CJ j.toNat) P6.toList:=by
  obtain ⟨a1,a2⟩:=SV
  have key:∀(n:Nat) (f:Nat->V) (ML:List Value),ML.length=n->(∀i v,ML[i]?=some v->RelV (f i) v)->Vals ((List.range n).map f) ML:=by
   intro n
   induction n with
   |zero=>intro f ML h1 h2;cases ML with|nil=>exact .nil|cons _ _=>simp at h1
   |succ n ih =>
    intro f ML h1 h2
    cases ML with
    |nil=>simp at h1
    |cons v vs =>
     rw[List.range_succ_eq_map,Mb,Mp]
     exact .cons (h2 0 v rfl) (ih (f ∘ Nat.succ) vs (by simpa using h1) fun i w e=>h2 (i+1) w (by simpa using e))
  refine key _ _ _ (by simpa using a1) fun i v e=>?_
  obtain ⟨t,hv⟩:=a2 i v (by simpa using e)
  exact⟨t,by rw[hv];simp⟩
 refine⟨.ref (s1.heap.objs.size+1),_,I1.laid (t':=tk) (o:=.lst (CJ j.toNat)) k1 (Nt _) ⟨by unfold CJ;rw[ox,Md];exact small (by omega),P6.toList,c',VE,?_⟩,rfl,q _ hn1⟩
 rw[Sv]
end
end L2
namespace L2
open PySem PySem.Spec PyProof.Rows
section
end
end L2
namespace L2
open PySem PySem.Spec PyProof.Rows
section
end
end L2
namespace L3
open PySem
open L2 hiding D Rf Rfs Rp dI dT
section
variable {K:PySem.W.Frag}{Γ M:List Nat}{te:TE}{de:DE}{d e:DS}
variable {B0:Hp}{fps:Nat->List Addr}{δ:Dl}{σ:St}{H:Hp}
def Bn(xs:List D)(P:DK):Prop:=match xs with|[x]=>zB x fun ns=>0<ns.length/\∀M,M∈ns->(∀x∈ns,M<=x)->P (.int M)|_=>False
def BG(xs:List D)(P:DK):Prop:=match xs with|[x]=>zB x fun ns=>0<ns.length/\∀M,M∈ns->(∀x∈ns,x<=M)->P (.int M)|_=>False
def w6:nA K (fun xs H Q=>∃(a:Addr) (ns:List Int),xs=[.ref a]/\SqL K H a (ns.map V.int)/\0<ns.length/\∀M,M∈ns->(∀x∈ns,M<=x)->Q (.int M) H) Bn:=⟨fun xs P P' k h=>by
  unfold Bn at h ⊢
  revert h
  split
  .exact fun h=>by obtain ⟨ns,e,z⟩:=gy h;exact ot e ⟨z.1,fun M a b=>k _ (z.2 M a b)⟩
  .exact id,
 fun {H xs vs Q} r h=>by
  unfold Bn at h
  split at h
  .obtain ⟨v,rfl,r0⟩:=r.one
   obtain ⟨ns,e,h⟩:=gy h
   obtain ⟨a,ys,fq,rfl,hs,hr⟩:=r0.seq e
   rw[hr.yf] at hs
   exact⟨a,ns,rfl,hs,h.1,fun M h1 h2=>h.2 M h1 h2 _ H [] (Same.refl H) ⟨rfl,rfl⟩ Nw.nil⟩
  .exact h.elim⟩
def Ec:nA K (fun xs H Q=>∃(a:Addr) (ns:List Int),xs=[.ref a]/\SqL K H a (ns.map V.int)/\0<ns.length/\∀M,M∈ns->(∀x∈ns,x<=M)->Q (.int M) H) BG:=⟨fun xs P P' k h=>by
  unfold BG at h ⊢
  revert h
  split
  .exact fun h=>by obtain ⟨ns,e,z⟩:=gy h;exact ot e ⟨z.1,fun M a b=>k _ (z.2 M a b)⟩
  .exact id,
 fun {H xs vs Q} r h=>by
  unfold BG at h
  split at h
  .obtain ⟨v,rfl,r0⟩:=r.one
   obtain ⟨ns,e,h⟩:=gy h
   obtain ⟨a,ys,fq,rfl,hs,hr⟩:=r0.seq e
   rw[hr.yf] at hs
   exact⟨a,ns,rfl,hs,h.1,fun M h1 h2=>h.2 M h1 h2 _ H [] (Same.refl H) ⟨rfl,rfl⟩ Nw.nil⟩
  .exact h.elim⟩
def iR:List D->Option (List Bool)
 |[]=>some []
 |.bl i::ds=>(iR ds).map (i::·)
 |_=>none
def kc:∀{ns:List Bool},iR (ns.map D.bl)=some ns
 |[]=>rfl
 |n::ns=>by rw[Mb,iR,kc];rfl
def rR:∀{ds:List D}{ns:List Bool},iR ds=some ns->ds=ns.map D.bl
 |[],ns,h=>by cases h;rfl
 |.bl i::ds,ns,h=>by
  rw[iR] at h
  cases e:iR ds with
  |none=>rw[e] at h;cases h
  |some ms=>rw[e] at h;cases h;rw[rR e];rfl
 |.non::_,_,h=>by cases h
 |.int _::_,_,h=>by cases h
 |.str _::_,_,h=>by cases h
 |.lst _::_,_,h=>by cases h
 |.tup _::_,_,h=>by cases h
 |.dic _::_,_,h=>by cases h
 |.dit _::_,_,h=>by cases h
 |.scr _::_,_,h=>by cases h
def Hu(x:D)(P:List Bool->Prop):Prop:=asL x fun ds=>match iR ds with|some ns=>P ns|none=>False
def zv{x:D}{P:List Bool->Prop}(h:Hu x P):∃ns,x.items=some (ns.map D.bl)/\P ns:=by
 obtain ⟨ds,e,h⟩:=dQ h
 cases q:iR ds with
 |none=>rw[q] at h;exact h.elim
 |some ns=>rw[q] at h;rw[rR q] at e;exact⟨ns,e,h⟩
def G4{x:D}{ns:List Bool}{P:List Bool->Prop}(e:x.items=some (ns.map D.bl))(h:P ns):Hu x P:=by
 refine j4 e ?_
 rw[kc];exact h
def Rfs.JT{ns:List Bool}{vs:List V}{fp:List Addr}(h:Rfs K H (ns.map D.bl) vs fp):vs=ns.map V.bl:=by
 have hs:(ns.map D.bl).all D.bg=true:=by rw[Po,MP];exact fun _ _=>rfl
 rw[(h.jk hs).1,Mp]
 rfl
def LZ(xs:List D)(P:DK):Prop:=match xs with|[x]=>Hu x fun ns=>P (.bl (ns.all id))|_=>False
def HL(xs:List D)(P:DK):Prop:=match xs with|[x]=>Hu x fun ns=>P (.bl (ns.any id))|_=>False
def JZ:nA K (fun xs H Q=>∃(a:Addr) (bs:List Bool),xs=[.ref a]/\SqL K H a (bs.map V.bl)/\Q (.bl (bs.any id)) H) HL:=⟨fun xs P P' k h=>by
  unfold HL at h ⊢
  revert h
  split
  .exact fun h=>by obtain ⟨ns,e,z⟩:=zv h;exact G4 e (k _ z)
  .exact id,
 fun {H xs vs Q} r h=>by
  unfold HL at h
  split at h
  .obtain ⟨v,rfl,r0⟩:=r.one
   obtain ⟨ns,e,h⟩:=zv h
   obtain ⟨a,ys,fq,rfl,hs,hr⟩:=r0.seq e
   rw[hr.JT] at hs
   exact⟨a,ns,rfl,hs,h _ H [] (Same.refl H) ⟨rfl,rfl⟩ Nw.nil⟩
  .exact h.elim⟩
def tM{ns:List Bool}{P:DK}:LZ [.lst (ns.map D.bl)] P↔P (.bl (ns.all id)):=by
 show (match iR (ns.map D.bl) with|some ns=>P (.bl (ns.all id))|none=>False)↔_
 rw[kc]
def rZ{ns:List Bool}{P:DK}:HL [.lst (ns.map D.bl)] P↔P (.bl (ns.any id)):=by
 show (match iR (ns.map D.bl) with|some ns=>P (.bl (ns.any id))|none=>False)↔_
 rw[kc]
def nX{ns:List Int}{P:DK}:Bn [dI ns] P↔0<ns.length/\∀M,M∈ns->(∀x∈ns,M<=x)->P (.int M):=jr
def sJ{ns:List Int}{P:DK}:BG [dI ns] P↔0<ns.length/\∀M,M∈ns->(∀x∈ns,x<=M)->P (.int M):=jr
def HQ(n:Nat):List Int:=(List.range n).map fun (k:Nat)=>(k:Int)
def tL(de:DE)(δ:Dl)(P:DK):Prop:=de δ fun x=>asI [x] fun j=>(j<=100000/\-(2 ^ 62)<=j)/\P (dI (HQ j.toNat))
def Aw(he:ER K Γ te de):EM K Γ [] (xY te) (tL de) :=
 ⟨fun δ P P' k h=>he.mono _ _ _ (fun x z=>by obtain ⟨j,rfl,z⟩:=cY z;exact⟨z.1,k _ z.2⟩) h,
 fun {B0 fps δ σ H Q} o h=>he.run o (he.mono _ _ _ (fun x z v H1 s1 r1=>by
  obtain ⟨j,ej,z'⟩:=cY z
  subst ej
  refine⟨j,r1.int,z'.1.1,z'.1.2,fun l hl=>?_⟩
  have e:CJ j.toNat=(HQ j.toNat).map V.int:=by unfold CJ HQ;rw[Mp];rfl
  rw[e]
  have s2:Same H1 (upd H1 l (.lst ((HQ j.toNat).map V.int))):=Same.jn hl
  exact z'.2 _ _ [l] (s1.trans s2) (Rf.ofInts aw) ((Nw.one hl aw).any.later s1)) h)⟩
def G1{o:Option D}{P:DK}(h:asO o P):∃d,o=some d/\P d:=by
 unfold asO at h;split at h
 .exact⟨_,rfl,h⟩
 .exact h.elim
def yg{o:Option D}{es:List D}{Q:List D->Prop}(e:o=some (.lst es))(h:Q es):vv o Q:=by rw[e];exact h
def LP(x y:D)(P:DK):Prop:=match x,y with|.lst a,.lst b=>a.length+b.length<=1000/\P (.lst (a++b))|_,_=>False
def u6{a b:List D}{P:DK}:LP (.lst a) (.lst b) P↔a.length+b.length<=1000/\P (.lst (a++b)):=M3
def K6(x y:D)(P:DK):Prop:=match x,y with|.lst a,.int k=>((-(2 ^ 63)<=k/\k<2 ^ 63)/\a.length*k.toNat<=1000)/\P (.lst (uB a k.toNat))|_,_=>False
def vp{a:List D}{k:Int}{P:DK}:K6 (.lst a) (.int k) P↔((-(2 ^ 63)<=k/\k<2 ^ 63)/\a.length*k.toNat<=1000)/\P (.lst (uB a k.toNat)):=M3
def J3(xs:List D)(P:DK):Prop:=match xs with|[x]=>asL x fun ds=>P (.lst ds)|_=>False
def sA{ds:List D}{P:DK}:J3 [.lst ds] P↔P (.lst ds):=M3
def Cw{OK:Bool}{i j:Bool}{P:DK}:sR OK (.bl i) (.bl j) P↔P (.bl (if OK then !decide (i=j) else decide (i=j))):=by
 unfold sR
 simp only[D.bg,D.toV,bg,true_and,V.bl.injEq]
def yi{OK:Bool}{i j:Str}{P:DK}:sR OK (.str i) (.str j) P↔P (.bl (if OK then !decide (i=j) else decide (i=j))):=by
 unfold sR
 simp only[D.bg,D.toV,bg,true_and,V.str.injEq]
end
end L3
namespace L3
open PySem
open L2 hiding D Rf Rfs Rp dI dT
def cT(n m:Nat)(t:List (List Int)):Prop:=t.length=n/\∀r∈t,r.length=m
abbrev rowAt(t:List (List Int))(i:Nat):List Int:=t.getD i []
abbrev cellAt(t:List (List Int))(i j:Nat):Int:=(t.getD i []).getD j 0
abbrev setCell(t:List (List Int))(i j:Nat)(v:Int):List (List Int):=t.set i ((t.getD i []).set j v)
def Dg{t:List (List Int)}{i:Nat}(h:i<t.length):rowAt t i∈t:=by
 unfold rowAt
 rw[gV,dz h]
 exact MO h
def cT.row{n m:Nat}{t:List (List Int)}(h:cT n m t){i:Nat}(hi:i<n):(rowAt t i).length=m:=h.2 _ (Dg (by rw[h.1];exact hi))
def cT.set{n m:Nat}{t:List (List Int)}(h:cT n m t){i:Nat}{r:List Int}(hr:r.length=m):cT n m (t.set i r):=by
 refine⟨by rw[MQ];exact h.1,fun x hx=>?_⟩
 rcases Pw hx with z|z
 .exact h.2 x z
 .rw[z];exact hr
def cT.setCell{n m:Nat}{t:List (List Int)}(h:cT n m t){i j:Nat}{v:Int}(hi:i<n):cT n m (setCell t i j v):=h.set (by rw[MQ];exact h.row hi)
def JK{t:List (List Int)}{i:Nat}(h:i<t.length):(t.map dI)[i]?=some (dI (rowAt t i)):=by
 unfold rowAt
 rw[L9,gV,dz h]
 rfl
def IK{t:List (List Int)}{i:Int}(h0:0<=i)(h:i<t.length):atI (t.map dI) i=some (dI (rowAt t i.toNat)):=by
 unfold atI
 rw[eQ h0 (by rw[ox];exact h)]
 exact JK (by omega)
def KL{t:List (List Int)}{i:Nat}{r:List Int}:(t.map dI).set i (dI r)=(t.set i r).map dI:=(Pn ..).symm
section
variable {i j:Nat}{δ:Dl}{de d1 d2 dx:DE}{E:cf}{t:List (List Int)}{r:List Int}{a b v:Int}
def lC(hs:δ[i]?=some (some (dI r)))(X6:∀R:DK,R (.int v)->de δ R)(SR:∀R:DK,R (.int a)->dx δ R)(ha:0<=a/\a<r.length)(h:E.nx (δ.set i (some (dI (r.set a.toNat v))))):rX i de dx E δ:=by
 unfold rX
 refine X6 _ ((Bz hs).mpr (SR _ ?_))
 show match ixN (r.map D.int).length a with|some j=>E.nx (δ.set i (some (.lst ((r.map D.int).set j (.int v)))))|none=>False
 rw[eQ ha.1 (by rw[ox];exact ha.2)]
 show E.nx (δ.set i (some (.lst ((r.map D.int).set a.toNat (.int v)))))
 rw[t7];exact h
def wM(hs:δ[i]?=some (some (dT t)))(X6:∀R:DK,R (.int v)->de δ R)(h1:∀R:DK,R (.int a)->d1 δ R)(h2:∀R:DK,R (.int b)->d2 δ R)(ha:0<=a/\a<t.length)(hb:0<=b/\b<(rowAt t a.toNat).length)
  (h:E.nx (δ.set i (some (dT (setCell t a.toNat b.toNat v))))):qg i de d1 d2 E δ:=by
 unfold qg
 refine X6 _ ((Bz hs).mpr (h1 _ ?_))
 show vv (atI (t.map dI) a) _
 rw[IK ha.1 ha.2]
 refine h2 _ ?_
 show match ixN (t.map dI).length a,ixN ((rowAt t a.toNat).map D.int).length b with|some j,some j2=>E.nx (δ.set i (some (.lst ((t.map dI).set j (.lst (((rowAt t a.toNat).map D.int).set j2 (.int v)))))))|_,_=>False
 rw[eQ ha.1 (by rw[ox];exact ha.2),eQ hb.1 (by rw[ox];exact hb.2)]
 show E.nx (δ.set i (some (.lst ((t.map dI).set a.toNat (.lst (((rowAt t a.toNat).map D.int).set b.toNat (.int v)))))))
 rw[t7,KL];exact h
end
def bo{r:List Int}{a:Int}{P:DK}(ha:0<=a/\a<r.length)(h:P (.int (r.getD a.toNat 0))):asO (atI (r.map D.int) a) P:=(xy (KU ha.1 ha.2)).mpr h
def ia{t:List (List Int)}{a:Int}{P:DK}(ha:0<=a/\a<t.length)(h:P (dI (rowAt t a.toNat))):asO (atI (t.map dI) a) P:=(xy (IK ha.1 ha.2)).mpr h
def tE{n:Nat}{x:Int}:uB [D.int x] n=(List.replicate n x).map D.int:=by
 unfold uB
 induction n with
 |zero=>rfl
 |succ n ih=>rw[Nd,OU,ih,Nd];rfl
def Gi{α:Type}{as:List α}{f:α->List Int}:as.map (fun a=>dI (f a))=(as.map f).map dI:=by rw[Mp];rfl
def kf{α:Type}{as:List α}{f:α->Int}:as.map (fun a=>D.int (f a))=(as.map f).map D.int:=by rw[Mp];rfl
def aQ{K:PySem.W.Frag}{Γ:List Nat}{ta:TE}{da:DE}{tr:TA}{dr:DA}(ha:EM K Γ [] ta da)(hr:AM K Γ [] tr dr):AM K Γ [] (gp ta tr) (oU da dr):=iQ ha hr (fun _ h=>(nomatch h)) (fun _ h=>(nomatch h))
def G5{ds:List D}{a:Int}{P:DK}(h0:0<=a)(h:a<ds.length)(k:asO (ds[a.toNat]?) P):asO (atI ds a) P:=by
 unfold atI;rw[eQ h0 h];exact k
def Dc{di:DI}{dg:D->Dl->(Dl->Prop)->Prop}{dt:DT}{de:DE}{k:Nat}{idx:List Nat}{δ:Dl}{P:DK}{t:List (List Int)}(SS:∀R:List D->Prop,R (t.map dI)->di δ R)(hl:t.length<=1000)
  (hb:∀r∈t,∀R:List D->Prop,R [dI r]->ka dg dt de (fu k idx δ) (dI r) R) (h:P (dT t)):nF di dg dt de k idx δ P:=kW (g:=dI) SS hl hb h
def KN{a b:List Int}:a.map D.int++b.map D.int=(a++b).map D.int:=Mr.symm
def qm(t:List (List Int))(j:Nat):List Int:=t.map fun r=>r.getD j 0
end L3
namespace L3
open PySem
open L2 hiding D Rf Rfs Rp dI dT
end L3
namespace L3
open PySem
open L2 hiding D Rf Rfs Rp dI dT
def Hh{ds:List D}{k:Int}(h:0<=k):cutD ds none (some k)=ds.take k.toNat:=by
 obtain ⟨n,rfl⟩:=Int.eq_ofNat_of_zero_le h
 unfold cutD
 rw[HT.oB,HT.mL,Nat.sub_zero,NH,<- List.take_eq_take_min]
 rfl
def Df{ds:List D}{k:Int}(h:0<=k)(h2:k<=ds.length):cutD ds (some k) none=ds.drop k.toNat:=by
 obtain ⟨n,rfl⟩:=Int.eq_ofNat_of_zero_le h
 unfold cutD
 rw[HT.oB,HT.mL,NP (by omega),M1 (by rw[Nl];exact Mi _)]
 rfl
def GO{a:D}{ds:List D}:atI (a::ds) 0=some a:=by
 unfold atI;rw[eQ (by omega) (by rw[L6];omega)];rfl
def GD{a b:D}{ds:List D}:atI (a::b::ds) 1=some b:=by
 unfold atI;rw[eQ (by omega) (by rw[L6,L6];omega)];rfl
def Eb{a b c:D}{ds:List D}:atI (a::b::c::ds) 2=some c:=by
 unfold atI;rw[eQ (by omega) (by rw[L6,L6,L6];omega)];rfl
def GK{a b c d:D}{ds:List D}:atI (a::b::c::d::ds) 3=some d:=by
 unfold atI;rw[eQ (by omega) (by rw[L6,L6,L6,L6];omega)];rfl
end L3
namespace L2
open PySem PySem.Spec PyProof.Rows
section
variable {prog:Program}{w:World}{A:Around}{E:Value->Shared->Prop}{s:Shared}
def u0{it t:Addr}{items:Array Value}(PY:t≠it):∀(n i:Nat) (s:Shared) (Q:List Value->Shared->Prop),s.heap.IsListIter it t i->s.heap.IsList t items->i+n<=items.size ->
  (∀h',h'.IsListIter it t (i+n)->Heap.SameBut it s.heap h'->Q ((items.toList.drop i).take n) { s with heap:=h' })->wpAny (model prog w) A (draw (.ref it) n) Q E s
 |0,i,s,Q,Uu,_,_,hQ=>by
  show wpAny _ _ (pure []) Q E s
  exact wpAny_pure (by simpa using hQ s.heap Uu (Heap.SameBut.refl ..))
 |n+1,i,s,Q,Uu,ht,SO,hQ=>by
  have NZ:i<items.size:=by omega
  show wpAny _ _ (pyNext (.ref it) >>= _) Q E s
  refine wpAny_bind (wpAny_pyNext_list_item Uu ht (x:=items[i]) (by simp [NZ]) fun Qd RZ Rb=>?_)
  have Tb:Qd.IsList t items:=ht.at fun o e=>(Rb.2 t PY).trans e
  refine wpAny_bind (wpAny_holding (u0 PY n (i+1) _ _ RZ Tb (by omega) fun Qs Ut Vh=>wpAny_pure ?_))
  have hd:items.toList.drop i=items[i]::items.toList.drop (i+1):=by simp [MD,NZ]
  have:=hQ Qs (by rw[show i+(n+1)=i+1+n by omega];exact Ut) (Rb.trans Vh)
  rw[hd,Pg] at this
  exact this
def qk{t:Addr}{items:Array Value}{Q:List Value->Shared->Prop}(hh:A.handled=none)(ht:s.heap.IsList t items)
  (hQ:∀h',Heap.ExtBut s.heap.objs.size s.heap h'->Q items.toList { s with heap:=h' }):wpAny (model prog w) A (unpackItems (.ref t) items.size none) Q E s:=by
 have NZ:t≠s.heap.objs.size:=by obtain ⟨o,ho,_⟩:=ht;exact MG (Heap.lt_size ho)
 unfold unpackItems
 refine wpAny_bind ?_
 .unfold notIterableAtAll
  refine wpAny_bind (wpAny_specialOf ht.typeIs PySem.F.slot_list_iter.lookup ?_)
  refine wpAny_pure ?_
  simp only[Ny,if_false]
  refine wpAny_bind (wpAny_holding (wpAny_pyIter_list ht ?_))
  refine wpAny_bind (wpAny_holding (u0 NZ items.size 0 _ _ ⟨_,Heap.get?_push_size _ rfl,rfl,rfl⟩ (ht.push _) (by omega) fun Qd RZ Rb=>?_))
  have Pe:List.take items.size (List.drop 0 items.toList)=items.toList:=by
   rw[NH];exact M1 (by simp)
  rw[Pe]
  rw[if_neg (by simp)]
  have Tb:Qd.IsList t items:=(ht.push _).at fun o e=>(Rb.2 t NZ).trans e
  refine wpAny_bind (wpAny_holding (wpAny_pyNext_list_end hh RZ Tb (by simp) fun Qs Vv=>?_))
  simp only[Option.isSome_none,Ny,if_false]
  refine wpAny_pure (hQ Qs fun b o hb e=>Vv b o hb ((Rb.2 b hb).trans (Heap.get?_push_of_some _ e)))
def oS{env:Env}{TM:List Expr}{x1}{MH:Pos}{t:Addr}{items:Array Value}{Q:Unit->Shared->Prop}(hh:A.handled=none)(ht:s.heap.IsList t items)
  (hn:(assignEach TM env).length=items.size) (Vj:(assignEach TM env).findIdx? (·.1)=none)
  (h:∀h',Heap.ExtBut s.heap.objs.size s.heap h'->wpAny (model prog w) A (assignInOrder ((assignEach TM env).map (·.2)) items.toList) Q E { s with heap:=h' }) :
  wpAny (model prog w) A (assign (.Tuple TM x1 MH) env (.ref t)) Q E s:=by
 rw[assign_Tuple]
 refine wpAny_bind (wpAny_standAt ?_)
 unfold unpack
 rw[hn,Vj]
 exact wpAny_bind (wpAny_holding (qk hh ht h))
end
section
variable {X:Cx}{K:PySem.W.Frag}
def Ll(K:PySem.W.Frag)(n:Nat)(t:TGs):TG:=fun v σ H Q=>∃a xs,v=.ref a/\SqL K H a xs/\xs.length=n/\t xs σ H Q
def Hf{es:List Expr}{k:Nat}{t:TGs}{n:Nat}{MH:Pos}(hK:X.K=K)(hc:X.calm=true)(h:PGs X es t)
  (hn:(assignEach es X.env).length=n:=by rfl) (Tc:(assignEach es X.env).findIdx? (·.1)=none:=by rfl):PG X (.Tuple es k MH) (Ll K n t):=by
 subst hK
 intro pins s σ H v u Q I r hw
 obtain ⟨a,xs,e1,hq,hl,hw⟩:=hw
 subst e1
 cases r
 obtain ⟨ML,rv,ht,hz⟩:=I.list hq
 refine oS (I.ok.hd hc) ht.isList (by simp [hn,<- hl,rv.length]) Tc fun h' hx=>?_
 have I1:Inv X pins σ H { s with heap:=h' }:=I.kept (t':=s.toks) fun b o e=>hx b o (MG (Heap.lt_size e)) e
 exact h pins _ σ H xs _ Q I1 (by simpa using rv) hw
end
end L2
namespace Maj
open L2 (tZ iL pV qx)
def iu(xs:List Int)(k:Nat):Int:=((tZ xs).take k).sum
def kS:List Bool->List Int->Int
 |true::m,x::xs=>x+kS m xs
 |false::m,_::xs=>kS m xs
 |_,_=>0
def cnt:List Bool->Nat
 |true::m=>cnt m+1
 |false::m=>cnt m
 |[]=>0
def uh:∀{k:Nat}{y:Int}{ys:List Int},(y::ys).Pairwise (·>=·)->k<=ys.length->(ys.take k).sum<=((y::ys).take k).sum
 |0,y,ys,_,_=>by simp
 |k+1,y,[],_,h=>by simp at h
 |k+1,y,z::zs,hp,h=>by
  rw[Pg,Pg,Mj,Mj]
  obtain ⟨h1,h2⟩:=List.pairwise_cons.mp hp
  have:=uh (k:=k) h2 (by simpa using h)
  have:=h1 z Fk
  omega
def mJ:∀{ys:List Int}{m:List Bool},ys.Pairwise (·>=·)->m.length=ys.length->kS m ys<=(ys.take (cnt m)).sum
 |[],[],_,_=>by simp [kS,cnt]
 |[],_::_,_,h=>by simp at h
 |_::_,[],_,h=>by simp at h
 |y::ys,true::m,hp,h=>by
  have:=mJ (List.pairwise_cons.mp hp).2 (show m.length=ys.length by simpa using h)
  rw[kS,cnt,Pg,Mj];omega
 |y::ys,false::m,hp,h=>by
  have hl:m.length=ys.length:=by simpa using h
  have h1:=mJ (List.pairwise_cons.mp hp).2 hl
  have h2:cnt m<=ys.length:=by
   have:∀m:List Bool,cnt m<=m.length:=fun m=>by
    induction m with
    |nil=>simp [cnt]
    |cons b m ih=>cases b<;>simp [cnt]<;>omega
   rw[<- hl];exact this m
  have:=uh hp h2
  rw[kS,cnt];omega
def CI{xs ys:List Int}(h:xs.Perm ys):∀m:List Bool,m.length=xs.length->∃m':List Bool,m'.length=ys.length/\cnt m'=cnt m/\kS m' ys=kS m xs:=by
 induction h with
 |nil=>exact fun m h=>⟨m,h,rfl,rfl⟩
 |cons x _ ih =>
  intro m h
  cases m with
  |nil=>simp at h
  |cons b m =>
   obtain ⟨m',h1,h2,h3⟩:=ih m (by simpa using h)
   refine⟨b::m',by simp [h1],?_,?_⟩
   .cases b<;>simp [cnt,h2]
   .cases b<;>simp [kS,h3]
 |swap x y l =>
  intro m h
  match m,h with
  |b::c::m,h =>
   refine⟨c::b::m,by simpa using h,?_,?_⟩
   .cases b<;>cases c<;>simp [cnt]
   .cases b<;>cases c<;>simp [kS]<;>omega
  |[_],h=>simp at h
  |[],h=>simp at h
 |trans _ _ Vc Vb =>
  intro m h
  obtain ⟨m1,a1,a2,a3⟩:=Vc m h
  obtain ⟨m2,b1,b2,b3⟩:=Vb m1 a1
  exact⟨m2,b1,b2.trans a2,b3.trans a3⟩
def Hz{xs:List Int}{m:List Bool}(h:m.length=xs.length):kS m xs<=iu xs (cnt m):=by
 obtain ⟨m',h1,h2,h3⟩:=CI (iL xs).symm m h
 rw[<- h3,<- h2]
 exact mJ (pV xs) h1
def above(one other:List Int):List Nat:=(List.range one.length).filter fun p=>decide (iu other (p+1)<iu one (p+1))
end Maj
namespace L3
open PySem
open L2 hiding D Rf Rfs Rp dI dT
section
variable {K:PySem.W.Frag}{Γ:List Nat}
def Gh(n:Nat)(dg:List D->Dl->(Dl->Prop)->Prop)(x:D)(δ:Dl)(P:Dl->Prop):Prop:=asL x fun ds=>ds.length=n/\dg ds δ P
def JQ{n:Nat}{g:TGs}{dg:List D->Dl->(Dl->Prop)->Prop}(h:GTs K Γ g dg):GT K Γ (Ll K n g) (Gh n dg) :=
 ⟨fun x δ P P' k q=>by obtain ⟨ds,e,z⟩:=dQ q;exact j4 e ⟨z.1,h.mono _ _ _ _ k z.2⟩,
 fun {B0 fps δ σ H x v fp Q} o r nn q=>by
  obtain ⟨ds,e,z⟩:=dQ q
  obtain ⟨a,xs,fq,rfl,hs,hr,Uv⟩:=r.seq e
  exact⟨a,xs,rfl,hs,hr.length.trans z.1,h.run o hr (fun j hj b hb=>nn j hj b (Uv b hb)) z.2⟩⟩
end
end L3
namespace L3
open PySem L2
section
def La(xs:List D)(P:Int->Prop):Prop:=match xs with|[.int j]=>P j|[.bl b]=>P (if b then 1 else 0)|_=>False
def zz{i:Int}{P:Int->Prop}:La [.int i] P↔P i:=M3
def Ce{b:Bool}{P:Int->Prop}:La [.bl b] P↔P (if b then 1 else 0):=M3
end
end L3
namespace L3
open PySem
open L2 hiding D Rf Rfs Rp dI dT
end L3
namespace L3
open PySem L2
section
end
end L3
namespace L3
open PySem
open L2 hiding D Rf Rfs Rp dI dT
section
end
end L3
namespace L3
open PySem L2
def D.flat:D->Bool
 |.tup ds=>ds.all D.bg
 |d=>d.bg
def Rf.flat{K:PySem.W.Frag}{H:Hp}{d:D}{v:V}{fp:List Addr}(h:Rf K H d v fp)(s:d.flat=true):fp=[]:=by
 cases d with
 |tup ds =>
  obtain ⟨a,xs,rfl,h2,h3⟩:=h
  exact (h3.jk s).2
 |_=>first|exact (h.bg s).2|cases s
def yo{i:Int}:(D.int i).flat=true:=rfl
def Bv{b:Bool}:(D.bl b).flat=true:=rfl
def vY{a b c d:Int}:(D.tup [.int a,.int b,.int c,.int d]).flat=true:=rfl
def vF{a b c:Int}:(D.tup [.int a,.int b,.int c]).flat=true:=rfl
def vS{a b:Int}:(D.tup [.int a,.int b]).flat=true:=rfl
def FG(d:DE)(δ:Dl)(P:DK):Prop:=d δ fun x=>x.flat=true/\P x
def ER.flat{K:PySem.W.Frag}{Γ:List Nat}{t:TE}{d:DE}(h:ER K Γ t d):EM K Γ [] t (FG d):=⟨fun δ P P' k q=>h.mono _ _ _ (fun x z=>⟨z.1,k x z.2⟩) q,fun o q=>h.run o (h.mono _ _ _ (fun x z v H' s r=>by
 obtain ⟨fp,r⟩:=r
 have e:=r.flat z.1
 subst e
 exact z.2 v H' [] s r Nw.nil) q)⟩
end L3
namespace L3
open PySem
open L2 hiding D Rf Rfs Rp dI dT
def ma{t:List (List Int)}{n m:Nat}{a b:Int}{R:DK}(hR:cT n m t)(ha:0<=a/\a<n)(hb:0<=b/\b<m)(h:R (.int (cellAt t a.toNat b.toNat))):asO (atI (t.map dI) a) fun z=>rG z (.int b) R:=by
 have h1:=hR.row (i:=a.toNat) (by omega)
 have hl:=hR.1
 refine ia (by omega) ?_
 rw[rK]
 exact bo (by omega) h
def oP{t:List (List Int)}{n m a b c d:Nat}{v:Int}(hR:cT n m t)(ha:a<n)(hb:b<m):cellAt (setCell t a b v) c d=if a=c/\b=d then v else cellAt t c d:=by
 have hl:=hR.1
 have hr:=hR.row ha
 unfold setCell cellAt
 by_cases h:a=c
 .subst h
  rw[gV (l:=t.set a _),MC (by omega),M9]
  by_cases h2:b=d
  .subst h2
   rw[if_pos ⟨rfl,rfl⟩,gV,MC (by rw[show (t.getD a []).length=m from hr];exact hb),M9]
  .rw[if_neg (fun z=>h2 z.2),gV,Ml h2,<- gV]
 .rw[if_neg (fun z=>h z.1),gV (l:=t.set a _),Ml h,<- gV]
end L3
namespace L2
open PySem PySem.Spec PyProof.Rows
section
variable {κ:Type}[DecidableEq κ]
def j6(kvs:List (κ × V))(k:κ):Option V:=(kvs.find? fun kv=>decide (kv.1=k)).map (·.2)
def putK(kvs:List (κ × V))(k:κ)(v:V):List (κ × V) :=
 if (kvs.any fun kv=>decide (kv.1=k))=true then kvs.map (fun kv=>if kv.1=k then (kv.1,v) else kv) else kvs++[(k,v)]
def mB{p:κ × V}{r:List (κ × V)}{k:κ}(e:p.1=k):j6 (p::r) k=some p.2:=by simp [j6,Oz,e]
def kR{p:κ × V}{r:List (κ × V)}{k:κ}(e:¬ p.1=k):j6 (p::r) k=j6 r k:=by simp [j6,Oz,e]
def sf(k:κ):∀kvs:List (κ × V),(kvs.any fun kv=>decide (kv.1=k))=(j6 kvs k).isSome
 |[]=>rfl
 |p::r=>by
  rw[List.any_cons]
  by_cases e:p.1=k
  .simp only[mB e,decide_eq_true e,Bool.true_or,Option.isSome_some]
  .rw[kR e,decide_eq_false e,Bool.false_or];exact sf k r
def qr(kvs:List (κ × V))(k:κ)(v:V):(putK kvs k v).length<=kvs.length+1:=by
 unfold putK
 split
 .rw[ox];omega
 .rw[Mx,L6,N5];omega
def GN{kvs:List (κ × V)}{k:κ}(v:V)(h:j6 kvs k=none):putK kvs k v=kvs++[(k,v)]:=by
 unfold putK
 rw[sf,h]
 exact if_neg (by decide)
def nc.qj{o:Option V}{u:Option Value}(r:nc o u):o.isSome=u.isSome:=by
 cases o with
 |none=>cases u with
  |none=>rfl
  |some _=>exact (show False from r).elim
 |some _=>cases u with
  |none=>exact (show False from r).elim
  |some _=>rfl
def KV.val{kvs:List (κ × V)}{vs:List (κ × Value)}(r:KV kvs vs)(k:κ):nc (j6 kvs k) (valueAt vs k):=by
 unfold KV at r
 induction r with
 |nil=>exact True.intro
 |@cons p q ps qs h t ih =>
  obtain ⟨h1,h2⟩:=h
  by_cases e:p.1=k
  .have e':q.1=k:=h1.symm.trans e
   have b:valueAt (q::qs) k=some q.2:=by simp [valueAt,Oz,e']
   rw[mB e,b];exact h2
  .have e':¬ q.1=k:=fun z=>e (h1.trans z)
   have b:valueAt (q::qs) k=valueAt qs k:=by simp [valueAt,Oz,e']
   rw[kR e,b];exact ih
def KV.any{kvs:List (κ × V)}{vs:List (κ × Value)}(r:KV kvs vs)(k:κ):(kvs.any fun kv=>decide (kv.1=k))=vs.any fun kv=>decide (kv.1=k):=by
 unfold KV at r
 induction r with
 |nil=>rfl
 |cons h t ih=>rw[List.any_cons,List.any_cons,ih,h.1]
def KV.KJ{kvs:List (κ × V)}{vs:List (κ × Value)}(r:KV kvs vs)(k:κ){y:V}{u:Value}(ry:RelV y u) :
  KV (kvs.map fun kv=>if kv.1=k then (kv.1,y) else kv) (vs.map fun kv=>if kv.1=k then (kv.1,u) else kv):=by
 unfold KV at r ⊢
 induction r with
 |nil=>exact .nil
 |@cons p q ps qs h t ih =>
  rw[Mb,Mb]
  refine .cons ?_ ih
  obtain ⟨h1,h2⟩:=h
  by_cases e:p.1=k
  .rw[if_pos e,if_pos (h1.symm.trans e)];exact⟨h1,ry⟩
  .rw[if_neg e,if_neg (fun z=>e (h1.trans z))];exact⟨h1,h2⟩
def KV.put{kvs:List (κ × V)}{vs:List (κ × Value)}(r:KV kvs vs)(k:κ){y:V}{u:Value}(ry:RelV y u):KV (putK kvs k y) (stored vs k u):=by
 unfold putK stored
 rw[r.any k]
 by_cases e:(vs.any fun kv=>decide (kv.1=k))=true
 .rw[if_pos e,if_pos e];exact r.KJ k ry
 .rw[if_neg e,if_neg e];exact Paired.snoc r ⟨rfl,ry⟩
def KV.keys{kvs:List (κ × V)}{vs:List (κ × Value)}(r:KV kvs vs):kvs.map (·.1)=vs.map (·.1):=by
 unfold KV at r
 induction r with
 |nil=>rfl
 |cons h t ih=>rw[Mb,Mb,ih,h.1]
def KV.length{kvs:List (κ × V)}{vs:List (κ × Value)}(r:KV kvs vs):kvs.length=vs.length:=Paired.length r
end
def Ca{P:Program}{w:World}{k:Key}{u:Value}(r:RelV (kV k) u):(eP P w).is k u=true:=by
 cases k with
 |inl i=>obtain ⟨t,e⟩:=(show ∃t,u=Value.int i t from r);subst e;exact yl P w i t
 |inr x=>obtain ⟨t,e⟩:=(show ∃t,u=Value.str x t from r);subst e;exact yP P w x t
def vo{P:Program}{w:World}:∀{ks:List Key}{us:List Value},Vals (ks.map kV) us->ItemsAre (eP P w) ks us
 |[],_,r=>by rw[OT] at r;cases r;exact .nil
 |k::ks,_,r=>by
  rw[Mb] at r
  cases r with
  |cons h t=>exact .cons (Ca h) (vo t)
abbrev KT(H:Hp):List (List Key × V)->List (List Key × Addr × Value)->Prop:=Paired fun p q=>p.1=q.1/\H q.2.1=some (.tup (p.1.map kV))/\RelV p.2 q.2.2
def KT.val{H:Hp}{kvs:List (List Key × V)}{xs:List (List Key × Addr × Value)}(r:KT H kvs xs)(k:List Key):nc (j6 kvs k) ((atKey xs k).map (·.2)):=by
 induction r with
 |nil=>exact True.intro
 |@cons p q ps qs h t ih =>
  obtain ⟨h1,_,h2⟩:=h
  by_cases e:p.1=k
  .have e':q.1=k:=h1.symm.trans e
   have b:atKey (q::qs) k=some q.2:=by simp [atKey,Oz,e']
   rw[mB e,b];exact h2
  .have e':¬ q.1=k:=fun z=>e (h1.trans z)
   have b:atKey (q::qs) k=atKey qs k:=by simp [atKey,Oz,e']
   rw[kR e,b];exact ih
def KT.KJ{H:Hp}{kvs:List (List Key × V)}{xs:List (List Key × Addr × Value)}(r:KT H kvs xs)(k:List Key){y:V}{u:Value}(ry:RelV y u) :
  KT H (kvs.map fun kv=>if kv.1=k then (kv.1,y) else kv) (xs.map (putAt k u)):=by
 induction r with
 |nil=>exact .nil
 |@cons p q ps qs h t ih =>
  rw[Mb,Mb]
  refine .cons ?_ ih
  obtain ⟨h1,h2,h3⟩:=h
  unfold putAt
  by_cases e:p.1=k
  .rw[if_pos e,if_pos (h1.symm.trans e)];exact⟨h1,h2,ry⟩
  .rw[if_neg e,if_neg (fun z=>e (h1.trans z))];exact⟨h1,h2,h3⟩
def KT.put{H:Hp}{kvs:List (List Key × V)}{xs:List (List Key × Addr × Value)}(r:KT H kvs xs)(k:List Key){b:Addr}{y:V}{u:Value}(hb:H b=some (.tup (k.map kV)))(ry:RelV y u) :
  KT H (putK kvs k y) (storedH xs k b u):=by
 have e:(kvs.any fun kv=>decide (kv.1=k))=(atKey xs k).isSome:=by
  rw[sf,(r.val k).qj,Option.isSome_map]
 unfold putK storedH
 rw[e]
 by_cases q:(atKey xs k).isSome=true
 .rw[if_pos q,if_pos q];exact r.KJ k ry
 .rw[if_neg q,if_neg q];exact Paired.snoc r ⟨rfl,hb,ry⟩
def KT.keeps{H H':Hp}{kvs:List (List Key × V)}{xs:List (List Key × Addr × Value)}(r:KT H kvs xs)(ht:∀b ys,H b=some (.tup ys)->H' b=some (.tup ys)):KT H' kvs xs :=
 Paired.KI r fun _ _ z=>⟨z.1,ht _ _ z.2.1,z.2.2⟩
section
variable {P:Program}{w:World}{H:Hp}{h:Heap}{a:Addr}
def Jc{u:HO}(ok:HOk P w H h)(e:Rd H a u):cB P w H h a u:=e.ok ok
def A6{kvs:List (Key × V)}(ok:HOk P w H h)(e:Rd H a (.dK kvs)):kvs.length<=sizeLine/\(a == sysModules)=false/\∃vs,KV kvs vs/\h.DictOf (eP P w) a vs :=
 show cB P w H h a (.dK kvs) from Jc ok e
def IL{kvs:List (Key × V)}(ok:HOk P w H h)(e:H a=some (.dK kvs)):kvs.length<=sizeLine/\(a == sysModules)=false/\∃vs,KV kvs vs/\h.DictOf (eP P w) a vs:=A6 ok (.inl e)
def wY{ks:List Key}(ok:HOk P w H h)(e:H a=some (.tup (ks.map kV))):(tupleKind (eP P w)).is h ks a:=by
 obtain ⟨_,ML,r,o,h1,h2,n,h3⟩:=(show cB P w H h a (.tup (ks.map kV)) from ok a _ e)
 exact⟨o,ML.toArray,n,h1,h2,h3,by simpa using vo r⟩
def BM{kvs:List (List Key × V)}(ok:HOk P w H h)(e:Rd H a (.dT kvs)):kvs.length<=sizeLine/\(a == sysModules)=false /\
  ∃xs,KT H kvs xs/\h.DictOfH (tupleKind (eP P w)) a xs:=by
 obtain ⟨z,y,xs,r,o,es,ep,h1,h2,h3,h4,h5⟩:=(show cB P w H h a (.dT kvs) from Jc ok e)
 refine⟨z,y,xs,r,o,es,ep,h1,h2,h3,h4,fun x hx=>?_,h5⟩
 have all:∀{l:List (List Key × V)}{m:List (List Key × Addr × Value)},KT H l m->∀x∈m,(tupleKind (eP P w)).is h x.1 x.2.1:=by
  intro l m q
  induction q with
  |nil=>intro x hx;exact nomatch hx
  |@cons p q ps qs hq t ih =>
   intro x hx
   rcases L8.mp hx with e|hx
   .subst e
    exact wY ok (by rw[<- hq.1];exact hq.2.1)
   .exact ih x hx
 exact all r x hx
def LM{kvs:List (List Key × V)}(ok:HOk P w H h)(e:H a=some (.dT kvs)):kvs.length<=sizeLine/\(a == sysModules)=false /\
  ∃xs,KT H kvs xs/\h.DictOfH (tupleKind (eP P w)) a xs:=BM ok (.inl e)
end
def xf(H:Hp)(a:Addr)(y:V)(r:Option V):Prop :=
 (∃kvs k,Rd H a (.dK kvs)/\y=kV k/\r=j6 kvs k)\/∃kvs k b,Rd H a (.dT kvs)/\y=.ref b/\H b=some (.tup (k.map kV))/\r=j6 kvs k
def Dk(H:Hp)(a:Addr)(y v:V)(H':Hp):Prop :=
 (∃kvs k,H a=some (.dK kvs)/\y=kV k/\kvs.length<sizeLine/\H'=upd H a (.dK (putK kvs k v))) \/
 ∃kvs k b,H a=some (.dT kvs)/\y=.ref b/\H b=some (.tup (k.map kV))/\kvs.length<sizeLine/\H'=upd H a (.dT (putK kvs k v))
def xf.k{H:Hp}{a:Addr}{kvs:List (Key × V)}{k:Key}(e:H a=some (.dK kvs)):xf H a (kV k) (j6 kvs k):=.inl ⟨kvs,k,.inl e,rfl,rfl⟩
def Dk.k{H:Hp}{a:Addr}{kvs:List (Key × V)}{k:Key}{v:V}(e:H a=some (.dK kvs))(hl:kvs.length<sizeLine):Dk H a (kV k) v (upd H a (.dK (putK kvs k v))):=.inl ⟨kvs,k,e,rfl,hl,rfl⟩
section
variable {X:Cx}{pins:List (Addr × Obj)}{σ:St}{H:Hp}{s:Shared}{a:Addr}{y v:V}{u r:Value}{o:Option V}{A:Around}{E:Value->Shared->Prop}
def Inv.big(I:Inv X pins σ H s):sysModules<s.heap.objs.size:=by
 have h:mainGlobals<s.heap.objs.size:=(I.mod.glob.keeps I.bk).lt
 exact Nat.lt_trans (by decide) h
def CS{Q:Value->Shared->Prop}(hu:A.units+1<cLine)(I:Inv X pins σ H s)(g:xf H a y (some v))(ry:RelV y u)(h:∀w' s',Inv X pins σ H s'->RelV v w'->Q w' s') :
  wpAny (model X.prog X.w) A (getItem (.ref a) u) Q E s:=by
 rcases g with ⟨kvs,k,e,ey,l⟩|⟨kvs,k,b,e,ey,eb,l⟩
 .subst ey
  obtain ⟨z,hd,vs,RN,dd⟩:=A6 I.hok e
  obtain ⟨w',hw,QK⟩:=nc.some_of (v:=v) (o:=valueAt vs k) (by rw[l];exact RN.val k)
  exact wpAny_getItem_of (Ca ry) dd.mapOf hw (h w' _ (I.tok _) QK)
 .subst ey
  cases (show u=Value.ref b from ry)
  obtain ⟨z,hd,xs,RN,dd⟩:=BM I.hok e
  obtain ⟨w',hw,QK⟩:=nc.some_of (v:=v) (o:=(atKey xs k).map (·.2)) (by rw[l];exact RN.val k)
  obtain ⟨p,hp,Up⟩:=Option.map_eq_some_iff.mp hw
  refine wpAny_getItem_heap (tupleKind_room_in1 hu) (wY I.hok eb) dd hp ?_
  rw[Up]
  exact h w' _ (I.tok _) QK
def Ik{Q:Value->Shared->Prop}(hu:A.units+1<cLine)(I:Inv X pins σ H s)(g:xf H a y o)(ry:RelV y u)(h:∀s',Inv X pins σ H s'->Q (.bool (!o.isSome)) s') :
  wpAny (model X.prog X.w) A (compareOp .NotIn u (.ref a)) Q E s:=by
 rcases g with ⟨kvs,k,e,ey,l⟩|⟨kvs,k,b,e,ey,eb,l⟩
 .subst ey
  obtain ⟨z,hd,vs,RN,dd⟩:=A6 I.hok e
  refine wpAny_notIn_of (Ca ry) hd dd.mapOf ?_
  rw[<- (RN.val k).qj,<- l]
  exact h _ (I.tok _)
 .subst ey
  cases (show u=Value.ref b from ry)
  obtain ⟨z,hd,xs,RN,dd⟩:=BM I.hok e
  refine wpAny_notIn_heap (tupleKind_room_in1 hu) (wY I.hok eb) hd dd ?_
  have q:=(RN.val k).qj
  rw[Option.isSome_map] at q
  rw[<- q,<- l]
  exact h _ (I.tok _)
def wV{h':Heap}{t':Nat}{ob:HO}(I:Inv X pins σ H s)(mu:Mut (H a))(hs:Heap.SameBut a s.heap h')(he:∃q,h'.get? a=some q)(Np:cB X.prog X.w (upd H a ob) h' a ob) :
  Inv X pins σ (upd H a ob) { s with heap:=h',toks:=t' } :=
 I.write (x:=a) (e:=a) mu (.inl rfl) (fun b q hb z=>(hs.2 b hb).trans z) he Np
def Kp{P:Program}{w:World}{H':Hp}{h':Heap}{kvs:List (Key × V)}{vs:List (Key × Value)}(z:kvs.length<=sizeLine)(hd:(a == sysModules)=false)(RN:KV kvs vs)(dd:h'.DictOf (eP P w) a vs) :
  cB P w H' h' a (.dK kvs):=⟨z,hd,vs,RN,dd⟩
def Dh{H':Hp}{Q:Unit->Shared->Prop}(hu:A.units+1<cLine)(I:Inv X pins σ H s)(g:Dk H a y v H')(ry:RelV y u)(rv:RelV v r)(h:∀s',Inv X pins σ H' s'->Q () s') :
  wpAny (model X.prog X.w) A (setItem (.ref a) u r) Q E s:=by
 rcases g with ⟨kvs,k,e,ey,l,eH⟩|⟨kvs,k,b,e,ey,eb,l,eH⟩
 .subst ey eH
  obtain ⟨z,hd,vs,RN,dd⟩:=IL I.hok e
  have hz:vs.length<=sizeLine:=by rw[<- RN.length];exact z
  have hl:(putK kvs k v).length<=sizeLine:=by have:=qr kvs k v;omega
  refine wpAny_setItem_pairs (hsz:=hz) (Ca ry) dd fun h' Tr hs=>h _ ?_
  have he:∃q,h'.get? a=some q:=let ⟨q,_,_,hq,_⟩:=Tr;⟨q,hq⟩
  exact wV I (by rw[e];exact True.intro) hs he (Kp hl hd (RN.put k rv) Tr)
 .subst ey eH
  cases (show u=Value.ref b from ry)
  obtain ⟨z,hd,xs,RN,dd⟩:=LM I.hok e
  have hz:xs.length<=sizeLine:=by rw[<- Paired.length RN];exact z
  have hl:(putK kvs k v).length<=sizeLine:=by have:=qr kvs k v;omega
  refine wpAny_setItem_heap (hsz:=hz) (tupleKind_room_in1 hu) (wY I.hok eb) dd fun h' Tr hs=>h _ ?_
  obtain ⟨q,es,ep,hq,h2,h3,h4,_,h5⟩:=Tr
  refine wV I (by rw[e];exact True.intro) hs ⟨q,hq⟩ ⟨hl,hd,_,(RN.put k eb rv).keeps fun c ys ec=>?_,q,es,ep,hq,h2,h3,h4,h5⟩
  rw[aF (LH ec e (fun z=>nomatch z))]
  exact ec
end
section
end
def Lr(i:Expr):Prop:=∀ov iv,subscripted i false ov iv=operate [ov,iv] (getItem ov iv)
def HG{prog:Program}{w:World}{A:Around}{E:Value->Shared->Prop}{s:Shared}{env:Env}{N4 slice:Expr}{MH:Pos}{T id:String}{Q:Value->Shared->Prop}
  (hl:typeLookup (.type T) "__getitem__" = pure (some (.builtin id))) (hs:Lr slice)
  (h:wpAny (model prog w) A (eval N4 env) (fun o s₁=>wpAny (model prog w) A (eval slice env) (fun i PQ=>PQ.TypeIs o T/\wpAny (model prog w) A (getItem o i) Q E PQ) E s₁) E s) :
  wpAny (model prog w) A (eval (.Subscript N4 slice MH) env) Q E s:=by
 refine Subscript_ (wpAny_mono h (fun o s₁ Qd=>wpAny_mono Qd (fun i PQ Qs=>?_) fun _ _ x=>x) fun _ _ x=>x)
 obtain ⟨hT,Qs⟩:=Qs
 unfold subscriptTail
 refine wpAny_bind ?_
 rw[getitemInPython_of_ne hT.not_modules]
 refine wpAny_bind (wpAny_specialOf hT hl ?_)
 have Pz:wpAny (model prog w) A (subscripted slice false o i) (fun r QF=>wpAny (model prog w) A (letTemporaryGo N4 o r >>= fun _=>pure r) Q E QF) E PQ:=by
  rw[hs o i]
  exact wpAny_operating (wpAny_mono Qs (fun r QF TF=>wpAny_bind (wpAny_letTemporaryGo (wpAny_pure TF))) fun _ _ x=>x)
 first
  |exact wpAny_pure (wpAny_bind Pz)
  |exact wpAny_bind (wpAny_pure (wpAny_bind Pz))
  |exact wpAny_bind Pz
def yW{X:Cx}{pins:List (Addr × Obj)}{σ:St}{H:Hp}{s:Shared}{a:Addr}{y:V}{o:Option V}(I:Inv X pins σ H s)(g:xf H a y o):s.TypeIs (.ref a) "dict":=by
 rcases g with ⟨kvs,k,e,_,_⟩|⟨kvs,k,b,e,_,_,_⟩
 .obtain ⟨_,_,vs,_,dd⟩:=A6 I.hok e
  exact dd.typeIs
 .obtain ⟨_,_,xs,_,dd⟩:=BM I.hok e
  exact dd.typeIs
def IY(td ty:TE):TE:=fun σ H Q=>td σ H fun x H1=>ty σ H1 fun y H2=>∃a v,x=.ref a/\xf H2 a y (some v)/\Q v H2
def BX(ty td:TE):TE:=fun σ H Q=>ty σ H fun y H1=>td σ H1 fun x H2=>∃a o,x=.ref a/\xf H2 a y o/\Q (.bl (!o.isSome)) H2
def Eu(td ty tv:TE):TS:=fun D σ H=>tv σ H fun v H1=>td σ H1 fun x H2=>ty σ H2 fun y H3=>∃a H4,x=.ref a/\Dk H3 a y v H4/\D.nx σ H4
section
variable {X:Cx}{o i N4:Expr}{MH Pd:Pos}{td ty tv:TE}
def Bu(hu:X.A.units+1<cLine)(ho:PE X o td)(hi:PE X i ty)(hs:Lr i):PE X (.Subscript o i MH) (IY td ty):=by
 intro pins s σ H Q I h
 refine HG PySem.F.slot_dict_getitem.lookup hs (thn (ho pins s σ H _ I h) fun u s1 ⟨x,H1,I1,rx,q1⟩=>thn (hi pins s1 σ H1 _ I1 q1) fun iv s2 ⟨y,H2,I2,ry,a,v,ex,g,q2⟩=>?_)
 subst ex
 obtain rfl:u=Value.ref a:=rx
 exact⟨yW I2 g,CS hu I2 g ry fun w' s3 I3 QK=>⟨v,H2,I3,QK,q2⟩⟩
def C4(hu:X.A.units+1<cLine)(hi:PE X i ty)(ho:PE X o td):PC X .NotIn i o (BX ty td):=by
 intro pins s σ H Q I h
 refine thn (hi pins s σ H _ I h) fun iv s1 ⟨y,H1,I1,ry,q1⟩=>thn (ho pins s1 σ H1 _ I1 q1) fun u s2 ⟨x,H2,I2,rx,a,ov,ex,g,q2⟩=>?_
 subst ex
 obtain rfl:u=Value.ref a:=rx
 exact Ik hu I2 g ry fun s3 I3=>⟨.bl (!ov.isSome),H2,I3,rfl,q2⟩
def BB(hu:X.A.units+1<cLine)(ho:PE X o td)(hi:PE X i ty)(hv:PE X N4 tv)(hs:swapsWith N4 (some (.Subscript o i Pd)) MH.line X.env=pure false) :
  PS X (.Assign [.Subscript o i Pd] N4 MH) (Eu td ty tv):=by
 intro pins s σ H D I h
 refine wpAny_Assign_Subscript (thn (hv pins s σ H _ I h) fun r s1 ⟨v,H1,I1,rv,q1⟩=>thn (ho pins s1 σ H1 _ I1 q1) fun u s2 ⟨x,H2,I2,rx,q2⟩=>thn (hi pins s2 σ H2 _ I2 q2) fun iv s3 ⟨y,H3,I3,ry,a,H4,ex,g,q3⟩=>?_) hs
 subst ex
 obtain rfl:u=Value.ref a:=rx
 exact Dh hu I3 g ry rv fun s4 I4=>⟨σ,H4,I4,q3⟩
end
def Gj{P:Program}{w:World}{H:Hp}(h:Heap)(hb:sysModules<h.objs.size):cB P w H (h.push { cls:=.type "dict",data:=.dict #[] }) h.objs.size (.dK []) :=
 ⟨NG _,beq_eq_false_iff_ne.mpr (M0 (MG hb)),[],.nil,Heap.DictOf.new h⟩
def GQ:TE:=fun _ H Q=>∀p,H p=none->Q (.ref p) (upd H p (.dK []))
section
variable {X:Cx}{MH:Pos}
def zd:PE X (.Dict [] [] MH) GQ:=fun pins s σ H Q I h =>
 wpAny_Dict_empty ⟨.ref s.heap.objs.size,_,I.laid (a:=s.heap.objs.size) (o:=.dK []) (t':=s.toks) (fun _ _ q=>Heap.get?_push_of_some _ q) (Mi _) (Gj s.heap I.big),rfl,h _ (I.hok.fresh (Mi _))⟩
end
section
end
section
end
section
end
section
end
end L2
namespace L3
open PySem L2
def ST0(K:PySem.W.Frag)(t:TS)(Γ Γn:List Nat)(d:DS):Prop :=
 ∀⦃B0:Hp⦄ ⦃Dn:Ends⦄ ⦃E:cf⦄ ⦃fps:Nat->List Addr⦄ ⦃δ:Dl⦄ ⦃σ:St⦄ ⦃H:Hp⦄,(∀{fps δ H},Ok K B0 Γn fps δ σ H->E.nx δ->Dn.nx σ H)->Ok K B0 Γ fps δ σ H->d E δ->t Dn σ H
section
variable {K:PySem.W.Frag}{ρ:Bool}{Γr Γl Γ Γn:List Nat}{t u:TS}{tb:TE}{dx:DE}{d e:DS}
variable {B0:Hp}{fps:Nat->List Addr}{δ:Dl}{σ:St}{H H':Hp}
def ST0.st(h:ST0 K t Γ Γn d):ST K ρ Γr Γl t Γ Γn d:=fun _ _ _ _ _ _ _ k o q=>h (fun o' z=>k.nx o' z) o q
def kN(δ:Dl)(i:Nat)(P:Addr->D->Prop):Prop:=match δ[i]? with|some (some (.pin a d))=>P a d|_=>False
def ju{i:Nat}{P:Addr->D->Prop}(h:kN δ i P):∃a d,δ[i]?=some (some (.pin a d))/\P a d:=by
 unfold kN at h;split at h
 .exact⟨_,_,by assumption,h⟩
 .exact h.elim
def Fo{i:Nat}{P:Addr->D->Prop}{a:Addr}{x:D}(e:δ[i]?=some (some (.pin a x)))(h:P a x):kN δ i P:=by unfold kN;rw[e];exact h
def Ok.Az(o:Ok K B0 Γ fps δ σ H){i:Nat}{x y:D}(e:δ[i]?=some (some x))(h:∀v,σ[i]?=some (some v)->Rf K H x v (fps i)->Rf K H y v (fps i)):Ok K B0 Γ fps (δ.set i (some y)) σ H:=by
 have hl:i<δ.length:=(L7.mp e).1
 refine⟨by rw[MQ];exact o.len,o.b0,fun j d q=>?_,fun j q=>?_,o.own,o.dj⟩
 .by_cases hj:j=i
  .subst hj
   rw[MC hl] at q;cases q
   obtain ⟨v,h1,h2⟩:=o.val j x e
   exact⟨v,h1,h v h1 h2⟩
  .rw[Ml (M0 hj)] at q
   exact o.val j d q
 .by_cases hj:j=i
  .subst hj
   exact absurd (MC hl) (q y)
  .exact o.non j fun d z=>q d (by rw[Ml (M0 hj)];exact z)
def Hr(i:Nat)(d:DS)(E:cf)(δ:Dl):Prop:=kN δ i fun a x=>d { E with nx:=fun δ'=>lU i δ' fun x'=>E.nx (δ'.set i (some (.pin a x'))) } (δ.set i (some x))
def GV(i:Nat)(h:ST0 K t Γ Γn d):ST0 K t Γ Γn (Hr i d):=by
 intro B0 Dn E fps δ σ H k o q
 obtain ⟨a,x,e,q⟩:=ju q
 obtain ⟨v,h1,h2⟩:=o.val i _ e
 obtain rfl:v=.ref a:=h2.1
 have o1:Ok K B0 Γ fps (δ.set i (some x)) σ H:=o.Az e fun _ _ z=>z.2
 refine h (E:={ E with nx:=fun δ'=>lU i δ' fun x'=>E.nx (δ'.set i (some (.pin a x'))) }) (fun {R5 Ts H2} o2 z=>?_) o1 q
 obtain ⟨x',e2,z⟩:=j5 z
 exact k (o2.Az (y:=.pin a x') e2 fun v hv r=>⟨by rw[h1] at hv;cases hv;rfl,r⟩) z
def Kj(i:Nat)(h:ST0 K t Γ Γn d):ST K ρ Γr Γl t Γ Γn (Hr i d):=(GV i h).st
def DM(i:Nat)(δ:Dl)(P:DK):Prop:=kN δ i fun _ x=>P x
def oF(i:Nat):ER K Γ (eJ i) (DM i):=⟨fun δ P P' k h=>by obtain ⟨a,x,e,z⟩:=ju h;exact Fo e (k _ z),fun {B0 fps δ σ H Q} o q=>by
 obtain ⟨a,x,e,q⟩:=ju q
 obtain ⟨v,e1,r⟩:=o.val i _ e
 exact⟨v,e1,q v H (Same.refl H) ⟨_,r.2⟩⟩⟩
def D.isRef:D->Bool|.lst _=>true|.dic _=>true|.pin _ _=>true|.ins _ _ _=>true|_=>false
def Rf.isRef{x:D}{v:V}{fp:List Addr}(h:Rf K H x v fp)(e:x.isRef=true):∃a,v=.ref a:=by
 cases x with
 |lst ds=>obtain ⟨a,xs,fq,rfl,_⟩:=h;exact⟨a,rfl⟩
 |dic ds=>obtain ⟨a,rfl,_⟩:=h;exact⟨a,rfl⟩
 |pin a d=>exact⟨a,h.1⟩
 |ins C ns ds=>obtain ⟨a,dx,xs,fq,rfl,_⟩:=h;exact⟨a,rfl⟩
 |_=>cases e
abbrev DSI:=List D->(D->D->Prop)->Prop
def GL(S:DSI):Prop:=∀xs (P P':D->D->Prop),(∀r x,P r x->P' r x)->S xs P->S xs P'
def Gf(K:PySem.W.Frag)(p:Nat)(vs:List V)(B:Hp)(Q:VK)(r x':D):Prop :=
 ∀w H' fp' fpw v,Same B H'->vs[p]?=some v->Rf K H' x' v fp'->fp'.Nodup->(∀b∈fp',B b=none/\Mu H' b)->Rf K H' r w fpw->fpw.Nodup->(∀b∈fpw,B b=none/\Mu H' b/\b∉fp')->Q w H'
def spI(K:PySem.W.Frag)(p:Nat)(S:DSI):Sp:=fun vs H Q _=>∃B fv ds,Ok K B [p] fv (ds.map some) (vs.map some) H/\(∃a,vs[p]?=some (.ref a))/\S ds (Gf K p vs B Q)
def Ia{p:Nat}{S:DSI}{n:Nat}(hS:∀ds P,S ds P->ds.length=n){vs:List V}{H:Hp}{Q:VK}{E:XK}(h:spI K p S vs H Q E):vs.length=n:=by
 obtain ⟨B,fv,ds,o,_,h⟩:=h
 have:=o.len
 rw[ox,ox] at this
 rw[this];exact hS _ _ h
abbrev IP(p:Nat)(a:Addr)(P:D->D->Prop):cf:=⟨fun δ=>kN δ p fun a' x=>a'=a/\P .non x,fun r δ=>kN δ p fun a' x=>a'=a/\P r x,fun _=>False,fun _=>False⟩
def CY{p:Nat}{N:List Str}{ds:List D}{vs:List V}{fv:Nat->List Addr}{a:Addr}(o:Ok K B0 [p] fv (ds.map some) (vs.map some) H)(ha:vs[p]?=some (.ref a)){x:D}(hx:ds[p]?=some x) :
  Ok K B0 [p] fv (aL N (ds.set p (.pin a x))) (L2.start N vs) H:=by
 have hl:vs.length=ds.length:=by have:=o.len;rwa [ox,ox] at this
 have hp:p<ds.length:=(L7.mp hx).1
 have o1:Ok K B0 [p] fv ((ds.map some).set p (some (.pin a x))) (vs.map some) H:=o.Az (x:=x) (by rw[L9,hx];rfl) fun v hv r=>⟨by rw[L9,ha] at hv;cases hv;rfl,r⟩
 have e:(ds.map some).set p (some (.pin a x))=(ds.set p (.pin a x)).map some:=by rw[Pn]
 rw[e] at o1
 have hl1:(ds.set p (.pin a x)).length=ds.length:=MQ
 generalize ds.set p (.pin a x)=ds1 at *
 unfold aL L2.start
 refine⟨by rw[Mx,Mx,ox,ox,Mw,Mw];omega,o1.b0,fun i d q=>?_,fun i q=>?_,o1.own,o1.dj⟩
 .by_cases hi:i<ds1.length
  .rw[Mt (by simpa using hi)] at q
   rw[Mt (by rw[ox];omega)]
   exact o1.val i d q
  .rw[MA (by simpa using hi),MT] at q
   split at q<;>cases q
 .refine o1.non i fun d z=>q d ?_
  have:i<ds1.length:=by simpa using (L7.mp z).1
  rw[Mt (by simpa using this)]
  exact z
def HD{N:List Str}{p:Nat}{S:DSI}(hs:ST K true [p] [] t [p] Γn d)(hd:∀ds P a x,S ds P->ds[p]?=some x->d (IP p a P) (aL N (ds.set p (.pin a x))))(hΓ:p∈Γn:=by decide)(hS:∀ds P,S ds P->p<ds.length) :
  ∀{vs H Q E},spI K p S vs H Q E->t { nx:=fun _ H'=>Q .non H',rt:=Q } (L2.start N vs) H:=by
 rintro vs H Q E ⟨B,fv,ds,o,⟨a,ha⟩,h⟩
 have NZ:=hS _ _ h
 obtain ⟨x,hx⟩:∃x,ds[p]?=some x:=⟨_,dz NZ⟩
 have Pz:∀{Γ' fps δ σ H' r w fpw},p∈Γ'->Ok K B Γ' fps δ σ H'->Rf K H' r w fpw->fpw.Nodup->(∀b∈fpw,B b=none/\Mu H' b/\b∉fps p)->(kN δ p fun a' x=>a'=a/\Gf K p vs B Q r x)->Q w H':=by
  intro Γ' fps δ σ H' r w fpw hp o' rr nd fr z
  obtain ⟨a',x',e,ea,z2⟩:=ju z
  subst ea
  obtain ⟨v,h1,h2⟩:=o'.val p _ e
  obtain rfl:v=.ref a':=h2.1
  exact z2 w H' (fps p) fpw (.ref a') o'.b0 ha h2.2 (o'.own p hp).1 (fun b hb=>(o'.own p hp).2 b hb) rr nd fr
 refine hs (E:=IP p a (Gf K p vs B Q)) ⟨fun o' z=>?_,fun _ (z:False)=>z.elim,fun _ (z:False)=>z.elim,fun o' r i z=>?_⟩ (CY o ha hx) (hd ds _ a x h hx)
 .exact Pz (r:=.non) (w:=.non) (fpw:=[]) hΓ o' ⟨rfl,rfl⟩ Nq (fun b hb=>(nomatch hb)) z
 .exact Pz (Gc.mpr rfl) o' r (i rfl).nd (fun b hb=>⟨(i rfl).nw b hb,(i rfl).mu b hb,(i rfl).dj p (Gc.mpr rfl) b hb⟩) z
def Ok.less(o:Ok K B0 Γ fps δ σ H){i:Nat}(hi:i∈Γ):Same B0 (fun b=>if b∈fps i then none else H b)/\Same (fun b=>if b∈fps i then none else H b) H:=by
 have key:∀b u,B0 b=some u->b∉fps i:=fun b u e hb=>by
  have:=((o.own i hi).2 b hb).1
  rw[e] at this;cases this
 refine⟨⟨fun b u e n=>?_,fun b ps e=>?_,fun P t=>?_⟩,Same.all fun b u e=>?_⟩
 .show (if _ then _ else _)=_
  rw[if_neg (key b u e)]
  exact o.b0.st b u e n
 .obtain ⟨ps',z⟩:=o.b0.tb b ps e
  refine⟨ps',?_⟩
  show (if _ then _ else _)=_
  rw[if_neg (key b _ e)];exact z
 .obtain ⟨W6,e0,_⟩:=id t
  obtain ⟨ps,e,g1,g2⟩:=o.b0.ti P t
  refine⟨ps,?_,g1,fun MH cv z=>?_⟩
  .show (if _ then _ else _)=_
   rw[if_neg (key P _ e0)];exact e
  .obtain ⟨c,z1,z2⟩:=g2 MH cv z
   refine⟨c,z1,?_⟩
   show (if _ then _ else _)=_
   rw[if_neg (fun hc=>xo z2 ((o.own i hi).2 c hc).2)];exact z2
 .by_cases z:b∈fps i
  .simp only[if_pos z] at e;cases e
  .simp only[if_neg z] at e;exact e
end
end L3
namespace L2
open PySem PySem.Spec PyProof.Rows
section
variable {X:Cx}
def FY(K:PySem.W.Frag):V->List V->Hp->VK->Prop:=fun x vs H Q=>∃(l:Addr) (xs:List V) (y:V) (j:Nat),x=.ref l/\vs=[y]/\H l=some (.lst xs)/\ix y=true/\xs.all ix=true/\(∃z,xs[j]?=some z/\eqV z y=true)/\(∀m z,m<j->xs[m]?=some z->eqV z y=false)/\Q (.int j) H
def Ew:MtM X "list.index" (FY X.K):=by
 intro pins s σ H x vs v us Q I rx rv h
 obtain ⟨l,xs,y,j,rfl,rfl,hH,fy,fs,⟨z,hz,ez⟩,hb,q⟩:=h
 cases rx
 obtain ⟨u,rfl,ru⟩:=vals1 rv
 obtain ⟨hs,ML,n,r,hl,e⟩:=I.Fx hH
 have hj:j<xs.length:=(L7.mp hz).1
 have key:∀m (hm:m<ML.toArray.size) w,xs[m]?=some w->eqU y ML.toArray[m]=eqV w y:=fun m hm w hw=>by
  obtain ⟨u',Qk,QK⟩:=r.get hw
  have fw:ix w=true:=MP.mp fs w (MN hw)
  have:ML.toArray[m]=u':=by
   have:=(L7.mp Qk).2
   simpa using this
  rw[this]
  exact zX QK fw
 have hsz:ML.toArray.size=xs.length:=by simp [hl]
 refine call_meets F.slot_list_index ⟨_,e,rfl⟩ F.entry_list_index (F.args_list_index_2 _ _) (SeqAt.list_indexAt l ML.toArray n none #[] u (eqU y) j (by omega) ?_ ?_ (fun m hm hmj=>?_)) ⟨e,fun w hw=>o8 ru fy r fs w (by simpa using hw),?_⟩
 .have:sizeLine<2 ^ 63 - 1:=by decide
  omega
 .rw[key j (by omega) z hz];exact ez
 .have hm':m<xs.length:=by omega
  rw[key m hm _ (dz hm')]
  exact hb m _ hmj (dz hm')
 .exact⟨.int j,H,I.tok _,⟨_,rfl⟩,q⟩
end
end L2
namespace L2
open PySem PySem.Spec PyProof.Rows
section
variable {X:Cx}{K:PySem.W.Frag}
def pD(hK:X.K=K):iZ X (.builtin "sorted") (fun xs H Q=>∃(a:Addr) (ns:List Int),xs=[.ref a]/\SqL K H a (ns.map V.int)/\ns.length<64 /\
  ∀(l:Addr) (ms:List Int),H l=none->ms.Perm ns->ms.Pairwise (·<=·)->Q (.ref l) (upd H l (.lst (ms.map V.int)))):=by
 subst hK
 intro pins s σ H xs us Q I r h
 obtain ⟨a,ns,rfl,hS,hz,q⟩:=h
 obtain ⟨u,rfl,ru⟩:=vals1 r
 obtain rfl:u=Value.ref a:=ru
 obtain ⟨ML,rv,pl,_⟩:=I.list hS
 have hl:=rv.length
 rw[ox] at hl
 refine sorted_ints pl.isList (kO rv) (by omega) fun out ms a1 a2 a3=>?_
 obtain ⟨n,he⟩:=sortedAll_at s.heap ML out
 have hn:H (s.heap.objs.size+1)=none:=I.hok.fresh (Nt _)
 have Y5:=a2.length_eq
 refine⟨.ref (s.heap.objs.size+1),_,I.laid (t':=s.toks) (o:=.lst (ms.map V.int)) (fun b o e=>sortedAll_old e) (Nt _) ⟨?_,out.toList,n,hV a1,?_⟩,rfl,q _ ms hn a2 a3⟩
 .rw[ox];exact small (by omega)
 .exact he
end
end L2
namespace L2
open PySem PySem.Spec PyProof.Rows
end L2
namespace L3
open PySem L2
section
variable {K:PySem.W.Frag}{Γ:List Nat}{u:TS}{ta td ty tv:TE}{da dd dk dv:DE}{d e:DS}
def ofV:V->D|.non=>.non|.bl b=>.bl b|.int i=>.int i|.str x=>.str x|_=>.non
def Rf.ofV{H:Hp}{v:V}(h:ix v=true):Rf K H (ofV v) v []:=by
 cases v<;>first|exact⟨rfl,rfl⟩|cases h
def Bj:EM K Γ [] GQ (vC (.dic [])):=⟨fun _ _ _ k h=>k _ h,fun {B0 fps δ σ H Q} o q p hp=>q (.ref p) _ [p] (Same.jn hp) ⟨p,rfl,aw,fun _ h=>(nomatch h),rfl⟩
 ⟨by simp,fun a ha=>by cases Gc.mp ha;exact .inr (.inl ⟨_,aw⟩),fun a ha=>by cases Gc.mp ha;exact .inl hp⟩⟩
def t8(x:D)(P:List (Key × V)->Prop):Prop:=match x with|.dic kvs=>P kvs|_=>False
def iJ{x:D}{P:List (Key × V)->Prop}(h:t8 x P):∃kvs,x=.dic kvs/\P kvs:=by
 unfold t8 at h;split at h
 .exact⟨_,rfl,h⟩
 .exact h.elim
def vd{kvs:List (Key × V)}{P:List (Key × V)->Prop}:t8 (.dic kvs) P↔P kvs:=M3
def asV(o:Option V)(P:V->Prop):Prop:=match o with|some v=>P v|none=>False
def Bm{o:Option V}{P:V->Prop}(h:asV o P):∃v,o=some v/\P v:=by
 unfold asV at h;split at h
 .exact⟨_,rfl,h⟩
 .exact h.elim
def xj{o:Option V}{v:V}{P:V->Prop}(e:o=some v)(h:P v):asV o P:=by rw[e];exact h
def Fd(dd dk:DE)(δ:Dl)(P:DK):Prop:=dd δ fun x=>dk δ fun y=>asI [y] fun n=>t8 x fun kvs=>asV (j6 kvs (.inl n)) fun v=>P (ofV v)
def EX{kvs:List (Key × V)}{k:Key}{v:V}(h:j6 kvs k=some v):∃p∈kvs,p.2=v:=by
 unfold j6 at h
 cases q:kvs.find? fun kv=>decide (kv.1=k) with
 |none=>rw[q] at h;cases h
 |some p=>rw[q] at h;cases h;exact⟨p,Oq q,rfl⟩
def Ck(hd:ER K Γ td dd)(hk:ER K Γ ty dk):ER K Γ (IY td ty) (Fd dd dk) :=
 ⟨fun δ P P' k h=>hd.mono _ _ _ (fun x z=>hk.mono _ _ _ (fun y z=>by
   obtain ⟨n,rfl,z⟩:=cY z
   obtain ⟨kvs,rfl,z⟩:=iJ z
   obtain ⟨v,e,z⟩:=Bm z
   exact xj e (k _ z)) z) h,
 fun {B0 fps δ σ H Q} o h=>hd.run o (hd.mono _ _ _ (fun x z v H1 s1 r1=>hk.run (o.same s1) (hk.mono _ _ _ (fun y z w H2 s2 r2=>by
   obtain ⟨n,rfl,z⟩:=cY z
   obtain ⟨kvs,rfl,z⟩:=iJ z
   obtain ⟨u,e,z⟩:=Bm z
   obtain ⟨fp,a,rfl,ha,hf,_⟩:=r1
   obtain ⟨p,hp,rfl⟩:=EX e
   refine⟨a,p.2,rfl,?_,z _ H2 (s1.trans s2) ⟨[],Rf.ofV (hf p hp)⟩⟩
   rw[r2.int]
   have:=xf.k (k:=Sum.inl n) (s2.st _ _ ha trivial)
   rw[e] at this
   exact this) z)) h)⟩
def KO(OK:Bool)(dk dd:DE)(δ:Dl)(P:DK):Prop:=dk δ fun y=>dd δ fun x=>asI [y] fun n=>t8 x fun kvs=>P (.bl (if OK then !(j6 kvs (.inl n)).isSome else (j6 kvs (.inl n)).isSome))
def C0(hk:ER K Γ ty dk)(hd:ER K Γ td dd):EM K Γ [] (BX ty td) (KO true dk dd) :=
 ⟨fun δ P P' k h=>hk.mono _ _ _ (fun x z=>hd.mono _ _ _ (fun y z=>by
   obtain ⟨n,rfl,z⟩:=cY z
   obtain ⟨kvs,rfl,z⟩:=iJ z
   exact k _ z) z) h,
 fun {B0 fps δ σ H Q} o h=>hk.run o (hk.mono _ _ _ (fun x z v H1 s1 r1=>hd.run (o.same s1) (hd.mono _ _ _ (fun y z w H2 s2 r2=>by
   obtain ⟨n,rfl,z⟩:=cY z
   obtain ⟨kvs,rfl,z⟩:=iJ z
   obtain ⟨fp,a,rfl,ha,hf,_⟩:=r2
   rw[r1.int]
   exact⟨a,_,rfl,xf.k (k:=Sum.inl n) ha,z _ H2 [] (s1.trans s2) ⟨rfl,rfl⟩ Nw.nil⟩) z)) h)⟩
def vE{kvs:List (Key × V)}{k:Key}{v:V}(h:∀p∈kvs,ix p.2=true)(hv:ix v=true):∀p∈putK kvs k v,ix p.2=true:=by
 intro p hp
 unfold putK at hp
 split at hp
 .obtain ⟨q,hq,rfl⟩:=Ma.mp hp
  split
  .exact hv
  .exact h q hq
 .rcases Mc.mp hp with z|z
  .exact h p z
  .cases Gc.mp z;exact hv
def ET(δ:Dl)(i:Nat)(P:List (Key × V)->Prop):Prop:=lU i δ fun x=>t8 x P
def Fm(i:Nat)(dk dv:DE)(E:cf)(δ:Dl):Prop:=dv δ fun x=>x.bg=true/\ET δ i fun kvs=>dk δ fun y=>asI [y] fun n=>kvs.length<1000/\E.nx (δ.set i (some (.dic (putK kvs (.inl n) x.toV))))
def Gq(i:Nat)(hk:ER K Γ ty dk)(hv:ER K Γ tv dv)(hi:i∈Γ:=by decide):ST0 K (Eu (eJ i) ty tv) Γ Γ (Fm i dk dv):=by
 intro B0 Dn E fps δ σ H k o h
 refine hv.run o (hv.mono _ _ _ (fun x z v H1 s1 r=>?_) h)
 obtain ⟨zs,z⟩:=z
 obtain ⟨fp,r⟩:=r
 obtain ⟨rfl,rfl⟩:=r.bg zs
 obtain ⟨d,e,z⟩:=j5 z
 obtain ⟨kvs,rfl,z⟩:=iJ z
 have o1:=o.same s1
 obtain ⟨v,h1,h2⟩:=o1.val i _ e
 obtain ⟨a,rfl,ha,hf,R1⟩:=id h2
 refine⟨.ref a,h1,hk.run o1 (hk.mono _ _ _ (fun y z w H2 s2 r2=>?_) z)⟩
 obtain ⟨n,rfl,z⟩:=cY z
 have o2:=o1.same s2
 refine⟨a,upd H2 a (.dK (putK kvs (.inl n) x.toV)),rfl,?_,k (o2.write hi (d':=.dic (putK kvs (.inl n) x.toV)) (fp':=[a]) h1 ⟨a,rfl,aw,vE hf (jv zs),rfl⟩ (by simp) (fun b hb=>?_) (fun b hb=>?_) ?_) z.2⟩
 .rw[r2.int]
  exact Dk.k (k:=Sum.inl n) (s2.st _ _ ha trivial) (pS (Ol z.1))
 .cases Gc.mp hb;exact .inr (.inl ⟨_,aw⟩)
 .cases Gc.mp hb;rw[R1];exact .inl (Gc.mpr rfl)
 .rw[R1];exact rA (Gc.mpr rfl)
def AQ(da dk:DE)(δ:Dl)(P:DK):Prop:=da δ fun x=>vv (some x) fun ds=>ds.all D.bg=true/\dk δ fun y=>y.bg=true/\∃j:Nat,(∃z,ds[j]?=some z/\eqV z.toV y.toV=true)/\(∀m z,m<j->ds[m]?=some z->eqV z.toV y.toV=false)/\P (.int j)
def Ee(ha:ER K Γ ta da)(hk:ER K Γ ty dk):EM K Γ [] (tBM K "list" (FY K) ta (gp ty m7)) (AQ da dk) :=
 ⟨fun δ P P' k h=>ha.mono _ _ _ (fun x z=>by
   obtain ⟨ds,e,z1,z⟩:=pR z
   refine yg e ⟨z1,hk.mono _ _ _ (fun y z=>?_) z⟩
   obtain ⟨z0,j,z2,z3,z4⟩:=z
   exact⟨z0,j,z2,z3,k _ z4⟩) h,
 fun {B0 fps δ σ H Q} o h=>by
  refine ha.run o (ha.mono _ _ _ (fun x z v H1 s1 r1=>?_) h)
  obtain ⟨ds,e,z1,z'⟩:=pR z
  clear z
  cases e
  obtain ⟨fp,a,xs,fq,rfl,hl,_,rs⟩:=r1
  obtain ⟨rfl,_⟩:=rs.jk z1
  refine⟨.inl ⟨rfl,_,.inl (.inl hl)⟩,hk.run (o.same s1) (hk.mono _ _ _ (fun y z w H2 s2 r2=>?_) z')⟩
  obtain ⟨z0,j,⟨u,hu,eu⟩,z3,z4⟩:=z
  obtain ⟨fp2,r2⟩:=r2
  obtain ⟨rfl,_⟩:=r2.bg z0
  refine⟨a,_,_,j,rfl,rfl,s2.st _ _ hl trivial,jv z0,?_,⟨u.toV,by rw[L9,hu];rfl,eu⟩,fun m w hm hw=>?_,z4 _ H2 [] (s1.trans s2) ⟨rfl,rfl⟩ Nw.nil⟩
  .rw[Po,MP]
   rw[MP] at z1
   exact fun y hy=>jv (z1 y hy)
  .rw[L9] at hw
   cases q:ds[m]? with
   |none=>rw[q] at hw;cases hw
   |some d=>rw[q] at hw;cases hw;exact z3 m d hm q⟩
def Bd(xs:List D)(P:DK):Prop:=match xs with|[x]=>zB x fun ns=>ns.length<64/\∀ms:List Int,ms.Perm ns->ms.Pairwise (·<=·)->P (dI ms)|_=>False
def tP{ns:List Int}{P:DK}:Bd [dI ns] P↔ns.length<64/\∀ms:List Int,ms.Perm ns->ms.Pairwise (·<=·)->P (dI ms):=jr
def GG:nA K (fun xs H Q=>∃(a:Addr) (ns:List Int),xs=[.ref a]/\SqL K H a (ns.map V.int)/\ns.length<64/\∀(l:Addr) (ms:List Int),H l=none->ms.Perm ns->ms.Pairwise (·<=·)->Q (.ref l) (upd H l (.lst (ms.map V.int)))) Bd :=
 ⟨fun xs P P' k h=>by
  unfold Bd at h ⊢
  revert h
  split
  .exact fun h=>by obtain ⟨ns,e,z⟩:=gy h;exact ot e ⟨z.1,fun ms a b=>k _ (z.2 ms a b)⟩
  .exact id,
 fun {H xs vs Q} r h=>by
  unfold Bd at h
  split at h
  .obtain ⟨v,rfl,r0⟩:=r.one
   obtain ⟨ns,e,z⟩:=gy h
   obtain ⟨a,ys,fq,rfl,hs,hr⟩:=r0.seq e
   rw[hr.yf] at hs
   exact⟨a,ns,rfl,hs,z.1,fun l ms hl hp ho=>z.2 ms hp ho _ _ [l] (Same.jn hl) (Rf.ofInts aw) (Nw.one hl aw).any⟩
  .exact h.elim⟩
def uV{ds:List D}:(D.lst ds).isRef=true:=rfl
def vL{ds:List (Key × V)}:(D.dic ds).isRef=true:=rfl
def Bc{i:Int}:ofV (.int i)=.int i:=rfl
def Fc{b:Bool}:ofV (.bl b)=.bl b:=rfl
def BU:ofV .non=.non:=rfl
def KY(xs:List D)(P:DK):Prop:=match xs with|[.dic kvs]=>P (.int kvs.length)|_=>False
def vn{kvs:List (Key × V)}{P:DK}:KY [.dic kvs] P↔P (.int kvs.length):=M3
end
end L3
namespace Mat
def va:∀{l l':List Nat},l.Nodup->(∀x∈l,x∈l')->l.length<=l'.length
 |[],_,_,_=>NG _
 |x::l,l',h,s=>by
  obtain ⟨h1,h2⟩:=Mh.mp h
  have hx:=s x Fk
  have:=va (l':=l'.erase x) h2 fun y hy=>(List.mem_erase_of_ne (fun z=>h1 (by rw[<- z];exact hy))).mpr (s y (mo _ hy))
  rw[List.length_erase_of_mem hx] at this
  have:0<l'.length:=List.length_pos_of_mem hx
  rw[L6];omega
def Ea{l:List Nat}{n:Nat}(h:l.Nodup)(hl:∀x∈l,x<n):l.length<=n:=by
 have:=va h (l':=List.range n) fun x hx=>Ms.mpr (hl x hx)
 rwa [Md] at this
end Mat
namespace Mat
end Mat
namespace Mat
end Mat
namespace L2
open PySem PySem.Spec PyProof.Rows
end L2
namespace L3
open PySem L2
section
variable {K:PySem.W.Frag}{Γ:List Nat}{d e:DS}
def Ok.K0{B0:Hp}{fps:Nat->List Addr}{δ:Dl}{σ σ':St}{H:Hp}(o:Ok K B0 Γ fps δ σ H)(j:Nat)(hj:j∉Γ)(hl:σ'.length=σ.length)(hs:∀l,l≠j->σ'[l]?=σ[l]?):Ok K B0 Γ (fun i=>if i=j then [] else fps i) (δ.set j none) σ' H:=by
 refine⟨by simp [o.len,hl],o.b0,fun i d e=>?_,fun i h=>?_,fun i hi=>?_,fun i hi k hk a ha=>?_⟩
 .by_cases h:i=j
  .subst h
   rw[M6] at e
   by_cases hl:i<δ.length
   .simp [hl] at e
   .simp [hl] at e
  .rw[Ml (M0 h)] at e
   rw[hs i h,if_neg h]
   exact o.val i d e
 .by_cases h':i=j
  .rw[if_pos h']
  .rw[if_neg h'];exact o.non i fun d z=>h d (by rw[Ml (M0 h')];exact z)
 .have h:i≠j:=fun z=>hj (by rw[<- z];exact hi)
  rw[if_neg h];exact o.own i hi
 .have h:i≠j:=fun z=>hj (by rw[<- z];exact hi)
  rw[if_neg h] at ha
  split
  .exact MF
  .exact o.dj i hi k hk a ha
end
end L3
namespace L3
open PySem L2
end L3
namespace Bir
section
variable {κ:Type}[DecidableEq κ]
end
end Bir
namespace Bir
open L3
end Bir
namespace L2
open PySem
def x9{X:Cx}{K:PySem.W.Frag}(hK:X.K=K):iZ X (.type "tuple") (fun xs H Q=>∃p ys,xs=[.ref p]/\((SqL K H p ys/\∀l,H l=none->Q (.ref l) (upd H l (.tup ys)))\/(SqT K H p ys/\Q (.ref p) H))):=by subst hK;exact uq
end L2
namespace L3
open PySem L2
section
variable {K:PySem.W.Frag}{Γ:List Nat}{u:TS}{ta ti:TE}{da di:DE}{d e:DS}
def Rfs.Iz{H:Hp}:∀{ds:List D}{vs:List V}{fp:List Addr}{i:Nat}{d:D},Rfs K H ds vs fp->fp.Nodup->ds[i]?=some d->∃v f,vs[i]?=some v/\Rf K H d v f/\(∀a∈f,a∈fp)/\f.Nodup
 |[],_,_,_,_,_,_,e=>by simp at e
 |d::ds,vs,fp,0,d',h,n,e=>by
  obtain ⟨x,r,f1,f2,rfl,rfl,h1,h2⟩:=h
  simp at e;subst e
  exact⟨x,f1,rfl,h1,fun a ha=>Mf _ ha,(Mm.mp n).1⟩
 |d::ds,vs,fp,i+1,d',h,n,e=>by
  obtain ⟨x,r,f1,f2,rfl,rfl,h1,h2⟩:=h
  obtain ⟨v,f,e1,h3,k,n'⟩:=Rfs.Iz (i:=i) h2 (Mm.mp n).2.1 (by simpa using e)
  exact⟨v,f,by simpa using e1,h3,fun a ha=>KE _ (k a ha),n'⟩
def GI{x y:D}{P:DK}(h:qe x y P):∃ds i d,x=.tup ds/\y=.int i/\atI ds i=some d/\P d:=by
 unfold qe at h
 split at h
 .split at h
  .exact⟨_,_,_,rfl,rfl,by assumption,h⟩
  .exact h.elim
 .exact h.elim
def Kx{ds:List D}{i:Int}{d:D}{P:DK}(e:atI ds i=some d)(h:P d):qe (.tup ds) (.int i) P:=by
 show (match atI ds i with|some d=>P d|none=>False)
 rw[e];exact h
def Jy(ha:EM K Γ [] ta da)(hi:ER K Γ ti di):EM K Γ [] (tOp (yM K) ta ti) (vOp qe da di) :=
 ⟨fun δ P P' k h=>ha.mono _ _ _ (fun x z=>hi.mono _ _ _ (fun y z=>by
   obtain ⟨ds,i,d,rfl,rfl,e,z1⟩:=GI z
   exact Kx e (k _ z1)) z) h,
 fun {B0 fps δ σ H Q} o h=>ha.run o (ha.mono _ _ _ (fun x z v H1 fp s1 r1 n1=>hi.run (o.same s1) (hi.mono _ _ _ (fun y z w H2 s2 r2=>by
   obtain ⟨ds,i,d,rfl,rfl,ed,z1⟩:=GI z
   obtain ⟨a,xs,rfl,ha,hr⟩:=r1
   have ei:∃j,ixN ds.length i=some j/\ds[j]?=some d:=by
    unfold atI at ed
    cases q:ixN ds.length i with
    |none=>rw[q] at ed;cases ed
    |some j=>rw[q] at ed;exact⟨j,rfl,ed⟩
   obtain ⟨j,ej,edj⟩:=ei
   obtain ⟨u,f,hu,ru,hf,hn⟩:=hr.Iz n1.nd edj
   exact⟨a,xs,i,u,rfl,r2.int,.inl (.inl (s2.st _ _ ha trivial)),by unfold atI;rw[hr.length,ej];exact hu,z1 u H2 f (s1.trans s2) (ru.same s2) ⟨hn,fun b hb=>(n1.mu b (hf b hb)).same s2,fun b hb=>n1.src b (hf b hb)⟩⟩) z)) h)⟩
def xx(xs:List D)(P:DK):Prop:=match xs with|[x]=>asL x fun ds=>ds.all D.bg=true/\P (.tup ds)|_=>False
def rY{ds:List D}{P:DK}:xx [.lst ds] P↔ds.all D.bg=true/\P (.tup ds):=M3
def Hj:nA K (fun xs H Q=>∃p ys,xs=[.ref p]/\((SqL K H p ys/\∀l,H l=none->Q (.ref l) (upd H l (.tup ys)))\/(SqT K H p ys/\Q (.ref p) H))) xx :=
 ⟨fun xs P P' k h=>by
  unfold xx at h ⊢
  revert h
  split
  .exact fun h=>by obtain ⟨ds,e,z⟩:=dQ h;exact j4 e ⟨z.1,k _ z.2⟩
  .exact id,
 fun {H xs vs Q} r h=>by
  unfold xx at h
  split at h
  .obtain ⟨v,rfl,r0⟩:=r.one
   obtain ⟨ds,e,z1,z⟩:=dQ h
   obtain ⟨a,ys,fq,rfl,hs,hr⟩:=r0.seq e
   obtain ⟨rfl,rfl⟩:=hr.jk z1
   exact⟨a,_,rfl,.inl ⟨hs,fun l hl=>z _ _ [] (Same.jn hl) ⟨l,_,rfl,aw,hr.same (Same.jn hl)⟩ Nw.nil⟩⟩
  .exact h.elim⟩
def KR(x:D)(P:List Int->Prop):Prop:=match x with|.tup ds=>(match je ds with|some ns=>P ns|none=>False)|_=>False
def BO{ns:List Int}{P:List Int->Prop}:KR (.tup (ns.map D.int)) P↔P ns:=by
 unfold KR
 show (match je (ns.map D.int) with|some ns=>P ns|none=>False)↔P ns
 rw[jL]
def Lp(x:D)(P:List (List Key × V)->Prop):Prop:=match x with|.dit kvs=>P kvs|_=>False
def vK{kvs:List (List Key × V)}{P:List (List Key × V)->Prop}:Lp (.dit kvs) P↔P kvs:=M3
end
end L3
namespace L3
open PySem L2
section
def LO(xs:List D)(P:DK):Prop:=match xs with|[x]=>asL x fun ds=>P (.tup ds)|_=>False
def vi{ds:List D}{P:DK}:LO [.lst ds] P↔P (.tup ds):=M3
end
end L3
namespace L3
open PySem L2
section
end
end L3
namespace L2
open PySem PySem.Spec PyProof.Rows
def aV{X:Cx}{K:PySem.W.Frag}{e:Expr}{f:Str}{MH:Pos}{ta:TE}(hK:X.K=K)(he:PE X e ta)(hb:attributeBase e f X.env (eval e X.env)=eval e X.env):PE X (.Attribute e f MH) (pC K ta f):=hK▸Jr he hb
def hE{X:Cx}{K:PySem.W.Frag}{o N4:Expr}{f:Str}{MH Pd:Pos}{ta tv:TE}(hK:X.K=K)(ha:PE X o ta)(hv:PE X N4 tv)(hs:swapsWith N4 (some (.Attribute o f Pd)) MH.line X.env=pure false):PS X (.Assign [.Attribute o f Pd] N4 MH) (Ar K ta tv f):=hK▸Jw ha hv hs
structure ni(K:PySem.W.Frag)(C:Addr)(x qual:Str)(st:Stmt)(ps:List Str)(f:Addr)(fd:FuncData):Prop where
 fn:Fun K x qual st f fd
 mt:Meth K C x f
 bd:Binds K fd ps []
structure wk(K:PySem.W.Frag)(mg:Str->Option Value)(n:Str)(C:Addr)(qual:Str)(st:Stmt)(ps:List Str)(f:Addr)(fd:FuncData):Prop where
 fn:Fun K "__init__" qual st f fd
 mkk:Mk K C f
 bd:Binds K fd ps []
 mg:mg n=some (.ref C)
structure KH(K:PySem.W.Frag)(C:Addr):Prop where
 cl:Cls K C
 ha:PySem.W.findIn K (.ref C) "__class__" = some (some (.builtin "object.__class__"))
 hn:PySem.W.specialIn K (.builtin "object.__class__") "__get__" = some (some (.builtin "getset_descriptor.__get__"))
 ht:PySem.W.takesIn K (.builtin "object.__class__")=some true
 hm:PySem.W.mroIn K C (.type "object")=some true
def bD{f:Str}{v:V}:∀{ns:List Str}{xs:List V}{i:Nat},ns.Nodup->ns[i]?=some f->xs[i]?=some v->(ns.zip xs).lookup f=some v
 |[],_,i,_,e,_=>by simp at e
 |_::_,[],i,_,_,e=>by simp at e
 |n::ns,x::xs,0,_,e1,e2=>by
  simp at e1 e2
  subst e1;subst e2
  simp
 |n::ns,x::xs,i+1,hd,e1,e2=>by
  obtain ⟨h1,h2⟩:=Mh.mp hd
  simp only[List.getElem?_cons_succ] at e1 e2
  have PY:f≠n:=fun z=>h1 (z▸MN e1)
  rw[OA,Oo,beq_eq_false_iff_ne.mpr PY]
  exact bD h2 e1 e2
def gz{f:Str}:∀{ns:List Str}{xs:List V},f∉ns->(ns.zip xs).lookup f=none
 |[],_,_=>by simp
 |_::_,[],_=>by simp
 |n::ns,x::xs,h=>by
  have PY:f≠n:=fun z=>h (z▸Fk)
  rw[OA,Oo,beq_eq_false_iff_ne.mpr PY]
  exact gz fun z=>h (mo _ z)
def xW{f:Str}{v:V}:∀{ns:List Str}{xs:List V},f∉ns->ns.length=xs.length->kB f v (ns.zip xs)=(ns++[f]).zip (xs++[v])
 |[],[],_,_=>rfl
 |[],_::_,_,h=>by simp at h
 |_::_,[],_,h=>by simp at h
 |n::ns,x::xs,h,hl=>by
  have PY:n≠f:=fun z=>h (z▸Fk)
  rw[OA,kB,if_neg PY,xW (fun z=>h (mo _ z)) (by simpa using hl)]
  rfl
end L2
namespace L3
open PySem L2
section
variable {K:PySem.W.Frag}{Γ:List Nat}{t u ta:TE}{d e da:DE}{C:Addr}{ns:List Str}{f:Str}
def asF(C:Addr)(ns:List Str)(i:Nat)(x:D)(P:DK):Prop:=match x with|.ins C' Sq ds=>(C'=C/\Sq=ns)/\asO (ds[i]?) P|_=>False
def wK{ds:List D}{i:Nat}{P:DK}:asF C ns i (.ins C ns ds) P=asO (ds[i]?) P:=by
 unfold asF
 simp
def wy{x:D}{i:Nat}{P:DK}(h:asF C ns i x P):∃ds y,x=.ins C ns ds/\ds[i]?=some y/\P y:=by
 cases x with
 |ins C' Sq ds =>
  obtain ⟨⟨rfl,rfl⟩,h⟩:=h
  obtain ⟨y,e,h⟩:=G1 h
  exact⟨ds,y,rfl,e,h⟩
 |_=>exact h.elim
def zF{x:D}{i:Nat}{P P':DK}(k:∀z,P z->P' z)(h:asF C ns i x P):asF C ns i x P':=by
 obtain ⟨ds,y,rfl,e,h⟩:=wy h
 rw[wK,e]
 exact k _ h
def Iv(C:Addr)(ns:List Str)(i:Nat)(da:DE)(δ:Dl)(P:DK):Prop:=da δ fun x=>asF C ns i x P
def JL(ns:List Str)(i:Nat)(hc:Cls K C)(hn:bU K C f)(ha:ER K Γ ta da)(hi:ns[i]?=some f:=by rfl)(hd:ns.Nodup:=by decide +kernel):ER K Γ (pC K ta f) (Iv C ns i da) :=
 ⟨fun δ P P' k h=>ha.mono _ _ _ (fun x z=>zF k z) h,
 fun o q=>ha.run o (ha.mono _ _ _ (fun x z v H1 s1 r1=>by
  obtain ⟨ds,y,rfl,e,z⟩:=wy z
  obtain ⟨fp,a,dx,xs,fq,rfl,hH,_,hr⟩:=r1
  obtain ⟨w,f',e1,r3,_⟩:=hr.get e
  exact⟨a,C,dx,_,w,rfl,hH,hc,hn,bD hd hi e1,z w H1 s1 ⟨f',r3⟩⟩) q)⟩
def cw(ns:List Str)(i:Nat)(hc:Cls K C)(hn:bU K C f)(ha:ES K Γ ta da)(hi:ns[i]?=some f:=by rfl)(hd:ns.Nodup:=by decide +kernel):ES K Γ (pC K ta f) (Iv C ns i da) :=
 ⟨fun δ P P' k h=>ha.mono _ _ _ (fun x z=>zF k z) h,
 fun o q=>ha.run o (ha.mono _ _ _ (fun x z v H1 fp s1 r1 n1=>by
  obtain ⟨ds,y,rfl,e,z⟩:=wy z
  obtain ⟨a,dx,xs,fq,rfl,hH,rfl,hr⟩:=r1
  obtain ⟨w,f',e1,r3,k⟩:=hr.get e
  exact⟨a,C,dx,_,w,rfl,hH,hc,hn,bD hd hi e1,z w H1 f' s1 r3 fun j hj b hb=>n1 j hj b (mo _ (k b hb))⟩) q)⟩
def isI(C:Addr)(ns:List Str)(x:D):Prop:=match x with|.ins C' Sq _=>C'=C/\Sq=ns|_=>False
def BZ{ds:List D}:isI C ns (.ins C ns ds)=True:=by
 unfold isI
 simp
def Hn{x:D}(h:isI C ns x):∃ds,x=.ins C ns ds:=by
 cases x with
 |ins C' Sq ds=>obtain ⟨rfl,rfl⟩:=h;exact⟨ds,rfl⟩
 |_=>exact h.elim
def Fb(C:Addr)(ns:List Str)(S:DSp)(da:DE)(dr:DA)(δ:Dl)(P:DK):Prop:=da δ fun x=>isI C ns x/\dr δ fun xs=>S (x::xs) P
def pj{m:Str}{S:DSp}{E:XK}{w:TA}{dr:DA}(ns:List Str)(hS:bE S)(ha:ER K Γ ta da)(hr:AR K Γ w dr)(hm:m∉ns:=by decide +kernel):EM K Γ [] (yH C m (spP K S) [] E ta w) (Fb C ns S da dr) :=
 ⟨fun δ P P' k h=>ha.mono _ _ _ (fun x z=>⟨z.1,hr.mono _ _ _ (fun y z=>hS _ _ _ k z) z.2⟩) h,
 fun {B0 fps δ σ H Q} o q=>ha.run o (ha.mono _ _ _ (fun x z v H1 s1 r1=>by
  obtain ⟨z1,z2⟩:=z
  obtain ⟨ds,rfl⟩:=Hn z1
  obtain ⟨fp,a,dx,xs,fq,rfl,hH,e,hq⟩:=id r1
  refine⟨a,dx,_,rfl,hH,gz hm,hr.run (o.same s1) (hr.mono _ _ _ (fun ys z vs H2 s2 r2=>?_) z2)⟩
  obtain ⟨f1,W5⟩:=r1.same s2
  obtain ⟨f2,r2'⟩:=r2
  exact⟨.ins C ns ds::ys,⟨f1++f2,_,_,f1,f2,by rw[MV],rfl,W5,r2'⟩,(o.b0.trans (s1.trans s2)).now,hS _ _ _ (fun u z u' H' fp s r n=>z u' H' fp ((s1.trans s2).trans s) r (n.any.later (s1.trans s2))) z⟩) q)⟩
def spN(K:PySem.W.Frag)(C:Addr)(S:DSp):Sp:=fun vs H Q _=>∃(x dx:Addr) (ws:List V) (ds:List D) (B0:Hp),vs=.ref x::ws/\B0 x=none/\H=upd B0 x (.ins C dx [])/\Rps K B0 ds ws/\iy K B0 /\
 S ds fun d=>∀ns xs dd fq H',d=.ins C ns dd->Same B0 H'->H' x=some (.ins C dx (ns.zip xs))->Rfs K H' dd xs fq->fq.Nodup->(∀a∈fq,B0 a=none/\a≠x/\Mu H' a)->Q .non H'
def Cy{S:DSp}{n:Nat}(h:∀ds P,S ds P->ds.length=n){vs:List V}{H:Hp}{Q:VK}{E:XK}(k:spN K C S vs H Q E):vs.length=n+1:=by
 obtain ⟨x,dx,ws,ds,B0,rfl,_,_,r,_,hS⟩:=k
 obtain ⟨fp,r⟩:=r
 rw[L6,r.length,h _ _ hS]
def Cc{S:DSp}{E:XK}{w:TA}{dr:DA}(hS:bE S)(hi:∀ds P,S ds P->S ds fun d=>(∃ns dd,d=.ins C ns dd)/\P d)(hr:AR K Γ w dr):EM K Γ [] (B6 C (spN K C S) [] E w) (ql S dr) :=
 ⟨fun δ P P' k h=>hr.mono _ _ _ (fun y z=>hS _ _ _ k z) h,
 fun {B0 fps δ σ H Q} o q=>hr.run o (hr.mono _ _ _ (fun ys z vs H1 s1 r1=>by
  intro x dx hx SR PY
  have sx:Same H1 (upd H1 dx (.own x)):=Same.jn SR
  refine⟨x,dx,vs,ys,upd H1 dx (.own x),by rw[MV],by rw[aF (M0 PY)];exact hx,rfl,r1.same sx,(o.b0.trans (s1.trans sx)).now,hS _ _ _ ?_ (hi _ _ z)⟩
  rintro d ⟨⟨ns,dd,rfl⟩,z⟩ Sq xs Tr fq H' e sH hH hq Qt R0
  cases e
  refine⟨rfl,z (.ref x) H' (x::fq) (s1.trans (sx.trans sH)) ⟨x,dx,xs,fq,rfl,hH,rfl,hq⟩ ⟨Mh.mpr ⟨fun h=>(R0 x h).2.1 rfl,Qt⟩,fun a ha=>?_,fun a ha=>?_⟩⟩
  .rcases L8.mp ha with e|h
   .rw[e];exact .inr (.inr (.inr ⟨_,_,_,hH⟩))
   .exact (R0 a h).2.2
  .rcases L8.mp ha with e|h
   .rw[e];exact .inl (s1.free hx)
   .exact .inl (s1.free (sx.free (R0 a h).1))) q)⟩
structure INI(K:PySem.W.Frag)(C:Addr)(t:TS)(ns:List Str)(d:DA):Prop where
 mono:∀δ (P P':List D->Prop),(∀x,P x->P' x)->d δ P->d δ P'
 run:∀{B0 fps δ σ H x dx ns0 xs0 ds0 fq0 Dn},Ok K B0 [] fps δ σ H->σ[0]?=some (some (.ref x))->H x=some (.ins C dx (ns0.zip xs0))->B0 x=none->ns0.length=xs0.length->Rfs K H ds0 xs0 fq0->fq0.Nodup ->
  (∀a∈fq0,B0 a=none/\a≠x/\Mu H a)->(∀i,x∉fps i)->(∀n∈ns,n∉ns0)->(ns0++ns).Nodup->(ns0++ns).length<=100 ->
  d δ (fun ds=>∀H' xs fq,Same B0 H'->H' x=some (.ins C dx ((ns0++ns).zip xs))->Rfs K H' (ds0++ds) xs fq->fq.Nodup->(∀a∈fq,B0 a=none/\a≠x/\Mu H' a)->Dn.nx σ H')->t Dn σ H
def Rfs.snoc{H:Hp}:∀{ds:List D}{xs:List V}{fq:List Addr}{d:D}{v:V}{fp:List Addr},Rfs K H ds xs fq->Rf K H d v fp->Rfs K H (ds++[d]) (xs++[v]) (fq++fp)
 |[],xs,fq,d,v,fp,h,r=>by
  obtain ⟨rfl,rfl⟩:=h
  exact⟨v,[],fp,[],rfl,by simp,r,rfl,rfl⟩
 |d0::ds,xs,fq,d,v,fp,h,r=>by
  obtain ⟨x,rr,f1,f2,rfl,rfl,h1,h2⟩:=h
  exact⟨x,rr++[v],f1,f2++fp,rfl,by simp,h1,h2.snoc r⟩
def sS{f:Str}(hc:Cls K C)(hn:bU K C f)(he:EM K [] [] ta da){B0:Hp}{fps:Nat->List Addr}{δ:Dl}{σ:St}{H:Hp}{x dx:Addr}{ns0:List Str}{xs0:List V}{ds0:List D}{fq0:List Addr}{Dn:Ends}
  (o:Ok K B0 [] fps δ σ H) (h0:σ[0]?=some (some (.ref x))) (hx:H x=some (.ins C dx (ns0.zip xs0))) (hb:B0 x=none) (hl:ns0.length=xs0.length) (hr:Rfs K H ds0 xs0 fq0) (Qt:fq0.Nodup)
  (hq:∀a∈fq0,B0 a=none/\a≠x/\Mu H a) (R1:∀i,x∉fps i) (hf:f∉ns0) (Rn:ns0.length<100)
  (q:da δ fun y=>∀H' v fq,Ok K B0 [] fps δ σ H'->H' x=some (.ins C dx ((ns0++[f]).zip (xs0++[v])))->Rfs K H' (ds0++[y]) (xs0++[v]) fq->fq.Nodup->(∀a∈fq,B0 a=none/\a≠x/\Mu H' a)->Dn.nx σ H'):Ar K (eJ 0) ta f Dn σ H:=by
 refine he.run o (he.mono _ _ _ (fun y z v H1 fp s1 r1 n1=>?_) q)
 have Xj:=s1.st _ _ hx trivial
 refine⟨.ref x,h0,x,C,dx,_,rfl,Xj,hc,hn,by rw[List.length_zip];omega,?_⟩
 rw[xW hf hl]
 have Xh:x∉fp:=fun h=>by have:=n1.fresh x h;rw[hx] at this;cases this
 have keep:∀a,a≠x->upd H1 x (.ins C dx ((ns0++[f]).zip (xs0++[v]))) a=H1 a:=fun a ha=>aF ha
 have Xc:∀a w,H1 a=some w->Im w->upd H1 x (.ins C dx ((ns0++[f]).zip (xs0++[v]))) a=some w:=fun a w e hi=>by
  have:a≠x:=fun z=>by
   subst z
   rw[Xj] at e
   cases e
   rcases hi with ⟨_,z⟩|⟨_,_,z⟩|⟨_,_,z⟩<;>cases z
  rw[keep a this];exact e
 have UK:∀a,a≠x->Mu H1 a->Mu (upd H1 x (.ins C dx ((ns0++[f]).zip (xs0++[v])))) a:=fun a ha m=>m.upd (.inr (.inr (.inr ⟨_,_,_,rfl⟩)))
 have o1:=o.same s1
 refine z _ v (fq0++fp) ⟨o1.len,o1.b0.keep (fp:=[x]) (fun a ha=>by cases Gc.mp ha;exact⟨hb,.inr (.inr (.inr ⟨_,_,_,Xj⟩))⟩) (fun a u hn e=>by rw[keep a (fun z=>hn (z▸Gc.mpr rfl))];exact e),fun i dd e=>?_,o1.non,fun _ h=>(nomatch h),fun _ h=>(nomatch h)⟩ aw (Rfs.snoc ((hr.same s1).mono (fun a ha w e=>by rw[keep a (hq a ha).2.1];exact e) Xc) (r1.mono (fun a ha w e=>by rw[keep a (fun z=>Xh (z▸ha))];exact e) Xc)) ?_ fun a ha=>?_
 .obtain ⟨v',h1,h2⟩:=o1.val i dd e
  exact⟨v',h1,h2.mono (fun a ha w e=>by rw[keep a (fun z=>R1 i (z▸ha))];exact e) Xc⟩
 .refine Mm.mpr ⟨Qt,n1.nd,fun a h1 b h2 e=>?_⟩
  subst e
  exact (hq a h1).2.2.some (n1.fresh a h2)
 .rcases Mc.mp ha with h|h
  .exact⟨(hq a h).1,(hq a h).2.1,UK a (hq a h).2.1 ((hq a h).2.2.same s1)⟩
  .exact⟨o.b0.free (n1.fresh a h),fun z=>Xh (z▸h),UK a (fun z=>Xh (z▸h)) (n1.mu a h)⟩
def BL{f:Str}(hc:Cls K C)(hn:bU K C f)(he:EM K [] [] ta da):INI K C (Ar K (eJ 0) ta f) [f] (oU da AD) :=
 ⟨fun δ P P' k h=>he.mono _ _ _ (fun x z=>k _ z) h,fun {B0 fps δ σ H x dx ns0 xs0 ds0 fq0 Dn} o h0 hx hb hl hr Qt hq R1 hf Qe Rn q =>
  sS hc hn he o h0 hx hb hl hr Qt hq R1 (hf f Fk) (by simp at Rn;omega) (he.mono _ _ _ (fun y z H' v fq o' g1 g2 g3 g4=>z H' _ fq o'.b0.toSame g1 g2 g3 g4) q)⟩
def mw{f:Str}{t:TS}{ns:List Str}{dr:DA}(hc:Cls K C)(hn:bU K C f)(he:EM K [] [] ta da)(hr:INI K C t ns dr):INI K C (zH (Ar K (eJ 0) ta f) t) (f::ns) (oU da dr) :=
 ⟨fun δ P P' k h=>he.mono _ _ _ (fun x z=>hr.mono _ _ _ (fun y z=>k _ z) z) h,fun {B0 fps δ σ H x dx ns0 xs0 ds0 fq0 Dn} o h0 hx hb hl hR Qt hq R1 hf Qe Rn q =>
  sS hc hn he o h0 hx hb hl hR Qt hq R1 (hf f Fk) (by simp at Rn;omega) (he.mono _ _ _ (fun y z H' v fq o' g1 g2 g3 g4=>by
   have e1:ns0++f::ns=(ns0++[f])++ns:=by simp
   refine hr.run o' h0 g1 hb (by simp [hl]) g2 g3 g4 R1 (fun n XC z'=>?_) (by rw[<- e1];exact Qe) (by rw[<- e1];exact Rn) (hr.mono _ _ _ (fun ds z H2 xs fq s2 k1 k2 k3 k4=>?_) z)
   .rw[e1] at Qe
    exact (Mm.mp Qe).2.2 n z' n XC rfl
   .refine z H2 xs fq s2 (by rw[e1];exact k1) ?_ k3 k4
    rw[MR] at k2
    exact k2) q)⟩
def El{N:List Str}{S:DSp}{t:TS}{ns:List Str}{d:DA}(hs:INI K C t ns d)(hd:∀ds P,S ds P->d (none::(aL (N.drop 1) ds)) fun dd=>P (.ins C ns dd))(hN:1<=N.length)(Qe:ns.Nodup:=by decide +kernel)(Rn:ns.length<=100:=by decide) :
  ∀{vs H Q E},spN K C S vs H Q E->t { nx:=fun _ H'=>Q .non H',rt:=Q } (L2.start N vs) H:=by
 rintro vs H Q E ⟨x,dx,ws,ds,B0,rfl,hb,rfl,r,tv,h⟩
 obtain ⟨fps,o⟩:=mf (N:=N.drop 1) r tv
 have sx:Same B0 (upd B0 x (.ins C dx [])):=Same.jn hb
 have o2:=o.same sx
 have Yx:L2.start N (.ref x::ws)=some (.ref x)::L2.start (N.drop 1) ws:=by
  unfold L2.start
  rw[Mb,List.cons_append,L6,Nl,show N.length - (ws.length+1)=N.length - 1 - ws.length by omega]
 rw[Yx]
 refine hs.run (B0:=B0) (fps:=fun i=>match i with|0=>[]|j+1=>fps j) (δ:=none::aL (N.drop 1) ds) (x:=x) (dx:=dx) (ns0:=[]) (xs0:=[]) (ds0:=[]) (fq0:=[]) ⟨by rw[L6,L6,o2.len],⟨sx,tv⟩,fun i dd e=>?_,fun i e=>?_,fun _ h=>(nomatch h),fun _ h=>(nomatch h)⟩ rfl aw hb rfl ⟨rfl,rfl⟩ Nq (fun _ h=>(nomatch h)) (fun i=>?_) (fun _ _ h=>(nomatch h)) Qe Rn (hs.mono _ _ _ (fun dd z H' xs fq s1 k1 k2 k3 k4=>?_) (hd ds _ h))
 .cases i with
  |zero=>simp at e
  |succ j=>exact o2.val j dd (by simpa using e)
 .cases i with
  |zero=>rfl
  |succ j=>exact o2.non j fun dd z=>e dd (by simpa using z)
 .cases i with
  |zero=>exact fun h=>(nomatch h)
  |succ j=>exact fun h=>o.dom h hb
 .exact z ns xs dd fq H' rfl s1 k1 k2 k3 k4
end
end L3
namespace L2
open PySem PySem.Spec PyProof.Rows
section
variable {P:Program}{w:World}{H:Hp}{h:Heap}{a:Addr}
def yD:∀{ks:List Int}{us:List Value},Vals (ks.map V.int) us->ItemsAre (intKind P w) ks us
 |[],_,.nil=>.nil
 |k::ks,_,.cons r t=>by
  obtain ⟨n,rfl⟩:=r
  exact .cons (by simp [intKind,Value.isInt]) (yD t)
def rC{d:Int}{b:Addr}{ks:List Int}(ok:HOk P w H h)(e:H a=some (.tup [.int d,.ref b]))(e2:H b=some (.tup (ks.map V.int))):(j7 P w).is h (d,ks) a:=by
 obtain ⟨_,ML,r,o,h1,h2,n,h3⟩:=(show cB P w H h a (.tup [.int d,.ref b]) from ok a _ e)
 obtain ⟨_,jts,q,o',g1,g2,m,g3⟩:=(show cB P w H h b (.tup (ks.map V.int)) from ok b _ e2)
 cases r with
 |cons r1 r' =>
  cases r' with
  |cons r2 r'' =>
   cases r''
   obtain ⟨t,rfl⟩:=r1
   cases (show _=Value.ref b from r2)
   exact⟨o,n,t,b,h1,h2,h3,o',jts.toArray,m,g1,g2,g3,by simpa using yD (P:=P) (w:=w) q⟩
def wL{φ:Int->List Int->Int->Prop}{ks:List jR}(ok:HOk P w H h)(e:H a=some (.memo φ ks)):(a == sysModules)=false/\∃xs,(∀x∈xs,lF H φ x)/\(∀k∈ks,k∈xs.map (·.1))/\h.DictOfH (j7 P w) a xs:=by
 obtain ⟨y,xs,hx,hk,o,es,ep,h1,h2,h3,h4,h5⟩:=(show cB P w H h a (.memo φ ks) from ok a _ e)
 refine⟨y,xs,hx,hk,o,es,ep,h1,h2,h3,h4,fun x hx2=>?_,h5⟩
 obtain ⟨b,n,t,q1,q2,_⟩:=hx x hx2
 exact rC ok q1 q2
def oJ{φ:Int->List Int->Int->Prop}{ks:List jR}{xs:List (jR × Addr × Value)}{H':Hp}{h':Heap}(y:(a == sysModules)=false)(hx:∀x∈xs,lF H' φ x)(hk:∀k∈ks,k∈xs.map (·.1))(dd:h'.DictOfH (j7 P w) a xs):cB P w H' h' a (.memo φ ks):=by
 obtain ⟨o,es,ep,h1,h2,h3,h4,_,h5⟩:=dd
 exact⟨y,xs,hx,hk,o,es,ep,h1,h2,h3,h4,h5⟩
def lF.upd{φ:Int->List Int->Int->Prop}{x:jR × Addr × Value}{o u:HO}(m:lF H φ x)(e:H a=some u)(ne:∀ys,u≠.tup ys):lF (upd H a o) φ x:=by
 obtain ⟨b,n,t,q1,q2,q3⟩:=m
 exact⟨b,n,t,by rw[aF (fun z=>by rw[z,e] at q1;exact ne _ (MB q1))];exact q1,by rw[aF (fun z=>by rw[z,e] at q2;exact ne _ (MB q2))];exact q2,q3⟩
def encL(l:List Int):Nat:=l.foldl (fun n e=>n*8+(e.toNat+1)) 0
def HB(k:jR):Nat:=encL k.2*8+k.1.toNat
def jy(l:List Int)(e:Int):encL (l++[e])=encL l*8+(e.toNat+1):=by unfold encL;rw[List.foldl_append];rfl
def Ba:∀(n:Nat) (l:List Int),l.length<=n->(∀e∈l,0<=e/\e<7)->encL l<8 ^ n
 |0,l,h,_=>by rw[List.eq_nil_of_length_eq_zero (Nat.le_zero.mp h)];exact Nat.one_pos
 |n+1,l,h,hb=>by
  rcases Classical.em (l=[]) with z|z
  .rw[z];exact Nat.pow_pos (by decide)
  .rw[<- MU z,jy]
   have h1:=Ba n l.dropLast (by rw[List.length_dropLast];omega) (fun e he=>hb e (List.dropLast_subset _ he))
   have h2:=hb (l.getLast z) (List.getLast_mem z)
   rw[Nat.pow_succ]
   omega
def EZ:∀(n:Nat) (l m:List Int),l.length<=n->(∀e∈l,0<=e/\e<7)->(∀e∈m,0<=e/\e<7)->encL l=encL m->l=m:=by
 intro n
 induction n with
 |zero =>
  intro l m h _ hm e
  have:l=[]:=List.eq_nil_of_length_eq_zero (Nat.le_zero.mp h)
  subst this
  rcases Classical.em (m=[]) with z|z
  .exact z.symm
  .rw[<- MU z,jy] at e
   have:encL []=0:=rfl
   omega
 |succ n ih =>
  intro l m h hl hm e
  rcases Classical.em (l=[]) with z|z
  .subst z
   rcases Classical.em (m=[]) with y|y
   .exact y.symm
   .rw[<- MU y,jy] at e
    have:encL []=0:=rfl
    omega
  .rcases Classical.em (m=[]) with y|y
   .subst y
    rw[<- MU z,jy] at e
    have:encL []=0:=rfl
    omega
   .have a1:=hl (l.getLast z) (List.getLast_mem z)
    have a2:=hm (m.getLast y) (List.getLast_mem y)
    rw[<- MU z,<- MU y,jy,jy] at e
    have i:=ih l.dropLast m.dropLast (by rw[List.length_dropLast];omega) (fun e he=>hl e (List.dropLast_subset _ he)) (fun e he=>hm e (List.dropLast_subset _ he)) (by omega)
    have j:l.getLast z=m.getLast y:=by omega
    rw[<- MU z,<- MU y,i,j]
def wZ{k:jR}(h:Ag k=true):(0<=k.1/\k.1<8)/\k.2.length<=5/\∀e∈k.2,0<=e/\e<7:=by
 unfold Ag at h
 simp only[Nb,decide_eq_true_eq,MP] at h
 exact⟨h.1.1,h.1.2,h.2⟩
def vq:∀(n:Nat) (l:List Nat),l.Nodup->(∀x∈l,x<n)->l.length<=n
 |0,l,_,h=>by
  cases l with
  |nil=>exact Mi _
  |cons x r=>exact absurd (h x Fk) (Nat.not_lt_zero _)
 |n+1,l,nd,h=>by
  have h1:=vq n (l.filter (·≠n)) (nd.sublist List.filter_sublist) (fun x hx=>by
   have:=MZ.mp hx
   have q:=h x this.1
   have:x≠n:=by simpa using this.2
   omega)
  have h2:l.length<=(l.filter (·≠n)).length+1:=by
   clear h h1
   induction l with
   |nil=>simp
   |cons x r ih =>
    rw[Mh] at nd
    have:=ih nd.2
    by_cases hx:x=n
    .subst hx
     rw[List.filter_cons_of_neg (by simp),List.filter_eq_self.mpr (fun y hy=>by simp;exact fun z=>nd.1 (z▸hy)),L6]
     omega
    .rw[List.filter_cons_of_pos (by simpa using hx),L6,L6]
     omega
  omega
def FT{ks:List jR}(nd:ks.Nodup)(hb:∀k∈ks,Ag k=true):ks.length<=262144:=by
 have inj:(ks.map HB).Nodup:=by
  refine List.pairwise_map.mpr (List.Pairwise.imp_of_mem (fun {x y} hx hy ne e=>ne ?_) nd)
  obtain ⟨⟨x1,x2⟩,x3,x4⟩:=wZ (hb x hx)
  obtain ⟨⟨y1,y2⟩,y3,y4⟩:=wZ (hb y hy)
  unfold HB at e
  exact Prod.ext (by omega) (EZ 5 x.2 y.2 x3 x4 y4 (by omega))
 have:=vq 262144 (ks.map HB) inj (fun x hx=>by
  obtain ⟨k,hk,rfl⟩:=Ma.mp hx
  obtain ⟨⟨x1,x2⟩,x3,x4⟩:=wZ (hb k hk)
  have:=Ba 5 k.2 x3 x4
  unfold HB
  omega)
 rwa [ox] at this
def Ek{φ:Int->List Int->Int->Prop}{xs:List (jR × Addr × Value)}(hx:∀x∈xs,lF H φ x)(nd:(xs.map (·.1)).Nodup):xs.length<=262144:=by
 have:=FT nd (fun k hk=>by
  obtain ⟨x,hm,rfl⟩:=Ma.mp hk
  obtain ⟨b,n,t,_,_,_,_,q⟩:=hx x hm
  exact q)
 rwa [ox] at this
end
section
variable {X:Cx}
def Fp:R2:=fun x y H Q=>∃kt kb a φ d ks,x=.ref kt/\H kt=some (.tup [.int d,.ref kb])/\H kb=some (.tup (ks.map V.int))/\y=.ref a/\H a=some (.memo φ [])/\Q (.bl true) H/\Q (.bl false) (upd H a (.memo φ [(d,ks)]))
def Fy(hu:X.A.units+64<cLine):OpR X (compareOp .NotIn) Fp:=by
 intro pins s σ H x y v u Q I rx ry h
 obtain ⟨kt,kb,a,φ,d,ks,rfl,e1,e2,rfl,ea,q1,q2⟩:=h
 cases (show v=Value.ref kt from rx)
 cases (show u=Value.ref a from ry)
 obtain ⟨hd,xs,hx,_,dd⟩:=wL I.hok ea
 refine wpAny_notIn_heap (knd:=j7 X.prog X.w) (k:=(d,ks)) (by show X.A.units+1+2<cLine;omega) (rC I.hok e1 e2) hd dd ?_
 cases hf:atKey xs (d,ks) with
 |none=>exact⟨.bl true,H,I.tok _,rfl,q1⟩
 |some p =>
  refine⟨.bl false,_,?_,rfl,q2⟩
  have there:(d,ks)∈xs.map (·.1):=by
   unfold atKey at hf
   obtain ⟨z,hz,_⟩:=Option.map_eq_some_iff.mp hf
   have:=List.find?_some hz
   exact Ma.mpr ⟨z,Oq hz,by simpa using this⟩
  refine I.write (x:=a) (e:=a) (h':=s.heap) (by rw[ea];exact True.intro) (.inl rfl) (fun _ _ _ z=>z) (let ⟨o,_,_,g,_⟩:=dd;⟨o,g⟩) ?_
  exact oJ hd (fun z hz=>(hx z hz).upd ea (fun ys z=>by cases z)) (fun k hk=>by rw[Gc.mp hk];exact there) dd
end
end L2
namespace L2
open PySem PySem.Spec PyProof.Rows
section
variable {X:Cx}
def HR{xs:List (jR × Addr × Value)}{k:jR}(h:k∈xs.map (·.1)):∃p,atKey xs k=some p/\(k,p)∈xs:=by
 cases hf:xs.find? (fun x=>decide (x.1=k)) with
 |none =>
  obtain ⟨z,hz,e⟩:=Ma.mp h
  have:=List.find?_eq_none.mp hf z hz
  simp at this
  exact absurd e this
 |some z =>
  have h1:=List.find?_some hf
  have h2:=Oq hf
  have h1:z.1=k:=by simpa using h1
  refine⟨z.2,by unfold atKey;rw[hf];rfl,?_⟩
  rw[<- h1]
  exact h2
def AG:R2:=fun x y H Q=>∃kt kb a φ d ks ps,x=.ref a/\y=.ref kt/\H kt=some (.tup [.int d,.ref kb])/\H kb=some (.tup (ks.map V.int))/\H a=some (.memo φ ps)/\(d,ks)∈ps/\∀n,φ d ks n->Q (.int n) (upd H a (.memo φ []))
def Ih(hu:X.A.units+64<cLine):IxR X AG:=by
 intro N4 slice pins s σ H x y v u Q I rx ry h hs
 obtain ⟨kt,kb,a,φ,d,ks,ps,rfl,rfl,e1,e2,ea,hp,q⟩:=h
 cases (show v=Value.ref a from rx)
 cases (show u=Value.ref kt from ry)
 obtain ⟨hd,xs,hx,hk,dd⟩:=wL I.hok ea
 obtain ⟨p,hf,hm⟩:=HR (hk _ hp)
 obtain ⟨b,n,t,_,_,q3,q4,_⟩:=hx _ hm
 refine tail_any dd.typeIs PySem.F.slot_dict_getitem.lookup (wpAny_getItem_heap (knd:=j7 X.prog X.w) (k:=(d,ks)) (by show X.A.units+1+2<cLine;omega) (rC I.hok e1 e2) dd hf ?_) hs
 refine⟨.int n,_,?_,⟨t,q3⟩,q n q4⟩
 exact I.write (x:=a) (e:=a) (h':=s.heap) (by rw[ea];exact True.intro) (.inl rfl) (fun _ _ _ z=>z) (let ⟨o,_,_,g,_⟩:=dd;⟨o,g⟩) (oJ hd (fun z hz=>(hx z hz).upd ea (fun ys z=>by cases z)) (fun k hk=>absurd hk MF) dd)
def Ap:HP:=fun o i v H Q=>∃kt kb a φ d ks ps n,o=.ref a/\i=.ref kt/\v=.int n/\H kt=some (.tup [.int d,.ref kb])/\H kb=some (.tup (ks.map V.int))/\H a=some (.memo φ ps)/\Ag (d,ks)=true/\φ d ks n/\Q (upd H a (.memo φ [(d,ks)]))
def Fj(hu:X.A.units+64<cLine):Jp X Ap:=by
 intro pins s σ H o i v ov iv u Q I ro ri rv h
 obtain ⟨kt,kb,a,φ,d,ks,ps,n,rfl,rfl,rfl,e1,e2,ea,hb,hn,q⟩:=h
 cases (show ov=Value.ref a from ro)
 cases (show iv=Value.ref kt from ri)
 obtain ⟨t,rfl⟩:=(show ∃t,u=Value.int n t from rv)
 obtain ⟨hd,xs,hx,hk,dd⟩:=wL I.hok ea
 have nd:(xs.map (·.1)).Nodup:=let ⟨_,_,_,_,_,_,_,_,z⟩:=dd;z
 have few:=Ek hx nd
 refine wpAny_setItem_heap (knd:=j7 X.prog X.w) (k:=(d,ks)) (hsz:=Mq few (by decide)) (by show X.A.units+1+2<cLine;omega) (rC I.hok e1 e2) dd fun h' Tr RI=>⟨_,?_,q⟩
 have he:∃z,h'.get? a=some z:=let ⟨z,_,_,g,_⟩:=Tr;⟨z,g⟩
 have Np:lF (upd H a (.memo φ [(d,ks)])) φ ((d,ks),kt,Value.int n t):=lF.upd ⟨kb,n,t,e1,e2,rfl,hn,hb⟩ ea (fun ys z=>by cases z)
 refine wV I (by rw[ea];exact True.intro) RI he (oJ hd (fun z hz=>?_) (fun k UQ=>?_) Tr)
 .unfold storedH at hz
  split at hz
  .obtain ⟨y,hy,rfl⟩:=Ma.mp hz
   have my:=(hx y hy).upd (o:=.memo φ [(d,ks)]) ea (fun ys z=>by cases z)
   unfold putAt
   split
   .rename_i ey
    obtain ⟨b,n',t',g1,g2,g3,g4,g5⟩:=my
    refine⟨b,n,t,g1,g2,rfl,?_,g5⟩
    rw[ey];exact hn
   .exact my
  .rcases Mc.mp hz with z|z
   .exact (hx _ z).upd ea (fun ys z=>by cases z)
   .rw[Gc.mp z];exact Np
 .rw[Gc.mp UQ]
  unfold storedH
  split
  .rename_i Vk
   rw[keys_map_putAt]
   obtain ⟨p,hp⟩:=Option.isSome_iff_exists.mp Vk
   unfold atKey at hp
   obtain ⟨z,hz,_⟩:=Option.map_eq_some_iff.mp hp
   exact Ma.mpr ⟨z,Oq hz,by simpa using List.find?_some hz⟩
  .rw[Mr]
   exact KE _ (Gc.mpr rfl)
def FX:TE:=fun _ H Q=>∃φ,∀p,H p=none->Q (.ref p) (upd H p (.memo φ []))
def GF{MH:Pos}:PE X (.Dict [] [] MH) FX:=by
 intro pins s σ H Q I ⟨φ,h⟩
 have hf:H s.heap.objs.size=none:=I.hok.fresh (Mi _)
 refine wpAny_Dict_empty ⟨.ref s.heap.objs.size,_,I.laid (a:=s.heap.objs.size) (o:=.memo φ []) (t':=s.toks) (fun _ _ q=>Heap.get?_push_of_some _ q) (Mi _) ?_,rfl,h _ hf⟩
 refine oJ (xs:=[]) ?_ (fun z hz=>absurd hz MF) (fun z hz=>absurd hz MF) (Heap.DictOfH.new s.heap)
 have:=I.big
 exact beq_eq_false_iff_ne.mpr (fun z=>by rw[z] at this;exact absurd this (M8 _))
end
end L2
namespace L3
open PySem L2
section
variable {K:PySem.W.Frag}{Γ:List Nat}{te:TE}{de:DE}
def tf(δ:Dl)(P:DK):Prop:=∃φ,P (.mem φ)
def IC:EM K Γ [] FX tf:=⟨fun _ _ _ k ⟨φ,h⟩=>⟨φ,k _ h⟩,fun {B0 fps δ σ H Q} o ⟨φ,q⟩=>⟨φ,fun p hp=>q (.ref p) _ [] (Same.jn hp) ⟨p,rfl,aw,rfl⟩ Nw.nil⟩⟩
def GC{H:Hp}{a:Addr}{o:HO}(h:H a=some o):L2.upd H a o=H:=by
 funext b
 unfold L2.upd
 split
 .rename_i e;rw[e,h]
 .rfl
def Rfs.B9{H:Hp}:∀{ks:List Int}{xs:List V}{fp:List Addr},Rfs K H (ks.map D.int) xs fp->xs=ks.map V.int
 |[],xs,fp,h=>by obtain ⟨rfl,_⟩:xs=[]/\_:=h;rfl
 |k::ks,xs,fp,h=>by
  obtain ⟨x,r,f1,f2,rfl,_,⟨rfl,_⟩,h2⟩:=h
  rw[Rfs.B9 h2];rfl
def LA(C:Addr)(ns:List Str)(i iw:Nat)(de:DE)(E:cf)(δ:Dl):Prop :=
 ∃ds φ d ks,δ[0]?=some (some (.ins C ns ds))/\ds[i]?=some (.mem φ)/\δ[iw]?=some (some (.tup [.int d,.tup (ks.map D.int)]))/\Ag (d,ks)=true/\de δ (fun x=>∃n,x=.int n/\φ d ks n)/\∀n,φ d ks n->E.rt (.int n) δ
def GU{C:Addr}{f:Str}(ns:List Str)(i iw:Nat)(hc:Cls K C)(hn:bU K C f)(he:ER K Γ te de)(hi:ns[i]?=some f:=by rfl)(hd:ns.Nodup:=by decide +kernel){ρ:Bool}{Γr Γl Γn:List Nat}(hr:∀j∈Γr,j∈Γ:=by decide) :
  ST K ρ Γr Γl (zH (Hg (FV (tOp Fp (eJ iw) (pC K (eJ 0) f))) (mn te (yT (pC K (eJ 0) f) (eJ iw) Ap)) GA) (Iq (tOp AG (pC K (eJ 0) f) (eJ iw)))) Γ Γn (LA C ns i iw de):=by
 intro B0 Dn E fps δ σ H k o h
 obtain ⟨ds,φ,d,ks,e0,ei,ew,hb,h1,h2⟩:=h
 have r0:=o.val 0 _ e0
 have W3:=o.val iw _ ew
 obtain ⟨v0,s0,p,dx,xs,fq,rfl,hp,_,hxs⟩:=r0
 obtain ⟨wv,fw,gx,⟨a,rfl,ha,_⟩,_⟩:=hxs.get ei
 obtain ⟨vw,sw,kt,ys,rfl,hk,hys⟩:=W3
 obtain ⟨y1,r1,f1,f2,rfl,_,⟨rfl,_⟩,Xg⟩:=hys
 obtain ⟨y2,r2,f3,f4,rfl,_,⟨kb,zs,rfl,XR,hzs⟩,Xy⟩:=Xg
 obtain ⟨rfl,_⟩:r2=[]/\_:=Xy
 have ez:=hzs.B9
 subst ez
 have hl:=bD (v:=V.ref a) hd hi gx
 have Pz:∀H1,Same H H1->Iq (tOp AG (pC K (eJ 0) f) (eJ iw)) Dn σ (L2.upd H1 a (.memo φ [(d,ks)])):=fun H1 s1=>by
  have T4:=s1.st _ _ hp trivial
  have Wh:=s1.st _ _ ha trivial
  have XS:=s1.st _ _ hk trivial
  have Yi:=s1.st _ _ XR trivial
  have ne1:p≠a:=fun z=>by rw[z,Wh] at T4;cases T4
  have ne2:kt≠a:=fun z=>by rw[z,Wh] at XS;cases XS
  have ne3:kb≠a:=fun z=>by rw[z,Wh] at Yi;cases Yi
  refine⟨.ref p,s0,p,C,dx,_,.ref a,rfl,by rw[aF ne1];exact T4,hc,hn,hl,.ref kt,sw,kt,kb,a,φ,d,ks,[(d,ks)],rfl,rfl,by rw[aF ne2];exact XS,by rw[aF ne3];exact Yi,aw,Gc.mpr rfl,fun n hn=>?_⟩
  rw[ID,GC Wh]
  exact k.rt ((o.same s1).sub hr) (Rf.ug (d:=.int n) rfl) (fun _=>⟨Nq,fun _ h=>(nomatch h),fun _ h=>(nomatch h),fun _ _ _ h=>(nomatch h)⟩) (h2 n hn)
 refine⟨.ref kt,sw,.ref p,s0,p,C,dx,_,.ref a,rfl,hp,hc,hn,hl,kt,kb,a,φ,d,ks,rfl,hk,XR,rfl,ha,⟨true,rfl,?_⟩,⟨false,rfl,?_⟩⟩
 .show mn te (yT (pC K (eJ 0) f) (eJ iw) Ap) _ σ H
  refine he.run o (he.mono _ _ _ (fun x z v H1 s1 r1=>?_) h1)
  obtain ⟨n,rfl,hφ⟩:=z
  have hv:v=.int n:=r1.int
  subst hv
  exact⟨.ref p,s0,p,C,dx,_,.ref a,rfl,s1.st _ _ hp trivial,hc,hn,hl,.ref kt,sw,kt,kb,a,φ,d,ks,[],n,rfl,rfl,rfl,s1.st _ _ hk trivial,s1.st _ _ XR trivial,s1.st _ _ ha trivial,hb,hφ,Pz H1 s1⟩
 .exact Pz H (Same.refl H)
end
end L3
namespace L2
open PySem PySem.Spec PyProof.Rows
def cB.there{P:Program}{w:World}{H:Hp}{h:Heap}{a:Addr}{o:HO}(x:cB P w H h a o):∃ob,h.get? a=some ob:=by
 cases o with
 |lst xs=>obtain ⟨_,_,_,_,e⟩:=x;exact⟨_,e⟩
 |tup xs=>obtain ⟨_,_,_,ob,e,_⟩:=x;exact⟨_,e⟩
 |dK kvs=>obtain ⟨_,_,_,_,o,_,_,e,_⟩:=x;exact⟨_,e⟩
 |dT kvs=>obtain ⟨_,_,_,_,o,_,_,e,_⟩:=x;exact⟨_,e⟩
 |set S n=>obtain ⟨o,_,_,_,e,_⟩:=x;exact⟨_,e⟩
 |ins C dx fs=>obtain ⟨_,_,_,e,_⟩:=x;exact⟨_,e⟩
 |own y=>exact x
 |xd fs=>obtain ⟨_,⟨_,_,_,e,_⟩,_⟩:=x;exact⟨_,e⟩
 |rng lo hi=>obtain ⟨_,_,_,e⟩:=x;exact⟨_,e⟩
 |frz ob u=>obtain ⟨e,_⟩:=x;exact⟨_,e⟩
 |tbl ps=>exact⟨_,(show h.get? a=some _ from x)⟩
 |met f y=>exact⟨_,(show h.get? a=some _ from x)⟩
 |ext φ=>obtain ⟨_,e,_⟩:=x;exact e
 |memo φ ks=>obtain ⟨_,_,_,_,_,_,_,e,_⟩:=x;exact⟨_,e⟩
def Fly(h:Heap)(H:Hp)(lo:Heap)(a:Addr)(C:Value):Prop :=
 (H a=none/\lo.get? a=none)/\∃oe vs a0 T oT ts,h.get? a=some oe/\(oe.cls=C/\vs[0]?=some a0)/\oe.data=.fields vs/\vs[1]?=some (.ref T)/\T≠a/\h.get? T=some oT/\oT.data=.fields ts/\ts[3]?=some .none/\H T=none/\lo.get? T=none
def LU(h:Heap)(H:Hp)(lo:Heap)(a:Addr)(C:Value):Prop :=
 (H a=none/\lo.get? a=none)/\∃oe vs a0,h.get? a=some oe/\(oe.cls=C/\vs[0]?=some a0)/\oe.data=.fields vs/\vs[1]?=some .none
def CXR(P:Program)(w:World):CXT:=fun outer H s E e s'=>∃(a C:Addr) (H':Hp),e=.ref a/\s'.os=s.os/\AllBare s'.gens/\Un (frs outer) [] H H' s.heap s'.heap/\HOk P w H' s'.heap /\
 Fly s'.heap H' s.heap a (.ref C)/\E (.ref C) none H'
section
variable {P:Program}{w:World}{K:PySem.W.Frag}{mg:Str->Option Value}{base:Heap}{N:List Str}{qual:Str}{scope:Scope}{f:Addr}{cd:Value}{A:Around}{outer:List Env}{s0:Shared}{H0:Hp}{E:XK}
variable {pins:List (Addr × Obj)}{σ:St}{H':Hp}{s':Shared}{a C:Addr}{h2:Heap}
def vj{as:List Addr}{a0:Value}(J:Inv (pq (CXR P w) P w K mg base N qual scope f cd A outer s0 H0 E) pins σ H' s')
  (has:∀b∈as,b∈frs (envOfC qual scope s0.heap.objs.size f cd::outer)\/(H' b=none/\s0.heap.get? b=none))
  (L:Heap.LeftW (PySem.W.hideAll s'.heap as) (envOfC qual scope s0.heap.objs.size f cd::outer) a (.ref C) a0 s'.heap h2) (ha:H' a=none/\s0.heap.get? a=none) (q:E (.ref C) none H') :
  CXR P w outer H0 s0 E (.ref a) { s' with heap:=h2 }:=by
 obtain ⟨k1,k2,k3,k4⟩:=L
 have bs:Un (frs outer) [] H0 H' s0.heap s'.heap:=J.base
 have P1:∀b o,s'.heap.get? b=some o->b∉as->h2.get? b=some o:=fun b o e n=>k1 b o (Ot _ e n)
 have stf:∀b∈frs (envOfC qual scope s0.heap.objs.size f cd::outer),H' b=none:=J.ra
 have sts:∀b∈frs (envOfC qual scope s0.heap.objs.size f cd::outer),b∈s0.heap.objs.size::frs outer:=J.rM
 have trk:∀b u,H' b=some u->b∉as:=fun b u e z=>by
  rcases has b z with z|⟨z,_⟩
  .rw[stf b z] at e;cases e
  .rw[z] at e;cases e
 have U3:∀b∈frs (envOfC qual scope s0.heap.objs.size f cd::outer),∃o,s'.heap.get? b=some o/\∀vs,o.data≠.fields vs:=fun b hb=>(J.stack.mem hb).2
 refine⟨a,C,H',rfl,J.os,J.bare,⟨fun b o e n hb hx=>?_,fun b o e n hb hx=>?_,bs.free,fun b o e hx=>?_,bs.tups,bs.frzs,bs.tbls⟩,fun c o e=>?_,⟨ha,?_⟩,q⟩
 .refine P1 b o (bs.keep b o e n hb hx) fun z=>?_
  rcases has b z with z|⟨_,z⟩
  .rcases L8.mp (sts b z) with z|z
   .rw[z] at e;exact absurd (Heap.lt_size e) (M8 _)
   .exact hb z
  .rw[z] at e;cases e
 .obtain ⟨sl,e1⟩:=bs.slot b o e n hb hx
  obtain ⟨_,o',e',nf⟩:=J.ok.pB.mem hb
  have e':s0.heap.get? b=some o':=e'
  rw[e] at e';cases e'
  obtain ⟨U0,e2⟩:=k4 b { o with slots:=sl } e1 nf
  exact⟨U0,e2⟩
 .obtain ⟨o',e1⟩:=bs.there b o e hx
  by_cases z:b∈as
  .rcases has b z with z|⟨_,z⟩
   .obtain ⟨o2,e2,nf⟩:=U3 b z
    obtain ⟨sl,e3⟩:=k4 b o2 e2 nf
    exact⟨_,e3⟩
   .rw[z] at e;cases e
  .exact⟨o',P1 b o' e1 z⟩
 .refine (J.hok c o e).rN (fun b u hb q=>P1 b u q ?_) (fun _ q=>q) fun _ _ q=>q
  rcases hb with rfl|hb
  .exact trk _ _ e
  .exact trk _ _ hb
 .obtain ⟨oe,vs,T,oT,ts,g1,g2,g3,g4,g5,g6,g7,g8,g9⟩:=k3
  refine⟨oe,vs,a0,T,oT,ts,g1,g2,g3,g4,g6,g7,g8,g9,?_,?_⟩
  .cases r:H' T with
   |none=>rfl
   |some u =>
    obtain ⟨ob,e⟩:=(J.hok T u r).there
    rw[Ot as e (trk T u r)] at g5
    cases g5
  .cases r:s0.heap.get? T with
   |none=>rfl
   |some u =>
    obtain ⟨o',e1⟩:=bs.there T u r (fun z=>(nomatch z))
    by_cases z:T∈as
    .rcases has T z with z|⟨_,z⟩
     .obtain ⟨_,o2,e2,nf⟩:=k2.mem z
      rw[g7] at e2;cases e2
      exact absurd g8 (nf ts)
     .rw[z] at r;cases r
    .rw[Ot as e1 z] at g5;cases g5
def Bx{H:Hp}{s:Shared}(I:Inv (pq (CXR P w) P w K mg base N qual scope f cd A outer s0 H0 E) pins σ H s)(os:s'.os=s.os)(bare:AllBare s'.gens)
  (U:Un (frs (envOfC qual scope s0.heap.objs.size f cd::outer)) [] H H' s.heap s'.heap) (ok:HOk P w H' s'.heap) (fl:LU s'.heap H' s.heap a (.ref C)\/Fly s'.heap H' s.heap a (.ref C)) (q:E (.ref C) none H') :
  (pq (CXR P w) P w K mg base N qual scope f cd A outer s0 H0 E).xe (.ref a) s':=by
 have J:Inv (pq (CXR P w) P w K mg base N qual scope f cd A outer s0 H0 E) pins σ H' s':=I.xX os U ok bare fun b hb=>(nomatch hb)
 have up:∀b,s.heap.get? b=none->s0.heap.get? b=none:=fun b n=>by
  cases r:s0.heap.get? b with
  |none=>rfl
  |some u =>
   obtain ⟨o',e1⟩:=I.base.there b u r (fun z=>(nomatch z))
   rw[n] at e1;cases e1
 have T9:(A.deeper (envOfC qual scope s0.heap.objs.size f cd)).frames=some (envOfC qual scope s0.heap.objs.size f cd::outer):=J.ok.frames
 have Tc:s'.heap.FunFrames base (envOfC qual scope s0.heap.objs.size f cd::outer):=J.stack
 have Uv:∀env∈(envOfC qual scope s0.heap.objs.size f cd::outer),∀b,env.frame=some b->b∈frs (envOfC qual scope s0.heap.objs.size f cd::outer):=fun env he b hb=>OB.mpr ⟨env,he,hb⟩
 show wpAny _ _ _ _ _ _
 rcases fl with ⟨⟨na,fa⟩,oe,vs,a0,ge,⟨gc,g0⟩,gd,g1⟩|⟨⟨na,fa⟩,oe,vs,a0,T,oT,ts,ge,gc,gd,g1,g2,g3,g4,g5,nT,fT⟩
 .refine wpAny_leaving_firstW (base:=PySem.W.hideAll s'.heap (a::frs (envOfC qual scope s0.heap.objs.size f cd::outer))) T9
   (PySem.W.funFrames_hide Tc fun env he b hb=>mo _ (Uv env he b hb)) rfl ge (fun b o e=>Pr _ e) (NU _ (Fk ..)) gd g1 g0 fun h2 L=>?_
  rw[gc] at L
  refine vj J (fun b hb=>?_) L ⟨na,up a fa⟩ q
  rcases L8.mp hb with rfl|hb
  .exact .inr ⟨na,up _ fa⟩
  .exact .inl hb
 .refine wpAny_leaving_nextW (a0:=a0) (base:=PySem.W.hideAll s'.heap (a::T::frs (envOfC qual scope s0.heap.objs.size f cd::outer))) (cls:=.ref C) T9
   (PySem.W.funFrames_hide Tc fun env he b hb=>mo _ (mo _ (Uv env he b hb))) rfl
   ⟨oe,vs,T,oT,ts,ge,gc,gd,g1,NU _ (mo _ (Fk ..)),g2,g3,g4,g5⟩ (fun b o e=>Pr _ e) (NU _ (Fk ..)) fun h2 L=>?_
  refine vj J (fun b hb=>?_) L ⟨na,up a fa⟩ q
  rcases L8.mp hb with rfl|hb
  .exact .inr ⟨na,up _ fa⟩
  .rcases L8.mp hb with rfl|hb
   .exact .inr ⟨nT,up _ fT⟩
   .exact .inl hb
def tH:Passes (CXR P w) (pq (CXR P w) P w K mg base N qual scope f cd A outer s0 H0 E) E:=fun pins σ H s e s' I h=>by
 obtain ⟨a,C,H',rfl,os,bare,U,ok,fl,q⟩:=h
 exact Bx I os bare U ok (.inr fl) q
end
def EU(C:Addr)(E:XK)(ta:TA):TS:=fun _ σ H=>ta σ H fun vs H1=>vs.length<=1000/\E (.ref C) none H1
def Raises(X:Cx)(C:Addr)(E:XK):Prop:=∀(pins:List (Addr × Obj)) (σ:St) (H:Hp) (s:Shared) (h':Heap) (a:Addr) (us:List Value),Inv X pins σ H s->Heap.MadeExcOf s.heap h' a (.ref C) us->E (.ref C) none H->X.xe (.ref a) { s with heap:=h' }
def qX{P:Program}{w:World}{K:PySem.W.Frag}{mg:Str->Option Value}{base:Heap}{N:List Str}{qual:Str}{scope:Scope}{f:Addr}{cd:Value}{A:Around}{outer:List Env}{s0:Shared}{H0:Hp}{E:XK}{C:Addr} :
  Raises (pq (CXR P w) P w K mg base N qual scope f cd A outer s0 H0 E) C E:=fun pins σ H s h' a us I hx q=>by
 obtain ⟨t,ht,_,_⟩:=hx.there
 refine Bx (s':={ s with heap:=h' }) I rfl I.bare (Un.kept hx.keeps) (I.hok.kept hx.keeps) (.inl ⟨⟨?_,hx.new⟩,_,_,_,ht,⟨rfl,rfl⟩,rfl,rfl⟩) q
 cases r:H a with
 |none=>rfl
 |some u =>
  obtain ⟨ob,e⟩:=(I.hok a u r).there
  rw[hx.new] at e;cases e
section
variable {X:Cx}{x:Str}{C:Addr}{Zz:List Value}{B TZ Ui:String}{E:XK}{e:Expr}{es:List Expr}{ta:TA}{np PR MH:Pos}
def oC(O:OwnCls x C Zz TZ X.mg X.base)(FB:ExcBaseFacts B TZ Ui Zz)(hc:X.calm=true)(hg:Gl X x)(Vf:Raises X C E)(ha:PA X (e::es) ta)(Tn:(x == ("__debug__" : Str))=false:=by decide)
  (he:starEach (e::es) X.env=(false,eval e X.env)::starEach es X.env:=by rfl) (Ri:(backTo PR (starEach es X.env)).any (·.1)=false:=by rfl) :
  PS X (.Raise (some (.Call (.Name x np) (e::es) [] PR)) none MH) (EU C E ta):=by
 intro pins s σ H D I h
 obtain ⟨tl,N,nm,q,bs,hdct,sn,sub,ab,col,dd,k0,k1,k2,k3,k5,mN,hC,hN,Tu,T⟩:=O.obj
 refine wpAny_Raise_call_subT (C:=C) (nm:=nm) (q:=q) (N:=N) (bs:=bs) (bm:=tl) (hdct:=hdct) (sn:=sn) (sub:=sub) (ab:=ab) (col:=col) (dd:=dd) (k0:=k0) (k1:=k1) (k2:=k2) (k3:=k3) (k5:=k5)
  FB (mN:=mN) (T.hasType FB.hasBase) (I.ok.hd hc) (by rw[he];show (false || (backTo PR (starEach es X.env)).any (·.1))=false;rw[Ri];rfl) Tu (mW I hg O.bound ⟨rfl,?_⟩ Tn)
 have h1:=ha PR pins s σ H _ I h
 rw[he] at h1 ⊢
 refine Calls.evalArgs_plain (thn h1 fun us s1 ⟨vs,H1,I1,r,q1,q2⟩=>?_)
 exact⟨rfl,by show us.length<=_;rw[<- r.length];exact Ol (pS q1),I1.bk _ _ hC,hN.keeps I1.bk,T.keeps I1.bk,fun h' a hx=>Vf pins σ H1 s1 h' a us I1 hx q2⟩
end
end L2
namespace L2
open PySem PySem.Spec PyProof.Rows
abbrev VB:List Value:=[.type "ValueError",.type "Exception",.type "BaseException",.type "object"]
def eI(h:Heap)(C:Addr)(ups:List Addr):Prop:=∃N nm q bs hdct sn sub ab col dd k0 k1 k2 k3 k5 mN,
 h.get? C=some (excClassObj nm q C N bs (ups.map Value.ref++VB) hdct sn sub ab col dd k0 k1 k2 k3 k5 "ValueError.__new__")/\h.Ns N mN/\mN "__init__" = none/\OwnTail h VB (ups.map Value.ref++VB)
def eI.keeps{h h':Heap}{C:Addr}{ups:List Addr}(O:eI h C ups)(hk:∀b o,h.get? b=some o->h'.get? b=some o):eI h' C ups :=
 let ⟨N,nm,q,bs,hdct,sn,sub,ab,col,dd,k0,k1,k2,k3,k5,mN,hC,hN,Tu,T⟩:=O
 ⟨N,nm,q,bs,hdct,sn,sub,ab,col,dd,k0,k1,k2,k3,k5,mN,hk _ _ hC,hN.keeps hk,Tu,T.keeps hk⟩
def eI.own{h:Heap}{C:Addr}{ups:List Addr}{mg:Str->Option Value}{x:Str}(O:eI h C ups)(hm:mg x=some (.ref C)):OwnCls x C VB "ValueError.__new__" mg h :=
 let ⟨N,nm,q,bs,hdct,sn,sub,ab,col,dd,k0,k1,k2,k3,k5,mN,hC,hN,Tu,T⟩:=O
 ⟨hm,_,N,nm,q,bs,hdct,sn,sub,ab,col,dd,k0,k1,k2,k3,k5,mN,hC,hN,Tu,T⟩
def tp{M:Model}{A:Around}{E:Value->Shared->Prop}{s:Shared}{C D e:Addr}{ups VZ:List Addr}{oe:Obj}{Q:Bool->Shared->Prop}(OC:eI s.heap C ups)(OD:eI s.heap D VZ)
  (he:s.heap.get? e=some oe) (UA:oe.cls=.ref C) (hb:(C::ups).contains D=true) (hq:Q true s):wpAny M A (excMatches (.ref e) (.ref D)) Q E s:=by
 obtain ⟨h,g,d,t,os⟩:=s
 obtain ⟨N,nm,q,bs,hdct,sn,sub,ab,col,dd,k0,k1,k2,k3,k5,mN,hC,hN,Tu,T⟩:=OC
 obtain ⟨N',nm',q',bs',Y9,sn',aar,ab',acG,Tr,l0,l1,l2,l3,l5,mN',hD,Yk,abw,T'⟩:=OD
 have hcB:(Value.ref D::(VZ.map Value.ref++VB)).contains (.type "BaseException")=true:=by
  rw[List.contains_cons,T'.hasType (b:=true) rfl,Bool.or_true]
 have hcC:(Value.ref C::(ups.map Value.ref++VB)).contains (.ref D)=true:=by
  rw[List.contains_iff_mem] at hb ⊢
  rcases L8.mp hb with rfl|hb
  .exact Fk ..
  .exact mo _ (Mf _ (List.mem_map_of_mem hb))
 have f:=tc_notTuple
 unfold excMatches
 repeat (first|(with_reducible refine wpAny_loadPart_at he ?_;rw[UA])|with_reducible refine wpAny_loadPart_at hD ?_|(with_reducible refine wpAny_isSubtype_exc hD ?_;rw[hcB])|(with_reducible refine wpAny_isSubtype_exc hC ?_;rw[hcC])|wp_step)
 exact hq
section
variable {X:Cx}{pins:List (Addr × Obj)}{σ:St}{H H':Hp}{s s':Shared}{a C:Addr}{a0:Value}{h:Heap}
def tD{T:Addr}(I:Inv X pins σ H s)(os:s'.os=s.os)(bare:AllBare s'.gens)(U:Un (frs X.stack) [] H H' s.heap s'.heap)(ok:HOk X.prog X.w H' s'.heap)
  (na:H' a=none) (fa:s.heap.get? a=none) (nT:H' T=none) (fT:s.heap.get? T=none)
  (RJ:Heap.FlyingW (PySem.W.hideAll s'.heap (a::T::frs X.stack)) X.stack a (.ref C) a0 h) (Wa:s'.heap.UpToSlots h) :
  ∃oe,Inv X ((a,oe)::pins) σ H' { s' with heap:=h }/\oe.cls=.ref C/\h.get? a=some oe:=by
 obtain ⟨k1,k2,k3,oe,vs,T',oT,ts,g1,⟨g2,_⟩,g3,_⟩:=RJ
 have P1:∀b o,s'.heap.get? b=some o->b≠a->b≠T->b∉frs X.stack->h.get? b=some o:=fun b o e n1 n2 n3=>k1 b o (Ot _ e fun z=>by
  rcases L8.mp z with z|z
  .exact n1 z
  .rcases L8.mp z with z|z
   .exact n2 z
   .exact n3 z)
 have old:∀b o,s.heap.get? b=some o->b≠a/\b≠T:=fun b o e=>⟨fun z=>(by rw[z,fa] at e;cases e),fun z=>(by rw[z,fT] at e;cases e)⟩
 have J:Inv X pins σ H' s':=I.xX os U ok bare fun b hb=>(nomatch hb)
 have un:Un (frs X.stack) [] H H' s.heap h:=by
  refine⟨fun b o e n hb hx=>P1 b o (U.keep b o e n hb hx) (old b o e).1 (old b o e).2 hb,fun b o e n hb hx=>?_,U.free,fun b o e hx=>?_,U.tups,U.frzs,U.tbls⟩
  .obtain ⟨sl,e1⟩:=U.slot b o e n hb hx
   obtain ⟨_,o',e',nf⟩:=I.stack.mem hb
   rw[e] at e';cases e'
   obtain ⟨U0,e2⟩:=Wa b { o with slots:=sl } e1 nf
   exact⟨U0,e2⟩
  .obtain ⟨o',e1⟩:=U.there b o e hx
   by_cases z:b∈frs X.stack
   .obtain ⟨_,o2,e2,nf⟩:=J.stack.mem z
    obtain ⟨sl,e3⟩:=Wa b o2 e2 nf
    exact⟨_,e3⟩
   .exact⟨o',P1 b o' e1 (old b o e).1 (old b o e).2 z⟩
 have trk:∀b u,H' b=some u->b≠a/\b≠T/\b∉frs X.stack:=fun b u e=>⟨fun z=>(by rw[z,na] at e;cases e),fun z=>(by rw[z,nT] at e;cases e),fun z=>(by rw[J.ra b z] at e;cases e)⟩
 have ok':HOk X.prog X.w H' h:=fun c o e=>(ok c o e).rN (fun b u hb q=>by
  have t:b≠a/\b≠T/\b∉frs X.stack:=by
   rcases hb with rfl|hb
   .exact trk _ _ e
   .exact trk _ _ hb
  exact P1 b u q t.1 t.2.1 t.2.2) (fun _ q=>q) fun _ _ q=>q
 have J6:Inv X pins σ H' { s' with heap:=h }:=I.xX (s':={ s' with heap:=h }) os un ok' bare fun b hb=>(nomatch hb)
 refine⟨oe,J6.pA fun p hp=>?_,g2,g1⟩
 rcases L8.mp hp with rfl|hp
 .refine⟨g1,na,fun z=>?_,fun z=>?_,fun v z=>by rw[g3] at z;cases z⟩
  .obtain ⟨m,⟨o,_,_,e,_⟩,_⟩:=I.loc
   have z:a=X.env.locals:=z
   rw[<- z,fa] at e;cases e
  .have z:a∈frs X.stack:=by
    rcases I.ok.stk with e|⟨e,_⟩
    .rw[e];exact z
    .rw[e];unfold frs;rw[Ph]
     split
     .exact z
     .exact mo _ z
   obtain ⟨_,o,e,_⟩:=I.stack.mem z
   rw[fa] at e;cases e
 .exact J6.pin p (KE _ hp)
end
end L2
namespace L2
open PySem PySem.Spec PyProof.Rows
abbrev Cx.held(X:Cx)(a:Addr)(oe:Obj):Cx:={ X with A:=X.A.mark (some (.ref a)),calm:=false,pn:=(a,oe)::X.pn,xe:=fun _ _=>False }
section
variable {X:Cx}{pins:List (Addr × Obj)}{σ:St}{H:Hp}{s:Shared}{a:Addr}{oe:Obj}
def zq{A:Around}{u:Option Value}:(A.mark u).frames=A.frames:=by cases A;rfl
def Cx.Ok.held(ok:X.Ok):(X.held a oe).Ok :=
 ⟨ok.mod,ok.kind,ok.glob,ok.blt,ok.above,ok.inj,ok.has,ok.cab,(fun z=>absurd z (by show ¬ (false=true);decide)),zq.trans ok.frames,ok.stk,ok.exf,ok.bs,ok.bsz,ok.noex,ok.exfs,ok.pB,ok.frf⟩
def Inv.held(I:Inv X ((a,oe)::pins) σ H s):Inv (X.held a oe) pins σ H s :=
 ⟨I.ok.held,I.os,I.bare,I.base,I.loc,I.cell,I.free,I.freeC,fun p hp=>I.pin p (by
  have hp:p∈((a,oe)::X.pn)++pins:=hp
  simp only[List.cons_append,L8,Mc] at hp ⊢
  rcases hp with h|h|h
  .exact .inr (.inl h)
  .exact .inl h
  .exact .inr (.inr h)),I.hok,I.len⟩
def Inv.Et(ok:X.Ok)(I:Inv (X.held a oe) pins σ H s):Inv X pins σ H s :=
 ⟨ok,I.os,I.bare,I.base,I.loc,I.cell,I.free,I.freeC,fun p hp=>I.pin p (mo _ hp),I.hok,I.len⟩
end
section
variable {X:Cx}{CX:CXT}{k:Nat}{f:Addr}{fd:FuncData}{ps:List Str}{sp:Sp}{E:XK}{e:Expr}
def HX{XE:Value->Shared->Prop}{pins:List (Addr × Obj)}{σ:St}{H:Hp}{s:Shared}{Q:VK}{us:List Value}{vs:List V}(F:aI X.prog X.w X.K X.mg X.base CX k f fd ps sp)(hr:hX k X.A)(hb:Binds X.K fd ps [])
  (I:Inv X pins σ H s) (r:Vals vs us) (h:sp vs H Q E) (hx:∀e s',CX X.stack H s E e s'->XE e s'):wpAny (model X.prog X.w) X.A (call (.ref f) us) (EP X pins σ Q) XE s:=by
 have hl:(us++[]).length=ps.length:=by rw[MV,<- r.length];exact F.len _ _ _ _ h
 have Tq:=hb s us I.kIn hl
 rw[MV] at Tq
 refine wpAny_call (codeAny_mono (F.run X.A X.stack s H ⟨us,[]⟩ us vs Q E hr I.yY Tq r h) fun r s' hq=>?_)
 cases r with
 |error e=>exact hx e s' hq
 |ok fl =>
  cases fl with
  |ret u=>exact I.after hq
  |next=>exact False.elim hq
  |brk=>exact False.elim hq
  |cont=>exact False.elim hq
end
end L2
namespace L3
open PySem L2
abbrev DSX:=List D->DK->(Addr->Prop)->Prop
def ja(S:DSX):Prop:=∀xs (P P':DK) (R R':Addr->Prop),(∀z,P z->P' z)->(∀C,R C->R' C)->S xs P R->S xs P' R'
def spX(K:PySem.W.Frag)(S:DSX):Sp:=fun vs H Q E=>∃ds,Rps K H ds vs/\iy K H/\S ds (fun x=>∀v H' fp,Same H H'->Rf K H' x v fp->Nw H H' nf [] fp->Q v H') (fun C=>∀H',Same H H'->E (.ref C) none H')
def SX(K:PySem.W.Frag)(ρ:Bool)(Γr Γl:List Nat)(R:Addr->Prop)(t:XK->TS)(Γ Γn:List Nat)(d:DS):Prop :=
 ∀⦃B0:Hp⦄ ⦃Dn:Ends⦄ ⦃E:cf⦄ ⦃Ex:XK⦄ ⦃fps:Nat->List Addr⦄ ⦃δ:Dl⦄ ⦃σ:St⦄ ⦃H:Hp⦄,(∀C H',Same B0 H'->R C->Ex (.ref C) none H')->EOk K ρ Γr Γl Γn B0 Dn E->Ok K B0 Γ fps δ σ H->d E δ->t Ex Dn σ H
section
variable {K:PySem.W.Frag}{ρ:Bool}{Γr Γl Γ Ud UX Γn M:List Nat}{R:Addr->Prop}{t u:XK->TS}{t0:TS}{d e:DS}{C:Addr}{S:DSX}{ta:TA}{da:DA}
def ST.sx(h:ST K ρ Γr Γl t0 Γ Γn d):SX K ρ Γr Γl R (fun _=>t0) Γ Γn d:=fun _ _ _ _ _ _ _ _ _ k o q=>h k o q
def i8(h1:SX K ρ Γr Γl R t Γ Ud d)(h2:SX K ρ Γr Γl R u Ud UX e):SX K ρ Γr Γl R (fun Ex=>zH (t Ex) (u Ex)) Γ UX (Hy d e) :=
 fun {B0 Dn E Ex fps δ σ H} x k o h=>h1 (Dn:={ Dn with nx:=u Ex Dn }) (E:={ E with nx:=e E }) x ⟨fun o h=>h2 x k o h,k.bk,k.ct,k.rt⟩ o h
def Cr{c:TT}{dc:DT}(hc:TR K Γ c dc)(h1:SX K ρ Γr Γl R t Γ Γn d)(h2:SX K ρ Γr Γl R u Γ Γn e):SX K ρ Γr Γl R (fun Ex=>Hg c (t Ex) (u Ex)) Γ Γn (Hk dc d e) :=
 fun _ _ _ _ _ _ _ _ x k o h=>hc.run o (hc.mono _ _ _ (fun b z H' s=>fh (fun z=>h1 x k (o.same s) z) (fun z=>h2 x k (o.same s) z) z) h)
def Au(C:Addr)(R:Addr->Prop)(da:DA)(_:cf)(δ:Dl):Prop:=da δ fun xs=>xs.length<=1000/\R C
def o7(ha:AR K Γ ta da):SX K ρ Γr Γl R (fun Ex=>EU C Ex ta) Γ Γn (Au C R da) :=
 fun {B0 Dn E Ex fps δ σ H} x k o h=>ha.run o (ha.mono _ _ _ (fun xs z vs H' s r=>by
  obtain ⟨fp,r⟩:=r
  exact⟨by rw[r.length];exact z.1,x C H' (o.b0.trans s) z.2⟩) h)
def zZ(S:DSX)(R:Addr->Prop)(da:DA)(E:cf)(δ:Dl):Prop:=da δ fun xs=>S xs (fun _=>E.nx δ) R
def xu(hS:ja S)(ha:AR K Γ ta da):SX K ρ Γr Γl R (fun Ex=>Bg (tq (spX K S) [] Ex ta)) Γ Γ (zZ S R da) :=
 fun {B0 Dn E Ex fps δ σ H} x k o h=>ha.run o (ha.mono _ _ _ (fun xs z vs H' s r=>⟨xs,by rw[MV];exact r,(o.b0.trans s).now,
  hS _ _ _ _ _ (fun _ z v H2 fp s2 _ _=>k.nx (o.same (s.trans s2)) z) (fun C z H2 s2=>x C H2 (o.b0.trans (s.trans s2)) z) z⟩) h)
def Er(S:DSX)(R:Addr->Prop)(i:Nat)(da:DA)(E:cf)(δ:Dl):Prop:=da δ fun xs=>S xs (fun x=>E.nx (δ.set i (some x))) R
def yA{Ex:XK}{B0:Hp}{fps:Nat->List Addr}{δ:Dl}{σ:St}{H:Hp}{Q:VK}(hS:ja S)(ha:AR K Γ ta da)(x:∀C H',Same B0 H'->R C->Ex (.ref C) none H')(o:Ok K B0 Γ fps δ σ H)
  (h:da δ fun xs=>S xs (fun z=>∀v H' fp,Same H H'->Rf K H' z v fp->Nw H H' fps [] fp->Q v H') R):tq (spX K S) [] Ex ta σ H Q :=
 ha.run o (ha.mono _ _ _ (fun xs z vs H1 s1 r1=>⟨xs,by rw[MV];exact r1,(o.b0.trans s1).now,hS _ _ _ _ _ (fun u z u' H' fp s r n=>z u' H' fp (s1.trans s) r (n.any.later s1)) (fun C z H2 s2=>x C H2 (o.b0.trans (s1.trans s2)) z) z⟩) h)
def DL(i:Nat)(hS:ja S)(ha:AR K Γ ta da):SX K ρ Γr Γl R (fun Ex=>mn (tq (spX K S) [] Ex ta) (kP i)) Γ (i::minus (minus Γ []) [i]) (Er S R i da) :=
 fun {B0 Dn E Ex fps δ σ H} x k o h=>yA hS ha x o (ha.mono _ _ _ (fun xs z=>hS _ _ _ _ _ (fun y z v H' fp s r n=>k.nx (o.D8 (M:=[]) i (fun _ h=>(nomatch h)) s r n) z) (fun _ z=>z) z) h)
def mS{N:List Str}{dR:(Addr->Prop)->DS}(hs:∀R,SX K true [] [] R t [] Γn (dR R))(hd:∀ds P R,S ds P R->dR R (qt P) (aL N ds)) :
  ∀{vs H Q E},spX K S vs H Q E->t E { nx:=fun _ H'=>Q .non H',rt:=Q } (L2.start N vs) H:=by
 rintro vs H Q E ⟨ds,r,tv,h⟩
 obtain ⟨fps,o⟩:=mf (N:=N) r tv
 refine hs _ (E:=qt _) (Ex:=E) (fun C H' s z=>z H' s) ⟨fun {fps δ σ H'} o z=>?_,fun o (z:False)=>z.elim,fun o (z:False)=>z.elim,fun o r i z=>?_⟩ o (hd ds _ _ h)
 .exact z _ H' [] o.b0 ⟨rfl,rfl⟩ Nw.nil
 .exact z _ _ _ o.b0 r ⟨(i rfl).nd,(i rfl).mu,fun a ha=>.inl ((i rfl).nw a ha)⟩
def noX(S:DSX):DSp:=fun ds P=>S ds P fun _=>False
def DG(hS:ja S):bE (noX S):=fun xs P P' k h=>hS _ _ _ _ _ k (fun _ z=>z) h
def Em{Ex:XK}(hS:ja S)(ha:AR K Γ ta da):EM K Γ [] (tq (spX K S) [] Ex ta) (ql (noX S) da) :=
 ⟨fun δ P P' k h=>ha.mono _ _ _ (fun y z=>DG hS _ _ _ k z) h,fun {B0 fps δ σ H Q} o q=>yA (R:=fun _=>False) hS ha (fun _ _ _ z=>z.elim) o q⟩
end
end L3
namespace PySem.W
open PySem PySem.Spec PySem.Calls PyProof.Rows
section
variable {K:Frag}{C:Addr}
structure G3(K:Frag)(C:Addr):Prop where
 ga:findIn K (.ref C) "__getattribute__" = some (some (.builtin "BaseException.__getattribute__"))
 ge:findIn K (.ref C) "__getattr__" = some none
 cl:findIn K (.ref C) "__class__" = some (some (.builtin "object.__class__"))
 ob:mroIn K C (.type "object")=some true
 be:mroIn K C (.type "BaseException")=some true
 is:(clsIn K C).isSome=true
end
end PySem.W
namespace L2
open PySem PySem.Spec PyProof.Rows
section
end
end L2
namespace L2
open PySem PySem.Spec PyProof.Rows
section
end
section
variable {P:Program}{w:World}{K:PySem.W.Frag}{mg:Str->Option Value}{base:Heap}
def Fun.okX{x qual:Str}{st:Stmt}{f:Addr}{fd:FuncData}{N ps:List Str}{k:Nat}{sp:Sp}(F:Fun K x qual st f fd)(S:aE N ps (ak st))(len:∀vs H Q E,sp vs H Q E->vs.length=ps.length)
  (P4:∀(cdv:Value) (A:Around) (outer:List Env) (s:Shared) (H:Hp) (vs:List V) (Q:VK) (E:XK),hX k (A.deeper (envOfC qual (ak st) s.heap.objs.size f cdv))->sp vs H Q E ->
   ∃t,PSs (pq (CXR P w) P w K mg base N qual (ak st) f cdv A outer s H E) (aD st) t/\t { nx:=fun _ H'=>Q .non H',rt:=Q } (start N vs) H):aI P w K mg base (CXR P w) (k+1) f fd ps sp:=by
 obtain ⟨oc,od,kV,doc,pm,an,cdv,ct,osl,rfl,lk,PJ⟩:=F.ex
 exact Gz lk PJ S len fun A outer s H vs Q E hr S6=>P4 cdv A outer s H vs Q E hr S6
end
def eI.of_lookup{K:PySem.W.Frag}{h:Heap}{C:Addr}{ups:List Addr}{YU:List Value}{dd:Option Addr}{nm qn:Str}{bs:List Value}{ns:Addr}{hd:Bool}{sn:List Str}{sub:List Value}{ab:Bool}{col:Option Bool}{k0 k1 k2 k3 k5:Option Value}(X:K.In h)
  (u:K.lookup C=some ⟨.type "type",dd,.cls ⟨nm,bs,YU,ns,qn,hd,sn,sub,ab,col,false⟩,#[k0,k1,k2,k3,some (.builtin "ValueError.__new__"),k5]⟩) (hm:YU=.ref C::(ups.map Value.ref++VB)) (v:PySem.W.excIn K C VB "ValueError.__new__" = true):eI h C ups:=by
 subst hm
 unfold PySem.W.excIn at v
 rw[u] at v
 simp only[Nb,beq_iff_eq,Bool.not_eq_true'] at v
 obtain ⟨⟨⟨_,ht⟩,hok⟩,Tu⟩:=v
 exact⟨ns,nm,qn,bs,hd,sn,sub,ab,col,dd,k0,k1,k2,k3,k5,_,X _ _ u,.of_isNs (PySem.W.isNs_of_in X hok),PySem.W.nsMap_none_of_in X hok Tu,PySem.W.tail_of_in X ht⟩
def IM{X:Cx}{P:Program}{w:World}:Passes (CXR P w) X E0:=fun _ _ _ _ _ _ _ h=>by
 obtain ⟨_,_,_,_,_,_,_,_,_,q⟩:=h
 exact q.elim
end L2
namespace L3
open PySem L2
section
end
def m4{K:PySem.W.Frag}{S:DSX}{n:Nat}(hS:∀ds P R,S ds P R->ds.length=n){vs:List V}{H:Hp}{Q:VK}{E:XK}(h:spX K S vs H Q E):vs.length=n:=by
 obtain ⟨ds,⟨fp,r⟩,_,h⟩:=h
 rw[r.length];exact hS _ _ _ h
end L3
namespace L2
open PySem
def PA.nox{X:Cx}{es:List Expr}{t:TA}(h:PA X.nox es t):PA X es t:=fun MH pins s σ H Q I hw =>
 wpAny_mono (h MH pins s σ H Q (I.oR _) hw) (fun _ _ ⟨v,H',I',r,q⟩=>⟨v,H',I'.jd,r,q⟩) fun _ _ z=>False.elim z
def PS.nox{X:Cx}{st:Stmt}{t:TS}(h:PS X.nox st t):PS X st t:=fun pins s σ H D I hw =>
 wpAny_mono (h pins s σ H D (I.oR _) hw) (fun _ _ q=>q.jd) fun _ _ z=>False.elim z
end L2
namespace L2
open PySem PySem.Spec PyProof.Rows
section
end
end L2
namespace L3
open PySem L2
section
end
end L3
namespace L2
open PySem PySem.Spec PyProof.Rows
section
section
end
end
section
end
section
end
end L2
namespace L3
open PySem L2
section
end
end L3
namespace L2
open PySem PySem.Spec PySem.Calls PyProof.Rows
abbrev kK(n:Nat):List Int:=(List.range n).map fun (k:Nat)=>(k:Int)
def CA:∀{vs:List Value}{ns:List Int},vs.length=ns.length->(∀(j:Nat) v,vs[j]?=some v->∃z t,ns[j]?=some z/\v=.int z t)->IntsAre vs ns
 |[],[],_,_=>.nil
 |v::vs,n::ns,hl,h=>by
  obtain ⟨z,t,e1,rfl⟩:=h 0 v rfl
  cases e1
  exact .cons _ _ (CA (by simpa using hl) fun j v hv=>h (j+1) v (by rw[List.getElem?_cons_succ];exact hv))
 |[],_::_,hl,_=>by simp at hl
 |_::_,[],hl,_=>by simp at hl
section
variable {prog:Program}{w:World}{A:Around}{E:Value->Shared->Prop}{s:Shared}
def yd{R:List Value->Shared->Prop}{r:Addr}{n:Nat}{t u v:Tok}(hh:A.handled=none)(hr:IsRange s.heap r 0 (n:Int) 1 t u v)(OE:n<=2 ^ 24)
  (h:∀(h':Heap) (tk:Nat) (vs:List Value),(∀b o,s.heap.get? b=some o->h'.get? b=some o)->s.heap.objs.size<h'.objs.size->IntsAre vs (kK n)->R vs { s with heap:=h',toks:=tk }) :
  wpAny (model prog w) A (collect (.ref r)) R E s:=by
 have hsz:Builtin.Range.rangeSize 0 (n:Int) 1=n:=by unfold Builtin.Range.rangeSize;rw[if_pos (by decide)];split<;>omega
 have hsm:Builtin.Range.small 0 (n:Int) 1=true:=small_one (by decide) (by decide) (by omega) (by omega)
 have items:∀{acc:Array Value},ItemsOf (fun i v=>∃t,v=.int (0+i*1) t) acc n->IntsAre acc.toList (kK n):=fun {acc} hI=>by
  refine CA (by rw[MY,hI.1,ox,Md]) fun j v hv=>?_
  have hj:j<n:=by rw[<- hI.1,<- MY];exact (L7.mp hv).1
  obtain ⟨t,rfl⟩:=hI.2 j v (by simpa using hv)
  exact⟨j,t,by rw[L9,MK hj];rfl,by simp⟩
 unfold collect
 refine wpAny_bind (wpAny_runValue (codeAny_builtin entry_proto_collect' ?_))
 rw[Around.under_plainId PySem.F.plain_proto_collect _]
 show wpAny _ A.in1 (newList [] >>= fun l=>again (.builtin "list.__iadd__" ⟨[l,.ref r],[]⟩)) _ _ s
 refine wpAny_bind (wpAny_newObj_type ?_)
 refine wpAny_pure ⟨plainId_quiet PySem.F.plain_list_iadd _,codeAny_builtin entry_list_iadd' ?_⟩
 rw[Around.under_plainId PySem.F.plain_list_iadd _]
 have VF:(s.heap.push { cls:=.type "list",data:=.seq ([]:List Value).toArray }).get? s.heap.objs.size=some { cls:=.type "list",data:=.seq #[] }:=Heap.get?_push_size _ rfl
 show wpAny _ A.in1 (Builtin.List.listExtendWith (.ref s.heap.objs.size) (.ref r) (.ref s.heap.objs.size)) _ _ _
 have key:=wpAny_extend_range (A:=A) (prog:=prog) (w:=w) (s:={ s with heap:=s.heap.push { cls:=.type "list",data:=.seq ([]:List Value).toArray } })
  (R:=fun (q:Result) (s':Shared)=>∃(h':Heap) (tk:Nat) (P6:Array Value) (c':Nat),q=.ok (.ret (.ref s.heap.objs.size))/\s'={ s with heap:=h',toks:=tk } /\
   (∀b o,s.heap.get? b=some o->h'.get? b=some o)/\h'.get? s.heap.objs.size=some { cls:=.type "list",dict:=none,data:=.seq P6 c',slots:=#[] }/\IntsAre P6.toList (kK n))
  hh (Heap.get?_push_of_some _ hr) hsm hsz OE s.heap.objs.size (.ref s.heap.objs.size) 0 VF
  (fun h' tk P6 c' hk Sv hI=>⟨h',tk,P6,c',rfl,rfl,fun b o e=>hk b o (MG (Heap.lt_size e)) (Heap.get?_push_of_some _ e),Sv,items hI⟩)
 refine wpAny_mono key (fun Pz s' x=>?_) fun e s' x=>?_
 .cases Pz with
  |done f =>
   obtain ⟨h',tk,P6,c',e,rfl,hk,Sv,hI⟩:=x
   cases e
   show wpAny _ A (load s.heap.objs.size >>= _) _ _ _
   refine wpAny_bind (wpAny_load Sv ?_)
   exact wpAny_pure (h h' tk P6.toList hk (Heap.lt_size Sv) hI)
  |again acF =>
   refine⟨x.1,codeAny_mono x.2 fun q PQ y=>?_⟩
   obtain ⟨h',tk,P6,c',rfl,rfl,hk,Sv,hI⟩:=y
   show wpAny _ A (load s.heap.objs.size >>= _) _ _ _
   refine wpAny_bind (wpAny_load Sv ?_)
   exact wpAny_pure (h h' tk P6.toList hk (Heap.lt_size Sv) hI)
 .obtain ⟨_,_,_,_,e',_⟩:=x
  cases e'
def Ak(h:Heap)(L:Addr):List (Addr × Obj):=(List.range h.objs.size).filterMap fun a=>if a=L then none else (h.get? a).map fun o=>(a,o)
def og{h:Heap}{L a:Addr}{o:Obj}:(a,o)∈Ak h L↔a≠L/\h.get? a=some o:=by
 unfold Ak
 rw[OB]
 constructor
 .rintro ⟨b,_,e⟩
  by_cases hb:b=L
  .rw[if_pos hb] at e;cases e
  .rw[if_neg hb] at e
   cases q:h.get? b with
   |none=>rw[q] at e;cases e
   |some o'=>rw[q] at e;cases e;exact⟨hb,q⟩
 .rintro ⟨h1,h2⟩
  exact⟨a,Ms.mpr (Heap.lt_size h2),by rw[if_neg h1,h2];rfl⟩
def intOf:Value->Int
 |.int z _=>z
 |_=>0
def xD:∀{vs:List Value}{ns:List Int},IntsAre vs ns->∀(j:Nat) v,vs[j]?=some v->∃z t,ns[j]?=some z/\v=.int z t
 |_,_,.nil,j,v,h=>by simp at h
 |_,_,.cons n t hr,0,v,h=>by cases h;exact⟨n,t,rfl,rfl⟩
 |_,_,.cons n t hr,j+1,v,h=>by
  rw[List.getElem?_cons_succ] at h ⊢
  exact xD hr j v h
def intsAre_map:∀{vs:List Value},(∀v∈vs,∃t,v=.int (intOf v) t)->IntsAre vs (vs.map intOf)
 |[],_=>.nil
 |v::vs,h=>by
  obtain ⟨t,e⟩:=h v Fk
  rw[Mb,e]
  exact .cons _ _ (intsAre_map fun x hx=>h x (mo _ hx))
def y7:∀{vs:List Value}{ns:List Int},IntsAre vs ns->vs.map intOf=ns
 |_,_,.nil=>rfl
 |_,_,.cons n t hr=>by rw[Mb,y7 hr];rfl
def Ad{Q:Value->Shared->Prop}{r f L:Addr}{n:Nat}{t u v:Tok}{m:Str->Option Value}{key:Nat->Int}(hh:A.handled=none)(hr:IsRange s.heap r 0 (n:Int) 1 t u v)(Tx:n<64)(hL:s.heap.Ns L m)
  (turn:∀(j:Nat) (t0:Tok) (h:Heap) (tk:Nat),j<n->(∀b o,b≠L->s.heap.get? b=some o->h.get? b=some o)->h.Ns L m ->
   wpAny (model prog w) A.in1.in1 (call (.ref f) [.int (j:Int) t0]) (fun v s2=>∃h' UY t',s2={ s with heap:=h',toks:=UY }/\v=.int (key j) t'/\(∀b o,b≠L->h.get? b=some o->h'.get? b=some o)/\h'.Ns L m) (fun _ _=>False) { s with heap:=h,toks:=tk })
  (hQ:∀(h':Heap) (tk:Nat) (D:Addr) (out:Array Value) (c:Nat) (ms:List Int),(∀b o,b≠L->s.heap.get? b=some o->h'.get? b=some o)->h'.Ns L m->h'.get? D=some (seqObj "list" out c)->s.heap.objs.size<=D ->
   IntsAre out.toList ms->ms.Perm (kK n)->ms.Pairwise (fun a b=>key a.toNat<=key b.toNat)->Q (.ref D) { s with heap:=h',toks:=tk }) :
  wpAny (model prog w) A (call (.builtin "sorted") [.ref r] [(Str.ofString "key",.ref f)]) Q E s:=by
 refine call_function_entry_kw kind_sorted plain_sorted entry_sorted (ksk_s1 _ _) ?_
 unfold Builtin.«sorted»
 refine wpAny_bind (m:=checkCount "sorted" 1 1 _) (wpAny_pure ?_)
 refine wpAny_bind (yd (A:=A.in1) hh hr (by omega) fun h1 YG vs k1 XU Vg=>?_)
 have V7:vs.length=n:=by rw[Vg.length,ox,Md]
 refine wpAny_bind (wpAny_newList ?_ (by rw[sizeLine_eq];omega))
 have T5:(h1.push (seqObj "list" vs.toArray 0)).get? h1.objs.size=some (seqObj "list" vs.toArray 0):=Heap.get?_push_size _ rfl
 have k2:∀b o,s.heap.get? b=some o->(h1.push (seqObj "list" vs.toArray 0)).get? b=some o:=fun b o e=>Heap.get?_push_of_some _ (k1 b o e)
 have SO:s.heap.objs.size<=h1.objs.size:=Ol XU
 show wpAny _ _ _ _ _ { s with heap:=h1.push (seqObj "list" vs.toArray 0),toks:=YG }
 refine wpAny_bind (wpAny_holding (wpAny_call_entry_kw slot_list_sort ⟨_,T5,rfl⟩ entry_list_sort ?body (ksk_l1 _ _)))
 show wpAny (model prog w) A.in1.in1 (Builtin.«list.sort» ⟨[.ref h1.objs.size],[(Str.ofString "key",.ref f)]⟩) _ _ _
 rw[ksk_t1]
 have hLn:(h1.push (seqObj "list" vs.toArray 0)).Ns L m:=by
  obtain ⟨o,es,ep,e1,e2⟩:=hL
  exact⟨o,es,ep,k2 L o e1,e2⟩
 have Ym:L<s.heap.objs.size:=hL.lt
 have Yl:h1.objs.size≠L:=Nat.ne_of_gt (Mo Ym SO)
 refine ksk_sort (kz:=(List.range n).map key) (h₀:=⟨#[],{}⟩) (L:=L) (m:=m) (news:=(Ak (h1.push (seqObj "list" vs.toArray 0)) L).filter fun p=>decide (p.1≠h1.objs.size)) (s:={ s with heap:=h1.push (seqObj "list" vs.toArray 0),toks:=YG })
  ⟨hLn,fun b o e=>by simp [Heap.get?] at e,NG _⟩ (fun p hp=>?_) T5 Yl (by simp [Heap.get?]) (fun p hp=>of_decide_eq_true (MZ.mp hp).2) (by rw[ox,Md,V7]) (by omega) ?_ ?_
 .obtain ⟨q1,q2⟩:=og.mp (MZ.mp hp).1
  exact⟨q2,q1,by simp [Heap.get?]⟩
 .intro i v k hv hk h tk own F N
  obtain ⟨z,t0,e1,rfl⟩:=xD Vg i v hv
  have hi:i<n:=by rw[<- V7];exact (L7.mp hv).1
  rw[L9,MK hi] at e1 hk
  cases e1
  cases hk
  have kh:∀b o,b≠L->s.heap.get? b=some o->h.get? b=some o:=fun b o hb e =>
   (N (b,o) (Mf _ (MZ.mpr ⟨og.mpr ⟨hb,k2 b o e⟩,decide_eq_true (MG (Mo (Heap.lt_size e) SO))⟩))).1
  refine wpAny_mono (turn i t0 h tk hi kh F.ns) (fun v s2 ⟨h',UY,t',e1,e2,kk,nn⟩=>?_) fun _ _ z=>z
  exact⟨h',UY,t',e1,e2,⟨nn,fun b o e=>by simp [Heap.get?] at e,NG _⟩,fun p hp=>⟨kk _ _ (N p hp).2.1 (N p hp).1,(N p hp).2⟩⟩
 .intro h' tk out c F N ⟨ps,hp,ho,hs⟩
  refine⟨_,rfl,wpAny_pure ⟨_,rfl,?_⟩⟩
  have hz:∀p∈ps,(∃t,p.2=.int (intOf p.2) t)/\p.1=key (intOf p.2).toNat:=fun p Xu=>by
   obtain ⟨j,hj⟩:=List.mem_iff_getElem?.mp (hp.mem_iff.mp Xu)
   obtain ⟨g1,g2⟩:=List.getElem?_zip_eq_some.mp hj
   obtain ⟨z,t0,e1,e2⟩:=xD Vg j _ g2
   have hjn:j<n:=by rw[<- V7];exact (L7.mp g2).1
   rw[L9,MK hjn] at e1 g1
   cases e1
   refine⟨⟨t0,by rw[e2];rfl⟩,?_⟩
   rw[e2]
   show p.1=key (j:Int).toNat
   rw[Mg]
   exact (MB g1).symm
  refine hQ h' tk h1.objs.size out c (ps.map fun p=>intOf p.2) (fun b o hb e=>?_) F.ns (N _ Fk).1 SO ?_ ?_ ?_
  .exact (N (b,o) (mo _ (MZ.mpr ⟨og.mpr ⟨hb,k2 b o e⟩,decide_eq_true (MG (Mo (Heap.lt_size e) SO))⟩))).1
  .rw[ho,show (ps.map fun p=>intOf p.2)=(ps.map Prod.snd).map intOf by rw[Mp];rfl]
   refine intsAre_map fun v hv=>?_
   obtain ⟨p,Xu,rfl⟩:=Ma.mp hv
   exact (hz p Xu).1
  .refine (hp.map fun p=>intOf p.2).trans ?_
   rw[show (((List.range n).map key).zip vs).map (fun p=>intOf p.2)=(((List.range n).map key).zip vs |>.map Prod.snd).map intOf by rw[Mp];rfl,List.map_snd_zip (by rw[ox,Md,V7];exact Mi _),y7 Vg]
  .rw[List.pairwise_map]
   refine hs.imp_of_mem fun {a b} ha hb h=>?_
   rw[<- (hz a ha).2,<- (hz b hb).2]
   exact h
end
end L2
namespace L2
open PySem PySem.Spec PySem.Calls PyProof.Rows
abbrev qL(x y:Str)(p1 p2 p3 p4:Pos):Expr:=.UnaryOp .USub (.Subscript (.Name x p1) (.Name y p2) p3) p4
section
variable {prog:Program}{w:World}{A:Around}{E:Value->Shared->Prop}{s:Shared}
def EE{Q:Value->Shared->Prop}{f c' cr a:Addr}{q x y:Str}{Nc:Arguments}{scope:Scope}{p1 p2 p3 p4:Pos}{pm R7:Value}{t0 tz:Tok}{j:Nat}{z:Int}{items:Array Value}
  (ho:s.heap.get? f=some (PySem.W.kla_obj "<lambda>" q Nc (qL x y p1 p2 p3 p4) scope [(x,cr)] pm c' R7)) (PJ:s.heap.CodeRec (.ref c') q) (Tf:A.depth<recursionLimit) (hnl:s.heap.NoLimit)
  (Ql:s.heap.IsCell cr (some (.ref a))) (hl:s.heap.IsList a items) (hx:items[j]?=some (.int z tz)) (hj:j<2 ^ 62)
  (hb:∀v:Value,bindArgs (PySem.W.kla_fn "<lambda>" q Nc (qL x y p1 p2 p3 p4) scope [(x,cr)] pm (.ref c') R7) ⟨[v],[]⟩=pure [(y,v)])
  (hy:scope.names.lookup y=some .local) (Xi:scope.names.lookup x=some .free) (UO:∀n∈scope.names,n.2≠.cell) (hk:scope.kind=.function) (Yc:scope.isCoroutine=false) (Ux:scope.isGenerator=false)
  (SR:(x == ("__debug__" : Str))=false) (Vx:(y == ("__debug__" : Str))=false) (X9:(x == ("__classdict__" : Str))=false)
  (hQ:∀(h':Heap) (tk:Nat) (t':Tok),(∀b o,s.heap.get? b=some o->h'.get? b=some o)->Q (.int (-z) t') { s with heap:=h',toks:=tk }) :
  wpAny (model prog w) A (call (.ref f) [.int (j:Int) t0]) Q E s:=by
 refine wpAny_call (PySem.W.kla_callFunE Tf ho rfl Yc Ux rfl PJ ?_)
 rw[hb]
 refine wpAny_pure (wpAny_newFunctionEnv UO (fun p hp=>?_) (fun Qd Qe Wb=>⟨hnl.fresh _ Wb,?_⟩) hk)
 .rw[Gc.mp hp];exact hy
 have Tg:∀b o,s.heap.get? b=some o->Qd.get? b=some o:=fun b o e=>Wb.extBut b o (MG (Heap.lt_size e)) (Heap.get?_push_of_some _ e)
 refine PySem.W.kla_codeExpr ?_
 refine UnaryOp_ (Subscript_ ?_)
 refine wpAny_Name (wpAny_loadName_free (c:=cr) (v:=.ref a) hk Xi ?_ (let ⟨o,e,d⟩:=Ql;⟨o,Tg _ o e,d⟩) ?_ X9) SR
 .show List.lookup x [(x,cr)]=some cr
  rw[List.lookup_cons_self]
 refine wpAny_Name (wpAny_loadName_local (v:=.int (j:Int) t0) hk hy Qe ?_ ?_) Vx
 .show List.lookup y [(y,Value.int (j:Int) t0)]=_
  rw[List.lookup_cons_self]
 refine item_listR (hl.at fun o e=>Tg _ o e) (by omega) (by omega) (by rw[Mg];exact hx) ?_
 exact neg_int (hQ _ _ _ Tg)
end
end L2
namespace L3
open PySem L2 PySem.Calls PyProof.Rows
def Ld(te:TE):TE:=fun σ H Q=>te σ H fun x H1=>∃n:Nat,x=.int (n:Int)/\∀r,H1 r=none->Q (.ref r) (upd H1 r (.rng 0 n))
section
variable {X:Cx}
def Ks{e:Expr}{te:TE}{p MH:Pos}(hg:Gl X "range")(hm:X.mg "range" = none)(he:PE X e te)(hs:starEach [e] X.env=[(false,eval e X.env)]:=by rfl) :
  PE X (.Call (.Name "range" p) [e] [] MH) (Ld te):=by
 intro pins s σ H Q I h
 refine wpAny_Call_Name_kw (kF I hg hm boot_range ?_)
 refine Nn ?_ hs rfl
 rw[hs]
 refine Calls.spliced_cons (thn (he pins s σ H _ I h) fun v s1 ⟨x,H1,I1,r1,n,ex,q⟩=>?_)
 subst ex
 obtain ⟨t,rfl⟩:=r1
 refine Calls.spliced_nil (call_range_1 ?_)
 have hn:H1 s1.heap.objs.size=none:=I1.hok.fresh (Mi _)
 exact⟨.ref s1.heap.objs.size,_,I1.laid (o:=.rng 0 (n:Int)) (fun b o e=>Heap.get?_push_of_some _ e) (Mi _) ⟨_,_,_,Heap.get?_push_size _ rfl⟩,rfl,q _ hn⟩
end
def oX{a b:Int}{t u:Tok}{c:Value}:∀{l:List Value},TriplesOk l->TriplesOk (l++[.int a t,.int b u,c])
 |[],_=>trivial
 |.int _ _::.int _ _::_::NK,h=>oX (l:=NK) h
def sv{MH:Pos}{a b:Int}{t u:Tok}{c cv:Value}:∀{l:List Value},TriplesOk l->codeAmong MH (l++[.int a t,.int b u,c])=some cv->codeAmong MH l=some cv\/cv=c
 |[],_,h=>by
  simp only[List.nil_append,codeAmong] at h
  split at h
  .exact .inr (MB h).symm
  .cases h
 |.int l1 t1::.int c1 u1::x::NK,ht,h=>by
  simp only[List.cons_append,codeAmong] at h ⊢
  split at h
  .rename_i e
   rw[if_pos e];exact .inl h
  .rename_i e
   rw[if_neg e]
   exact sv (l:=NK) ht h
section
variable {X:Cx}{x y:Str}{Nc:Arguments}{scope:Scope}{MH p1 p2 p3 p4:Pos}{cr c P:Addr}
def xC(x y:Str)(Nc:Arguments)(scope:Scope)(p1 p2 p3 p4:Pos)(cr:Addr)(pm:Value)(f c':Addr):HO :=
 .ext fun h=>∃R7,h.get? f=some (PySem.W.kla_obj "<lambda>" yF Nc (qL x y p1 p2 p3 p4) scope [(x,cr)] pm c' R7)
def BMd(base:Heap)(mg:Str->Option Value):Prop:=∃bm ob,mg "__builtins__" = some (.ref bm)/\bm≠builtinsNs/\base.get? bm=some ob/\ob.cls=.type "module"/\ob.dict=some builtinsNs/\ob.data=.plain
def HH{h:Heap}{c':Addr}{P:Program}{w:World}{H:Hp}(hr:h.CodeRec (.ref c') yF):cB P w H h c' (um c'):=by
 refine⟨hr,?_,fun h1 h2 ⟨c,o,vs,t,e1,e2,e3⟩ k=>?_⟩
 .obtain ⟨c,o,vs,t,e1,e2,e3⟩:=hr
  cases e1
  exact⟨o,e2⟩
 .cases e1
  exact⟨_,o,vs,t,rfl,k o e2,e3⟩
def BQ{h:Heap}{f c':Addr}{P:Program}{w:World}{H:Hp}{pm R7:Value}(hf:h.get? f=some (PySem.W.kla_obj "<lambda>" yF Nc (qL x y p1 p2 p3 p4) scope [(x,cr)] pm c' R7)) :
  cB P w H h f (xC x y Nc scope p1 p2 p3 p4 cr pm f c'):=⟨⟨R7,hf⟩,⟨_,hf⟩,fun h1 h2 ⟨R7,e⟩ k=>⟨R7,k _ e⟩⟩
def K7(P:Addr)(F:Addr->Addr->HO):TE:=fun σ H Q=>TabAt P H/\∀f c' H',Same H H'->H f=none->H' f=some (F f c')->H' c'=some (um c')->Q (.ref f) H'
def JU(Ub:closureFor scope X.env=pure [(x,cr)])(Su:X.env.code=.ref c)(PJ:PySem.W.codeHdIn X.K c P=true)(hq:X.env.qual++"<lambda>" = yF)(Uy:defaultsOf Nc X.env=([],[]))(TL:BMd X.base X.mg) :
  PE X (.Lambda Nc (qL x y p1 p2 p3 p4) scope MH) (K7 P (xC x y Nc scope p1 p2 p3 p4 cr ((X.mg "__name__").getD .none))):=by
 intro pins s σ H Q I h
 obtain ⟨⟨ps,hP,ht,hci⟩,q⟩:=h
 have Wj:s.heap.get? P=some (PySem.W.tabObj ps):=I.hok P _ hP
 have KX:X.K.In s.heap:=I.mod.kin.keeps I.bk
 have C:=PySem.W.codeHd_of_K KX PJ
 have Ss:s.heap.Ns mainGlobals X.mg:=I.mod.glob.keeps I.bk
 have hgP:mainGlobals≠P:=fun e=>by
  obtain ⟨o,es,ep,e1,e2,_⟩:=Ss
  rw[e,Wj] at e1;cases e1;cases e2
 obtain ⟨bm,ob,b1,b2,b3,b4,b5,b6⟩:=TL
 have VY:=I.bk _ _ b3
 have Zb:bm≠mainGlobals:=fun e=>by
  obtain ⟨o,es,ep,e1,e2,_⟩:=Ss
  rw[<- e,VY] at e1;cases e1;rw[b6] at e2;cases e2
 have Wg:bm≠P:=fun e=>by rw[e,Wj] at VY;cases VY;cases b4
 refine PySem.W.kla_eval Uy ?_
 rw[hq]
 cases hf:codeAmong MH ps.toList with
 |none =>
  refine PySem.W.kla_makeFunction (mg:=X.mg) Ub I.ok.glob Ss Su C Wj ht hf hgP ⟨bm,ob,b1,b2,Zb,Wg,VY,b4,b5,b6⟩ fun c' R7 h' tk hx T7 NZ Xo Xm=>?_
  have Y7:s.heap.objs.size<=h'.objs.size:=Mq T7 (Ol NZ)
  have Xz:H h'.objs.size=none:=I.hok.fresh Y7
  have UO:H c'=none:=I.hok.fresh T7
  have nPc:P≠c':=bj hP UO
  have nPf:P≠h'.objs.size:=bj hP Xz
  have ncf:c'≠h'.objs.size:=MG NZ
  generalize Wc:ps++#[rawInt MH.line,rawInt MH.col,.ref c']=ps' at Xm
  have Ri:ps'.toList=ps.toList++[rawInt MH.line,rawInt MH.col,.ref c']:=by rw[<- Wc,Array.toList_append]
  have Pb:∀b u,b≠P->H b=some u->upd (upd (upd H P (.tbl ps')) c' (um c')) h'.objs.size (xC x y Nc scope p1 p2 p3 p4 cr ((X.mg "__name__").getD .none) h'.objs.size c') b=some u:=fun b u hb e=>by
   rw[aF (bj e Xz),aF (bj e UO),aF hb];exact e
  have YA:upd (upd (upd H P (.tbl ps')) c' (um c')) h'.objs.size (xC x y Nc scope p1 p2 p3 p4 cr ((X.mg "__name__").getD .none) h'.objs.size c') P=some (.tbl ps'):=by
   rw[aF nPf,aF nPc,aw]
  have ZC:upd (upd (upd H P (.tbl ps')) c' (um c')) h'.objs.size (xC x y Nc scope p1 p2 p3 p4 cr ((X.mg "__name__").getD .none) h'.objs.size c') c'=some (um c'):=by
   rw[aF ncf,aw]
  have np:∀{b u},H b=some u->NT u->b≠P:=fun {b u} e n z=>by
   subst z;rw[hP] at e;cases e;exact n
  have sm:Same H (upd (upd (upd H P (.tbl ps')) c' (um c')) h'.objs.size (xC x y Nc scope p1 p2 p3 p4 cr ((X.mg "__name__").getD .none) h'.objs.size c')):=by
   refine⟨fun b u e n=>Pb b u (np e n) e,fun b qs e=>?_,fun P' ⟨qs,e,g1,g2⟩=>?_⟩
   .by_cases z:b=P
    .subst z;exact⟨_,YA⟩
    .exact⟨qs,Pb b _ z e⟩
   .by_cases z:P'=P
    .subst z
     rw[hP] at e;cases e
     refine⟨ps',YA,by rw[Ri];exact oX g1,fun Pd cv z=>?_⟩
     rw[Ri] at z
     rcases sv g1 z with z|z
     .obtain ⟨c2,z1,z2⟩:=g2 Pd cv z
      exact⟨c2,z1,Pb c2 _ (np z2 trivial) z2⟩
     .exact⟨c',z,ZC⟩
    .exact⟨qs,Pb P' _ z e,g1,fun Pd cv z=>let ⟨c2,z1,z2⟩:=g2 Pd cv z;⟨c2,z1,Pb c2 _ (np z2 trivial) z2⟩⟩
  have up:∀b o,b≠P->s.heap.get? b=some o->(h'.push (PySem.W.kla_obj "<lambda>" yF Nc (qL x y p1 p2 p3 p4) scope [(x,cr)] ((X.mg "__name__").getD .none) c' R7)).get? b=some o:=fun b o hb e=>Heap.get?_push_of_some _ (hx b o hb e)
  have nL:X.env.locals≠P:=fun e=>by
   have:=I.free
   rw[e,hP] at this;cases this
  have nn:∀{b:Addr},H b=none->b≠P:=fun {b} e z=>by subst z;rw[hP] at e;cases e
  refine⟨.ref h'.objs.size,_,?_,rfl,q h'.objs.size c' _ sm Xz aw ZC⟩
  refine I.step (g':=s.gens) (d':=s.drawn) (t':=tk) (ch:=[]) (fun _ z=>nomatch z) (fun b o _ _ _ e n=>up b o (nn n) e) (fun b o _ _ _ e n=>⟨o.slots,up b o (nn n) e⟩) (fun b o _ e n=>?_) (fun b o _ e=>?_)
   (fun b xs e=>sm.st b _ e trivial) (fun b o u e=>sm.st b _ e trivial) (fun b qs e=>?_) (fun m hm=>?_) (fun b o e=>?_) I.bare
  .have hb:=Heap.lt_size e
   rw[aF (MG (Mo hb Y7)),aF (MG (Mo hb T7)),aF (nn n)];exact n
  .by_cases z:b=P
   .subst z;exact⟨_,Heap.get?_push_of_some _ Xm⟩
   .exact⟨o,up b o z e⟩
  .by_cases z:b=P
   .subst z
    rw[hP] at e;cases e
    exact⟨#[rawInt MH.line,rawInt MH.col,.ref c'],by rw[Wc];exact YA⟩
   .exact⟨#[],by rw[Pb b _ z e];simp⟩
  .obtain ⟨o,es,ep,ho,r⟩:=hm
   exact⟨o,es,ep,up _ o nL ho,r⟩
  .by_cases zf:b=h'.objs.size
   .subst zf
    rw[aw] at e;cases e
    exact BQ (Heap.get?_push_size _ rfl)
   rw[aF zf] at e
   by_cases zc:b=c'
   .subst zc
    rw[aw] at e;cases e
    exact HH (let ⟨cc,o,vs,t,e1,e2,e3⟩:=Xo;⟨cc,o,vs,t,e1,Heap.get?_push_of_some _ e2,e3⟩)
   rw[aF zc] at e
   by_cases zP:b=P
   .subst zP
    rw[aw] at e;cases e
    exact Heap.get?_push_of_some _ Xm
   rw[aF zP] at e
   refine (I.hok b o e).rN (fun d w' hd z=>up d w' (fun y=>?_) z) (fun d z=>sm.st d _ z trivial) fun d xs z=>sm.st d _ z trivial
   subst y
   rcases hd with hd|hd
   .exact zP hd.symm
   .rw[hP] at hd;cases hd
 |some cv =>
  obtain ⟨c',rfl,Tv⟩:=hci MH cv hf
  refine PySem.W.kla_makeFunctionHit (mg:=X.mg) Ub I.ok.glob Ss Su C Wj ht hf ⟨bm,ob,b1,b2,Zb,Wg,VY,b4,b5,b6⟩ fun R7 h' tk hk hsz=>?_
  have hn:H h'.objs.size=none:=I.hok.fresh hsz
  have hcf:c'≠h'.objs.size:=bj Tv hn
  exact⟨.ref h'.objs.size,_,I.laid (a:=h'.objs.size) (t':=tk) (o:=xC x y Nc scope p1 p2 p3 p4 cr ((X.mg "__name__").getD .none) h'.objs.size c') (fun b o e=>Heap.get?_push_of_some _ (hk b o e)) hsz (BQ (Heap.get?_push_size _ rfl)),rfl,
   q _ c' _ (Same.jn hn) hn aw (by rw[aF hcf];exact Tv)⟩
end
end L3
namespace L3
open PySem L2 PySem.Calls PyProof.Rows
def Kt{h:Heap}{L:Addr}{m m':Str->Option Value}(a:h.Ns L m)(b:h.Ns L m'):m=m':=by
 obtain ⟨o,es,ep,e1,e2,_,e3⟩:=a
 obtain ⟨o',es',UE,f1,f2,_,f3⟩:=b
 rw[e1] at f1;cases f1
 rw[e2] at f2;cases f2
 funext x
 rw[<- e3 x,<- f3 x]
def xU(K:PySem.W.Frag)(P:Addr)(i:Nat):TE:=fun σ H Q=>∃(a:Addr) (ns:List Int),σ[i]?=some (some (.ref a))/\SqL K H a (ns.map V.int)/\ns.length<64/\TabAt P H /\
 ∀(l:Addr) (H':Hp) (ms:List Int),Same H H'->H l=none->H' l=some (.lst (ms.map V.int))->ms.Perm (kK ns.length)->ms.Pairwise (fun a b=>-(ns.getD a.toNat 0)<=-(ns.getD b.toNat 0))->Q (.ref l) H'
section
variable {X:Cx}{K:PySem.W.Frag}{x y:Str}{Nc:Arguments}{scope:Scope}{MH p1 p2 p3 p4:Pos}{cr c P:Addr}{i:Nat}{el:Expr}{tl:TE}{ps pr q2 q3 RS:Pos}
def zN(hK:X.K=K)(hc:X.calm=true)(hg:Gl X "sorted")(hm:X.mg "sorted" = none)(XX:Gl X "range")(XD:X.mg "range" = none)(hl:PE X el tl)
  (htl:∀σ H Q a xs,σ[i]?=some (some (.ref a))->SqL X.K H a xs->Q (.int (xs.length:Int)) H->tl σ H Q)
  (hN:X.N[i]?=some x) (hv:Vis X.env.scope x) (hkx:X.env.kindOf x=some .cell) (hcr:X.env.cells.lookup x=some cr) (Tf:X.A.in1.in1.depth<recursionLimit)
  (Ub:closureFor scope X.env=pure [(x,cr)]) (Su:X.env.code=.ref c) (PJ:PySem.W.codeHdIn X.K c P=true) (hq:X.env.qual++"<lambda>" = yF) (Uy:defaultsOf Nc X.env=([],[])) (TL:BMd X.base X.mg)
  (hb:∀(v pm R7:Value) (c':Addr),bindArgs (PySem.W.kla_fn "<lambda>" yF Nc (qL x y p1 p2 p3 p4) scope [(x,cr)] pm (.ref c') R7) ⟨[v],[]⟩=pure [(y,v)])
  (hy:scope.names.lookup y=some .local) (Xi:scope.names.lookup x=some .free) (UO:∀n∈scope.names,n.2≠.cell) (hk:scope.kind=.function) (Yc:scope.isCoroutine=false) (Ux:scope.isGenerator=false)
  (SR:(x == ("__debug__" : Str))=false) (Vx:(y == ("__debug__" : Str))=false) (X9:(x == ("__classdict__" : Str))=false)
  (he:backTo q3 (starEach [Expr.Call (.Name "range" pr) [el] [] q2] X.env)=(false,eval (.Call (.Name "range" pr) [el] [] q2) X.env)::backTo q3 (starEach [] X.env):=by rfl)
  (hs:starEach [el] X.env=[(false,eval el X.env)]:=by rfl)
  (P2:(backTo q3 (starEach [Expr.Call (.Name "range" pr) [el] [] q2] X.env)).any (·.1)=false:=by rfl)
  (Pe:(backToKw q3 (keywordEach [⟨some "key",.Lambda Nc (qL x y p1 p2 p3 p4) scope MH,RS⟩] X.env)).all (·.1.isSome)=true:=by rfl)
  (XO:(backToKw q3 (keywordEach [⟨some "key",.Lambda Nc (qL x y p1 p2 p3 p4) scope MH,RS⟩] X.env)).any (·.1.isNone)=false:=by rfl)
  (XM:(backToKw q3 (keywordEach [⟨some "key",.Lambda Nc (qL x y p1 p2 p3 p4) scope MH,RS⟩] X.env)).filterMap (·.1)=[("key" : Str)]:=by rfl) :
  PE X (.Call (.Name "sorted" ps) [.Call (.Name "range" pr) [el] [] q2] [⟨some "key",.Lambda Nc (qL x y p1 p2 p3 p4) scope MH,RS⟩] q3) (xU K P i):=by
 subst hK
 intro pins s σ H Q I h
 obtain ⟨a,ns,V6,hS,Tx,hT,q⟩:=h
 have hpa:PA X [Expr.Call (.Name "range" pr) [el] [] q2] (gp (Ld tl) m7):=aa (Ks XX XD hl hs) aj
 have hpk:PK X [⟨some "key",.Lambda Nc (qL x y p1 p2 p3 p4) scope MH,RS⟩] (gp (K7 P (xC x y Nc scope p1 p2 p3 p4 cr ((X.mg "__name__").getD .none))) m7):=A9 (JU Ub Su PJ hq Uy TL) FZ
 refine wpAny_Call_Name_kw (kF I hg hm boot_sorted ?_)
 refine callWith_kw (thn (hpa q3 pins s σ H (fun vs H1=>∃r:Addr,vs=[V.ref r]/\H r=none/\H1=upd H r (.rng 0 (ns.length:Int))) I (htl σ H _ a _ V6 hS ⟨ns.length,by rw[ox],fun r hr=>⟨r,rfl,hr,rfl⟩⟩)) fun us s1 ⟨vs,H1,I1,r1,r,e1,hr,e2⟩=>?_) he P2 Pe XO
 subst e1 e2
 obtain ⟨u1,rfl,ru⟩:=vals1 r1
 obtain rfl:u1=Value.ref r:=ru
 have YK:Same H (upd H r (.rng 0 (ns.length:Int))):=Same.jn hr
 refine thn (hpk q3 pins s1 σ _ (fun zs H2=>∃f c':Addr,zs=[V.ref f]/\Same (upd H r (.rng 0 (ns.length:Int))) H2/\H2 f=some (xC x y Nc scope p1 p2 p3 p4 cr ((X.mg "__name__").getD .none) f c')/\H2 c'=some (um c')) I1 ⟨YK.ti _ hT,fun f c' H2 sm _ hf Tv=>⟨f,c',rfl,sm,hf,Tv⟩⟩) fun ws s2 ⟨zs,H2,I2,rz,f,c',e1,YJ,hf,Tv⟩=>?_
 subst e1
 obtain ⟨u2,rfl,W4⟩:=vals1 rz
 obtain rfl:u2=Value.ref f:=W4
 rw[XM]
 have W1:=YK.trans YJ
 have hS2:=W1.seq hS
 obtain ⟨m,hn,TK⟩:=I2.loc
 obtain ⟨u,rr,look⟩:=TK i x (.ref a) hN V6 hv
 obtain rfl:u=Value.ref a:=rr
 have Ql:s2.heap.IsCell cr (some (.ref a)):=by
  rcases look with ⟨z,_⟩|⟨_,c2,z1,z2⟩
  .rw[hkx] at z;cases z
  .rw[hcr] at z1;cases z1;exact z2
 have Uo:=I2.hok r _ (YJ.st r _ aw trivial)
 obtain ⟨t1,t2,t3,Uo⟩:=Uo
 obtain ⟨⟨R7,hfo⟩,_⟩:=I2.hok f _ hf
 obtain ⟨Yb,_⟩:=I2.hok c' _ Tv
 obtain ⟨ML,rv,pl,hz⟩:=I2.list hS2
 obtain ⟨oL,esL,epL,Zu,eL2,eL3⟩:=id hn
 have nl:∀{b:Addr}{o:Obj},s2.heap.get? b=some o->(∀es ep,o.data≠.dict es ep)->b≠X.env.locals:=fun {b o} e d z=>by
  subst z;rw[e] at Zu;cases Zu;exact d _ _ eL2
 have nH:∀{b:Addr}{o:HO},H2 b=some o->b≠X.env.locals:=fun {b o} e z=>by
  subst z;have:=I2.free;rw[e] at this;cases this
 refine Ad (n:=ns.length) (L:=X.env.locals) (m:=m) (key:=fun j=>-(ns.getD j 0)) (I.ok.hd hc) Uo Tx hn (fun j t0 hh tk hj kh nn=>?_) fun h' tk D out cp ms kh nn hD T7 hi hp hw=>?_
 .obtain ⟨oc,ec,dc⟩:=id Ql
  obtain ⟨w1,hw1,W3⟩:=rv.get (show (ns.map V.int)[j]?=some (.int (ns.getD j 0)) by rw[L9,gV,dz hj];rfl)
  obtain ⟨tz,rfl⟩:=W3
  obtain ⟨oa,ea,ca,na,da⟩:=id pl.isList
  refine EE (s:={ s2 with heap:=hh,toks:=tk }) (cr:=cr) (a:=a) (items:=ML.toArray) (z:=ns.getD j 0) (tz:=tz) (kh _ _ (nH hf) hfo) ?_ Tf ?_ ⟨oc,kh _ _ (nl ec (fun es ep z=>by rw[dc] at z;cases z)) ec,dc⟩ (pl.isList.at fun o e=>kh _ o (nl ea (fun es ep z=>by rw[da] at z;cases z)) e) (by simpa using hw1) (by omega) (fun v=>hb v _ _ _) hy Xi UO hk Yc Ux SR Vx X9 fun h' UY t' kk=>⟨h',UY,t',rfl,rfl,fun b o _ e=>kk b o e,?_⟩
  .obtain ⟨cc,o,vs,t,e1,e2,e3⟩:=Yb
   cases e1
   exact⟨_,o,vs,t,rfl,kh _ _ (nH Tv) e2,e3⟩
  .exact I2.mod.nolimit.keeps fun b o e=>kh b o (fun z=>M8 b (by
    have h1:=Heap.lt_size e
    have h2:=I2.ok.bsz
    have h3:=I2.ok.above
    rw[<- z] at h3
    exact Mo h1 (Mq h2 h3))) (I2.bk b o e)
  .obtain ⟨o,es,ep,e1,e2⟩:=nn
   exact⟨o,es,ep,kk _ _ e1,e2⟩
 .have XB:H2 D=none:=I2.hok.fresh T7
  have sD:Same H2 (upd H2 D (.lst (ms.map V.int))):=Same.jn XB
  refine⟨.ref D,upd H2 D (.lst (ms.map V.int)),?_,rfl,q D _ ms (W1.trans sD) (W1.free XB) aw hp hw⟩
  have Pb:∀b u,H2 b=some u->upd H2 D (.lst (ms.map V.int)) b=some u:=fun b u e=>by rw[aF (bj e XB)];exact e
  refine I2.step (g':=s2.gens) (d':=s2.drawn) (t':=tk) (ch:=[]) (fun _ z=>nomatch z) (fun b o hb _ _ e n=>kh b o hb e) (fun b o hb _ _ e n=>⟨o.slots,kh b o hb e⟩) (fun b o _ e n=>?_) (fun b o _ e=>?_)
   (fun b xs e=>Pb b _ e) (fun b o u e=>Pb b _ e) (fun b qs e=>⟨#[],by rw[Pb b _ e];simp⟩) (fun m' hm'=>?_) (fun b o e=>?_) I2.bare
  .rw[aF (MG (Mo (Heap.lt_size e) T7))];exact n
  .by_cases z:b=X.env.locals
   .subst z
    obtain ⟨o',es,ep,e1,_⟩:=nn
    exact⟨o',e1⟩
   .exact⟨o,kh b o z e⟩
  .rw[Kt hm' hn];exact nn
  .by_cases zD:b=D
   .subst zD
    rw[aw] at e;cases e
    have We:=hp.length_eq
    rw[ox,Md] at We
    refine⟨by rw[ox,sizeLine_eq];omega,out.toList,cp,hV hi,?_⟩
    rw[hD]
   .rw[aF zD] at e
    refine (I2.hok b o e).rN (fun d w' hd z=>kh d w' ?_ z) (fun d z=>Pb d _ z) fun d xs z=>Pb d _ z
    rcases hd with rfl|hd
    .exact nH e
    .exact nH hd
end
end L3
namespace L3
open PySem L2 PySem.Spec PyProof.Rows
def vz(P:Addr)(H:Hp):Prop:=(∀b,H b=none\/b=P\/∃o xs,H b=some (.frz o (.lst xs)))/\H P=some (.tbl #[])
def vz.tab{P:Addr}{H:Hp}(h:vz P H):TabAt P H:=⟨#[],h.2,trivial,fun MH cv e=>by simp [codeAmong] at e⟩
def Dp{P0:Program}{w:World}{K:PySem.W.Frag}{mg mb:Str->Option Value}{CX:CXT}{k:Nat}{fa a c P:Addr}{fd:FuncData}{x:Str}{sp:Sp}{s₁:Shared}{vs:List Value}{ns:List Int}
  (KX:K.In s₁.heap) (Qe:s₁.heap.Ns mainGlobals mg) (hb:s₁.heap.Ns builtinsNs mb) (hbb:∀x:Str,x≠"__name__"->mb x=bootBuiltins x) (XG:s₁.heap.NoLimit) (hg:s₁.gens=#[])
  (ha:s₁.heap.get? a=some { cls:=.type "list",data:=.seq vs.toArray }) (hi:IntsAre vs ns) (hl:ns.length<=sizeLine) (hr:hX k callerA) (hP:s₁.heap.get? P=some (PySem.W.tabObj #[])) (VI:K.lookup P=none) (PJ:PySem.W.codeHdIn K c P=true)
  (TL:BMd s₁.heap mg) (F:∀base:Heap,K.In base->base.Ns mainGlobals mg->BMd base mg->aI P0 w K mg base CX k fa fd [x] sp) (VC:∀(s:Shared) (u:Value),BindsTo s fd ⟨[u],[]⟩ [(x,u)])
  (S6:∀H:Hp,vz P H->SqL K H a (ns.map V.int)->sp [.ref a] H (fun v _=>v=.bl true) fun _ _ _=>False)
  (Yn:∀H e s',CX [] H s₁ (fun _ _ _=>False) e s'->False) :
  codeAny (model P0 w) callerA (.call (.ref fa) ⟨[.ref a],[]⟩) (fun r s'=>r=.ok (.ret (.bool true))/\OldK s₁.heap s'.heap/\s'.os=s₁.os/\AllBare s'.gens) s₁:=by
 have rv:=uZ hi
 have Xa:=hi.length
 have C:=PySem.W.codeHd_of_K KX PJ
 have Ze:a≠P:=fun z=>by rw[z,hP] at ha;cases ha
 have VU:∀H:Hp,vz P H->SqL K H a (ns.map V.int)->HOk P0 w H s₁.heap->(∀b,H b≠none->b=a\/b=P)->(H a≠none->K.lookup a=none) ->
   codeAny (model P0 w) callerA (.call (.ref fa) ⟨[.ref a],[]⟩) (fun r s'=>r=.ok (.ret (.bool true))/\OldK s₁.heap s'.heap/\s'.os=s₁.os/\AllBare s'.gens) s₁:=by
  intro H hO hS hok hA hK
  have U4:∀{b:Addr}{o:Obj}{es:Array DictEntry}{ep:Nat},s₁.heap.get? b=some o->o.data=.dict es ep->H b=none:=fun {b o es ep} e d=>by
   cases q:H b with
   |none=>rfl
   |some u =>
    rcases hA b (by rw[q];simp) with z|z
    .subst z
     rw[ha] at e;cases e
     have d':Data.seq vs.toArray _=Data.dict es ep:=d
     cases d'
    .subst z
     rw[hP] at e;cases e
     have d':Data.fields #[]=Data.dict es ep:=d
     cases d'
  have V2:∀{b:Addr}{m:Str->Option Value},s₁.heap.Ns b m->(wC s₁.heap H).Ns b m:=fun {b m} ⟨o,es,ep,e,d,r⟩=>⟨o,es,ep,sP e (U4 e d),d,r⟩
  have Zj:K.In (wC s₁.heap H):=fun b o e=>sP (KX b o e) (by
   cases q:H b with
   |none=>rfl
   |some u =>
    rcases hA b (by rw[q];simp) with z|z
    .subst z
     rw[hK (by rw[q];simp)] at e;cases e
    .subst z
     rw[VI] at e;cases e)
  have hM:Mod K mg (wC s₁.heap H):=⟨Zj,V2 Qe,⟨mb,V2 hb,hbb⟩,let ⟨mc,h1,h2⟩:=XG;⟨mc,V2 h1,h2⟩⟩
  have e0:Ae P0 w K mg (wC s₁.heap H) callerA [] s₁ H:=⟨rfl,hM,fun b o e=>Hl e,Nat.le_of_eq (Dm _ _),trivial,fun b hb=>absurd (show b∈([]:List Addr) from hb) (by simp),hok,.of_eq hg⟩
  have Yh:BMd (wC s₁.heap H) mg:=by
   obtain ⟨bm,ob,b1,b2,b3,b4,b5,b6⟩:=TL
   refine⟨bm,ob,b1,b2,sP b3 ?_,b4,b5,b6⟩
   cases q:H bm with
   |none=>rfl
   |some u =>
    rcases hA bm (by rw[q];simp) with z|z
    .subst z;rw[ha] at b3;cases b3
     exact absurd (show Value.type "list" = Value.type "module" from b4) (by decide)
    .subst z;rw[hP] at b3;cases b3;cases b4
  refine codeAny_mono ((F _ Zj (V2 Qe) Yh).run callerA [] s₁ H ⟨[.ref a],[]⟩ [.ref a] [.ref a] _ _ hr e0 (VC s₁ (.ref a)) (.cons rfl .nil) (S6 H hO hS)) fun r s' h=>?_
  cases r with
  |error e=>exact (Yn H e s' h).elim
  |ok fl =>
   cases fl with
   |next=>exact False.elim h
   |brk=>exact False.elim h
   |cont=>exact False.elim h
   |ret u =>
    obtain ⟨v,H',os,bare,un,Vn,r',q⟩:=h
    have q':v=.bl true:=q
    subst q'
    obtain rfl:u=Value.bool true:=r'
    have keep:∀b o,b≠P->s₁.heap.get? b=some o->s'.heap.get? b=some o:=fun b o Wg e=>by
     cases q:H b with
     |none=>exact un.keep b o e q (by intro z;exact absurd (show b∈([]:List Addr) from z) (by simp)) (by simp)
     |some u =>
      rcases hO.1 b with z|z|⟨ob,xs,z⟩
      .rw[q] at z;cases z
      .exact absurd z Wg
      .have z2:=un.frzs b ob _ z
       obtain ⟨e1,_⟩:=hok b _ z
       obtain ⟨e2,_⟩:=Vn b _ z2
       rw[e] at e1;cases e1
       exact e2
    obtain ⟨more,hm⟩:=un.tbls P #[] hO.2
    have Zh:s'.heap.get? P=some { cls:=.none,data:=.fields (#[]++more) }:=Vn P _ hm
    refine⟨rfl,⟨fun b o e=>?_,fun b o e=>?_⟩,os,bare⟩
    .by_cases z:b=P
     .subst z
      rw[hP] at e;cases e
      exact .inr (.inl ⟨(C.tab hP).isCodeTable,rfl,#[],more,rfl,Zh⟩)
     .exact .inl (keep b o z e)
    .by_cases z:b=P
     .subst z;exact⟨_,Zh⟩
     .exact⟨o,keep b o z e⟩
 cases hk:K.lookup a with
 |some o =>
  have e:=KX a o hk
  rw[ha] at e
  cases e
  refine VU (fun b=>if b=P then some (.tbl #[]) else none) ⟨fun b=>?_,if_pos rfl⟩ (.inr ⟨_,vs.toArray,_,hk,rfl,rfl,rfl,by rw[Mz,Xa];exact hl,by simpa using rv⟩) (fun b u z=>?_) (fun b z=>?_) fun z=>absurd (if_neg Ze) z
  .by_cases z:b=P
   .exact .inr (.inl z)
   .exact .inl (if_neg z)
  .by_cases y:b=P
   .have z':=(if_pos y).symm.trans z
    cases z'
    subst y
    exact hP
   .have z':=(if_neg y).symm.trans z
    cases z'
  .by_cases y:b=P
   .exact .inr y
   .exact absurd (if_neg y) z
 |none =>
  refine VU (fun b=>if b=a then some (.frz { cls:=.type "list",data:=.seq vs.toArray } (.lst (ns.map V.int))) else if b=P then some (.tbl #[]) else none) ⟨fun b=>?_,by show (if _ then _ else _)=_;rw[if_neg (M0 Ze),if_pos rfl]⟩ (.inl (.inr ⟨{ cls:=.type "list",data:=.seq vs.toArray },if_pos rfl⟩)) (fun b u z=>?_) (fun b z=>?_) fun _=>hk
  .by_cases y:b=a
   .exact .inr (.inr ⟨_,_,if_pos y⟩)
   .by_cases y2:b=P
    .exact .inr (.inl y2)
    .exact .inl (by show (if _ then _ else _)=_;rw[if_neg y,if_neg y2])
  .by_cases y:b=a
   .have z':=(if_pos y).symm.trans z
    cases z'
    subst y
    exact⟨ha,by rw[ox];exact hl,vs,_,rv,ha⟩
   .have z':=(if_neg y).symm.trans z
    by_cases y2:b=P
    .have z2:=(if_pos y2).symm.trans z'
     cases z2
     subst y2
     exact hP
    .have z2:=(if_neg y2).symm.trans z'
     cases z2
  .by_cases y:b=a
   .exact .inl y
   .by_cases y2:b=P
    .exact .inr y2
    .exact absurd (by show (if _ then _ else _)=_;rw[if_neg y,if_neg y2]) z
def GB{l:PySem.W.OpenLaw}{n k:Nat}{q:Program}{Qj:List Str}{XP:(Str->Option Value)->Heap->Prop}{YP:World->Heap->Prop}{d:DefRec}{K:Params->PySem.W.Frag}{CX:World->CXT}{sp:World->Sp}{x:Str}{c P:Addr}
  (hn:l.most=some n) (SK:n<=sizeLine) (Vy:d.params.defaults=[]) (hr:hX k callerA)
  (hY:∀(w:World) (h:Heap),YP w h->(K w.params).In h) (hT:∀(w:World) (h:Heap),YP w h->h.get? P=some (PySem.W.tabObj #[])) (VI:∀w:World,(K w.params).lookup P=none) (PJ:∀w:World,PySem.W.codeHdIn (K w.params) c P=true)
  (F:∀(w:World) (mg:Str->Option Value) (fa:Addr) (h:Heap),(K w.params).In h->h.Ns mainGlobals mg->mg d.name=some (.ref fa) ->
   ∃fd:FuncData,(∀(s:Shared) (u:Value),BindsTo s fd ⟨[u],[]⟩ [(x,u)]) /\
    ∀base:Heap,(K w.params).In base->base.Ns mainGlobals mg->BMd base mg->aI l.prog w (K w.params) mg base (CX w) k fa fd [x] (sp w))
  (S6:∀(w:World) (H:Hp) (a:Addr) (ns:List Int),ns.length<=n->vz P H->SqL (K w.params) H a (ns.map V.int)->sp w [.ref a] H (fun v _=>v=.bl true) fun _ _ _=>False)
  (Yn:∀(w:World) (H:Hp) (s:Shared) (e:Value) (s':Shared),CX w [] H s (fun _ _ _=>False) e s'->False) :
  PySem.W.WalkO q Qj XP YP l.row.toRowW d [] (fun f vs=>PySem.call f vs):=by
 refine Att.yB hn Vy fun w s₀ s₁ mg mb fa o pm cd doc a vs ns G Y ho hd ab4 TJ Uq Th OE hg=>?_
 have KX:=hY w _ Y
 obtain ⟨fd,hb,hF⟩:=F w mg fa _ KX G.T.g TJ
 exact Dp KX G.T.g G.T.b G.T.builtins G.T.nolimit hg Uq Th (Mq OE SK) hr (hT w _ Y) (VI w) (PJ w) (let ⟨bm,ob,b1,b2,b3,b4,b5,b6⟩:=G.T.bmain;⟨bm,ob,b1,b2,b3,b4,b5,b6⟩) hF hb (fun H hO hS=>S6 w H a ns OE hO hS) fun H e s'=>Yn w H s₁ e s'
end L3
namespace L3
open PySem L2 PyProof.Rows
section
variable {P:Program}{w:World}{K:PySem.W.Frag}{mg:Str->Option Value}{base:Heap}
def JB{H:Hp}{a:Addr}{xs:List V}(hO:vz uA H)(h:SqL K H a xs):Sc K H a xs:=by
 rcases h with (h|⟨o,h⟩)|h
 .rcases hO.1 a with z|z|⟨o,ys,z⟩
  .rw[h] at z;cases z
  .subst z
   have:=hO.2
   rw[h] at this;cases this
  .rw[h] at z;cases z
 .exact .inl ⟨o,h⟩
 .exact .inr h
def Gs(K:PySem.W.Frag)(mg:Str->Option Value)(base:Heap):Prop:=∃f fd c,mg "falling_places" = some (.ref f)/\(∃oc od sl,K.lookup f=some ⟨oc,od,.func fd,sl⟩)/\fd.code=.ref c/\PySem.W.codeHdIn K c uA=true/\BMd base mg
def Fun.okL{x qual:Str}{st:Stmt}{f c:Addr}{fd:FuncData}{N ps:List Str}{k:Nat}{sp:Sp}(F:Fun K x qual st f fd)(X2:fd.code=.ref c)(S:aE N ps (ak st))(len:∀vs H Q E,sp vs H Q E->vs.length=ps.length)
  (P4:∀(A:Around) (outer:List Env) (s:Shared) (H:Hp) (vs:List V) (Q:VK) (E:XK),hX k (A.deeper (envOfC qual (ak st) s.heap.objs.size f (.ref c)))->sp vs H Q E ->
   ∃t,PSs (pq CX0 P w K mg base N qual (ak st) f (.ref c) A outer s H E).nox (aD st) t/\t { nx:=fun _ H'=>Q .non H',rt:=Q } (L2.start N vs) H):aI P w K mg base CX0 (k+1) f fd ps sp:=by
 obtain ⟨oc,od,kV,doc,pm,an,cdv,ct,osl,rfl,lk,PJ⟩:=F.ex
 obtain rfl:cdv=.ref c:=X2
 refine Gz lk PJ S len fun A outer s H vs Q E hr S6=>?_
 obtain ⟨t,h,q⟩:=P4 A outer s H vs Q E hr S6
 exact⟨t,h.nox,q⟩
def Gs.of{f:Addr}{fd:FuncData}{st:Stmt}{ps:List Str}(T:Gs K mg base)(F:FnAt K mg "falling_places" st ps f fd):∃c,fd.code=.ref c/\PySem.W.codeHdIn K c uA=true/\BMd base mg:=by
 obtain ⟨f',fd',c,TJ,⟨oc,od,sl,lk⟩,X2,PJ,TL⟩:=T
 have e1:=TJ.symm.trans F.mg
 cases e1
 obtain ⟨_,_,_,_,_,_,_,_,_,rfl,YW,_⟩:=F.fn.ex
 rw[lk] at YW
 cases YW
 exact⟨c,X2,PJ,TL⟩
end
section
variable {K:PySem.W.Frag}{Γ:List Nat}{i:Nat}
def Kq{δ:Dl}{i:Nat}{x:D}{P:DK}(e:δ[i]?=some (some x))(h:P x):lU i δ P:=by
 unfold lU
 rw[e]
 exact h
def Dz(i:Nat):DE:=fun δ P=>lU i δ fun x=>asL x fun ds=>∃ns:List Int,ds=ns.map D.int/\ns.length<64/\∀ms:List Int,ms.Perm (kK ns.length)->ms.Pairwise (fun a b=>ns.getD b.toNat 0<=ns.getD a.toNat 0)->P (dI ms)
def Ai(i:Nat):EM K Γ [] (xU K uA i) (Dz i) :=
 ⟨fun δ P P' k h=>by
  obtain ⟨x,e,z⟩:=j5 h
  obtain ⟨ds,e2,ns,e3,Tx,z⟩:=dQ z
  exact Kq e (j4 e2 ⟨ns,e3,Tx,fun ms h1 h2=>k _ (z ms h1 h2)⟩),
 fun {B0 fps δ σ H Q} o h=>by
  obtain ⟨x,e,z⟩:=j5 h
  obtain ⟨ds,e2,ns,rfl,Tx,z⟩:=dQ z
  obtain ⟨v,hv,r⟩:=o.val i _ e
  obtain ⟨a,xs,fq,rfl,hs,hr,_⟩:=r.seq e2
  obtain ⟨rfl,_⟩:=hr.jk cP
  refine⟨a,ns,hv,by rw[Mp] at hs;exact hs,Tx,o.b0.now,fun l H' ms sm hl UP hp hw=>?_⟩
  exact z ms hp (hw.imp fun h=>by omega) _ _ [l] sm (Rf.ofInts UP) ⟨by simp,fun b hb=>by cases Gc.mp hb;exact .inl ⟨_,UP⟩,fun b hb=>by cases Gc.mp hb;exact .inl hl⟩⟩
end
end L3
namespace L3
open PySem L2
section
end
end L3
namespace L2
open PySem PySem.Spec PyProof.Rows SeqAt MeetsSeq
section
end
end L2
namespace L3
open PySem
open L2 hiding D Rf Rfs Rp dI dT
section
end
end L3
namespace L2
open PySem PySem.Spec PyProof.Rows
section
end
end L2
namespace L3
open PySem L2
section
end
end L3
namespace L2
open PySem PySem.Spec PyProof.Rows
section
end
end L2
namespace L3
open PySem L2
section
end
end L3
namespace L2
open PySem PySem.Spec PyProof.Rows
section
end
end L2
namespace L3
open PySem L2
section
end
end L3
namespace L2
open PySem PySem.Spec PyProof.Rows PySem.Builtin PySem.Builtin.Str
section
end
end L2
namespace L2
open PySem PySem.Spec PyProof.Rows PySem.Builtin PySem.Builtin.Str
section
end
end L2
namespace L3
open PySem L2 PySem.Builtin PySem.Builtin.Str
section
end
end L3
namespace L3
open PySem PySem.Builtin PySem.Builtin.Str
end L3
namespace L3
open PySem L2 PySem.Builtin PySem.Builtin.Str
end L3
namespace L2
open PySem PySem.Spec PyProof.Rows PySem.Builtin PySem.Builtin.Str
section
end
section
end
section
end
end L2
namespace L3
open PySem L2 PySem.Builtin PySem.Builtin.Str
section
end
end L3
namespace L3
open PySem L2 PySem.Builtin PySem.Builtin.Str
end L3
namespace L2
open PySem PySem.Spec PyProof.Rows PySem.Builtin PySem.Builtin.Str
section
end
end L2
namespace L3
open PySem L2 PySem.Builtin PySem.Builtin.Str
section
end
end L3
namespace L3
open PySem L2 PySem.Builtin PySem.Builtin.Str
end L3
namespace L3
open PySem L2 PySem.Builtin PySem.Builtin.Str
end L3
namespace L3
open PySem L2 PySem.Builtin PySem.Builtin.Str
end L3
namespace L2
open PySem PySem.Spec PyProof.Rows
section
end
end L2
namespace L3
open PySem L2
section
end
end L3
namespace L3
open PySem L2
section
variable {K:PySem.W.Frag}{Γ:List Nat}{ta tb:TE}{da db:DE}
def EY(da db:DE)(δ:Dl)(P:DK):Prop:=da δ fun x=>db δ fun y=>∃a b,x=.lst a/\y=.lst b/\a.length+b.length<=1000/\P (.lst (a++b))
def Ha(ha:EM K Γ [] ta da)(hb:EM K Γ [] tb db):EM K Γ [] (tOp JO ta tb) (EY da db) :=
 ⟨fun δ P P' k h=>ha.mono _ _ _ (fun x z=>hb.mono _ _ _ (fun y ⟨a,b,e1,e2,e3,q⟩=>⟨a,b,e1,e2,e3,k _ q⟩) z) h,
 fun {B0 fps δ σ H Q} o h=>ha.run o (ha.mono _ _ _ (fun x z v H1 f1 s1 r1 n1=>hb.run (o.same s1) (hb.mono _ _ _ (fun y ⟨a,b,e1,e2,e3,q⟩ w H2 f2 s2 r2 n2=>by
  subst e1 e2
  have W5:=r1.same s2
  obtain ⟨l1,xs,q1,rfl,g1,rfl,k1⟩:=W5
  obtain ⟨l2,ys,q2,rfl,g2,rfl,k2⟩:=r2
  have c1:=k1.length
  have c2:=k2.length
  refine⟨l1,l2,xs,ys,rfl,rfl,g1,g2,jO (by omega),fun p hp=>?_⟩
  have s3:Same H2 (upd H2 p (.lst (xs++ys))):=Same.jn hp
  have dj:∀c∈q1,c∉q2:=fun c h1 h2=>(n1.mu c (mo _ h1)).some (n2.fresh c (mo _ h2))
  refine q (.ref p) _ (p::(q1++q2)) ((s1.trans s2).trans s3) ⟨p,xs++ys,q1++q2,rfl,aw,rfl,(k1.append k2).same s3⟩ ⟨Mh.mpr ⟨fun hm=>?_,Mm.mpr ⟨(Mh.mp n1.nd).2,(Mh.mp n2.nd).2,fun c h1 d h2 e=>dj c h1 (e▸h2)⟩⟩,fun c hc=>?_,fun c hc=>?_⟩
  .rcases Mc.mp hm with h|h
   .exact ((n1.mu p (mo _ h)).same s2).some hp
   .exact (n2.mu p (mo _ h)).some hp
  .rcases L8.mp hc with e|hc
   .subst e;exact .inl ⟨_,aw⟩
   .rcases Mc.mp hc with h|h
    .exact ((n1.mu c (mo _ h)).same s2).same s3
    .exact (n2.mu c (mo _ h)).same s3
  .rcases L8.mp hc with e|hc
   .subst e;exact .inl ((s1.trans s2).free hp)
   .rcases Mc.mp hc with h|h
    .exact .inl (n1.fresh c (mo _ h))
    .exact .inl (s1.free (n2.fresh c (mo _ h)))) z)) h)⟩
def LC(da:DE)(dt:DT)(k:Nat)(idx:List Nat)(δ:Dl)(P:DK):Prop:=da δ fun x=>∃ds,x=.lst ds/\ds.length<=1000/\∃p:D->Bool,(∀d∈ds,∀R:Bool->Prop,R (p d)->dt ((fu k idx δ).set 0 (some d)) R)/\P (.lst (ds.filter p))
def He{tt:TT}{dt:DT}{k:Nat}{idx:List Nat}(ha:EM K Γ [] ta da)(ht:TR K [] tt dt)(hk:0<k:=by decide):EM K Γ [] (vW (BP K ta) (kP 0) tt (eJ 0) k idx) (LC da dt k idx):=by
 refine⟨fun δ P P' k h=>ha.mono _ _ _ (fun x ⟨ds,e,l,p,q1,q2⟩=>⟨ds,e,l,p,q1,k _ q2⟩) h,fun {B0 fps δ σ H Q} o h=>ha.run o (ha.mono _ _ _ (fun x z v H1 fp s1 r1 n1=>?_) h)⟩
 obtain ⟨ds,rfl,hl,p,hp,q⟩:=z
 obtain ⟨a,xs,fq,rfl,ga,rfl,hr⟩:=r1
 have c1:=hr.length
 have nd:=Mh.mp n1.nd
 refine⟨a,rfl,⟨xs,.inl (.inl ga)⟩,fun i m vs H2=>∃f2 fs,m=ds.length - i/\i<=ds.length/\Same H1 H2/\vs.length<=i/\Rfs K H1 (ds.drop i) (xs.drop i) f2/\Rfs K H1 ((ds.take i).filter p) vs fs/\(fs++f2).Nodup/\(∀b∈fs++f2,b∈fq),⟨ds.length,fq,[],by omega,NG _,Same.refl _,NG _,by rw[NH,NH];exact hr,⟨rfl,rfl⟩,by rw[List.nil_append];exact nd.2,fun b hb=>by simpa using hb⟩,?_⟩
 rintro i m vs H2 ⟨f2,fs,rfl,hi,s2,hv,k1,k2,SD,sub⟩
 have sq:∀{H3:Hp},Same H1 H3->SqL K H3 a xs:=fun s=>.inl (.inl (s.st _ _ ga trivial))
 by_cases NZ:i<ds.length
 .refine .inr ⟨⟨xs,xs[i]'(by omega),sq s2,dz (by omega)⟩,jO (by omega),_,fun Tt H' q=>q,fun x H3 hy=>?_⟩
  obtain ⟨rfl,hy⟩:=hy
  have ex:=hy xs (sq s2)
  rw[dz (by omega)] at ex
  cases ex
  rw[MD NZ,MD (show i<xs.length by omega)] at k1
  obtain ⟨x',r',g1,g2,e1,e2,d1,d2⟩:=k1
  cases e1
  subst e2
  have oi:=(Jl (k:=k) (idx:=idx) (o.same (s1.trans s2)))
  have o':=(oi.Bi 0 (Same.refl _) (d1.same s2) (fun _ h=>(nomatch h))).sub (Γ':=[]) (fun _ h=>(nomatch h))
  have hd:=hp ds[i] (MO NZ)
  have Xn:((gT k idx σ).set 0 (some (xs[i]'(by omega))))[0]?=some (some (xs[i]'(by omega))):=by
   rw[MC]
   simp [gT,AU]
   omega
  refine ht.run o' (hd _ fun H4 s4=>?_)
  by_cases hb:p ds[i]=true
  .rw[if_pos hb]
   refine⟨_,Xn,ds.length - (i+1),by omega,g2,fs++g1,rfl,NZ,s2.trans s4,by simp;omega,d2,?_,?_,?_⟩
   .rw[OS NZ,List.filter_append,List.filter_cons_of_pos hb,List.filter_nil]
    exact k2.append (Rfs.one d1)
   .rw[MR];exact SD
   .rw[MR];exact sub
  .rw[if_neg hb]
   refine⟨ds.length - (i+1),by omega,g2,fs,rfl,NZ,s2.trans s4,by omega,d2,?_,?_,?_⟩
   .rw[OS NZ,List.filter_append,List.filter_cons_of_neg hb,List.filter_nil,MV]
    exact k2
   .obtain ⟨a1,a2,a3⟩:=Mm.mp SD
    exact Mm.mpr ⟨a1,(Mm.mp a2).2.1,fun c h1 d h2=>a3 c h1 d (KE _ h2)⟩
   .exact fun b Tq=>sub b ((Mc.mp Tq).elim (fun z=>Mf _ z) (fun z=>KE _ (KE _ z)))
 .have e:i=ds.length:=by omega
  subst e
  rw[Om] at k2
  refine .inl ⟨⟨xs,sq s2,by omega⟩,jO (by omega),fun p0 Xw=>?_⟩
  have s3:Same H2 (upd H2 p0 (.lst vs)):=Same.jn Xw
  have Xb:∀b∈fs,b∈fq:=fun b hb=>sub b (Mf _ hb)
  refine q _ _ (p0::fs) ((s1.trans s2).trans s3) ⟨p0,vs,fs,rfl,aw,rfl,k2.same (s2.trans s3)⟩ ⟨Mh.mpr ⟨fun h=>?_,(Mm.mp SD).1⟩,fun c hc=>?_,fun c hc=>?_⟩
  .exact ((n1.mu p0 (mo _ (Xb p0 h))).same s2).some Xw
  .rcases L8.mp hc with e|h
   .subst e;exact .inl ⟨vs,aw⟩
   .exact ((n1.mu c (mo _ (Xb c h))).same s2).same s3
  .rcases L8.mp hc with e|h
   .subst e;exact .inl ((s1.trans s2).free Xw)
   .exact .inl (n1.fresh c (mo _ (Xb c h)))
end
end L3
namespace Tal
def lines:Nat->List (List Int)
 |0=>[[]]
 |w+1=>(lines w).map (fun l=>0::l)++(lines w).map (fun l=>1::l)
def bL(x:Int)(w:Nat):List (List Int):=(lines w).filter fun r=>decide (r.sum=x)
def sub:List Int->List Int->List Int
 |a::as,b::bs=>(a - b)::sub as bs
 |[],_=>[]
 |_::_,[]=>[]
def W:List Int->List Int->Int
 |[],left=>if (∀x∈left,x=0) then 1 else 0
 |r::rs,left=>((bL r left.length).map fun l=>W rs (sub left l)).sum
def sub_len:∀{a b:List Int},b.length=a.length->(sub a b).length=a.length
 |[],_,_=>rfl
 |a::as,[],h=>by simp at h
 |a::as,b::bs,h=>by show (sub as bs).length+1=as.length+1;rw[sub_len (by simpa using h)]
def lJ:∀{a b:List Int}{i:Nat},b.length=a.length->(sub a b).getD i 0=a.getD i 0 - b.getD i 0
 |[],[],i,_=>by simp [sub]
 |[],b::bs,_,h=>by simp at h
 |a::as,[],_,h=>by simp at h
 |a::as,b::bs,0,h=>by simp [sub]
 |a::as,b::bs,i+1,h=>by
  have:=lJ (a:=as) (b:=bs) (i:=i) (by simpa using h)
  simpa [sub] using this
def BK{a b:List Int}(h:a.length=b.length):(List.range a.length).map (fun (i:Nat)=>a.getD i 0 - b.getD i 0)=sub a b:=by
 have l2:=sub_len (a:=a) (b:=b) h.symm
 refine O0 (by rw[ox,Md,l2]) fun i h1 h2=>?_
 rw[OZ,N1,<- lJ h.symm,gV,dz h2]
 rfl
def gk:∀{w:Nat}{l:List Int},l∈lines w->l.length=w/\∀z∈l,z=0\/z=1
 |0,l,h=>by
  rw[lines,Gc] at h
  subst h
  exact⟨rfl,fun z hz=>absurd hz MF⟩
 |w+1,l,h=>by
  rw[lines,Mc,Ma,Ma] at h
  rcases h with ⟨m,hm,rfl⟩|⟨m,hm,rfl⟩
  all_goals
   have:=gk hm
   refine⟨by rw[L6,this.1],fun z hz=>?_⟩
   rcases L8.mp hz with e|e
   .subst e;simp
   .exact this.2 z e
def pJ:∀{l:List Int},(∀z∈l,z=0\/z=1)->l∈lines l.length
 |[],_=>by simp [lines]
 |x::l,h=>by
  have:=pJ (l:=l) (fun z hz=>h z (mo _ hz))
  rw[L6,lines,Mc,Ma,Ma]
  rcases h x Fk with e|e
  .exact .inl ⟨l,this,by rw[e]⟩
  .exact .inr ⟨l,this,by rw[e]⟩
def jm:∀w,(lines w).length=2 ^ w
 |0=>rfl
 |w+1=>by rw[lines,Mx,ox,ox,jm w,Nat.pow_succ];omega
def dE{x:Int}{w:Nat}{l:List Int}:l∈bL x w↔l∈lines w/\l.sum=x:=by
 rw[bL,MZ,decide_eq_true_eq]
def Aj{x:Int}{w:Nat}:(bL x w).length<=2 ^ w:=by
 rw[<- jm w];exact List.length_filter_le _ _
def S(w:Nat)(f:List Int->Int):Int:=((lines w).map f).sum
def sQ{f:List Int->Int}:S 0 f=f []:=by simp [S,lines]
def lZ{w:Nat}{f:List Int->Int}:S (w+1) f=S w (fun l=>f (0::l))+S w (fun l=>f (1::l)):=by
 rw[S,lines,Mr,Oy,Mp,Mp];rfl
def fE{w:Nat}{f g:List Int->Int}(h:∀l∈lines w,f l=g l):S w f=S w g:=by
 rw[S,S,Nf h]
def jJ(p:List Int->Bool)(f:List Int->Int):∀ls:List (List Int),((ls.filter p).map f).sum=(ls.map fun l=>if p l=true then f l else 0).sum
 |[]=>rfl
 |l::ls=>by
  rw[Mb,Mj,<- jJ p f ls,List.filter_cons]
  split<;>simp
def kE{r:Int}{rs left:List Int}:W (r::rs) left=S left.length (fun l=>if l.sum=r then W rs (sub left l) else 0):=by
 rw[W,bL,jJ,S]
 congr 1
 refine Nf fun l _=>?_
 simp
def Ja{w:Nat}{f g:List Int->Int}:S w (fun l=>f l+g l)=S w f+S w g:=by
 unfold S
 induction lines w with
 |nil=>rfl
 |cons a l ih=>simp only[Mb,Mj,ih];omega
def LB{w:Nat}{f:List Int->Int}{k:Int}:S w (fun l=>k*f l)=k*S w f:=by
 unfold S
 induction lines w with
 |nil=>simp
 |cons a l ih=>simp only[Mb,Mj,ih,Int.mul_add]
def tR{w:Nat}:S w (fun _=>0)=0:=by
 unfold S
 induction lines w with
 |nil=>rfl
 |cons a l ih=>simp only[Mb,Mj,ih];omega
def An{v:Nat}:∀{w:Nat}{f:List Int->List Int->Int},S w (fun l=>S v fun m=>f l m)=S v (fun m=>S w fun l=>f l m)
 |0,f=>by rw[sQ];exact fE fun m _=>by rw[sQ]
 |w+1,f=>by
  rw[lZ,An (w:=w) (f:=fun l=>f (0::l)),An (w:=w) (f:=fun l=>f (1::l)),<- Ja]
  exact fE fun m _=>by rw[lZ]
def sI{w:Nat}{f:List Int->Int}(h:∀l∈lines w,0<=f l):0<=S w f:=by
 unfold S
 revert h
 induction lines w with
 |nil=>intro _;simp
 |cons a l ih =>
  intro h
  have h1:=h a Fk
  have h2:=ih fun m hm=>h m (mo _ hm)
  simp only[Mb,Mj];omega
def JX{B:Int}(hB:0<=B):∀{w:Nat}{f:List Int->Int},(∀l∈lines w,f l<=B)->S w f<=2 ^ w*B
 |0,f,h=>by
  rw[sQ]
  have:=h [] (by simp [lines])
  simpa using this
 |w+1,f,h=>by
  rw[lZ]
  have h0:=JX (w:=w) hB (f:=fun l=>f (0::l)) fun l hl=>h _ (by rw[lines,Mc];exact .inl (Ma.mpr ⟨l,hl,rfl⟩))
  have h1:=JX (w:=w) hB (f:=fun l=>f (1::l)) fun l hl=>h _ (by rw[lines,Mc];exact .inr (Ma.mpr ⟨l,hl,rfl⟩))
  have:(2:Int) ^ (w+1)*B=2 ^ w*B+2 ^ w*B:=by rw[Int.pow_succ,Int.mul_right_comm];omega
  omega
def iW:∀{rs left:List Int},0<=W rs left
 |[],left=>by rw[W];split<;>decide
 |r::rs,left=>by
  rw[kE]
  refine sI fun l _=>?_
  split
  .exact iW
  .decide
def K2:∀{rs left:List Int},W rs left<=(2 ^ left.length) ^ rs.length
 |[],left=>by rw[W];split<;>simp
 |r::rs,left=>by
  rw[kE,L6,Int.pow_succ,Int.mul_comm]
  have p:(0:Int)<=(2 ^ left.length) ^ rs.length:=Int.pow_nonneg (Int.pow_nonneg (by decide))
  refine JX p fun l hl=>?_
  split
  .have:=K2 (rs:=rs) (left:=sub left l)
   rw[sub_len (gk hl).1] at this
   exact this
  .exact p
def J1{a b:List Int}(p:a.Perm b):∀(g:Int->List Int->Int),(∀k m m',m.Perm m'->g k m=g k m')->S a.length (fun l=>g l.sum (sub a l))=S b.length (fun l=>g l.sum (sub b l)):=by
 induction p with
 |nil=>intro g _;rfl
 |cons x q ih =>
  intro g hg
  rw[L6,L6,lZ,lZ]
  have one:∀e:Int,_:=fun e=>ih (fun k m=>g (e+k) ((x - e)::m)) (fun k m m' pm=>hg _ _ _ (pm.cons _))
  have h0:=one 0
  have h1:=one 1
  simp only[Mj,sub]
  rw[h0,h1]
 |swap x y l =>
  intro g hg
  simp only[L6,lZ,Mj,sub]
  have e1:S l.length (fun m=>g (0+(1+m.sum)) ((y - 0)::(x - 1)::sub l m))=S l.length (fun m=>g (1+(0+m.sum)) ((x - 1)::(y - 0)::sub l m)):=fE fun m _=>by
   rw[hg _ _ _ (List.Perm.swap _ _ _),show (0+(1+m.sum):Int)=1+(0+m.sum) by omega]
  have e2:S l.length (fun m=>g (1+(0+m.sum)) ((y - 1)::(x - 0)::sub l m))=S l.length (fun m=>g (0+(1+m.sum)) ((x - 0)::(y - 1)::sub l m)):=fE fun m _=>by
   rw[hg _ _ _ (List.Perm.swap _ _ _),show (0+(1+m.sum):Int)=1+(0+m.sum) by omega]
  have e3:S l.length (fun m=>g (0+(0+m.sum)) ((y - 0)::(x - 0)::sub l m))=S l.length (fun m=>g (0+(0+m.sum)) ((x - 0)::(y - 0)::sub l m)):=fE fun m _=>hg _ _ _ (List.Perm.swap _ _ _)
  have e4:S l.length (fun m=>g (1+(1+m.sum)) ((y - 1)::(x - 1)::sub l m))=S l.length (fun m=>g (1+(1+m.sum)) ((x - 1)::(y - 1)::sub l m)):=fE fun m _=>hg _ _ _ (List.Perm.swap _ _ _)
  omega
 |trans _ _ Vc Vb=>intro g hg;rw[Vc g hg,Vb g hg]
def z5:∀{rs a b:List Int},a.Perm b->W rs a=W rs b
 |[],a,b,p=>by
  rw[W,W]
  have:(∀x∈a,x=0)↔(∀x∈b,x=0):=⟨fun h x hx=>h x (p.mem_iff.mpr hx),fun h x hx=>h x (p.mem_iff.mp hx)⟩
  by_cases h:∀x∈a,x=0
  .rw[if_pos h,if_pos (this.mp h)]
  .rw[if_neg h,if_neg fun z=>h (this.mpr z)]
 |r::rs,a,b,p=>by
  rw[kE,kE]
  exact J1 p (fun k m=>if k=r then W rs m else 0) fun k m m' pm=>by rw[z5 (rs:=rs) pm]
def II:∀{rs left:List Int}{i:Nat},i<left.length->(left.getD i 0<0\/(rs.length:Int)<left.getD i 0)->W rs left=0
 |[],left,i,hi,h=>by
  rw[W,if_neg]
  intro z
  have:=z (left.getD i 0) (by rw[gV,dz hi];exact MO hi)
  simp only[N5] at h
  omega
 |r::rs,left,i,hi,h=>by
  rw[kE]
  refine Eq.trans (fE fun l hl=>?_) (tR (w:=left.length))
  have ml:=gk hl
  have:l.getD i 0=0\/l.getD i 0=1:=ml.2 _ (by rw[gV,dz (by rw[ml.1];exact hi)];exact MO _)
  split
  .refine II (i:=i) (by rw[sub_len ml.1];exact hi) ?_
   rw[lJ ml.1]
   simp only[L6] at h
   omega
  .rfl
def IS:∀{R:List Int},W R []=if (∀x∈R,x=0) then 1 else 0
 |[]=>by rw[W]
 |r::R=>by
  rw[kE,N5,sQ,sub,IS]
  by_cases h:r=0
  .rw[h,if_pos (by rfl)]
   congr 1
   simp
  .rw[if_neg (by intro z;exact h z.symm),if_neg]
   intro z;exact h (z r Fk)
def Jn:∀{R C:List Int}{c:Int},W R (c::C)=S R.length (fun l=>if l.sum=c then W (sub R l) C else 0)
 |[],C,c=>by
  rw[N5,sQ,W,sub,W]
  by_cases h:c=0
  .rw[h,if_pos (c:=List.sum []=0) (by rfl)]
   congr 1
   simp
  .rw[if_neg (c:=List.sum []=c) (by intro z;exact h z.symm),if_neg]
   intro z;exact h (z c Fk)
 |r::R,C,c=>by
  rw[kE,L6,lZ,L6,lZ]
  have one:∀b:Int,S C.length (fun l=>if (b::l).sum=r then W R (sub (c::C) (b::l)) else 0)=S R.length (fun l=>if (b::l).sum=c then W (sub (r::R) (b::l)) C else 0):=fun b=>by
   have a1:S C.length (fun l=>if (b::l).sum=r then W R (sub (c::C) (b::l)) else 0)=S C.length fun l=>S R.length fun m=>if b+l.sum=r/\b+m.sum=c then W (sub R m) (sub C l) else 0:=by
    refine fE fun l _=>?_
    show (if (b::l).sum=r then W R ((c - b)::sub C l) else 0)=_
    have e:(b::l).sum=b+l.sum:=Mj
    rw[e]
    by_cases h:b+l.sum=r
    .rw[if_pos h,Jn]
     refine fE fun m _=>?_
     by_cases h2:m.sum=c - b
     .rw[if_pos h2,if_pos ⟨h,by omega⟩]
     .rw[if_neg h2,if_neg (fun z=>h2 (by have:=z.2;omega))]
    .rw[if_neg h]
     exact (tR (w:=R.length)).symm.trans (fE fun m _=>by rw[if_neg (fun z=>h z.1)])
   have a2:S R.length (fun l=>if (b::l).sum=c then W (sub (r::R) (b::l)) C else 0)=S R.length fun m=>S C.length fun l=>if b+l.sum=r/\b+m.sum=c then W (sub R m) (sub C l) else 0:=by
    refine fE fun m hm=>?_
    show (if (b::m).sum=c then W ((r - b)::sub R m) C else 0)=_
    have e:(b::m).sum=b+m.sum:=Mj
    rw[e]
    by_cases h:b+m.sum=c
    .rw[if_pos h,kE]
     refine fE fun l _=>?_
     by_cases h2:l.sum=r - b
     .rw[if_pos h2,if_pos ⟨by omega,h⟩]
     .rw[if_neg h2,if_neg (fun z=>h2 (by have:=z.1;omega))]
    .rw[if_neg h]
     exact (tR (w:=C.length)).symm.trans (fE fun l _=>by rw[if_neg (fun z=>h z.2)])
   rw[a1,a2,An]
  rw[one 0,one 1]
def EW:∀{R C:List Int},W R C=W C R
 |R,[]=>by rw[IS,W]
 |R,c::C=>by
  rw[Jn,kE]
  exact fE fun l _=>by rw[EW]
def C7{R R' C:List Int}(p:R.Perm R'):W R C=W R' C:=by
 rw[EW,z5 p,EW]
end Tal
namespace Tal
def Ok:List Int->List Int->List (List Int)->Prop
 |[],left,[]=>∀x∈left,x=0
 |r::rs,left,t::ts=>t∈bL r left.length/\Ok rs (sub left t) ts
 |_,_,_=>False
def zQ:∀{R left:List Int}{T:List (List Int)},Ok R left T->T.length=R.length
 |[],left,[],h=>rfl
 |[],left,_::_,h=>h.elim
 |_::_,left,[],h=>h.elim
 |r::rs,left,t::ts,h=>by rw[L6,L6,zQ h.2]
def cols(w:Nat)(T:List (List Int)):List Int:=(List.range w).map fun k=>(T.map fun r=>r.getD k 0).sum
def fO{w:Nat}{T:List (List Int)}:(cols w T).length=w:=by rw[cols,ox,Md]
def jQ{w k:Nat}{T:List (List Int)}(h:k<w):(cols w T).getD k 0=(T.map fun r=>r.getD k 0).sum:=by
 rw[cols,gV,L9,MK h];rfl
def mK{a b:List Int}(h:a.length=b.length)(k:∀i,i<a.length->a.getD i 0=b.getD i 0):a=b:=by
 refine O0 h fun i h1 h2=>?_
 have:=k i h1
 rw[gV,gV,dz h1,dz h2] at this
 exact this
def FR{w:Nat}{t:List Int}{T:List (List Int)}(ht:t.length=w):sub (cols w (t::T)) t=cols w T:=by
 refine mK (by rw[sub_len (by rw[fO,ht]),fO,fO]) fun i hi=>?_
 rw[sub_len (by rw[fO,ht]),fO] at hi
 rw[lJ (by rw[fO,ht]),jQ hi,jQ hi,Mb,Mj]
 omega
def Aa{w:Nat}:∀{T:List (List Int)},(∀t∈T,t.length=w/\∀z∈t,z=0\/z=1)->Ok (T.map List.sum) (cols w T) T
 |[],_=>by
  show ∀x∈cols w [],x=0
  intro x hx
  rw[cols,Ma] at hx
  obtain ⟨k,_,rfl⟩:=hx
  rfl
 |t::T,h=>by
  have ht:=h t Fk
  refine⟨dE.mpr ⟨?_,rfl⟩,?_⟩
  .rw[fO,<- ht.1];exact pJ ht.2
  .rw[FR ht.1];exact Aa fun u hu=>h u (mo _ hu)
def si:∀{R left:List Int}{T:List (List Int)},Ok R left T->R=T.map List.sum/\left=cols left.length T/\∀t∈T,t.length=left.length/\∀z∈t,z=0\/z=1
 |[],left,[],h=>by
  refine⟨rfl,?_,fun _ h=>absurd h MF⟩
  refine mK (by rw[fO]) fun i hi=>?_
  rw[jQ hi,h (left.getD i 0) (by rw[gV,dz hi];exact MO hi)]
  rfl
 |[],left,_::_,h=>h.elim
 |_::_,left,[],h=>h.elim
 |r::rs,left,t::ts,h=>by
  have m:=dE.mp h.1
  have ml:=gk m.1
  have ih:=si h.2
  rw[sub_len ml.1] at ih
  refine⟨by rw[Mb,m.2,<- ih.1],?_,fun u hu=>?_⟩
  .refine mK (by rw[fO]) fun i hi=>?_
   have e:=congrArg (fun l=>l.getD i 0) ih.2.1
   rw[lJ ml.1,jQ hi] at e
   rw[jQ hi,Mb,Mj]
   omega
  .rcases L8.mp hu with e|e
   .rw[e];exact ml
   .exact ih.2.2 u e
end Tal
namespace PySem.SeqAt
open PySem PyProof.Rows
open PySem.AutoSeq1 (wpAny_loadPart')
open MeetsSeq MeetsSeq2 MeetsSeq3
end PySem.SeqAt
namespace L2
open PySem PySem.Spec PyProof.Rows
open PySem.SeqAt
section
end
section
end
end L2
namespace L3
open PySem L2
section
end
end L3
namespace Tal
def wo(R:List Int)(i:Nat):List Int:=R.take i++R.drop (i+1)
def sh(r:Int)(R' C:List Int)(k:Nat):Int:=((bL r C.length).map fun l=>W R' (sub C l)*l.getD k 0).sum
def LY{r:Int}{R' C:List Int}{k:Nat}:sh r R' C k=S C.length (fun l=>if l.sum=r then W R' (sub C l)*l.getD k 0 else 0):=by
 rw[sh,bL,jJ,S]
 congr 1
 refine Nf fun l _=>?_
 simp
def Il{R:List Int}{i:Nat}(h:i<R.length):(R.getD i 0::wo R i).Perm R:=by
 have e:R=R.take i++R.getD i 0::R.drop (i+1):=by
  rw[gV,dz h]
  show R=R.take i++R[i]::R.drop (i+1)
  rw[<- MD h,MX]
 conv=>rhs;rw[e]
 exact List.perm_middle.symm
def Lx{R C:List Int}{i:Nat}(h:i<R.length):W (R.getD i 0::wo R i) C=W R C:=C7 (Il h)
def Js{w:Nat}{f g:List Int->Int}(h:∀l∈lines w,f l<=g l):S w f<=S w g:=by
 have:0<=S w (fun l=>g l + -1*f l):=sI fun l hl=>by have:=h l hl;omega
 rw[Ja,LB] at this
 omega
def iS{w k:Nat}{l:List Int}(h:l∈lines w):l.getD k 0=0\/l.getD k 0=1:=by
 rw[gV]
 cases e:l[k]? with
 |none=>exact .inl rfl
 |some x=>exact (gk h).2 x (MN e)
def Gx{r:Int}{R' C:List Int}{k:Nat}:0<=sh r R' C k/\sh r R' C k<=W (r::R') C:=by
 rw[LY,kE]
 constructor
 .refine sI fun l hl=>?_
  split
  .have:=iW (rs:=R') (left:=sub C l)
   rcases iS (k:=k) hl with e|e<;>rw[e]<;>omega
  .decide
 .refine Js fun l hl=>?_
  split
  .have:=iW (rs:=R') (left:=sub C l)
   rcases iS (k:=k) hl with e|e<;>rw[e]<;>omega
  .decide
def FJ{R:List Int}{i:Nat}(h:i<R.length):(wo R i).length=R.length - 1:=by
 rw[wo,Mx,M5,Nl];omega
def DR{R C:List Int}{i k:Nat}(hi:i<R.length):0<=sh (R.getD i 0) (wo R i) C k/\sh (R.getD i 0) (wo R i) C k<=W R C:=by
 have:=Gx (r:=R.getD i 0) (R':=wo R i) (C:=C) (k:=k)
 rw[Lx hi] at this
 exact this
end Tal
namespace L3
open PySem L2
section
end
end L3
namespace L3
open PySem L2
section
variable {K:PySem.W.Frag}{Γ:List Nat}{H:Hp}
def Ay(d:DE)(δ:Dl)(P:DK):Prop:=d δ fun x=>∃a y,x=.pin a y/\P (.raw (.ref a))
def ER.rawOf{t:TE}{d:DE}(h:ER K Γ t d):EM K Γ [] t (Ay d) :=
 ⟨fun δ P P' k q=>h.mono _ _ _ (fun x ⟨a,y,e,z⟩=>⟨a,y,e,k _ z⟩) q,fun {B0 fps δ σ H Q} o q=>h.run o (h.mono _ _ _ (fun x z v H1 s1 r1=>by
  obtain ⟨a,y,rfl,z⟩:=z
  obtain ⟨fp,e,_⟩:=r1
  exact z v H1 [] s1 ⟨e,rfl⟩ Nw.nil) q)⟩
end
end L3
namespace L2
open PySem PySem.Spec PyProof.Rows
section
end
end L2
namespace L3
open PySem L2
section
end
end L3
namespace L3
open PySem
open L2 hiding D Rf Rfs Rp dI dT
def ue:∀{l:List Int}{b:Nat}{v:Int},b<l.length->(l.set b v).sum=l.sum+(v - l.getD b 0)
 |[],b,v,h=>by simp at h
 |x::l,0,v,h=>by simp;omega
 |x::l,b+1,v,h=>by
  have:=ue (l:=l) (b:=b) (v:=v) (by simpa using h)
  simp only[List.set_cons_succ,Mj,this,List.getD_cons_succ]
  omega
def lT(t:List (List Int))(a:Nat):Int:=(rowAt t a).sum
def lV(t:List (List Int))(c:Nat):Int:=(t.map fun r=>r.getD c 0).sum
def Gy{t:List (List Int)}{n m a b a':Nat}{v:Int}(hR:cT n m t)(ha:a<n)(hb:b<m):lT (setCell t a b v) a'=lT t a' + if a=a' then v - cellAt t a b else 0:=by
 have hl:=hR.1
 have hr:=hR.row ha
 unfold lT rowAt setCell cellAt
 by_cases h:a=a'
 .subst h
  rw[if_pos rfl,gV (l:=t.set a _),MC (by omega),M9,ue (by rw[show (t.getD a []).length=m from hr];exact hb)]
 .rw[if_neg h,gV (l:=t.set a _),Ml h,<- gV];omega
def Eo{t:List (List Int)}{n m a b c:Nat}{v:Int}(hR:cT n m t)(ha:a<n)(hb:b<m):lV (setCell t a b v) c=lV t c+if b=c then v - cellAt t a b else 0:=by
 have hl:=hR.1
 have hr:=hR.row ha
 unfold lV setCell cellAt
 rw[Pn,ue (by rw[ox];omega)]
 have e:(t.map fun r=>r.getD c 0).getD a 0=(t.getD a []).getD c 0:=by
  rw[gV,L9,dz (by omega),gV (l:=t),dz (by omega)]
  rfl
 rw[e]
 have Xr:(t.getD a []).length=m:=hr
 by_cases h:b=c
 .subst h
  rw[if_pos rfl,gV (l:=List.set _ _ _),MC (by omega),M9]
 .rw[if_neg h,gV (l:=List.set _ _ _),Ml h,<- gV];omega
end L3
namespace L3
namespace Fl
def sN(n:Nat)(f:Nat->Int):Int:=((List.range n).map f).sum
def fC{n:Nat}{f:Nat->Int}:sN (n+1) f=sN n f+f n:=by
 unfold sN;rw[List.range_succ,Mr,Oy];simp
def bq{n:Nat}{f g:Nat->Int}(h:∀i,i<n->f i=g i):sN n f=sN n g:=by
 unfold sN;congr 1;exact Nf fun i hi=>h i (Ms.mp hi)
def jY{f g:Nat->Int}:∀{n:Nat},sN n (fun i=>f i+g i)=sN n f+sN n g
 |0=>rfl
 |n+1=>by rw[fC,fC,fC,jY];omega
def so{f g:Nat->Int}:∀{n:Nat},sN n (fun i=>f i - g i)=sN n f - sN n g
 |0=>rfl
 |n+1=>by rw[fC,fC,fC,so];omega
def cM:∀{n:Nat},sN n (fun _=>0)=0
 |0=>rfl
 |n+1=>by rw[fC,cM];rfl
def qY{m:Nat}{f:Nat->Nat->Int}:∀{n:Nat},sN n (fun i=>sN m fun j=>f i j)=sN m fun j=>sN n fun i=>f i j
 |0=>(cM (n:=m)).symm
 |n+1=>by
  rw[fC,qY,<- jY]
  exact bq fun j _=>fC.symm
def mT{f:Nat->Int}:∀{n:Nat},(∀i,i<n->0<=f i)->0<=sN n f
 |0,_=>OJ _
 |n+1,h=>by
  rw[fC]
  have:=mT (f:=f) (n:=n) fun i hi=>h i (by omega)
  have:=h n (by omega)
  omega
def xA{f:Nat->Int}{k:Nat}:∀{n:Nat},(∀i,i<n->0<=f i)->k<n->0<f k->0<sN n f
 |0,_,h,_=>by omega
 |n+1,h,hk,hp=>by
  rw[fC]
  have a:=mT (f:=f) (n:=n) fun i hi=>h i (by omega)
  have b:=h n (by omega)
  rcases Nat.lt_or_ge k n with z|z
  .have:=xA (fun i hi=>h i (by omega)) z hp
   omega
  .have e:k=n:=by omega
   subst e;omega
def tj{l:List Int}:l.sum=sN l.length fun i=>l.getD i 0:=by
 unfold sN
 congr 1
 refine O0 (by simp) fun i h1 h2=>?_
 rw[OZ,N1,gV,dz h1];rfl
def xc{t:List (List Int)}{n m a:Nat}(h:cT n m t)(ha:a<n):lT t a=sN m fun j=>cellAt t a j:=by
 unfold lT;rw[tj,show (rowAt t a).length=m from h.row ha]
def qV{t:List (List Int)}{n m b:Nat}(h:cT n m t):lV t b=sN n fun i=>cellAt t i b:=by
 unfold lV;rw[tj,ox,h.1]
 refine bq fun i hi=>?_
 have Qf:i<t.length:=by rw[h.1];exact hi
 unfold cellAt
 rw[gV,L9,dz Qf,gV (l:=t),dz Qf]
 rfl
def wt{f:Nat->Int}:∀{n:Nat}{R:List Nat},R.Nodup->(∀r∈R,r<n)->(R.map f).sum=sN n fun i=>if i∈R then f i else 0
 |n,[],_,_=>by simp [cM]
 |n,r::R,nd,h=>by
  obtain ⟨n1,n2⟩:=Mh.mp nd
  rw[Mb,Mj,wt n2 fun x hx=>h x (mo _ hx)]
  have hr:=h r Fk
  have e:sN n (fun i=>if i∈r::R then f i else 0)=sN n (fun i=>(if i=r then f i else 0)+if i∈R then f i else 0):=bq fun i _=>by
   by_cases h1:i=r
   .subst h1
    rw[if_pos Fk,if_pos rfl,if_neg n1];omega
   .rw[if_neg h1]
    by_cases h2:i∈R
    .rw[if_pos (mo _ h2),if_pos h2];omega
    .rw[if_neg (fun z=>by rcases L8.mp z with z|z;exact h1 z;exact h2 z),if_neg h2];omega
  rw[e,jY]
  congr 1
  have one:∀n:Nat,r<n->sN n (fun i=>if i=r then f i else 0)=f r:=by
   intro n
   induction n with
   |zero=>intro z;omega
   |succ k ih =>
    intro hk
    rw[fC]
    rcases Nat.lt_or_ge r k with z|z
    .rw[ih z,if_neg (by omega)];omega
    .have e:k=r:=by omega
     subst e
     rw[if_pos rfl]
     have:sN k (fun i=>if i=k then f i else 0)=0:=by
      rw[bq (g:=fun _=>0) fun i hi=>if_neg (by omega)];exact cM
     rw[this];omega
  exact (one n hr).symm
def Cut(n m:Nat)(rows cols:List Int)(low high:List (List Int))(R C:List Nat):Prop :=
 sN m (fun j=>if j∈C then cols.getD j 0 else 0)+sN n (fun i=>sN m fun j=>(if i∈R/\j∉C then cellAt high i j else 0) - (if i∉R/\j∈C then cellAt low i j else 0))<sN n fun i=>if i∈R then rows.getD i 0 else 0
structure St(n m:Nat)(rows cols:List Int)(low high:List (List Int))(t:List (List Int))(w r:List Int):Prop where
 rt:cT n m t
 wl:w.length=n
 rl:r.length=m
 bd:∀i j,i<n->j<m->cellAt low i j<=cellAt t i j/\cellAt t i j<=cellAt high i j
 rs:∀i,i<n->rows.getD i 0=w.getD i 0+lT t i
 cs:∀j,j<m->cols.getD j 0=r.getD j 0+lV t j
 rp:∀j,j<m->0<=r.getD j 0
 ng:∀i,i<n->w.getD i 0<0->∀j,j<m->cellAt t i j=cellAt low i j
def KA{n m:Nat}{rows cols:List Int}{low high t:List (List Int)}{w r:List Int}{R C:List Nat}(s:St n m rows cols low high t w r)
  (h1:∀i,i<n->0<w.getD i 0->i∈R) (h2:∀i∈R,i<n/\(0<w.getD i 0\/∃j,j<m/\cellAt low i j<cellAt t i j)) (h3:∀i∈R,∀j,j<m->cellAt t i j<cellAt high i j->j∈C) (h4:∀j∈C,r.getD j 0<=0)
  (h5:∀j∈C,∀i,i<n->cellAt low i j<cellAt t i j->i∈R) (k:Nat) (hk:k<n) (hw:0<w.getD k 0):Cut n m rows cols low high R C:=by
 unfold Cut
 have e1:sN n (fun i=>if i∈R then rows.getD i 0 else 0)=sN n (fun i=>if i∈R then w.getD i 0 else 0)+sN n fun i=>sN m fun j=>if i∈R then cellAt t i j else 0:=by
  rw[<- jY]
  refine bq fun i hi=>?_
  by_cases z:i∈R
  .rw[if_pos z,if_pos z,s.rs i hi,xc s.rt hi]
   congr 1
   exact bq fun j _=>(if_pos z).symm
  .rw[if_neg z,if_neg z,bq (g:=fun _=>0) fun j _=>if_neg z,cM];rfl
 have e2:sN m (fun j=>if j∈C then cols.getD j 0 else 0)=sN m (fun j=>if j∈C then r.getD j 0 else 0)+sN n fun i=>sN m fun j=>if j∈C then cellAt t i j else 0:=by
  rw[qY,<- jY]
  refine bq fun j hj=>?_
  by_cases z:j∈C
  .rw[if_pos z,if_pos z,s.cs j hj,qV s.rt]
   congr 1
   exact bq fun i _=>(if_pos z).symm
  .rw[if_neg z,if_neg z,bq (g:=fun _=>0) fun i _=>if_neg z,cM];rfl
 have e3:sN n (fun i=>sN m fun j=>if i∈R then cellAt t i j else 0)=sN n (fun i=>sN m fun j=>if j∈C then cellAt t i j else 0)+sN n (fun i=>sN m fun j=>(if i∈R/\j∉C then cellAt high i j else 0) - (if i∉R/\j∈C then cellAt low i j else 0)):=by
  rw[<- jY]
  refine bq fun i hi=>?_
  rw[<- jY]
  refine bq fun j hj=>?_
  have b:=s.bd i j hi hj
  by_cases z1:i∈R<;>by_cases z2:j∈C
  .rw[if_pos z1,if_pos z2,if_neg (fun q=>q.2 z2),if_neg (fun q=>q.1 z1)];omega
  .rw[if_pos z1,if_neg z2,if_pos ⟨z1,z2⟩,if_neg (fun q=>q.1 z1)]
   have:¬ cellAt t i j<cellAt high i j:=fun q=>z2 (h3 i z1 j hj q)
   omega
  .rw[if_neg z1,if_pos z2,if_neg (fun q=>q.2 z2),if_pos ⟨z1,z2⟩]
   have:¬ cellAt low i j<cellAt t i j:=fun q=>z1 (h5 j z2 i hi q)
   omega
  .rw[if_neg z1,if_neg z2,if_neg (fun q=>z1 q.1),if_neg (fun q=>z2 q.2)];omega
 have p1:0<sN n fun i=>if i∈R then w.getD i 0 else 0:=by
  refine xA (k:=k) (fun i hi=>?_) hk ?_
  .by_cases z:i∈R
   .rw[if_pos z]
    rcases (h2 i z).2 with q|⟨j,hj,q⟩
    .omega
    .rcases Int.lt_or_le (w.getD i 0) 0 with y|y
     .have:=s.ng i hi y j hj;omega
     .exact y
   .rw[if_neg z];exact OJ _
  .rw[if_pos (h1 k hk hw)];exact hw
 have p2:sN m (fun j=>if j∈C then r.getD j 0 else 0)=0:=by
  rw[bq (g:=fun _=>0) fun j hj=>?_,cM]
  by_cases z:j∈C
  .rw[if_pos z]
   have:=h4 j z
   have:=s.rp j hj
   omega
  .rw[if_neg z]
 rw[e1,e2,e3,p2]
 omega
def filled{n m:Nat}{rows cols:List Int}{low high t:List (List Int)}{w r:List Int}(s:St n m rows cols low high t w r)(hr:rows.length=n)(hc:cols.length=m)(hs:rows.sum=cols.sum)(h:∀i,i<n->w.getD i 0<=0) :
  (∀i,i<n->lT t i=rows.getD i 0)/\∀j,j<m->lV t j=cols.getD j 0:=by
 have e1:rows.sum=sN n (fun i=>w.getD i 0)+sN n fun i=>sN m fun j=>cellAt t i j:=by
  rw[tj,hr,<- jY]
  exact bq fun i hi=>by rw[s.rs i hi,xc s.rt hi]
 have e2:cols.sum=sN m (fun j=>r.getD j 0)+sN n fun i=>sN m fun j=>cellAt t i j:=by
  rw[tj,hc,qY,<- jY]
  exact bq fun j hj=>by rw[s.cs j hj,qV s.rt]
 have a1:=mT (f:=fun j=>r.getD j 0) (n:=m) s.rp
 have a2:0<=sN n (fun i=>0 - w.getD i 0):=mT fun i hi=>by have:=h i hi;omega
 rw[so,cM] at a2
 refine⟨fun i hi=>?_,fun j hj=>?_⟩
 .have:=s.rs i hi
  have hw:=h i hi
  rcases Int.lt_or_le (w.getD i 0) 0 with z|z
  .have p:0<sN n (fun i=>0 - w.getD i 0):=xA (k:=i) (fun i hi=>by have:=h i hi;omega) hi (by omega)
   rw[so,cM] at p
   omega
  .omega
 .have:=s.cs j hj
  have hr:=s.rp j hj
  rcases Int.lt_or_le 0 (r.getD j 0) with z|z
  .have p:=xA (f:=fun j=>r.getD j 0) (k:=j) s.rp hj z
   omega
  .omega
def cellsOf:List (Nat × Nat)->List (Nat × Nat)
 |[]=>[]
 |[p]=>[p]
 |p::q::r=>p::(p.1,q.2)::cellsOf (q::r)
def kM:List (Nat × Nat)->Nat->List (Nat × Nat)
 |[],_=>[]
 |[p],c=>[p,(p.1,c)]
 |p::q::r,c=>p::(p.1,q.2)::kM (q::r) c
def tX{s c:Nat}:∀{ps:List (Nat × Nat)},cellsOf (ps++[(s,c)])=kM ps c++[(s,c)]
 |[]=>rfl
 |[p]=>rfl
 |p::q::r=>by
  show p::(p.1,q.2)::cellsOf (q::r++[(s,c)])=p::(p.1,q.2)::kM (q::r) c++[(s,c)]
  rw[tX];rfl
def vV{s c c2:Nat}:∀{ps:List (Nat × Nat)},kM (ps++[(s,c)]) c2=kM ps c++[(s,c),(s,c2)]
 |[]=>rfl
 |[p]=>rfl
 |p::q::r=>by
  show p::(p.1,q.2)::kM (q::r++[(s,c)]) c2=p::(p.1,q.2)::kM (q::r) c++[(s,c),(s,c2)]
  rw[vV];rfl
def Lk(L:Nat->Nat->Prop):List (Nat × Nat)->Prop
 |p::q::r=>L p.1 q.2/\Lk L (q::r)
 |_=>True
def BF{L:Nat->Nat->Prop}{s c:Nat}:∀{ps:List (Nat × Nat)},Lk L ps->(∀p,ps.getLast?=some p->L p.1 c)->Lk L (ps++[(s,c)])
 |[],_,_=>trivial
 |[p],_,h=>⟨h p rfl,trivial⟩
 |p::q::r,h,k=>⟨h.1,BF (ps:=q::r) h.2 fun z e=>k z (by rw[NJ];exact e)⟩
def ap:Int->List (Nat × Nat)->List (List Int)->List (List Int)
 |_,[],t=>t
 |x,p::r,t=>ap (-x) r (setCell t p.1 p.2 (cellAt t p.1 p.2+x))
def dl:Int->List (Nat × Nat)->Nat->Nat->Int
 |_,[],_,_=>0
 |x,p::r,a,b=>(if p.1=a/\p.2=b then x else 0)+dl (-x) r a b
def dlr:Int->List (Nat × Nat)->Nat->Int
 |_,[],_=>0
 |x,p::r,a=>(if p.1=a then x else 0)+dlr (-x) r a
def dlc:Int->List (Nat × Nat)->Nat->Int
 |_,[],_=>0
 |x,p::r,b=>(if p.2=b then x else 0)+dlc (-x) r b
def IW{n m:Nat}:∀{ps:List (Nat × Nat)}{x:Int}{t:List (List Int)},cT n m t->(∀p∈ps,p.1<n/\p.2<m)->cT n m (ap x ps t)/\(∀a b,cellAt (ap x ps t) a b=cellAt t a b+dl x ps a b)/\(∀a,lT (ap x ps t) a=lT t a+dlr x ps a)/\∀b,lV (ap x ps t) b=lV t b+dlc x ps b
 |[],x,t,h,_=>⟨h,fun a b=>by simp [ap,dl],fun a=>by simp [ap,dlr],fun b=>by simp [ap,dlc]⟩
 |p::ps,x,t,h,hp=>by
  obtain ⟨h1,h2⟩:=hp p Fk
  have hR:cT n m (setCell t p.1 p.2 (cellAt t p.1 p.2+x)):=h.setCell h1
  obtain ⟨k1,k2,k3,k4⟩:=IW (ps:=ps) (x:=-x) hR fun q hq=>hp q (mo _ hq)
  refine⟨k1,fun a b=>?_,fun a=>?_,fun b=>?_⟩
  .show cellAt (ap (-x) ps _) a b=_
   rw[k2,oP h h1 h2]
   show _=cellAt t a b+((if p.1=a/\p.2=b then x else 0)+dl (-x) ps a b)
   by_cases z:p.1=a/\p.2=b
   .rw[if_pos z,if_pos z]
    obtain ⟨rfl,rfl⟩:=z
    omega
   .rw[if_neg z,if_neg z];omega
  .show lT (ap (-x) ps _) a=_
   rw[k3,Gy h h1 h2]
   show _=lT t a+((if p.1=a then x else 0)+dlr (-x) ps a)
   by_cases z:p.1=a
   .rw[if_pos z,if_pos z];omega
   .rw[if_neg z,if_neg z];omega
  .show lV (ap (-x) ps _) b=_
   rw[k4,Eo h h1 h2]
   show _=lV t b+((if p.2=b then x else 0)+dlc (-x) ps b)
   by_cases z:p.2=b
   .rw[if_pos z,if_pos z];omega
   .rw[if_neg z,if_neg z];omega
def Be{x:Int}{a:Nat}:∀{ps:List (Nat × Nat)}{p:Nat × Nat},ps.getLast?=some p->dlr x (cellsOf ps) a=if p.1=a then x else 0
 |[],p,e=>by simp at e
 |[q],p,e=>by
  obtain rfl:q=p:=by simpa using e
  show (if q.1=a then x else 0)+0=_
  omega
 |q::q2::r,p,e=>by
  show (if q.1=a then x else 0)+((if q.1=a then -x else 0)+dlr (- -x) (cellsOf (q2::r)) a)=_
  rw[Int.neg_neg,Be (ps:=q2::r) (p:=p) (by rw[NJ] at e;exact e)]
  by_cases z:q.1=a
  .rw[if_pos z,if_pos z];omega
  .rw[if_neg z,if_neg z];omega
def BC{x:Int}{b:Nat}:∀{ps:List (Nat × Nat)}{p:Nat × Nat},dlc x (cellsOf (p::ps)) b=if p.2=b then x else 0
 |[],p=>by
  show (if p.2=b then x else 0)+0=_
  omega
 |q::r,p=>by
  show (if p.2=b then x else 0)+((if q.2=b then -x else 0)+dlc (- -x) (cellsOf (q::r)) b)=_
  rw[Int.neg_neg,BC (ps:=r) (p:=q)]
  by_cases z:q.2=b
  .rw[if_pos z,if_pos z];omega
  .rw[if_neg z,if_neg z];omega
def zL{x:Int}{a b:Nat}:∀{ps:List (Nat × Nat)},(∀p∈ps,p.1≠a)->dl x (cellsOf ps) a b=0
 |[],_=>rfl
 |[p],h=>by
  show (if p.1=a/\p.2=b then x else 0)+0=0
  rw[if_neg (fun z=>h p Fk z.1)];rfl
 |p::q::r,h=>by
  show (if p.1=a/\p.2=b then x else 0)+((if p.1=a/\q.2=b then -x else 0)+dl (- -x) (cellsOf (q::r)) a b)=0
  rw[if_neg (fun z=>h p Fk z.1),if_neg (fun z=>h p Fk z.1),Int.neg_neg,zL (ps:=q::r) fun z hz=>h z (mo _ hz)];rfl
def FL{x:Int}{a b:Nat}{L:Nat->Nat->Prop}:∀{ps:List (Nat × Nat)},(ps.map Prod.fst).Nodup->(ps.map Prod.snd).Nodup->Lk L ps->dl x (cellsOf ps) a b=0\/(dl x (cellsOf ps) a b=x/\(a,b)∈ps)\/(dl x (cellsOf ps) a b=-x/\L a b/\∃p∈ps,p.1=a)
 |[],_,_,_=>.inl rfl
 |[p],_,_,_=>by
  show (if p.1=a/\p.2=b then x else 0)+0=0\/((if p.1=a/\p.2=b then x else 0)+0=x/\_)\/_
  by_cases z:p.1=a/\p.2=b
  .right;left
   rw[if_pos z]
   refine⟨by omega,?_⟩
   rw[<- z.1,<- z.2];exact Fk
  .left;rw[if_neg z];rfl
 |p::q::r,n1,n2,hl=>by
  have e:dl x (cellsOf (p::q::r)) a b=(if p.1=a/\p.2=b then x else 0)+((if p.1=a/\q.2=b then -x else 0)+dl (- -x) (cellsOf (q::r)) a b):=rfl
  rw[e,Int.neg_neg]
  rw[Mb] at n1 n2
  obtain ⟨m1,m1'⟩:=Mh.mp n1
  obtain ⟨m2,m2'⟩:=Mh.mp n2
  by_cases z:p.1=a
  .have z0:dl x (cellsOf (q::r)) a b=0:=zL fun y hy w=>m1 (by rw[z,<- w];exact Ma.mpr ⟨y,hy,rfl⟩)
   rw[z0]
   by_cases z1:p.2=b
   .have z2:q.2≠b:=fun w=>m2 (by rw[z1,<- w];exact Ma.mpr ⟨q,Fk,rfl⟩)
    right;left
    rw[if_pos ⟨z,z1⟩,if_neg (fun w=>z2 w.2)]
    refine⟨by omega,?_⟩
    rw[<- z,<- z1];exact Fk
   .rw[if_neg (fun w=>z1 w.2)]
    by_cases z2:q.2=b
    .right;right
     rw[if_pos ⟨z,z2⟩]
     refine⟨by omega,?_,p,Fk,z⟩
     rw[<- z,<- z2];exact hl.1
    .left;rw[if_neg (fun w=>z2 w.2)];rfl
  .rw[if_neg (fun w=>z w.1),if_neg (fun w=>z w.1),Na,Na]
   rcases FL (x:=x) (a:=a) (b:=b) m1' m2' hl.2 with w|w|w
   .exact .inl w
   .exact .inr (.inl ⟨w.1,mo _ w.2⟩)
   .obtain ⟨w1,w2,y,hy,w3⟩:=w
    exact .inr (.inr ⟨w1,w2,y,mo _ hy,w3⟩)
def Al(Q0 Q1:Nat × Nat->Prop):List (Nat × Nat)->Prop
 |[]=>True
 |p::r=>Q0 p/\Al Q1 Q0 r
def IQ{Q0 Q1:Nat × Nat->Prop}:∀{cs:List (Nat × Nat)},(∀(j:Nat) p,cs[j]?=some p->if j % 2=0 then Q0 p else Q1 p)->Al Q0 Q1 cs
 |[],_=>trivial
 |p::r,h=>by
  refine⟨by have:=h 0 p rfl;simpa using this,IQ fun j q e=>?_⟩
  have:=h (j+1) q (by simpa using e)
  by_cases z:j % 2=0
  .rw[if_pos z];rw[if_neg (by omega)] at this;exact this
  .rw[if_neg z];rw[if_pos (by omega)] at this;exact this
def IH{Q0 Q1:Nat × Nat->Prop}:∀{cs:List (Nat × Nat)},Al Q0 Q1 cs->∀(j:Nat) p,cs[j]?=some p->if j % 2=0 then Q0 p else Q1 p
 |[],_,j,p,e=>by simp at e
 |q::r,h,0,p,e=>by
  obtain rfl:q=p:=by simpa using e
  exact h.1
 |q::r,h,j+1,p,e=>by
  have:=IH h.2 j p (by simpa using e)
  by_cases z:j % 2=0
  .rw[if_pos z] at this;rw[if_neg (by omega)];exact this
  .rw[if_neg z] at this;rw[if_pos (by omega)];exact this
def zK{Q0 Q1:Nat × Nat->Prop}:∀{ps:List (Nat × Nat)},Al Q0 Q1 (cellsOf ps)↔(∀p∈ps,Q0 p)/\Lk (fun a b=>Q1 (a,b)) ps
 |[]=>⟨fun _=>⟨fun p h=>(nomatch h),trivial⟩,fun _=>trivial⟩
 |[p]=>⟨fun h=>⟨fun q hq=>by cases Gc.mp hq;exact h.1,trivial⟩,fun h=>⟨h.1 p Fk,trivial⟩⟩
 |p::q::r=>by
  have ih:=zK (Q0:=Q0) (Q1:=Q1) (ps:=q::r)
  refine⟨fun h=>?_,fun h=>?_⟩
  .obtain ⟨h1,h2,h3⟩:Q0 p/\Q1 (p.1,q.2)/\Al Q0 Q1 (cellsOf (q::r)):=h
   obtain ⟨k1,k2⟩:=ih.mp h3
   exact⟨fun z hz=>by rcases L8.mp hz with y|y;rw[y];exact h1;exact k1 z y,h2,k2⟩
  .exact⟨h.1 p Fk,h.2.1,ih.mpr ⟨fun z hz=>h.1 z (mo _ hz),h.2.2⟩⟩
end Fl
end L3
namespace L3
open PySem L2
section
end
section
end
section
end
end L3
namespace L2
open PySem PySem.Spec PyProof.Rows PySem.Calls
def sj:∀{us:List Value}{ns:List Int},us.length=ns.length->(∀(j:Nat) (v:Value),us[j]?=some v->∃i t,ns[j]?=some i/\v=Value.int i t)->IntsAre us ns
 |[],[],_,_=>.nil
 |[],_::_,h,_=>by simp at h
 |_::_,[],h,_=>by simp at h
 |u::us,n::ns,h,k=>by
  obtain ⟨i,t,e1,rfl⟩:=k 0 u rfl
  obtain rfl:n=i:=by simpa using e1
  exact .cons n t (sj (by simpa using h) fun j v e=>k (j+1) v (by simpa using e))
section
variable {prog:Program}{w:World}{A:Around}{E:Value->Shared->Prop}{s:Shared}
def wH{d:Addr}{kvs:List (Key × Value)}{ns:List Int}{Q:Value->Shared->Prop}(hd:s.heap.DictOf (eP prog w) d kvs)(lo:(d == sysModules)=false)(hh:A.handled=none)(hk:kvs.map (·.1)=ns.map Sum.inl)(Tx:ns.length<64)
  (h:∀(h':Heap) (tk:Nat) (a:Addr) (e:Nat) (out:Array Value) (Sq:List Int),(∀b u,s.heap.get? b=some u->h'.get? b=some u)->s.heap.get? a=none->(∃h1:Heap,(∀b u,s.heap.get? b=some u->h1.get? b=some u)/\a=h1.objs.size)->h'.get? a=some (seqObj "list" out e)->IntsAre out.toList Sq->Sq.Perm ns->Sq.Pairwise (·<=·)->Q (.ref a) { s with heap:=h',toks:=tk }) :
  wpAny (model prog w) A (call (.builtin "sorted") [.ref d]) Q E s:=by
 obtain ⟨ep,hat⟩:=hd.dictAt
 have hln:kvs.length=ns.length:=by have:=congrArg List.length hk;simpa using this
 have Um:kvs.length<=sizeLine:=by rw[sizeLine_eq];omega
 refine Calls.call_function_entry kind_sorted plain_sorted entry_sorted (args_sorted1 _) ?_
 unfold Builtin.«sorted»
 refine wpAny_bind (m:=checkCount "sorted" 1 1 _) (wpAny_pure ?_)
 refine wpAny_bind (PySem.W.kdu_collect (A:=A.in1) (PySem.W.kdl_dict (knd:=eP prog w) (kvs:=kvs) (ep:=ep) lo) hh hat Um fun h' tk acc XN SV=>?_)
 have hl:acc.toList.length=kvs.length:=by rw[MY];exact SV.1
 have hI:IntsAre acc.toList ns:=sj (by rw[hl,hln]) fun j v e=>by
  obtain ⟨k,x,e1,e2⟩:=SV.2 j v (by rw[<- Array.getElem?_toList];exact e)
  have e3:(kvs.map (·.1))[j]?=some k:=by rw[L9,e1];rfl
  rw[hk,L9] at e3
  cases e4:ns[j]? with
  |none=>rw[e4] at e3;cases e3
  |some i =>
   rw[e4] at e3
   obtain rfl:Sum.inl i=k:=MB e3
   rw[zU] at e2
   rcases dB e2 with ⟨i',t,e6,e5⟩|⟨y,t,e6,e5⟩
   .cases e6
    exact⟨i,t,rfl,e5⟩
   .cases e6
 refine wpAny_bind (wpAny_newList ?_ (by rw[hl];exact Um))
 have T5:(h'.push (seqObj "list" acc.toList.toArray 0)).get? h'.objs.size=some (seqObj "list" acc.toList.toArray 0):=Heap.get?_push_size _ rfl
 show wpAny _ _ _ _ _ { s with heap:=h'.push (seqObj "list" acc.toList.toArray 0),toks:=tk }
 refine wpAny_bind (wpAny_holding (wpAny_call_entry slot_list_sort ⟨_,T5,rfl⟩ entry_list_sort (list_sort_tree T5 hI (by rw[hl];omega) fun out Sq a1 a2 a3=>⟨_,rfl,?_⟩) (args_list_sort _)))
 obtain ⟨e,he⟩:=sortedHeap_at (out:=out) T5
 refine wpAny_pure ⟨_,rfl,h _ tk h'.objs.size e out Sq (fun b u hb=>?_) ?_ ⟨h',XN,rfl⟩ he a1 a2 a3⟩
 .have h1:=XN b u hb
  have NZ:=Heap.lt_size h1
  rw[sortedHeap_old (MG NZ) (by rw[size_push'];exact Nat.lt_succ_of_lt NZ),Heap.get?_push_ne _ _ _ (MG NZ)]
  exact h1
 .cases e0:s.heap.get? h'.objs.size with
  |none=>rfl
  |some u=>exact absurd (Heap.lt_size (XN _ u e0)) (M8 _)
end
section
variable {X:Cx}{pins:List (Addr × Obj)}{σ:St}{H:Hp}{s:Shared}
def CM{h':Heap}{a:Addr}{o:HO}{t':Nat}(I:Inv X pins σ H s)(k:∀b u,s.heap.get? b=some u->h'.get? b=some u)(hg:s.heap.get? a=none)(hn:H a=none)(Np:cB X.prog X.w (upd H a o) h' a o) :
  Inv X pins σ (upd H a o) { s with heap:=h',toks:=t' } :=
 I.un { keep := fun b u q _ _ _ => k b u q
        slot:=fun b u q _ _ _=>⟨u.slots,k b u q⟩
        free:=fun b u q n _=>by rw[aF (fun z=>by subst z;rw[hg] at q;cases q)];exact n
        there:=fun b u q _=>⟨u,k b u q⟩
        tups:=fun b xs q=>by rw[aF (bj q hn)];exact q
        frzs:=fun b u xs q=>by rw[aF (bj q hn)];exact q
        tbls:=fun b ps q=>⟨#[],by rw[aF (bj q hn),q];simp⟩ }
  fun b u e=>by
   by_cases hb:b=a
   .subst hb;rw[aw] at e;cases e;exact Np
   .rw[aF hb] at e
    exact (I.hok b u e).rN (fun c v _ q=>k c v q) (fun c q=>by rw[aF (bj q hn)];exact q) fun c xs q=>by rw[aF (bj q hn)];exact q
def oW(hc:X.calm=true):iZ X (.builtin "sorted") (fun xs H Q=>∃(a:Addr) (kvs:List (Key × V)) (ns:List Int),xs=[.ref a]/\H a=some (.dK kvs)/\kvs.map (·.1)=ns.map Sum.inl/\ns.length<64 /\
  ∀(l:Addr) (ms:List Int),H l=none->ms.Perm ns->ms.Pairwise (·<=·)->Q (.ref l) (upd H l (.lst (ms.map V.int)))):=by
 intro pins s σ H xs us Q I r h
 obtain ⟨a,kvs,ns,rfl,hS,hk,hz,q⟩:=h
 obtain ⟨u,rfl,ru⟩:=vals1 r
 obtain rfl:u=Value.ref a:=ru
 obtain ⟨_,lo,vs,kv,hd⟩:=IL I.hok hS
 refine wH hd lo (I.ok.hd hc) (by rw[<- kv.keys];exact hk) hz fun h' tk b e out ms k1 k2 kx k3 a1 a2 a3=>?_
 obtain ⟨h1,q1,q2⟩:=kx
 have hn:H b=none:=(I.hok.kept q1).fresh (Nat.le_of_eq q2.symm)
 have Y5:=a2.length_eq
 refine⟨.ref b,_,CM (t':=tk) (o:=.lst (ms.map V.int)) I k1 k2 hn ⟨?_,out.toList,e,hV a1,?_⟩,rfl,q _ ms hn a2 a3⟩
 .rw[ox];exact small (by omega)
 .exact k3
def C2{ss:List Stmt}{t:TS}(G:List Nat)(hG:∀i∈G,∀x,X.N[i]?=some x->X.env.scope.names.lookup x=none)(h:PSs X ss t) :
  PSs X ss (fun Dn σ H=>∃σ':St,σ'.length=σ.length/\(∀i,i∉G->σ'[i]?=σ[i]?)/\t Dn σ' H):=by
 intro pins s σ H D I q
 obtain ⟨σ',hl,hs,q⟩:=q
 obtain ⟨m,hm,lk⟩:=I.loc
 refine h pins s σ' H D ⟨I.ok,I.os,I.bare,I.base,⟨m,hm,fun i x v hx hv YE=>?_⟩,I.cell,I.free,I.freeC,I.pin,I.hok,by rw[hl];exact I.len⟩ q
 by_cases hi:i∈G
 .have e:=hG i hi x hx
  rcases YE with z|z|z<;>rw[e] at z<;>cases z
 .rw[hs i hi] at hv
  exact lk i x v hx hv YE
end
end L2
namespace L3
open PySem L2
section
variable {K:PySem.W.Frag}{ρ:Bool}{Γr Γl Γ:List Nat}{te tx:TE}{de dx:DE}
variable {B0:Hp}{fps:Nat->List Addr}{δ:Dl}{σ:St}{H:Hp}{C:Addr}{f:Str}
def Ok.lend(o:Ok K B0 Γ fps δ σ H){i:Nat}{y:D}{v:V}{fp:List Addr}(hl:i<δ.length)(hv:σ[i]?=some (some v))(r:Rf K H y v fp) :
  Ok K H [] (fun j=>if j=i then fp else fps j) (δ.set i (some y)) σ H:=by
 refine⟨by rw[MQ];exact o.len,SB.refl o.b0.now,fun j d e=>?_,fun j q=>?_,fun _ h=>(nomatch h),fun _ h=>(nomatch h)⟩
 .by_cases hj:j=i
  .subst hj
   rw[MC hl] at e;cases e
   exact⟨v,hv,by show Rf K H y v (if j=j then fp else fps j);rw[if_pos rfl];exact r⟩
  .rw[Ml (M0 hj)] at e
   show ∃v,_/\Rf K H d v (if j=i then fp else fps j)
   rw[if_neg hj]
   exact o.val j d e
 .by_cases hj:j=i
  .subst hj;exact absurd (MC hl) (q y)
  .show (if j=i then fp else fps j)=[]
   rw[if_neg hj]
   exact o.non j fun d z=>q d (by rw[Ml (M0 hj)];exact z)
def Fu(i g1 g2:Nat)(δ:Dl)(P:D->Prop):Prop:=∃(s C:Addr) (ns:List Str) (a1 a2:Addr) (e1 e2:D) (NK:List D),δ[i]?=some (some (.pin s (.ins C ns (.raw (.ref a1)::.raw (.ref a2)::NK))))/\δ[g1]?=some (some (.pin a1 e1))/\δ[g2]?=some (some (.pin a2 e2))/\P (.ins C ns (e1::e2::NK))
def Fu.mono{i g1 g2:Nat}{P P':D->Prop}(h:Fu i g1 g2 δ P)(k:∀y,P y->P' y):Fu i g1 g2 δ P' :=
 let ⟨s,C,ns,a1,a2,e1,e2,NK,h0,h1,h2,p⟩:=h;⟨s,C,ns,a1,a2,e1,e2,NK,h0,h1,h2,k _ p⟩
def Fu.out{i g1 g2:Nat}{P:D->Prop}(h:Fu i g1 g2 δ P)(o:Ok K B0 Γ fps δ σ H):∃y v fp,P y/\i<δ.length/\σ[i]?=some (some v)/\Rf K H y v fp:=by
 obtain ⟨s,C,ns,a1,a2,e1,e2,NK,h0,h1,h2,p⟩:=h
 obtain ⟨v,hv,e,a,dx,xs,fq,ea,hH,_,r⟩:=o.val i _ h0
 obtain ⟨x1,xr,f1,f2,rfl,_,⟨rfl,_⟩,r⟩:=r
 obtain ⟨x2,xr2,f3,f4,rfl,_,⟨rfl,_⟩,r⟩:=r
 obtain ⟨w1,_,rfl,q1⟩:=o.val g1 _ h1
 obtain ⟨w2,_,rfl,q2⟩:=o.val g2 _ h2
 exact⟨_,v,_,p,(L7.mp h0).1,hv,a,dx,_,_,ea,hH,rfl,.ref a1,_,_,_,rfl,rfl,q1,.ref a2,_,_,_,rfl,rfl,q2,r⟩
def IF(i g1 g2:Nat)(d:DE)(δ:Dl)(P:DK):Prop:=Fu i g1 g2 δ fun y=>d (δ.set i (some y)) P
def we(i g1 g2:Nat)(h:EM K [] [] te de):EM K Γ [] te (IF i g1 g2 de) :=
 ⟨fun δ P P' k q=>q.mono fun y z=>h.mono _ _ _ k z,fun o q=>by
  obtain ⟨y,v,fp,p,hl,hv,r⟩:=q.out o
  exact h.run (o.lend hl hv r) (h.mono _ _ _ (fun x z v' H' fp' s rr n=>z v' H' fp' s rr n.any) p)⟩
def qZ(i g1 g2:Nat)(h:ER K [] te de):ER K Γ te (IF i g1 g2 de) :=
 ⟨fun δ P P' k q=>q.mono fun y z=>h.mono _ _ _ k z,fun o q=>by
  obtain ⟨y,v,fp,p,hl,hv,r⟩:=q.out o
  exact h.run (o.lend hl hv r) p⟩
def J5(i g1 g2:Nat)(d:DT)(δ:Dl)(P:Bool->Prop):Prop:=Fu i g1 g2 δ fun y=>d (δ.set i (some y)) P
def BY(i g1 g2:Nat){c:TT}{dc:DT}(h:TR K [] c dc):TR K Γ c (J5 i g1 g2 dc) :=
 ⟨fun δ P P' k q=>q.mono fun y z=>h.mono _ _ _ k z,fun o q=>by
  obtain ⟨y,v,fp,p,hl,hv,r⟩:=q.out o
  exact h.run (o.lend hl hv r) p⟩
def K4(i:Nat)(C:Addr)(ns:List Str)(k:Nat)(δ:Dl)(P:DK):Prop:=∃s ds y,δ[i]?=some (some (.pin s (.ins C ns ds)))/\ds[k]?=some y/\P y
def Ij(i:Nat)(ns:List Str)(k:Nat)(hc:Cls K C)(hn:bU K C f)(hi:ns[k]?=some f:=by rfl)(hd:ns.Nodup:=by decide +kernel)(h:i∈Γ:=by decide):EM K Γ [i] (pC K (eJ i) f) (K4 i C ns k) :=
 ⟨fun δ P P' kk ⟨s,ds,y,e,ek,q⟩=>⟨s,ds,y,e,ek,kk _ q⟩,fun {B0 fps δ σ H Q} o q=>by
  obtain ⟨s,ds,y,e,ek,q⟩:=q
  obtain ⟨v,hv,rfl,a,dx,xs,fq,ea,hH,ef,r⟩:=o.val i _ e
  cases ea
  have nd:=(o.own i h).1
  rw[ef] at nd
  obtain ⟨w,f',ew,QK,sub,SE⟩:=r.Iz (Mh.mp nd).2 ek
  have YX:∀b∈f',b∈fps i:=fun b hb=>by rw[ef];exact mo _ (sub b hb)
  exact⟨.ref s,hv,s,C,dx,_,w,rfl,hH,hc,hn,bD hd hi ew,q w H f' (Same.refl H) QK ⟨SE,fun b hb=>((o.own i h).2 b (YX b hb)).2,fun b hb=>.inr ⟨i,Gc.mpr rfl,YX b hb⟩⟩⟩⟩
def Rfs.setM{H:Hp}:∀{ds:List D}{xs:List V}{fq:List Addr}{m:Nat}{d:D},Rfs K H ds xs fq->fq.Nodup->ds[m]?=some d ->
  ∃x g,xs[m]?=some x/\Rf K H d x g/\g.Nodup/\(∀a∈g,a∈fq)/\∀(b:Addr) (H':Hp) (d':D),b∈g->(∀u,H b=some u->¬ Im u)->(∀a u,a≠b->H a=some u->H' a=some u)->Rf K H' d' x g->Rfs K H' (ds.set m d') xs fq
 |[],_,_,_,_,_,_,e=>by simp at e
 |d::ds,xs,fq,0,d',h,nd,e=>by
  obtain ⟨x,r,f1,f2,rfl,rfl,h1,h2⟩:=h
  obtain ⟨n1,n2,n3⟩:=Mm.mp nd
  obtain rfl:d=d':=by simpa using e
  refine⟨x,f1,rfl,h1,n1,fun a ha=>Mf _ ha,fun b H' d' hb hm hk hr=>⟨x,r,f1,f2,rfl,rfl,hr,h2.mono (fun a ha u e=>hk a u (fun z=>n3 b hb a ha z.symm) e) fun a u e im=>hk a u (fun z=>hm u (z▸e) im) e⟩⟩
 |d::ds,xs,fq,m+1,d',h,nd,e=>by
  obtain ⟨x,r,f1,f2,rfl,rfl,h1,h2⟩:=h
  obtain ⟨n1,n2,n3⟩:=Mm.mp nd
  obtain ⟨y,g,e1,h3,n4,sub,k⟩:=Rfs.setM (m:=m) h2 n2 (by simpa using e)
  exact⟨y,g,by simpa using e1,h3,n4,fun a ha=>KE _ (sub a ha),fun b H' d' hb hm hk hr=>⟨x,r,f1,f2,rfl,rfl,h1.mono (fun a ha u e=>hk a u (fun z=>n3 a ha b (sub b hb) z) e) (fun a u e im=>hk a u (fun z=>hm u (z▸e) im) e),k b H' d' hb hm hk hr⟩⟩
def Ok.fld(o:Ok K B0 Γ fps δ σ H){i k:Nat}{s C:Addr}{ns:List Str}{ds:List D}{d:D}(hi:i∈Γ)(e:δ[i]?=some (some (.pin s (.ins C ns ds))))(ek:ds[k]?=some d) :
  ∃dx xs x g,σ[i]?=some (some (.ref s))/\H s=some (.ins C dx (ns.zip xs))/\xs[k]?=some x/\Rf K H d x g/\g.Nodup/\(∀a∈g,a∈fps i/\a≠s) /\
   ∀(b:Addr) (H':Hp) (d':D),b∈g->(∀a u,a≠b->H a=some u->H' a=some u)->Mu H' b->Rf K H' d' x g->Ok K B0 Γ (fun j=>if j=i then fps i else fps j) (δ.set i (some (.pin s (.ins C ns (ds.set k d'))))) σ H':=by
 obtain ⟨v,hv,rfl,a,dx,xs,fq,ea,hH,ef,r⟩:=o.val i _ e
 cases ea
 have own:=o.own i hi
 rw[ef] at own
 obtain ⟨nd,mu⟩:=own
 obtain ⟨n1,n2⟩:=Mh.mp nd
 obtain ⟨x,g,ex,rg,ng,sub,K'⟩:=r.setM n2 ek
 refine⟨dx,xs,x,g,hv,hH,ex,rg,ng,fun a ha=>⟨by rw[ef];exact mo _ (sub a ha),fun z=>n1 (z▸sub a ha)⟩,fun b H' d' hb hk Sr hr=>?_⟩
 have bs:s≠b:=fun z=>n1 (by rw[z];exact sub b hb)
 have Uh:∀u,H b=some u->¬ Im u:=(mu b (mo _ (sub b hb))).2.nu
 have UK:∀c∈fps i,Mu H' c:=fun c hc=>by
  by_cases To:c=b
  .rw[To];exact Sr
  .rcases (mu c (by rw[<- ef];exact hc)).2 with ⟨y,z⟩|⟨y,z⟩|⟨y,z⟩|⟨C',Qu,fs,z⟩
   .exact .inl ⟨y,hk _ _ To z⟩
   .exact .inr (.inl ⟨y,hk _ _ To z⟩)
   .exact .inr (.inr (.inl ⟨y,hk _ _ To z⟩))
   .exact .inr (.inr (.inr ⟨C',Qu,fs,hk _ _ To z⟩))
 refine o.write hi (d':=.pin s (.ins C ns (ds.set k d'))) (fp':=fps i) hv ⟨rfl,s,dx,xs,fq,rfl,hk _ _ bs hH,ef,K' b H' d' hb Uh hk hr⟩ (by rw[ef];exact nd) UK (fun a ha=>.inl ha) fun c u hc hu=>hk c u (fun z=>hc (by rw[z,ef];exact mo _ (sub b hb))) hu
def Im.nt{u:HO}(im:Im u):NT u:=by rcases im with ⟨_,rfl⟩|⟨_,_,rfl⟩|⟨_,_,rfl⟩<;>trivial
def Rfs.IE{H:Hp}:∀{ds:List D}{xs:List V}{fq:List Addr}{m:Nat}{d:D},Rfs K H ds xs fq->fq.Nodup->ds[m]?=some d ->
  ∃x g,xs[m]?=some x/\Rf K H d x g/\g.Nodup/\(∀a∈g,a∈fq)/\∀(b:Addr) (H':Hp) (d':D),b∈g->(∀u,H b=some u->¬ Im u)->(∀a u,a≠b->H a=some u->NT u->H' a=some u)->Rf K H' d' x g->Rfs K H' (ds.set m d') xs fq
 |[],_,_,_,_,_,_,e=>by simp at e
 |d::ds,xs,fq,0,d',h,nd,e=>by
  obtain ⟨x,r,f1,f2,rfl,rfl,h1,h2⟩:=h
  obtain ⟨n1,n2,n3⟩:=Mm.mp nd
  obtain rfl:d=d':=by simpa using e
  refine⟨x,f1,rfl,h1,n1,fun a ha=>Mf _ ha,fun b H' d' hb hm hk hr=>⟨x,r,f1,f2,rfl,rfl,hr,h2.lK (fun a ha u e n=>hk a u (fun z=>n3 b hb a ha z.symm) e n) fun a u e im=>hk a u (fun z=>hm u (z▸e) im) e im.nt⟩⟩
 |d::ds,xs,fq,m+1,d',h,nd,e=>by
  obtain ⟨x,r,f1,f2,rfl,rfl,h1,h2⟩:=h
  obtain ⟨n1,n2,n3⟩:=Mm.mp nd
  obtain ⟨y,g,e1,h3,n4,sub,k⟩:=Rfs.IE (m:=m) h2 n2 (by simpa using e)
  exact⟨y,g,by simpa using e1,h3,n4,fun a ha=>KE _ (sub a ha),fun b H' d' hb hm hk hr=>⟨x,r,f1,f2,rfl,rfl,h1.lK (fun a ha u e n=>hk a u (fun z=>n3 a ha b (sub b hb) z) e n) (fun a u e im=>hk a u (fun z=>hm u (z▸e) im) e im.nt),k b H' d' hb hm hk hr⟩⟩
def Ok.L4(o:Ok K B0 Γ fps δ σ H){i k:Nat}{s C:Addr}{ns:List Str}{ds:List D}{d:D}(hi:i∈Γ)(e:δ[i]?=some (some (.pin s (.ins C ns ds))))(ek:ds[k]?=some d) :
  ∃dx xs x g,σ[i]?=some (some (.ref s))/\H s=some (.ins C dx (ns.zip xs))/\xs[k]?=some x/\Rf K H d x g/\g.Nodup/\(∀a∈g,a∈fps i/\a≠s) /\
   ∀(b:Addr) (H':Hp) (d':D),b∈g->SB K B0 H'->(∀a u,a≠b->H a=some u->NT u->H' a=some u)->Mu H' b->Rf K H' d' x g->Ok K B0 Γ (fun j=>if j=i then fps i else fps j) (δ.set i (some (.pin s (.ins C ns (ds.set k d'))))) σ H':=by
 obtain ⟨v,hv,rfl,a,dx,xs,fq,ea,hH,ef,r⟩:=o.val i _ e
 cases ea
 have own:=o.own i hi
 rw[ef] at own
 obtain ⟨nd,mu⟩:=own
 obtain ⟨n1,n2⟩:=Mh.mp nd
 obtain ⟨x,g,ex,rg,ng,sub,K'⟩:=r.IE n2 ek
 refine⟨dx,xs,x,g,hv,hH,ex,rg,ng,fun a ha=>⟨by rw[ef];exact mo _ (sub a ha),fun z=>n1 (z▸sub a ha)⟩,fun b H' d' hb sb hk Sr hr=>?_⟩
 have bs:s≠b:=fun z=>n1 (by rw[z];exact sub b hb)
 have Uh:∀u,H b=some u->¬ Im u:=(mu b (mo _ (sub b hb))).2.nu
 have UK:∀c∈fps i,Mu H' c:=fun c hc=>by
  by_cases To:c=b
  .rw[To];exact Sr
  .rcases (mu c (by rw[<- ef];exact hc)).2 with ⟨y,z⟩|⟨y,z⟩|⟨y,z⟩|⟨C',Qu,fs,z⟩
   .exact .inl ⟨y,hk _ _ To z trivial⟩
   .exact .inr (.inl ⟨y,hk _ _ To z trivial⟩)
   .exact .inr (.inr (.inl ⟨y,hk _ _ To z trivial⟩))
   .exact .inr (.inr (.inr ⟨C',Qu,fs,hk _ _ To z trivial⟩))
 refine o.zM hi (d':=.pin s (.ins C ns (ds.set k d'))) (fp':=fps i) hv ⟨rfl,s,dx,xs,fq,rfl,hk _ _ bs hH trivial,ef,K' b H' d' hb Uh hk hr⟩ (by rw[ef];exact nd) UK (fun a ha=>.inl ha) sb fun c u hc hu n=>hk c u (fun z=>hc (by rw[z,ef];exact mo _ (sub b hb))) hu n
def Ok.D0(o:Ok K B0 Γ fps δ σ H){i:Nat}(hi:i∈Γ){b:Addr}(hb:b∈fps i):Same B0 (fun a=>if a=b then none else H a)/\Same (fun a=>if a=b then none else H a) H:=by
 have key:∀a u,B0 a=some u->a≠b:=fun a u e z=>by
  have:=((o.own i hi).2 b hb).1
  rw[z,this] at e;cases e
 refine⟨⟨fun b u e n=>?_,fun b ps e=>?_,fun P t=>?_⟩,Same.all fun c u e=>?_⟩
 .show (if _ then _ else _)=_
  rw[if_neg (key b u e)]
  exact o.b0.st b u e n
 .obtain ⟨ps',z⟩:=o.b0.tb b ps e
  refine⟨ps',?_⟩
  show (if _ then _ else _)=_
  rw[if_neg (key b _ e)];exact z
 .obtain ⟨W6,e0,_⟩:=id t
  obtain ⟨ps,e,g1,g2⟩:=o.b0.ti P t
  refine⟨ps,?_,g1,fun MH cv z=>?_⟩
  .show (if _ then _ else _)=_
   rw[if_neg (key P _ e0)];exact e
  .obtain ⟨c,z1,z2⟩:=g2 MH cv z
   refine⟨c,z1,?_⟩
   show (if _ then _ else _)=_
   rw[if_neg (fun hc=>xo z2 (by rw[hc];exact ((o.own i hi).2 b hb).2))];exact z2
 .by_cases z:c=b
  .simp only[if_pos z] at e;cases e
  .simp only[if_neg z] at e;exact e
def Br{es:List D}{j:Nat}{x:D}:(es.set j x).map D.toV=(es.map D.toV).set j x.toV:=Pn
def A3{es:List D}{j:Nat}{x:D}(h:es.all D.bg=true)(hx:x.bg=true):(es.set j x).all D.bg=true:=by
 rw[MP] at h ⊢
 intro y hy
 rcases Pw hy with z|z
 .exact h y z
 .rw[z];exact hx
def Ly(i:Nat)(C:Addr)(ns:List Str)(k:Nat)(de dx:DE)(E:cf)(δ:Dl):Prop:=∃s ds es,δ[i]?=some (some (.pin s (.ins C ns ds)))/\ds[k]?=some (.lst es)/\es.all D.bg=true /\
 de δ fun x=>x.bg=true/\dx δ fun y=>asI [y] fun m=>∃j,ixN es.length m=some j/\E.nx (δ.set i (some (.pin s (.ins C ns (ds.set k (.lst (es.set j x)))))))
def By(i:Nat)(ns:List Str)(k:Nat)(hc:Cls K C)(hn:bU K C f)(he:ER K Γ te de)(hx:ER K Γ tx dx)(hf:ns[k]?=some f:=by rfl)(hd:ns.Nodup:=by decide +kernel)(hi:i∈Γ:=by decide) :
  ST K ρ Γr Γl (mn te (yT (pC K (eJ i) f) tx vt)) Γ Γ (Ly i C ns k de dx):=by
 intro B0 Dn E fps δ σ H kk o h
 obtain ⟨s,ds,es,e,ek,hs,h⟩:=h
 refine he.run o (he.mono _ _ _ (fun x z v H1 s1 r1=>?_) h)
 obtain ⟨zs,z⟩:=z
 obtain ⟨Zp,r1⟩:=r1
 obtain ⟨rfl,_⟩:=r1.bg zs
 obtain ⟨Qu,xs,w,g,hv,hH,hw,_⟩:=(o.same s1).fld hi e ek
 refine⟨.ref s,hv,s,C,Qu,_,w,rfl,hH,hc,hn,bD hd hf hw,hx.run (o.same s1) (hx.mono _ _ _ (fun y z u H2 s2 r2=>?_) z)⟩
 obtain ⟨m,rfl,j,ej,z⟩:=cY z
 have o2:=(o.same s1).same s2
 obtain ⟨Zv,UI,w2,g2,V8,UU,UL,rg,ng,Wl,KK⟩:=o2.fld hi e ek
 have ez:ns.zip xs=ns.zip UI:=by
  have:=(s2.st _ _ hH trivial).symm.trans UU
  injection this with this
  injection this
 have ew:w=w2:=by
  have l1:=bD hd hf hw
  have l2:=bD hd hf UL
  rw[ez,l2] at l1
  exact (MB l1).symm
 subst ew
 obtain ⟨b,ys,fq,rfl,hb,rfl,rr⟩:=id rg
 obtain ⟨rfl,rfl⟩:=rr.jk hs
 refine⟨b,_,m,j,rfl,r2.int,hb,by rw[ox];exact ej,?_⟩
 rw[<- Br]
 exact kk.nx (KK b _ (.lst (es.set j x)) Fk (fun a u ha hu=>by rw[aF ha];exact hu) (.inl ⟨_,aw⟩) ⟨b,_,[],rfl,aw,rfl,Rfs.oA (A3 hs zs)⟩) z
def JW(i:Nat)(C:Addr)(ns:List Str)(k:Nat)(dx de:DE)(E:cf)(δ:Dl):Prop:=∃s ds kvs,δ[i]?=some (some (.pin s (.ins C ns ds)))/\ds[k]?=some (.dic kvs) /\
 de δ fun x=>x.bg=true/\dx δ fun y=>asI [y] fun n=>kvs.length<1000/\E.nx (δ.set i (some (.pin s (.ins C ns (ds.set k (.dic (putK kvs (.inl n) x.toV)))))))
def EF(i:Nat)(ns:List Str)(k:Nat)(hc:Cls K C)(hn:bU K C f)(hx:ER K Γ tx dx)(he:ER K Γ te de)(hf:ns[k]?=some f:=by rfl)(hd:ns.Nodup:=by decide +kernel)(hi:i∈Γ:=by decide) :
  ST K ρ Γr Γl (Eu (pC K (eJ i) f) tx te) Γ Γ (JW i C ns k dx de):=by
 intro B0 Dn E fps δ σ H kk o h
 obtain ⟨s,ds,kvs,e,ek,h⟩:=h
 refine he.run o (he.mono _ _ _ (fun x z v H1 s1 r1=>?_) h)
 obtain ⟨zs,z⟩:=z
 obtain ⟨Zp,r1⟩:=r1
 obtain ⟨rfl,_⟩:=r1.bg zs
 obtain ⟨Qu,xs,w,g,hv,hH,hw,_⟩:=(o.same s1).fld hi e ek
 refine⟨.ref s,hv,s,C,Qu,_,w,rfl,hH,hc,hn,bD hd hf hw,hx.run (o.same s1) (hx.mono _ _ _ (fun y z u H2 s2 r2=>?_) z)⟩
 obtain ⟨n,rfl,hl,z⟩:=cY z
 have o2:=(o.same s1).same s2
 obtain ⟨Zv,UI,w2,g2,V8,UU,UL,rg,ng,Wl,KK⟩:=o2.fld hi e ek
 have ez:ns.zip xs=ns.zip UI:=by
  have:=(s2.st _ _ hH trivial).symm.trans UU
  injection this with this
  injection this
 have ew:w=w2:=by
  have l1:=bD hd hf hw
  have l2:=bD hd hf UL
  rw[ez,l2] at l1
  exact (MB l1).symm
 subst ew
 obtain ⟨b,rfl,hb,hf',rfl⟩:=id rg
 refine⟨b,upd H2 b (.dK (putK kvs (.inl n) x.toV)),rfl,?_,kk.nx (KK b _ (.dic (putK kvs (.inl n) x.toV)) Fk (fun a u ha hu=>by rw[aF ha];exact hu) (.inr (.inl ⟨_,aw⟩)) ⟨b,rfl,aw,vE hf' (jv zs),rfl⟩) z⟩
 rw[r2.int]
 exact Dk.k (k:=Sum.inl n) hb (pS (Ol hl))
def yv{v:V}:∀{ns:List Str}{xs:List V}{k:Nat}{f:Str},ns.Nodup->ns[k]?=some f->k<xs.length->kB f v (ns.zip xs)=ns.zip (xs.set k v)
 |[],_,k,f,_,e,_=>by simp at e
 |_::_,[],k,f,_,_,h=>by simp at h
 |n::ns,x::xs,0,f,hd,e,h=>by
  obtain rfl:n=f:=by simpa using e
  rw[OA,kB,if_pos rfl];rfl
 |n::ns,x::xs,k+1,f,hd,e,h=>by
  obtain ⟨h1,h2⟩:=Mh.mp hd
  have e':ns[k]?=some f:=by simpa using e
  have PY:n≠f:=fun z=>h1 (by rw[z];exact MN e')
  rw[OA,kB,if_neg PY,yv h2 e' (by simpa using h)];rfl
def Lh(i:Nat)(C:Addr)(ns:List Str)(k:Nat)(de:DE)(E:cf)(δ:Dl):Prop:=∃s ds y,δ[i]?=some (some (.pin s (.ins C ns ds)))/\ds[k]?=some y/\y.bg=true /\
 de δ fun x=>x.bg=true/\E.nx (δ.set i (some (.pin s (.ins C ns (ds.set k x)))))
def Rfs.Lq{H H':Hp}{x:D}(hx:x.bg=true):∀{ds:List D}{xs:List V}{fq:List Addr}{k:Nat}{y:D},Rfs K H ds xs fq->ds[k]?=some y->y.bg=true->(∀a∈fq,∀o,H a=some o->H' a=some o)->(∀a o,H a=some o->Im o->H' a=some o)->Rfs K H' (ds.set k x) (xs.set k x.toV) fq
 |[],_,_,_,_,_,e,_,_,_=>by simp at e
 |d::ds,xs,fq,0,y,h,e,hy,k1,k2=>by
  obtain ⟨w,r,f1,f2,rfl,rfl,h1,h2⟩:=h
  obtain rfl:d=y:=by simpa using e
  obtain ⟨_,rfl⟩:=h1.bg hy
  exact⟨x.toV,r,[],f2,rfl,rfl,Rf.ug hx,h2.mono (fun a ha=>k1 a (by simpa using ha)) k2⟩
 |d::ds,xs,fq,k+1,y,h,e,hy,k1,k2=>by
  obtain ⟨w,r,f1,f2,rfl,rfl,h1,h2⟩:=h
  exact⟨w,r.set k x.toV,f1,f2,rfl,rfl,h1.mono (fun a ha=>k1 a (Mf _ ha)) k2,Rfs.Lq hx h2 (by simpa using e) hy (fun a ha=>k1 a (KE _ ha)) k2⟩
def Ho(i:Nat)(ns:List Str)(k:Nat)(hc:Cls K C)(hn:bU K C f)(he:ER K Γ te de)(hf:ns[k]?=some f:=by rfl)(hd:ns.Nodup:=by decide +kernel)(hl:ns.length<=100:=by decide)(hi:i∈Γ:=by decide) :
  ST K ρ Γr Γl (Ar K (eJ i) te f) Γ Γ (Lh i C ns k de):=by
 intro B0 Dn E fps δ σ H kk o h
 obtain ⟨s,ds,y,e,ek,hy,h⟩:=h
 refine he.run o (he.mono _ _ _ (fun x z v H1 s1 r1=>?_) h)
 obtain ⟨zs,z⟩:=z
 obtain ⟨Zp,r1⟩:=r1
 obtain ⟨rfl,_⟩:=r1.bg zs
 have o1:=o.same s1
 obtain ⟨v,hv,rfl,a,dx,xs,fq,ea,hH,ef,r⟩:=o1.val i _ e
 cases ea
 have own:=o1.own i hi
 rw[ef] at own
 obtain ⟨nd,mu⟩:=own
 obtain ⟨n1,n2⟩:=Mh.mp nd
 have hk:k<xs.length:=by rw[r.length];exact (L7.mp ek).1
 refine⟨.ref s,hv,s,C,dx,_,rfl,hH,hc,hn,by rw[List.length_zip];omega,?_⟩
 rw[yv hd hf hk]
 have keep:∀c u,c≠s->H1 c=some u->upd H1 s (.ins C dx (ns.zip (xs.set k x.toV))) c=some u:=fun c u hc hu=>by rw[aF hc];exact hu
 have Uh:=(mu s Fk).2.nu
 refine kk.nx (o1.write hi (d':=.pin s (.ins C ns (ds.set k x))) (fp':=fps i) hv ⟨rfl,s,dx,_,fq,rfl,aw,ef,r.Lq zs ek hy (fun c hc u hu=>keep c u (fun z=>n1 (z▸hc)) hu) fun c u hu im=>keep c u (fun z=>Uh u (z▸hu) im) hu⟩ (by rw[ef];exact nd) (fun c hc=>?_) (fun c hc=>.inl hc) fun c u hc hu=>keep c u (fun z=>hc (by rw[z,ef];exact Fk)) hu) z
 exact (mu c (by rw[<- ef];exact hc)).2.upd (.inr (.inr (.inr ⟨_,_,_,rfl⟩)))
end
end L3
namespace L3
open PySem L2
section
variable {K:PySem.W.Frag}{ρ:Bool}{Γr Γl Γ Γn:List Nat}{te ta t1 t2:TE}{de da dx d1 d2:DE}
variable {B0:Hp}{fps:Nat->List Addr}{δ:Dl}{σ:St}{H:Hp}{C:Addr}{f:Str}
def Lo(i g1 g2 j:Nat)(C:Addr)(ns:List Str)(k:Nat)(d1 de d2:DE)(E:cf)(δ:Dl):Prop:=∃s ds rows,δ[i]?=some (some (.pin s (.ins C ns ds)))/\ds[k]?=some (.lst rows)/\j<δ.length /\
 Fu i g1 g2 δ fun y=>d1 (δ.set i (some y)) fun z=>asI [z] fun m=>∃r es,ixN rows.length m=some r/\rows[r]?=some (.lst es)/\es.all D.bg=true /\
  de ((δ.set i (some y)).set j (some (.lst es))) fun x=>x.bg=true/\d2 ((δ.set i (some y)).set j (some (.lst es))) fun z=>asI [z] fun m2=>∃q,ixN es.length m2=some q /\
   E.nx ((δ.set j none).set i (some (.pin s (.ins C ns (ds.set k (.lst (rows.set r (.lst (es.set q x)))))))))
def Ok.look(o:Ok K B0 Γ fps δ σ H){j:Nat}{y:D}{v:V}{fp:List Addr}(hl:j<δ.length)(r:Rf K H y v fp) :
  Ok K H [] (fun l=>if l=j then fp else fps l) (δ.set j (some y)) (σ.set j (some v)) H:=by
 refine⟨by rw[MQ,MQ];exact o.len,SB.refl o.b0.now,fun l d e=>?_,fun l q=>?_,fun _ h=>(nomatch h),fun _ h=>(nomatch h)⟩
 .by_cases hj:l=j
  .subst hj
   rw[MC hl] at e;cases e
   exact⟨v,MC (by rw[o.len];exact hl),by show Rf K H y v (if l=l then fp else fps l);rw[if_pos rfl];exact r⟩
  .rw[Ml (M0 hj)] at e
   rw[Ml (M0 hj)]
   show ∃v,_/\Rf K H d v (if l=j then fp else fps l)
   rw[if_neg hj]
   exact o.val l d e
 .by_cases hj:l=j
  .subst hj;exact absurd (MC hl) (q y)
  .show (if l=j then fp else fps l)=[]
   rw[if_neg hj]
   exact o.non l fun d z=>q d (by rw[Ml (M0 hj)];exact z)
def HZ(i g1 g2 j:Nat)(ns:List Str)(k:Nat)(hc:Cls K C)(hn:bU K C f)(h1:ER K [] t1 d1)(he:ER K [] te de)(h2:ER K [] t2 d2)(hf:ns[k]?=some f:=by rfl)(hd:ns.Nodup:=by decide +kernel)(hi:i∈Γ:=by decide)(hj:j∉Γ:=by decide)(hij:i≠j:=by decide) :
  ST K ρ Γr Γl (zH (mn (tOp (CU K) (pC K (eJ i) f) t1) (kP j)) (mn te (yT (eJ j) t2 vt))) Γ Γ (Lo i g1 g2 j C ns k d1 de d2):=by
 intro B0 Dn E fps δ σ H kk o h
 obtain ⟨s,ds,rows,e,ek,Wf,h⟩:=h
 obtain ⟨y,vy,fy,h,Uw,YZ,ry⟩:=h.out o
 obtain ⟨Qu,xs,w,g,hv,hH,hw,_⟩:=o.fld hi e ek
 refine⟨.ref s,hv,s,C,Qu,_,w,rfl,hH,hc,hn,bD hd hf hw,h1.run (o.lend Uw YZ ry) (h1.mono _ _ _ (fun z q u H2 s2 r2=>?_) h)⟩
 obtain ⟨m,rfl,r,es,er,Zt,hs,q⟩:=cY q
 have o2:=o.same s2
 obtain ⟨Zv,UI,w2,g2,V8,UU,UL,rg,ng,Wl,KK⟩:=o2.fld hi e ek
 have ez:ns.zip xs=ns.zip UI:=by
  have:=(s2.st _ _ hH trivial).symm.trans UU
  injection this with this
  injection this
 have ew:w=w2:=by
  have l1:=bD hd hf hw
  have l2:=bD hd hf UL
  rw[ez,l2] at l1
  exact (MB l1).symm
 subst ew
 obtain ⟨b,ys,fq,rfl,hb,rfl,rr⟩:=id rg
 obtain ⟨nb,nq⟩:=Mh.mp ng
 obtain ⟨x,gx,ex,rx,nx,sub,KK2⟩:=rr.setM nq Zt
 obtain ⟨c,zs,fz,rfl,hcH,rfl,rz⟩:=id rx
 obtain ⟨rfl,rfl⟩:=rz.jk hs
 refine⟨b,ys,m,.ref c,rfl,r2.int,.inl (.inl hb),by unfold atI;rw[rr.length,er];exact ex,?_⟩
 have oL:=(o2.lend Uw YZ (ry.same s2)).look (j:=j) (by rw[MQ];exact Wf) rx
 show mn te (yT (eJ j) t2 vt) Dn (σ.set j (some (.ref c))) H2
 refine he.run oL (he.mono _ _ _ (fun x z v H3 s3 r3=>?_) q)
 obtain ⟨PX,z⟩:=z
 obtain ⟨fp3,r3⟩:=r3
 obtain ⟨rfl,_⟩:=r3.bg PX
 have XT:j<σ.length:=by rw[o.len];exact Wf
 refine⟨.ref c,MC XT,h2.run (oL.same s3 |>.sub fun _ h=>h) (h2.mono _ _ _ (fun y2 z u2 H4 s4 r4=>?_) z)⟩
 obtain ⟨m2,rfl,q,eq,z⟩:=cY z
 have TX:=s3.trans s4
 have o4:=o2.same TX
 have o5:=o4.K0 (σ':=σ.set j (some (.ref c))) j hj (by rw[MQ]) (fun l hl=>Ml (M0 hl))
 have ek':(δ.set j none)[i]?=some (some (.pin s (.ins C ns ds))):=by rw[Ml (M0 hij)];exact e
 obtain ⟨dx5,xs5,w5,g5,hv5,hH5,hw5,rg5,ng5,acq,KK5⟩:=o5.fld hi ek' ek
 have ez5:ns.zip UI=ns.zip xs5:=by
  have:=(TX.st _ _ UU trivial).symm.trans hH5
  injection this with this
  injection this
 have ew5:V.ref b=w5:=by
  have l1:=bD hd hf UL
  have l2:=bD hd hf hw5
  rw[ez5,l2] at l1
  exact (MB l1).symm
 subst ew5
 obtain ⟨b',ys5,Zo,eb,Zc,rfl,rr5⟩:=id rg5
 cases eb
 rw[TX.st _ _ hb trivial] at Zc;cases Zc
 obtain ⟨nb5,nq5⟩:=Mh.mp ng5
 obtain ⟨x5,gx5,Zq,rx5,nx5,WW,KK6⟩:=rr5.setM nq5 Zt
 rw[ex] at Zq;cases Zq
 obtain ⟨c',zs5,fz5,ec,Za,rfl,rz5⟩:=id rx5
 cases ec
 obtain ⟨rfl,rfl⟩:=rz5.jk hs
 refine⟨c,_,m2,q,rfl,r4.int,Za,by rw[ox];exact eq,?_⟩
 rw[<- Br]
 have Zx:c∈Zo:=WW c Fk
 have cb:b≠c:=fun z=>nb5 (by rw[z];exact Zx)
 have keep:∀a u,a≠c->H4 a=some u->upd H4 c (.lst ((es.set q x).map D.toV)) a=some u:=fun a u ha hu=>by rw[aF ha];exact hu
 have Uh:∀u,H4 c=some u->¬ Im u:=fun u hu im=>by rw[Za] at hu;cases hu;rcases im with ⟨_,z⟩|⟨_,_,z⟩|⟨_,_,z⟩<;>cases z
 refine kk.nx (KK5 c _ (.lst (rows.set r (.lst (es.set q x)))) (mo _ Zx) keep (.inl ⟨_,aw⟩) ⟨b,ys,Zo,rfl,keep _ _ cb (TX.st _ _ hb trivial),rfl,KK6 c _ _ Fk Uh keep ⟨c,_,[],rfl,aw,rfl,Rfs.oA (A3 hs PX)⟩⟩) z
def JP(j i i1 i2:Nat)(C:Addr)(ns:List Str)(k:Nat)(S:DSI)(E:cf)(δ:Dl):Prop:=∃s ds kvs x1 x2,δ[i]?=some (some (.pin s (.ins C ns ds)))/\ds[k]?=some (.dic kvs)/\δ[i1]?=some (some x1)/\δ[i2]?=some (some x2) /\
 S [x1,x2,.dic kvs] fun r x'=>∃TC,x'=.dic TC/\E.nx ((δ.set i (some (.pin s (.ins C ns (ds.set k (.dic TC)))))).set j (some r))
def za{S:DSI}{Ex:XK}(j i i1 i2:Nat)(ns:List Str)(k:Nat)(hS:GL S)(hc:Cls K C)(hn:bU K C f)(hf:ns[k]?=some f:=by rfl)(hd:ns.Nodup:=by decide +kernel)(hi:i∈Γ:=by decide)(hj:j∉Γ:=by decide)(h1:i1≠i:=by decide)(h2:i2≠i:=by decide) :
  ST K ρ Γr Γl (mn (tq (spI K 2 S) [] Ex (gp (eJ i1) (gp (eJ i2) (gp (pC K (eJ i) f) m7)))) (kP j)) Γ Γ (JP j i i1 i2 C ns k S):=by
 intro B0 Dn E fps δ σ H kk o h
 obtain ⟨s,ds,kvs,x1,x2,e,ek,e1,e2,h⟩:=h
 obtain ⟨v1,hv1,r1⟩:=o.val i1 _ e1
 obtain ⟨v2,V8,r2⟩:=o.val i2 _ e2
 obtain ⟨Qu,xs,w,g,hv,hH,hw,rg,ng,Wl,KK⟩:=o.L4 hi e ek
 obtain ⟨b,rfl,hb,RJ,rfl⟩:=id rg
 have bi:=(Wl b Fk).1
 have mub:=((o.own i hi).2 b bi).2
 have d1:b∉fps i1:=o.dj i hi i1 h1 b bi
 have d2:b∉fps i2:=o.dj i hi i2 h2 b bi
 refine⟨v1,hv1,v2,V8,.ref s,hv,s,C,Qu,_,.ref b,rfl,hH,hc,hn,bD hd hf hw,?_⟩
 refine⟨fun a=>if a=b then none else H a,(fun l=>match l with|0=>fps i1|1=>fps i2|2=>[b]|_=>[]),[x1,x2,.dic kvs],⟨rfl,⟨(o.D0 hi bi).2,o.b0.tv.same (o.D0 hi bi).1⟩,fun l d q=>?_,fun l q=>?_,fun l hl=>?_,fun l hl l' UP a ha=>?_⟩,⟨b,rfl⟩,hS _ _ _ (fun r x' z=>?_) h⟩
 .match l,q with
  |0,q=>cases q;exact⟨v1,rfl,r1⟩
  |1,q=>cases q;exact⟨v2,rfl,r2⟩
  |2,q=>cases q;exact⟨_,rfl,rg⟩
  |l+3,q=>simp at q
 .match l,q with
  |0,q=>exact absurd rfl (q _)
  |1,q=>exact absurd rfl (q _)
  |2,q=>exact absurd rfl (q _)
  |l+3,q=>rfl
 .cases Gc.mp hl
  refine⟨by simp,fun a ha=>?_⟩
  cases Gc.mp ha
  exact⟨if_pos rfl,mub⟩
 .cases Gc.mp hl
  cases Gc.mp ha
  match l',UP with
  |0,_=>exact d1
  |1,_=>exact d2
  |2,z=>exact absurd rfl z
  |l+3,_=>exact MF
 .obtain ⟨TC,rfl,z⟩:=z
  intro w H' fp' fpw v sB hvb rb nb fb QK nw fw
  cases hvb
  obtain ⟨b',eb,Tq,XY,rfl⟩:=id rb
  cases eb
  have keep:∀a u,a≠b->H a=some u->NT u->H' a=some u:=fun a u ha hu n=>sB.st a u (by show (if a=b then none else H a)=_;rw[if_neg ha];exact hu) n
  have o1:=KK b H' (.dic TC) Fk ⟨(o.D0 hi bi).1.trans sB,o.b0.tv⟩ keep (.inr (.inl ⟨_,Tq⟩)) ⟨b,rfl,Tq,XY,rfl⟩
  refine kk.nx ((o1.Bi j (Same.refl H') QK fun l hl a ha q=>?_).sub fun l hl=>eT.mpr ⟨hl,fun z=>hj (by rw[<- Gc.mp z];exact hl)⟩) z
  obtain ⟨q1,q2,q3⟩:=fw a ha
  have Qm:a≠b:=fun z=>q3 (by rw[z];exact Fk)
  have YN:(if a=b then none else H a)=none:=q1
  rw[if_neg Qm] at YN
  have q':a∈fps l:=by
   have:a∈(if l=i then fps i else fps l):=q
   by_cases XH:l=i
   .rw[if_pos XH] at this;rw[XH];exact this
   .rw[if_neg XH] at this;exact this
  exact o.dom q' YN
abbrev DSG:=D->List D->Addr × D->Addr × D->(D->Prop)->Prop
def Ep(S:DSG):Prop:=∀x ds g1 g2 (P P':D->Prop),(∀z,P z->P' z)->S x ds g1 g2 P->S x ds g1 g2 P'
def spG(K:PySem.W.Frag)(S:DSG):Sp:=fun vs H Q _=>∃(B:Hp) (s:Addr) (x:D) (fx:List Addr) (ws:List V) (ds:List D) (g1 g2:Addr × D),vs=.ref s::ws/\SB K B H/\Rf K H x (.ref s) fx/\fx.Nodup/\(∀a∈fx,B a=none/\Mu H a)/\Rps K B ds ws/\Rp K B g1.2 (.ref g1.1)/\Rp K B g2.2 (.ref g2.1) /\
 S x ds g1 g2 fun x'=>∀H' fp',Same B H'->Rf K H' x' (.ref s) fp'->fp'.Nodup->(∀b∈fp',B b=none/\Mu H' b)->Q .non H'
def Hc{S:DSG}{n:Nat}(h:∀x ds g1 g2 P,S x ds g1 g2 P->ds.length+1=n){vs:List V}{H:Hp}{Q:VK}{E:XK}(k:spG K S vs H Q E):vs.length=n:=by
 obtain ⟨B,s,x,fx,ws,ds,g1,g2,rfl,_,_,_,_,⟨fp,r⟩,_,_,hS⟩:=k
 rw[L6,r.length,h _ _ _ _ _ hS]
def Ls(i g1 g2:Nat)(C:Addr)(m:Str)(S:DSG)(dr:DA)(E:cf)(δ:Dl):Prop:=∃s ns ds a1 a2 e1 e2,δ[i]?=some (some (.pin s (.ins C ns ds)))/\δ[g1]?=some (some (.pin a1 e1))/\δ[g2]?=some (some (.pin a2 e2))/\m∉ns /\
 dr δ fun xs=>S (.ins C ns ds) xs (a1,e1) (a2,e2) fun x'=>E.nx (δ.set i (some (.pin s x')))
def HF{S:DSG}{Ex:XK}{w:TA}{dr:DA}{m:Str}(i g1 g2:Nat)(hS:Ep S)(hr:AS K Γ w dr)(hi:i∈Γ:=by decide)(n1:g1≠i:=by decide)(n2:g2≠i:=by decide) :
  ST K ρ Γr Γl (Bg (yH C m (spG K S) [] Ex (eJ i) w)) Γ Γ (Ls i g1 g2 C m S dr):=by
 intro B0 Dn E fps δ σ H kk o h
 obtain ⟨s,ns,ds,a1,a2,e1,e2,e,eg1,eg2,hm,h⟩:=h
 obtain ⟨v,hv,rfl,a,dx,xs,fq,ea,hH,ef,r⟩:=o.val i _ e
 cases ea
 refine⟨.ref s,hv,s,dx,_,rfl,hH,gz hm,hr.run o (hr.mono _ _ _ (fun ys z vs H2 fp s2 r2 n2'=>?_) h)⟩
 have o2:=o.same s2
 obtain ⟨v',V9,q1⟩:=o2.val i _ e
 rw[hv] at V9;cases V9
 obtain ⟨w1,_,rfl,k1⟩:=o2.val g1 _ eg1
 obtain ⟨w2,_,rfl,k2⟩:=o2.val g2 _ eg2
 have own:=o2.own i hi
 have YF:∀{d:D}{v:V}{g:List Addr},Rf K H2 d v g->(∀a∈g,a∉fps i)->Rf K (fun a=>if a∈fps i then none else H2 a) d v g:=fun hr hd=>hr.mono (fun a ha u hu=>by rw[if_neg (hd a ha)];exact hu) fun a u hu im=>by
  rw[if_neg (fun z=>(own.2 a z).2.nu u hu im)];exact hu
 have WV:Rfs K (fun a=>if a∈fps i then none else H2 a) ys vs fp:=r2.mono (fun a ha u hu=>by rw[if_neg (n2' i hi a ha)];exact hu) fun a u hu im=>by
  rw[if_neg (fun z=>(own.2 a z).2.nu u hu im)];exact hu
 refine⟨fun a=>if a∈fps i then none else H2 a,s,.ins C ns ds,fps i,vs,ys,(a1,e1),(a2,e2),by rw[MV],⟨(o2.less hi).2,o2.b0.tv.same (o2.less hi).1⟩,q1.2,own.1,fun a ha=>⟨if_pos ha,(own.2 a ha).2⟩,⟨fp,WV⟩,⟨_,YF k1 fun a ha=>fun z=>o2.dj i hi g1 n1 a z ha⟩,⟨_,YF k2 fun a ha=>fun z=>o2.dj i hi g2 n2 a z ha⟩,hS _ _ _ _ _ _ (fun x' z H' fp' sB rx nx fx=>?_) z⟩
 .refine kk.nx (o2.zM hi (d':=.pin s x') (fp':=fp') hv ⟨rfl,rx⟩ nx (fun a ha=>(fx a ha).2) (fun a ha=>?_) ⟨(o2.less hi).1.trans sB,o2.b0.tv⟩ fun b u hb hu n=>sB.st b u (by show (if b∈fps i then none else H2 b)=_;rw[if_neg hb];exact hu) n) z
  have:=(fx a ha).1
  by_cases Zd:a∈fps i
  .exact .inl Zd
  .have q:(if a∈fps i then none else H2 a)=none:=this
   rw[if_neg Zd] at q
   exact .inr ⟨o2.b0.free q,fun j hz=>o2.dom hz q⟩
def Ok.Jo{B:Hp}(o:Ok K B [] fps δ σ B){a:Addr}{e:D}(r:Rp K B e (.ref a)):∃fps',Ok K B [] fps' (δ++[some (.pin a e)]) (σ++[some (.ref a)]) B:=by
 obtain ⟨fp,r⟩:=r
 refine⟨fun j=>if j=δ.length then fp else fps j,by rw[Mx,Mx,o.len];rfl,o.b0,fun j d q=>?_,fun j q=>?_,fun _ h=>(nomatch h),fun _ h=>(nomatch h)⟩
 .by_cases hj:j=δ.length
  .subst hj
   rw[MA (Mi _),Nat.sub_self] at q
   cases q
   refine⟨.ref a,?_,rfl,?_⟩
   .rw[MA (Nat.le_of_eq o.len),o.len,Nat.sub_self];rfl
   .show Rf K B e (.ref a) (if δ.length=δ.length then fp else fps δ.length)
    rw[if_pos rfl];exact r
  .have hl:j<δ.length:=by
    have:=(L7.mp q).1
    rw[Mx,List.length_singleton] at this;omega
   rw[Mt hl] at q
   obtain ⟨v,hv,rv⟩:=o.val j d q
   refine⟨v,?_,?_⟩
   .rw[Mt (by rw[o.len];exact hl)];exact hv
   .show Rf K B d v (if j=δ.length then fp else fps j)
    rw[if_neg hj];exact rv
 .by_cases hj:j=δ.length
  .subst hj
   exact absurd (by rw[MA (Mi _),Nat.sub_self];rfl) (q (.pin a e))
  .show (if j=δ.length then fp else fps j)=[]
   rw[if_neg hj]
   refine o.non j fun d z=>q d ?_
   rw[Mt (L7.mp z).1];exact z
def Ok.LQ{B:Hp}(o:Ok K B [] fps δ σ B)(hs:SB K B H){s:Addr}{x:D}{fx:List Addr}(r:Rf K H x (.ref s) fx)(nd:fx.Nodup)(hx:∀a∈fx,B a=none/\Mu H a):∃fps',Ok K B [0] fps' (some (.pin s x)::δ) (some (.ref s)::σ) H:=by
 have o1:=o.same hs.toSame
 refine⟨fun j=>match j with|0=>fx|l+1=>fps l,by rw[L6,L6,o.len],hs,fun j d q=>?_,fun j q=>?_,fun j hj=>?_,fun j hj l hl a ha=>?_⟩
 .match j,q with
  |0,q=>cases q;exact⟨_,rfl,rfl,r⟩
  |l+1,q=>exact o1.val l d (by simpa using q)
 .match j,q with
  |0,q=>exact absurd rfl (q _)
  |l+1,q=>exact o.non l fun d z=>q d (by simpa using z)
 .cases Gc.mp hj
  exact⟨nd,hx⟩
 .cases Gc.mp hj
  match l,hl with
  |0,z=>exact absurd rfl z
  |l+1,_=>exact fun z=>o.dom z (hx a ha).1
abbrev tu(n:Nat)(s:Addr)(x:D)(ds:List D)(g1 g2:Addr × D):Dl:=some (.pin s x)::(((ds.map some++List.replicate n none)++[some (.pin g1.1 g1.2)])++[some (.pin g2.1 g2.2)])
def v7{B:Hp}{n:Nat}{s:Addr}{x:D}{fx:List Addr}{ws:List V}{ds:List D}{g1 g2:Addr × D}(hs:SB K B H)(r:Rf K H x (.ref s) fx)(nd:fx.Nodup)(hx:∀a∈fx,B a=none/\Mu H a)(hr:Rps K B ds ws)(h1:Rp K B g1.2 (.ref g1.1))(h2:Rp K B g2.2 (.ref g2.1)) :
  ∃fps',Ok K B [0] fps' (tu n s x ds g1 g2) (some (.ref s)::(((ws.map some++List.replicate n none)++[some (.ref g1.1)])++[some (.ref g2.1)])) H:=by
 have hl:ws.length=ds.length:=let ⟨_,q⟩:=hr;q.length
 obtain ⟨acv,o0⟩:=mf (N:=List.replicate (ds.length+n) "") hr hs.tv
 have e1:aL (List.replicate (ds.length+n) "") ds=ds.map some++List.replicate n none:=by
  unfold aL;rw[Mw,Nat.add_sub_cancel_left]
 have e2:L2.start (List.replicate (ds.length+n) "") ws=ws.map some++List.replicate n none:=by
  unfold L2.start;rw[Mw,hl,Nat.add_sub_cancel_left]
 rw[e1,e2] at o0
 obtain ⟨acu,o1⟩:=o0.Jo h1
 obtain ⟨R5,o2⟩:=o1.Jo h2
 exact o2.LQ hs r nd hx
abbrev IZ(s:Addr)(P:D->Prop):cf:=⟨fun δ=>kN δ 0 fun a x=>a=s/\P x,fun _ _=>False,fun _=>False,fun _=>False⟩
def xM(G:List Nat)(t:TS):TS:=fun Dn σ H=>∃σ':St,σ'.length=σ.length/\(∀i,i∉G->σ'[i]?=σ[i]?)/\t Dn σ' H
def qv{N:List Str}{m n:Nat}{s:Addr}{ws:List V}{a1 a2:Addr}(hw:ws.length=m)(hN:N.length=m+n+3){G:List Nat}(hG:G=[m+n+1,m+n+2]) :
  (some (V.ref s)::(((ws.map some++List.replicate n none)++[some (.ref a1)])++[some (.ref a2)])).length=(L2.start N (.ref s::ws)).length/\∀i,i∉G->(some (V.ref s)::(((ws.map some++List.replicate n none)++[some (.ref a1)])++[some (.ref a2)]))[i]?=(L2.start N (.ref s::ws))[i]?:=by
 subst hG
 unfold L2.start
 have hk:N.length - (V.ref s::ws).length=n+2:=by rw[L6,hN,hw];omega
 rw[hk]
 refine⟨by simp [hw],fun i hi=>?_⟩
 simp only[L8,MF,or_false,not_or] at hi
 cases i with
 |zero=>rfl
 |succ i =>
  show ((ws.map some++List.replicate n none)++[some (.ref a1)]++[some (.ref a2)])[i]?=(ws.map some++List.replicate (n+2) none)[i]?
  by_cases h1:i<m
  .rw[MR,MR,Mt (by rw[ox];omega),Mt (by rw[ox];omega)]
  .by_cases h2:i<m+n
   .rw[MR,Mt (by rw[Mx,ox,Mw];omega),MA (by rw[ox];omega),MA (by rw[ox];omega),MT,MT,if_pos (by rw[ox];omega),if_pos (by rw[ox];omega)]
   .rw[List.getElem?_eq_none (by simp [hw];omega),List.getElem?_eq_none (by simp [hw];omega)]
def Hi{N:List Str}{S:DSG}{t:TS}{d:DS}{G:List Nat}(m n:Nat)(hs:ST K true [0] [] t [0] [0] d)(hN:N.length=m+n+3)(hG:G=[m+n+1,m+n+2])(hd:∀s x ds g1 g2 P,S x ds g1 g2 P->ds.length=m/\d (IZ s P) (tu n s x ds g1 g2)) :
  ∀{vs H Q E},spG K S vs H Q E->xM G t { nx:=fun _ H'=>Q .non H',rt:=Q } (L2.start N vs) H:=by
 rintro vs H Q E ⟨B,s,x,fx,ws,ds,g1,g2,rfl,sB,rx,nx,Yu,hr,h1,h2,h⟩
 obtain ⟨hl,q⟩:=hd s x ds g1 g2 _ h
 obtain ⟨fps',o⟩:=v7 (n:=n) sB rx nx Yu hr h1 h2
 have hw:ws.length=m:=by obtain ⟨_,r⟩:=hr;rw[r.length];exact hl
 obtain ⟨e1,e2⟩:=qv (s:=s) (a1:=g1.1) (a2:=g2.1) hw hN hG
 refine⟨_,e1,e2,hs (E:=IZ s _) ⟨fun {R5 Ts Qo H'} o2 z=>?_,fun o (z:False)=>z.elim,fun o (z:False)=>z.elim,fun o r i (z:False)=>z.elim⟩ o q⟩
 obtain ⟨a,x',e,rfl,z⟩:=ju z
 obtain ⟨v,hv,rfl,r'⟩:=o2.val 0 _ e
 have own:=o2.own 0 (Gc.mpr rfl)
 exact z H' _ o2.b0.toSame r' own.1 own.2
abbrev DSO:=D->Addr × D->Addr × D->DK->Prop
def Ez(S:DSO):Prop:=∀x g1 g2 (P P':DK),(∀z,P z->P' z)->S x g1 g2 P->S x g1 g2 P'
def spO(K:PySem.W.Frag)(S:DSO):Sp:=fun vs H Q _=>∃(B:Hp) (s:Addr) (x:D) (fx:List Addr) (g1 g2:Addr × D),vs=[.ref s]/\SB K B H/\Rf K H x (.ref s) fx/\fx.Nodup/\(∀a∈fx,B a=none/\Mu H a)/\Rp K B g1.2 (.ref g1.1)/\Rp K B g2.2 (.ref g2.1) /\
 S x g1 g2 fun r=>∀w H' fpw,Same B H'->Rf K H' r w fpw->fpw.Nodup->(∀a∈fpw,B a=none/\Mu H' a)->Q w H'
def Iy{S:DSO}{vs:List V}{H:Hp}{Q:VK}{E:XK}(k:spO K S vs H Q E):vs.length=1:=by
 obtain ⟨B,s,x,fx,g1,g2,rfl,_⟩:=k;rfl
def Ie{N:List Str}{S:DSO}{t:TS}{d:DS}{G:List Nat}(n:Nat)(hs:ST K true [] [] t [0] Γn d)(hN:N.length=n+3)(hG:G=[n+1,n+2])(hd:∀s x g1 g2 P,S x g1 g2 P->d (qt P) (tu n s x [] g1 g2)) :
  ∀{vs H Q E},spO K S vs H Q E->xM G t { nx:=fun _ H'=>Q .non H',rt:=Q } (L2.start N vs) H:=by
 rintro vs H Q E ⟨B,s,x,fx,g1,g2,rfl,sB,rx,nx,Yu,h1,h2,h⟩
 have q:=hd s x g1 g2 _ h
 obtain ⟨fps',o⟩:=v7 (n:=n) (ds:=[]) (ws:=[]) sB rx nx Yu ⟨[],rfl,rfl⟩ h1 h2
 obtain ⟨e1,e2⟩:=qv (m:=0) (n:=n) (N:=N) (s:=s) (a1:=g1.1) (a2:=g2.1) (ws:=[]) rfl (by omega) (G:=G) (by rw[hG];simp)
 refine⟨_,e1,e2,hs (E:=qt _) ⟨fun {fps δ σ H'} o z=>z _ H' [] o.b0.toSame ⟨rfl,rfl⟩ Nq fun _ h=>(nomatch h),fun o (z:False)=>z.elim,fun o (z:False)=>z.elim,fun o r i z=>z _ _ _ o.b0.toSame r (i rfl).nd fun a ha=>⟨(i rfl).nw a ha,(i rfl).mu a ha⟩⟩ o q⟩
def KW(C:Addr)(m:Str)(Si:DSp)(So:DSO)(δ:Dl)(P:DK):Prop:=∃x0 x1 x2 x3,δ[0]?=some (some x0)/\δ[1]?=some (some x1)/\δ[2]?=some (some x2)/\δ[3]?=some (some x3)/\x2.isRef=true/\x3.isRef=true /\
 ∀a2 a3,Si [x0,x1,.pin a2 x2,.pin a3 x3] fun x=>(∃ns dd,x=.ins C ns dd/\m∉ns)/\So x (a2,x2) (a3,x3) P
def HA{Si:DSp}{So:DSO}{E E':XK}{m:Str}(Zg:bE Si)(Zf:Ez So):EM K Γ [] (yH C m (spO K So) [] E (B6 C (spN K C Si) [] E' (gp (eJ 0) (gp (eJ 1) (gp (eJ 2) (gp (eJ 3) m7))))) m7) (KW C m Si So) :=
 ⟨fun δ P P' k ⟨x0,x1,x2,x3,e0,e1,e2,e3,r2,r3,h⟩=>⟨x0,x1,x2,x3,e0,e1,e2,e3,r2,r3,fun a2 a3=>Zg _ _ _ (fun x z=>⟨z.1,Zf _ _ _ _ _ k z.2⟩) (h a2 a3)⟩,fun {B0 fps δ σ H Q} o h=>by
  obtain ⟨x0,x1,x2,x3,e0,e1,e2,e3,i2,i3,h⟩:=h
  obtain ⟨v0,s0,r0⟩:=o.val 0 _ e0
  obtain ⟨v1,s1,r1⟩:=o.val 1 _ e1
  obtain ⟨v2,s2,r2⟩:=o.val 2 _ e2
  obtain ⟨v3,s3,r3⟩:=o.val 3 _ e3
  obtain ⟨a2,rfl⟩:=r2.isRef i2
  obtain ⟨a3,rfl⟩:=r3.isRef i3
  refine⟨v0,s0,v1,s1,.ref a2,s2,.ref a3,s3,fun x dx hx SR PY=>?_⟩
  have sx:Same H (upd H dx (.own x)):=Same.jn SR
  have YY:(upd H dx (.own x)) x=none:=by rw[aF (M0 PY)];exact hx
  refine⟨x,dx,[v0,v1,.ref a2,.ref a3],[x0,x1,.pin a2 x2,.pin a3 x3],upd H dx (.own x),rfl,YY,rfl,⟨_,v0,_,_,_,rfl,rfl,r0.same sx,v1,_,_,_,rfl,rfl,r1.same sx,.ref a2,_,_,_,rfl,rfl,⟨rfl,r2.same sx⟩,.ref a3,_,_,[],rfl,rfl,⟨rfl,r3.same sx⟩,rfl,rfl⟩,(o.b0.trans sx).now,Zg _ _ _ ?_ (h a2 a3)⟩
  rintro d ⟨⟨ns,dd,rfl,hm⟩,z⟩ Sq xs Tr fq H' e sH hH hq Qt R0
  cases e
  refine⟨rfl,x,dx,_,rfl,hH,gz hm,upd H dx (.own x),x,.ins C ns dd,x::fq,(a2,x2),(a3,x3),rfl,⟨sH,(o.b0.trans sx).now⟩,⟨x,dx,xs,fq,rfl,hH,rfl,hq⟩,Mh.mpr ⟨fun h=>(R0 x h).2.1 rfl,Qt⟩,fun a ha=>?_,⟨_,r2.same sx⟩,⟨_,r3.same sx⟩,Zf _ _ _ _ _ (fun r z w H3 fpw s3' rr nd fr=>?_) z⟩
  .rcases L8.mp ha with e|h
   .rw[e];exact⟨YY,.inr (.inr (.inr ⟨_,_,_,hH⟩))⟩
   .exact⟨(R0 a h).1,(R0 a h).2.2⟩
  .exact z w H3 fpw (sx.trans s3') rr ⟨nd,fun a ha=>(fr a ha).2,fun a ha=>.inl (sx.free (fr a ha).1)⟩⟩
abbrev endsN(C s:Addr)(P:D->Prop):cf:=⟨fun δ=>kN δ 0 fun a x=>a=s/\(∃ns dd,x=.ins C ns dd)/\P x,fun _ _=>False,fun _=>False,fun _=>False⟩
def Fv(K:PySem.W.Frag)(C:Addr)(S:DSp):Sp:=fun vs H Q _=>∃(x dx:Addr) (ws:List V) (ds:List D) (B0:Hp),vs=.ref x::ws/\B0 x=none/\H=upd B0 x (.ins C dx [])/\Rps K B0 ds ws/\iy K B0 /\
 S ds fun d=>∀(ns:List Str) (xs:List V) (dd:List D) (fq:List Addr) (Qu:Addr) (H':Hp),d=.ins C ns dd->Same B0 H'->H' x=some (.ins C Qu (ns.zip xs))->Rfs K H' dd xs fq->fq.Nodup->(∀a∈fq,B0 a=none/\a≠x/\Mu H' a)->Q .non H'
def FH{S:DSp}{n:Nat}(h:∀ds P,S ds P->ds.length=n){vs:List V}{H:Hp}{Q:VK}{E:XK}(k:Fv K C S vs H Q E):vs.length=n+1:=by
 obtain ⟨x,dx,ws,ds,B0,rfl,_,_,r,_,hS⟩:=k
 obtain ⟨fp,r⟩:=r
 rw[L6,r.length,h _ _ hS]
def EB{S:DSp}{E:XK}{w:TA}{dr:DA}(hS:bE S)(hi:∀ds P,S ds P->S ds fun d=>(∃ns dd,d=.ins C ns dd)/\P d)(hr:AR K Γ w dr):EM K Γ [] (B6 C (Fv K C S) [] E w) (ql S dr) :=
 ⟨fun δ P P' k h=>hr.mono _ _ _ (fun y z=>hS _ _ _ k z) h,
 fun {B0 fps δ σ H Q} o q=>hr.run o (hr.mono _ _ _ (fun ys z vs H1 s1 r1=>by
  intro x dx hx SR PY
  have sx:Same H1 (upd H1 dx (.own x)):=Same.jn SR
  refine⟨x,dx,vs,ys,upd H1 dx (.own x),by rw[MV],by rw[aF (M0 PY)];exact hx,rfl,r1.same sx,(o.b0.trans (s1.trans sx)).now,hS _ _ _ ?_ (hi _ _ z)⟩
  rintro d ⟨⟨ns,dd,rfl⟩,z⟩ Sq xs Tr fq Qu H' e sH hH hq Qt R0
  cases e
  refine⟨rfl,z (.ref x) H' (x::fq) (s1.trans (sx.trans sH)) ⟨x,Qu,xs,fq,rfl,hH,rfl,hq⟩ ⟨Mh.mpr ⟨fun h=>(R0 x h).2.1 rfl,Qt⟩,fun a ha=>?_,fun a ha=>?_⟩⟩
  .rcases L8.mp ha with e|h
   .rw[e];exact .inr (.inr (.inr ⟨_,_,_,hH⟩))
   .exact (R0 a h).2.2
  .rcases L8.mp ha with e|h
   .rw[e];exact .inl (s1.free hx)
   .exact .inl (s1.free (sx.free (R0 a h).1))) q)⟩
def INB(K:PySem.W.Frag)(C:Addr)(ns0:List Str)(t:TS)(d:List D->Dl->DK->Prop):Prop :=
 ∀⦃B0:Hp⦄ ⦃fps:Nat->List Addr⦄ ⦃δ:Dl⦄ ⦃σ:St⦄ ⦃H:Hp⦄ ⦃x dx:Addr⦄ ⦃xs0:List V⦄ ⦃ds0:List D⦄ ⦃fq0:List Addr⦄ ⦃R:Hp->Prop⦄ ⦃W:VK⦄,Ok K B0 [] fps (none::δ) σ H->σ[0]?=some (some (.ref x))->H x=some (.ins C dx (ns0.zip xs0))->B0 x=none->ns0.length=xs0.length->Rfs K H ds0 xs0 fq0->fq0.Nodup ->
  (∀a∈fq0,B0 a=none/\a≠x/\Mu H a)->(∀i,∀a∈fps i,B0 a≠none) ->
  d ds0 δ (fun y=>∀(ns:List Str) (xs:List V) (dd:List D) (fq:List Addr) (Qu:Addr) (H':Hp),y=.ins C ns dd->Same B0 H'->H' x=some (.ins C Qu (ns.zip xs))->Rfs K H' dd xs fq->fq.Nodup->(∀a∈fq,B0 a=none/\a≠x/\Mu H' a)->R H')->t { nx:=fun _ H'=>R H',rt:=W } σ H
def tW{ns0:List Str}{t:TS}{d:List D->Dl->DK->Prop}(hc:Cls K C)(hn:bU K C f)(he:EM K [] [] ta da)(hf:f∉ns0:=by decide +kernel)(hl:ns0.length<100:=by decide)(h:INB K C (ns0++[f]) t d) :
  INB K C ns0 (zH (Ar K (eJ 0) ta f) t) (fun ds0 δ P=>da (none::δ) fun y=>d (ds0++[y]) δ P):=by
 intro B0 fps δ σ H x dx xs0 ds0 fq0 R W o h0 hx hb OE hr Qt hq R1 q
 refine sS (Dn:={ nx:=t { nx:=fun _ H'=>R H',rt:=W },rt:=W }) hc hn he o h0 hx hb OE hr Qt hq (fun i z=>R1 i x z hb) hf hl (he.mono _ _ _ (fun y z H' v fq o' g1 g2 g3 g4=>?_) q)
 exact h o' h0 g1 hb (by simp [OE]) g2 g3 g4 R1 z
def Ga{ns0:List Str}{t:TS}{d:DS}(hs:ST K true [0] [] t [0] [0] d):INB K C ns0 t (fun ds0 δ P=>∀s,d (endsN C s P) (some (.pin s (.ins C ns0 ds0))::δ)):=by
 intro B0 fps δ σ H x dx xs0 ds0 fq0 R W o h0 hx hb OE hr Qt hq R1 q
 have o1:Ok K B0 [0] (fun j=>match j with|0=>x::fq0|l+1=>fps (l+1)) (some (.pin x (.ins C ns0 ds0))::δ) σ H:=by
  refine⟨o.len,o.b0,fun j d e=>?_,fun j e=>?_,fun j hj=>?_,fun j hj l hl a ha=>?_⟩
  .match j,e with
   |0,e=>cases e;exact⟨.ref x,h0,rfl,x,dx,xs0,fq0,rfl,hx,rfl,hr⟩
   |l+1,e=>exact o.val (l+1) d (by simpa using e)
  .match j,e with
   |0,e=>exact absurd rfl (e _)
   |l+1,e=>exact o.non (l+1) fun d z=>e d (by simpa using z)
  .cases Gc.mp hj
   refine⟨Mh.mpr ⟨fun z=>(hq x z).2.1 rfl,Qt⟩,fun a ha=>?_⟩
   rcases L8.mp ha with z|z
   .rw[z];exact⟨hb,.inr (.inr (.inr ⟨_,_,_,hx⟩))⟩
   .exact⟨(hq a z).1,(hq a z).2.2⟩
  .cases Gc.mp hj
   match l,hl with
   |0,z=>exact absurd rfl z
   |l+1,_ =>
    intro z
    rcases L8.mp ha with y|y
    .exact R1 (l+1) a z (by rw[y];exact hb)
    .exact R1 (l+1) a z (hq a y).1
 refine hs (E:=endsN C x _) ⟨fun {R5 Ts Qo H2} o2 z=>?_,fun o (z:False)=>z.elim,fun o (z:False)=>z.elim,fun o r i (z:False)=>z.elim⟩ o1 (q x)
 obtain ⟨a,y,e,rfl,⟨ns,dd,rfl⟩,z⟩:=ju z
 obtain ⟨v,hv,rfl,b,Qu,xs,fq,eb,hH,ef,r'⟩:=o2.val 0 _ e
 cases eb
 have own:=o2.own 0 (Gc.mpr rfl)
 rw[ef] at own
 obtain ⟨n1,n2⟩:=Mh.mp own.1
 exact z ns xs dd fq Qu H2 rfl o2.b0.toSame hH r' n2 fun c hc=>⟨(own.2 c (mo _ hc)).1,fun z=>n1 (z▸hc),(own.2 c (mo _ hc)).2⟩
def HV{N:List Str}{S:DSp}{t:TS}{d:List D->Dl->DK->Prop}(hs:INB K C [] t d)(hd:∀ds P,S ds P->d [] (aL (N.drop 1) ds) P)(hN:1<=N.length) :
  ∀{vs H Q E},Fv K C S vs H Q E->t { nx:=fun _ H'=>Q .non H',rt:=Q } (L2.start N vs) H:=by
 rintro vs H Q E ⟨x,dx,ws,ds,B0,rfl,hb,rfl,r,tv,h⟩
 obtain ⟨fps,o⟩:=mf (N:=N.drop 1) r tv
 have sx:Same B0 (upd B0 x (.ins C dx [])):=Same.jn hb
 have o2:=o.same sx
 have Yx:L2.start N (.ref x::ws)=some (.ref x)::L2.start (N.drop 1) ws:=by
  unfold L2.start
  rw[Mb,List.cons_append,L6,Nl,show N.length - (ws.length+1)=N.length - 1 - ws.length by omega]
 rw[Yx]
 refine hs (B0:=B0) (fps:=fun i=>match i with|0=>[]|j+1=>fps j) (δ:=aL (N.drop 1) ds) (x:=x) (dx:=dx) (xs0:=[]) (ds0:=[]) (fq0:=[]) (R:=fun H'=>Q .non H') ⟨by rw[L6,L6,o2.len],⟨sx,tv⟩,fun i dd e=>?_,fun i e=>?_,fun _ h=>(nomatch h),fun _ h=>(nomatch h)⟩ rfl aw hb rfl ⟨rfl,rfl⟩ Nq (fun _ h=>(nomatch h)) (fun i a ha=>?_) (hd ds _ h)
 .cases i with
  |zero=>simp at e
  |succ j=>exact o2.val j dd (by simpa using e)
 .cases i with
  |zero=>rfl
  |succ j=>exact o2.non j fun dd z=>e dd (by simpa using z)
 .cases i with
  |zero=>nomatch ha
  |succ j=>exact o.dom ha
def xm(xs:List D)(P:DK):Prop:=match xs with|[x]=>t8 x fun kvs=>∃ns:List Int,kvs.map (·.1)=ns.map Sum.inl/\ns.length<64/\∀ms:List Int,ms.Perm ns->ms.Pairwise (·<=·)->P (dI ms)|_=>False
def t5{kvs:List (Key × V)}{P:DK}:xm [.dic kvs] P↔∃ns:List Int,kvs.map (·.1)=ns.map Sum.inl/\ns.length<64/\∀ms:List Int,ms.Perm ns->ms.Pairwise (·<=·)->P (dI ms):=M3
def Bl:nA K (fun xs H Q=>∃(a:Addr) (kvs:List (Key × V)) (ns:List Int),xs=[.ref a]/\H a=some (.dK kvs)/\kvs.map (·.1)=ns.map Sum.inl/\ns.length<64/\∀(l:Addr) (ms:List Int),H l=none->ms.Perm ns->ms.Pairwise (·<=·)->Q (.ref l) (upd H l (.lst (ms.map V.int)))) xm :=
 ⟨fun xs P P' k h=>by
  unfold xm at h ⊢
  revert h
  split
  .exact fun h=>by obtain ⟨kvs,rfl,ns,e,z⟩:=iJ h;exact⟨ns,e,z.1,fun ms a b=>k _ (z.2 ms a b)⟩
  .exact id,
 fun {H xs vs Q} r h=>by
  unfold xm at h
  split at h
  .obtain ⟨v,rfl,r0⟩:=r.one
   obtain ⟨kvs,rfl,ns,e,z⟩:=iJ h
   obtain ⟨fp,a,rfl,ha,_,_⟩:=r0
   exact⟨a,kvs,ns,rfl,ha,e,z.1,fun l ms hl hp ho=>z.2 ms hp ho _ _ [l] (Same.jn hl) (Rf.ofInts aw) (Nw.one hl aw).any⟩
  .exact h.elim⟩
end
end L3
namespace L3
open PySem L2
def qy{X:Cx}{ss:List Stmt}{t:TS}(G:List Nat)(hG:∀i∈G,∀x,X.N[i]?=some x->X.env.scope.names.lookup x=none)(h:PSs X ss t):PSs X ss (xM G t):=C2 G hG h
end L3
namespace L3
namespace Fl
open PySem L2
def mU{l:List Int}{i j:Nat}{v:Int}(h:i<l.length):(l.set i v).getD j 0=if i=j then v else l.getD j 0:=by
 rw[gV,M6,gV]
 by_cases e:i=j
 .rw[if_pos e,if_pos e,if_pos h];rfl
 .rw[if_neg e,if_neg e]
structure Wy(n m:Nat)(low high t:List (List Int))(w:List Int)(g:Nat)(ps:List (Nat × Nat)):Prop where
 hd:∃p r,ps=p::r/\p.2=g
 rg:∀p∈ps,p.1<n/\p.2<m
 n1:(ps.map Prod.fst).Nodup
 n2:(ps.map Prod.snd).Nodup
 up:∀p∈ps,cellAt t p.1 p.2<cellAt high p.1 p.2
 lk:Lk (fun a b=>cellAt low a b<cellAt t a b) ps
 ls:∃p,ps.getLast?=some p/\0<w.getD p.1 0
def tK{n m:Nat}:∀{ps:List (Nat × Nat)},(∀p∈ps,p.1<n/\p.2<m)->∀p∈cellsOf ps,p.1<n/\p.2<m
 |[],_,p,h=>nomatch h
 |[q],k,p,h=>by cases Gc.mp h;exact k q Fk
 |q::q2::r,k,p,h=>by
  rcases L8.mp h with e|h
  .rw[e];exact k q Fk
  .rcases L8.mp h with e|h
   .rw[e];exact⟨(k q Fk).1,(k q2 (mo _ Fk)).2⟩
   .exact tK (ps:=q2::r) (fun z hz=>k z (mo _ hz)) p h
def Gg{L L':Nat->Nat->Prop}:∀{ps:List (Nat × Nat)},Lk L ps->Lk L' ps->Lk (fun a b=>L a b/\L' a b) ps
 |[],_,_=>trivial
 |[_],_,_=>trivial
 |p::q::r,h,k=>⟨⟨h.1,k.1⟩,Gg (ps:=q::r) h.2 k.2⟩
def GZ{n m:Nat}{rows cols:List Int}{low high t:List (List Int)}{w r:List Int}{g:Nat}{ps:List (Nat × Nat)}{p:Nat × Nat}{x:Int}(s:St n m rows cols low high t w r)(hw:Wy n m low high t w g ps)(hp:ps.getLast?=some p)(x1:1<=x)
  (xw:x<=w.getD p.1 0) (xr:x<=r.getD g 0) (al:Al (fun c=>x<=cellAt high c.1 c.2 - cellAt t c.1 c.2) (fun c=>x<=cellAt t c.1 c.2 - cellAt low c.1 c.2) (cellsOf ps)) :
  St n m rows cols low high (ap x (cellsOf ps) t) (w.set p.1 (w.getD p.1 0 - x)) (r.set g (r.getD g 0 - x))/\p.1<n/\g<m:=by
 have Xv:p∈ps:=List.mem_of_getLast? hp
 obtain ⟨pn,pm⟩:=hw.rg p Xv
 obtain ⟨q,NK,eq,hg⟩:=hw.hd
 have gm:g<m:=by rw[<- hg];exact (hw.rg q (by rw[eq];exact Fk)).2
 obtain ⟨a1,a2⟩:=zK.mp al
 obtain ⟨k1,k2,k3,k4⟩:=IW (x:=x) s.rt (tK hw.rg)
 have lk2:=Gg hw.lk a2
 refine⟨⟨k1,by rw[MQ];exact s.wl,by rw[MQ];exact s.rl,fun i j hi hj=>?_,fun i hi=>?_,fun j hj=>?_,fun j hj=>?_,fun i hi hn j hj=>?_⟩,pn,gm⟩
 .have b:=s.bd i j hi hj
  rw[k2]
  rcases FL (x:=x) (a:=i) (b:=j) hw.n1 hw.n2 lk2 with z|⟨z,zin⟩|⟨z,zl,_⟩
  .rw[z];omega
  .have:=a1 (i,j) zin
   dsimp only at this
   rw[z];omega
  .dsimp only at zl
   rw[z];omega
 .rw[k3,Be hp,mU (by rw[s.wl];exact pn),s.rs i hi]
  by_cases z:p.1=i
  .rw[if_pos z,if_pos z,<- z];omega
  .rw[if_neg z,if_neg z];omega
 .rw[k4,eq,BC,mU (by rw[s.rl];exact gm),s.cs j hj,hg]
  by_cases z:g=j
  .rw[if_pos z,if_pos z,<- z];omega
  .rw[if_neg z,if_neg z];omega
 .rw[mU (by rw[s.rl];exact gm)]
  by_cases z:g=j
  .rw[if_pos z];omega
  .rw[if_neg z];exact s.rp j hj
 .rw[mU (by rw[s.wl];exact pn)] at hn
  by_cases z:p.1=i
  .rw[if_pos z] at hn;omega
  .rw[if_neg z] at hn
   rw[k2]
   have e:dl x (cellsOf ps) i j=0:=by
    have st:∀y∈ps,y.1=i->∃b,b<m/\cellAt low i b<cellAt t i b\/0<w.getD i 0:=by
     intro y hy e
     have:∀{qs:List (Nat × Nat)},Lk (fun a b=>cellAt low a b<cellAt t a b) qs->(∀z∈qs,z.1<n/\z.2<m)->y∈qs->qs.getLast?=some p->y=p\/∃b,b<m/\cellAt low y.1 b<cellAt t y.1 b:=by
      intro qs
      induction qs with
      |nil=>intro _ _ h;nomatch h
      |cons a l ih =>
       intro h1 h2 h3 h4
       cases l with
       |nil =>
        cases Gc.mp h3
        left;simpa using h4
       |cons b l =>
        rcases L8.mp h3 with e|h3
        .right
         rw[e]
         exact⟨b.2,(h2 b (mo _ Fk)).2,h1.1⟩
        .exact ih h1.2 (fun z hz=>h2 z (mo _ hz)) h3 (by rw[NJ] at h4;exact h4)
     rcases this hw.lk hw.rg hy hp with q|⟨b,hb,q⟩
     .exact absurd (by rw[<- q];exact e) z
     .exact⟨b,.inl ⟨hb,by rw[<- e];exact q⟩⟩
    refine zL fun y hy e=>?_
    obtain ⟨b,q⟩:=st y hy e
    rcases q with ⟨hb,q⟩|q
    .have:=s.ng i hi hn b hb;omega
    .omega
   rw[e,s.ng i hi hn j hj];omega
def oV:Option Nat->V|none=>.non|some c=>.int (c:Int)
def oD:Option Nat->D|none=>.non|some g=>.int (g:Int)
def kA(as:List (Nat × Option Nat)):List (Key × V):=as.map fun p=>(Sum.inl (p.1:Int),oV p.2)
abbrev kys(as:List (Nat × Option Nat)):List Nat:=as.map Prod.fst
def Bh{as:List (Nat × Option Nat)}:(kA as).map (·.1)=((kys as).map fun (c:Nat)=>(c:Int)).map Sum.inl:=by
 unfold kA;rw[Mp,Mp,Mp];rfl
def wO:∀{as:List (Nat × Option Nat)}{c:Nat},c∉kys as->j6 (kA as) (.inl (c:Int))=none
 |[],c,_=>rfl
 |p::as,c,h=>by
  rw[kys,Mb,L8,not_or] at h
  show j6 ((Sum.inl (p.1:Int),oV p.2)::kA as) _=none
  rw[kR (fun z=>h.1 (by have:=Sum.inl.inj z;omega)),wO h.2]
def rD:∀{as:List (Nat × Option Nat)}{c:Nat}{o:Option Nat},(kys as).Nodup->(c,o)∈as->j6 (kA as) (.inl (c:Int))=some (oV o)
 |[],c,o,_,h=>nomatch h
 |p::as,c,o,nd,h=>by
  rw[kys,Mb] at nd
  obtain ⟨n1,n2⟩:=Mh.mp nd
  show j6 ((Sum.inl (p.1:Int),oV p.2)::kA as) _=_
  rcases L8.mp h with e|h
  .subst e;exact mB rfl
  .rw [kR (fun z => n1 (by have : p.1 = c := by have := Sum.inl.inj z; omega
                           rw[this];exact Ma.mpr ⟨_,h,rfl⟩)),rD n2 h]
def Lw{as:List (Nat × Option Nat)}{c:Nat}:(j6 (kA as) (.inl (c:Int))).isSome=decide (c∈kys as):=by
 by_cases h:c∈kys as
 .rw[decide_eq_true h]
  induction as with
  |nil=>nomatch h
  |cons p as ih =>
   show (j6 ((Sum.inl (p.1:Int),oV p.2)::kA as) _).isSome=_
   by_cases e:p.1=c
   .rw[mB (by rw[e])];rfl
   .rw[kR (fun z=>e (by have:=Sum.inl.inj z;omega))]
    rw[kys,Mb] at h
    rcases L8.mp h with z|z
    .exact absurd z.symm e
    .exact ih z
 .rw[decide_eq_false h,wO h];rfl
def Gv{as:List (Nat × Option Nat)}{c:Nat}{o:Option Nat}(h:c∉kys as):putK (kA as) (.inl (c:Int)) (oV o)=kA (as++[(c,o)]):=by
 rw[GN _ (wO h)]
 unfold kA;rw[Mr];rfl
def jV{B:Nat}{l:List Nat}(nd:l.Nodup)(h:∀a∈l,a<B):l.length<=B:=Mat.Ea nd h
structure Rc(n m:Nat)(low high t:List (List Int))(w:List Int)(as bs:List (Nat × Option Nat))(rk ck:Nat->Nat)(D:Nat):Prop where
 na:(kys as).Nodup
 nb:(kys bs).Nodup
 la:∀i∈kys as,i<n/\rk i<=D
 lb:∀j∈kys bs,j<m/\ck j<=D
 pa:∀i o,(i,o)∈as->(o=none/\0<w.getD i 0)\/∃c,o=some c/\c∈kys bs/\ck c<rk i/\cellAt low i c<cellAt t i c
 pb:∀j o,(j,o)∈bs->∃s,o=some s/\s∈kys as/\rk s<ck j/\cellAt t s j<cellAt high s j
 st:∀i,i<n->0<w.getD i 0->i∈kys as
abbrev nw(Np:List (Nat × Nat)):List (Nat × Option Nat):=Np.map fun p=>(p.1,some p.2)
def gG{Np:List (Nat × Nat)}:kys (nw Np)=Np.map Prod.fst:=by unfold kys nw;rw[Mp];rfl
def dO{as bs:List (Nat × Option Nat)}:kys (as++bs)=kys as++kys bs:=Mr
variable {n m:Nat}{low high t:List (List Int)}{w r:List Int}{as bs:List (Nat × Option Nat)}{rk ck:Nat->Nat}{D:Nat}
def Rc.up(h:Rc n m low high t w as bs rk ck D){Np:List (Nat × Nat)}(nd:(kys bs++Np.map Prod.fst).Nodup)(hn:∀p∈Np,p.2∈kys as/\p.1<m/\cellAt t p.2 p.1<cellAt high p.2 p.1) :
  Rc n m low high t w as (bs++nw Np) rk (fun c=>if c∈Np.map Prod.fst then D+1 else ck c) (D+1):=by
 obtain ⟨d1,d2,d3⟩:=Mm.mp nd
 have old:∀c∈kys bs,c∉Np.map Prod.fst:=fun c hc z=>d3 c hc c z rfl
 refine⟨h.na,by rw[dO,gG];exact nd,fun i hi=>⟨(h.la i hi).1,by have:=(h.la i hi).2;omega⟩,fun j hj=>?_,fun i o e=>?_,fun j o e=>?_,h.st⟩
 .rw[dO,gG] at hj
  rcases Mc.mp hj with z|z
  .show j<m/\(if j∈Np.map Prod.fst then D+1 else ck j)<=D+1
   rw[if_neg (old j z)]
   have:=h.lb j z;omega
  .obtain ⟨p,hp,rfl⟩:=Ma.mp z
   show p.1<m/\(if p.1∈Np.map Prod.fst then D+1 else ck p.1)<=D+1
   rw[if_pos z]
   exact⟨(hn p hp).2.1,Mi _⟩
 .rcases h.pa i o e with z|⟨c,e1,e2,e3,e4⟩
  .exact .inl z
  .refine .inr ⟨c,e1,by rw[dO];exact Mf _ e2,?_,e4⟩
   show (if c∈Np.map Prod.fst then D+1 else ck c)<rk i
   rw[if_neg (old c e2)];exact e3
 .rcases Mc.mp e with z|z
  .obtain ⟨s,e1,e2,e3,e4⟩:=h.pb j o z
   refine⟨s,e1,e2,?_,e4⟩
   show rk s<if j∈Np.map Prod.fst then D+1 else ck j
   rw[if_neg (old j (Ma.mpr ⟨_,z,rfl⟩))];exact e3
  .obtain ⟨p,hp,q⟩:=Ma.mp z
   cases q
   obtain ⟨q1,q2,q3⟩:=hn p hp
   refine⟨p.2,rfl,q1,?_,q3⟩
   show rk p.2<if p.1∈Np.map Prod.fst then D+1 else ck p.1
   rw[if_pos (Ma.mpr ⟨p,hp,rfl⟩)]
   have:=(h.la p.2 q1).2;omega
def Rc.down(h:Rc n m low high t w as bs rk ck D){Np:List (Nat × Nat)}(nd:(kys as++Np.map Prod.fst).Nodup)(hn:∀p∈Np,p.2∈kys bs/\p.1<n/\cellAt low p.1 p.2<cellAt t p.1 p.2) :
  Rc n m low high t w (as++nw Np) bs (fun i=>if i∈Np.map Prod.fst then D+1 else rk i) ck (D+1):=by
 obtain ⟨d1,d2,d3⟩:=Mm.mp nd
 have old:∀c∈kys as,c∉Np.map Prod.fst:=fun c hc z=>d3 c hc c z rfl
 refine⟨by rw[dO,gG];exact nd,h.nb,fun j hj=>?_,fun i hi=>⟨(h.lb i hi).1,by have:=(h.lb i hi).2;omega⟩,fun j o e=>?_,fun i o e=>?_,fun i hi hw=>by rw[dO];exact Mf _ (h.st i hi hw)⟩
 .rw[dO,gG] at hj
  rcases Mc.mp hj with z|z
  .show j<n/\(if j∈Np.map Prod.fst then D+1 else rk j)<=D+1
   rw[if_neg (old j z)]
   have:=h.la j z;omega
  .obtain ⟨p,hp,rfl⟩:=Ma.mp z
   show p.1<n/\(if p.1∈Np.map Prod.fst then D+1 else rk p.1)<=D+1
   rw[if_pos z]
   exact⟨(hn p hp).2.1,Mi _⟩
 .rcases Mc.mp e with z|z
  .rcases h.pa j o z with q|⟨c,e1,e2,e3,e4⟩
   .exact .inl q
   .refine .inr ⟨c,e1,e2,?_,e4⟩
    show ck c<if j∈Np.map Prod.fst then D+1 else rk j
    rw[if_neg (old j (Ma.mpr ⟨_,z,rfl⟩))];exact e3
  .obtain ⟨p,hp,q⟩:=Ma.mp z
   cases q
   obtain ⟨q1,q2,q3⟩:=hn p hp
   refine .inr ⟨p.2,rfl,q1,?_,q3⟩
   show ck p.2<if p.1∈Np.map Prod.fst then D+1 else rk p.1
   rw[if_pos (Ma.mpr ⟨p,hp,rfl⟩)]
   have:=(h.lb p.2 q1).2;omega
 .obtain ⟨s,e1,e2,e3,e4⟩:=h.pb i o e
  refine⟨s,e1,by rw[dO];exact Mf _ e2,?_,e4⟩
  show (if s∈Np.map Prod.fst then D+1 else rk s)<ck i
  rw[if_neg (old s e2)];exact e3
structure Cl(n m:Nat)(low high t:List (List Int))(r:List Int)(layer:List Nat)(as bs:List (Nat × Option Nat))(goal:Option Nat):Prop where
 ly:∀l∈layer,l∈kys as
 cr:∀i∈kys as,i∉layer->∀j,j<m->cellAt t i j<cellAt high i j->j∈kys bs
 cc:∀j∈kys bs,∀i,i<n->cellAt low i j<cellAt t i j->i∈kys as
 gl:match goal with|none=>∀c∈kys bs,r.getD c 0<=0|some g=>g∈kys bs/\0<r.getD g 0
structure Wp(n m:Nat)(low high t:List (List Int))(bs:List (Nat × Option Nat))(rk ck:Nat->Nat)(g:Nat)(ps:List (Nat × Nat))(c:Nat):Prop where
 hd:(ps=[]/\c=g)\/∃p l,ps=p::l/\p.2=g
 ci:c∈kys bs
 rg:∀p∈ps,p.1<n/\p.2<m
 rk:∀p∈ps,ck c<rk p.1/\ck c<ck p.2
 n1:(ps.map Prod.fst).Nodup
 n2:(ps.map Prod.snd).Nodup
 up:∀p∈ps,cellAt t p.1 p.2<cellAt high p.1 p.2
 lk:Lk (fun a b=>cellAt low a b<cellAt t a b) ps
 ls:∀p,ps.getLast?=some p->cellAt low p.1 c<cellAt t p.1 c
def Wp.step(h:Rc n m low high t w as bs rk ck D){g c s:Nat}{ps:List (Nat × Nat)}(q:Wp n m low high t bs rk ck g ps c)(e:(c,some s)∈bs) :
  s∈kys as/\((s,none)∈as->Wy n m low high t w g (ps++[(s,c)]))/\∀c2,(s,some c2)∈as->Wp n m low high t bs rk ck g (ps++[(s,c)]) c2/\ck c2<ck c:=by
 obtain ⟨s',e1,e2,e3,e4⟩:=h.pb c (some s) e
 cases e1
 have hs:=(h.la s e2).1
 have hc:=(h.lb c q.ci).1
 have rg:∀p∈ps++[(s,c)],p.1<n/\p.2<m:=fun p hp=>by
  rcases Mc.mp hp with z|z
  .exact q.rg p z
  .cases Gc.mp z;exact⟨hs,hc⟩
 have n1:((ps++[(s,c)]).map Prod.fst).Nodup:=by
  rw[Mr]
  refine Mm.mpr ⟨q.n1,by simp,fun a ha b hb z=>?_⟩
  obtain ⟨p,hp,rfl⟩:=Ma.mp ha
  have:b=s:=by simpa using hb
  have:=(q.rk p hp).1
  rw[z,‹b=s›] at this;omega
 have n2:((ps++[(s,c)]).map Prod.snd).Nodup:=by
  rw[Mr]
  refine Mm.mpr ⟨q.n2,by simp,fun a ha b hb z=>?_⟩
  obtain ⟨p,hp,rfl⟩:=Ma.mp ha
  have:b=c:=by simpa using hb
  have:=(q.rk p hp).2
  rw[z,‹b=c›] at this;omega
 have up:∀p∈ps++[(s,c)],cellAt t p.1 p.2<cellAt high p.1 p.2:=fun p hp=>by
  rcases Mc.mp hp with z|z
  .exact q.up p z
  .cases Gc.mp z;exact e4
 have lk:=BF (s:=s) q.lk q.ls
 have hd:∃p l,ps++[(s,c)]=p::l/\p.2=g:=by
  rcases q.hd with ⟨z1,z2⟩|⟨p,l,z1,z2⟩
  .subst z1;exact⟨(s,c),[],rfl,z2⟩
  .subst z1;exact⟨p,l++[(s,c)],rfl,z2⟩
 refine⟨e2,fun z=>⟨hd,rg,n1,n2,up,lk,(s,c),by simp,?_⟩,fun c2 z=>?_⟩
 .rcases h.pa s none z with ⟨_,y⟩|⟨_,y,_⟩
  .exact y
  .cases y
 .rcases h.pa s (some c2) z with ⟨y,_⟩|⟨c',y,y2,y3,y4⟩
  .cases y
  .cases y
   refine⟨⟨.inr hd,y2,rg,fun p hp=>?_,n1,n2,up,lk,fun p hp=>?_⟩,by omega⟩
   .rcases Mc.mp hp with v|v
    .have:=q.rk p v;omega
    .cases Gc.mp v
     show ck c2<rk s/\ck c2<ck c
     omega
   .have:p=(s,c):=by simpa using hp.symm
    rw[this];exact y4
end Fl
end L3
namespace L3
open PySem L2
section
end
end L3
namespace L3.Fl
def Kk{n m:Nat}{rows cols:List Int}{low high t:List (List Int)}{R C:List Nat}(ht:cT n m t)(bd:∀i j,i<n->j<m->cellAt low i j<=cellAt t i j/\cellAt t i j<=cellAt high i j)(rs:∀i,i<n->lT t i=rows.getD i 0)(cs:∀j,j<m->lV t j=cols.getD j 0):¬ Cut n m rows cols low high R C:=by
 unfold Cut
 have e1:sN n (fun i=>if i∈R then rows.getD i 0 else 0)=sN n fun i=>sN m fun j=>if i∈R then cellAt t i j else 0:=bq fun i hi=>by
  by_cases z:i∈R
  .rw[if_pos z,<- rs i hi,xc ht hi]
   exact bq fun j _=>(if_pos z).symm
  .rw[if_neg z,bq (g:=fun _=>0) fun j _=>if_neg z,cM]
 have e2:sN m (fun j=>if j∈C then cols.getD j 0 else 0)=sN n fun i=>sN m fun j=>if j∈C then cellAt t i j else 0:=by
  rw[qY]
  refine bq fun j hj=>?_
  by_cases z:j∈C
  .rw[if_pos z,<- cs j hj,qV ht]
   exact bq fun i _=>(if_pos z).symm
  .rw[if_neg z,bq (g:=fun _=>0) fun i _=>if_neg z,cM]
 rw[e1,e2,<- jY]
 refine Int.not_lt.mpr ?_
 have le:∀(n:Nat) (f g:Nat->Int),(∀i,i<n->f i<=g i)->sN n f<=sN n g:=by
  intro n
  induction n with
  |zero=>intro f g _;exact OJ _
  |succ k ih =>
   intro f g h
   rw[fC,fC]
   have:=ih f g fun i hi=>h i (by omega)
   have:=h k (by omega)
   omega
 refine le _ _ _ fun i hi=>?_
 rw[<- jY]
 refine le _ _ _ fun j hj=>?_
 have b:=bd i j hi hj
 by_cases z1:i∈R<;>by_cases z2:j∈C
 .rw[if_pos z1,if_pos z2,if_neg (fun q=>q.2 z2),if_neg (fun q=>q.1 z1)];omega
 .rw[if_pos z1,if_neg z2,if_pos ⟨z1,z2⟩,if_neg (fun q=>q.1 z1)];omega
 .rw[if_neg z1,if_pos z2,if_neg (fun q=>q.2 z2),if_pos ⟨z1,z2⟩];omega
 .rw[if_neg z1,if_neg z2,if_neg (fun q=>z1 q.1),if_neg (fun q=>z2 q.2)];omega
end L3.Fl
namespace L2
open PySem PySem.Spec PyProof.Rows
open Sem (wp)
section
end
section
end
end L2
namespace L2
open PySem PySem.Spec PyProof.Rows
section
end
end L2
namespace L3
open PySem L2
section
end
end L3
namespace L3
open PySem L2
section
end
end L3
namespace L2
open PySem
end L2
namespace L3
open PySem L2
section
end
end L3
namespace L3
namespace Rg
open Fl
section
end
end Rg
end L3
namespace L3
open PySem L2
section
end
end L3
namespace L3
namespace Rg
open Fl
section
end
end Rg
end L3
namespace L3
open PySem L2
section
end
end L3
namespace L3
open PySem L2
section
end
end L3
namespace L3
open PySem L2
section
end
end L3
namespace L3
open PySem
open L2 hiding D Rf Rfs Rp dI dT
section
variable {K:PySem.W.Frag}{Γ:List Nat}
def Lg(i k:Nat)(δ:Dl)(P:DK):Prop:=∃ds y,δ[i]?=some (some (.tup ds))/\ds[k]?=some y/\P y
def w4{α:Type}{xs:List α}{k:Nat}{w:α}(h:xs[k]?=some w):atI xs (k:Int)=some w:=by
 have hl:k<xs.length:=(L7.mp h).1
 unfold atI
 rw[eQ (by omega) (by omega)]
 simpa using h
def A7(i k:Nat)(h:i∈Γ:=by decide):EM K Γ [i] (tOp (yM K) (eJ i) (tC (.int (k:Int)))) (Lg i k) :=
 ⟨fun δ P P' kk ⟨ds,y,e,ek,q⟩=>⟨ds,y,e,ek,kk _ q⟩,fun {B0 fps δ σ H Q} o q=>by
  obtain ⟨ds,y,e,ek,q⟩:=q
  obtain ⟨v,hv,a,xs,rfl,ha,r⟩:=o.val i _ e
  obtain ⟨w,f',ew,QK,sub,SE⟩:=r.Iz (o.own i h).1 ek
  exact⟨.ref a,hv,a,xs,k,w,rfl,rfl,by first|exact .inl ha|exact .inl (.inl ha)|exact ha,w4 ew,q w H f' (Same.refl H) QK ⟨SE,fun b hb=>((o.own i h).2 b (sub b hb)).2,fun b hb=>.inr ⟨i,Gc.mpr rfl,sub b hb⟩⟩⟩⟩
def JH(i:Nat)(δ:Dl)(P:List D->Prop):Prop:=∃x y z,δ[i]?=some (some (.tup [x,y,z]))/\P [y,z]
def zy(i:Nat)(h:i∈Γ:=by decide):AM K Γ [i] (gp (tOp (yM K) (eJ i) (tC (.int 1))) (gp (tOp (yM K) (eJ i) (tC (.int 2))) m7)) (JH i) :=
 ⟨fun δ P P' kk ⟨x,y,z,e,q⟩=>⟨x,y,z,e,kk _ q⟩,fun {B0 fps δ σ H Q} o q=>by
  obtain ⟨x,y,z,e,q⟩:=q
  obtain ⟨v,hv,a,xs,rfl,ha,r⟩:=o.val i _ e
  have own:=o.own i h
  obtain ⟨v0,r0,f0,g0,rfl,e0,q0,r⟩:=r
  obtain ⟨v1,r1,f1,g1,rfl,rfl,q1,r⟩:=r
  obtain ⟨v2,r2,f2,g2,rfl,rfl,q2,r⟩:=r
  obtain ⟨rfl,rfl⟩:=r
  rw[e0] at own
  obtain ⟨nd,mu⟩:=own
  have SD:=(Mm.mp nd).2.1
  have sq:SqT K H a [v0,v1,v2]:=by first|exact .inl ha|exact .inl (.inl ha)|exact ha
  refine⟨.ref a,hv,a,_,1,v1,rfl,rfl,sq,w4 (k:=1) rfl,.ref a,hv,a,_,2,v2,rfl,rfl,sq,w4 (k:=2) rfl,q _ H _ (Same.refl H) ⟨v1,_,f1,f2++[],rfl,rfl,q1,v2,_,f2,[],rfl,rfl,q2,rfl,rfl⟩ ⟨SD,fun b hb=>(mu b (KE _ hb)).2,fun b hb=>.inr ⟨i,Gc.mpr rfl,?_⟩⟩⟩
  rw[e0];exact KE _ hb⟩
end
end L3
namespace L2
open PySem PySem.Spec PyProof.Rows
section
variable {X:Cx}{k:Nat}{f C D:Addr}{fd:FuncData}{ps:List Str}{sp:Sp}{x y n:Str}{p np cp ep hp MH:Pos}{e b:Expr}{es:List Expr}{ta:TA}{VX:Stmt}{TU:List Stmt}{i:Nat}{ups VZ:List Addr}
def B4(i:Nat)(C:Addr)(sp:Sp)(ta:TA)(th:TS):TS:=fun Dn σ H=>ta σ H fun vs H1=>sp vs H1 (fun v H2=>Dn.nx (σ.set i (some v)) H2) fun cls _ H2=>cls=.ref C/\th { nx:=Dn.nx,rt:=Dn.rt } σ H2
def CV{th:TS}{Pd:Pos}(Tc:X.stack=X.env::X.outer)(hfm:X.env.frame=some X.env.locals)(F:aI X.prog X.w X.K X.mg X.base (CXR X.prog X.w) k f fd ps sp)(hr:hX k X.A)(hgf:Gl X y)(hmf:X.mg y=some (.ref f))
  (hkf:PySem.W.keepIn X.K (.ref f)=true) (hb:Binds X.K fd ps []) (ha:PA X.nox (e::es) ta) (OC:eI X.base C ups) (OD:eI X.base D VZ) (hmD:X.mg x=some (.ref D)) (hgx:Gl X x) (Ya:(C::ups).contains D=true)
  (hN:X.N.Nodup) (hi:X.N[i]?=some n) (hx:Loc X.env.scope n)
  (hs:∀a oe,oe.cls=.ref C->PSs (X.held a oe) (VX::TU) th)
  (SR:(x == ("__debug__" : Str))=false:=by decide) (Vx:(y == ("__debug__" : Str))=false:=by decide) (he:starEach (e::es) X.env=(false,eval e X.env)::starEach es X.env:=by rfl) (Ri:(backTo cp (starEach es X.env)).any (·.1)=false:=by rfl)
  (Vi:swapsWith (.Call (.Name y p) (e::es) [] cp) (some (.Name n Pd)) ep.line X.env=pure false:=by rfl) (hf:X.fn n=true\/X.env.scope.names.lookup n=some .local:=by first|exact .inl rfl|exact .inr rfl|assumption) :
  PS X (.Try [.Assign [.Name n Pd] (.Call (.Name y p) (e::es) [] cp) ep] [.ExceptHandler (some (.Name x np)) none (VX::TU) hp] [] [] MH) (B4 i C sp ta th):=by
 intro pins s σ H Dn I h
 refine wpAny_Try_except (wpAny_execs_cons (wpAny_Assign_Name ?_ Vi))
 refine wpAny_Call_Name_kw (mW I hgf hmf ?_ Vx)
 refine Pt (h₀:=X.base) I.ok.mod.kin hkf (wpAny_mono (ha cp pins s σ H _ (I.oR _) h) (fun us s1 q1=>?_) fun _ _ z=>z.elim) he Ri
 obtain ⟨vs,H1,I1,rr,q⟩:=q1
 have I1:Inv X pins σ H1 s1:=I1.jd
 refine⟨I1.kIn,wpAny_mono (HX (XE:=fun ev s'=>CXR X.prog X.w X.stack H1 s1 _ ev s') F hr hb I1 rr q fun _ _ z=>z) (fun u s2 z=>?_) fun ev s' z=>?_⟩
 .obtain ⟨v,H2,I2,rv,q2⟩:=z
  exact sF I2 hN hi hx rv (fun s3 I3=>wpAny_execs_nil (wpAny_execs_nil ⟨_,H2,I3,q2⟩)) hf
 obtain ⟨a,C',H',rfl,os,bare,U,ok,fl,qC,q⟩:=z
 cases qC
 obtain ⟨⟨na,fa⟩,oe,ws,a0,T,oT,ts,ge,gc,gd,g1,g2,g3,g4,g5,nT,fT⟩:=fl
 have J:Inv X pins σ H' s':=I1.xX os U ok bare fun b hb=>(nomatch hb)
 have RJ:Heap.FlyingW (PySem.W.hideAll s'.heap (a::T::frs X.stack)) (X.env::X.outer) a (.ref C) a0 s'.heap:=by
  refine⟨fun b o e=>Pr _ e,NU _ (Fk ..),?_,oe,ws,T,oT,ts,ge,gc,gd,g1,NU _ (mo _ (Fk ..)),g2,g3,g4,g5⟩
  rw[<- Tc]
  exact PySem.W.funFrames_hide J.stack fun env he b hb=>mo _ (mo _ (OB.mpr ⟨env,he,hb⟩))
 have T9:X.A.frames=some (X.env::X.outer):=by rw[<- Tc];exact J.ok.frames
 refine wpAny_looks_onW T9 hfm RJ fun Vd Ti Te=>?_
 refine wpAny_landsW Ti fun Uj R3 Td=>?_
 obtain ⟨YQ,I5,c5,e5⟩:=tD I1 os bare U ok na fa nT fT (by rw[Tc] at R3 ⊢;exact R3) (Te.trans Td)
 have YD:Inv (X.held a YQ) pins σ H' { s' with heap:=Uj }:=I5.held
 refine wpAny_handleBy_cons (codeAny_handlers_test (mW (X:=X.held a YQ) YD hgx hmD ?_ SR)) (by intro q;cases q)
 refine tp (OC.keeps I5.bk) (OD.keeps I5.bk) e5 c5 Ya ?_
 refine codeAny_handlers_suite ?_
 refine lands_againW R3 fun Xd Tj Ul=>?_
 obtain ⟨YO,I6,c6,e6⟩:=tD I1 os bare U ok na fa nT fT (by rw[Tc] at Tj ⊢;exact Tj) ((Te.trans Td).trans Ul)
 have YC:Inv (X.held a YO) pins σ H' { s' with heap:=Xd }:=I6.held
 refine wpAny_mono (hs a YO c6 pins _ _ H' _ YC q) (fun fl s8 q8=>?_) fun _ _ z=>z.elim
 cases fl with
 |next =>
  obtain ⟨σ',H8,I8,q8⟩:=q8
  exact⟨_,H8,I8.Et J.ok,q8⟩
 |brk=>obtain ⟨_,_,_,z⟩:=q8;exact False.elim z
 |cont=>obtain ⟨_,_,_,z⟩:=q8;exact False.elim z
 |ret u =>
  obtain ⟨x8,σ8,H8,I8,r8,q8⟩:=q8
  exact⟨x8,σ8,H8,I8.Et J.ok,r8,q8⟩
def Lj(r1 r2:R2):R2:=fun v u H Q=>r1 v u H Q\/r2 v u H Q
def Kv{g:Value->Value->Sem Value}{r1 r2:R2}(h1:OpR X g r1)(h2:OpR X g r2):OpR X g (Lj r1 r2):=fun pins s σ H x y v u Q I a b h=>h.elim (h1 pins s σ H x y v u Q I a b) (h2 pins s σ H x y v u Q I a b)
end
end L2
namespace L3
open PySem L2
section
variable {K:PySem.W.Frag}{ρ:Bool}{Γr Γl Γ Γn:List Nat}{C:Addr}{S:DSX}{ta:TA}{da:DA}
def BA(i:Nat)(C:Addr)(S:DSX)(da:DA)(dh:DS)(E:cf)(δ:Dl):Prop :=
 da δ fun xs=>S xs (fun x=>E.nx (δ.set i (some x))) fun C'=>C'=C/\dh { nx:=fun _=>False,rt:=E.rt,bk:=fun _=>False,ct:=fun _=>False } δ
def C1{th:TS}{dh:DS}(i:Nat)(hS:ja S)(ha:AR K Γ ta da)(hh:ST K ρ Γr Γl th Γ Γn dh):ST K ρ Γr Γl (B4 i C (spX K S) ta th) Γ (i::minus (minus Γ []) [i]) (BA i C S da dh) :=
 fun {B0 Dn E fps δ σ H} k o h=>ha.run o (ha.mono _ _ _ (fun xs z vs H1 s1 r1=>⟨xs,r1,(o.b0.trans s1).now,hS _ _ _ _ _ (fun y z v H2 fp s2 r n=>k.nx (o.D8 (M:=[]) i (fun _ h=>(nomatch h)) (s1.trans s2) r (n.any.later s1)) z)
  (fun C' z H2 s2=>⟨congrArg Value.ref z.1,hh (E:={ nx:=fun _=>False,rt:=E.rt,bk:=fun _=>False,ct:=fun _=>False })
   ⟨fun _ (z:False)=>z.elim,fun _ (z:False)=>z.elim,fun _ (z:False)=>z.elim,k.rt⟩ (o.same (s1.trans s2)) z.2⟩) z⟩) h)
def Lf(r1 r2:D2)(x y:D)(P:DK):Prop:=r1 x y P\/r2 x y P
def LX{r1 r2:R2}{v1 v2:D2}(h1:OpV K r1 v1)(h2:OpV K r2 v2):OpV K (Lj r1 r2) (Lf v1 v2) :=
 ⟨fun x y P P' k h=>h.imp (h1.mono x y _ _ k) (h2.mono x y _ _ k),fun a b h=>h.imp (h1.run a b) (h2.run a b)⟩
end
end L3
namespace Tal
def Fs{f:List Int->Int}:∀{ls:List (List Int)},(∀l∈ls,0<=f l)->0<=(ls.map f).sum
 |[],_=>by simp
 |a::ls,h=>by
  rw[Mb,Mj]
  have:=h a Fk
  have:=Fs (f:=f) (ls:=ls) fun l hl=>h l (mo _ hl)
  omega
def rm{f:List Int->Int}:∀{ls:List (List Int)},(∀l∈ls,0<=f l)->(0<(ls.map f).sum↔∃l∈ls,0<f l)
 |[],_=>by simp
 |a::ls,h=>by
  have h1:=h a Fk
  have h2:∀l∈ls,0<=f l:=fun l hl=>h l (mo _ hl)
  have ih:=rm h2
  have nn:=Fs h2
  rw[Mb,Mj]
  constructor
  .intro z
   by_cases q:0<f a
   .exact⟨a,Fk,q⟩
   .obtain ⟨l,hl,k⟩:=ih.mp (by omega)
    exact⟨l,mo _ hl,k⟩
  .rintro ⟨l,hl,k⟩
   rcases L8.mp hl with e|e
   .subst e;omega
   .have:=ih.mpr ⟨l,e,k⟩;omega
def sG:∀{R C:List Int},0<W R C↔∃T,Ok R C T
 |[],C=>by
  unfold W
  constructor
  .intro h
   by_cases z:∀x∈C,x=0
   .exact⟨[],z⟩
   .rw[if_neg z] at h;omega
  .rintro ⟨T,h⟩
   cases T with
   |nil=>rw[if_pos (show ∀x∈C,x=0 from h)];omega
   |cons _ _=>exact h.elim
 |r::R,C=>by
  rw[W,rm fun l _=>iW]
  constructor
  .rintro ⟨l,hl,h⟩
   obtain ⟨T,hT⟩:=sG.mp h
   exact⟨l::T,hl,hT⟩
  .rintro ⟨T,h⟩
   cases T with
   |nil=>exact h.elim
   |cons l T=>exact⟨l,h.1,sG.mpr ⟨T,h.2⟩⟩
def JJ{r:Int}{R' C:List Int}{k:Nat}:0<sh r R' C k↔∃l T,Ok (r::R') C (l::T)/\l.getD k 0=1:=by
 have nn:∀l∈bL r C.length,0<=W R' (sub C l)*l.getD k 0:=fun l hl=>by
  have:=iW (rs:=R') (left:=sub C l)
  rcases iS (k:=k) (dE.mp hl).1 with e|e<;>rw[e]<;>omega
 rw[sh,rm nn]
 constructor
 .rintro ⟨l,hl,h⟩
  rcases iS (k:=k) (dE.mp hl).1 with e|e
  .rw[e] at h;omega
  .obtain ⟨T,hT⟩:=sG.mp (show 0<W R' (sub C l) by rw[e] at h;omega)
   exact⟨l,T,⟨hl,hT⟩,e⟩
 .rintro ⟨l,T,h,e⟩
  refine⟨l,h.1,?_⟩
  have:=sG.mpr ⟨T,h.2⟩
  rw[e];omega
def zE{f g:List Int->Int}:∀{ls:List (List Int)},(ls.map f).sum - (ls.map g).sum=(ls.map fun l=>f l - g l).sum
 |[]=>rfl
 |a::ls=>by
  rw[Mb,Mb,Mb,Mj,Mj,Mj,<- zE]
  omega
def Ln{r:Int}{R' C:List Int}{k:Nat}:sh r R' C k<W (r::R') C↔∃l T,Ok (r::R') C (l::T)/\l.getD k 0=0:=by
 have nn:∀l∈bL r C.length,0<=W R' (sub C l) - W R' (sub C l)*l.getD k 0:=fun l hl=>by
  have:=iW (rs:=R') (left:=sub C l)
  rcases iS (k:=k) (dE.mp hl).1 with e|e<;>rw[e]<;>omega
 have e:sh r R' C k<W (r::R') C↔0<((bL r C.length).map fun l=>W R' (sub C l) - W R' (sub C l)*l.getD k 0).sum:=by
  rw[<- zE,sh,W];omega
 rw[e,rm nn]
 constructor
 .rintro ⟨l,hl,h⟩
  rcases iS (k:=k) (dE.mp hl).1 with e|e
  .obtain ⟨T,hT⟩:=sG.mp (show 0<W R' (sub C l) by rw[e] at h;omega)
   exact⟨l,T,⟨hl,hT⟩,e⟩
  .rw[e] at h;omega
 .rintro ⟨l,T,h,e⟩
  refine⟨l,h.1,?_⟩
  have:=sG.mpr ⟨T,h.2⟩
  rw[e];omega
def D4{a b:List Int}(p:a.Perm b):a.sum=b.sum:=by
 induction p with
 |nil=>rfl
 |cons x _ ih=>rw[Mj,Mj,ih]
 |swap x y l=>rw[Mj,Mj,Mj,Mj];omega
 |trans _ _ h1 h2=>exact h1.trans h2
def Dw{w:Nat}{T U:List (List Int)}(p:T.Perm U):cols w T=cols w U:=by
 unfold cols
 exact Nf fun k _=>D4 (p.map _)
def B3{R C:List Int}{T U:List (List Int)}(p:T.Perm U)(h:Ok R C T):Ok (U.map List.sum) C U:=by
 obtain ⟨_,e,q⟩:=si h
 rw[e,Dw p]
 exact Aa fun t ht=>q t (p.mem_iff.mpr ht)
def FF{R C l:List Int}{T:List (List Int)}{i:Nat}(hi:i<R.length)(h:Ok (R.getD i 0::wo R i) C (l::T)):∃U,Ok R C U/\U.getD i []=l:=by
 have e:=(si h).1
 rw[Mb] at e
 have e1:=List.cons.inj e
 have tl:T.length=R.length - 1:=by have:=congrArg List.length e1.2;rw[FJ hi,ox] at this;exact this.symm
 have tk:(T.take i).length=i:=by rw[M5,tl];omega
 refine⟨T.take i++l::T.drop i,?_,?_⟩
 .have p:(l::T).Perm (T.take i++l::T.drop i):=by
   refine List.Perm.trans ?_ List.perm_middle.symm
   rw[MX]
  have o:=B3 p h
  have er:(T.take i++l::T.drop i).map List.sum=R:=by
   rw[Mr,Mb,<- e1.1,Ov,Pa,<- e1.2,wo]
   have l1:(R.take i).length=i:=by rw[M5];omega
   rw[List.take_append_of_le_length (by omega),M1 (by omega),List.drop_append_of_le_length (by omega),List.drop_of_length_le (by omega),List.nil_append]
   rw[gV,dz hi]
   show R.take i++R[i]::R.drop (i+1)=R
   rw[<- MD hi,MX]
  rw[er] at o
  exact o
 .rw[gV,MA (by omega),tk,Nat.sub_self];rfl
def Bp{R C:List Int}{U:List (List Int)}{i:Nat}(hi:i<R.length)(h:Ok R C U):∃T,Ok (R.getD i 0::wo R i) C (U.getD i []::T):=by
 have lu:=zQ h
 have e:=(si h).1
 have hu:i<U.length:=by omega
 refine⟨U.take i++U.drop (i+1),?_⟩
 have eu:U=U.take i++U.getD i []::U.drop (i+1):=by
  rw[gV,dz hu]
  show U=U.take i++U[i]::U.drop (i+1)
  rw[<- MD hu,MX]
 have p:U.Perm (U.getD i []::(U.take i++U.drop (i+1))):=by
  conv=>lhs;rw[eu]
  exact List.perm_middle
 have o:=B3 p h
 rw[Mb,Mr,Ov,Pa,<- e] at o
 have e2:(U.getD i []).sum=R.getD i 0:=by
  rw[e,gV,gV,L9,dz hu];rfl
 rw[e2] at o
 exact o
def Cq{R C:List Int}{i k:Nat}(hi:i<R.length):0<sh (R.getD i 0) (wo R i) C k↔∃T,Ok R C T/\(T.getD i []).getD k 0=1:=by
 rw[JJ]
 constructor
 .rintro ⟨l,T,h,e⟩
  obtain ⟨U,hU,eU⟩:=FF hi h
  exact⟨U,hU,by rw[eU];exact e⟩
 .rintro ⟨U,h,e⟩
  obtain ⟨T,hT⟩:=Bp hi h
  exact⟨_,T,hT,e⟩
def Ff{R C:List Int}{i k:Nat}(hi:i<R.length):sh (R.getD i 0) (wo R i) C k<W R C↔∃T,Ok R C T/\(T.getD i []).getD k 0=0:=by
 rw[<- Lx hi,Ln]
 constructor
 .rintro ⟨l,T,h,e⟩
  obtain ⟨U,hU,eU⟩:=FF hi h
  exact⟨U,hU,by rw[eU];exact e⟩
 .rintro ⟨U,h,e⟩
  obtain ⟨T,hT⟩:=Bp hi h
  exact⟨_,T,hT,e⟩
end Tal
namespace Mine
open PySem L3
open L2 hiding D Rf Rfs Rp dI dT
open PyProof.Rows hiding St
open L3.Fl hiding St
local macro_rules | `(tactic| walk_at "o") => `(tactic| first | exact Or.inl rfl | exact Or.inr rfl)
local macro_rules | `(tactic| walk_at "s") => `(tactic| exact ⟨rfl, rfl, rfl, by decide +kernel, rfl, by decide +kernel, by decide +kernel⟩)
local macro_rules | `(tactic| walk_at "v1") => `(tactic| simp only [Iv,wK,Fb,BZ,Ay,t5,oD,tf,EY,Ed,Hy,D3,JE,JD,Hk,JC,xI,EN,zg,B2,JR,vIf,lU,vC,vOp,vUn,Cg,DW,Ei,vA,Gr,Kr,vOr,JG,EI,GR,z6,AD,oU,Fh,Ko,ql,Hd,EK,En,Co,zt,B5,Cp,rK,yJ,ym,xb,FC,tQ,yE,xT,oN,wm,vIs,BN,GS,Cz,Bw,BJ,Cd,Gp,Fq,Fe,Eh,DX,D7,DB,FA,Fw,xO,D.tJ,Gn,D.bg,FG,yo,Bv,vS,vF,vY,zz,Ce,FO,zi,yq,vZ,v5,vN,jr,mV,vSl,u6,vp,sA,tM,rZ,nX,sJ,tL,Hr,kN,DM,Fd,KO,Fm,ET,vd,AQ,tP,vn,rY,vi,BO,vK,uV,vL,Bc,Fc,BU,D.toV,Option.some.injEq,forall_eq',Cw,yi,Gh,Au,zZ,Er,noX,GO,GD,Eb,GK,ye,kill,List.foldl_nil,List.foldl_cons,List.set_cons_zero,List.set_cons_succ,List.getElem?_cons_zero,List.getElem?_cons_succ,List.getElem?_nil,qt,xR,Bool.false_eq_true,Bool.not_false,Bool.not_true,if_true,if_false,ite_true,ite_false,true_and,and_true,List.length_cons,List.length_nil,decide_eq_true_eq,Bool.not_eq_true',decide_eq_false_iff_not,List.length_map,Bool.true_eq_false,eq_self,not_true_eq_false,not_false_eq_true,Int.reduceToNat,Int.reduceEq,Int.reduceLT,Int.reduceLE,Int.reducePow,Int.reduceAdd,Int.reduceMul,Int.reduceSub,Int.reduceNeg,Int.toNat_natCast])
local macro_rules | `(tactic| walk_at "vb1") => `(tactic| simp only [Iv,wK,Fb,BZ,Ay,t5,oD,tf,EY,Ed,Hy,D3,JE,JD,Hk,JC,xI,EN,zg,B2,JR,vIf,lU,vC,vOp,vUn,Cg,DW,Ei,vA,Gr,Kr,vOr,JG,EI,GR,z6,AD,oU,Fh,Ko,ql,Hd,EK,En,Co,zt,B5,Cp,rK,yJ,ym,xb,FC,tQ,yE,xT,oN,wm,vIs,BN,GS,Cz,Bw,BJ,Cd,Gp,Fq,Fe,Eh,DX,D7,DB,FA,Fw,xO,D.tJ,Gn,D.bg,FG,yo,Bv,vS,vF,vY,zz,Ce,FO,zi,yq,vZ,v5,vN,jr,mV,vSl,u6,vp,sA,tM,rZ,nX,sJ,tL,Hr,kN,DM,Fd,KO,Fm,ET,vd,AQ,tP,vn,rY,vi,BO,vK,uV,vL,Bc,Fc,BU,D.toV,Option.some.injEq,forall_eq',Cw,yi,Gh,Au,zZ,Er,noX,GO,GD,Eb,GK,ye,kill,List.foldl_nil,List.foldl_cons,List.set_cons_zero,List.set_cons_succ,List.getElem?_cons_zero,List.getElem?_cons_succ,List.getElem?_nil,qt,xR,Bool.false_eq_true,Bool.not_false,Bool.not_true,if_true,if_false,ite_true,ite_false,true_and,and_true,List.length_cons,List.length_nil,decide_eq_true_eq,Bool.not_eq_true',decide_eq_false_iff_not,List.length_map,Bool.true_eq_false,eq_self,not_true_eq_false,not_false_eq_true,Int.reduceToNat,Int.reduceEq,Int.reduceLT,Int.reduceLE,Int.reducePow,Int.reduceAdd,Int.reduceMul,Int.reduceSub,Int.reduceNeg,Int.toNat_natCast,ka,fu,List.reduceReplicate,List.replicate_succ,List.replicate_zero,List.map_cons,List.map_nil,Option.getD_some,List.cons_append,List.nil_append,Nat.reduceAdd])
local macro_rules | `(tactic| walk_at "v") => `(tactic| try (walk_at "v1"))
local macro_rules | `(tactic| walk_at "vb") => `(tactic| try (walk_at "vb1"))
local macro_rules | `(tactic| walk_at "cd") => `(tactic| first | exact ⟨by decide,100,by decide,by decide⟩ | exact ⟨by omega,100,by omega,by decide⟩ | omega | decide | rfl | exact ⟨by decide,by decide,by decide⟩ | exact ⟨64,64,by omega,by omega,by decide⟩ | exact ⟨200,200,by omega,by omega,by decide⟩ | exact cP)
local macro_rules | `(tactic| walk_at "go") => `(tactic| repeat (first | (walk_at "v1") | ((with_reducible refine And.intro ?k1 ?_); (case k1 => walk_at "cd"))))
local macro_rules | `(tactic| walk_at "gb") => `(tactic| repeat (first | (walk_at "vb1") | ((with_reducible refine And.intro ?k1 ?_); (case k1 => walk_at "cd"))))
def top (i:Nat):Stmt:=PySem.Challenge.pw_evenmix_k59_whole_fates_and_shares.main.body.getD i (.Pass ⟨0,0,0,0⟩)
def xa(i j:Nat):Stmt:=(match top i with|.ClassDef _ _ _ b _ _ _ _ _ _ _=>b|_=>[]).getD j (.Pass ⟨0,0,0,0⟩)
abbrev Kf:Stmt:=top 0
abbrev Jt:List Str:=["k"]
abbrev KD:List Str:=["k"]
def LR:aE Jt KD (ak Kf):=by walk_at "s"
abbrev gR:Stmt:=top 8
abbrev pI:List Str:=["row"]
abbrev iC:List Str:=["row"]
def AV:aE pI iC (ak gR):=by walk_at "s"
abbrev bQ:Stmt:=top 9
abbrev iK:List Str:=["row"]
abbrev bR:List Str:=["row"]
def pk:aE iK bR (ak bQ):=by walk_at "s"
abbrev bT:Stmt:=top 10
abbrev jE:List Str:=["one","other"]
abbrev bM:List Str:=["one","other"]
def qB:aE jE bM (ak bT):=by walk_at "s"
abbrev fi:Stmt:=top 11
abbrev nR:List Str:=["one","other"]
abbrev eK:List Str:=["one","other"]
def yb:aE nR eK (ak fi):=by walk_at "s"
abbrev fH:Stmt:=top 12
abbrev nS:List Str:=["row","heads","head","number"]
abbrev gF:List Str:=["row"]
def iT:aE nS gF (ak fH):=by walk_at "s"
abbrev bC:Stmt:=top 13
abbrev gP:List Str:=["one","other","above"]
abbrev bP:List Str:=["one","other"]
def ji:aE gP bP (ak bC):=by walk_at "s"
abbrev fN:Stmt:=top 15
abbrev nG:List Str:=["number","many"]
abbrev gD:List Str:=["number","many"]
def yc:aE nG gD (ak fN):=by walk_at "s"
abbrev b7:Stmt:=top 16
abbrev jB:List Str:=["table"]
abbrev cF:List Str:=["table"]
def qG:aE jB cF (ak b7):=by walk_at "s"
abbrev b8:Stmt:=top 17
abbrev jS:List Str:=["table"]
abbrev cJ:List Str:=["table"]
def qH:aE jS cJ (ak b8):=by walk_at "s"
abbrev bI:Stmt:=top 18
abbrev ip:List Str:=["table"]
abbrev bW:List Str:=["table"]
def nQ:aE ip bW (ak bI):=by walk_at "s"
abbrev b9:Stmt:=top 19
abbrev jX:List Str:=["table"]
abbrev cK:List Str:=["table"]
def qU:aE jX cK (ak b9):=by walk_at "s"
abbrev d9:Stmt:=top 20
abbrev mR:List Str:=["table","place"]
abbrev fF:List Str:=["table","place"]
def xk:aE mR fF (ak d9):=by walk_at "s"
abbrev cn:Stmt:=top 22
abbrev jg:List Str:=["rows","columns","low","high"]
abbrev cW:List Str:=["rows","columns","low","high"]
def p9:aE jg cW (ak cn):=by walk_at "s"
abbrev cm:Stmt:=top 23
abbrev jz:List Str:=["low","high"]
abbrev dJ:List Str:=["low","high"]
def qP:aE jz dJ (ak cm):=by walk_at "s"
abbrev cI:Stmt:=xa 24 0
abbrev jT:List Str:=["self","rows","columns","low","high"]
abbrev dF:List Str:=["self","rows","columns","low","high"]
def qE:aE jT dF (ak cI):=by walk_at "s"
abbrev bH:Stmt:=xa 24 1
abbrev ko:List Str:=["self","reach","low#","high#"]
abbrev bX:List Str:=["self"]
def jN:aE ko bX (ak bH):=by walk_at "s"
abbrev bZ:Stmt:=xa 24 2
abbrev mD:List Str:=["self","way","goal","start","amount","step","row","low#","high#"]
abbrev dH:List Str:=["self","way"]
def dY:aE mD dH (ak bZ):=by walk_at "s"
abbrev cq:Stmt:=xa 24 3
abbrev jc:List Str:=["self","way","step","row","column"]
abbrev cV:List Str:=["self","way","step"]
def iD:aE jc cV (ak cq):=by walk_at "s"
abbrev d8:Stmt:=xa 25 0
abbrev lG:List Str:=["self","filling","raising","lowering","layer","row","fresh"]
abbrev fj:List Str:=["self","filling"]
def eM:aE lG fj (ak d8):=by walk_at "s"
abbrev eY:Stmt:=xa 25 1
abbrev mF:List Str:=["self","cells","column","row"]
abbrev fP:List Str:=["self"]
def il:aE mF fP (ak eY):=by walk_at "s"
abbrev gh:Stmt:=top 26
abbrev pN:List Str:=["lesser","greater"]
abbrev iM:List Str:=["lesser","greater"]
def Ac:aE pN iM (ak gh):=by walk_at "s"
abbrev iU:Stmt:=top 27
abbrev t6:List Str:=["layer","ways","reached","fresh","source","place"]
abbrev jM:List Str:=["layer","ways","reached"]
def mZ:aE t6 jM (ak iU):=by walk_at "s"
abbrev br:Stmt:=top 28
abbrev hZ:List Str:=["columns","rooms","free"]
abbrev bV:List Str:=["columns","rooms"]
def jW:aE hZ bV (ak br):=by walk_at "s"
abbrev gg:Stmt:=top 30
abbrev pQ:List Str:=["sums","many"]
abbrev iA:List Str:=["sums","many"]
def AH:aE pQ iA (ak gg):=by walk_at "s"
abbrev bF:Stmt:=top 31
abbrev iE:List Str:=["sums","level"]
abbrev cz:List Str:=["sums","level"]
def oM:aE iE cz (ak bF):=by walk_at "s"
abbrev eZ:Stmt:=top 32
abbrev me:List Str:=["rows","columns","many"]
abbrev fZ:List Str:=["rows","columns"]
def oy:aE me fZ (ak eZ):=by walk_at "s"
abbrev cH:Stmt:=top 33
abbrev jK:List Str:=["rows","columns","left","table","number","row"]
abbrev dG:List Str:=["rows","columns"]
def d6:aE jK dG (ak cH):=by walk_at "s"
abbrev cC:Stmt:=top 34
abbrev kG:List Str:=["places","many"]
abbrev eN:List Str:=["places","many"]
def tF:aE kG eN (ak cC):=by walk_at "s"
abbrev gU:Stmt:=top 36
abbrev qc:List Str:=["rows","columns","cell","noughts","ones","without","having"]
abbrev iH:List Str:=["rows","columns","cell"]
def jP:aE qc iH (ak gU):=by walk_at "s"
abbrev dn:Stmt:=top 37
abbrev kY:List Str:=["rows","columns","number"]
abbrev ff:List Str:=["rows","columns","number"]
def uO:aE kY ff (ak dn):=by walk_at "s"
abbrev dA:Stmt:=top 38
abbrev kI:List Str:=["table","cell","turned"]
abbrev eL:List Str:=["table","cell"]
def mQ:aE kI eL (ak dA):=by walk_at "s"
abbrev eA:Stmt:=top 41
abbrev lH:List Str:=["rows","columns"]
abbrev eD:List Str:=["rows","columns"]
def uR:aE lH eD (ak eA):=by walk_at "s"
abbrev cZ:Stmt:=xa 42 0
abbrev lx:List Str:=["self","rows","width"]
abbrev eB:List Str:=["self","rows","width"]
def uJ:aE lx eB (ak cZ):=by walk_at "s"
abbrev cD:Stmt:=xa 42 1
abbrev lh:List Str:=["self","done","left","want"]
abbrev bO:List Str:=["self","done","left"]
def nv:aE lh bO (ak cD):=by walk_at "s"
abbrev uS:Stmt:=xa 42 2
abbrev uv:List Str:=["self","done","left","line"]
abbrev uI:List Str:=["self","done","left","line"]
def GH:aE uv uI (ak uS):=by walk_at "s"
abbrev dq:Stmt:=top 43
abbrev lD:List Str:=["number","width"]
abbrev d7:List Str:=["number","width"]
def uE:aE lD d7 (ak dq):=by walk_at "s"
abbrev dy:Stmt:=top 44
abbrev mM:List Str:=["width","lines","place"]
abbrev fM:List Str:=["width"]
def jl:aE mM fM (ak dy):=by walk_at "s"
abbrev fG:Stmt:=top 45
abbrev oh:List Str:=["rows","columns"]
abbrev gJ:List Str:=["rows","columns"]
def zp:aE oh gJ (ak fG):=by walk_at "s"
abbrev eF:Stmt:=top 46
abbrev mh:List Str:=["rows","columns"]
abbrev fV:List Str:=["rows","columns"]
def wX:aE mh fV (ak eF):=by walk_at "s"
abbrev bN:Stmt:=top 47
abbrev i9:List Str:=["rows","columns","row","tally","shares","line","ways"]
abbrev cQ:List Str:=["rows","columns","row"]
def dC:aE i9 cQ (ak bN):=by walk_at "s"
abbrev fS:Stmt:=top 49
abbrev nV:List Str:=["_law_script","_law_number","_law_cell"]
abbrev gN:List Str:=["_law_script","_law_number"]
def kj:aE nV gN (ak fS):=by walk_at "s"
abbrev eO:Stmt:=top 50
abbrev nY:List Str:=["_law_number","_law_most","_law_high","_law_wide"]
abbrev gI:List Str:=["_law_number","_law_most"]
def mm:aE nY gI (ak eO):=by walk_at "s"
abbrev cX:Stmt:=top 51
abbrev n0:List Str:=["_law_number","_law_most","_law_table","_law_rows","_law_columns","_law_at","_law_up"]
abbrev gQ:List Str:=["_law_number","_law_most"]
def fJ:aE n0 gQ (ak cX):=by walk_at "s"
abbrev eW:Stmt:=top 52
abbrev mi:List Str:=["_law_found"]
abbrev fL:List Str:=["_law_found"]
def xq:aE mi fL (ak eW):=by walk_at "s"
abbrev fW:Stmt:=top 53
abbrev nP:List Str:=["_law_rows","_law_columns","_law_cell","_law_handed","_law_found"]
abbrev gE:List Str:=["_law_rows","_law_columns","_law_cell"]
def kl:aE nP gE (ak fW):=by walk_at "s"
abbrev gX:Stmt:=top 54
abbrev pT:List Str:=["_law_share","_law_many"]
abbrev iF:List Str:=["_law_share","_law_many"]
def As:aE pT iF (ak gX):=by walk_at "s"
abbrev eC:Stmt:=top 55
abbrev lz:List Str:=["_law_cells","_law_many","_law_base","_law_left","_law_found","_law_k","_law_at"]
abbrev fg:List Str:=["_law_cells","_law_many","_law_base"]
def gv:aE lz fg (ak eC):=by walk_at "s"
abbrev eX:Stmt:=top 56
abbrev mI:List Str:=["_law_script","_law_high","_law_digits_here"]
abbrev fK:List Str:=["_law_script"]
def lq:aE mI fK (ak eX):=by walk_at "s"
abbrev mO:Stmt:=top 57
abbrev DJ:List Str:=["_law_script","_law_rows","_law_columns","_law_many","_law_shares","_law_row","_law_column"]
abbrev rT:List Str:=["_law_script"]
def nI:aE DJ rT (ak mO):=by walk_at "s"
structure Txt(K:PySem.W.Frag)(mg:Str->Option Value)(base:Heap):Prop where
 len_:mg "len" = none
 isinstance_:mg "isinstance" = none
 int_:mg "int" = none
 bool_:mg "bool" = none
 list_:mg "list" = none
 range_:mg "range" = none
 min_:mg "min" = none
 max_:mg "max" = none
 sum_:mg "sum" = none
 sorted_:mg "sorted" = none
 tuple_:mg "tuple" = none
 zip_:mg "zip" = none
 any_:mg "any" = none
 str_:mg "str" = none
 ValueError_:mg "ValueError" = none
 MOST_COUNTED_:∃t,mg "MOST_COUNTED" = some (Value.int 5 t)
 lam_:L3.Gs K mg base
structure Cs where
 (MixError NoBounds NoPlace NoSums TooGreat Filling Reach Tally:Addr)
structure Fns(K:PySem.W.Frag)(mg:Str->Option Value)(c:Cs):Prop where
 h_falling:∃f fd,FnAt K mg "falling" gR iC f fd
 h_falling_places:∃f fd,FnAt K mg "falling_places" bQ bR f fd
 h_places_below:∃f fd,FnAt K mg "places_below" bT bM f fd
 h_less_row:∃f fd,FnAt K mg "less_row" fi eK f fd
 h_heads_of:∃f fd,FnAt K mg "heads_of" fH gF f fd
 h_first_head_above:∃f fd,FnAt K mg "first_head_above" bC bP f fd
 h_is_place:∃f fd,FnAt K mg "is_place" fN gD f fd
 h_copied_table:∃f fd,FnAt K mg "copied_table" b7 cF f fd
 h_sums_of_rows:∃f fd,FnAt K mg "sums_of_rows" b8 cJ f fd
 h_sums_of_columns:∃f fd,FnAt K mg "sums_of_columns" bI bW f fd
 h_turned_table:∃f fd,FnAt K mg "turned_table" b9 cK f fd
 h_column_of:∃f fd,FnAt K mg "column_of" d9 fF f fd
 h_table_between:∃f fd,FnAt K mg "table_between" cn cW f fd
 h_check_bounds:∃f fd,FnAt K mg "check_bounds" cm dJ f fd
 h_Filling_init:∃f fd,wk K mg "Filling" c.Filling "Filling.__init__" cI dF f fd
 h_Filling_outcome:∃f fd,ni K c.Filling "outcome" "Filling.outcome" bH bX f fd
 h_Filling_pour:∃f fd,ni K c.Filling "pour" "Filling.pour" bZ dH f fd
 h_Filling_slack:∃f fd,ni K c.Filling "slack" "Filling.slack" cq cV f fd
 h_Reach_init:∃f fd,wk K mg "Reach" c.Reach "Reach.__init__" d8 fj f fd
 h_Reach_way:∃f fd,ni K c.Reach "way" "Reach.way" eY fP f fd
 h_ways_up:∃f fd,FnAt K mg "ways_up" gh iM f fd
 h_spread:∃f fd,FnAt K mg "spread" iU jM f fd
 h_first_with_room:∃f fd,FnAt K mg "first_with_room" br bV f fd
 h_heap_of:∃f fd,FnAt K mg "heap_of" gg iA f fd
 h_how_many_reach:∃f fd,FnAt K mg "how_many_reach" bF cz f fd
 h_ones_with:∃f fd,FnAt K mg "ones_with" eZ fZ f fd
 h_filled_table:∃f fd,FnAt K mg "filled_table" cH dG f fd
 h_row_of_ones:∃f fd,FnAt K mg "row_of_ones" cC eN f fd
 h_fate_of:∃f fd,FnAt K mg "fate_of" gU iH f fd
 h_full_table:∃f fd,FnAt K mg "full_table" dn ff f fd
 h_turned_cell:∃f fd,FnAt K mg "turned_cell" dA eL f fd
 h_check_size:∃f fd,FnAt K mg "check_size" eA eD f fd
 h_Tally_init:∃f fd,wk K mg "Tally" c.Tally "Tally.__init__" cZ eB f fd
 h_Tally_ways:∃f fd,ni K c.Tally "ways" "Tally.ways" cD bO f fd
 h_lines_with:∃f fd,FnAt K mg "lines_with" dq d7 f fd
 h_all_lines:∃f fd,FnAt K mg "all_lines" dy fM f fd
 h_count_of:∃f fd,FnAt K mg "count_of" fG gJ f fd
 h_shares_of:∃f fd,FnAt K mg "shares_of" eF fV f fd
 h_shares_in_row:∃f fd,FnAt K mg "shares_in_row" bN cQ f fd
 h_law_fold:∃f fd,FnAt K mg "_law_fold" fS gN f fd
 h_law_ones:∃f fd,FnAt K mg "_law_ones" eO gI f fd
 h_law_sums:∃f fd,FnAt K mg "_law_sums" cX gQ f fd
 h_law_whole:∃f fd,FnAt K mg "_law_whole" eW fL f fd
 h_law_word:∃f fd,FnAt K mg "_law_word" fW gE f fd
 h_law_due:∃f fd,FnAt K mg "_law_due" gX iF f fd
 h_law_digits:∃f fd,FnAt K mg "_law_digits" eC fg f fd
 h_law_drawn:∃f fd,FnAt K mg "_law_drawn" eX fK f fd
 h_law:∃f fd,FnAt K mg "law" mO rT f fd
structure Exs(K:PySem.W.Frag)(mg:Str->Option Value)(base:Heap)(c:Cs):Prop where
 m_MixError:mg "MixError" = some (.ref c.MixError)
 m_NoBounds:mg "NoBounds" = some (.ref c.NoBounds)
 m_NoPlace:mg "NoPlace" = some (.ref c.NoPlace)
 m_NoSums:mg "NoSums" = some (.ref c.NoSums)
 m_TooGreat:mg "TooGreat" = some (.ref c.TooGreat)
 m_Filling:mg "Filling" = some (.ref c.Filling)
 m_Reach:mg "Reach" = some (.ref c.Reach)
 m_Tally:mg "Tally" = some (.ref c.Tally)
 i_Filling:KH K c.Filling
 n_Filling_low:bU K c.Filling "low"
 n_Filling_high:bU K c.Filling "high"
 n_Filling_table:bU K c.Filling "table"
 n_Filling_wants:bU K c.Filling "wants"
 n_Filling_rooms:bU K c.Filling "rooms"
 i_Reach:KH K c.Reach
 n_Reach_rows:bU K c.Reach "rows"
 n_Reach_columns:bU K c.Reach "columns"
 n_Reach_goal:bU K c.Reach "goal"
 i_Tally:KH K c.Tally
 n_Tally_choices:bU K c.Tally "choices"
 n_Tally_known:bU K c.Tally "known"
 o_MixError:eI base c.MixError []
 o_NoBounds:eI base c.NoBounds [c.MixError]
 k_NoBounds:PySem.W.G3 K c.NoBounds
 o_NoPlace:eI base c.NoPlace [c.MixError]
 k_NoPlace:PySem.W.G3 K c.NoPlace
 o_NoSums:eI base c.NoSums [c.MixError]
 k_NoSums:PySem.W.G3 K c.NoSums
 o_TooGreat:eI base c.TooGreat [c.MixError]
 k_TooGreat:PySem.W.G3 K c.TooGreat
section
variable {P:Program}{w:World}{K:PySem.W.Frag}{mg:Str->Option Value}{base:Heap}
def jx:DSp:=fun ds P=>∃ns,ds=[dI ns]/\ns.length<64/\P (dI (tZ ns))
def xJ:bE jx:=by
 intro xs P P' k h
 unfold jx at h ⊢
 grind
def yw:∀ds P,jx ds P->ds.length=1:=by
 intro ds P h
 obtain ⟨_,e,_⟩:=h
 rw[e];rfl
def AW{c:Cs}{f:Addr}{fd:FuncData}(F:FnAt K mg "falling" gR iC f fd)(A_:Fns K mg c)(T:Txt K mg base)(xs:Exs K mg base c):aI P w K mg base CX0 1 f fd iC (spP K jx):=by
 refine F.fn.ok AV (fun vs H Q E h=>bc yw h) (fun cdv A outer s H vs Q E hr h=>?_)
 refine⟨_,(ar (aM (CP (qT (K:=K) rfl) (by rfl) T.sorted_ boot_sorted (aa (pv 0) aj) (A9 BW FZ)))),bz (Γn:=[]) (N:=pI) (aO (M:=[]) (wA (ai (ES.er (af 0)) aq))) (fun ds P hS=>?_) h⟩
 obtain ⟨ns,rfl,hl,hP⟩:=hS
 rw[show aL pI [dI ns]=[some (dI ns)] from rfl]
 walk_at "v"
 refine⟨hl,fun ms hp ho=>?_⟩
 rw[qW hp ho]
 exact hP
def cy:DSp:=fun ds P=>∃ns:List Int,ds=[dI ns]/\ns.length<64/\∀ms:List Int,ms.Perm (kK ns.length)->ms.Pairwise (fun a b=>ns.getD b.toNat 0<=ns.getD a.toNat 0)->P (dI ms)
def jh:bE cy:=by
 intro xs P P' k h
 obtain ⟨ns,e,Tx,h⟩:=h
 exact⟨ns,e,Tx,fun ms h1 h2=>k _ (h ms h1 h2)⟩
def nU:∀ds P,cy ds P->ds.length=1:=by
 intro ds P h
 obtain ⟨_,e,_⟩:=h
 rw[e];rfl
def j9{c:Cs}{f:Addr}{fd:FuncData}(F:FnAt K mg "falling_places" bQ bR f fd)(A_:Fns K mg c)(T:Txt K mg base)(xs:Exs K mg base c):aI P w K mg base CX0 1 f fd bR (spP K cy):=by
 obtain ⟨c_,X1,Yd,UD⟩:=T.lam_.of F
 refine L3.Fun.okL F.fn X1 pk (fun vs H Q E h=>bc nU h) (fun A outer s H vs Q E hr h=>?_)
 refine⟨_,(ar (aM (zN (K:=K) (i:=0) (cr:=s.heap.objs.size+1) rfl rfl rfl T.sorted_ rfl T.range_ (ax (aK (K:=K) rfl) (by rfl) T.len_ Mn (aa (pv 0) aj)) (fun σ H Q a xs e hS q=>⟨_,e,_,_,rfl,.inl hS,q⟩) rfl (Or.inr (Or.inl rfl)) rfl rfl (by have:=hr.dp;show _<_;exact Nat.lt_of_le_of_lt (Mq (Nat.le_add_right _ _) (Nat.le_add_right _ _)) this) rfl rfl Yd rfl rfl UD (fun _ _ _ _=>rfl) rfl rfl (by decide +kernel) rfl rfl rfl (by decide) (by decide) (by decide)))),bz (Γn:=[]) (N:=iK) (aO (M:=[]) (Ai 0)) (fun ds P hS=>?_) h⟩
 obtain ⟨ns,rfl,hl,hP⟩:=hS
 rw[show aL iK [dI ns]=[some (dI ns)] from rfl]
 walk_at "v"
 exact⟨ns,rfl,hl,hP⟩
def cg(one other:List Int):List Nat:=(List.range one.length).filter fun p=>decide (one.getD p 0<other.getD p 0)
def bp:DSp:=fun ds P=>∃one other,ds=[dI one,dI other]/\one.length<=1000/\one.length=other.length/\P (dI ((cg one other).map fun (p:Nat)=>(p:Int)))
def fB:bE bp:=by
 intro xs P P' k h
 unfold bp at h ⊢
 grind
def pY:∀ds P,bp ds P->ds.length=2:=by
 intro ds P h
 obtain ⟨_,_,e,_⟩:=h
 rw[e];rfl
def gB{c:Cs}{f:Addr}{fd:FuncData}(F:FnAt K mg "places_below" bT bM f fd)(A_:Fns K mg c)(T:Txt K mg base)(xs:Exs K mg base c):aI P w K mg base CX0 1 f fd bM (spP K bp):=by
 refine F.fn.ok qB (fun vs H Q E h=>bc pY h) (fun cdv A outer s H vs Q E hr h=>?_)
 refine⟨_,(ar (aM (rj rfl (aH.of (sc0:=(ak bT)) (tn:=["place"]) (cap:=["one","other"]) (idx:=[0,1]) (by decide +kernel) rfl rfl) (bJ rfl T.range_ (aa (ax (aK (K:=K) rfl) (by rfl) T.len_ Mn (aa (pv 0) aj)) aj)) (gi.name (by decide)) (fun _ _ _ _ _=>aT (i:=0) (aN (l:=["place","one","other"]) (by decide +kernel)) rfl (by walk_at "o") (by first|exact .inl rfl|exact .inr rfl)) (fun _ _ _ _ _=>rh (bf yR (aP (az (K:=K) rfl) (pv 1) (pv 0) (fun _ _=>rfl)) (aP (az (K:=K) rfl) (pv 2) (pv 0) (fun _ _=>rfl)) (bu _))) (fun _ _ _ _ _=>(pv 0)) (by intro _;rfl)))),bz (Γn:=[]) (N:=jE) (aO (M:=[]) (rd (dP (ai (EM.er (aW cO (ai (ES.er (af 0)) aq))) aq)) (aU 0) (aY (EM.er (aA pH (ES.er (bb (af 1) (ES.er (af 0)))) (ES.er (bb (af 2) (ES.er (af 0))))))) (ER.bg (ES.er (af 0))))) (fun ds P hS=>?_) h⟩
 obtain ⟨one,other,rfl,hl,he,hP⟩:=hS
 rw[show aL jE [dI one,dI other]=[some (dI one),some (dI other)] from rfl]
 walk_at "v"
 refine De (lo:=0) (n:=one.length) (p:=fun p=>decide (one.getD p 0<other.getD p 0)) (g:=fun (p:Nat)=>.int (p:Int)) (fun R h=>?_) hl (fun i hi R h=>?_) ?_
 .walk_at "go";exact h
 .walk_at "gb"
  rw[Na]
  refine bo (by omega) (bo (by omega) ?_)
  walk_at "gb"
  split
  .rename_i c
   rw[decide_eq_true c] at h
   exact h
  .rename_i c
   rw[decide_eq_false c] at h
   exact h
 .rw[kf];exact hP
def kX(ns:List Int):List Int:=(List.range ns.length).map fun (i:Nat)=>Maj.iu ns (i+1)
def lg{ns:List Int}:(kX ns).length=ns.length:=by unfold kX;rw[ox,Md]
def u5{ns:List Int}{i:Nat}(h:i<ns.length):(kX ns).getD i 0=Maj.iu ns (i+1):=by
 unfold kX
 rw[gV,L9,MK h];rfl
def gM:DSp:=fun ds P=>∃ns,ds=[dI ns]/\ns.length<64/\P (dI (kX ns))
def nz:bE gM:=by
 intro xs P P' k h
 unfold gM at h ⊢
 grind
def xt:∀ds P,gM ds P->ds.length=1:=by
 intro ds P h
 obtain ⟨_,e,_⟩:=h
 rw[e];rfl
def yu{c:Cs}{f:Addr}{fd:FuncData}(F:FnAt K mg "heads_of" fH gF f fd)(A_:Fns K mg c)(T:Txt K mg base)(xs:Exs K mg base c):aI P w K mg base CX0 2 f fd gF (spP K gM):=by
 obtain ⟨f0,d0,Pm⟩:=A_.h_falling
 have S4:aI P w K mg base CX0 1 f0 d0 iC (spP K jx):=AW Pm A_ T xs
 refine F.fn.ok iT (fun vs H Q E h=>bc xt h) (fun cdv A outer s H vs Q E hr h=>?_)
 refine⟨_,(ao (aR (i:=1) iT.nd rfl (by walk_at "o") (cS aj)) (ao (aR (i:=2) iT.nd rfl (by walk_at "o") au) (ao (i7 PassesOwn.never rfl (bS (K:=K) rfl (aB S4 (hr.mono (by decide)) rfl Pm.mg Pm.fn.kp Pm.bd .nil aZ (aa (pv 0) aj))) (aT (i:=3) iT.nd rfl (by walk_at "o")) (ao (aR (i:=2) iT.nd rfl (by walk_at "o") (aS fA (pv 2) (pv 3))) (ar (iO (rS Nk NF ND js (pv 1) (aa (pv 2) aj)))))) (ar (aM (pv 1)))))),bz (Γn:=[1]) (N:=nS) (ay (ST.post (Γn:=[1]) (eh (M:=[]) 1 (dw bw))) (ay (ST.post (Γn:=[1]) (bh 2 (EM.es av))) (ay (jf (dm (EM.es (aJ (S:=jx) xJ (ai (ES.er (af 0)) aq)))) (aU 3) (ay (ST.post (Γn:=[1]) (bh 2 (EM.es (aA dS (ES.er (af 2)) (ES.er (af 3)))))) (ST.post (Γn:=[1]) (jt (M:=[]) 1 (ER.bg (ES.er (af 2))))))) (aO (M:=[1]) (jH 1))))) (fun ds P hS=>?_) h⟩
 obtain ⟨ns,rfl,hl,hP⟩:=hS
 rw[show aL nS [dI ns]=[some (dI ns),none,none,none] from rfl]
 walk_at "go"
 refine⟨ns,rfl,hl,?_⟩
 walk_at "v"
 have RJ:=qx ns
 refine iV (as:=tZ ns) (f:=L3.D.int) (fun i δ=>∃o3:Option D,δ=[some (dI ns),some (dI ((List.range i).map fun (j:Nat)=>Maj.iu ns (j+1))),some (.int (Maj.iu ns i)),o3]) ⟨none,rfl⟩ ?_ ?_
 .rintro i a δ N e ⟨o3,rfl⟩ hN
  obtain ⟨h1,h2⟩:=L7.mp e
  have et:Maj.iu ns i+a=Maj.iu ns (i+1):=by
   unfold Maj.iu
   rw[List.take_add_one,e,Oy];simp
  walk_at "go"
  rw[et,v8]
  have er:(List.range (i+1)).map (fun (j:Nat)=>Maj.iu ns (j+1))=(List.range i).map (fun (j:Nat)=>Maj.iu ns (j+1))++[Maj.iu ns (i+1)]:=by rw[List.range_succ,Mr];rfl
  exact⟨by rw[Md];omega,hN _ ⟨some (.int a),by rw[er]⟩⟩
 .rintro δ ⟨o3,rfl⟩
  walk_at "v"
  rw[RJ]
  exact hP
def JA(one other:List Int):D:=match Maj.above one other with|[]=>.non|p::_=>.int ((p:Int)+1)
def zC{one other:List Int}(h:one.length=other.length):cg (kX other) (kX one)=Maj.above one other:=by
 unfold cg Maj.above
 rw[lg,h]
 refine List.filter_congr fun p hp=>?_
 have:=Ms.mp hp
 rw[u5 (by omega),u5 (by omega)]
def cA:DSp:=fun ds P=>∃one other,ds=[dI one,dI other]/\one.length<64/\one.length=other.length/\P (JA one other)
def lW:bE cA:=by
 intro xs P P' k h
 unfold cA at h ⊢
 grind
def lX:∀ds P,cA ds P->ds.length=2:=by
 intro ds P h
 obtain ⟨_,_,e,_⟩:=h
 rw[e];rfl
def nk{c:Cs}{f:Addr}{fd:FuncData}(F:FnAt K mg "first_head_above" bC bP f fd)(A_:Fns K mg c)(T:Txt K mg base)(xs:Exs K mg base c):aI P w K mg base CX0 3 f fd bP (spP K cA):=by
 obtain ⟨f0,d0,ME⟩:=A_.h_places_below
 have Nz:aI P w K mg base CX0 1 f0 d0 bM (spP K bp):=gB ME A_ T xs
 obtain ⟨f1,d1,N3⟩:=A_.h_heads_of
 have P8:aI P w K mg base CX0 2 f1 d1 gF (spP K gM):=yu N3 A_ T xs
 refine F.fn.ok ji (fun vs H Q E h=>bc lX h) (fun cdv A outer s H vs Q E hr h=>?_)
 refine⟨_,(ao (aR (i:=2) ji.nd rfl (by walk_at "o") (aB Nz (hr.mono (by decide)) rfl ME.mg ME.fn.kp ME.bd .nil aZ (aa (aB P8 (hr.mono (by decide)) rfl N3.mg N3.fn.kp N3.bd .nil aZ (aa (pv 1) aj)) (aa (aB P8 (hr.mono (by decide)) rfl N3.mg N3.fn.kp N3.bd .nil aZ (aa (pv 0) aj)) aj)))) (ao (eS (bf (J9 hr.units) (pv 2) (cS aj) (bu _)) (ar (aM jG)) bt) (ar (aM (aS fA (aP (az (K:=K) rfl) (pv 2) au (fun _ _=>rfl)) au))))),bz (Γn:=[]) (N:=gP) (ay (ST.post (Γn:=[]) (bh 2 (EM.es (aJ (S:=bp) fB (ai (EM.er (aJ (S:=gM) nz (ai (ES.er (af 1)) aq))) (ai (EM.er (aJ (S:=gM) nz (ai (ES.er (af 0)) aq))) aq)))))) (ay (gn (aY (EM.er (aA Lv (ES.er (af 2)) (EM.er (dw bw))))) (aO (M:=[]) j3) bA) (aO (M:=[]) (aA dS (ES.er (bb (af 2) (EM.er av))) (EM.er av))))) (fun ds P hS=>?_) h⟩
 obtain ⟨one,other,rfl,hl,he,hP⟩:=hS
 rw[show aL gP [dI one,dI other]=[some (dI one),some (dI other),none] from rfl]
 walk_at "v"
 refine⟨other,rfl,by omega,⟨one,rfl,hl,?_⟩⟩
 refine⟨kX other,kX one,rfl,by rw[lg];omega,by rw[lg,lg,he],?_⟩
 rw[zC he]
 unfold JA at hP
 walk_at "go"
 refine kU (ys:=[]) ?_
 walk_at "v"
 cases e:Maj.above one other with
 |nil =>
  rw[e] at hP
  rw[if_pos (by rfl)]
  exact hP
 |cons p ps =>
  rw[e] at hP
  rw[if_neg (by simp)]
  walk_at "v"
  rw[Mb,Mb]
  walk_at "v"
  exact hP
def cx:DSp:=fun ds P=>∃one other:List Int,ds=[dI one,dI other]/\one.length=other.length/\one.length<=1000/\P (dI ((List.range one.length).map fun (i:Nat)=>one.getD i 0 - other.getD i 0))
def gu:bE cx:=by
 intro xs P P' k h
 unfold cx at h ⊢
 grind
def wW:∀ds P,cx ds P->ds.length=2:=by
 intro ds P h
 obtain ⟨_,_,e,_⟩:=h
 rw[e];rfl
def ke{c:Cs}{f:Addr}{fd:FuncData}(F:FnAt K mg "less_row" fi eK f fd)(A_:Fns K mg c)(T:Txt K mg base)(xs:Exs K mg base c):aI P w K mg base CX0 1 f fd eK (spP K cx):=by
 refine F.fn.ok yb (fun vs H Q E h=>bc wW h) (fun cdv A outer s H vs Q E hr h=>?_)
 refine⟨_,(ar (aM (bK (aH.of (sc0:=(ak fi)) (tn:=["place"]) (cap:=["one","other"]) (idx:=[0,1]) (by decide +kernel) rfl rfl) (bJ rfl T.range_ (aa (ax (aK (K:=K) rfl) (by rfl) T.len_ Mn (aa (pv 0) aj)) aj)) (gi.name (by decide)) (fun _ _ _ _ _=>aT (i:=0) (aN (l:=["place","one","other"]) (by decide +kernel)) rfl (by walk_at "o") (by first|exact .inl rfl|exact .inr rfl)) (fun _ _ _ _ _=>(aS oj (aP (az (K:=K) rfl) (pv 1) (pv 0) (fun _ _=>rfl)) (aP (az (K:=K) rfl) (pv 2) (pv 0) (fun _ _=>rfl))))))),bz (Γn:=[]) (N:=nR) (aO (M:=[]) (bB (dP (ai (EM.er (aW cO (ai (ES.er (af 0)) aq))) aq)) (aU 0) (aA dS (ES.er (bb (af 1) (ES.er (af 0)))) (ES.er (bb (af 2) (ES.er (af 0))))))) (fun ds P hS=>?_) h⟩
 obtain ⟨one,other,rfl,he,hl,hP⟩:=hS
 rw[show aL nR [dI one,dI other]=[some (dI one),some (dI other)] from rfl]
 walk_at "v"
 refine eV (lo:=0) (n:=one.length) (g:=fun (i:Nat)=>.int (one.getD i 0 - other.getD i 0)) (fun R h=>?_) hl (fun i hi R h=>?_) ?_
 .walk_at "go";exact h
 .walk_at "gb"
  rw[Na]
  refine bo (by omega) (bo (by omega) ?_)
  walk_at "gb"
  exact h
 .rw[kf];exact hP
def gK:DSp:=fun ds P=>∃x m,ds=[.int x,.int m]/\P (.bl (decide (0<=x/\x<m)))
def nD:bE gK:=by
 intro xs P P' k h
 unfold gK at h ⊢
 grind
def xp:∀ds P,gK ds P->ds.length=2:=by
 intro ds P h
 obtain ⟨_,_,e,_⟩:=h
 rw[e];rfl
def yL{c:Cs}{f:Addr}{fd:FuncData}(F:FnAt K mg "is_place" fN gD f fd)(A_:Fns K mg c)(T:Txt K mg base)(xs:Exs K mg base c):aI P w K mg base CX0 1 f fd gD (spP K gK):=by
 refine F.fn.ok yc (fun vs H Q E h=>bc xp h) (fun cdv A outer s H vs Q E hr h=>?_)
 refine⟨_,(ar (aM (FD LN yR au (pv 0) (pv 1)))),bz (Γn:=[]) (N:=nG) (aO (M:=[]) (DF pH pH (EM.er av) (ES.er (af 0)) (ES.er (af 1)))) (fun ds P hS=>?_) h⟩
 obtain ⟨x,m,rfl,hP⟩:=hS
 rw[show aL nG [.int x,.int m]=[some (.int x),some (.int m)] from rfl]
 walk_at "v"
 split
 .rename_i c
  have e:decide (0<=x/\x<m)=decide (x<m):=by rw[NQ,decide_eq_true_eq,decide_eq_true_eq];exact⟨fun z=>z.2,fun z=>⟨c,z⟩⟩
  rw[e] at hP
  exact hP
 .rename_i c
  rw[decide_eq_false (fun z=>c z.1)] at hP
  exact hP
def cG:DSp:=fun ds P=>∃t,ds=[dT t]/\t.length<=1000/\P (dT t)
def kd:bE cG:=by
 intro xs P P' k h
 unfold cG at h ⊢
 grind
def qf:∀ds P,cG ds P->ds.length=1:=by
 intro ds P h
 obtain ⟨_,e,_⟩:=h
 rw[e];rfl
def lN{c:Cs}{f:Addr}{fd:FuncData}(F:FnAt K mg "copied_table" b7 cF f fd)(A_:Fns K mg c)(T:Txt K mg base)(xs:Exs K mg base c):aI P w K mg base CX0 1 f fd cF (spP K cG):=by
 refine F.fn.ok qG (fun vs H Q E h=>bc qf h) (fun cdv A outer s H vs Q E hr h=>?_)
 refine⟨_,(ar (aM (bK (aH.of (sc0:=(ak b7)) (tn:=["row"]) (cap:=[]) (idx:=[]) (by decide +kernel) rfl rfl) (bS (K:=K) rfl (pv 0)) (gi.name (by decide)) (fun _ _ _ _ _=>aT (i:=0) (aN (l:=["row"]) (by decide +kernel)) rfl (by walk_at "o") (by first|exact .inl rfl|exact .inr rfl)) (fun _ _ _ _ _=>(gf (fQ (K:=K) rfl) (by rfl) T.list_ boot_list (aa (pv 0) aj)))))),bz (Γn:=[]) (N:=jB) (aO (M:=[]) (bB (dm (af 0)) (aU 0) (aW mG (ai (ES.er (af 0)) aq)))) (fun ds P hS=>?_) h⟩
 obtain ⟨t,rfl,hl,hP⟩:=hS
 rw[show aL jB [dT t]=[some (dT t)] from rfl]
 walk_at "v"
 refine Dc (t:=t) (fun R h=>h) hl (fun r hr R h=>by walk_at "gb";exact h) ?_
 exact hP
def cE:DSp:=fun ds P=>∃t,ds=[dT t]/\t.length<=1000/\P (dI (t.map List.sum))
def km:bE cE:=by
 intro xs P P' k h
 unfold cE at h ⊢
 grind
def p8:∀ds P,cE ds P->ds.length=1:=by
 intro ds P h
 obtain ⟨_,e,_⟩:=h
 rw[e];rfl
def lS{c:Cs}{f:Addr}{fd:FuncData}(F:FnAt K mg "sums_of_rows" b8 cJ f fd)(A_:Fns K mg c)(T:Txt K mg base)(xs:Exs K mg base c):aI P w K mg base CX0 1 f fd cJ (spP K cE):=by
 refine F.fn.ok qH (fun vs H Q E h=>bc p8 h) (fun cdv A outer s H vs Q E hr h=>?_)
 refine⟨_,(ar (aM (bK (aH.of (sc0:=(ak b8)) (tn:=["row"]) (cap:=[]) (idx:=[]) (by decide +kernel) rfl rfl) (bS (K:=K) rfl (pv 0)) (gi.name (by decide)) (fun _ _ _ _ _=>aT (i:=0) (aN (l:=["row"]) (by decide +kernel)) rfl (by walk_at "o") (by first|exact .inl rfl|exact .inr rfl)) (fun _ _ _ _ _=>(ax (eR (K:=K) rfl rfl) (by rfl) T.sum_ boot_sum (aa (pv 0) aj)))))),bz (Γn:=[]) (N:=jS) (aO (M:=[]) (bB (dm (af 0)) (aU 0) (aW mP (ai (ES.er (af 0)) aq)))) (fun ds P hS=>?_) h⟩
 obtain ⟨t,rfl,hl,hP⟩:=hS
 rw[show aL jS [dT t]=[some (dT t)] from rfl]
 walk_at "v"
 refine kW (t:=t) (g:=fun r=>.int r.sum) (fun R h=>h) hl (fun r hr R h=>?_) ?_
 .walk_at "gb"
  exact h
 .rw[kf];exact hP
def gY:DSp:=fun ds P=>∃(t:List (List Int)) (j:Nat),ds=[dT t,.int j]/\t.length<=1000/\(∀r∈t,j<r.length)/\P (dI (qm t j))
def ub:bE gY:=by
 intro xs P P' k h
 unfold gY at h ⊢
 grind
def uP:∀ds P,gY ds P->ds.length=2:=by
 intro ds P h
 obtain ⟨_,_,e,_⟩:=h
 rw[e];rfl
def xB{c:Cs}{f:Addr}{fd:FuncData}(F:FnAt K mg "column_of" d9 fF f fd)(A_:Fns K mg c)(T:Txt K mg base)(xs:Exs K mg base c):aI P w K mg base CX0 1 f fd fF (spP K gY):=by
 refine F.fn.ok xk (fun vs H Q E h=>bc uP h) (fun cdv A outer s H vs Q E hr h=>?_)
 refine⟨_,(ar (aM (bK (aH.of (sc0:=(ak d9)) (tn:=["row"]) (cap:=["place"]) (idx:=[1]) (by decide +kernel) rfl rfl) (bS (K:=K) rfl (pv 0)) (gi.name (by decide)) (fun _ _ _ _ _=>aT (i:=0) (aN (l:=["row","place"]) (by decide +kernel)) rfl (by walk_at "o") (by first|exact .inl rfl|exact .inr rfl)) (fun _ _ _ _ _=>(aP (az (K:=K) rfl) (pv 0) (pv 1) (fun _ _=>rfl)))))),bz (Γn:=[]) (N:=mR) (aO (M:=[]) (bB (dm (af 0)) (aU 0) (ER.bg (ES.er (bb (af 0) (ES.er (af 1))))))) (fun ds P hS=>?_) h⟩
 obtain ⟨t,j,rfl,hl,hj,hP⟩:=hS
 rw[show aL mR [dT t,.int j]=[some (dT t),some (.int j)] from rfl]
 walk_at "v"
 refine kW (t:=t) (g:=fun r=>.int (r.getD j 0)) (fun R h=>h) hl (fun r hr R h=>?_) ?_
 .walk_at "gb"
  have:=hj r hr
  refine bo (by omega) ?_
  rw[Mg]
  exact⟨rfl,h⟩
 .rw[kf];exact hP
def turned(m:Nat)(t:List (List Int)):List (List Int):=(List.range m).map fun (j:Nat)=>qm t j
def cj:DSp:=fun ds P=>∃(t:List (List Int)) (n m:Nat),ds=[dT t]/\cT n m t/\1<=n/\n<=1000/\m<=1000/\P (dT (turned m t))
def ig:bE cj:=by
 intro xs P P' k h
 unfold cj at h ⊢
 grind
def pE:∀ds P,cj ds P->ds.length=1:=by
 intro ds P h
 obtain ⟨_,_,_,e,_⟩:=h
 rw[e];rfl
def lL{c:Cs}{f:Addr}{fd:FuncData}(F:FnAt K mg "turned_table" b9 cK f fd)(A_:Fns K mg c)(T:Txt K mg base)(xs:Exs K mg base c):aI P w K mg base CX0 2 f fd cK (spP K cj):=by
 obtain ⟨f0,d0,OP⟩:=A_.h_column_of
 have RF:aI P w K mg base CX0 1 f0 d0 fF (spP K gY):=xB OP A_ T xs
 refine F.fn.ok qU (fun vs H Q E h=>bc pE h) (fun cdv A outer s H vs Q E hr h=>?_)
 refine⟨_,(ar (aM (bK (aH.of (sc0:=(ak b9)) (tn:=["place"]) (cap:=["table"]) (idx:=[0]) (by decide +kernel) rfl rfl) (bJ rfl T.range_ (aa (ax (aK (K:=K) rfl) (by rfl) T.len_ Mn (aa (aP (az (K:=K) rfl) (pv 0) au (fun _ _=>rfl)) aj)) aj)) (gi.name (by decide)) (fun _ _ _ _ _=>aT (i:=0) (aN (l:=["place","table"]) (by decide +kernel)) rfl (by walk_at "o") (by first|exact .inl rfl|exact .inr rfl)) (fun _ _ _ _ _=>(aB RF (hr.mono (by decide)) rfl OP.mg OP.fn.kp OP.bd .nil aZ (aa (pv 1) (aa (pv 0) aj))))))),bz (Γn:=[]) (N:=jX) (aO (M:=[]) (bB (dP (ai (EM.er (aW cO (ai (ES.er (bb (af 0) (EM.er av))) aq))) aq)) (aU 0) (aJ (S:=gY) ub (ai (ES.er (af 1)) (ai (ES.er (af 0)) aq))))) (fun ds P hS=>?_) h⟩
 obtain ⟨t,n,m,rfl,hR,hn,SK,hm,hP⟩:=hS
 rw[show aL jX [dT t]=[some (dT t)] from rfl]
 have ht:=hR.1
 have h0:=hR.row (i:=0) (by omega)
 walk_at "v"
 refine eV (lo:=0) (n:=m) (g:=fun (j:Nat)=>dI (qm t j)) (fun R h=>?_) hm (fun j hj R h=>?_) ?_
 .walk_at "v"
  refine ia (by omega) ?_
  walk_at "v"
  rw[h0]
  exact⟨by omega,h⟩
 .walk_at "gb"
  rw[Na]
  exact⟨t,j,rfl,by omega,fun r hr=>by rw[hR.2 r hr];exact hj,h⟩
 .rw[Gi];exact hP
def cN:DSp:=fun ds P=>∃(t:List (List Int)) (n m:Nat),ds=[dT t]/\cT n m t/\1<=n/\n<=1000/\m<=1000/\P (dI ((turned m t).map List.sum))
def mz:bE cN:=by
 intro xs P P' k h
 unfold cN at h ⊢
 grind
def m9:∀ds P,cN ds P->ds.length=1:=by
 intro ds P h
 obtain ⟨_,_,_,e,_⟩:=h
 rw[e];rfl
def oo{c:Cs}{f:Addr}{fd:FuncData}(F:FnAt K mg "sums_of_columns" bI bW f fd)(A_:Fns K mg c)(T:Txt K mg base)(xs:Exs K mg base c):aI P w K mg base CX0 3 f fd bW (spP K cN):=by
 obtain ⟨f0,d0,Ng⟩:=A_.h_sums_of_rows
 have OF:aI P w K mg base CX0 1 f0 d0 cJ (spP K cE):=lS Ng A_ T xs
 obtain ⟨f1,d1,MW⟩:=A_.h_turned_table
 have N8:aI P w K mg base CX0 2 f1 d1 cK (spP K cj):=lL MW A_ T xs
 refine F.fn.ok nQ (fun vs H Q E h=>bc m9 h) (fun cdv A outer s H vs Q E hr h=>?_)
 refine⟨_,(ar (aM (aB OF (hr.mono (by decide)) rfl Ng.mg Ng.fn.kp Ng.bd .nil aZ (aa (aB N8 (hr.mono (by decide)) rfl MW.mg MW.fn.kp MW.bd .nil aZ (aa (pv 0) aj)) aj)))),bz (Γn:=[]) (N:=ip) (aO (M:=[]) (aJ (S:=cE) km (ai (EM.er (aJ (S:=cj) ig (ai (ES.er (af 0)) aq))) aq))) (fun ds P hS=>?_) h⟩
 obtain ⟨t,n,m,rfl,hR,hn,SK,hm,hP⟩:=hS
 rw[show aL ip [dT t]=[some (dT t)] from rfl]
 walk_at "v"
 refine⟨t,n,m,rfl,hR,hn,SK,hm,?_⟩
 exact⟨turned m t,rfl,by unfold turned;rw[ox,Md];exact hm,hP⟩
def Low(n m:Nat)(low high:List (List Int)):Prop:=∀i j,i<n->j<m->cellAt low i j<=cellAt high i j
def vM{a b:List Int}:cg a b=[]↔∀j,j<a.length->b.getD j 0<=a.getD j 0:=by
 unfold cg
 rw[OV]
 refine⟨fun h j hj=>?_,fun h j hj=>?_⟩
 .have:=h j (Ms.mpr hj)
  simp at this
  exact this
 .have:=h j (Ms.mp hj)
  simp
  exact this
def ib(c:Cs):DSX:=fun ds P R=>∃(low high:List (List Int)) (n m:Nat),ds=[dT low,dT high]/\cT n m low/\cT n m high/\n<=50/\m<=50/\(Low n m low high->P .non)/\(¬ Low n m low high->R c.NoBounds)
def pf{c:Cs}:ja (ib c):=by
 intro xs P P' R R' k kr h
 obtain ⟨a,b,n,m,e,h1,h2,h3,h4,h5,h6⟩:=h
 exact⟨a,b,n,m,e,h1,h2,h3,h4,fun z=>k _ (h5 z),fun z=>kr _ (h6 z)⟩
def p6{c:Cs}:∀ds P R,ib c ds P R->ds.length=2:=by
 intro ds P R h
 obtain ⟨_,_,_,_,e,_⟩:=h
 rw[e];rfl
def qD{c:Cs}{f:Addr}{fd:FuncData}(F:FnAt K mg "check_bounds" cm dJ f fd)(A_:Fns K mg c)(T:Txt K mg base)(xs:Exs K mg base c):aI P w K mg base (CXR P w) 2 f fd dJ (spX K (ib c)):=by
 obtain ⟨f0,d0,ME⟩:=A_.h_places_below
 have Nz:aI P w K mg base CX0 1 f0 d0 bM (spP K bp):=gB ME A_ T xs
 refine F.fn.okX qP (fun vs H Q E h=>m4 p6 h) (fun cdv A outer s H vs Q E hr h=>?_)
 refine⟨_,(ao (eS (PT.nox (rQ (ax (Dx (K:=K) rfl rfl) (by rfl) T.any_ boot_any (aa (bK (aH.of (sc0:=(ak cm)) (tn:=["row"]) (cap:=["low","high"]) (idx:=[0,1]) (by decide +kernel) rfl rfl) (bJ rfl T.range_ (aa (ax (aK (K:=K) rfl) (by rfl) T.len_ Mn (aa (pv 0) aj)) aj)) (gi.name (by decide)) (fun _ _ _ _ _=>aT (i:=0) (aN (l:=["row","low","high"]) (by decide +kernel)) rfl (by walk_at "o") (by first|exact .inl rfl|exact .inr rfl)) (fun _ _ _ _ _=>(HJ (sO hr.units) (aB Nz (hr.mono (by decide)) rfl ME.mg ME.fn.kp ME.bd .nil aZ (aa (aP (az (K:=K) rfl) (pv 2) (pv 0) (fun _ _=>rfl)) (aa (aP (az (K:=K) rfl) (pv 1) (pv 0) (fun _ _=>rfl)) aj))) (cS aj) (bu _)))) aj)))) (ar (oC (xs.o_NoBounds.own xs.m_NoBounds) Oe rfl rfl qX (aa dX aj))) bt)
   bt),mS (Γn:=[]) (N:=jz) (fun R=>(i8 (Cr (Du (EM.er (aW JZ (ai (EM.er (bB (dP (ai (EM.er (aW cO (ai (ES.er (af 0)) aq))) aq)) (aU 0) (aA x6 (EM.er (aJ (S:=bp) fB (ai (ES.er (bb (af 2) (ES.er (af 0)))) (ai (ES.er (bb (af 1) (ES.er (af 0)))) aq)))) (EM.er (dw bw))))) aq)))) (o7 (ai (EM.er dW) aq)) (ST.sx bA)) (ST.sx bA))) (fun ds P R hS=>?_) h⟩
 obtain ⟨low,high,n,m,rfl,hL,hH,n5,m5,hP,hR⟩:=hS
 rw[show aL jz [dT low,dT high]=[some (dT low),some (dT high)] from rfl]
 have l1:=hL.1
 have l2:=hH.1
 walk_at "go"
 refine eV (lo:=0) (n:=n) (g:=fun (i:Nat)=>.bl (decide (cg (rowAt high i) (rowAt low i)≠[]))) (fun R h=>?_) (by omega) (fun i hi R h=>?_) ?_
 .walk_at "go"
  rw[l1]
  exact h
 .walk_at "gb"
  rw[Na]
  have r1:=hL.row hi
  have r2:=hH.row hi
  refine ia (by omega) (ia (by omega) ?_)
  rw[Mg]
  refine⟨_,_,rfl,by omega,by omega,?_⟩
  walk_at "gb"
  refine kU (xs:=(cg (rowAt high i) (rowAt low i)).map fun (p:Nat)=>(p:Int)) (ys:=[]) ?_
  have e:decide ((cg (rowAt high i) (rowAt low i)).map (fun (p:Nat)=>(p:Int))=[])=decide (cg (rowAt high i) (rowAt low i)=[]):=by
   rw[NQ,decide_eq_true_eq,decide_eq_true_eq,List.map_eq_nil_iff]
  rw[decide_not] at h
  rw[e]
  exact h
 rw[show (List.range n).map (fun (i:Nat)=>L3.D.bl (decide (cg (rowAt high i) (rowAt low i)≠[])))=((List.range n).map fun (i:Nat)=>decide (cg (rowAt high i) (rowAt low i)≠[])).map L3.D.bl by rw[Mp];rfl]
 walk_at "go"
 have key:(((List.range n).map fun (i:Nat)=>decide (cg (rowAt high i) (rowAt low i)≠[])).any id=true)↔¬ Low n m low high:=by
  rw[List.any_eq_true]
  refine⟨fun ⟨b,hb,e⟩ SN=>?_,fun h=>?_⟩
  .obtain ⟨i,hi,rfl⟩:=Ma.mp hb
   have hi:=Ms.mp hi
   have e:cg (rowAt high i) (rowAt low i)≠[]:=by simpa using e
   exact e (vM.mpr fun j hj=>SN i j hi (by rw[hH.row hi] at hj;exact hj))
  .refine Classical.byContradiction fun hn=>h fun i j hi hj=>?_
   have:cg (rowAt high i) (rowAt low i)=[]:=Classical.byContradiction fun z=>hn ⟨true,Ma.mpr ⟨i,Ms.mpr hi,decide_eq_true z⟩,rfl⟩
   exact vM.mp this j (by rw[hH.row hi];exact hj)
 by_cases SN:Low n m low high
 .have e:((List.range n).map fun (i:Nat)=>decide (cg (rowAt high i) (rowAt low i)≠[])).any id=false:=by
   cases q:((List.range n).map fun (i:Nat)=>decide (cg (rowAt high i) (rowAt low i)≠[])).any id with
   |false=>rfl
   |true=>exact absurd SN (key.mp q)
  rw[e]
  walk_at "go"
  exact hP SN
 .rw[key.mpr SN]
  walk_at "go"
  exact hR SN
abbrev dN(rs:List Nat):D:=dI (rs.map fun (r:Nat)=>(r:Int))
abbrev nT(ws:List (List Nat)):List (List Int):=ws.map fun l=>l.map fun (x:Nat)=>(x:Int)
def upL(n:Nat)(a b:List (List Int)):List (List Nat):=(List.range n).map fun p=>cg (rowAt a p) (rowAt b p)
def iB:DSp:=fun ds P=>∃(a b:List (List Int)) (n m:Nat),ds=[dT a,dT b]/\cT n m a/\cT n m b/\n<=50/\m<=50/\P (dT (nT (upL n a b)))
def oq:bE iB:=by
 intro xs P P' k h
 unfold iB at h ⊢
 grind
def yN:∀ds P,iB ds P->ds.length=2:=by
 intro ds P h
 obtain ⟨_,_,_,_,e,_⟩:=h
 rw[e];rfl
def AJ{c:Cs}{f:Addr}{fd:FuncData}(F:FnAt K mg "ways_up" gh iM f fd)(A_:Fns K mg c)(T:Txt K mg base)(xs:Exs K mg base c):aI P w K mg base CX0 2 f fd iM (spP K iB):=by
 obtain ⟨f0,d0,ME⟩:=A_.h_places_below
 have Nz:aI P w K mg base CX0 1 f0 d0 bM (spP K bp):=gB ME A_ T xs
 refine F.fn.ok Ac (fun vs H Q E h=>bc yN h) (fun cdv A outer s H vs Q E hr h=>?_)
 refine⟨_,(ar (aM (bK (aH.of (sc0:=(ak gh)) (tn:=["place"]) (cap:=["lesser","greater"]) (idx:=[0,1]) (by decide +kernel) rfl rfl) (bJ rfl T.range_ (aa (ax (aK (K:=K) rfl) (by rfl) T.len_ Mn (aa (pv 0) aj)) aj)) (gi.name (by decide)) (fun _ _ _ _ _=>aT (i:=0) (aN (l:=["place","lesser","greater"]) (by decide +kernel)) rfl (by walk_at "o") (by first|exact .inl rfl|exact .inr rfl)) (fun _ _ _ _ _=>(aB Nz (hr.mono (by decide)) rfl ME.mg ME.fn.kp ME.bd .nil aZ (aa (aP (az (K:=K) rfl) (pv 1) (pv 0) (fun _ _=>rfl)) (aa (aP (az (K:=K) rfl) (pv 2) (pv 0) (fun _ _=>rfl)) aj))))))),bz (Γn:=[]) (N:=pN) (aO (M:=[]) (bB (dP (ai (EM.er (aW cO (ai (ES.er (af 0)) aq))) aq)) (aU 0) (aJ (S:=bp) fB (ai (ES.er (bb (af 1) (ES.er (af 0)))) (ai (ES.er (bb (af 2) (ES.er (af 0)))) aq))))) (fun ds P hS=>?_) h⟩
 obtain ⟨a,b,n,m,rfl,hA,hB,n5,m5,hP⟩:=hS
 rw[show aL pN [dT a,dT b]=[some (dT a),some (dT b)] from rfl]
 have l1:=hA.1
 have l2:=hB.1
 walk_at "go"
 refine eV (lo:=0) (n:=n) (g:=fun (i:Nat)=>dN (cg (rowAt a i) (rowAt b i))) (fun R h=>?_) (by omega) (fun i hi R h=>?_) ?_
 .walk_at "go"
  rw[l1]
  exact h
 .walk_at "gb"
  rw[Na]
  have r1:=hA.row hi
  have r2:=hB.row hi
  refine ia (by omega) (ia (by omega) ?_)
  rw[Mg]
  exact⟨_,_,rfl,by omega,by omega,h⟩
 unfold nT upL at hP
 rw[Mp,show (dT ((List.range n).map ((fun l=>l.map fun (x:Nat)=>(x:Int)) ∘ fun p=>cg (rowAt a p) (rowAt b p))))=L3.D.lst ((List.range n).map fun (i:Nat)=>dN (cg (rowAt a i) (rowAt b i))) by show L3.D.lst (List.map dI _)=_;rw[Mp];rfl] at hP
 exact hP
def ee:DSp:=fun ds P=>∃(cs:List Nat) (r:List Int),ds=[dN cs,dI r]/\cs.length<=100/\(∀c∈cs,c<r.length)/\(∀c∈cs,0<r.getD c 0->P (.int (c:Int)))/\((∀c∈cs,¬ 0<r.getD c 0)->P .non)
def lY:bE ee:=by
 intro xs P P' k h
 obtain ⟨a,b,e,h1,h2,h3,h4⟩:=h
 exact⟨a,b,e,h1,h2,fun c z y=>k _ (h3 c z y),fun z=>k _ (h4 z)⟩
def m6:∀ds P,ee ds P->ds.length=2:=by
 intro ds P h
 obtain ⟨_,_,e,_⟩:=h
 rw[e];rfl
def nN{c:Cs}{f:Addr}{fd:FuncData}(F:FnAt K mg "first_with_room" br bV f fd)(A_:Fns K mg c)(T:Txt K mg base)(xs:Exs K mg base c):aI P w K mg base CX0 1 f fd bV (spP K ee):=by
 refine F.fn.ok jW (fun vs H Q E h=>bc m6 h) (fun cdv A outer s H vs Q E hr h=>?_)
 refine⟨_,(ao (Bq rfl (aH.of (sc0:=(ak br)) (tn:=["column"]) (cap:=["rooms"]) (idx:=[1]) (by decide +kernel) rfl rfl) jW.nd rfl (by walk_at "o") (bS (K:=K) rfl (pv 0)) (gi.name (by decide)) (fun _ _ _ _ _=>aT (i:=0) (aN (l:=["column","rooms"]) (by decide +kernel)) rfl (by walk_at "o") (by first|exact .inl rfl|exact .inr rfl)) (fun _ _ _ _ _=>rh (bf vD (aP (az (K:=K) rfl) (pv 1) (pv 0) (fun _ _=>rfl)) au (bu _))) (fun _ _ _ _ _=>(pv 0))) (ar (aM (sX (bf (sO hr.units) (pv 2) (cS aj) (bu _)) (aP (az (K:=K) rfl) (pv 2) au (fun _ _=>rfl)) jG)))),bz (Γn:=[]) (N:=hZ) (ay (ST.post (Γn:=[]) (bh 2 (EM.es (rd (dm (af 0)) (aU 0) (aY (EM.er (aA pH (ES.er (bb (af 1) (ES.er (af 0)))) (EM.er av)))) (ER.bg (ES.er (af 0))))))) (aO (M:=[]) (Gm (aY (EM.er (aA x6 (ES.er (af 2)) (EM.er (dw bw))))) (ER.bg (ES.er (bb (af 2) (EM.er av)))) j3))) (fun ds P hS=>?_) h⟩
 obtain ⟨cs,r,rfl,hl,hr,hP,hN⟩:=hS
 rw[show aL hZ [dN cs,dI r]=[some (dN cs),some (dI r),none] from rfl]
 walk_at "go"
 refine oG (as:=cs) (f:=fun (c:Nat)=>.int (c:Int)) (p:=fun c=>decide (0<r.getD c 0)) (g:=fun (c:Nat)=>.int (c:Int)) (fun R h=>?_) (by omega) (fun i hi R h=>?_) ?_
 .walk_at "go"
  rw[Mp] at *
  exact h
 .walk_at "gb"
  have:=hr i hi
  refine bo (by omega) ?_
  rw[Mg]
  walk_at "gb"
  by_cases z:0<r.getD i 0
  .rw[if_pos z]
   rw[decide_eq_true z] at h
   exact h
  .rw[if_neg z]
   rw[decide_eq_false z] at h
   exact h
 cases e:cs.filter (fun c=>decide (0<r.getD c 0)) with
 |nil =>
  walk_at "go"
  refine kU (xs:=[]) (ys:=[]) ?_
  walk_at "go"
  refine hN fun c hc z=>?_
  rw[OV] at e
  exact e c hc (by simpa using z)
 |cons q l =>
  have hq:q∈cs.filter (fun c=>decide (0<r.getD c 0)):=by rw[e];exact Fk
  obtain ⟨h1,h2⟩:=MZ.mp hq
  rw[show L3.D.lst ((q::l).map fun (c:Nat)=>L3.D.int (c:Int))=dI ((q::l).map fun (c:Nat)=>(c:Int)) by show _=L3.D.lst (List.map L3.D.int _);rw[Mp];rfl]
  walk_at "go"
  refine kU (ys:=[]) ?_
  rw[decide_eq_false (by simp)]
  walk_at "go"
  refine bo (by simp only[Mb,L6];omega) ⟨rfl,?_⟩
  exact hP q h1 (of_decide_eq_true h2)
abbrev j8(p:Nat × Nat):D:=.tup [.int (p.1:Int),.int (p.2:Int)]
abbrev zo(c:Cs)(low high t:List (List Int))(w r:List Int):D:=.ins c.Filling ["low","high","table","wants","rooms"] [dT low,dT high,dT t,dI w,dI r]
abbrev uk(c:Cs)(al ah:Addr)(t:List (List Int))(w r:List Int):D:=.ins c.Filling ["low","high","table","wants","rooms"] [.raw (.ref al),.raw (.ref ah),dT t,dI w,dI r]
def lj{ps:List (Nat × Nat)}{k:Nat}{p:Nat × Nat}{P:DK}(e:ps[k]?=some p)(h:P (j8 p)):asO (atI (ps.map j8) (k:Int)) P:=by
 have hl:=(L7.mp e).1
 refine (xy ?_).mpr h
 unfold atI
 rw[eQ (by omega) (by rw[ox];omega),Mg]
 show (ps.map j8)[k]?=_
 rw[L9,e];rfl
def gC(c:Cs):DSp:=fun ds P=>∃(low high t:List (List Int)) (w r:List Int) (n m k:Nat) (cs:List (Nat × Nat)) (p:Nat × Nat),ds=[zo c low high t w r,.lst (cs.map j8),.int (k:Int)]/\cT n m low/\cT n m high/\cT n m t/\cs[k]?=some p/\p.1<n/\p.2<m/\P (.int (if k % 2=0 then cellAt high p.1 p.2 - cellAt t p.1 p.2 else cellAt t p.1 p.2 - cellAt low p.1 p.2))
def nK{c:Cs}:bE (gC c):=by
 intro xs P P' k h
 obtain ⟨a1,a2,a3,a4,a5,a6,a7,a8,a9,a10,e,h1,h2,h3,h4,h5,h6,h⟩:=h
 exact⟨a1,a2,a3,a4,a5,a6,a7,a8,a9,a10,e,h1,h2,h3,h4,h5,h6,k _ h⟩
def pz{c:Cs}:∀ds P,gC c ds P->ds.length=3:=by
 intro ds P h
 obtain ⟨_,_,_,_,_,_,_,_,_,_,e,_⟩:=h
 rw[e];rfl
def qa{c:Cs}{f:Addr}{fd:FuncData}(F:ni K c.Filling "slack" "Filling.slack" cq cV f fd)(A_:Fns K mg c)(T:Txt K mg base)(xs:Exs K mg base c):aI P w K mg base CX0 1 f fd cV (spP K (gC c)):=by
 refine F.fn.ok iD (fun vs H Q E h=>bc pz h) (fun cdv A outer s H vs Q E hr h=>?_)
 refine⟨_,(ao (aR (i:=3) iD.nd rfl (by walk_at "o") (aP (bY (K:=K) rfl) (aP (az (K:=K) rfl) (pv 1) (pv 2) (fun _ _=>rfl)) au (fun _ _=>rfl))) (ao (aR (i:=4) iD.nd rfl (by walk_at "o") (aP (bY (K:=K) rfl) (aP (az (K:=K) rfl) (pv 1) (pv 2) (fun _ _=>rfl)) au (fun _ _=>rfl))) (ao (eS (bf lQ (aS gH (pv 2) au) au (bu _)) (ar (aM (aS oj (aP (az (K:=K) rfl) (aP (az (K:=K) rfl) (aV (K:=K) rfl (pv 0) rfl) (pv 3) (fun _ _=>rfl)) (pv 4) (fun _ _=>rfl)) (aP (az (K:=K) rfl) (aP (az (K:=K) rfl) (aV (K:=K) rfl (pv 0) rfl) (pv 3) (fun _ _=>rfl)) (pv 4) (fun _ _=>rfl))))) bt) (ar (aM (aS oj (aP (az (K:=K) rfl) (aP (az (K:=K) rfl) (aV (K:=K) rfl (pv 0) rfl) (pv 3) (fun _ _=>rfl)) (pv 4) (fun _ _=>rfl)) (aP (az (K:=K) rfl) (aP (az (K:=K) rfl) (aV (K:=K) rfl (pv 0) rfl) (pv 3) (fun _ _=>rfl)) (pv 4) (fun _ _=>rfl)))))))),bz (Γn:=[]) (N:=jc) (ay (ST.post (Γn:=[]) (bh 3 (iG (bb (af 1) (ES.er (af 2))) (EM.er av)))) (ay (ST.post (Γn:=[]) (bh 4 (iG (bb (af 1) (ES.er (af 2))) (EM.er av)))) (ay (gn (aY (EM.er (aA qS (EM.er (aA bG (ES.er (af 2)) (EM.er av))) (EM.er av)))) (aO (M:=[]) (aA dS (ES.er (bb (bb (cw ["low","high","table","wants","rooms"] 1 xs.i_Filling.cl xs.n_Filling_high (af 0)) (ES.er (af 3))) (ES.er (af 4)))) (ES.er (bb (bb (cw ["low","high","table","wants","rooms"] 2 xs.i_Filling.cl xs.n_Filling_table (af 0)) (ES.er (af 3))) (ES.er (af 4)))))) bA) (aO (M:=[]) (aA dS (ES.er (bb (bb (cw ["low","high","table","wants","rooms"] 2 xs.i_Filling.cl xs.n_Filling_table (af 0)) (ES.er (af 3))) (ES.er (af 4)))) (ES.er (bb (bb (cw ["low","high","table","wants","rooms"] 0 xs.i_Filling.cl xs.n_Filling_low (af 0)) (ES.er (af 3))) (ES.er (af 4))))))))) (fun ds P hS=>?_) h⟩
 obtain ⟨low,high,t,w,r,n,m,k,cs,p,rfl,hL,hH,hT,e,p1,p2,hP⟩:=hS
 rw[show aL jc [zo c low high t w r,.lst (cs.map j8),.int (k:Int)]=[some (zo c low high t w r),some (.lst (cs.map j8)),some (.int (k:Int)),none,none] from rfl]
 walk_at "go"
 refine lj e ?_
 walk_at "go"
 refine lj e ?_
 walk_at "go"
 by_cases z:k % 2=0
 .rw[if_pos (by omega)]
  rw[if_pos z] at hP
  refine ma hH (by omega) (by omega) ?_
  rw[Mg,Mg]
  refine ma hT (by omega) (by omega) ?_
  rw[Mg,Mg]
  exact hP
 .rw[if_neg (by omega)]
  rw[if_neg z] at hP
  refine ma hT (by omega) (by omega) ?_
  rw[Mg,Mg]
  refine ma hL (by omega) (by omega) ?_
  rw[Mg,Mg]
  exact hP
open L3.Fl in
def ou:DSI:=fun ds P=>∃(ls:List Nat) (ws:List (List Nat)) (as:List (Nat × Option Nat)) (B:Nat),ds=[dN ls,dT (nT ws),.dic (kA as)]/\B<=50/\(∀l∈ls,l<ws.length)/\(∀v∈ws,v.length<=50/\∀p∈v,p<B)/\(kys as).Nodup/\(∀p∈kys as,p<B) /\
 ∀Np:List (Nat × Nat),(kys as++Np.map Prod.fst).Nodup->(∀p∈Np,p.2∈ls/\p.1∈ws.getD p.2 [])->(∀s∈ls,∀p∈ws.getD s [],p∈kys as++Np.map Prod.fst)->P (dN (Np.map Prod.fst)) (.dic (kA (as++nw Np)))
def qp:GL ou:=by
 intro xs P P' k h
 obtain ⟨a1,a2,a3,a4,e,h1,h2,h3,h4,h5,h⟩:=h
 exact⟨a1,a2,a3,a4,e,h1,h2,h3,h4,h5,fun Np z1 z2 z3=>k _ _ (h Np z1 z2 z3)⟩
def sL:∀ds P,ou ds P->ds.length=3:=by
 intro ds P h
 obtain ⟨_,_,_,_,e,_⟩:=h
 rw[e];rfl
def Dr{c:Cs}{f:Addr}{fd:FuncData}(F:FnAt K mg "spread" iU jM f fd)(A_:Fns K mg c)(T:Txt K mg base)(xs:Exs K mg base c):aI P w K mg base CX0 1 f fd jM (spI K 2 ou):=by
 refine F.fn.ok mZ (fun vs H Q E h=>Ia sL h) (fun cdv A outer s H vs Q E hr h=>?_)
 refine⟨_,(ao (aR (i:=3) mZ.nd rfl (by walk_at "o") (cS aj)) (ao (i7 PassesOwn.never rfl (bS (K:=K) rfl (pv 0)) (aT (i:=4) mZ.nd rfl (by walk_at "o")) (ar (i7 PassesOwn.never rfl (bS (K:=K) rfl (aP (az (K:=K) rfl) (pv 1) (pv 4) (fun _ _=>rfl))) (aT (i:=5) mZ.nd rfl (by walk_at "o")) (ar (eS (Ke (C4 (zk hr) (pv 5) (pv 2)) (by with_unfolding_all rfl)) (ao (BB (zk hr) (pv 2) (pv 5) (pv 4) rfl) (ar (iO (rS Nk NF ND js (pv 3) (aa (pv 5) aj))))) bt))))) (ar (aM (pv 3))))),HD (Γn:=[3,2]) (N:=t6) (p:=2) (ay (ST.post (Γn:=[3,2]) (eh (M:=[]) 3 (dw bw))) (ay (jf (dm (af 0)) (aU 4) (jf (dm (bb (af 1) (ES.er (af 4)))) (aU 5) (gn (Du (EM.er (C0 (ES.er (af 5)) (oF 2)))) (ay (Kj 2 (Gq 2 (ES.er (af 5)) (ES.er (af 4)))) (ST.post (Γn:=[3,2]) (jt (M:=[]) 3 (ER.bg (ES.er (af 5)))))) bA))) (aO (M:=[3]) (jH 3)))) (fun ds P a x hS hx=>?_) (by decide) (fun ds P h=>by have:=sL ds P h;omega) h⟩
 obtain ⟨ls,ws,as,B,rfl,hB,hl,hw,na,ba,hP⟩:=hS
 cases hx
 simp only[List.set_cons_zero,List.set_cons_succ]
 rw[show aL t6 [dN ls,dT (nT ws),.pin a (.dic (L3.Fl.kA as))]=[some (dN ls),some (dT (nT ws)),some (.pin a (.dic (L3.Fl.kA as))),none,none,none] from rfl]
 walk_at "go"
 have lw:(nT ws).length=ws.length:=by unfold nT;rw[ox]
 have le:∀Np:List (Nat × Nat),(kys as++Np.map Prod.fst).Nodup->(∀p∈Np,p.2∈ls/\p.1∈ws.getD p.2 [])->(kA (as++nw Np)).length<=50/\Np.length<=50:=fun Np h1 h2=>by
  have:=jV (B:=B) h1 fun q hq=>by
   rcases Mc.mp hq with z|z
   .exact ba q z
   .obtain ⟨p,hp,rfl⟩:=Ma.mp z
    obtain ⟨k1,k2⟩:=h2 p hp
    have XJ:=hl _ k1
    refine (hw (ws.getD p.2 []) ?_).2 _ k2
    rw[gV,dz XJ]
    exact MO XJ
  rw[Mx,ox,ox] at this
  refine⟨?_,by omega⟩
  unfold kA nw
  rw[ox,Mx,ox];omega
 rw[show List.map L3.D.int (List.map (fun (r:Nat)=>(r:Int)) ls)=ls.map (fun (r:Nat)=>L3.D.int (r:Int)) by rw[Mp];rfl]
 refine iV (as:=ls) (f:=fun (r:Nat)=>L3.D.int (r:Int)) (fun i δ=>∃(Np:List (Nat × Nat)) (o4 o5:Option D),δ=[some (dN ls),some (dT (nT ws)),some (L3.D.pin a (L3.D.dic (kA (as++nw Np)))),some (dN (Np.map Prod.fst)),o4,o5]/\(kys as++Np.map Prod.fst).Nodup/\(∀p∈Np,p.2∈ls/\p.1∈ws.getD p.2 [])/\∀s∈ls.take i,∀p∈ws.getD s [],p∈kys as++Np.map Prod.fst) ⟨[],none,none,by simp [nw],by simpa using na,fun p h=>(nomatch h),fun s h=>by simp at h⟩ ?_ ?_
 .rintro i s δ N e ⟨Np,o4,o5,rfl,nd,hn,hc⟩ hN
  have hs:s∈ls:=MN e
  have Um:=hl s hs
  have ew:rowAt (nT ws) s=(ws.getD s []).map fun (x:Nat)=>(x:Int):=by
   unfold rowAt nT
   rw[gV,L9,dz Um,gV,dz Um];rfl
  obtain ⟨v,hv⟩:∃v,ws.getD s []=v:=⟨_,rfl⟩
  have vin:v∈ws:=by rw[<- hv,gV,dz Um];exact MO Um
  walk_at "go"
  refine ia (by omega) ?_
  rw[Mg,ew,hv]
  walk_at "go"
  rw[show List.map L3.D.int (List.map (fun (r:Nat)=>(r:Int)) v)=v.map (fun (r:Nat)=>L3.D.int (r:Int)) by rw[Mp];rfl]
  refine iV (as:=v) (f:=fun (r:Nat)=>L3.D.int (r:Int)) (fun k δ=>∃(Np:List (Nat × Nat)) (o5:Option D),δ=[some (dN ls),some (dT (nT ws)),some (L3.D.pin a (L3.D.dic (kA (as++nw Np)))),some (dN (Np.map Prod.fst)),some (.int (s:Int)),o5]/\(kys as++Np.map Prod.fst).Nodup/\(∀p∈Np,p.2∈ls/\p.1∈ws.getD p.2 [])/\(∀s∈ls.take i,∀p∈ws.getD s [],p∈kys as++Np.map Prod.fst)/\∀p∈v.take k,p∈kys as++Np.map Prod.fst) ⟨Np,o5,rfl,nd,hn,hc,fun p h=>by simp at h⟩ ?_ ?_
  .rintro k p δ N' e' ⟨Np,o5,rfl,nd,hn,hc,hk⟩ Yk
   have hp:p∈v:=MN e'
   obtain ⟨l1,l2⟩:=le Np nd hn
   have tk:∀q,q∈v.take (k+1)->q∈v.take k\/q=p:=fun q hq=>by
    rw[List.take_succ,e'] at hq
    rcases Mc.mp hq with z|z
    .exact .inl z
    .exact .inr (by simpa using z)
   have ky:kys (as++nw Np)=kys as++Np.map Prod.fst:=by rw[dO,gG]
   walk_at "go"
   rw[Lw,ky]
   by_cases hi:p∈kys as++Np.map Prod.fst
   .rw[decide_eq_true hi]
    walk_at "go"
    refine Yk _ ⟨Np,_,rfl,nd,hn,hc,fun q hq=>?_⟩
    rcases tk q hq with z|z
    .exact hk q z
    .rw[z];exact hi
   .rw[decide_eq_false hi]
    walk_at "go"
    have ep:putK (kA (as++nw Np)) (.inl (p:Int)) (.int (s:Int))=kA (as++nw (Np++[(p,s)])):=by
     have:=Gv (as:=as++nw Np) (c:=p) (o:=some s) (by rw[ky];exact hi)
     rw[show oV (some s)=V.int (s:Int) from rfl] at this
     rw[this]
     unfold nw
     rw[Mr,<- MR];rfl
    rw[ep,v8]
    have ef:(Np.map Prod.fst).map (fun (r:Nat)=>(r:Int))++[(p:Int)]=((Np++[(p,s)]).map Prod.fst).map fun (r:Nat)=>(r:Int):=by
     rw[Mr,Mr];rfl
    rw[ef]
    refine Yk _ ⟨Np++[(p,s)],_,rfl,?_,fun q hq=>?_,fun s' RI q hq=>?_,fun q hq=>?_⟩
    .rw[Mr,<- MR]
     refine Mm.mpr ⟨nd,by simp,fun x hx y hy z=>?_⟩
     have:y=p:=by simpa using hy
     rw[z,this] at hx;exact hi hx
    .rcases Mc.mp hq with z|z
     .exact hn q z
     .cases Gc.mp z
      exact⟨hs,by rw[hv];exact hp⟩
    .rw[Mr,<- MR]
     exact Mf _ (hc s' RI q hq)
    .rw[Mr,<- MR]
     rcases tk q hq with z|z
     .exact Mf _ (hk q z)
     .rw[z];exact KE _ (by simp)
  .rintro δ ⟨Np,o5,rfl,nd,hn,hc,hk⟩
   refine hN _ ⟨Np,_,_,rfl,nd,hn,fun s' RI q hq=>?_⟩
   rw[List.take_succ,e] at RI
   rcases Mc.mp RI with z|z
   .exact hc s' z q hq
   .have:s'=s:=by simpa using z
    rw[this,hv] at hq
    exact hk q (by rw[Om];exact hq)
 .rintro δ ⟨Np,o4,o5,rfl,nd,hn,hc⟩
  walk_at "go"
  exact hP Np nd hn fun s hs p hp=>hc s (by rw[Om];exact hs) p hp
abbrev ze(c:Cs)(as bs:List (Nat × Option Nat))(goal:Option Nat):D:=.ins c.Reach ["rows","columns","goal"] [.dic (kA as),.dic (kA bs),oD goal]
def zW{as:List (Nat × Option Nat)}{i:Nat}(h:i∈kys as):∃o,(i,o)∈as:=by
 obtain ⟨p,hp,rfl⟩:=Ma.mp h
 exact⟨p.2,hp⟩
def xS{c:Nat}:∀{ps:List (Nat × Nat)},(kM ps c).length=2*ps.length
 |[]=>rfl
 |[p]=>rfl
 |p::q::r=>by
  show (kM (q::r) c).length+1+1=_
  rw[xS];simp only[L6];omega
def ki(c:Cs):DSp:=fun ds P=>∃(low high t:List (List Int)) (w:List Int) (as bs:List (Nat × Option Nat)) (rk ck:Nat->Nat) (n m B g:Nat),ds=[ze c as bs (some g)]/\Rc n m low high t w as bs rk ck B/\g∈kys bs/\n<=50/\∀ps,Wy n m low high t w g ps->P (.lst ((cellsOf ps).map j8))
def rH{c:Cs}:bE (ki c):=by
 intro xs P P' k h
 obtain ⟨a1,a2,a3,a4,a5,a6,a7,a8,a9,a10,a11,a12,e,h1,h2,h3,h⟩:=h
 exact⟨a1,a2,a3,a4,a5,a6,a7,a8,a9,a10,a11,a12,e,h1,h2,h3,fun ps z=>k _ (h ps z)⟩
def uu{c:Cs}:∀ds P,ki c ds P->ds.length=1:=by
 intro ds P h
 obtain ⟨_,_,_,_,_,_,_,_,_,_,_,_,e,_⟩:=h
 rw[e];rfl
def wx{c:Cs}{f:Addr}{fd:FuncData}(F:ni K c.Reach "way" "Reach.way" eY fP f fd)(A_:Fns K mg c)(T:Txt K mg base)(xs:Exs K mg base c):aI P w K mg base CX0 1 f fd fP (spP K (ki c)):=by
 refine F.fn.ok il (fun vs H Q E h=>bc uu h) (fun cdv A outer s H vs Q E hr h=>?_)
 refine⟨_,(ao (aR (i:=1) il.nd rfl (by walk_at "o") (cS aj)) (ao (aR (i:=2) il.nd rfl (by walk_at "o") (aV (K:=K) rfl (pv 0) rfl)) (ao (sE PassesOwn.never (bf w8 (pv 2) jG (bu _)) (ao (aR (i:=3) il.nd rfl (by walk_at "o") (Bu (zk hr) (aV (K:=K) rfl (pv 0) rfl) (pv 2) (fun _ _=>rfl))) (ao (iO (rS Nk NF ND js (pv 1) (aa (ir (aa (pv 3) (aa (pv 2) aj))) aj))) (ao (aR (i:=2) il.nd rfl (by walk_at "o") (Bu (zk hr) (aV (K:=K) rfl (pv 0) rfl) (pv 3) (fun _ _=>rfl))) (ar (eS (bf w8 (pv 2) jG (bu _)) (ar (iO (rS Nk NF ND js (pv 1) (aa (ir (aa (pv 3) (aa (pv 2) aj))) aj)))) bt)))))) (ar (aM (pv 1)))))),bz (Γn:=[1]) (N:=mF) (ay (ST.post (Γn:=[1]) (eh (M:=[]) 1 (dw bw))) (ay (ST.post (Γn:=[1]) (bh 2 (cw ["rows","columns","goal"] 2 xs.i_Reach.cl xs.n_Reach_goal (af 0)))) (ay (rF (aY (EM.er (aA Am (ES.er (af 2)) (EM.er j3)))) (ay (ST.post (Γn:=[1]) (bh 3 (EM.es (ER.flat (Ck (ES.er (cw ["rows","columns","goal"] 1 xs.i_Reach.cl xs.n_Reach_columns (af 0))) (ES.er (af 2))))))) (ay (ST.post (Γn:=[1]) (jt (M:=[]) 1 (iq (aQ (ER.flat (ES.er (af 3))) (aQ (ER.flat (ES.er (af 2))) bw))))) (ay (ST.post (Γn:=[1]) (bh 2 (EM.es (ER.flat (Ck (ES.er (cw ["rows","columns","goal"] 0 xs.i_Reach.cl xs.n_Reach_rows (af 0))) (ES.er (af 3))))))) (gn (aY (EM.er (aA Am (ES.er (af 2)) (EM.er j3)))) (ST.post (Γn:=[1]) (jt (M:=[]) 1 (iq (aQ (ER.flat (ES.er (af 3))) (aQ (ER.flat (ES.er (af 2))) bw))))) bA))))) (aO (M:=[1]) (jH 1))))) (fun ds P hS=>?_) h⟩
 obtain ⟨low,high,t,w,as,bs,rk,ck,n,m,B,g,rfl,hR,hg,n5,hP⟩:=hS
 rw[show aL mF [ze c as bs (some g)]=[some (ze c as bs (some g)),none,none,none] from rfl]
 walk_at "go"
 refine⟨fun μ δ=>(∃(ps:List (Nat × Nat)) (c':Nat) (o3:Option D),μ=ck c' + 1/\δ=[some (ze c as bs (some g)),some (.lst ((kM ps c').map j8)),some (.int (c':Int)),o3]/\Wp n m low high t bs rk ck g ps c')\/(∃(ps:List (Nat × Nat)) (o3:Option D),μ=0/\δ=[some (ze c as bs (some g)),some (.lst ((cellsOf ps).map j8)),some .non,o3]/\Wy n m low high t w g ps),⟨ck g+1,.inl ⟨[],g,none,rfl,rfl,⟨.inl ⟨rfl,rfl⟩,hg,fun p h=>(nomatch h),fun p h=>(nomatch h),Nq,Nq,fun p h=>(nomatch h),trivial,fun p h=>by simp at h⟩⟩⟩,?_⟩
 rintro μ δ (⟨ps,c',o3,rfl,rfl,hw⟩|⟨ps,o3,rfl,rfl,hw⟩)
 .obtain ⟨o,ho⟩:=zW hw.ci
  obtain ⟨s,e1,_⟩:=hR.pb c' o ho
  subst e1
  obtain ⟨hs,X3,hgo⟩:=Wp.step hR hw ho
  obtain ⟨o2,Wd⟩:=zW hs
  have hl:=xS (c:=c') (ps:=ps)
  have Wc:ps.length<=50:=by
   have:=jV (B:=n) hw.n1 fun q hq=>by
    obtain ⟨p,hp,rfl⟩:=Ma.mp hq
    exact (hw.rg p hp).1
   rw[ox] at this;omega
  walk_at "go"
  refine xj (v:=.int (s:Int)) (rD hR.nb ho) ?_
  walk_at "go"
  cases o2 with
  |none =>
   refine xj (v:=.non) (rD hR.na Wd) ?_
   walk_at "go"
   rw[show (kM ps c').map j8++[L3.D.tup [L3.D.int (s:Int),L3.D.int (c':Int)]]=(cellsOf (ps++[(s,c')])).map j8 by rw[tX,Mr];rfl]
   exact⟨0,by omega,.inr ⟨ps++[(s,c')],_,rfl,rfl,X3 Wd⟩⟩
  |some c2 =>
   obtain ⟨h1,h2⟩:=hgo c2 Wd
   refine xj (v:=.int (c2:Int)) (rD hR.na Wd) ?_
   walk_at "go"
   refine⟨by rw[Mx,ox,List.length_singleton];omega,?_⟩
   rw[show (kM ps c').map j8++[L3.D.tup [L3.D.int (s:Int),L3.D.int (c':Int)]]++[L3.D.tup [L3.D.int (s:Int),L3.D.int (c2:Int)]]=(kM (ps++[(s,c')]) c2).map j8 by rw[vV,Mr,MR];rfl]
   exact⟨ck c2+1,by omega,.inl ⟨ps++[(s,c')],c2,_,rfl,rfl,h1⟩⟩
 .walk_at "go"
  exact hP ps hw
def kL{a b:List Int}{p:Nat}:p∈cg a b↔p<a.length/\a.getD p 0<b.getD p 0:=by
 unfold cg
 rw[MZ,Ms,decide_eq_true_eq]
def uW{a b:List Int}:(cg a b).length<=a.length:=by
 unfold cg
 exact Mq (List.length_filter_le _ _) (by rw[Md];exact Mi _)
def xN{a b:List Int}:(cg a b).Nodup:=List.nodup_range.filter _
def FE{n s:Nat}{a b:List (List Int)}(h:s<n):(upL n a b).getD s []=cg (rowAt a s) (rowAt b s):=by
 unfold upL
 rw[gV,L9,MK h];rfl
def tN{m s:Nat}{t:List (List Int)}(h:s<m):rowAt (turned m t) s=qm t s:=by
 unfold rowAt turned
 rw[gV,L9,MK h];rfl
def Cm{t:List (List Int)}{s:Nat}:(qm t s).length=t.length:=by unfold qm;rw[ox]
def A8{t:List (List Int)}{s p:Nat}(h:p<t.length):(qm t s).getD p 0=cellAt t p s:=by
 unfold qm cellAt
 rw[gV,L9,dz h,gV (l:=t),dz h];rfl
def qw{n m:Nat}{t:List (List Int)}(h:cT n m t):cT m n (turned m t):=⟨by unfold turned;rw[ox,Md],fun r hr=>by
 obtain ⟨j,_,rfl⟩:=Ma.mp hr
 rw[Cm];exact h.1⟩
def fc(c:Cs):DSp:=fun ds P=>∃(low high t:List (List Int)) (w r:List Int) (n m:Nat),ds=[zo c low high t w r]/\cT n m low/\cT n m high/\cT n m t/\w.length=n/\r.length=m/\1<=n/\n<=50/\1<=m/\m<=50 /\
 ∀(layer:List Nat) (as bs:List (Nat × Option Nat)) (goal:Option Nat) (rk ck:Nat->Nat) (B:Nat),Rc n m low high t w as bs rk ck B->Cl n m low high t r layer as bs goal->(goal=none->layer=[])->P (ze c as bs goal)
def qO{c:Cs}:bE (fc c):=by
 intro xs P P' k h
 obtain ⟨a1,a2,a3,a4,a5,a6,a7,e,h1,h2,h3,h4,h5,h6,h7,h8,h9,h⟩:=h
 exact⟨a1,a2,a3,a4,a5,a6,a7,e,h1,h2,h3,h4,h5,h6,h7,h8,h9,fun a b c d e f g z1 z2 z3=>k _ (h a b c d e f g z1 z2 z3)⟩
def tV{c:Cs}:∀ds P,fc c ds P->ds.length=1:=by
 intro ds P h
 obtain ⟨_,_,_,_,_,_,_,e,_⟩:=h
 rw[e];rfl
def tT{c:Cs}:∀ds P,(fc c) ds P->(fc c) ds fun d=>(∃ns dd,d=.ins c.Reach ns dd)/\P d:=by
 intro ds P h
 unfold fc at h ⊢
 obtain ⟨a1,a2,a3,a4,a5,a6,a7,e,h1,h2,h3,h4,h5,h6,h7,h8,h9,h⟩:=h;exact⟨a1,a2,a3,a4,a5,a6,a7,e,h1,h2,h3,h4,h5,h6,h7,h8,h9,fun a b c d e f g z1 z2 z3=>⟨⟨_,_,rfl⟩,h a b c d e f g z1 z2 z3⟩⟩
def uK{c:Cs}{f:Addr}{fd:FuncData}(F:wk K mg "Reach" c.Reach "Reach.__init__" d8 fj f fd)(A_:Fns K mg c)(T:Txt K mg base)(xs:Exs K mg base c):aI P w K mg base CX0 3 f fd fj (Fv K c.Reach (fc c)):=by
 obtain ⟨f0,d0,Oi⟩:=A_.h_ways_up
 have Qn:aI P w K mg base CX0 2 f0 d0 iM (spP K iB):=AJ Oi A_ T xs
 obtain ⟨f1,d1,ME⟩:=A_.h_places_below
 have Nz:aI P w K mg base CX0 1 f1 d1 bM (spP K bp):=gB ME A_ T xs
 obtain ⟨f2,d2,MW⟩:=A_.h_turned_table
 have N8:aI P w K mg base CX0 2 f2 d2 cK (spP K cj):=lL MW A_ T xs
 obtain ⟨f3,d3,OH⟩:=A_.h_spread
 have RA:aI P w K mg base CX0 1 f3 d3 jM (spI K 2 ou):=Dr OH A_ T xs
 obtain ⟨f4,d4,NS⟩:=A_.h_first_with_room
 have PF:aI P w K mg base CX0 1 f4 d4 bV (spP K ee):=nN NS A_ T xs
 refine F.fn.ok eM (fun vs H Q E h=>FH tV h) (fun cdv A outer s H vs Q E hr h=>?_)
 refine⟨_,(ao (hE (K:=K) rfl (pv 0) zd rfl) (ao (hE (K:=K) rfl (pv 0) zd rfl) (ao (hE (K:=K) rfl (pv 0) jG rfl) (ao (aR (i:=2) eM.nd rfl (by walk_at "o") (aB Qn (hr.mono (by decide)) rfl Oi.mg Oi.fn.kp Oi.bd .nil aZ (aa (aV (K:=K) rfl (pv 1) rfl) (aa (aV (K:=K) rfl (pv 1) rfl) aj)))) (ao (aR (i:=3) eM.nd rfl (by walk_at "o") (aB Qn (hr.mono (by decide)) rfl Oi.mg Oi.fn.kp Oi.bd .nil aZ (aa (aB N8 (hr.mono (by decide)) rfl MW.mg MW.fn.kp MW.bd .nil aZ (aa (aV (K:=K) rfl (pv 1) rfl) aj)) (aa (aB N8 (hr.mono (by decide)) rfl MW.mg MW.fn.kp MW.bd .nil aZ (aa (aV (K:=K) rfl (pv 1) rfl) aj)) aj)))) (ao (aR (i:=4) eM.nd rfl (by walk_at "o") (aB Nz (hr.mono (by decide)) rfl ME.mg ME.fn.kp ME.bd .nil aZ (aa (aS zI (cS (aa au aj)) (ax (aK (K:=K) rfl) (by rfl) T.len_ Mn (aa (aV (K:=K) rfl (pv 1) rfl) aj))) (aa (aV (K:=K) rfl (pv 1) rfl) aj)))) (ao (i7 PassesOwn.never rfl (bS (K:=K) rfl (pv 4)) (aT (i:=5) eM.nd rfl (by walk_at "o")) (ar (BB (zk hr) (aV (K:=K) rfl (pv 0) rfl) (pv 5) jG rfl))) (ar (sE PassesOwn.never (PW.pt (GP (bf (sO hr.units) (pv 4) (cS aj) (bu _)) (A4 (bf ED (aV (K:=K) rfl (pv 0) rfl) jG (bu _))))) (ao (aR (i:=6) eM.nd rfl (by walk_at "o") (aB RA (hr.mono (by decide)) rfl OH.mg OH.fn.kp OH.bd .nil aZ (aa (pv 4) (aa (pv 2) (aa (aV (K:=K) rfl (pv 0) rfl) aj))))) (ao (hE (K:=K) rfl (pv 0) (aB PF (hr.mono (by decide)) rfl NS.mg NS.fn.kp NS.bd .nil aZ (aa (pv 6) (aa (aV (K:=K) rfl (pv 1) rfl) aj))) rfl) (ar (aR (i:=4) eM.nd rfl (by walk_at "o") (aB RA (hr.mono (by decide)) rfl OH.mg OH.fn.kp OH.bd .nil aZ (aa (pv 6) (aa (pv 3) (aa (aV (K:=K) rfl (pv 0) rfl) aj))))))))))))))))),HV (N:=lG) (tW xs.i_Reach.cl xs.n_Reach_rows Bj (h:=tW xs.i_Reach.cl xs.n_Reach_columns Bj (h:=tW xs.i_Reach.cl xs.n_Reach_goal j3 (h:=Ga (ay (ST.post (Γn:=[0]) (bh 2 (EM.es (aJ (S:=iB) oq (ai (ES.er (cw ["low","high","table","wants","rooms"] 2 xs.i_Filling.cl xs.n_Filling_table (af 1))) (ai (ES.er (cw ["low","high","table","wants","rooms"] 1 xs.i_Filling.cl xs.n_Filling_high (af 1))) aq)))))) (ay (ST.post (Γn:=[0]) (bh 3 (EM.es (aJ (S:=iB) oq (ai (EM.er (aJ (S:=cj) ig (ai (ES.er (cw ["low","high","table","wants","rooms"] 0 xs.i_Filling.cl xs.n_Filling_low (af 1))) aq))) (ai (EM.er (aJ (S:=cj) ig (ai (ES.er (cw ["low","high","table","wants","rooms"] 2 xs.i_Filling.cl xs.n_Filling_table (af 1))) aq))) aq)))))) (ay (ST.post (Γn:=[0]) (bh 4 (EM.es (aJ (S:=bp) fB (ai (EM.er (aA Ge (EM.er (dw (aQ av bw))) (EM.er (aW cO (ai (ES.er (cw ["low","high","table","wants","rooms"] 3 xs.i_Filling.cl xs.n_Filling_wants (af 1))) aq))))) (ai (ES.er (cw ["low","high","table","wants","rooms"] 3 xs.i_Filling.cl xs.n_Filling_wants (af 1))) aq)))))) (ay (jf (dm (af 4)) (aU 5) (EF 0 ["rows","columns","goal"] 0 xs.i_Reach.cl xs.n_Reach_rows (ES.er (af 5)) (EM.er j3))) (rF (Ft (aY (EM.er (aA x6 (ES.er (af 4)) (EM.er (dw bw))))) (aY (EM.er (aA IV (JL ["rows","columns","goal"] 2 xs.i_Reach.cl xs.n_Reach_goal (oF 0)) (EM.er j3))))) (ay (za 6 0 4 2 ["rows","columns","goal"] 1 qp xs.i_Reach.cl xs.n_Reach_columns) (ay (Ho 0 ["rows","columns","goal"] 2 xs.i_Reach.cl xs.n_Reach_goal (EM.er (aJ (S:=ee) lY (ai (ES.er (af 6)) (ai (ES.er (cw ["low","high","table","wants","rooms"] 4 xs.i_Filling.cl xs.n_Filling_rooms (af 1))) aq))))) (za 4 0 6 3 ["rows","columns","goal"] 0 qp xs.i_Reach.cl xs.n_Reach_rows)))))))))))) (fun ds P hS=>?_) (by decide) h⟩
 obtain ⟨low,high,t,w,r,n,m,rfl,hL,hH,hT,lw,lr,n1,n5,m1,m5,hP⟩:=hS
 rw[show aL (lG.drop 1) [zo c low high t w r]=[some (zo c low high t w r),none,none,none,none,none] from rfl]
 have WU:∀s,s<n->∀p,p∈(upL n t high).getD s []↔p<m/\cellAt t s p<cellAt high s p:=fun s hs p=>by
  rw[FE hs,kL,show (rowAt t s).length=m from hT.row hs]
 have Yz:∀s,s<m->∀p,p∈(upL m (turned m low) (turned m t)).getD s []↔p<n/\cellAt low p s<cellAt t p s:=fun s hs p=>by
  rw[FE hs,kL,tN hs,tN hs,Cm,hL.1]
  refine and_congr_right fun hp=>?_
  rw[A8 (by rw[hL.1];exact hp),A8 (by rw[hT.1];exact hp)]
 have YM:cT m n (turned m low):=qw hL
 have rtT:cT m n (turned m t):=qw hT
 have YV:(upL n t high).length=n:=by unfold upL;rw[ox,Md]
 have ldn:(upL m (turned m low) (turned m t)).length=m:=by unfold upL;rw[ox,Md]
 have Y0:∀v∈upL n t high,v.length<=50/\∀p∈v,p<m:=fun v hv=>by
  obtain ⟨s,hs,rfl⟩:=Ma.mp hv
  have hs:=Ms.mp hs
  have e:=hT.row hs
  exact⟨Mq uW (by rw[e];exact m5),fun p hp=>by have:=(kL.mp hp).1;rw[e] at this;exact this⟩
 have X5:∀v∈upL m (turned m low) (turned m t),v.length<=50/\∀p∈v,p<n:=fun v hv=>by
  obtain ⟨s,hs,rfl⟩:=Ma.mp hv
  have hs:=Ms.mp hs
  have e:=YM.row hs
  exact⟨Mq uW (by rw[e];exact n5),fun p hp=>by have:=(kL.mp hp).1;rw[e] at this;exact this⟩
 generalize Wa:upL n t high=upW at WU YV Y0
 generalize hdn:upL m (turned m low) (turned m t)=dnW at Yz ldn X5
 walk_at "go"
 intro s_
 walk_at "go"
 refine⟨t,high,n,m,rfl,hT,hH,n5,m5,?_⟩
 refine⟨low,n,m,rfl,hL,n1,by omega,by omega,?_⟩
 refine⟨t,n,m,rfl,hT,n1,by omega,by omega,?_⟩
 refine⟨turned m low,turned m t,m,n,rfl,YM,rtT,m5,n5,?_⟩
 rw[Wa,hdn]
 refine⟨by decide,⟨rfl,by omega,by omega⟩,?_⟩
 rw[tE]
 refine⟨List.replicate w.length 0,w,rfl,by rw[Mw];omega,Mw,?_⟩
 have U9:∀p,p∈cg (List.replicate w.length 0) w↔p<n/\0<w.getD p 0:=fun p=>by
  rw[kL,Mw,lw]
  refine and_congr_right fun hp=>?_
  rw[gV (l:=List.replicate n 0),MT,if_pos (by omega)];rfl
 have T1:(cg (List.replicate w.length 0) w).Nodup:=xN
 generalize cg (List.replicate w.length 0) w=ly at U9 T1
 refine j4 rfl ?_
 have Y4:ly.length<=50:=Mq (jV T1 fun p hp=>((U9 p).mp hp).1) n5
 rw[show List.map L3.D.int (List.map (fun (r:Nat)=>(r:Int)) ly)=ly.map (fun (r:Nat)=>L3.D.int (r:Int)) by rw[Mp];rfl]
 refine iV (as:=ly) (f:=fun (r:Nat)=>L3.D.int (r:Int)) (fun i δ=>∃o5:Option D,δ=[some (.pin s_ (ze c ((ly.take i).map fun p=>(p,none)) [] none)),some (zo c low high t w r),some (dT (nT upW)),some (dT (nT dnW)),some (dN ly),o5,none]) ⟨none,rfl⟩ ?_ ?_
 .rintro i p δ N e ⟨o5,rfl⟩ hN
  have hi:=(L7.mp e).1
  have hk:kys ((ly.take i).map fun p=>(p,(none:Option Nat)))=ly.take i:=by unfold kys;rw[Mp];exact List.map_id _
  have hp:p∉ly.take i:=fun z=>by
   have:=T1
   rw[<- MX i ly] at this
   obtain ⟨_,_,h3⟩:=Mm.mp this
   refine h3 p z p ?_ rfl
   rw[MD hi]
   have:=(L7.mp e).2
   rw[this];exact Fk
  refine⟨s_,_,kA ((ly.take i).map fun p=>(p,none)),rfl,rfl,rfl,?_⟩
  have lk:(kA ((ly.take i).map fun p=>(p,(none:Option Nat)))).length<1000:=by
   unfold kA;rw[ox,ox,M5];omega
  refine⟨lk,?_⟩
  show N _
  have ep:putK (kA ((ly.take i).map fun p=>(p,(none:Option Nat)))) (.inl (p:Int)) (L3.D.toV L3.D.non)=kA ((ly.take (i+1)).map fun p=>(p,none)):=by
   rw[show L3.D.toV L3.D.non=oV none from rfl,Gv (by rw[hk];exact hp),List.take_succ,e,Mr];rfl
  rw[ep]
  exact hN _ ⟨_,rfl⟩
 .rintro δ ⟨o5,rfl⟩
  rw[Om]
  have hk:kys (ly.map fun p=>(p,(none:Option Nat)))=ly:=by unfold kys;rw[Mp];exact List.map_id _
  have rc0:Rc n m low high t w (ly.map fun p=>(p,none)) [] (fun _=>0) (fun _=>0) 0:=⟨by rw[hk];exact T1,Nq,fun i hi=>⟨((U9 i).mp (by rw[hk] at hi;exact hi)).1,Mi _⟩,fun j hj=>(nomatch hj),fun i o e=>by
   obtain ⟨p,hp,q⟩:=Ma.mp e
   cases q
   exact .inl ⟨rfl,((U9 _).mp hp).2⟩,fun j o e=>(nomatch e),fun i hi hw=>by rw[hk];exact (U9 i).mpr ⟨hi,hw⟩⟩
  have cl0:Cl n m low high t r ly (ly.map fun p=>(p,none)) [] none:=⟨fun l hl=>by rw[hk];exact hl,fun i hi hn=>absurd (by rw[hk] at hi;exact hi) hn,fun j hj=>(nomatch hj),fun c hc=>(nomatch hc)⟩
  refine⟨fun μ δ=>∃(layer:List Nat) (as bs:List (Nat × Option Nat)) (goal:Option Nat) (rk ck:Nat->Nat) (B:Nat) (o5 o6:Option D),μ=2*(m - bs.length)+(if layer=[] then 0 else 1)/\δ=[some (.pin s_ (ze c as bs goal)),some (zo c low high t w r),some (dT (nT upW)),some (dT (nT dnW)),some (dN layer),o5,o6]/\Rc n m low high t w as bs rk ck B/\Cl n m low high t r layer as bs goal,⟨_,ly,_,[],none,_,_,0,_,none,rfl,rfl,rc0,cl0⟩,?_⟩
  rintro μ δ ⟨layer,as,bs,goal,rk,ck,B,o5,o6,rfl,rfl,hR,hC⟩
  walk_at "go"
  refine kU (xs:=layer.map fun (r:Nat)=>(r:Int)) (ys:=[]) ?_
  walk_at "go"
  by_cases hl:layer=[]
  .rw[if_neg (by rw[hl];simp)]
   exact⟨⟨_,_,rfl⟩,hP layer as bs goal rk ck B hR hC fun _=>hl⟩
  rw[if_pos (by rw[List.map_eq_nil_iff];exact hl)]
  cases goal with
  |some g =>
   walk_at "go"
   exact⟨⟨_,_,rfl⟩,hP layer as bs (some g) rk ck B hR hC fun z=>by cases z⟩
  |none =>
  walk_at "go"
  rw[if_neg hl]
  refine⟨s_,_,kA bs,dN layer,dT (nT upW),rfl,rfl,rfl,rfl,layer,upW,bs,m,rfl,m5,fun l hl=>by rw[YV];exact (hR.la l (hC.ly l hl)).1,Y0,hR.nb,fun p hp=>(hR.lb p hp).1,fun Np nd hn hc=>⟨_,rfl,?_⟩⟩
  have up2:∀p∈Np,p.2∈kys as/\p.1<m/\cellAt t p.2 p.1<cellAt high p.2 p.1:=fun p hp=>by
   obtain ⟨q1,q2⟩:=hn p hp
   have q3:=hC.ly _ q1
   exact⟨q3,(WU p.2 (hR.la _ q3).1 p.1).mp q2⟩
  have Py:=hR.up nd up2
  generalize hck:(fun c=>if c∈Np.map Prod.fst then B+1 else ck c)=ck2 at Py
  have HK:bs.length+Np.length<=m:=by
   have:=jV (B:=m) Py.nb fun p hp=>(Py.lb p hp).1
   rw[ox,Mx,ox] at this
   exact this
  have lt:∀N6:List (Nat × Nat),(∀p∈N6,p.2∈Np.map Prod.fst)->2*(m - (bs++nw Np).length)+(if N6.map Prod.fst=[] then 0 else 1)<2*(m - bs.length)+1:=fun N6 h2=>by
   rw[Mx,ox]
   cases Np with
   |nil =>
    cases N6 with
    |nil=>simp
    |cons q l=>exact absurd (h2 q Fk) (by simp)
   |cons q l =>
    simp only[L6] at HK ⊢
    split<;>omega
  have Uc:∀N6:List (Nat × Nat),(∀p∈N6,p.2∈Np.map Prod.fst/\p.1∈dnW.getD p.2 [])->∀p∈N6,p.2∈kys (bs++nw Np)/\p.1<n/\cellAt low p.1 p.2<cellAt t p.1 p.2:=fun N6 h2 p hp=>by
   obtain ⟨q1,q2⟩:=h2 p hp
   have q3:p.2∈kys (bs++nw Np):=by rw[dO,gG];exact KE _ q1
   exact⟨q3,(Yz p.2 (Py.lb _ q3).1 p.1).mp q2⟩
  have Zw:∀N6:List (Nat × Nat),∀i∈kys (as++nw N6),i∉N6.map Prod.fst->∀j,j<m->cellAt t i j<cellAt high i j->j∈kys (bs++nw Np):=fun N6 i hi Tu j hj NZ=>by
   rw[dO,gG] at hi ⊢
   have Y6:i∈kys as:=(Mc.mp hi).resolve_right Tu
   by_cases Uw:i∈layer
   .exact hc i Uw j ((WU i (hR.la i Y6).1 j).mpr ⟨hj,NZ⟩)
   .exact Mf _ (hC.cr i Y6 Uw j hj NZ)
  have Zy:∀N6:List (Nat × Nat),(∀s∈Np.map Prod.fst,∀p∈dnW.getD s [],p∈kys as++N6.map Prod.fst)->∀j∈kys (bs++nw Np),∀i,i<n->cellAt low i j<cellAt t i j->i∈kys (as++nw N6):=fun N6 h2 j hj i hi NZ=>by
   have hjm:=(Py.lb j hj).1
   rw[dO,gG] at hj ⊢
   rcases Mc.mp hj with z|z
   .exact Mf _ (hC.cc j z i hi NZ)
   .exact h2 j z i ((Yz j hjm i).mpr ⟨hi,NZ⟩)
  refine⟨s_,_,L3.D.non,rfl,rfl,rfl,?_⟩
  walk_at "go"
  have gl0:∀c∈kys bs,r.getD c 0<=0:=hC.gl
  refine⟨Np.map Prod.fst,r,rfl,by rw[ox];omega,fun q hq=>by rw[lr];exact (Py.lb q (by rw[dO,gG];exact KE _ hq)).1,fun g hg XU=>?_,fun hno=>?_⟩
  .refine⟨rfl,?_⟩
   refine⟨s_,_,kA as,dN (Np.map Prod.fst),dT (nT dnW),rfl,rfl,rfl,rfl,Np.map Prod.fst,dnW,as,n,rfl,n5,fun l hl=>?_,X5,Py.na,fun p hp=>(Py.la p hp).1,fun N6 SD SK Yg=>⟨_,rfl,?_⟩⟩
   .rw[ldn]
    exact (Py.lb l (by rw[dO,gG];exact KE _ hl)).1
   exact⟨_,lt N6 (fun p hp=>(SK p hp).1),N6.map Prod.fst,as++nw N6,bs++nw Np,some g,_,ck2,_,_,_,rfl,rfl,Py.down SD (Uc N6 SK),⟨fun l hl=>by rw[dO,gG];exact KE _ hl,Zw N6,Zy N6 Yg,⟨by rw[dO,gG];exact KE _ hg,XU⟩⟩⟩
  .refine⟨rfl,?_⟩
   refine⟨s_,_,kA as,dN (Np.map Prod.fst),dT (nT dnW),rfl,rfl,rfl,rfl,Np.map Prod.fst,dnW,as,n,rfl,n5,fun l hl=>?_,X5,Py.na,fun p hp=>(Py.la p hp).1,fun N6 SD SK Yg=>⟨_,rfl,?_⟩⟩
   .rw[ldn]
    exact (Py.lb l (by rw[dO,gG];exact KE _ hl)).1
   exact⟨_,lt N6 (fun p hp=>(SK p hp).1),N6.map Prod.fst,as++nw N6,bs++nw Np,none,_,ck2,_,_,_,rfl,rfl,Py.down SD (Uc N6 SK),⟨fun l hl=>by rw[dO,gG];exact KE _ hl,Zw N6,Zy N6 Yg,fun q hq=>by
    rw[dO,gG] at hq
    rcases Mc.mp hq with z|z
    .exact gl0 q z
    .have:=hno q z;omega⟩⟩
def Ab{p:Nat × Nat}:∀{l:List (Nat × Nat)},(cellsOf (p::l))[0]?=some p
 |[]=>rfl
 |_::_=>rfl
def tS:∀{ps:List (Nat × Nat)},(cellsOf ps).getLast?=ps.getLast?
 |[]=>rfl
 |[p]=>rfl
 |p::q::r=>by
  have ih:=tS (ps:=q::r)
  have:cellsOf (q::r)≠[]:=by cases r<;>exact List.cons_ne_nil _ _
  show (p::(p.1,q.2)::cellsOf (q::r)).getLast?=_
  cases e:cellsOf (q::r) with
  |nil=>exact absurd e this
  |cons a l=>rw[NJ,NJ,<- e,ih,NJ]
def vx:∀{ps:List (Nat × Nat)},(cellsOf ps).length<=2*ps.length
 |[]=>Mi _
 |[p]=>by show 1<=2*1;omega
 |p::q::r=>by
  have ih:=vx (ps:=q::r)
  show (cellsOf (q::r)).length+1+1<=_
  simp only[L6] at ih ⊢;omega
def GY{ps:List (Nat × Nat)}{p:Nat × Nat}{P:DK}(e:ps.getLast?=some p)(h:P (j8 p)):asO (atI (ps.map j8) (-1)) P:=by
 have PY:ps≠[]:=fun z=>by rw[z] at e;cases e
 have hl:0<ps.length:=List.length_pos_iff.mpr PY
 refine (xy ?_).mpr h
 have:ixN (ps.map j8).length (-1)=some (ps.length - 1):=by
  unfold ixN
  rw[ox,if_neg (by omega),if_pos (by omega)]
  congr 1;omega
 unfold atI
 rw[this]
 show (ps.map j8)[ps.length - 1]?=_
 rw[L9,<- List.getLast?_eq_getElem?,e];rfl
def slA(low high t:List (List Int))(cs:List (Nat × Nat))(k:Nat):Int:=if k % 2=0 then cellAt high (cs.getD k (0,0)).1 (cs.getD k (0,0)).2 - cellAt t (cs.getD k (0,0)).1 (cs.getD k (0,0)).2 else cellAt t (cs.getD k (0,0)).1 (cs.getD k (0,0)).2 - cellAt low (cs.getD k (0,0)).1 (cs.getD k (0,0)).2
def DU:∀{l:List Int}{i:Nat}{v:Int},i<l.length->v<l.getD i 0->0<l.getD i 0->((l.set i v).map Int.toNat).sum<(l.map Int.toNat).sum
 |[],i,v,h,_,_=>by simp at h
 |x::l,0,v,_,h1,h2=>by
  replace h1:v<x:=h1
  replace h2:0<x:=h2
  simp only[List.set_cons_zero,Mb,Mj]
  omega
 |x::l,i+1,v,h,h1,h2=>by
  have:=DU (l:=l) (i:=i) (v:=v) (by simpa using h) h1 h2
  simp only[List.set_cons_succ,Mb,Mj]
  omega
def mu(w:List Int):Nat:=(w.map Int.toNat).sum
def ic(c:Cs):DSG:=fun x ds g1 g2 P=>∃(low high t:List (List Int)) (w r rows cols:List Int) (al ah:Addr) (g n m:Nat) (ps:List (Nat × Nat)),x=uk c al ah t w r/\ds=[.lst ((cellsOf ps).map j8)]/\g1=(al,dT low)/\g2=(ah,dT high)/\cT n m low/\cT n m high/\Fl.St n m rows cols low high t w r/\Wy n m low high t w g ps/\0<r.getD g 0/\n<=50 /\
 ∀t' w' r',Fl.St n m rows cols low high t' w' r'->mu w' < mu w->P (uk c al ah t' w' r')
def oZ{c:Cs}:Ep (ic c):=by
 intro x ds g1 g2 P P' k h
 obtain ⟨a1,a2,a3,a4,a5,a6,a7,a8,a9,a10,a11,a12,a13,e1,e2,e3,e4,h1,h2,h3,h4,h5,h6,h⟩:=h
 exact⟨a1,a2,a3,a4,a5,a6,a7,a8,a9,a10,a11,a12,a13,e1,e2,e3,e4,h1,h2,h3,h4,h5,h6,fun t' w' r' z1 z2=>k _ (h t' w' r' z1 z2)⟩
def p5{c:Cs}:∀x ds g1 g2 P,ic c x ds g1 g2 P->ds.length+1=2:=by
 intro x ds g1 g2 P h
 obtain ⟨_,_,_,_,_,_,_,_,_,_,_,_,_,_,e,_⟩:=h
 rw[e];rfl
def qK{c:Cs}{f:Addr}{fd:FuncData}(F:ni K c.Filling "pour" "Filling.pour" bZ dH f fd)(A_:Fns K mg c)(T:Txt K mg base)(xs:Exs K mg base c):aI P w K mg base CX0 2 f fd dH (spG K (ic c)):=by
 obtain ⟨f0,d0,Ou⟩:=A_.h_Filling_slack
 have PV:aI P w K mg base CX0 1 f0 d0 cV (spP K (gC c)):=qa Ou A_ T xs
 refine F.fn.ok dY (fun vs H Q E h=>Hc p5 h) (fun cdv A outer s H vs Q E hr h=>?_)
 refine⟨_,qy [7,8] (fun i hi x hx=>by
  rcases (show i=7\/i=8 by simpa using hi) with rfl|rfl<;>(obtain rfl:=MB hx;rfl)) ((ao (aR (i:=2) dY.nd rfl (by walk_at "o") (aP (bY (K:=K) rfl) (aP (az (K:=K) rfl) (pv 1) au (fun _ _=>rfl)) au (fun _ _=>rfl))) (ao (aR (i:=3) dY.nd rfl (by walk_at "o") (aP (bY (K:=K) rfl) (aP (az (K:=K) rfl) (pv 1) (Jd GJ au) (fun _ _=>rfl)) au (fun _ _=>rfl))) (ao (aR (i:=4) dY.nd rfl (by walk_at "o") (ax (m3 (K:=K) rfl rfl) (by rfl) T.min_ boot_min (aa (aS rW (cS (aa (aP (az (K:=K) rfl) (aV (K:=K) rfl (pv 0) rfl) (pv 3) (fun _ _=>rfl)) (aa (aP (az (K:=K) rfl) (aV (K:=K) rfl (pv 0) rfl) (pv 2) (fun _ _=>rfl)) aj))) (bK (aH.of (sc0:=(ak bZ)) (tn:=["step"]) (cap:=["self","way"]) (idx:=[0,1]) (by decide +kernel) rfl rfl) (bJ rfl T.range_ (aa (ax (aK (K:=K) rfl) (by rfl) T.len_ Mn (aa (pv 1) aj)) aj)) (gi.name (by decide)) (fun _ _ _ _ _=>aT (i:=0) (aN (l:=["step","self","way"]) (by decide +kernel)) rfl (by walk_at "o") (by first|exact .inl rfl|exact .inr rfl)) (fun _ _ _ _ _=>(o9 (pv 1) xs.i_Filling.cl Ou.mt PV (hr.mono (by decide)) Ou.bd .nil aZ (aa (pv 2) (aa (pv 0) aj)))))) aj))) (ao (i7 PassesOwn.never rfl (bJ rfl T.range_ (aa (ax (aK (K:=K) rfl) (by rfl) T.len_ Mn (aa (pv 1) aj)) aj)) (aT (i:=5) dY.nd rfl (by walk_at "o")) (ao (aR (i:=6) dY.nd rfl (by walk_at "o") (aP (az (K:=K) rfl) (aV (K:=K) rfl (pv 0) rfl) (aP (bY (K:=K) rfl) (aP (az (K:=K) rfl) (pv 1) (pv 5) (fun _ _=>rfl)) au (fun _ _=>rfl)) (fun _ _=>rfl))) (ar (kZ (aS fA (aP (az (K:=K) rfl) (pv 6) (aP (bY (K:=K) rfl) (aP (az (K:=K) rfl) (pv 1) (pv 5) (fun _ _=>rfl)) au (fun _ _=>rfl)) (fun _ _=>rfl)) (sX (bf lQ (aS gH (pv 5) au) au (bu _)) (pv 4) (Jd GJ (pv 4)))) (mq (pv 6) (aP (bY (K:=K) rfl) (aP (az (K:=K) rfl) (pv 1) (pv 5) (fun _ _=>rfl)) au (fun _ _=>rfl)) set_list))))) (ao (kZ (aS oj (aP (az (K:=K) rfl) (aV (K:=K) rfl (pv 0) rfl) (pv 3) (fun _ _=>rfl)) (pv 4)) (mq (aV (K:=K) rfl (pv 0) rfl) (pv 3) set_list)) (ar (kZ (aS oj (aP (az (K:=K) rfl) (aV (K:=K) rfl (pv 0) rfl) (pv 2) (fun _ _=>rfl)) (pv 4)) (mq (aV (K:=K) rfl (pv 0) rfl) (pv 2) set_list))))))))),Hi (N:=mD) 1 5 (ay (ST.post (Γn:=[0]) (bh 2 (iG (bb (af 1) (EM.er av)) (EM.er av)))) (ay (ST.post (Γn:=[0]) (bh 3 (iG (bb (af 1) (EM.er (Jk Ji (EM.er av)))) (EM.er av)))) (ay (ST.post (Γn:=[0]) (bh 4 (EM.es (we 0 7 8 (aW w6 (ai (EM.er (aA A5 (EM.er (dw (aQ (ER.bg (ES.er (bb (cw ["low","high","table","wants","rooms"] 3 xs.i_Filling.cl xs.n_Filling_wants (af 0)) (ES.er (af 3))))) (aQ (ER.bg (ES.er (bb (cw ["low","high","table","wants","rooms"] 4 xs.i_Filling.cl xs.n_Filling_rooms (af 0)) (ES.er (af 2))))) bw)))) (EM.er (bB (dP (ai (EM.er (aW cO (ai (ES.er (af 1)) aq))) aq)) (aU 0) (pj (C:=c.Filling) ["low","high","table","wants","rooms"] nK (ES.er (af 1)) (ai (ES.er (af 2)) (ai (ES.er (af 0)) aq))))))) aq)))))) (ay (jf (dP (ai (EM.er (aW cO (ai (ES.er (af 1)) aq))) aq)) (aU 5) (HZ 0 7 8 6 ["low","high","table","wants","rooms"] 2 xs.i_Filling.cl xs.n_Filling_table (ES.er (iG (bb (af 1) (ES.er (af 5))) (EM.er av))) (EM.er (aA dS (ES.er (bb (af 6) (ES.er (iG (bb (af 1) (ES.er (af 5))) (EM.er av))))) (EM.er (Gm (aY (EM.er (aA qS (EM.er (aA bG (ES.er (af 5)) (EM.er av))) (EM.er av)))) (ER.bg (ES.er (af 4))) (Jk Ji (ES.er (af 4))))))) (ES.er (iG (bb (af 1) (ES.er (af 5))) (EM.er av))))) (ay (By 0 ["low","high","table","wants","rooms"] 3 xs.i_Filling.cl xs.n_Filling_wants (qZ 0 7 8 (EM.er (aA dS (ES.er (bb (cw ["low","high","table","wants","rooms"] 3 xs.i_Filling.cl xs.n_Filling_wants (af 0)) (ES.er (af 3)))) (ES.er (af 4))))) (qZ 0 7 8 (ES.er (af 3)))) (By 0 ["low","high","table","wants","rooms"] 4 xs.i_Filling.cl xs.n_Filling_rooms (qZ 0 7 8 (EM.er (aA dS (ES.er (bb (cw ["low","high","table","wants","rooms"] 4 xs.i_Filling.cl xs.n_Filling_rooms (af 0)) (ES.er (af 2)))) (ES.er (af 4))))) (qZ 0 7 8 (ES.er (af 2))))))))) rfl rfl (fun s_ x ds g1 g2 P hS=>?_) h⟩
 obtain ⟨low,high,t,w,r,rows,cols,al,ah,g,n,m,ps,rfl,rfl,rfl,rfl,hL,hH,Wi,hW,hg,n5,hP⟩:=hS
 refine⟨rfl,?_⟩
 rw[show tu 5 s_ (uk c al ah t w r) [L3.D.lst ((cellsOf ps).map j8)] (al,dT low) (ah,dT high)=[some (.pin s_ (uk c al ah t w r)),some (.lst ((cellsOf ps).map j8)),none,none,none,none,none,some (.pin al (dT low)),some (.pin ah (dT high))] from rfl]
 have Vz:∃p0 l0,ps=p0::l0/\p0.2=g:=hW.hd
 obtain ⟨p0,l0,Zr,eg⟩:=Vz
 obtain ⟨pl,Yy,wl0⟩:=hW.ls
 have UB:(cellsOf ps)[0]?=some p0:=by rw[Zr];exact Ab
 have Ub:(cellsOf ps).getLast?=some pl:=by rw[tS];exact Yy
 have Uo:=tK hW.rg
 have W7:pl∈ps:=List.mem_of_getLast? Yy
 obtain ⟨pln,plm⟩:=hW.rg pl W7
 have gm:g<m:=by rw[<- eg];exact (hW.rg p0 (by rw[Zr];exact Fk)).2
 have Wc:ps.length<=50:=by
  have:=jV (B:=n) hW.n1 fun q hq=>by
   obtain ⟨p,hp,rfl⟩:=Ma.mp hq
   exact (hW.rg p hp).1
  rw[ox] at this;omega
 have hcn:(cellsOf ps).length<=100:=Mq vx (by omega)
 have ZF:Al (fun q=>cellAt t q.1 q.2<cellAt high q.1 q.2) (fun q=>cellAt low q.1 q.2<cellAt t q.1 q.2) (cellsOf ps):=zK.mpr ⟨hW.up,hW.lk⟩
 have pour:=fun x x1 xw xr al=>GZ (x:=x) Wi hW Yy x1 xw xr al
 have lw:=Wi.wl
 have lr:=Wi.rl
 have hT:=Wi.rt
 generalize Vz:cellsOf ps=cs at UB Ub Uo hcn ZF pour
 walk_at "go"
 refine lj (k:=0) UB ?_
 walk_at "go"
 refine GY Ub ?_
 walk_at "go"
 rw[eg]
 refine⟨s_,c.Filling,_,al,ah,dT low,dT high,[dT t,dI w,dI r],rfl,rfl,rfl,?_⟩
 walk_at "go"
 refine bo (by omega) ?_
 rw[Mg]
 refine⟨rfl,?_⟩
 refine bo (by omega) ?_
 rw[Mg]
 refine⟨rfl,by decide,?_⟩
 have WZ:∀k,k<cs.length->∃p,cs[k]?=some p/\slA low high t cs k=if k % 2=0 then cellAt high p.1 p.2 - cellAt t p.1 p.2 else cellAt t p.1 p.2 - cellAt low p.1 p.2:=fun k hk=>⟨cs[k],dz hk,by unfold slA;rw[gV,dz hk];rfl⟩
 refine eV (lo:=0) (n:=cs.length) (g:=fun (k:Nat)=>.int (slA low high t cs k)) (fun R h=>?_) (by omega) (fun k hk R h=>?_) ?_
 .walk_at "go"
  exact h
 .walk_at "gb"
  obtain ⟨p,ep,es⟩:=WZ k hk
  have hp:=Uo p (MN ep)
  rw[Na]
  rw[es] at h
  exact⟨low,high,t,w,r,n,m,k,cs,p,rfl,hL,hH,hT,ep,hp.1,hp.2,h⟩
 rw[show (List.range cs.length).map (fun (k:Nat)=>L3.D.int (slA low high t cs k))=((List.range cs.length).map fun k=>slA low high t cs k).map L3.D.int by rw[Mp];rfl]
 refine⟨⟨rfl,cP,by rw[ox,ox,Md];simp only[L6,N5];omega⟩,?_⟩
 rw[show L3.D.lst ([L3.D.int (w.getD pl.1 0),L3.D.int (r.getD g 0)]++((List.range cs.length).map fun k=>slA low high t cs k).map L3.D.int)=dI ([w.getD pl.1 0,r.getD g 0]++(List.range cs.length).map fun k=>slA low high t cs k) by show _=L3.D.lst (List.map L3.D.int _);rw[Mr];rfl]
 refine nX.mpr ⟨by simp,fun x hx SO=>?_⟩
 have x2:=SO (w.getD pl.1 0) (by simp)
 have x3:=SO (r.getD g 0) (by simp)
 have x4:∀k,k<cs.length->x<=slA low high t cs k:=fun k hk=>SO _ (KE _ (Ma.mpr ⟨k,Ms.mpr hk,rfl⟩))
 have x1:1<=x:=by
  rcases Mc.mp hx with z|z
  .simp only[L8,MF,or_false] at z
   omega
  .obtain ⟨k,hk,rfl⟩:=Ma.mp z
   have hk:=Ms.mp hk
   obtain ⟨p,ep,es⟩:=WZ k hk
   have q:=IH ZF k p ep
   rw[es]
   by_cases y:k % 2=0
   .rw[if_pos y] at q ⊢;omega
   .rw[if_neg y] at q ⊢;omega
 obtain ⟨Yj,_,_⟩:=pour x x1 x2 x3 (IQ fun j p ep=>by
  have hj:=(L7.mp ep).1
  obtain ⟨p',UE,es⟩:=WZ j hj
  rw[ep] at UE;cases UE
  have:=x4 j hj
  rw[es] at this
  by_cases y:j % 2=0
  .rw[if_pos y] at this ⊢;exact this
  .rw[if_neg y] at this ⊢;exact this)
 clear pour
 refine⟨by omega,?_⟩
 refine mE (lo:=0) (n:=cs.length) (fun k δ=>∃(tk:List (List Int)) (o5:Option D),δ=[some (.pin s_ (uk c al ah tk w r)),some (.lst (cs.map j8)),some (.int (g:Int)),some (.int (pl.1:Int)),some (.int x),o5,none,some (.pin al (dT low)),some (.pin ah (dT high))]/\cT n m tk/\ap (if k % 2=0 then x else -x) (cs.drop k) tk=ap x cs t) ⟨t,none,rfl,hT,rfl⟩ ?_ ?_
 .rintro k δ N hk ⟨tk,o5,rfl,hR,Tw⟩ hN
  rw[Na]
  have ek:cs[k]?=some cs[k]:=dz hk
  obtain ⟨p,hp⟩:∃p,cs[k]=p:=⟨_,rfl⟩
  rw[hp] at ek
  obtain ⟨pn,pm⟩:=Uo p (MN ek)
  have hrl:=hR.row pn
  have NZ:=hR.1
  rw[MD hk,hp] at Tw
  refine⟨s_,_,tk.map dI,rfl,rfl,by simp only[MQ,L6,N5];omega,s_,c.Filling,_,al,ah,dT low,dT high,[dT tk,dI w,dI r],rfl,rfl,rfl,?_⟩
  walk_at "go"
  refine lj ek ?_
  walk_at "go"
  refine⟨p.1,(rowAt tk p.1).map L3.D.int,by rw[eQ (by omega) (by omega),Mg],?_,cP,?_⟩
  .rw[L9,show tk[p.1]?=some (rowAt tk p.1) by unfold rowAt;rw[gV,dz (by omega)];rfl];rfl
  walk_at "go"
  refine lj ek ?_
  walk_at "go"
  refine bo (by omega) ?_
  rw[Mg]
  walk_at "go"
  have Pz:∀v:Int,ap (if (k+1) % 2=0 then x else -x) (cs.drop (k+1)) (setCell tk p.1 p.2 v)=ap x cs t->N [some (.pin s_ (L3.D.ins c.Filling ["low","high","table","wants","rooms"] [.raw (.ref al),.raw (.ref ah),.lst ((tk.map dI).set p.1 (.lst (((rowAt tk p.1).map L3.D.int).set p.2 (.int v)))),dI w,dI r])),some (.lst (cs.map j8)),some (.int (g:Int)),some (.int (pl.1:Int)),some (.int x),some (.int (k:Int)),none,some (.pin al (dT low)),some (.pin ah (dT high))]:=fun v hv=>by
   rw[t7,show L3.D.lst (((rowAt tk p.1).set p.2 v).map L3.D.int)=dI ((rowAt tk p.1).set p.2 v) from rfl,<- Pn]
   exact hN _ ⟨setCell tk p.1 p.2 v,_,rfl,hR.setCell pn,hv⟩
  have ZE:∀y:Int,ap y (p::cs.drop (k+1)) tk=ap (-y) (cs.drop (k+1)) (setCell tk p.1 p.2 (cellAt tk p.1 p.2+y)):=fun y=>rfl
  by_cases y:k % 2=0
  .rw[if_pos y,ZE] at Tw
   rw[if_pos (by omega)]
   refine lj ek ?_
   walk_at "go"
   exact⟨p.2,by rw[eQ (by omega) (by omega),Mg],Pz _ (by rw[if_neg (by omega)];exact Tw)⟩
  .rw[if_neg y,ZE,Int.neg_neg] at Tw
   rw[if_neg (by omega)]
   refine lj ek ?_
   walk_at "go"
   exact⟨p.2,by rw[eQ (by omega) (by omega),Mg],Pz _ (by rw[if_pos (by omega)];exact Tw)⟩
 .rintro δ ⟨tk,o5,rfl,hR,Tw⟩
  rw[O1] at Tw
  replace Tw:tk=ap x cs t:=Tw
  subst Tw
  walk_at "go"
  refine⟨s_,_,w.map L3.D.int,rfl,rfl,cP,s_,c.Filling,_,al,ah,dT low,dT high,[dT (ap x cs t),dI w,dI r],rfl,rfl,rfl,?_⟩
  walk_at "go"
  refine bo (by omega) ?_
  rw[Mg]
  refine⟨rfl,s_,c.Filling,_,al,ah,dT low,dT high,[dT (ap x cs t),dI w,dI r],rfl,rfl,rfl,?_⟩
  walk_at "go"
  refine⟨pl.1,by rw[eQ (by omega) (by omega),Mg],?_⟩
  rw[t7]
  refine⟨s_,_,r.map L3.D.int,rfl,rfl,cP,s_,c.Filling,_,al,ah,dT low,dT high,[dT (ap x cs t),dI (w.set pl.1 (w.getD pl.1 0 - x)),dI r],rfl,rfl,rfl,?_⟩
  walk_at "go"
  refine bo (by omega) ?_
  rw[Mg]
  refine⟨rfl,s_,c.Filling,_,al,ah,dT low,dT high,[dT (ap x cs t),dI (w.set pl.1 (w.getD pl.1 0 - x)),dI r],rfl,rfl,rfl,?_⟩
  walk_at "go"
  refine⟨g,by rw[eQ (by omega) (by omega),Mg],?_⟩
  rw[t7]
  exact hP _ _ _ Yj (DU (by omega) (by omega) wl0)
def vR(a b:List Int):List Int:=(List.range a.length).map fun (i:Nat)=>a.getD i 0 - b.getD i 0
def zw{a b:List Int}:(vR a b).length=a.length:=by unfold vR;rw[ox,Md]
def less_get{a b:List Int}{i:Nat}(h:i<a.length):(vR a b).getD i 0=a.getD i 0 - b.getD i 0:=by
 unfold vR
 rw[gV,L9,MK h];rfl
def dM(c:Cs):DSp:=fun ds P=>∃(rows cols:List Int) (low:List (List Int)) (al ah:Addr) (d:D) (n m:Nat),ds=[dI rows,dI cols,.pin al (dT low),.pin ah d]/\cT n m low/\rows.length=n/\cols.length=m/\1<=n/\n<=50/\m<=50/\P (uk c al ah low (vR rows (low.map List.sum)) (vR cols ((turned m low).map List.sum)))
def ow{c:Cs}:bE (dM c):=by
 intro xs P P' k h
 obtain ⟨a1,a2,a3,a4,a5,a6,a7,a8,e,h1,h2,h3,h4,h5,h6,h⟩:=h
 exact⟨a1,a2,a3,a4,a5,a6,a7,a8,e,h1,h2,h3,h4,h5,h6,k _ h⟩
def qi{c:Cs}:∀ds P,dM c ds P->ds.length=4:=by
 intro ds P h
 obtain ⟨_,_,_,_,_,_,_,_,e,_⟩:=h
 rw[e];rfl
def CO{c:Cs}:∀ds P,(dM c) ds P->(dM c) ds fun d=>(∃ns dd,d=.ins c.Filling ns dd)/\P d:=by
 intro ds P h
 unfold dM at h ⊢
 obtain ⟨a1,a2,a3,a4,a5,a6,a7,a8,e,h1,h2,h3,h4,h5,h6,h⟩:=h;exact⟨a1,a2,a3,a4,a5,a6,a7,a8,e,h1,h2,h3,h4,h5,h6,⟨_,_,rfl⟩,h⟩
def qR{c:Cs}{f:Addr}{fd:FuncData}(F:wk K mg "Filling" c.Filling "Filling.__init__" cI dF f fd)(A_:Fns K mg c)(T:Txt K mg base)(xs:Exs K mg base c):aI P w K mg base CX0 4 f fd dF (spN K c.Filling (dM c)):=by
 obtain ⟨f0,d0,Nh⟩:=A_.h_copied_table
 have OG:aI P w K mg base CX0 1 f0 d0 cF (spP K cG):=lN Nh A_ T xs
 obtain ⟨f1,d1,MM⟩:=A_.h_less_row
 have NV:aI P w K mg base CX0 1 f1 d1 eK (spP K cx):=ke MM A_ T xs
 obtain ⟨f2,d2,Ng⟩:=A_.h_sums_of_rows
 have OF:aI P w K mg base CX0 1 f2 d2 cJ (spP K cE):=lS Ng A_ T xs
 obtain ⟨f3,d3,NR⟩:=A_.h_sums_of_columns
 have PB:aI P w K mg base CX0 3 f3 d3 bW (spP K cN):=oo NR A_ T xs
 refine F.fn.ok qE (fun vs H Q E h=>Cy qi h) (fun cdv A outer s H vs Q E hr h=>?_)
 refine⟨_,(ao (hE (K:=K) rfl (pv 0) (pv 3) rfl) (ao (hE (K:=K) rfl (pv 0) (pv 4) rfl) (ao (hE (K:=K) rfl (pv 0) (aB OG (hr.mono (by decide)) rfl Nh.mg Nh.fn.kp Nh.bd .nil aZ (aa (pv 3) aj)) rfl) (ao (hE (K:=K) rfl (pv 0) (aB NV (hr.mono (by decide)) rfl MM.mg MM.fn.kp MM.bd .nil aZ (aa (pv 1) (aa (aB OF (hr.mono (by decide)) rfl Ng.mg Ng.fn.kp Ng.bd .nil aZ (aa (pv 3) aj)) aj))) rfl) (ar (hE (K:=K) rfl (pv 0) (aB NV (hr.mono (by decide)) rfl MM.mg MM.fn.kp MM.bd .nil aZ (aa (pv 2) (aa (aB PB (hr.mono (by decide)) rfl NR.mg NR.fn.kp NR.bd .nil aZ (aa (pv 3) aj)) aj))) rfl)))))),El (N:=jT) (mw xs.i_Filling.cl xs.n_Filling_low (ER.rawOf (ES.er (af 3))) (mw xs.i_Filling.cl xs.n_Filling_high (ER.rawOf (ES.er (af 4))) (mw xs.i_Filling.cl xs.n_Filling_table (aJ (S:=cG) kd (ai (oF 3) aq)) (mw xs.i_Filling.cl xs.n_Filling_wants (aJ (S:=cx) gu (ai (ES.er (af 1)) (ai (EM.er (aJ (S:=cE) km (ai (oF 3) aq))) aq))) (BL xs.i_Filling.cl xs.n_Filling_rooms (aJ (S:=cx) gu (ai (ES.er (af 2)) (ai (EM.er (aJ (S:=cN) mz (ai (oF 3) aq))) aq)))))))) (fun ds P hS=>?_) (by decide) (by decide +kernel) (by decide) h⟩
 obtain ⟨rows,cols,low,al,ah,d,n,m,rfl,hL,lr,lc,n1,n5,m5,hP⟩:=hS
 rw[show aL (jT.drop 1) [dI rows,dI cols,.pin al (dT low),.pin ah d]=[some (dI rows),some (dI cols),some (.pin al (dT low)),some (.pin ah d)] from rfl]
 have l1:=hL.1
 walk_at "go"
 refine⟨al,_,rfl,?_⟩
 walk_at "go"
 refine⟨ah,_,rfl,?_⟩
 walk_at "go"
 refine⟨low,rfl,by omega,?_⟩
 walk_at "go"
 refine⟨low,rfl,by omega,?_⟩
 refine⟨rows,_,rfl,by rw[ox];omega,by omega,?_⟩
 walk_at "go"
 refine⟨low,n,m,rfl,hL,n1,by omega,by omega,?_⟩
 refine⟨cols,_,rfl,by unfold turned;rw[ox,ox,Md];omega,by omega,?_⟩
 exact hP
def sT{ms:List Int}{l:List Nat}(p:ms.Perm (l.map fun (x:Nat)=>(x:Int)))(o:ms.Pairwise (·<=·))(nd:l.Nodup):∃R:List Nat,ms=R.map (fun (x:Nat)=>(x:Int))/\R.Perm l/\R.Pairwise (· < ·):=by
 have MH:∀x∈ms,0<=x:=fun x hx=>by
  obtain ⟨y,_,rfl⟩:=Ma.mp (p.mem_iff.mp hx)
  omega
 have e:(ms.map Int.toNat).map (fun (x:Nat)=>(x:Int))=ms:=by
  rw[Mp]
  conv=>rhs;rw[<- List.map_id ms]
  exact Nf fun x hx=>by show ((x.toNat:Nat):Int)=x;have:=MH x hx;omega
 have p2:(ms.map Int.toNat).Perm l:=by
  have:=p.map Int.toNat
  rw[Mp] at this
  rw [show l.map (Int.toNat ∘ fun (x : Nat) => (x : Int)) = l by conv => rhs; rw [<- List.map_id l]
                                                                 exact Nf fun x _=>rfl] at this
  exact this
 refine⟨ms.map Int.toNat,e.symm,p2,?_⟩
 have SD:(ms.map Int.toNat).Nodup:=p2.nodup_iff.mpr nd
 have le2:(ms.map Int.toNat).Pairwise (·<=·):=List.pairwise_map.mpr (o.imp fun {a b} h=>by omega)
 exact (le2.and SD).imp fun {a b} h=>by omega
def CZ{n m:Nat}{rows cols:List Int}{low high:List (List Int)}{j:Nat}(hL:cT n m low)(hj:j<m)(h:cols.getD j 0<lV low j):Cut n m rows cols low high [] [j]:=by
 unfold Cut
 have e1:sN n (fun i=>if i∈([]:List Nat) then rows.getD i 0 else 0)=0:=by
  rw[bq (g:=fun _=>0) fun i _=>if_neg MF,cM]
 have e2:sN m (fun j'=>if j'∈[j] then cols.getD j' 0 else 0)=cols.getD j 0:=by
  rw[<- wt (f:=fun j'=>cols.getD j' 0) (by simp) (by simpa using hj)];simp
 have e3:sN n (fun i=>sN m fun j'=>(if i∈([]:List Nat)/\j'∉[j] then cellAt high i j' else 0) - (if i∉([]:List Nat)/\j'∈[j] then cellAt low i j' else 0))=0 - lV low j:=by
  rw[qV hL]
  conv=>rhs;rw[<- cM (n:=n)]
  rw[<- so]
  refine bq fun i _=>?_
  have:sN m (fun j'=>(if i∈([]:List Nat)/\j'∉[j] then cellAt high i j' else 0) - (if i∉([]:List Nat)/\j'∈[j] then cellAt low i j' else 0))=sN m (fun _=>0) - sN m (fun j'=>if j'∈[j] then cellAt low i j' else 0):=by
   rw[<- so]
   refine bq fun j' _=>?_
   rw[if_neg (fun z=>MF z.1)]
   congr 1
   by_cases z:j'∈[j]
   .rw[if_pos z,if_pos ⟨MF,z⟩]
   .rw[if_neg z,if_neg (fun y=>z y.2)]
  rw[this,cM,<- wt (f:=fun j'=>cellAt low i j') (by simp) (by simpa using hj)]
  simp
 rw[e1,e2,e3];omega
def A2{a b:Int}:eqV (V.int a) (V.int b)=true↔a=b:=by
 show decide (a=b)=true↔_
 rw[decide_eq_true_eq]
def yU{M:Int}:∀{l:List Int},M∈l->∃j,j<l.length/\l.getD j 0=M/\∀k,k<j->l.getD k 0≠M
 |[],h=>nomatch h
 |x::l,h=>by
  by_cases e:x=M
  .exact⟨0,by simp,e,fun k hk=>by omega⟩
  .obtain ⟨j,h1,h2,h3⟩:=yU (l:=l) ((L8.mp h).resolve_left (fun z=>e z.symm))
   refine⟨j+1,by simpa using h1,h2,fun k hk=>?_⟩
   cases k with
   |zero=>exact e
   |succ k=>exact h3 k (by omega)
structure Bt(n m:Nat)(rows cols:List Int)(low high t:List (List Int)):Prop where
 rt:cT n m t
 bd:∀i j,i<n->j<m->cellAt low i j<=cellAt t i j/\cellAt t i j<=cellAt high i j
 rs:∀i,i<n->lT t i=rows.getD i 0
 cs:∀j,j<m->lV t j=cols.getD j 0
structure Ct(n m:Nat)(rows cols:List Int)(low high:List (List Int))(R Cs:List Nat):Prop where
 up1:R.Pairwise (· < ·)
 up2:Cs.Pairwise (· < ·)
 l1:∀i∈R,i<n
 l2:∀j∈Cs,j<m
 cut:Cut n m rows cols low high R Cs
def gZ(c:Cs):DSO:=fun x g1 g2 P=>∃(low high:List (List Int)) (w r rows cols:List Int) (al ah:Addr) (n m:Nat),x=uk c al ah low w r/\g1=(al,dT low)/\g2=(ah,dT high)/\cT n m low/\cT n m high/\Low n m low high/\1<=n/\n<=50/\1<=m/\m<=50/\rows.length=n/\cols.length=m/\rows.sum=cols.sum/\w.length=n/\r.length=m /\
 (∀i,i<n->rows.getD i 0=w.getD i 0+lT low i)/\(∀j,j<m->cols.getD j 0=r.getD j 0+lV low j) /\
 (∀t,Bt n m rows cols low high t->P (.tup [.str "table",dT t]))/\∀R Cs,Ct n m rows cols low high R Cs->P (.tup [.str "cut",dN R,dN Cs])
def mH{c:Cs}:Ez (gZ c):=by
 intro x g1 g2 P P' k h
 obtain ⟨a1,a2,a3,a4,a5,a6,a7,a8,a9,a10,e1,e2,e3,h1,h2,h3,h4,h5,h6,h7,h8,h9,Yr,Yq,Yp,h13,h14,h15,h16⟩:=h
 exact⟨a1,a2,a3,a4,a5,a6,a7,a8,a9,a10,e1,e2,e3,h1,h2,h3,h4,h5,h6,h7,h8,h9,Yr,Yq,Yp,h13,h14,fun t z=>k _ (h15 t z),fun R C z=>k _ (h16 R C z)⟩
def ok_Filling_outcome{c:Cs}{f:Addr}{fd:FuncData}(F:ni K c.Filling "outcome" "Filling.outcome" bH bX f fd)(A_:Fns K mg c)(T:Txt K mg base)(xs:Exs K mg base c):aI P w K mg base CX0 5 f fd bX (spO K (gZ c)):=by
 obtain ⟨f0,d0,Ox⟩:=A_.h_Reach_init
 have QA:aI P w K mg base CX0 3 f0 d0 fj (Fv K c.Reach (fc c)):=uK Ox A_ T xs
 obtain ⟨f1,d1,OI⟩:=A_.h_Filling_pour
 have Qb:aI P w K mg base CX0 2 f1 d1 dH (spG K (ic c)):=qK OI A_ T xs
 obtain ⟨f2,d2,Pf⟩:=A_.h_Reach_way
 have RH:aI P w K mg base CX0 1 f2 d2 fP (spP K (ki c)):=wx Pf A_ T xs
 refine F.fn.ok jN (fun vs H Q E h=>Iy h) (fun cdv A outer s H vs Q E hr h=>?_)
 refine⟨_,qy [2,3] (fun i hi x hx=>by
  rcases (show i=2\/i=3 by simpa using hi) with rfl|rfl<;>(obtain rfl:=MB hx;rfl)) ((ao (eS (bf yR (ax (m3 (K:=K) rfl rfl) (by rfl) T.min_ boot_min (aa (aV (K:=K) rfl (pv 0) rfl) aj)) au (bu _)) (ar (aM (ir (aa dX (aa (cS aj) (aa (cS (aa (rS Nk PySem.F.slot_list_index PySem.F.type_list_index Ew (aV (K:=K) rfl (pv 0) rfl) (aa (ax (m3 (K:=K) rfl rfl) (by rfl) T.min_ boot_min (aa (aV (K:=K) rfl (pv 0) rfl) aj)) aj)) aj)) aj)))))) bt) (ao (sE PassesOwn.never (bf vD (ax (uX (K:=K) rfl rfl) (by rfl) T.max_ boot_max (aa (aV (K:=K) rfl (pv 0) rfl) aj)) au (bu _)) (ao (aR (i:=1) jN.nd rfl (by walk_at "o") (rq Ox.mkk QA (hr.mono (by decide)) rfl Ox.mg Ox.bd .nil aZ (aa (pv 0) aj))) (ao (eS (bf ED (aV (K:=K) rfl (pv 1) rfl) jG (bu _)) (ar (aM (ir (aa dX (aa (ax (oW rfl) (by rfl) T.sorted_ boot_sorted (aa (aV (K:=K) rfl (pv 1) rfl) aj)) (aa (ax (oW rfl) (by rfl) T.sorted_ boot_sorted (aa (aV (K:=K) rfl (pv 1) rfl) aj)) aj)))))) bt) (ar (iO (o9 (pv 0) xs.i_Filling.cl OI.mt Qb (hr.mono (by decide)) OI.bd .nil aZ (aa (yx (pv 1) xs.i_Reach.cl Pf.mt RH (hr.mono (by decide)) Pf.bd .nil aZ) aj))))))) (ar (aM (ir (aa dX (aa (aV (K:=K) rfl (pv 0) rfl) aj)))))))),Ie (Γn:=[]) (N:=ko) 1 (ay (gn (BY 0 2 3 (aY (EM.er (aA pH (EM.er (aW w6 (ai (ES.er (cw ["low","high","table","wants","rooms"] 4 xs.i_Filling.cl xs.n_Filling_rooms (af 0))) aq))) (EM.er av))))) (aO (M:=[]) (we 0 2 3 (iq (aQ dW (aQ (dw bw) (aQ (dw (aQ (Ee (ES.er (cw ["low","high","table","wants","rooms"] 4 xs.i_Filling.cl xs.n_Filling_rooms (af 0))) (EM.er (aW w6 (ai (ES.er (cw ["low","high","table","wants","rooms"] 4 xs.i_Filling.cl xs.n_Filling_rooms (af 0))) aq)))) bw)) bw)))))) bA) (ay (rF (BY 0 2 3 (aY (EM.er (aA pH (EM.er (aW Ec (ai (ES.er (cw ["low","high","table","wants","rooms"] 3 xs.i_Filling.cl xs.n_Filling_wants (af 0))) aq))) (EM.er av))))) (ay (ST.post (Γn:=[0]) (bh 1 (EM.es (we 0 2 3 (EB qO tT (ai (ES.er (af 0)) aq)))))) (ay (gn (aY (EM.er (aA IV (ES.er (cw ["rows","columns","goal"] 2 xs.i_Reach.cl xs.n_Reach_goal (af 1))) (EM.er j3)))) (aO (M:=[]) (iq (aQ dW (aQ (aW Bl (ai (ES.er (cw ["rows","columns","goal"] 0 xs.i_Reach.cl xs.n_Reach_rows (af 1))) aq)) (aQ (aW Bl (ai (ES.er (cw ["rows","columns","goal"] 1 xs.i_Reach.cl xs.n_Reach_columns (af 1))) aq)) bw))))) bA) (HF 0 2 3 oZ (Ip (EM.es (pj (C:=c.Reach) ["rows","columns","goal"] rH (ES.er (af 1)) aq)) Kb))))) (aO (M:=[0]) (iq (iQ dW (iQ (Ij 0 ["low","high","table","wants","rooms"] 2 xs.i_Filling.cl xs.n_Filling_table) bw)))))) rfl rfl (fun s_ x g1 g2 P hS=>?_) h⟩
 obtain ⟨low,high,w,r,rows,cols,al,ah,n,m,rfl,rfl,rfl,hL,hH,Ur,n1,n5,m1,m5,lr,lc,PL,lw,lr2,hrs,Vz,hT,Zk⟩:=hS
 rw[show tu 1 s_ (uk c al ah low w r) [] (al,dT low) (ah,dT high)=[some (.pin s_ (uk c al ah low w r)),none,some (.pin al (dT low)),some (.pin ah (dT high))] from rfl]
 refine⟨s_,c.Filling,_,al,ah,dT low,dT high,[dT low,dI w,dI r],rfl,rfl,rfl,?_⟩
 walk_at "go"
 intro M hM SO
 have rge:∀j,j<m->M<=r.getD j 0:=fun j hj=>SO _ (by rw[gV,dz (by omega)];exact MO _)
 by_cases VH:M<0
 .rw[if_pos VH]
  refine⟨s_,c.Filling,_,al,ah,dT low,dT high,[dT low,dI w,dI r],rfl,rfl,rfl,?_⟩
  walk_at "go"
  refine yg rfl ⟨cP,by omega,fun M' Zi XI=>?_⟩
  obtain ⟨j,hj,ej,hf⟩:=yU Zi
  have hMM:=XI M hM
  have at_:∀k,k<r.length->(r.map L3.D.int)[k]?=some (.int (r.getD k 0)):=fun k hk=>by
   rw[L9,dz hk,gV,dz hk];rfl
  refine⟨j,⟨_,at_ j hj,?_⟩,fun k z hk ez=>?_,by decide,by decide,?_⟩
  .rw[ej];exact A2.mpr rfl
  .rw[at_ k (by omega)] at ez
   cases ez
   exact Bool.eq_false_iff.mpr fun q=>hf k hk (A2.mp q)
  .have:=Vz j (by omega)
   exact Zk [] [j] ⟨.nil,List.pairwise_singleton _ _,fun i hi=>(nomatch hi),fun q hq=>by cases Gc.mp hq;omega,CZ hL (by omega) (by omega)⟩
 rw[if_neg VH]
 have st0:Fl.St n m rows cols low high low w r:=⟨hL,lw,lr2,fun i j hi hj=>⟨OJ _,Ur i j hi hj⟩,hrs,Vz,fun j hj=>by have:=rge j hj;omega,fun i hi _ j hj=>rfl⟩
 refine⟨fun μ δ=>∃(t:List (List Int)) (w r:List Int) (o1:Option D),μ=mu w/\δ=[some (.pin s_ (uk c al ah t w r)),o1,some (.pin al (dT low)),some (.pin ah (dT high))]/\Fl.St n m rows cols low high t w r,⟨_,low,w,r,none,rfl,rfl,st0⟩,?_⟩
 rintro μ δ ⟨t,w,r,o1,rfl,rfl,hs⟩
 have lw:=hs.wl
 refine⟨s_,c.Filling,_,al,ah,dT low,dT high,[dT t,dI w,dI r],rfl,rfl,rfl,?_⟩
 walk_at "go"
 intro M hM T7
 have wle:∀i,i<n->w.getD i 0<=M:=fun i hi=>T7 _ (by rw[gV,dz (by omega)];exact MO _)
 by_cases VH:0<M
 .rw[if_pos VH]
  obtain ⟨k,hk,ek⟩:∃k,k<n/\w.getD k 0=M:=by
   obtain ⟨k,hk,e⟩:=NY hM
   exact⟨k,by omega,by rw[gV,dz hk];exact e⟩
  refine⟨s_,c.Filling,_,al,ah,dT low,dT high,[dT t,dI w,dI r],rfl,rfl,rfl,?_⟩
  walk_at "go"
  refine⟨low,high,t,w,r,n,m,rfl,hL,hH,hs.rt,hs.wl,hs.rl,n1,n5,m1,m5,fun layer as bs goal rk ck B hR hC hg=>?_⟩
  cases goal with
  |none =>
   have Y4:=hg rfl
   walk_at "go"
   have la:(kys as).length<=50:=Mq (jV hR.na fun p hp=>(hR.la p hp).1) n5
   have lb:(kys bs).length<=50:=Mq (jV hR.nb fun p hp=>(hR.lb p hp).1) m5
   refine⟨(kys as).map fun (p:Nat)=>(p:Int),Bh,by rw[ox];omega,fun ms p1 p2=>?_⟩
   refine⟨(kys bs).map fun (p:Nat)=>(p:Int),Bh,by rw[ox];omega,fun ms2 q1 q2=>?_⟩
   obtain ⟨R,rfl,rp,ru⟩:=sT p1 p2 hR.na
   obtain ⟨Cs,rfl,cp,cu⟩:=sT q1 q2 hR.nb
   walk_at "go"
   refine Zk R Cs ⟨ru,cu,fun i hi=>(hR.la i (rp.mem_iff.mp hi)).1,fun j hj=>(hR.lb j (cp.mem_iff.mp hj)).1,KA hs (fun i hi hw=>rp.mem_iff.mpr (hR.st i hi hw)) (fun i hi=>?_) (fun i hi j hj NZ=>cp.mem_iff.mpr (hC.cr i (rp.mem_iff.mp hi) (by rw[Y4];exact MF) j hj NZ)) (fun j hj=>hC.gl j (cp.mem_iff.mp hj)) (fun j hj i hi NZ=>rp.mem_iff.mpr (hC.cc j (cp.mem_iff.mp hj) i hi NZ)) k hk (by omega)⟩
   have Qf:=rp.mem_iff.mp hi
   refine⟨(hR.la i Qf).1,?_⟩
   obtain ⟨o,ho⟩:=zW Qf
   rcases hR.pa i o ho with z|⟨c',_,z2,_,z4⟩
   .exact .inl z.2
   .exact .inr ⟨c',(hR.lb c' z2).1,z4⟩
  |some g =>
   walk_at "go"
   refine⟨s_,_,_,al,ah,dT low,dT high,rfl,rfl,rfl,by decide +kernel,?_⟩
   walk_at "go"
   refine⟨low,high,t,w,as,bs,rk,ck,n,m,B,g,rfl,hR,hC.gl.1,n5,fun ps hW=>?_⟩
   refine⟨low,high,t,w,r,rows,cols,al,ah,g,n,m,ps,rfl,rfl,rfl,rfl,hL,hH,hs,hW,hC.gl.2,n5,fun t' w' r' RI Sr=>?_⟩
   exact⟨mu w',Sr,t',w',r',_,rfl,rfl,RI⟩
 .rw[if_neg VH]
  walk_at "go"
  refine⟨s_,_,dT t,rfl,rfl,?_⟩
  walk_at "go"
  have fl:=filled hs lr lc PL fun i hi=>by have:=wle i hi;omega
  exact hT t ⟨hs.rt,hs.bd,fl.1,fl.2⟩
def gA(c:Cs):DSX:=fun ds P R=>∃(rows cols:List Int) (low high:List (List Int)) (n m:Nat),ds=[dI rows,dI cols,dT low,dT high]/\cT n m low/\cT n m high/\1<=n/\n<=50/\1<=m/\m<=50/\rows.length=n/\cols.length=m /\
 (¬ Low n m low high->R c.NoBounds)/\(Low n m low high->rows.sum≠cols.sum->P (.tup [.str "unlike",.int rows.sum,.int cols.sum])) /\
 (Low n m low high->rows.sum=cols.sum->∀t,Bt n m rows cols low high t->P (.tup [.str "table",dT t]))/\(Low n m low high->rows.sum=cols.sum->∀U V,Ct n m rows cols low high U V->P (.tup [.str "cut",dN U,dN V]))
def jI{c:Cs}:ja (gA c):=by
 intro xs P P' R R' k kr h
 obtain ⟨a1,a2,a3,a4,a5,a6,e,h1,h2,h3,h4,h5,h6,h7,h8,h9,Yr,Yq,Yp⟩:=h
 exact⟨a1,a2,a3,a4,a5,a6,e,h1,h2,h3,h4,h5,h6,h7,h8,fun z=>kr _ (h9 z),fun z y=>k _ (Yr z y),fun z y t q=>k _ (Yq z y t q),fun z y U V q=>k _ (Yp z y U V q)⟩
def oH{c:Cs}:∀ds P R,gA c ds P R->ds.length=4:=by
 intro ds P R h
 obtain ⟨_,_,_,_,_,_,e,_⟩:=h
 rw[e];rfl
def p7{c:Cs}{f:Addr}{fd:FuncData}(F:FnAt K mg "table_between" cn cW f fd)(A_:Fns K mg c)(T:Txt K mg base)(xs:Exs K mg base c):aI P w K mg base (CXR P w) 6 f fd cW (spX K (gA c)):=by
 obtain ⟨f0,d0,Ob⟩:=A_.h_check_bounds
 have Qa:aI P w K mg base (CXR P w) 2 f0 d0 dJ (spX K (ib c)):=qD Ob A_ T xs
 obtain ⟨f1,d1,Oc⟩:=A_.h_Filling_outcome
 have PH:aI P w K mg base CX0 5 f1 d1 bX (spO K (gZ c)):=ok_Filling_outcome Oc A_ T xs
 obtain ⟨f2,d2,Od⟩:=A_.h_Filling_init
 have Qc:aI P w K mg base CX0 4 f2 d2 dF (spN K c.Filling (dM c)):=qR Od A_ T xs
 refine F.fn.okX p9 (fun vs H Q E h=>m4 oH h) (fun cdv A outer s H vs Q E hr h=>?_)
 refine⟨_,(ao (iO (aB Qa (hr.mono (by decide)) rfl Ob.mg Ob.fn.kp Ob.bd .nil tH (PA.nox (aa (pv 2) (aa (pv 3) aj))))) (PSs.nox (ao (eS (bf DP (ax (eR (K:=K) rfl rfl) (by rfl) T.sum_ boot_sum (aa (pv 0) aj)) (ax (eR (K:=K) rfl rfl) (by rfl) T.sum_ boot_sum (aa (pv 1) aj)) (bu _)) (ar (aM (ir (aa dX (aa (ax (eR (K:=K) rfl rfl) (by rfl) T.sum_ boot_sum (aa (pv 0) aj)) (aa (ax (eR (K:=K) rfl rfl) (by rfl) T.sum_ boot_sum (aa (pv 1) aj)) aj)))))) bt) (ar (aM (yx (rq Od.mkk Qc (hr.mono (by decide)) rfl Od.mg Od.bd .nil aZ (aa (pv 0) (aa (pv 1) (aa (pv 2) (aa (pv 3) aj))))) xs.i_Filling.cl Oc.mt PH (hr.mono (by decide)) Oc.bd .nil aZ)))))),mS (Γn:=[]) (N:=jg) (fun R=>(i8 (xu pf (ai (ES.er (af 2)) (ai (ES.er (af 3)) aq))) (ST.sx (ay (gn (aY (EM.er (aA KP (EM.er (aW mP (ai (ES.er (af 0)) aq))) (EM.er (aW mP (ai (ES.er (af 1)) aq)))))) (aO (M:=[]) (iq (aQ dW (aQ (aW mP (ai (ES.er (af 0)) aq)) (aQ (aW mP (ai (ES.er (af 1)) aq)) bw))))) bA) (aO (M:=[]) (HA ow mH)))))) (fun ds P R hS=>?_) h⟩
 obtain ⟨rows,cols,low,high,n,m,rfl,hL,hH,n1,n5,m1,m5,lr,lc,hR,hU,hT,hC⟩:=hS
 rw[show aL jg [dI rows,dI cols,dT low,dT high]=[some (dI rows),some (dI cols),some (dT low),some (dT high)] from rfl]
 walk_at "go"
 refine⟨low,high,n,m,rfl,hL,hH,n5,m5,fun Ur=>?_,fun hb=>hR hb⟩
 walk_at "go"
 by_cases he:rows.sum=cols.sum
 .rw[if_neg (fun z=>z he)]
  refine⟨dI rows,dI cols,dT low,dT high,rfl,rfl,rfl,rfl,rfl,rfl,fun a2 a3=>?_⟩
  refine⟨rows,cols,low,a2,a3,dT high,n,m,rfl,hL,lr,lc,n1,n5,m5,⟨_,_,rfl,by decide +kernel⟩,?_⟩
  have l1:=hL.1
  refine⟨low,high,_,_,rows,cols,a2,a3,n,m,rfl,rfl,rfl,hL,hH,Ur,n1,n5,m1,m5,lr,lc,he,by rw[zw];exact lr,by rw[zw];exact lc,fun i hi=>?_,fun j hj=>?_,hT Ur he,hC Ur he⟩
  .rw[less_get (by omega)]
   have:(low.map List.sum).getD i 0=lT low i:=by
    unfold lT rowAt
    rw[gV,L9,dz (by omega),gV,dz (by omega)];rfl
   rw[this];omega
  .rw[less_get (by omega)]
   have:((turned m low).map List.sum).getD j 0=lV low j:=by
    unfold turned lV
    rw[gV,L9,L9,MK hj];rfl
   rw[this];omega
 .rw[if_pos he]
  walk_at "go"
  exact hU Ur he
def reach(ns:List Int)(m:Int):Int:=((ns.filter fun n=>decide (m<=n)).length:Nat)
def dD:DSp:=fun ds P=>∃ns m,ds=[dI ns,.int m]/\ns.length<=1000/\P (.int (reach ns m))
def nh:bE dD:=by
 intro xs P P' k h
 unfold dD at h ⊢
 grind
def nM:∀ds P,dD ds P->ds.length=2:=by
 intro ds P h
 obtain ⟨_,_,e,_⟩:=h
 rw[e];rfl
def oE{c:Cs}{f:Addr}{fd:FuncData}(F:FnAt K mg "how_many_reach" bF cz f fd)(A_:Fns K mg c)(T:Txt K mg base)(xs:Exs K mg base c):aI P w K mg base CX0 1 f fd cz (spP K dD):=by
 refine F.fn.ok oM (fun vs H Q E h=>bc nM h) (fun cdv A outer s H vs Q E hr h=>?_)
 refine⟨_,(ar (aM (ax (aK (K:=K) rfl) (by rfl) T.len_ Mn (aa (rj rfl (aH.of (sc0:=(ak bF)) (tn:=["number"]) (cap:=["level"]) (idx:=[1]) (by decide +kernel) rfl rfl) (bS (K:=K) rfl (pv 0)) (gi.name (by decide)) (fun _ _ _ _ _=>aT (i:=0) (aN (l:=["number","level"]) (by decide +kernel)) rfl (by walk_at "o") (by first|exact .inl rfl|exact .inr rfl)) (fun _ _ _ _ _=>rh (bf LI (pv 0) (pv 1) (bu _))) (fun _ _ _ _ _=>(pv 0)) (by intro _;rfl)) aj)))),bz (Γn:=[]) (N:=iE) (aO (M:=[]) (aW cO (ai (EM.er (rd (dm (af 0)) (aU 0) (aY (EM.er (aA pH (ES.er (af 0)) (ES.er (af 1))))) (ER.bg (ES.er (af 0))))) aq))) (fun ds P hS=>?_) h⟩
 obtain ⟨ns,m,rfl,hl,hP⟩:=hS
 rw[show aL iE [dI ns,.int m]=[some (dI ns),some (.int m)] from rfl]
 walk_at "v"
 refine zS (ns:=ns) (p:=fun n=>decide (m<=n)) (g:=L3.D.int) (fun R h=>h) hl (fun n hn R h=>?_) ?_
 .walk_at "vb"
  by_cases c:m<=n
  .rw[decide_eq_true c] at h;rw[if_pos c];exact h
  .rw[decide_eq_false c] at h;rw[if_neg c];exact h
 .rw[tQ,ox];exact hP
def ij(ns:List Int)(m:Nat):List Int:=(List.range m).map fun (k:Nat)=>reach ns (1+(k:Int))
def jo:DSp:=fun ds P=>∃(ns:List Int) (m:Nat),ds=[dI ns,.int m]/\ns.length<=1000/\m<=8/\P (dI (ij ns m))
def xh:bE jo:=by
 intro xs P P' k h
 unfold jo at h ⊢
 grind
def zA:∀ds P,jo ds P->ds.length=2:=by
 intro ds P h
 obtain ⟨_,_,e,_⟩:=h
 rw[e];rfl
def zY{c:Cs}{f:Addr}{fd:FuncData}(F:FnAt K mg "heap_of" gg iA f fd)(A_:Fns K mg c)(T:Txt K mg base)(xs:Exs K mg base c):aI P w K mg base CX0 2 f fd iA (spP K jo):=by
 obtain ⟨f0,d0,NX⟩:=A_.h_how_many_reach
 have PM:aI P w K mg base CX0 1 f0 d0 cz (spP K dD):=oE NX A_ T xs
 refine F.fn.ok AH (fun vs H Q E h=>bc zA h) (fun cdv A outer s H vs Q E hr h=>?_)
 refine⟨_,(ar (aM (bK (aH.of (sc0:=(ak gg)) (tn:=["level"]) (cap:=["sums"]) (idx:=[0]) (by decide +kernel) rfl rfl) (C8 rfl T.range_ (aa au (aa (aS fA (pv 1) au) aj))) (gi.name (by decide)) (fun _ _ _ _ _=>aT (i:=0) (aN (l:=["level","sums"]) (by decide +kernel)) rfl (by walk_at "o") (by first|exact .inl rfl|exact .inr rfl)) (fun _ _ _ _ _=>(aB PM (hr.mono (by decide)) rfl NX.mg NX.fn.kp NX.bd .nil aZ (aa (pv 1) (aa (pv 0) aj))))))),bz (Γn:=[]) (N:=pQ) (aO (M:=[]) (bB (HW (ai (EM.er av) (ai (EM.er (aA dS (ES.er (af 1)) (EM.er av))) aq))) (aU 0) (aJ (S:=dD) nh (ai (ES.er (af 1)) (ai (ES.er (af 0)) aq))))) (fun ds P hS=>?_) h⟩
 obtain ⟨ns,m,rfl,hl,hm,hP⟩:=hS
 rw[show aL pQ [dI ns,.int m]=[some (dI ns),some (.int m)] from rfl]
 walk_at "v"
 have e:(((m:Int)+1) - 1).toNat=m:=by omega
 refine eV (lo:=1) (n:=m) (g:=fun (k:Nat)=>.int (reach ns (1+(k:Int)))) (fun R h=>?_) (by omega) (fun i hi R h=>?_) ?_
 .walk_at "v"
  rw[e]
  exact⟨by omega,h⟩
 .walk_at "vb"
  exact⟨ns,_,rfl,hl,h⟩
 .unfold ij at hP;rw[dI,Mp] at hP;exact hP
def Sg(m:Nat)(f:Nat->Int):Int:=((List.range m).map f).sum
def xG{f:Nat->Int}:Sg 0 f=0:=rfl
def fD{m:Nat}{f:Nat->Int}:Sg (m+1) f=Sg m f+f m:=by
 unfold Sg
 rw[List.range_succ,Mr,Oy]
 simp
def fm{m:Nat}{f g:Nat->Int}(h:∀j,j<m->f j=g j):Sg m f=Sg m g:=by
 unfold Sg
 exact congrArg List.sum (Nf fun j hj=>h j (Ms.mp hj))
def kH{f g:Nat->Int}:∀{m:Nat},Sg m (fun j=>f j+g j)=Sg m f+Sg m g
 |0=>rfl
 |m+1=>by rw[fD,fD,fD,kH];omega
def oK{f g:Nat->Int}:∀{m:Nat},(∀j,j<m->f j<=g j)->Sg m f<=Sg m g
 |0,_=>OJ _
 |m+1,h=>by
  rw[fD,fD]
  have:=oK (m:=m) fun j hj=>h j (by omega)
  have:=h m (by omega)
  omega
def gj:∀{m:Nat},Sg m (fun _=>0)=0
 |0=>rfl
 |m+1=>by rw[fD,gj];rfl
def nO{f:Nat->Int}{p:Nat}{v:Int}:∀{m:Nat},p<m->Sg m (fun j=>if j=p then v else f j)=Sg m f+v - f p
 |0,h=>by omega
 |m+1,h=>by
  rw[fD,fD]
  by_cases e:p=m
  .subst e
   rw[if_pos rfl,fm (g:=f) fun j hj=>if_neg (by omega)]
   omega
  .rw[if_neg (fun z=>e z.symm),nO (by omega)]
   omega
def cU(m:Nat):List Int->(Nat->Int)->Prop
 |[],c=>∀j,j<m->c j=0
 |r::rs,c=>∃b:Nat->Int,(∀j,j<m->b j=0\/b j=1)/\Sg m b=r/\cU m rs fun j=>c j - b j
def cU.congr{m:Nat}:∀{rs:List Int}{c c':Nat->Int},cU m rs c->(∀j,j<m->c j=c' j)->cU m rs c'
 |[],c,c',h,e=>fun j hj=>by rw[<- e j hj];exact h j hj
 |r::rs,c,c',⟨b,h1,h2,h3⟩,e=>⟨b,h1,h2,h3.congr fun j hj=>by rw[e j hj]⟩
def cU.swap{m:Nat}{r1 r2:Int}{rs:List Int}{c:Nat->Int}:cU m (r1::r2::rs) c->cU m (r2::r1::rs) c
 |⟨b1,h1,h2,b2,h3,h4,h5⟩=>⟨b2,h3,h4,b1,h1,h2,h5.congr fun j _=>by show c j - b1 j - b2 j=c j - b2 j - b1 j;omega⟩
def cU.perm{m:Nat}{rs ss:List Int}(p:rs.Perm ss):∀{c:Nat->Int},cU m rs c->cU m ss c:=by
 induction p with
 |nil=>exact fun h=>h
 |cons x _ ih=>exact fun ⟨b,h1,h2,h3⟩=>⟨b,h1,h2,ih h3⟩
 |swap x y l=>exact fun h=>h.swap
 |trans _ _ Vc Vb=>exact fun h=>Vb (Vc h)
def cU.nonneg{m:Nat}:∀{rs:List Int}{c:Nat->Int},cU m rs c->∀j,j<m->0<=c j
 |[],c,h,j,hj=>by rw[h j hj];omega
 |r::rs,c,⟨b,h1,h2,h3⟩,j,hj=>by
  have:=cU.nonneg h3 j hj
  rcases h1 j hj with e|e<;>omega
def cU.sums{m:Nat}:∀{rs:List Int}{c:Nat->Int},cU m rs c->rs.sum=Sg m c
 |[],c,h=>by rw[fm (g:=fun _=>0) h,gj];rfl
 |r::rs,c,⟨b,h1,h2,h3⟩=>by
  rw[Mj,h3.sums,<- h2,<- kH]
  exact fm fun j _=>by omega
def cU.head{m:Nat}{ys:List Int}:∀{xs:List Int}{c:Nat->Int},cU m (xs++ys) c->xs.sum<=Sg m fun j=>min (c j) (xs.length:Int)
 |[],c,h=>by
  have:Sg m (fun _=>0)<=Sg m fun j=>min (c j) (([]:List Int).length:Int):=oK fun j hj=>by
   have:=h.nonneg j hj
   simp only[N5]
   omega
  rw[gj] at this
  exact this
 |r::xs,c,⟨b,h1,h2,h3⟩=>by
  have ih:=cU.head (xs:=xs) h3
  rw[Mj,<- h2]
  refine Int.le_trans (Int.add_le_add_left ih _) ?_
  rw[<- kH]
  refine oK fun j hj=>?_
  rw[L6]
  rcases h1 j hj with e|e<;>rw[e]<;>omega
def cU.move{m p q:Nat}(hp:p<m)(hq:q<m)(Vm:p≠q):∀{rs:List Int}{c:Nat->Int},cU m rs c->c q<c p->cU m rs fun j=>if j=p then c p - 1 else if j=q then c q+1 else c j
 |[],c,h,NZ=>by have:=h p hp;have:=h q hq;omega
 |r::rs,c,⟨b,h1,h2,h3⟩,NZ=>by
  by_cases hb:b p=1/\b q=0
  .refine⟨fun j=>if j=p then 0 else if j=q then 1 else b j,fun j hj=>?_,?_,h3.congr fun j hj=>?_⟩
   .by_cases e1:j=p
    .simp only[if_pos e1];exact .inl trivial
    by_cases e2:j=q
    .simp only[if_neg e1,if_pos e2];exact .inr trivial
    .simp only[if_neg e1,if_neg e2];exact h1 j hj
   .rw[nO hp,nO hq,h2,if_neg Vm]
    omega
   .by_cases e1:j=p
    .subst e1
     simp only[if_true];omega
    by_cases e2:j=q
    .subst e2
     simp only[if_neg e1,if_true];omega
    .simp only[if_neg e1,if_neg e2]
  .have XF:c q - b q<c p - b p:=by
    rcases h1 p hp with e|e<;>rcases h1 q hq with e'|e'<;>first|omega|exact absurd ⟨e,e'⟩ hb
   refine⟨b,h1,h2,(cU.move hp hq Vm h3 XF).congr fun j hj=>?_⟩
   by_cases e1:j=p
   .subst e1
    simp only[if_true];omega
   by_cases e2:j=q
   .subst e2
    simp only[if_neg e1,if_true];omega
   .simp only[if_neg e1,if_neg e2]
def ind(T:Nat->Bool)(j:Nat):Int:=if T j=true then 1 else 0
def IG{T:Nat->Bool}{j:Nat}:ind T j=0\/ind T j=1:=by unfold ind;split<;>simp
def cU.JI{m:Nat}{rs:List Int}{c:Nat->Int}{r:Int}{T:Nat->Bool}(hT:Sg m (ind T)=r)(hc:∀j k,j<m->k<m->T j=true->T k=false->c k<=c j):∀(d:Nat) (b:Nat->Int),(∀j,j<m->b j=0\/b j=1)->Sg m b=r->cU m rs (fun j=>c j - b j) ->
  Sg m (fun j=>if T j=true/\b j=0 then 1 else 0)=(d:Int)->cU m rs fun j=>c j - ind T j:=by
 have U1:∀{f:Nat->Int}{m:Nat},(∀j,j<m->0<=f j)->0<Sg m f->∃j,j<m/\0<f j:=by
  intro f m
  induction m with
  |zero=>intro _ h;exact absurd h (by rw[xG];omega)
  |succ m ih =>
   intro h0 h
   by_cases e:0<f m
   .exact⟨m,by omega,e⟩
   .rw[fD] at h
    obtain ⟨j,h1,h2⟩:=ih (fun j hj=>h0 j (by omega)) (by omega)
    exact⟨j,by omega,h2⟩
 have TN:∀{f:Nat->Int}{m:Nat},(∀j,j<m->0<=f j)->Sg m f=0->∀j,j<m->f j=0:=by
  intro f m
  induction m with
  |zero=>intro _ _ j hj;omega
  |succ m ih =>
   intro h0 h j hj
   rw[fD] at h
   have h1:0<=Sg m f:=by
    have:=oK (m:=m) (f:=fun _=>0) (g:=f) fun j hj=>h0 j (by omega)
    rw[gj] at this;exact this
   have h2:=h0 m (by omega)
   by_cases e:j=m
   .subst e;omega
   .exact ih (fun j hj=>h0 j (by omega)) (by omega) j (by omega)
 have ZA:∀b:Nat->Int,(∀j,j<m->b j=0\/b j=1)->Sg m b=r->Sg m (fun j=>if T j=true/\b j=0 then 1 else 0)=Sg m fun j=>if T j=false/\b j=1 then 1 else 0:=by
  intro b h1 h2
  have e1:Sg m (fun j=>ind T j+if T j=false/\b j=1 then 1 else 0)=Sg m fun j=>b j+if T j=true/\b j=0 then 1 else 0:=fm fun j hj=>by
   unfold ind
   rcases h1 j hj with e|e<;>cases T j<;>simp [e]
  rw[kH,kH,hT,h2] at e1
  omega
 intro d
 induction d with
 |zero =>
  intro b h1 h2 h3 hd
  have z1:=TN (m:=m) (f:=fun j=>if T j=true/\b j=0 then 1 else 0) (fun j _=>by split<;>omega) hd
  have z2:=TN (m:=m) (f:=fun j=>if T j=false/\b j=1 then 1 else 0) (fun j _=>by split<;>omega) (by rw[<- ZA b h1 h2];exact hd)
  refine h3.congr fun j hj=>?_
  have y1:=z1 j hj
  have y2:=z2 j hj
  unfold ind
  rcases h1 j hj with e|e<;>cases hTj:T j<;>simp_all
 |succ d ih =>
  intro b h1 h2 h3 hd
  obtain ⟨p,hp,q1⟩:=U1 (m:=m) (f:=fun j=>if T j=true/\b j=0 then 1 else 0) (fun j _=>by split<;>omega) (by rw[hd];omega)
  obtain ⟨q,hq,q2⟩:=U1 (m:=m) (f:=fun j=>if T j=false/\b j=1 then 1 else 0) (fun j _=>by split<;>omega) (by rw[<- ZA b h1 h2,hd];omega)
  have y1:T p=true/\b p=0:=by
   by_cases e:T p=true/\b p=0
   .exact e
   .rw[if_neg e] at q1;omega
  have y2:T q=false/\b q=1:=by
   by_cases e:T q=false/\b q=1
   .exact e
   .rw[if_neg e] at q2;omega
  have Vm:p≠q:=fun z=>by rw[z,y2.1] at y1;exact absurd y1.1 (by simp)
  have Ye:=hc p q hp hq y1.1 y2.1
  refine ih (fun j=>if j=p then 1 else if j=q then 0 else b j) (fun j hj=>?_) ?_ ((h3.move hp hq Vm (by omega)).congr fun j hj=>?_) ?_
  .by_cases e1:j=p
   .simp only[if_pos e1];exact .inr trivial
   by_cases e2:j=q
   .simp only[if_neg e1,if_pos e2];exact .inl trivial
   .simp only[if_neg e1,if_neg e2];exact h1 j hj
  .rw[nO hp,nO hq,h2,if_neg Vm,y1.2,y2.2]
   omega
  .by_cases e1:j=p
   .subst e1
    simp only[if_true];omega
   by_cases e2:j=q
   .subst e2
    simp only[if_neg e1,if_true];omega
   .simp only[if_neg e1,if_neg e2]
  .have e0:Sg m (fun j=>if T j=true/\(if j=p then 1 else if j=q then 0 else b j)=0 then (1:Int) else 0)=Sg m fun j=>if j=p then 0 else if T j=true/\b j=0 then 1 else 0:=fm fun j hj=>by
    by_cases e1:j=p
    .simp [e1]
    by_cases e2:j=q
    .subst e2
     simp [e1,y2.1]
    .simp only[if_neg e1,if_neg e2]
   rw[e0,nO hp,hd,if_pos y1]
   omega
def cU.next{m:Nat}{rs:List Int}{c:Nat->Int}{r:Int}{T:Nat->Bool}(h:cU m (r::rs) c)(hT:Sg m (ind T)=r)(hc:∀j k,j<m->k<m->T j=true->T k=false->c k<=c j):cU m rs fun j=>c j - ind T j:=by
 obtain ⟨b,h1,h2,h3⟩:=h
 have h0:0<=Sg m fun j=>if T j=true/\b j=0 then (1:Int) else 0:=by
  have:=oK (m:=m) (f:=fun _=>0) (g:=fun j=>if T j=true/\b j=0 then (1:Int) else 0) fun j _=>by split<;>omega
  rw[gj] at this;exact this
 exact cU.JI hT hc _ b h1 h2 h3 (Int.toNat_of_nonneg h0).symm
def cU.bound{m:Nat}{rs:List Int}{c:Nat->Int}{r:Int}(h:cU m (r::rs) c):0<=r/\r<=m:=by
 obtain ⟨b,h1,h2,h3⟩:=h
 have e1:Sg m (fun _=>0)<=Sg m b:=oK fun j hj=>by rcases h1 j hj with e|e<;>omega
 have e2:Sg m b<=Sg m fun _=>1:=oK fun j hj=>by rcases h1 j hj with e|e<;>omega
 have e3:∀m:Nat,Sg m (fun _=>1)=(m:Int):=fun m=>by
  induction m with
  |zero=>rfl
  |succ m ih=>rw[fD,ih];omega
 rw[gj] at e1
 rw[e3] at e2
 omega
def nJ{c m:Int}{ns:List Int}:reach (c::ns) m=(if m<=c then 1 else 0)+reach ns m:=by
 unfold reach
 rw[List.filter_cons]
 by_cases h:m<=c
 .rw[if_pos (by simpa using h),if_pos h,L6];omega
 .rw[if_neg (by simpa using h),if_neg h];omega
def ua{a b:Int}(h:a<=b):∀{ns:List Int},reach ns b<=reach ns a
 |[]=>by simp [reach]
 |c::ns=>by
  have:=ua h (ns:=ns)
  rw[nJ,nJ]
  by_cases h1:b<=c
  .rw[if_pos h1,if_pos (by omega)];omega
  .rw[if_neg h1];split<;>omega
def vG{ns:List Int}{m:Nat}:(ij ns m).Pairwise (·>=·):=by
 unfold ij
 rw[List.pairwise_map]
 exact (List.pairwise_lt_range (n:=m)).imp fun h=>ua (by omega)
def Bo{c:Int}(hc:0<=c):∀(k:Nat),Sg k (fun l=>if 1+(l:Int)<=c then 1 else 0)=min c k
 |0=>by rw[xG];omega
 |k+1=>by
  rw[fD,Bo hc k]
  split<;>omega
def xZ{k:Nat}:∀{ns:List Int},(∀c∈ns,0<=c)->Sg k (fun l=>reach ns (1+(l:Int)))=(ns.map fun c=>min c (k:Int)).sum
 |[],_=>by
  rw[OT,fm (g:=fun _=>0) (fun j _=>by simp [reach]),gj];rfl
 |c::ns,h=>by
  rw[Mb,Mj,<- xZ fun x hx=>h x (mo _ hx),<- Bo (h c Fk),<- kH]
  exact fm fun j _=>nJ
def oz{f:Int->Int}{ns:List Int}:Sg ns.length (fun j=>f (ns.getD j 0))=(ns.map f).sum:=by
 unfold Sg
 congr 1
 refine O0 (by simp) fun i h1 h2=>?_
 rw[ox] at h2
 rw[OZ,OZ,N1,gV,dz h2,M9]
def ve{ns:List Int}{m k:Nat}(h:∀c∈ns,0<=c)(hk:k<=m):((ij ns m).take k).sum=(ns.map fun c=>min c (k:Int)).sum:=by
 rw[<- xZ h]
 unfold ij Sg
 rw[<- Ov,List.take_range,NP hk]
def cU.heads{rows cols fs:List Int}(h:cU cols.length rows fun j=>cols.getD j 0)(hp:fs.Perm rows){k:Nat}(hk:k<=rows.length):(fs.take k).sum<=((ij cols rows.length).take k).sum:=by
 have h0:∀c∈cols,0<=c:=fun c hc=>by
  obtain ⟨j,hj,rfl⟩:=NY hc
  have:=h.nonneg j hj
  rwa [gV,dz hj,M9] at this
 have h1:cU cols.length (fs.take k++fs.drop k) fun j=>cols.getD j 0:=by rw[MX];exact h.perm hp.symm
 have:=h1.head
 rw[M5,hp.length_eq,NP hk] at this
 rw[ve h0 hk,<- oz]
 exact this
def cU.Hb{m:Nat}:∀{t:List (List Int)},(∀r∈t,r.length=m)->(∀r∈t,∀v∈r,v=0\/v=1)->cU m (t.map List.sum) fun j=>(t.map fun r=>r.getD j 0).sum
 |[],_,_=>fun j _=>rfl
 |r::t,h1,h2=>by
  have hl:=h1 r Fk
  refine⟨fun j=>r.getD j 0,fun j hj=>?_,?_,(cU.Hb (fun x hx=>h1 x (mo _ hx)) fun x hx=>h2 x (mo _ hx)).congr fun j hj=>?_⟩
  .refine h2 r Fk _ ?_
   show r.getD j 0∈r
   rw[gV,dz (by omega),M9]
   exact MO _
  .rw[<- hl,oz (f:=fun x=>x),List.map_id']
  .show _=(List.map _ (r::t)).sum - r.getD j 0
   rw[Mb,Mj];omega
def i6(ps:List Int)(m:Nat):List Int:=(List.range m).map fun (j:Nat)=>if (j:Int)∈ps then 1 else 0
def xF{ps:List Int}{m:Nat}:(i6 ps m).length=m:=by unfold i6;rw[ox,Md]
def EO{ps:List Int}{m j:Nat}(hj:j<m):(i6 ps m).getD j 0=ind (fun (j:Nat)=>decide ((j:Int)∈ps)) j:=by
 unfold i6 ind
 rw[gV,L9,MK hj]
 simp
def u3{ps:List Int}{m:Nat}(nd:ps.Nodup)(hm:∀x∈ps,0<=x/\x<m):(i6 ps m).sum=ps.length:=by
 have e:((List.range m).filter fun (j:Nat)=>decide ((j:Int)∈ps)).length=ps.length:=by
  have:(((List.range m).filter fun (j:Nat)=>decide ((j:Int)∈ps)).map fun (j:Nat)=>(j:Int)).Perm ps:=by
   refine (List.perm_ext_iff_of_nodup (OW _ (fun a b Qm=>by show (a:Int)≠b;omega) (List.nodup_range.filter _)) nd).mpr fun x=>?_
   constructor
   .intro hx
    obtain ⟨i,hi,rfl⟩:=Ma.mp hx
    exact of_decide_eq_true (MZ.mp hi).2
   .intro hx
    have:=hm x hx
    exact Ma.mpr ⟨x.toNat,MZ.mpr ⟨Ms.mpr (by omega),decide_eq_true (by rw[Int.toNat_of_nonneg this.1];exact hx)⟩,Int.toNat_of_nonneg this.1⟩
  have:=this.length_eq
  rwa [ox] at this
 rw[<- e]
 unfold i6
 clear e
 induction List.range m with
 |nil=>rfl
 |cons j l ih =>
  rw[Mb,Mj,ih,List.filter_cons]
  by_cases h:(j:Int)∈ps
  .rw[if_pos h,if_pos (by simpa using h),L6];omega
  .rw[if_neg h,if_neg (by simpa using h)];omega
def cU.turn{m k:Nat}{rs:List Int}{r:Int}{left fp:List Int}(h:cU m (r::rs) fun j=>left.getD j 0)(hk:r=(k:Int))(Us:k<=m)(hp:fp.Perm (kK m))(ho:fp.Pairwise fun a b=>left.getD b.toNat 0<=left.getD a.toNat 0) :
  (i6 (fp.take k) m).sum=r/\cU m rs fun j=>left.getD j 0 - (i6 (fp.take k) m).getD j 0:=by
 have nd:fp.Nodup:=hp.nodup_iff.mpr (OW _ (fun a b Qm=>by show (a:Int)≠b;omega) List.nodup_range)
 have SM:∀x∈fp,0<=x/\x<m:=fun x hx=>by
  obtain ⟨i,hi,rfl⟩:=Ma.mp (hp.mem_iff.mp hx)
  have:=Ms.mp hi
  omega
 have RJ:fp.length=m:=by rw[hp.length_eq,ox,Md]
 have hs:(i6 (fp.take k) m).sum=r:=by
  rw[u3 (nd.sublist (List.take_sublist ..)) fun x hx=>SM x (Og hx),M5,hk,RJ,NP Us]
 refine⟨hs,(h.next (T:=fun (j:Nat)=>decide ((j:Int)∈fp.take k)) ?_ fun a b ha hb h1 h2=>?_).congr fun j hj=>?_⟩
 .rw[<- hs]
  unfold i6 Sg ind
  simp only[decide_eq_true_eq]
 .have Ys:=of_decide_eq_true h1
  have Yo:=of_decide_eq_false h2
  have Tq:(b:Int)∈fp.drop k:=by
   have:(b:Int)∈fp:=hp.mem_iff.mpr (Ma.mpr ⟨b,Ms.mpr hb,rfl⟩)
   rw[<- MX k fp] at this
   rcases Mc.mp this with z|z
   .exact absurd z Yo
   .exact z
  rw[<- MX k fp] at ho
  exact (List.pairwise_append.mp ho).2.2 _ Ys _ Tq
 .rw[EO hj]
def LF{ns:List Int}{x:Int}:inD (.int x) (ns.map L3.D.int)=decide (x∈ns):=by
 have:inD (.int x) (ns.map L3.D.int)=true↔x∈ns:=by
  unfold inD inV
  rw[List.any_eq_true]
  constructor
  .rintro ⟨v,hv,e⟩
   obtain ⟨d,hd,rfl⟩:=Ma.mp hv
   obtain ⟨z,hz,rfl⟩:=Ma.mp hd
   have e':(z == x)=true:=e
   rw[<- eq_of_beq e'];exact hz
  .intro h
   exact⟨.int x,Ma.mpr ⟨.int x,Ma.mpr ⟨x,h,rfl⟩,rfl⟩,by show (x == x)=true;exact beq_self_eq_true _⟩
 by_cases h:x∈ns
 .rw[decide_eq_true h];exact this.mpr h
 .rw[decide_eq_false h]
  cases e:inD (.int x) (ns.map L3.D.int) with
  |false=>rfl
  |true=>exact absurd (this.mp e) h
def KZ{OK:Bool}{x:Int}{ns:List Int}{P:DK}(h:P (.bl (if OK then !decide (x∈ns) else decide (x∈ns)))):vIn OK (.int x) (dI ns) P:=by
 refine⟨rfl,cP,?_⟩
 rw[LF]
 exact h
def fo:DSp:=fun ds P=>∃(ps:List Int) (n:Nat),ds=[dI ps,.int n]/\n<=1000/\P (dI (i6 ps n))
def pK:bE fo:=by
 intro xs P P' k h
 unfold fo at h ⊢
 grind
def qN:∀ds P,fo ds P->ds.length=2:=by
 intro ds P h
 obtain ⟨_,_,e,_⟩:=h
 rw[e];rfl
def uj{c:Cs}{f:Addr}{fd:FuncData}(F:FnAt K mg "row_of_ones" cC eN f fd)(A_:Fns K mg c)(T:Txt K mg base)(xs:Exs K mg base c):aI P w K mg base CX0 1 f fd eN (spP K fo):=by
 refine F.fn.ok tF (fun vs H Q E h=>bc qN h) (fun cdv A outer s H vs Q E hr h=>?_)
 refine⟨_,(ar (aM (bK (aH.of (sc0:=(ak cC)) (tn:=["place"]) (cap:=["places"]) (idx:=[0]) (by decide +kernel) rfl rfl) (bJ rfl T.range_ (aa (pv 1) aj)) (gi.name (by decide)) (fun _ _ _ _ _=>aT (i:=0) (aN (l:=["place","places"]) (by decide +kernel)) rfl (by walk_at "o") (by first|exact .inl rfl|exact .inr rfl)) (fun _ _ _ _ _=>(sX (bf (J0 (K:=K) rfl) (pv 0) (pv 1) (by with_unfolding_all rfl)) au au))))),bz (Γn:=[]) (N:=kG) (aO (M:=[]) (bB (dP (ai (ES.er (af 1)) aq)) (aU 0) (Gm (aY (EM.er (aA L1 (ES.er (af 0)) (ES.er (af 1))))) av av))) (fun ds P hS=>?_) h⟩
 obtain ⟨ps,n,rfl,hn,hP⟩:=hS
 rw[show aL kG [dI ps,.int n]=[some (dI ps),some (.int n)] from rfl]
 walk_at "v"
 refine eV (lo:=0) (n:=n) (g:=fun (i:Nat)=>.int (if (i:Int)∈ps then 1 else 0)) (fun R h=>?_) hn (fun i hi R h=>?_) ?_
 .walk_at "go";exact h
 .walk_at "gb"
  rw[Na]
  refine KZ ?_
  simp only[Ny,if_false]
  walk_at "gb"
  by_cases h':(i:Int)∈ps
  .rw[if_pos h'] at h ⊢
   exact h
  .rw[if_neg h'] at h ⊢
   exact h
 .rw[kf];exact hP
def Je(rows cols:List Int)(t:List (List Int)):Prop:=cT rows.length cols.length t/\(∀r∈t,∀v∈r,v=0\/v=1)/\t.map List.sum=rows/\∀j,j<cols.length->(t.map fun r=>r.getD j 0).sum=cols.getD j 0
def fU:DSp:=fun ds P=>∃rows cols:List Int,ds=[dI rows,dI cols]/\cols.length<64/\rows.length<=100/\cU cols.length rows (fun j=>cols.getD j 0)/\∀t,Je rows cols t->P (dT t)
def zT{ns:List Int}{k:Nat}:L3.cutD (ns.map L3.D.int) none (some (k:Int))=(ns.take k).map L3.D.int:=by
 unfold L3.cutD
 rw[ox,HT.mL,HT.oB,NH,Nat.sub_zero,Ov]
 rcases Nat.le_total k ns.length with h|h
 .rw[NP h]
 .rw[Nat.min_eq_right h,M1 (by rw[ox];exact Mi _),M1 (by rw[ox];exact h)]
def yZ{f:Nat->Int}{m j:Nat}(h:j<m):((List.range m).map f).getD j 0=f j:=by
 rw[gV,L9,MK h];rfl
def px:bE fU:=by
 intro xs P P' k h
 obtain ⟨rows,cols,e,h1,h2,h3,h⟩:=h
 exact⟨rows,cols,e,h1,h2,h3,fun t ht=>k _ (h t ht)⟩
def pW:∀ds P,fU ds P->ds.length=2:=by
 intro ds P h
 obtain ⟨_,_,e,_⟩:=h
 rw[e];rfl
def qM{c:Cs}{f:Addr}{fd:FuncData}(F:FnAt K mg "filled_table" cH dG f fd)(A_:Fns K mg c)(T:Txt K mg base)(xs:Exs K mg base c):aI P w K mg base CX0 2 f fd dG (spP K fU):=by
 obtain ⟨f0,d0,Oj⟩:=A_.h_row_of_ones
 have Qi:aI P w K mg base CX0 1 f0 d0 eN (spP K fo):=uj Oj A_ T xs
 obtain ⟨f1,d1,MM⟩:=A_.h_less_row
 have NV:aI P w K mg base CX0 1 f1 d1 eK (spP K cx):=ke MM A_ T xs
 obtain ⟨f2,d2,M4⟩:=A_.h_falling_places
 have Oh:aI P w K mg base CX0 1 f2 d2 bR (spP K cy):=j9 M4 A_ T xs
 refine F.fn.ok d6 (fun vs H Q E h=>bc pW h) (fun cdv A outer s H vs Q E hr h=>?_)
 refine⟨_,(ao (aR (i:=2) d6.nd rfl (by walk_at "o") (pv 1)) (ao (aR (i:=3) d6.nd rfl (by walk_at "o") (cS aj)) (ao (i7 PassesOwn.never rfl (bS (K:=K) rfl (pv 0)) (aT (i:=4) d6.nd rfl (by walk_at "o")) (ao (aR (i:=5) d6.nd rfl (by walk_at "o") (aB Qi (hr.mono (by decide)) rfl Oj.mg Oj.fn.kp Oj.bd .nil aZ (aa (jU (jA (K:=K) rfl) (aB Oh (hr.mono (by decide)) rfl M4.mg M4.fn.kp M4.bd .nil aZ (aa (pv 2) aj)) lp (ll (pv 4))) (aa (ax (aK (K:=K) rfl) (by rfl) T.len_ Mn (aa (pv 2) aj)) aj)))) (ao (aR (i:=2) d6.nd rfl (by walk_at "o") (aB NV (hr.mono (by decide)) rfl MM.mg MM.fn.kp MM.bd .nil aZ (aa (pv 2) (aa (pv 5) aj)))) (ar (iO (rS Nk NF ND js (pv 3) (aa (pv 5) aj))))))) (ar (aM (pv 3)))))),bz (Γn:=[3]) (N:=jK) (ay (ST.post (Γn:=[]) (bh 2 (af 1))) (ay (ST.post (Γn:=[3]) (eh (M:=[]) 3 (dw bw))) (ay (jf (dm (af 0)) (aU 4) (ay (ST.post (Γn:=[5,3]) (eh (M:=[]) 5 (aJ (S:=fo) pK (ai (EM.er (sV (EM.er (aJ (S:=cy) jh (ai (ES.er (af 2)) aq))) or_none (or_some (ES.er (af 4))))) (ai (EM.er (aW cO (ai (ES.er (af 2)) aq))) aq))))) (ay (ST.post (Γn:=[5,3]) (bh 2 (EM.es (aJ (S:=cx) gu (ai (ES.er (af 2)) (ai (fR 5) aq)))))) (ST.post (Γn:=[3]) (jt (M:=[5]) 3 (jH 5)))))) (aO (M:=[3]) (jH 3))))) (fun ds P hS=>?_) h⟩
 obtain ⟨rows,cols,rfl,Tx,Rn,VG,hP⟩:=hS
 rw[show aL jK [dI rows,dI cols]=[some (dI rows),some (dI cols),none,none,none,none] from rfl]
 walk_at "go"
 refine iV (as:=rows) (f:=L3.D.int) (fun i δ=>∃(left:List Int) (t:List (List Int)) (o4 o5:Option D),δ=[some (dI rows),some (dI cols),some (dI left),some (dT t),o4,o5]/\left.length=cols.length/\cT i cols.length t/\(∀r∈t,∀v∈r,v=0\/v=1)/\t.map List.sum=rows.take i/\(∀j,j<cols.length->left.getD j 0+(t.map fun r=>r.getD j 0).sum=cols.getD j 0)/\cU cols.length (rows.drop i) (fun j=>left.getD j 0))
  ⟨cols,[],none,none,rfl,rfl,⟨rfl,fun _ h=>(nomatch h)⟩,fun _ h=>(nomatch h),rfl,fun j _=>by simp,by rw[NH];exact VG⟩ ?_ ?_
 .rintro i r δ N e ⟨left,t,o4,o5,rfl,hl,hR,Yt,PL,Uz,UM⟩ hN
  obtain ⟨hi,hri⟩:=L7.mp e
  rw[MD hi,hri] at UM
  have hb:=UM.bound
  obtain ⟨k,rfl⟩:∃k:Nat,r=(k:Int):=⟨r.toNat,by omega⟩
  have Us:k<=cols.length:=by omega
  walk_at "go"
  refine⟨left,rfl,by omega,fun fp hp hw=>?_⟩
  rw[hl] at hp
  walk_at "go"
  have tr:=UM.turn rfl Us hp hw
  rw[zT]
  try refine⟨cP,?_⟩
  refine⟨fp.take k,cols.length,by rw[hl],by omega,?_⟩
  have ol:=xF (ps:=fp.take k) (m:=cols.length)
  refine⟨left,i6 (fp.take k) cols.length,rfl,by omega,by omega,?_⟩
  walk_at "go"
  try refine⟨by have:=hR.1;omega,?_⟩
  rw[show List.map dI t++[dI (i6 (fp.take k) cols.length)]=(t++[i6 (fp.take k) cols.length]).map dI by rw[Mr];rfl]
  refine hN _ ⟨_,_,_,_,rfl,by rw[ox,Md];exact hl,⟨by rw[Mx,hR.1];rfl,fun x hx=>?_⟩,fun x hx v hv=>?_,?_,fun j hj=>?_,tr.2.congr fun j hj=>?_⟩
  .rcases Mc.mp hx with q|q
   .exact hR.2 x q
   .rw[Gc.mp q];exact ol
  .rcases Mc.mp hx with q|q
   .exact Yt x q v hv
   .rw[Gc.mp q] at hv
    unfold i6 at hv
    obtain ⟨j,_,rfl⟩:=Ma.mp hv
    split
    .exact .inr rfl
    .exact .inl rfl
  .rw[Mr,PL,List.take_add_one,e]
   show rows.take i++[(i6 (fp.take k) cols.length).sum]=rows.take i++[(k:Int)]
   rw[tr.1]
  .rw[hl,yZ hj,Mr,Oy,<- Uz j hj]
   simp
   omega
  .rw[hl,yZ hj]
 .rintro δ ⟨left,t,o4,o5,rfl,hl,hR,Yt,PL,Uz,UM⟩
  rw[O1] at UM
  rw[Om] at PL
  walk_at "v"
  refine hP t ⟨hR,Yt,PL,fun j hj=>?_⟩
  have:=Uz j hj
  have h0:left.getD j 0=0:=UM j hj
  omega
def Fits(m:Nat)(rows:List Int)(c:Nat->Int):Prop:=∀k:List Bool,k.length=rows.length->Maj.kS k rows<=Sg m fun j=>min (c j) (Maj.cnt k:Int)
def C6{m:Nat}{T:Nat->Bool}{c:Nat->Int}{k:Int}:Sg m (fun j=>min (c j - ind T j) k)=Sg m (fun j=>min (c j) k) - Sg m fun j=>if T j=true/\c j<=k then 1 else 0:=by
 have:Sg m (fun j=>min (c j) k)=Sg m (fun j=>min (c j - ind T j) k+if T j=true/\c j<=k then 1 else 0):=fm fun j _=>by
  unfold ind
  cases T j
  .simp
  .by_cases h:c j<=k
   .simp only[if_true,h,and_self];omega
   .simp only[if_true,h,and_false,if_false];omega
 rw[this,kH];omega
def KS{m:Nat}{c:Nat->Int}{k:Int}:Sg m (fun j=>min (c j) (k+1))=Sg m (fun j=>min (c j) k)+Sg m fun j=>if k<c j then 1 else 0:=by
 rw[<- kH]
 refine fm fun j _=>?_
 split<;>omega
def Fits.next{m:Nat}{r:Int}{NK:List Int}{c:Nat->Int}{T:Nat->Bool}(h:Fits m (r::NK) c)(hT:Sg m (ind T)=r)(hc:∀j k,j<m->k<m->T j=true->T k=false->c k<=c j):Fits m NK fun j=>c j - ind T j:=by
 intro k hk
 rw[C6]
 generalize hq:(Maj.cnt k:Int)=q
 have h1:=h (false::k) (by simp [hk])
 have h2:=h (true::k) (by simp [hk])
 have e1:Maj.kS (false::k) (r::NK)=Maj.kS k NK:=rfl
 have e2:Maj.kS (true::k) (r::NK)=r+Maj.kS k NK:=rfl
 have e3:(Maj.cnt (false::k):Int)=q:=hq
 have e4:(Maj.cnt (true::k):Int)=q+1:=by show ((Maj.cnt k+1:Nat):Int)=q+1;omega
 rw[e1,e3] at h1
 rw[e2,e4,KS] at h2
 by_cases Pe:∃j,j<m/\T j=true/\c j<=q
 .obtain ⟨j0,hj0,t0,l0⟩:=Pe
  have:Sg m (fun j=>if T j=true/\c j<=q then (1:Int) else 0)+Sg m (fun j=>if q<c j then (1:Int) else 0)=Sg m (ind T):=by
   rw[<- kH]
   refine fm fun j hj=>?_
   unfold ind
   cases ht:T j
   .have:=hc j0 j hj0 hj t0 ht
    simp
    omega
   .by_cases h:c j<=q
    .simp [h]<;>omega
    .simp [h]<;>omega
  rw[hT] at this
  omega
 .have:Sg m (fun j=>if T j=true/\c j<=q then (1:Int) else 0)=0:=by
   rw[fm (g:=fun _=>0) fun j hj=>if_neg fun z=>Pe ⟨j,hj,z⟩,gj]
  omega
def Km{m:Nat}(c:Nat->Int):∃fp:List Int,fp.Perm ((List.range m).map fun (k:Nat)=>(k:Int))/\fp.Pairwise fun a b=>c b.toNat<=c a.toNat:=by
 refine⟨((List.range m).map fun (k:Nat)=>(k:Int)).mergeSort fun a b=>decide (c b.toNat<=c a.toNat),List.mergeSort_perm _ _,?_⟩
 have:=List.pairwise_mergeSort (le:=fun a b:Int=>decide (c b.toNat<=c a.toNat)) (fun a b d h1 h2=>by simp only[decide_eq_true_eq] at *;omega) (fun a b=>by simp only[Bool.or_eq_true,decide_eq_true_eq];omega) ((List.range m).map fun (k:Nat)=>(k:Int))
 exact this.imp fun h=>by simpa using h
def G2{m k:Nat}{c:Nat->Int}{fp:List Int}(Us:k<=m)(hp:fp.Perm ((List.range m).map fun (k:Nat)=>(k:Int)))(ho:fp.Pairwise fun a b=>c b.toNat<=c a.toNat) :
  Sg m (ind fun (j:Nat)=>decide ((j:Int)∈fp.take k))=(k:Int)/\∀a b:Nat,a<m->b<m->decide ((a:Int)∈fp.take k)=true->decide ((b:Int)∈fp.take k)=false->c b<=c a:=by
 have nd:fp.Nodup:=hp.nodup_iff.mpr (OW _ (fun a b Qm=>by show (a:Int)≠b;omega) List.nodup_range)
 have SM:∀x∈fp,0<=x/\x<m:=fun x hx=>by
  obtain ⟨i,hi,rfl⟩:=Ma.mp (hp.mem_iff.mp hx)
  have:=Ms.mp hi
  omega
 have RJ:fp.length=m:=by rw[hp.length_eq,ox,Md]
 constructor
 .have:=u3 (ps:=fp.take k) (m:=m) (nd.sublist (List.take_sublist ..)) fun x hx=>SM x (Og hx)
  rw[M5,RJ,NP Us] at this
  rw[<- this]
  unfold i6 Sg ind
  simp only[decide_eq_true_eq]
 .intro a b ha hb h1 h2
  have Ys:=of_decide_eq_true h1
  have Yo:=of_decide_eq_false h2
  have Tq:(b:Int)∈fp.drop k:=by
   have:(b:Int)∈fp:=hp.mem_iff.mpr (Ma.mpr ⟨b,Ms.mpr hb,rfl⟩)
   rw[<- MX k fp] at this
   rcases Mc.mp this with z|z
   .exact absurd z Yo
   .exact z
  rw[<- MX k fp] at ho
  exact (List.pairwise_append.mp ho).2.2 _ Ys _ Tq
def tY{f:Nat->Int}:∀{m:Nat},(∀j,j<m->0<=f j)->Sg m f=0->∀j,j<m->f j=0
 |0,_,_,j,hj=>by omega
 |m+1,h0,h,j,hj=>by
  rw[fD] at h
  have h1:0<=Sg m f:=by
   have:=oK (m:=m) (f:=fun _=>0) (g:=f) fun j hj=>h0 j (by omega)
   rw[gj] at this;exact this
  have h2:=h0 m (by omega)
  by_cases e:j=m
  .subst e;omega
  .exact tY (f:=f) (m:=m) (fun j hj=>h0 j (by omega)) (by omega) j (by omega)
def HS{m:Nat}{c:Nat->Int}:Sg m (fun j=>min (c j) 1)<=m:=by
 have:∀m:Nat,Sg m (fun j=>min (c j) 1)<=(m:Int):=fun m=>by
  induction m with
  |zero=>rw[xG];omega
  |succ m ih=>rw[fD];omega
 exact this m
def uc:∀{xs:List Int},Maj.kS (List.replicate xs.length false) xs=0
 |[]=>rfl
 |x::xs=>by rw[L6,Nd,Maj.kS,uc]
def vH:∀{n:Nat},Maj.cnt (List.replicate n false)=0
 |0=>rfl
 |n+1=>by rw[Nd,Maj.cnt,vH]
def cU.FK{m:Nat}:∀{rows:List Int}{c:Nat->Int},(∀r∈rows,0<=r)->(∀j,j<m->0<=c j)->rows.sum=Sg m c->Fits m rows c->cU m rows c
 |[],c,_,h0,hs,_=>tY h0 hs.symm
 |r::NK,c,hr,h0,hs,hf=>by
  have r0:=hr r Fk
  have h1:=hf (true::List.replicate NK.length false) (by simp)
  have e1:Maj.kS (true::List.replicate NK.length false) (r::NK)=r:=by rw[Maj.kS,uc];simp
  have e2:(Maj.cnt (true::List.replicate NK.length false):Int)=1:=by rw[Maj.cnt,vH];simp
  rw[e1,e2] at h1
  obtain ⟨k,rfl⟩:∃k:Nat,r=(k:Int):=⟨r.toNat,by omega⟩
  have Us:k<=m:=by have:=HS (m:=m) (c:=c);omega
  obtain ⟨fp,hp,ho⟩:=Km (m:=m) c
  obtain ⟨q1,q2⟩:=G2 Us hp ho
  refine⟨ind fun (j:Nat)=>decide ((j:Int)∈fp.take k),fun j _=>IG,q1,cU.FK (fun x hx=>hr x (mo _ hx)) (fun j hj=>?_) ?_ (hf.next q1 q2)⟩
  .-- a column taken from has one
   show 0<=c j - ind _ j
   by_cases hz:c j=0
   .-- then Ug top k would have a nought: k is more than those that have one
    by_cases ht:decide ((j:Int)∈fp.take k)=true
    .exfalso
     have Uk:Sg m (fun i=>min (c i) 1)<Sg m (ind fun (j:Nat)=>decide ((j:Int)∈fp.take k)):=by
      have SO:∀i,i<m->min (c i) 1<=ind (fun (j:Nat)=>decide ((j:Int)∈fp.take k)) i:=fun i hi=>by
       unfold ind
       by_cases Qf:decide ((i:Int)∈fp.take k)=true
       .rw[if_pos Qf];omega
       .rw[if_neg Qf]
        have:=q2 j i hj hi ht (by simpa using Qf)
        omega
      have Xs:Sg m (fun i=>min (c i) 1)<=Sg m (fun i=>if i=j then 0 else ind (fun (j:Nat)=>decide ((j:Int)∈fp.take k)) i):=oK fun i hi=>by
       by_cases e:i=j
       .rw[if_pos e,e,hz];omega
       .rw[if_neg e];exact SO i hi
      rw[nO hj] at Xs
      have:ind (fun (j:Nat)=>decide ((j:Int)∈fp.take k)) j=1:=by unfold ind;rw[if_pos ht]
      omega
     rw[q1] at Uk
     omega
    .unfold ind;rw[if_neg ht];have:=h0 j hj;omega
   .have:=h0 j hj
    rcases IG (T:=fun (j:Nat)=>decide ((j:Int)∈fp.take k)) (j:=j) with e|e<;>rw[e]<;>omega
  .rw[Mj] at hs
   have:Sg m c=Sg m (fun j=>(c j - ind (fun (j:Nat)=>decide ((j:Int)∈fp.take k)) j)+ind (fun (j:Nat)=>decide ((j:Int)∈fp.take k)) j):=fm fun j _=>by omega
   rw[this,kH,q1] at hs
   omega
def oO(rows cols:List Int):Prop:=cU cols.length rows (fun j=>cols.getD j 0)
def Wit(rows cols ps:List Int):Prop:=ps.Pairwise (· < ·)/\(∀p∈ps,0<=p/\p<rows.length)/\(cols.map fun c=>min c (ps.length:Int)).sum<(ps.map fun p=>rows.getD p.toNat 0).sum/\ps.length<=rows.length
def u4{a b:List Int}(h:a.Perm b):a.sum=b.sum:=by
 induction h with
 |nil=>rfl
 |cons x _ ih=>rw[Mj,Mj,ih]
 |swap x y l=>rw[Mj,Mj,Mj,Mj];omega
 |trans _ _ h1 h2=>exact h1.trans h2
def BI{m:Nat}:(kK m).Pairwise (· < ·):=by
 unfold kK
 exact OW _ (fun a b h=>by show (a:Int)<b;omega) List.pairwise_lt_range
def yX{m:Nat}{x:Int}(h:x∈kK m):0<=x/\x<m:=by
 unfold kK at h
 obtain ⟨i,hi,rfl⟩:=Ma.mp h
 have:=Ms.mp hi
 omega
def Cv{ns:List Int}:((kK ns.length).map fun p=>ns.getD p.toNat 0)=ns:=by
 unfold kK
 rw[Mp]
 refine O0 (by rw[ox,Md]) fun j h1 h2=>?_
 rw[OZ,N1]
 show ns.getD ((j:Int).toNat) 0=_
 rw[Mg,gV,dz h2];rfl
def nW{k:Int}:∀{ns:List Int},(ns.map fun c=>min c k).sum<=ns.sum
 |[]=>OJ _
 |n::ns=>by
  rw[Mb,Mj,Mj]
  have:=nW (k:=k) (ns:=ns)
  omega
def yp{rows cols:List Int}(h:oO rows cols):rows.sum=cols.sum:=by
 have h':cU cols.length rows (fun j=>cols.getD j 0):=h
 rw[h'.sums]
 have:=oz (f:=fun x:Int=>x) (ns:=cols)
 rw[List.map_id'] at this
 exact this
def HC{rows cols:List Int}(h:rows.sum<cols.sum):Wit cols rows (kK cols.length):=by
 refine⟨BI,fun p hp=>yX hp,?_,by unfold kK;rw[ox,Md];exact Mi _⟩
 rw[Cv]
 exact Int.lt_of_le_of_lt nW h
def IB{rows fp:List Int}(hp:fp.Perm (kK rows.length))(ho:fp.Pairwise fun a b=>rows.getD b.toNat 0<=rows.getD a.toNat 0):tZ rows=fp.map fun p=>rows.getD p.toNat 0:=by
 refine (qW ?_ ?_).symm
 .have:=hp.map fun p=>rows.getD p.toNat 0
  rw[Cv] at this
  exact this
 .exact OW _ (fun a b h=>h) ho
def zj{rows cols:List Int}(hc:∀c∈cols,0<=c){k:Nat}(hk:k<=rows.length):Maj.iu (ij cols rows.length) k=(cols.map fun c=>min c (k:Int)).sum:=by
 have ef:tZ (ij cols rows.length)=ij cols rows.length:=(qW (List.Perm.refl _) vG).symm
 unfold Maj.iu
 rw[ef,ve hc hk]
def Ii{rows cols fp ps:List Int}{k:Nat}(hc:∀c∈cols,0<=c)(hk:k<=rows.length)(hp:fp.Perm (kK rows.length))(ho:fp.Pairwise fun a b=>rows.getD b.toNat 0<=rows.getD a.toNat 0)
  (NZ:Maj.iu (ij cols rows.length) k<Maj.iu rows k) (p1:ps.Perm (fp.take k)) (p2:ps.Pairwise (·<=·)):Wit rows cols ps:=by
 have nd:fp.Nodup:=hp.nodup_iff.mpr (BI.imp fun h=>by omega)
 have SD:ps.Nodup:=p1.nodup_iff.mpr (nd.sublist (List.take_sublist ..))
 have fl:fp.length=rows.length:=by rw[hp.length_eq];unfold kK;rw[ox,Md]
 have pl:ps.length=k:=by rw[p1.length_eq,M5];omega
 refine⟨(List.pairwise_and_iff.mpr ⟨p2,SD⟩).imp fun h=>by have:=h.1;have:=h.2;omega,fun p h=>yX (hp.mem_iff.mp (Og (p1.mem_iff.mp h))),?_,by omega⟩
 rw[pl,<- zj hc hk]
 have e:Maj.iu rows k=(ps.map fun p=>rows.getD p.toNat 0).sum:=by
  unfold Maj.iu
  rw[IB hp ho,<- Ov]
  exact (u4 (p1.map fun p=>rows.getD p.toNat 0)).symm
 rw[<- e]
 exact NZ
def zJ:∀{m:List Bool},Maj.cnt m<=m.length
 |[]=>Mi _
 |true::m=>by have:=zJ (m:=m);show Maj.cnt m+1<=m.length+1;omega
 |false::m=>by have:=zJ (m:=m);show Maj.cnt m<=m.length+1;omega
def C9{one other:List Int}(h:Maj.above one other=[]){p:Nat}(hp:p<one.length):Maj.iu one (p+1)<=Maj.iu other (p+1):=by
 unfold Maj.above at h
 rw[OV] at h
 have:=h p (Ms.mpr hp)
 rw[decide_eq_true_eq] at this
 omega
def EJ{one other:List Int}{p:Nat}{l:List Nat}(h:Maj.above one other=p::l):p<one.length/\Maj.iu other (p+1)<Maj.iu one (p+1):=by
 have:p∈Maj.above one other:=by rw[h];exact Fk
 unfold Maj.above at this
 have:=MZ.mp this
 exact⟨Ms.mp this.1,of_decide_eq_true this.2⟩
def Hx{rows cols:List Int}(hr:∀r∈rows,0<=r)(hc:∀c∈cols,0<=c)(h:Maj.above rows (ij cols rows.length)=[])(hs:¬ rows.sum<cols.sum):oO rows cols:=by
 have key:∀k:Nat,k<=rows.length->Maj.iu rows k<=(cols.map fun c=>min c (k:Int)).sum:=fun k hk=>by
  rw[<- zj hc hk]
  cases k with
  |zero=>unfold Maj.iu;rw[List.take_zero,List.take_zero];exact OJ _
  |succ p=>exact C9 h (by omega)
 have hcg:∀j,j<cols.length->0<=cols.getD j 0:=fun j hj=>by
  rw[gV,dz hj];exact hc _ (MO _)
 have PL:rows.sum=cols.sum:=by
  have h1:=key rows.length (Mi _)
  have h2:Maj.iu rows rows.length=rows.sum:=by
   unfold Maj.iu
   rw[M1 (by rw[(iL rows).length_eq];exact Mi _)]
   exact u4 (iL rows)
  have h3:=nW (k:=(rows.length:Int)) (ns:=cols)
  omega
 refine cU.FK hr hcg ?_ fun k hk=>?_
 .have:=oz (f:=fun x:Int=>x) (ns:=cols)
  rw[List.map_id'] at this
  rw[this,PL]
 .have:=oz (f:=fun x:Int=>min x (Maj.cnt k:Int)) (ns:=cols)
  rw[this]
  exact Int.le_trans (Maj.Hz hk) (key _ (by have:=zJ (m:=k);omega))
def vB{ns:List Int}{m:Nat}:(ij ns m).length=m:=by unfold ij;rw[ox,Md]
def JV{rows cols:List Int}(h:cU cols.length rows (fun j=>cols.getD j 0)):Maj.above rows (ij cols rows.length)=[]:=by
 unfold Maj.above
 rw[OV]
 intro p hp
 have UN:=Ms.mp hp
 try rw[vB] at UN
 rw[decide_eq_true_eq]
 have:=h.heads (iL rows) (k:=p+1) (by omega)
 have ef:tZ (ij cols rows.length)=ij cols rows.length:=(qW (List.Perm.refl _) vG).symm
 unfold Maj.iu
 rw[ef]
 omega
def iY:DSp:=fun ds P=>∃rows cols:List Int,ds=[dI rows,dI cols]/\rows.length<=8/\cols.length<=8/\(∀r∈rows,0<=r)/\(∀c∈cols,0<=c)/\(oO rows cols->∀t,Je rows cols t->P (.tup [.str "table",dT t]))/\(¬ oO rows cols->(∀ps,Wit rows cols ps->P (.tup [.str "rows",dI ps]))/\∀ps,Wit cols rows ps->P (.tup [.str "columns",dI ps]))
def uf:bE iY:=by
 intro xs P P' k h
 obtain ⟨rows,cols,e,h1,h2,h3,h4,h5,h6⟩:=h
 exact⟨rows,cols,e,h1,h2,h3,h4,fun r t ht=>k _ (h5 r t ht),fun r=>⟨fun ps hp=>k _ ((h6 r).1 ps hp),fun ps hp=>k _ ((h6 r).2 ps hp)⟩⟩
def uM:∀ds P,iY ds P->ds.length=2:=by
 intro ds P h
 obtain ⟨_,_,e,_⟩:=h
 rw[e];rfl
def wQ{c:Cs}{f:Addr}{fd:FuncData}(F:FnAt K mg "ones_with" eZ fZ f fd)(A_:Fns K mg c)(T:Txt K mg base)(xs:Exs K mg base c):aI P w K mg base CX0 4 f fd fZ (spP K iY):=by
 obtain ⟨f0,d0,NO⟩:=A_.h_first_head_above
 have Pu:aI P w K mg base CX0 3 f0 d0 bP (spP K cA):=nk NO A_ T xs
 obtain ⟨f1,d1,Pk⟩:=A_.h_heap_of
 have S2:aI P w K mg base CX0 2 f1 d1 iA (spP K jo):=zY Pk A_ T xs
 obtain ⟨f2,d2,Oa⟩:=A_.h_filled_table
 have P9:aI P w K mg base CX0 2 f2 d2 dG (spP K fU):=qM Oa A_ T xs
 obtain ⟨f3,d3,M4⟩:=A_.h_falling_places
 have Oh:aI P w K mg base CX0 1 f3 d3 bR (spP K cy):=j9 M4 A_ T xs
 refine F.fn.ok oy (fun vs H Q E h=>bc uM h) (fun cdv A outer s H vs Q E hr h=>?_)
 refine⟨_,(ao (eS (bf yR (ax (eR (K:=K) rfl rfl) (by rfl) T.sum_ boot_sum (aa (pv 0) aj)) (ax (eR (K:=K) rfl rfl) (by rfl) T.sum_ boot_sum (aa (pv 1) aj)) (bu _)) (ar (aM (ir (aa dX (aa (xV rfl rfl T.list_ rfl T.range_ (ax (aK (K:=K) rfl) (by rfl) T.len_ Mn (aa (pv 1) aj))) aj))))) bt) (ao (aR (i:=2) oy.nd rfl (by walk_at "o") (aB Pu (hr.mono (by decide)) rfl NO.mg NO.fn.kp NO.bd .nil aZ (aa (pv 0) (aa (aB S2 (hr.mono (by decide)) rfl Pk.mg Pk.fn.kp Pk.bd .nil aZ (aa (pv 1) (aa (ax (aK (K:=K) rfl) (by rfl) T.len_ Mn (aa (pv 0) aj)) aj))) aj)))) (ao (eS (bf w8 (pv 2) jG (bu _)) (ar (aM (ir (aa dX (aa (ax (pD (K:=K) rfl) (by rfl) T.sorted_ boot_sorted (aa (jU (jA (K:=K) rfl) (aB Oh (hr.mono (by decide)) rfl M4.mg M4.fn.kp M4.bd .nil aZ (aa (pv 0) aj)) lp (ll (pv 2))) aj)) aj))))) bt) (ar (aM (ir (aa dX (aa (aB P9 (hr.mono (by decide)) rfl Oa.mg Oa.fn.kp Oa.bd .nil aZ (aa (pv 0) (aa (pv 1) aj))) aj)))))))),bz (Γn:=[]) (N:=me) (ay (gn (aY (EM.er (aA pH (EM.er (aW mP (ai (ES.er (af 0)) aq))) (EM.er (aW mP (ai (ES.er (af 1)) aq)))))) (aO (M:=[]) (iq (aQ dW (aQ (Aw (EM.er (aW cO (ai (ES.er (af 1)) aq)))) bw)))) bA) (ay (ST.post (Γn:=[]) (bh 2 (EM.es (aJ (S:=cA) lW (ai (ES.er (af 0)) (ai (EM.er (aJ (S:=jo) xh (ai (ES.er (af 1)) (ai (EM.er (aW cO (ai (ES.er (af 0)) aq))) aq)))) aq)))))) (ay (gn (aY (EM.er (aA Am (ES.er (af 2)) (EM.er j3)))) (aO (M:=[]) (iq (aQ dW (aQ (aW GG (ai (EM.er (sV (EM.er (aJ (S:=cy) jh (ai (ES.er (af 0)) aq))) or_none (or_some (ES.er (af 2))))) aq)) bw)))) bA) (aO (M:=[]) (iq (aQ dW (aQ (aJ (S:=fU) px (ai (ES.er (af 0)) (ai (ES.er (af 1)) aq))) bw))))))) (fun ds P hS=>?_) h⟩
 obtain ⟨rows,cols,rfl,hr8,hc8,Xq,UB,hP,hN⟩:=hS
 rw[show aL me [dI rows,dI cols]=[some (dI rows),some (dI cols),none] from rfl]
 walk_at "go"
 by_cases PL:rows.sum<cols.sum
 .rw[if_pos PL]
  have hn:¬ oO rows cols:=fun h=>by have:=yp h;omega
  walk_at "go"
  exact (hN hn).2 _ (HC PL)
 rw[if_neg PL]
 walk_at "go"
 refine⟨cols,rows.length,rfl,by omega,hr8,?_⟩
 refine⟨rows,ij cols rows.length,rfl,by omega,vB.symm,?_⟩
 unfold JA
 cases Qm:Maj.above rows (ij cols rows.length) with
 |nil =>
  have hR:=Hx Xq UB Qm PL
  walk_at "go"
  refine⟨rows,cols,rfl,by omega,by omega,hR,fun t ht=>?_⟩
  walk_at "go"
  exact hP hR t ht
 |cons p l =>
  have hn:¬ oO rows cols:=fun h=>by rw[JV h] at Qm;cases Qm
  obtain ⟨hp,NZ⟩:=EJ Qm
  walk_at "go"
  refine⟨rows,rfl,by omega,fun fp q1 q2=>?_⟩
  walk_at "go"
  rw[show ((p:Int)+1)=((p+1:Nat):Int) by omega,zT]
  have fl:fp.length=rows.length:=by rw[q1.length_eq];unfold kK;rw[ox,Md]
  refine jr.mpr ⟨by rw[M5];omega,fun ps p1 p2=>⟨by omega,?_⟩⟩
  exact (hN hn).1 _ (Ii UB (by omega) q1 q2 NZ p1 p2)
def dU(n m:Nat)(x:Int):List (List Int):=List.replicate n (List.replicate m x)
def qd{n m:Nat}{x:Int}:cT n m (dU n m x):=⟨by unfold dU;rw[Mw],fun r hr=>by rw[List.eq_of_mem_replicate hr,Mw]⟩
def fk:DSp:=fun ds P=>∃(rows cols:List Int) (x:Int),ds=[dI rows,dI cols,.int x]/\rows.length<=8/\cols.length<=8/\P (dT (dU rows.length cols.length x))
def lO:bE fk:=by
 intro xs P P' k h
 unfold fk at h ⊢
 grind
def rJ:∀ds P,fk ds P->ds.length=3:=by
 intro ds P h
 obtain ⟨_,_,_,e,_⟩:=h
 rw[e];rfl
def uT{c:Cs}{f:Addr}{fd:FuncData}(F:FnAt K mg "full_table" dn ff f fd)(A_:Fns K mg c)(T:Txt K mg base)(xs:Exs K mg base c):aI P w K mg base CX0 1 f fd ff (spP K fk):=by
 refine F.fn.ok uO (fun vs H Q E h=>bc rJ h) (fun cdv A outer s H vs Q E hr h=>?_)
 refine⟨_,(ar (aM (bK (aH.of (sc0:=(ak dn)) (tn:=["row"]) (cap:=["columns","number"]) (idx:=[1,2]) (by decide +kernel) rfl rfl) (bS (K:=K) rfl (pv 0)) (gi.name (by decide)) (fun _ _ _ _ _=>aT (i:=0) (aN (l:=["row","columns","number"]) (by decide +kernel)) rfl (by walk_at "o") (by first|exact .inl rfl|exact .inr rfl)) (fun _ _ _ _ _=>(aS zI (cS (aa (pv 2) aj)) (ax (aK (K:=K) rfl) (by rfl) T.len_ Mn (aa (pv 1) aj))))))),bz (Γn:=[]) (N:=kY) (aO (M:=[]) (bB (dm (af 0)) (aU 0) (aA Ge (EM.er (dw (aQ (ER.bg (ES.er (af 2))) bw))) (EM.er (aW cO (ai (ES.er (af 1)) aq)))))) (fun ds P hS=>?_) h⟩
 obtain ⟨rows,cols,x,rfl,h1,h2,hP⟩:=hS
 rw[show aL kY [dI rows,dI cols,.int x]=[some (dI rows),some (dI cols),some (.int x)] from rfl]
 walk_at "go"
 refine kT (as:=rows) (f:=L3.D.int) (g:=fun _=>dI (List.replicate cols.length x)) (fun R h=>h) (by omega) (fun r T3 R h=>?_) ?_
 .walk_at "gb"
  refine⟨⟨rfl,by omega,by simp;omega⟩,?_⟩
  rw[tE]
  exact h
 .rw[show rows.map (fun _=>dI (List.replicate cols.length x))=(dU rows.length cols.length x).map dI by unfold dU;rw[List.map_replicate];exact List.map_const ..]
  exact hP
def jj(t:List (List Int))(i j:Nat):List (List Int):=setCell t i j (1 - cellAt t i j)
def eG:DSp:=fun ds P=>∃(t:List (List Int)) (i j n m:Nat),ds=[dT t,.tup [.int i,.int j]]/\cT n m t/\1<=n/\n<=8/\m<=8/\i<n/\j<m/\P (dT (jj t i j))
def kJ:bE eG:=by
 intro xs P P' k h
 unfold eG at h ⊢
 grind
def qF:∀ds P,eG ds P->ds.length=2:=by
 intro ds P h
 obtain ⟨_,_,_,_,_,e,_⟩:=h
 rw[e];rfl
def tO{c:Cs}{f:Addr}{fd:FuncData}(F:FnAt K mg "turned_cell" dA eL f fd)(A_:Fns K mg c)(T:Txt K mg base)(xs:Exs K mg base c):aI P w K mg base CX0 2 f fd eL (spP K eG):=by
 obtain ⟨f0,d0,Nh⟩:=A_.h_copied_table
 have OG:aI P w K mg base CX0 1 f0 d0 cF (spP K cG):=lN Nh A_ T xs
 refine F.fn.ok mQ (fun vs H Q E h=>bc qF h) (fun cdv A outer s H vs Q E hr h=>?_)
 refine⟨_,(ao (aR (i:=2) mQ.nd rfl (by walk_at "o") (aB OG (hr.mono (by decide)) rfl Nh.mg Nh.fn.kp Nh.bd .nil aZ (aa (pv 0) aj))) (ao (kZ (aS oj au (aP (az (K:=K) rfl) (aP (az (K:=K) rfl) (pv 2) (aP (bY (K:=K) rfl) (pv 1) au (fun _ _=>rfl)) (fun _ _=>rfl)) (aP (bY (K:=K) rfl) (pv 1) au (fun _ _=>rfl)) (fun _ _=>rfl))) (mq (aP (az (K:=K) rfl) (pv 2) (aP (bY (K:=K) rfl) (pv 1) au (fun _ _=>rfl)) (fun _ _=>rfl)) (aP (bY (K:=K) rfl) (pv 1) au (fun _ _=>rfl)) set_list)) (ar (aM (pv 2))))),bz (Γn:=[2]) (N:=kI) (ay (ST.post (Γn:=[2]) (eh (M:=[]) 2 (aJ (S:=cG) kd (ai (ES.er (af 0)) aq)))) (ay (yS 2 (aA dS (EM.er av) (qb (qb (fR 2) (ES.er (iG (af 1) (EM.er av)))) (ES.er (iG (af 1) (EM.er av))))) (ES.er (iG (af 1) (EM.er av))) (ES.er (iG (af 1) (EM.er av)))) (aO (M:=[2]) (jH 2)))) (fun ds P hS=>?_) h⟩
 obtain ⟨t,i,j,n,m,rfl,hR,n1,n8,m8,hi,hj,hP⟩:=hS
 rw[show aL kI [dT t,.tup [.int i,.int j]]=[some (dT t),some (.tup [.int i,.int j]),none] from rfl]
 have lt:=hR.1
 have r0:=hR.row hi
 walk_at "go"
 refine⟨t,rfl,by omega,?_⟩
 refine wM (t:=t) (a:=i) (b:=j) (v:=1 - cellAt t i j) rfl (fun R h=>?_) (fun R h=>?_) (fun R h=>?_) (by omega) (by rw[Mg,r0];omega) ?_
 .walk_at "go"
  refine ma hR (by omega) (by omega) ?_
  walk_at "go"
  exact h
 .walk_at "go"
  exact h
 .walk_at "go"
  exact h
 walk_at "go"
 exact hP
def cL{n m i j:Nat}{x:Int}(hi:i<n)(hj:j<m):cellAt (dU n m x) i j=x:=by
 unfold cellAt dU
 rw[gV,gV,MT,if_pos hi,M9,MT,if_pos hj];rfl
def mX(c:Cs):DSX:=fun ds P R=>∃(rows cols:List Int) (x y:Int),ds=[dI rows,dI cols,.tup [.int x,.int y]]/\1<=rows.length/\rows.length<=8/\1<=cols.length/\cols.length<=8/\(∀r∈rows,0<=r)/\(∀c∈cols,0<=c) /\
 (¬ ((0<=x/\x<rows.length)/\0<=y/\y<cols.length)->R c.NoPlace)/\(((0<=x/\x<rows.length)/\0<=y/\y<cols.length)->¬ oO rows cols->R c.NoSums) /\
 (((0<=x/\x<rows.length)/\0<=y/\y<cols.length)->oO rows cols->∀i j:Nat,x=i->y=j ->
  (∀U V,Ct rows.length cols.length rows cols (dU rows.length cols.length 0) (jj (dU rows.length cols.length 1) i j) U V->P (.tup [.str "one",dN U,dN V])) /\
  (∀t U V,Bt rows.length cols.length rows cols (dU rows.length cols.length 0) (jj (dU rows.length cols.length 1) i j) t->Ct rows.length cols.length rows cols (jj (dU rows.length cols.length 0) i j) (dU rows.length cols.length 1) U V->P (.tup [.str "zero",dN U,dN V])) /\
  ∀t t',Bt rows.length cols.length rows cols (dU rows.length cols.length 0) (jj (dU rows.length cols.length 1) i j) t->Bt rows.length cols.length rows cols (jj (dU rows.length cols.length 0) i j) (dU rows.length cols.length 1) t'->P (.tup [.str "free",dT t,dT t']))
def wG{c:Cs}:ja (mX c):=by
 intro xs P P' R R' k kr h
 obtain ⟨a1,a2,a3,a4,e,h1,h2,h3,h4,h5,h6,h7,h8,h9⟩:=h
 exact⟨a1,a2,a3,a4,e,h1,h2,h3,h4,h5,h6,fun z=>kr _ (h7 z),fun z q=>kr _ (h8 z q),fun z q i j e1 e2=>⟨fun U V w=>k _ ((h9 z q i j e1 e2).1 U V w),fun t U V w w'=>k _ ((h9 z q i j e1 e2).2.1 t U V w w'),fun t t' w w'=>k _ ((h9 z q i j e1 e2).2.2 t t' w w')⟩⟩
def yI{c:Cs}:∀ds P R,mX c ds P R->ds.length=3:=by
 intro ds P R h
 obtain ⟨_,_,_,_,e,_⟩:=h
 rw[e];rfl
def AE{c:Cs}{f:Addr}{fd:FuncData}(F:FnAt K mg "fate_of" gU iH f fd)(A_:Fns K mg c)(T:Txt K mg base)(xs:Exs K mg base c):aI P w K mg base (CXR P w) 7 f fd iH (spX K (mX c)):=by
 obtain ⟨f0,d0,NN⟩:=A_.h_full_table
 have PD:aI P w K mg base CX0 1 f0 d0 ff (spP K fk):=uT NN A_ T xs
 obtain ⟨f1,d1,Nr⟩:=A_.h_table_between
 have Pc:aI P w K mg base (CXR P w) 6 f1 d1 cW (spX K (gA c)):=p7 Nr A_ T xs
 obtain ⟨f2,d2,NL⟩:=A_.h_turned_cell
 have Pq:aI P w K mg base CX0 2 f2 d2 eL (spP K eG):=tO NL A_ T xs
 obtain ⟨f3,d3,N2⟩:=A_.h_is_place
 have P7:aI P w K mg base CX0 1 f3 d3 gD (spP K gK):=yL N2 A_ T xs
 obtain ⟨f4,d4,OM⟩:=A_.h_ones_with
 have RC:aI P w K mg base CX0 4 f4 d4 fZ (spP K iY):=wQ OM A_ T xs
 refine F.fn.okX jP (fun vs H Q E h=>m4 yI h) (fun cdv A outer s H vs Q E hr h=>?_)
 refine⟨_,(ao (eS (PT.nox (PW.pt (Cj (wI (rQ (aB P7 (hr.mono (by decide)) rfl N2.mg N2.fn.kp N2.bd .nil aZ (aa (aP (bY (K:=K) rfl) (pv 2) au (fun _ _=>rfl)) (aa (ax (aK (K:=K) rfl) (by rfl) T.len_ Mn (aa (pv 0) aj)) aj))))) (xl (wI (rQ (aB P7 (hr.mono (by decide)) rfl N2.mg N2.fn.kp N2.bd .nil aZ (aa (aP (bY (K:=K) rfl) (pv 2) au (fun _ _=>rfl)) (aa (ax (aK (K:=K) rfl) (by rfl) T.len_ Mn (aa (pv 1) aj)) aj))))))))) (ar (oC (xs.o_NoPlace.own xs.m_NoPlace) Oe rfl rfl qX (aa dX aj))) bt) (ao (eS (PT.nox (bf DP (aP (bY (K:=K) rfl) (aB RC (hr.mono (by decide)) rfl OM.mg OM.fn.kp OM.bd .nil aZ (aa (pv 0) (aa (pv 1) aj))) au (fun _ _=>rfl)) dX (bu _))) (ar (oC (xs.o_NoSums.own xs.m_NoSums) Oe rfl rfl qX (aa dX aj))) bt) (ao (PS.nox (aR (i:=3) jP.nd rfl (by walk_at "o") (aB PD (hr.mono (by decide)) rfl NN.mg NN.fn.kp NN.bd .nil aZ (aa (pv 0) (aa (pv 1) (aa au aj)))))) (ao (PS.nox (aR (i:=4) jP.nd rfl (by walk_at "o") (aB PD (hr.mono (by decide)) rfl NN.mg NN.fn.kp NN.bd .nil aZ (aa (pv 0) (aa (pv 1) (aa au aj)))))) (ao (aR (i:=5) jP.nd rfl (by walk_at "o") (aB Pc (hr.mono (by decide)) rfl Nr.mg Nr.fn.kp Nr.bd .nil tH (PA.nox (aa (pv 0) (aa (pv 1) (aa (pv 3) (aa (aB Pq (hr.mono (by decide)) rfl NL.mg NL.fn.kp NL.bd .nil aZ (aa (pv 4) (aa (pv 2) aj))) aj))))))) (ao (PS.nox (eS (bf lQ (aP (bY (K:=K) rfl) (pv 5) au (fun _ _=>rfl)) dX (bu _)) (ar (aM (ir (aa dX (aa (aP (bY (K:=K) rfl) (pv 5) au (fun _ _=>rfl)) (aa (aP (bY (K:=K) rfl) (pv 5) au (fun _ _=>rfl)) aj)))))) bt)) (ao (aR (i:=6) jP.nd rfl (by walk_at "o") (aB Pc (hr.mono (by decide)) rfl Nr.mg Nr.fn.kp Nr.bd .nil tH (PA.nox (aa (pv 0) (aa (pv 1) (aa (aB Pq (hr.mono (by decide)) rfl NL.mg NL.fn.kp NL.bd .nil aZ (aa (pv 3) (aa (pv 2) aj))) (aa (pv 4) aj))))))) (PSs.nox (ao (eS (bf lQ (aP (bY (K:=K) rfl) (pv 6) au (fun _ _=>rfl)) dX (bu _)) (ar (aM (ir (aa dX (aa (aP (bY (K:=K) rfl) (pv 6) au (fun _ _=>rfl)) (aa (aP (bY (K:=K) rfl) (pv 6) au (fun _ _=>rfl)) aj)))))) bt) (ar (aM (ir (aa dX (aa (aP (bY (K:=K) rfl) (pv 5) au (fun _ _=>rfl)) (aa (aP (bY (K:=K) rfl) (pv 6) au (fun _ _=>rfl)) aj))))))))))))))),mS (Γn:=[6,5,4,3]) (N:=qc) (fun R=>(i8 (Cr (B8 (wu (Du (EM.er (aJ (S:=gK) nD (ai (ES.er (iG (af 2) (EM.er av))) (ai (EM.er (aW cO (ai (ES.er (af 0)) aq))) aq)))))) (wu (Du (EM.er (aJ (S:=gK) nD (ai (ES.er (iG (af 2) (EM.er av))) (ai (EM.er (aW cO (ai (ES.er (af 1)) aq))) aq))))))) (o7 (ai (EM.er dW) aq)) (ST.sx bA)) (i8 (Cr (aY (EM.er (aA KP (EM.er (Jy (aJ (S:=iY) uf (ai (ES.er (af 0)) (ai (ES.er (af 1)) aq))) (EM.er av))) (EM.er dW)))) (o7 (ai (EM.er dW) aq)) (ST.sx bA)) (i8 (ST.sx (ST.post (Γn:=[3]) (eh (M:=[]) 3 (aJ (S:=fk) lO (ai (ES.er (af 0)) (ai (ES.er (af 1)) (ai (EM.er av) aq))))))) (i8 (ST.sx (ST.post (Γn:=[4,3]) (eh (M:=[]) 4 (aJ (S:=fk) lO (ai (ES.er (af 0)) (ai (ES.er (af 1)) (ai (EM.er av) aq))))))) (i8 (DL 5 jI (ai (ES.er (af 0)) (ai (ES.er (af 1)) (ai (fR 3) (ai (EM.er (aJ (S:=eG) kJ (ai (fR 4) (ai (ES.er (af 2)) aq)))) aq))))) (i8 (ST.sx (gn (aY (EM.er (aA qS (zG (fR 5) (EM.er av)) (EM.er dW)))) (aO (M:=[5]) (iq (iQ dW (zy 5)))) bA)) (i8 (DL 6 jI (ai (ES.er (af 0)) (ai (ES.er (af 1)) (ai (EM.er (aJ (S:=eG) kJ (ai (fR 3) (ai (ES.er (af 2)) aq)))) (ai (fR 4) aq))))) (ST.sx (ay (gn (aY (EM.er (aA qS (zG (fR 6) (EM.er av)) (EM.er dW)))) (aO (M:=[6]) (iq (iQ dW (zy 6)))) bA) (aO (M:=[5,6]) (iq (iQ dW (iQ (A7 5 1) (iQ (A7 6 1) bw))))))))))))))) (fun ds P R hS=>?_) h⟩
 obtain ⟨rows,cols,x,y,rfl,n1,n8,m1,m8,Xq,UB,hN,Sv,hP⟩:=hS
 rw[show aL qc [dI rows,dI cols,.tup [.int x,.int y]]=[some (dI rows),some (dI cols),some (.tup [.int x,.int y]),none,none,none,none] from rfl]
 walk_at "go"
 refine⟨x,_,rfl,?_⟩
 walk_at "go"
 by_cases hx:0<=x/\x<rows.length
 .by_cases hy:0<=y/\y<cols.length
  .rw[if_neg (by simp [hx])]
   refine⟨y,_,rfl,?_⟩
   walk_at "go"
   rw[if_neg (by simp [hy])]
   refine⟨rows,cols,rfl,n8,m8,Xq,UB,fun hR t ht=>?_,fun hn=>⟨fun ps _=>?_,fun ps _=>?_⟩⟩
   .walk_at "go"
    obtain ⟨i,rfl⟩:∃i:Nat,x=i:=⟨x.toNat,by omega⟩
    obtain ⟨j,rfl⟩:∃j:Nat,y=j:=⟨y.toNat,by omega⟩
    obtain ⟨p1,p2,p3⟩:=hP ⟨hx,hy⟩ hR i j rfl rfl
    have hi:i<rows.length:=by omega
    have hj:j<cols.length:=by omega
    have sm:rows.sum=cols.sum:=yp hR
    have f0:=qd (n:=rows.length) (m:=cols.length) (x:=0)
    have f1:=qd (n:=rows.length) (m:=cols.length) (x:=1)
    have w1:Low rows.length cols.length (dU rows.length cols.length 0) (jj (dU rows.length cols.length 1) i j):=fun a b ha hb=>by
     unfold jj
     rw[oP f1 hi hj,cL ha hb,cL ha hb,cL hi hj];split<;>omega
    have w2:Low rows.length cols.length (jj (dU rows.length cols.length 0) i j) (dU rows.length cols.length 1):=fun a b ha hb=>by
     unfold jj
     rw[oP f0 hi hj,cL ha hb,cL ha hb,cL hi hj];split<;>omega
    refine⟨rows,cols,0,rfl,n8,m8,?_⟩
    refine⟨rows,cols,1,rfl,n8,m8,?_⟩
    refine⟨_,i,j,_,_,rfl,f1,n1,n8,m8,hi,hj,?_⟩
    refine⟨rows,cols,_,_,_,_,rfl,f0,f1.setCell hi,n1,by omega,m1,by omega,rfl,rfl,fun z=>absurd w1 z,fun _ z=>absurd sm z,fun _ _ t1 h1=>?_,fun _ _ U V h1=>?_⟩
    .walk_at "go"
     rw[if_neg (by decide)]
     refine⟨_,i,j,_,_,rfl,f0,n1,n8,m8,hi,hj,?_⟩
     refine⟨rows,cols,_,_,_,_,rfl,f0.setCell hi,f1,n1,by omega,m1,by omega,rfl,rfl,fun z=>absurd w2 z,fun _ z=>absurd sm z,fun _ _ t2 h2=>?_,fun _ _ U V h2=>?_⟩
     .walk_at "go"
      rw[if_neg (by decide)]
      exact⟨_,_,rfl,rfl,_,_,rfl,rfl,by decide,p3 t1 t2 h1 h2⟩
     .walk_at "go"
      exact⟨_,_,_,rfl,by show 3<=1000;decide,p2 t1 U V h1 h2⟩
    .walk_at "go"
     exact⟨_,_,_,rfl,by show 3<=1000;decide,p1 U V h1⟩
   .walk_at "go"
    rw[if_pos (by decide)]
    exact⟨by decide,Sv ⟨hx,hy⟩ hn⟩
   .walk_at "go"
    rw[if_pos (by decide)]
    exact⟨by decide,Sv ⟨hx,hy⟩ hn⟩
  .rw[if_neg (by simp [hx])]
   refine⟨y,_,rfl,?_⟩
   walk_at "go"
   rw[if_pos (by simpa using hy)]
   exact⟨by decide,hN fun z=>hy z.2⟩
 .rw[if_pos (by simpa using hx)]
  exact⟨by decide,hN fun z=>hx z.1⟩
def J7{a b:List (List Int)}:dT (a++b)=.lst (a.map dI++b.map dI):=congrArg L3.D.lst (Mr)
def Jx{w:Nat}(h:w<=5):(Tal.lines w).length<=32:=by rw[Tal.jm];exact Mq (Of (by decide) h) (by decide)
def HM{x:Int}{w:Nat}(h:w<=5):(Tal.bL x w).length<=32:=Mq Tal.Aj (Mq (Of (by decide) h) (by decide))
def gW:DSp:=fun ds P=>∃w:Nat,ds=[.int w]/\w<=5/\P (dT (Tal.lines w))
def tG:bE gW:=by
 intro xs P P' k h
 unfold gW at h ⊢
 grind
def uo:∀ds P,gW ds P->ds.length=1:=by
 intro ds P h
 obtain ⟨_,e,_⟩:=h
 rw[e];rfl
def wB{c:Cs}{f:Addr}{fd:FuncData}(F:FnAt K mg "all_lines" dy fM f fd)(A_:Fns K mg c)(T:Txt K mg base)(xs:Exs K mg base c):aI P w K mg base CX0 1 f fd fM (spP K gW):=by
 refine F.fn.ok jl (fun vs H Q E h=>bc uo h) (fun cdv A outer s H vs Q E hr h=>?_)
 refine⟨_,(ao (aR (i:=1) jl.nd rfl (by walk_at "o") (cS (aa (cS aj) aj))) (ao (i7 PassesOwn.never rfl (bJ rfl T.range_ (aa (pv 0) aj)) (aT (i:=2) jl.nd rfl (by walk_at "o")) (ar (aR (i:=1) jl.nd rfl (by walk_at "o") (aS rW (bK (aH.of (sc0:=(ak dy)) (tn:=["line"]) (cap:=[]) (idx:=[]) (by decide +kernel) rfl rfl) (bS (K:=K) rfl (pv 1)) (gi.name (by decide)) (fun _ _ _ _ _=>aT (i:=0) (aN (l:=["line"]) (by decide +kernel)) rfl (by walk_at "o") (by first|exact .inl rfl|exact .inr rfl)) (fun _ _ _ _ _=>(aS rW (cS (aa au aj)) (pv 0)))) (bK (aH.of (sc0:=(ak dy)) (tn:=["line"]) (cap:=[]) (idx:=[]) (by decide +kernel) rfl rfl) (bS (K:=K) rfl (pv 1)) (gi.name (by decide)) (fun _ _ _ _ _=>aT (i:=0) (aN (l:=["line"]) (by decide +kernel)) rfl (by walk_at "o") (by first|exact .inl rfl|exact .inr rfl)) (fun _ _ _ _ _=>(aS rW (cS (aa au aj)) (pv 0)))))))) (ar (aM (pv 1))))),bz (Γn:=[1]) (N:=mM) (ay (ST.post (Γn:=[1]) (eh (M:=[]) 1 (dw (aQ (dw bw) bw)))) (ay (jf (dP (ai (ES.er (af 0)) aq)) (aU 2) (ST.post (Γn:=[1]) (eh (M:=[]) 1 (Ha (bB (dm (af 1)) (aU 0) (aA A5 (EM.er (dw (aQ av bw))) (ES.er (af 0)))) (bB (dm (af 1)) (aU 0) (aA A5 (EM.er (dw (aQ av bw))) (ES.er (af 0)))))))) (aO (M:=[1]) (jH 1)))) (fun ds P hS=>?_) h⟩
 obtain ⟨w,rfl,hw,hP⟩:=hS
 rw[show aL mM [.int w]=[some (.int w),none,none] from rfl]
 walk_at "go"
 refine mE (lo:=0) (n:=w) (fun i δ=>∃(o2:Option D),δ=[some (.int w),some (dT (Tal.lines i)),o2]) ⟨none,rfl⟩ ?_ ?_
 .rintro i δ N hi ⟨o2,rfl⟩ hN
  have p32:(Tal.lines i).length<=16:=by rw[Tal.jm];exact Mq (Of (by decide) (show i<=4 by omega)) (by decide)
  have one:∀(e:Int) (P:DK),P (dT ((Tal.lines i).map fun r=>e::r))->nF (Hd (lU 1)) (xI 0) FO (vOp Gw (Fh (oU (vC (L3.D.int e)) AD)) (lU 0)) (0+1) [] [some (L3.D.int w),some (dT (Tal.lines i)),some (.int (0+(i:Int)))] P:=fun e P h=>by
   refine kT (as:=Tal.lines i) (f:=dI) (g:=fun r=>dI (e::r)) (fun R h=>h) (by omega) (fun r T3 R h=>?_) ?_
   .have:=(Tal.gk T3).1
    walk_at "gb"
    refine⟨⟨rfl,cP,by first|omega|(rw[ox];show 1+_<=_;omega)|(simp;omega)⟩,h⟩
   .rw[show (Tal.lines i).map (fun r=>dI (e::r))=((Tal.lines i).map fun r=>e::r).map dI by rw[Mp];rfl]
    exact h
  walk_at "go"
  refine one 0 _ ?_
  refine one 1 _ ?_
  refine⟨_,_,rfl,rfl,by simp;omega,?_⟩
  refine hN _ ⟨some (.int (0+(i:Int))),?_⟩
  rw[<- J7];rfl
 .rintro δ ⟨o2,rfl⟩
  walk_at "go"
  exact hP
def eE:DSp:=fun ds P=>∃(x:Int) (w:Nat),ds=[.int x,.int w]/\w<=5/\P (dT (Tal.bL x w))
def lP:bE eE:=by
 intro xs P P' k h
 unfold eE at h ⊢
 grind
def rL:∀ds P,eE ds P->ds.length=2:=by
 intro ds P h
 obtain ⟨_,_,e,_⟩:=h
 rw[e];rfl
def nC{c:Cs}{f:Addr}{fd:FuncData}(F:FnAt K mg "lines_with" dq d7 f fd)(A_:Fns K mg c)(T:Txt K mg base)(xs:Exs K mg base c):aI P w K mg base CX0 2 f fd d7 (spP K eE):=by
 obtain ⟨f0,d0,OQ⟩:=A_.h_all_lines
 have RG:aI P w K mg base CX0 1 f0 d0 fM (spP K gW):=wB OQ A_ T xs
 refine F.fn.ok uE (fun vs H Q E h=>bc rL h) (fun cdv A outer s H vs Q E hr h=>?_)
 refine⟨_,(ar (aM (rj rfl (aH.of (sc0:=(ak dq)) (tn:=["line"]) (cap:=["number"]) (idx:=[0]) (by decide +kernel) rfl rfl) (bS (K:=K) rfl (aB RG (hr.mono (by decide)) rfl OQ.mg OQ.fn.kp OQ.bd .nil aZ (aa (pv 1) aj))) (gi.name (by decide)) (fun _ _ _ _ _=>aT (i:=0) (aN (l:=["line","number"]) (by decide +kernel)) rfl (by walk_at "o") (by first|exact .inl rfl|exact .inr rfl)) (fun _ _ _ _ _=>rh (bf lQ (ax (eR (K:=K) rfl rfl) (by rfl) T.sum_ boot_sum (aa (pv 0) aj)) (pv 1) (bu _))) (fun _ _ _ _ _=>(pv 0)) (by intro _;rfl)))),bz (Γn:=[]) (N:=lD) (aO (M:=[]) (He (aJ (S:=gW) tG (ai (ES.er (af 1)) aq)) (aY (EM.er (aA qS (EM.er (aW mP (ai (ES.er (af 0)) aq))) (ES.er (af 1))))))) (fun ds P hS=>?_) h⟩
 obtain ⟨x,w,rfl,hw,hP⟩:=hS
 rw[show aL lD [.int x,.int w]=[some (.int x),some (.int w)] from rfl]
 walk_at "go"
 refine⟨w,rfl,hw,?_⟩
 have l5:=Jx hw
 refine⟨(Tal.lines w).map dI,rfl,by rw[ox];omega,fun d=>match d with|.lst ds=>decide ((ds.map fun z=>match z with|.int i=>i|_=>0).sum=x)|_=>false,fun d hd R h=>?_,?_⟩
 .obtain ⟨r,T3,rfl⟩:=Ma.mp hd
  have e:((r.map L3.D.int).map fun z=>match z with|.int i=>i|_=>0)=r:=by rw[Mp];exact List.map_id r
  simp only[e] at h
  walk_at "gb"
  exact h
 .have ef:((Tal.lines w).map dI).filter (fun d=>match d with|.lst ds=>decide ((ds.map fun z=>match z with|.int i=>i|_=>0).sum=x)|_=>false)=(Tal.bL x w).map dI:=by
   rw[List.filter_map,Tal.bL]
   congr 1
   refine List.filter_congr fun r _=>?_
   have e:((r.map L3.D.int).map fun z=>match z with|.int i=>i|_=>0)=r:=by rw[Mp];exact List.map_id r
   show decide (((r.map L3.D.int).map fun z=>match z with|.int i=>i|_=>0).sum=x)=decide (r.sum=x)
   rw[e]
  rw[ef]
  exact hP
def Phi(rows:List Int):Int->List Int->Int->Prop:=fun d ks n=>n=Tal.W (rows.drop d.toNat) ks
def Gu(c:Cs)(rows:List Int)(QE:List D):D:=.ins c.Tally ["choices","known"] [.lst QE,.mem (Phi rows)]
def BR(rows:List Int)(w:Nat):List D:=rows.map fun r=>dT (Tal.bL r w)
def tly(c:Cs)(rows:List Int)(w:Nat):D:=Gu c rows (BR rows w)
def Chs(d:Nat)(rows:List Int)(w:Nat)(QE:List D):Prop:=QE.length=rows.length/\∀k,d<=k->k<rows.length->QE[k]?=some (dT (Tal.bL (rows.getD k 0) w))
def BD{d w:Nat}{rows:List Int}:Chs d rows w (BR rows w):=⟨by unfold BR;rw[ox],fun k _ hk=>by unfold BR;rw[L9,gV,dz hk];rfl⟩
def Chs.up{d e w:Nat}{rows:List Int}{QE:List D}(h:Chs d rows w QE)(k:d<=e):Chs e rows w QE:=⟨h.1,fun i hi=>h.2 i (Mq k hi)⟩
def getD_at{rows:List Int}{i:Nat}(h:i<rows.length):rows.getD i 0=rows[i]:=by rw[gV,dz h];rfl
def du(c:Cs):DSp:=fun ds P=>∃(rows:List Int) (w:Nat),ds=[dI rows,.int w]/\w<=5/\rows.length<=8/\P (tly c rows w)
def lM{c:Cs}:bE (du c):=by
 intro xs P P' k h
 unfold du at h ⊢
 grind
def tI{c:Cs}:∀ds P,(du c) ds P->ds.length=2:=by
 intro ds P h
 obtain ⟨_,_,e,_⟩:=h
 rw[e];rfl
def md{c:Cs}:∀ds P,(du c) ds P->(du c) ds fun d=>(∃ns dd,d=.ins c.Tally ns dd)/\P d:=by
 intro ds P h
 unfold du at h ⊢
 obtain ⟨rows,w,e,h0,h1,h⟩:=h;exact⟨rows,w,e,h0,h1,⟨⟨_,_,rfl⟩,h⟩⟩
def nE{c:Cs}{f:Addr}{fd:FuncData}(F:wk K mg "Tally" c.Tally "Tally.__init__" cZ eB f fd)(A_:Fns K mg c)(T:Txt K mg base)(xs:Exs K mg base c):aI P w K mg base CX0 3 f fd eB (spN K c.Tally (du c)):=by
 obtain ⟨f0,d0,Nu⟩:=A_.h_lines_with
 have O2:aI P w K mg base CX0 2 f0 d0 d7 (spP K eE):=nC Nu A_ T xs
 refine F.fn.ok uJ (fun vs H Q E h=>Cy tI h) (fun cdv A outer s H vs Q E hr h=>?_)
 refine⟨_,(ao (hE (K:=K) rfl (pv 0) (bK (aH.of (sc0:=(ak cZ)) (tn:=["number"]) (cap:=["width"]) (idx:=[2]) (by decide +kernel) rfl rfl) (bS (K:=K) rfl (pv 1)) (gi.name (by decide)) (fun _ _ _ _ _=>aT (i:=0) (aN (l:=["number","width"]) (by decide +kernel)) rfl (by walk_at "o") (by first|exact .inl rfl|exact .inr rfl)) (fun _ _ _ _ _=>(aB O2 (hr.mono (by decide)) rfl Nu.mg Nu.fn.kp Nu.bd .nil aZ (aa (pv 0) (aa (pv 1) aj))))) rfl) (ar (hE (K:=K) rfl (pv 0) GF rfl))),El (N:=lx) (mw xs.i_Tally.cl xs.n_Tally_choices (bB (dm (af 1)) (aU 0) (aJ (S:=eE) lP (ai (ES.er (af 0)) (ai (ES.er (af 1)) aq)))) (BL xs.i_Tally.cl xs.n_Tally_known IC)) (fun ds P hS=>?_) (by decide) (by decide +kernel) (by decide) h⟩
 obtain ⟨rows,w,rfl,hw,hl,hP⟩:=hS
 rw[show aL (lx.drop 1) [dI rows,.int w]=[some (dI rows),some (.int w)] from rfl]
 walk_at "go"
 refine kT (as:=rows) (f:=L3.D.int) (g:=fun r=>dT (Tal.bL r w)) (fun R h=>h) (by omega) (fun r T3 R h=>?_) ?_
 .walk_at "gb"
  exact⟨r,w,rfl,hw,h⟩
 .exact⟨_,hP⟩
def df(c:Cs)(n:Nat):DSp:=fun ds P=>∃(rows:List Int) (QE:List D) (done w:Nat) (left:List Int),ds=[Gu c rows QE,.int done,dI left]/\Chs done rows w QE/\left.length=w/\1<=w/\w<=5/\rows.length<=5/\done<=rows.length/\rows.length - done<n/\P (.int (Tal.W (rows.drop done) left))
def qQ{c:Cs}{K:PySem.W.Frag}{vs:List V}{H:Hp}{Q:VK}{E:XK}(h:spP K (df c 0) vs H Q E):False:=by
 obtain ⟨ds,_,_,rows,QE,done,w,left,_,_,_,_,_,_,_,z,_⟩:=h
 exact absurd z (Nat.not_lt_zero _)
def EL{rs left:List Int}{x:Int}(hx:x∈left)(h:x<0\/(rs.length:Int)<x):Tal.W rs left=0:=by
 obtain ⟨i,hi,rfl⟩:=NY hx
 refine Tal.II hi ?_
 rw[gV,dz hi];exact h
def BS{rows:List Int}{d:Nat}{ks:List Int}{n:Int}:Phi rows (d:Int) ks n↔n=Tal.W (rows.drop d) ks:=M3
def jb{c:Cs}{n:Nat}:bE (df c n):=by
 intro xs P P' k h
 obtain ⟨ch,QE,done,w,left,e,h0,h1,h2,h3,h4,h5,h6,h⟩:=h
 exact⟨ch,QE,done,w,left,e,h0,h1,h2,h3,h4,h5,h6,k _ h⟩
def mC{c:Cs}{n:Nat}:∀ds P,df c n ds P->ds.length=3:=by
 intro ds P h
 obtain ⟨_,_,_,_,_,e,_⟩:=h
 rw[e];rfl
def cR{c:Cs}{n k:Nat}{f:Addr}{fd:FuncData}(F:ni K c.Tally "ways" "Tally.ways" cD bO f fd)(A_:Fns K mg c)(T:Txt K mg base)(xs:Exs K mg base c)(hk:2<=k)(N9:aI P w K mg base CX0 k f fd bO (spP K (df c n))):aI P w K mg base CX0 (k+1) f fd bO (spP K (df c (n+1))):=by
 obtain ⟨f0,d0,MM⟩:=A_.h_less_row
 have NV:aI P w K mg base CX0 1 f0 d0 eK (spP K cx):=ke MM A_ T xs
 have Nm:=F
 refine F.fn.ok nv (fun vs H Q E h=>bc mC h) (fun cdv A outer s H vs Q E hr h=>?_)
 refine⟨_,(ao (eS (PW.pt (Cj (bf yR (ax (m3 (K:=K) rfl rfl) (by rfl) T.min_ boot_min (aa (pv 2) aj)) au (bu _)) (xl (bf vD (ax (uX (K:=K) rfl rfl) (by rfl) T.max_ boot_max (aa (pv 2) aj)) (aS oj (ax (aK (K:=K) rfl) (by rfl) T.len_ Mn (aa (aV (K:=K) rfl (pv 0) rfl) aj)) (pv 1)) (bu _))))) (ar (aM au)) bt) (ao (eS (bf lQ (pv 1) (ax (aK (K:=K) rfl) (by rfl) T.len_ Mn (aa (aV (K:=K) rfl (pv 0) rfl) aj)) (bu _)) (ar (aM au)) bt) (ao (aR (i:=3) nv.nd rfl (by walk_at "o") (ir (aa (pv 1) (aa (gf (x9 (K:=K) rfl) (by rfl) T.tuple_ boot_tuple (aa (ax (pD (K:=K) rfl) (by rfl) T.sorted_ boot_sorted (aa (pv 2) aj)) aj)) aj)))) (ao (eS (bf (Fy hr.units) (pv 3) (aV (K:=K) rfl (pv 0) rfl) (by with_unfolding_all rfl)) (ar (kZ (ax (eR (K:=K) rfl rfl) (by rfl) T.sum_ boot_sum (aa (bK (aH.of (sc0:=(ak cD)) (tn:=["line"]) (cap:=["self","done","left"]) (idx:=[0,1,2]) (by decide +kernel) rfl rfl) (bS (K:=K) rfl (aP (az (K:=K) rfl) (aV (K:=K) rfl (pv 0) rfl) (pv 1) (fun _ _=>rfl))) (gi.name (by decide)) (fun _ _ _ _ _=>aT (i:=0) (aN (l:=["line","self","done","left"]) (by decide +kernel)) rfl (by walk_at "o") (by first|exact .inl rfl|exact .inr rfl)) (fun _ _ _ _ _=>(o9 (pv 1) xs.i_Tally.cl Nm.mt N9 (hr.mono (by omega)) Nm.bd .nil aZ (aa (aS fA (pv 2) au) (aa (aB NV (hr.mono (by omega)) rfl MM.mg MM.fn.kp MM.bd .nil aZ (aa (pv 3) (aa (pv 0) aj))) aj))))) aj)) (mq (aV (K:=K) rfl (pv 0) rfl) (pv 3) (Fj hr.units)))) bt) (ar (aM (aP (Ih hr.units) (aV (K:=K) rfl (pv 0) rfl) (pv 3) (fun _ _=>rfl)))))))),bz (Γn:=[]) (N:=lh) (ay (gn (B8 (aY (EM.er (aA pH (EM.er (aW w6 (ai (ES.er (af 2)) aq))) (EM.er av)))) (aY (EM.er (aA pH (EM.er (aW Ec (ai (ES.er (af 2)) aq))) (EM.er (aA dS (EM.er (aW cO (ai (ES.er (cw ["choices","known"] 0 xs.i_Tally.cl xs.n_Tally_choices (af 0))) aq))) (ES.er (af 1)))))))) (aO (M:=[]) av) bA) (ay (gn (aY (EM.er (aA qS (ES.er (af 1)) (EM.er (aW cO (ai (ES.er (cw ["choices","known"] 0 xs.i_Tally.cl xs.n_Tally_choices (af 0))) aq)))))) (aO (M:=[]) av) bA) (ay (ST.post (Γn:=[]) (bh 3 (EM.es (iq (aQ (ER.bg (ES.er (af 1))) (aQ (aW Hj (ai (EM.er (aW GG (ai (ES.er (af 2)) aq))) aq)) bw)))))) (GU ["choices","known"] 1 3 xs.i_Tally.cl xs.n_Tally_known (EM.er (aW mP (ai (EM.er (bB (dm (bb (cw ["choices","known"] 0 xs.i_Tally.cl xs.n_Tally_choices (af 0)) (ES.er (af 1)))) (aU 0) (pj (C:=c.Tally) ["choices","known"] jb (ES.er (af 1)) (ai (EM.er (aA dS (ES.er (af 2)) (EM.er av))) (ai (EM.er (aJ (S:=cx) gu (ai (ES.er (af 3)) (ai (ES.er (af 0)) aq)))) aq))))) aq))))))) (fun ds P hS=>?_) h⟩
 obtain ⟨rows,QE,done,w,left,rfl,hc,hl,w1,w5,c5,hd,hn,hP⟩:=hS
 rw[show aL lh [Gu c rows QE,.int done,dI left]=[some (Gu c rows QE),some (.int done),some (dI left),none] from rfl]
 have Ub:=hc.1
 unfold Gu
 walk_at "go"
 intro M hM Vo
 by_cases h0:M<0
 .rw[if_pos h0];rw[EL hM (.inl h0)] at hP;exact hP
 rw[if_neg h0]
 refine⟨by omega,?_⟩
 intro M2 hM2 Vp
 by_cases h1:(QE.length:Int) - done<M2
 .rw[if_pos h1];rw[EL hM2 (.inr (by rw[Nl];omega))] at hP;exact hP
 rw[if_neg h1]
 by_cases h2:done=rows.length
 .rw[if_pos (by omega)]
  rw[List.drop_of_length_le (by omega),Tal.W,if_pos (fun x hx=>by have:=Vo x hx;have:=Vp x hx;omega)] at hP
  exact hP
 rw[if_neg (by omega)]
 refine⟨by omega,fun ms pm _=>⟨cP,by decide,?_⟩⟩
 have NZ:done<rows.length:=by omega
 have ew:Tal.W (rows.drop done) ms=Tal.W (rows.drop done) left:=Tal.z5 pm
 refine⟨_,Phi rows,(done:Int),ms,rfl,rfl,rfl,?_,?_,fun m hm=>?_⟩
 .unfold Ag
  simp only[Nb,decide_eq_true_eq,MP]
  refine⟨⟨⟨by omega,by omega⟩,by rw[pm.length_eq];omega⟩,fun e he=>?_⟩
  have Y8:=pm.mem_iff.mp he
  have:=Vo e Y8
  have:=Vp e Y8
  omega
 .have l5:=HM (x:=rows[done]) w5
  walk_at "go"
  refine kT (as:=Tal.bL rows[done] w) (f:=dI) (g:=fun r=>.int (Tal.W (rows.drop (done+1)) (Tal.sub left r))) (fun R h=>?_) (by omega) (fun r T3 R h=>?_) ?_
  .walk_at "go"
   refine G5 (by omega) (by omega) ?_
   rw[Mg,hc.2 done (Mi _) NZ,getD_at NZ]
   exact h
  .have hr3:=(Tal.gk (Tal.dE.mp T3).1).1
   walk_at "gb"
   refine⟨left,r,rfl,by omega,by omega,?_⟩
   rw[Tal.BK (by omega)]
   refine⟨rows,QE,done+1,w,_,rfl,hc.up (Nt _),by rw[Tal.sub_len (by omega)];exact hl,w1,w5,c5,NZ,by omega,?_⟩
   exact h
  .rw[kf]
   walk_at "go"
   refine⟨_,rfl,?_⟩
   rw[BS,ew,MD NZ,Tal.W,hl]
 .rw[BS] at hm
  rw[hm,ew]
  exact hP
def nB{c:Cs}{f:Addr}{fd:FuncData}(F:ni K c.Tally "ways" "Tally.ways" cD bO f fd)(A_:Fns K mg c)(T:Txt K mg base)(xs:Exs K mg base c):aI P w K mg base CX0 9 f fd bO (spP K (df c 7)):=by
 have G0:aI P w K mg base CX0 2 f fd bO (spP K (df c 0)):=⟨fun vs H Q E h=>bc mC h,fun A outer s H args us vs Q E hr e0 hb r h=>(qQ h).elim⟩
 exact (cR F A_ T xs (by decide) (cR F A_ T xs (by decide) (cR F A_ T xs (by decide) (cR F A_ T xs (by decide) (cR F A_ T xs (by decide) (cR F A_ T xs (by decide) (cR F A_ T xs (by decide) G0)))))))
def ie(c:Cs):DSX:=fun ds P R=>∃xs ys:List D,ds=[.lst xs,.lst ys]/\(xs.length<=5/\ys.length<=5->P .non)/\(¬ (xs.length<=5/\ys.length<=5)->R c.TooGreat)
def lR{c:Cs}:ja (ie c):=by
 intro xs P P' R R' k kr h
 obtain ⟨a,b,e,h1,h2⟩:=h
 exact⟨a,b,e,fun z=>k _ (h1 z),fun z=>kr _ (h2 z)⟩
def sM{c:Cs}:∀ds P R,ie c ds P R->ds.length=2:=by
 intro ds P R h
 obtain ⟨a,b,e,_⟩:=h
 rw[e];rfl
def ny{c:Cs}{f:Addr}{fd:FuncData}(F:FnAt K mg "check_size" eA eD f fd)(A_:Fns K mg c)(T:Txt K mg base)(xs:Exs K mg base c):aI P w K mg base (CXR P w) 1 f fd eD (spX K (ie c)):=by
 refine F.fn.okX uR (fun vs H Q E h=>m4 sM h) (fun cdv A outer s H vs Q E hr h=>?_)
 refine⟨_,(ao (eS (PT.nox (PW.pt (Cj (bf vD (ax (aK (K:=K) rfl) (by rfl) T.len_ Mn (aa (pv 0) aj)) (Bk (v:=.int 5) rfl T.MOST_COUNTED_.choose_spec ⟨_,rfl⟩) (bu _)) (xl (bf vD (ax (aK (K:=K) rfl) (by rfl) T.len_ Mn (aa (pv 1) aj)) (Bk (v:=.int 5) rfl T.MOST_COUNTED_.choose_spec ⟨_,rfl⟩) (bu _)))))) (ar (oC (xs.o_TooGreat.own xs.m_TooGreat) Oe rfl rfl qX (aa dX aj))) bt)
   bt),mS (Γn:=[]) (N:=lH) (fun R=>(i8 (Cr (B8 (aY (EM.er (aA pH (EM.er (aW cO (ai (ES.er (af 0)) aq))) (EM.er av)))) (aY (EM.er (aA pH (EM.er (aW cO (ai (ES.er (af 1)) aq))) (EM.er av))))) (o7 (ai (EM.er dW) aq)) (ST.sx bA)) (ST.sx bA))) (fun ds P R hS=>?_) h⟩
 obtain ⟨a,b,rfl,hP,hR⟩:=hS
 rw[show aL lH [.lst a,.lst b]=[some (.lst a),some (.lst b)] from rfl]
 walk_at "go"
 by_cases h1:a.length<=5
 .rw[if_neg (by omega)]
  by_cases h2:b.length<=5
  .rw[if_neg (by omega)]
   exact hP ⟨h1,h2⟩
  .rw[if_pos (by omega)]
   exact⟨by decide,hR (fun z=>h2 z.2)⟩
 .rw[if_pos (by omega)]
  exact⟨by decide,hR (fun z=>h1 z.1)⟩
def lA(c:Cs):DSX:=fun ds P R=>∃rows cols:List Int,ds=[dI rows,dI cols]/\1<=cols.length/\rows.length<=8/\(rows.length<=5/\cols.length<=5->P (.int (Tal.W rows cols)))/\(¬ (rows.length<=5/\cols.length<=5)->R c.TooGreat)
def uL{c:Cs}:ja (lA c):=by
 intro xs P P' R R' k kr h
 obtain ⟨a,b,e,q1,q2,h1,h2⟩:=h
 exact⟨a,b,e,q1,q2,fun z=>k _ (h1 z),fun z=>kr _ (h2 z)⟩
def xi{c:Cs}:∀ds P R,lA c ds P R->ds.length=2:=by
 intro ds P R h
 obtain ⟨a,b,e,_⟩:=h
 rw[e];rfl
def yG{c:Cs}{f:Addr}{fd:FuncData}(F:FnAt K mg "count_of" fG gJ f fd)(A_:Fns K mg c)(T:Txt K mg base)(xs:Exs K mg base c):aI P w K mg base (CXR P w) 10 f fd gJ (spX K (lA c)):=by
 obtain ⟨f0,d0,Nv⟩:=A_.h_check_size
 have O3:aI P w K mg base (CXR P w) 1 f0 d0 eD (spX K (ie c)):=ny Nv A_ T xs
 obtain ⟨f1,d1,Nm⟩:=A_.h_Tally_ways
 have N9:aI P w K mg base CX0 9 f1 d1 bO (spP K (df c 7)):=nB Nm A_ T xs
 obtain ⟨f2,d2,Nx⟩:=A_.h_Tally_init
 have O4:aI P w K mg base CX0 3 f2 d2 eB (spN K c.Tally (du c)):=nE Nx A_ T xs
 refine F.fn.okX zp (fun vs H Q E h=>m4 xi h) (fun cdv A outer s H vs Q E hr h=>?_)
 refine⟨_,(ao (iO (aB O3 (hr.mono (by decide)) rfl Nv.mg Nv.fn.kp Nv.bd .nil tH (PA.nox (aa (pv 0) (aa (pv 1) aj))))) (PSs.nox (ar (aM (o9 (rq Nx.mkk O4 (hr.mono (by decide)) rfl Nx.mg Nx.bd .nil aZ (aa (pv 0) (aa (ax (aK (K:=K) rfl) (by rfl) T.len_ Mn (aa (pv 1) aj)) aj))) xs.i_Tally.cl Nm.mt N9 (hr.mono (by decide)) Nm.bd .nil aZ (aa au (aa (pv 1) aj))))))),mS (Γn:=[]) (N:=oh) (fun R=>(i8 (xu lR (ai (ES.er (af 0)) (ai (ES.er (af 1)) aq))) (ST.sx (aO (M:=[]) (pj (C:=c.Tally) ["choices","known"] jb (EM.er (Cc lM md (ai (ES.er (af 0)) (ai (EM.er (aW cO (ai (ES.er (af 1)) aq))) aq)))) (ai (EM.er av) (ai (ES.er (af 1)) aq))))))) (fun ds P R hS=>?_) h⟩
 obtain ⟨rows,cols,rfl,h1,h8,hP,hR⟩:=hS
 rw[show aL oh [dI rows,dI cols]=[some (dI rows),some (dI cols)] from rfl]
 walk_at "go"
 refine⟨_,_,rfl,fun hh=>?_,fun hh=>hR (by simpa using hh)⟩
 have hh:rows.length<=5/\cols.length<=5:=by simpa using hh
 walk_at "go"
 refine⟨rows,cols.length,rfl,hh.2,h8,?_⟩
 exact⟨⟨rfl,rfl⟩,rows,_,0,cols.length,cols,rfl,BD,rfl,h1,hh.2,hh.1,NG _,by omega,hP hh⟩
def fX(rows cols:List Int)(i:Nat)(ls:List (List Int)):List Int:=(List.range cols.length).map fun (k:Nat)=>(ls.map fun l=>Tal.W (Tal.wo rows i) (Tal.sub cols l)*l.getD k 0).sum
def rP{rows cols:List Int}{i k:Nat}{ls:List (List Int)}(h:k<cols.length):(fX rows cols i ls).getD k 0=(ls.map fun l=>Tal.W (Tal.wo rows i) (Tal.sub cols l)*l.getD k 0).sum:=by
 unfold fX
 rw[gV,L9,MK h];rfl
def ui{rows cols:List Int}{i:Nat}{ls:List (List Int)}:(fX rows cols i ls).length=cols.length:=by unfold fX;rw[ox,Md]
def dZ(c:Cs):DSp:=fun ds P=>∃(rows cols:List Int) (i:Nat),ds=[dI rows,dI cols,.int i]/\1<=cols.length/\cols.length<=5/\rows.length<=5/\i<rows.length/\P (dI (fX rows cols i (Tal.bL (rows.getD i 0) cols.length)))
def Le{R C:List Int}(h1:R.length<=5)(h2:C.length<=5):(Tal.W R C).natAbs<2 ^ 26:=by
 have a:=Tal.iW (rs:=R) (left:=C)
 have b:=Tal.K2 (rs:=R) (left:=C)
 have c:((2:Int) ^ C.length) ^ R.length<=33554432:=by
  have d:((2:Nat) ^ C.length) ^ R.length<=33554432:=Mq (Nat.pow_le_pow_left (Of (by decide) h2) _) (Mq (Of (by decide) h1) (by decide))
  have e:((2:Int) ^ C.length) ^ R.length=(((2 ^ C.length) ^ R.length:Nat):Int):=by rw[Int.natCast_pow,Int.natCast_pow];rfl
  rw[e]
  generalize (2 ^ C.length) ^ R.length=q at d
  omega
 have p:(2:Nat) ^ 26=67108864:=by decide
 rw[p]
 omega
def nZ{c:Cs}:bE (dZ c):=by
 intro xs P P' k h
 unfold dZ at h ⊢
 grind
def oI{c:Cs}:∀ds P,(dZ c) ds P->ds.length=3:=by
 intro ds P h
 obtain ⟨_,_,_,e,_⟩:=h
 rw[e];rfl
def pO{c:Cs}{f:Addr}{fd:FuncData}(F:FnAt K mg "shares_in_row" bN cQ f fd)(A_:Fns K mg c)(T:Txt K mg base)(xs:Exs K mg base c):aI P w K mg base CX0 10 f fd cQ (spP K (dZ c)):=by
 obtain ⟨f0,d0,Nx⟩:=A_.h_Tally_init
 have O4:aI P w K mg base CX0 3 f0 d0 eB (spN K c.Tally (du c)):=nE Nx A_ T xs
 obtain ⟨f1,d1,Nu⟩:=A_.h_lines_with
 have O2:aI P w K mg base CX0 2 f1 d1 d7 (spP K eE):=nC Nu A_ T xs
 obtain ⟨f2,d2,Nm⟩:=A_.h_Tally_ways
 have N9:aI P w K mg base CX0 9 f2 d2 bO (spP K (df c 7)):=nB Nm A_ T xs
 obtain ⟨f3,d3,MM⟩:=A_.h_less_row
 have NV:aI P w K mg base CX0 1 f3 d3 eK (spP K cx):=ke MM A_ T xs
 refine F.fn.ok dC (fun vs H Q E h=>bc oI h) (fun cdv A outer s H vs Q E hr h=>?_)
 refine⟨_,(ao (aR (i:=3) dC.nd rfl (by walk_at "o") (rq Nx.mkk O4 (hr.mono (by decide)) rfl Nx.mg Nx.bd .nil aZ (aa (aS rW (jU (jA (K:=K) rfl) (pv 0) lp (ll (pv 2))) (jU (jA (K:=K) rfl) (pv 0) (ll (aS fA (pv 2) au)) lp)) (aa (ax (aK (K:=K) rfl) (by rfl) T.len_ Mn (aa (pv 1) aj)) aj)))) (ao (aR (i:=4) dC.nd rfl (by walk_at "o") (aS zI (cS (aa au aj)) (ax (aK (K:=K) rfl) (by rfl) T.len_ Mn (aa (pv 1) aj)))) (ao (i7 PassesOwn.never rfl (bS (K:=K) rfl (aB O2 (hr.mono (by decide)) rfl Nu.mg Nu.fn.kp Nu.bd .nil aZ (aa (aP (az (K:=K) rfl) (pv 0) (pv 2) (fun _ _=>rfl)) (aa (ax (aK (K:=K) rfl) (by rfl) T.len_ Mn (aa (pv 1) aj)) aj)))) (aT (i:=5) dC.nd rfl (by walk_at "o")) (ao (aR (i:=6) dC.nd rfl (by walk_at "o") (o9 (pv 3) xs.i_Tally.cl Nm.mt N9 (hr.mono (by decide)) Nm.bd .nil aZ (aa au (aa (aB NV (hr.mono (by decide)) rfl MM.mg MM.fn.kp MM.bd .nil aZ (aa (pv 1) (aa (pv 5) aj))) aj)))) (ar (aR (i:=4) dC.nd rfl (by walk_at "o") (bK (aH.of (sc0:=(ak bN)) (tn:=["place"]) (cap:=["shares","line","ways"]) (idx:=[4,5,6]) (by decide +kernel) rfl rfl) (bJ rfl T.range_ (aa (ax (aK (K:=K) rfl) (by rfl) T.len_ Mn (aa (pv 1) aj)) aj)) (gi.name (by decide)) (fun _ _ _ _ _=>aT (i:=0) (aN (l:=["place","shares","line","ways"]) (by decide +kernel)) rfl (by walk_at "o") (by first|exact .inl rfl|exact .inr rfl)) (fun _ _ _ _ _=>(aS fA (aP (az (K:=K) rfl) (pv 1) (pv 0) (fun _ _=>rfl)) (aS rE (pv 3) (aP (az (K:=K) rfl) (pv 2) (pv 0) (fun _ _=>rfl)))))))))) (ar (aM (pv 4)))))),bz (Γn:=[4]) (N:=i9) (ay (ST.post (Γn:=[]) (bh 3 (EM.es (Cc lM md (ai (EM.er (aA A5 (EM.er (sV (ES.er (af 0)) or_none (or_some (ES.er (af 2))))) (EM.er (sV (ES.er (af 0)) (or_some (EM.er (aA dS (ES.er (af 2)) (EM.er av)))) or_none)))) (ai (EM.er (aW cO (ai (ES.er (af 1)) aq))) aq)))))) (ay (ST.post (Γn:=[4]) (eh (M:=[]) 4 (aA Ge (EM.er (dw (aQ av bw))) (EM.er (aW cO (ai (ES.er (af 1)) aq)))))) (ay (jf (dm (EM.es (aJ (S:=eE) lP (ai (ES.er (bb (af 0) (ES.er (af 2)))) (ai (EM.er (aW cO (ai (ES.er (af 1)) aq))) aq))))) (aU 5) (ay (ST.post (Γn:=[4]) (bh 6 (EM.es (pj (C:=c.Tally) ["choices","known"] jb (ES.er (af 3)) (ai (EM.er av) (ai (EM.er (aJ (S:=cx) gu (ai (ES.er (af 1)) (ai (ES.er (af 5)) aq)))) aq)))))) (ST.post (Γn:=[4]) (eh (M:=[]) 4 (bB (dP (ai (EM.er (aW cO (ai (ES.er (af 1)) aq))) aq)) (aU 0) (aA dS (ES.er (bb (af 1) (ES.er (af 0)))) (EM.er (aA bG (ES.er (af 3)) (ES.er (bb (af 2) (ES.er (af 0)))))))))))) (aO (M:=[4]) (jH 4))))) (fun ds P hS=>?_) h⟩
 obtain ⟨rows,cols,i,rfl,w1,w5,r5,hi,hP⟩:=hS
 rw[show aL i9 [dI rows,dI cols,.int i]=[some (dI rows),some (dI cols),some (.int i),none,none,none,none] from rfl]
 walk_at "go"
 have c1:L3.cutD (rows.map L3.D.int) none (some (i:Int))=(rows.take i).map L3.D.int:=by rw[Hh (by omega),Mg,Ov]
 have c2:L3.cutD (rows.map L3.D.int) (some ((i:Int)+1)) none=(rows.drop (i+1)).map L3.D.int:=by rw[Df (by omega) (by rw[ox];omega),show ((i:Int)+1).toNat=i+1 by omega,Pa]
 have lo:(Tal.wo rows i).length=rows.length - 1:=Tal.FJ hi
 rw[c1,c2,KN]
 refine⟨⟨cP,cP,by simp;omega⟩,Tal.wo rows i,cols.length,rfl,w5,by omega,by decide,⟨rfl,⟨by omega,by omega⟩,by omega⟩,bo (by omega) ⟨_,cols.length,rfl,w5,?_⟩⟩
 rw[Mg]
 refine iV (as:=Tal.bL (rows.getD i 0) cols.length) (f:=dI) (fun j δ=>∃(o5 o6:Option D),δ=[some (dI rows),some (dI cols),some (.int i),some (tly c (Tal.wo rows i) cols.length),some (dI (fX rows cols i ((Tal.bL (rows.getD i 0) cols.length).take j))),o5,o6]) ⟨none,none,?_⟩ ?_ ?_
 .rw[tE]
  have e:fX rows cols i ((Tal.bL (rows.getD i 0) cols.length).take 0)=List.replicate cols.length 0:=by
   unfold fX
   rw[List.take_zero]
   show (List.range cols.length).map (fun _=>(0:Int))=_
   rw[List.map_const',Md]
  rw[e]
 .rintro j l δ N e ⟨o5,o6,rfl⟩ hN
  have We:l∈Tal.bL (rows.getD i 0) cols.length:=MN e
  have hl:=(Tal.gk (Tal.dE.mp We).1).1
  have Wf:=(L7.mp e).1
  walk_at "go"
  refine⟨⟨rfl,rfl⟩,cols,l,rfl,by omega,by omega,?_⟩
  rw[Tal.BK (by omega)]
  refine⟨Tal.wo rows i,_,0,cols.length,_,rfl,BD,Tal.sub_len hl,w1,w5,by omega,NG _,by omega,?_⟩
  rw[NH]
  walk_at "go"
  refine eV (lo:=0) (n:=cols.length) (g:=fun k=>.int ((fX rows cols i ((Tal.bL (rows.getD i 0) cols.length).take j)).getD k 0+Tal.W (Tal.wo rows i) (Tal.sub cols l)*l.getD k 0)) (fun R h=>?_) (by omega) (fun k hk R h=>?_) ?_
  .walk_at "go"
   exact h
  .walk_at "gb"
   rw[Na]
   refine bo (by rw[ui];omega) (bo (by omega) ?_)
   walk_at "gb"
   refine⟨⟨26,2,Le (by omega) (by rw[Tal.sub_len hl];omega),?_,by decide⟩,h⟩
   rcases Tal.iS (k:=k) (Tal.dE.mp We).1 with z|z<;>rw[z]<;>decide
  .refine hN _ ⟨some (dI l),some (.int (Tal.W (Tal.wo rows i) (Tal.sub cols l))),?_⟩
   rw[kf]
   have es:(List.range cols.length).map (fun k=>(fX rows cols i ((Tal.bL (rows.getD i 0) cols.length).take j)).getD k 0+Tal.W (Tal.wo rows i) (Tal.sub cols l)*l.getD k 0)=fX rows cols i ((Tal.bL (rows.getD i 0) cols.length).take (j+1)):=by
    conv=>rhs;unfold fX
    refine Nf fun k hk=>?_
    rw[rP (Ms.mp hk),OS Wf,Mr,Oy]
    rw[(L7.mp e).2]
    simp
   rw[es]
 .rintro δ ⟨o5,o6,rfl⟩
  walk_at "go"
  rw[Om]
  exact hP
def kg(rows cols:List Int):List (List Int):=(List.range rows.length).map fun (i:Nat)=>fX rows cols i (Tal.bL (rows.getD i 0) cols.length)
def kq(c:Cs):DSX:=fun ds P R=>∃rows cols:List Int,ds=[dI rows,dI cols]/\1<=cols.length/\rows.length<=8/\(rows.length<=5/\cols.length<=5->P (dT (kg rows cols)))/\(¬ (rows.length<=5/\cols.length<=5)->R c.TooGreat)
def tw{c:Cs}:ja (kq c):=by
 intro xs P P' R R' k kr h
 obtain ⟨a,b,e,q1,q2,h1,h2⟩:=h
 exact⟨a,b,e,q1,q2,fun z=>k _ (h1 z),fun z=>kr _ (h2 z)⟩
def uG{c:Cs}:∀ds P R,kq c ds P R->ds.length=2:=by
 intro ds P R h
 obtain ⟨a,b,e,_⟩:=h
 rw[e];rfl
def xK{c:Cs}{f:Addr}{fd:FuncData}(F:FnAt K mg "shares_of" eF fV f fd)(A_:Fns K mg c)(T:Txt K mg base)(xs:Exs K mg base c):aI P w K mg base (CXR P w) 11 f fd fV (spX K (kq c)):=by
 obtain ⟨f0,d0,Nv⟩:=A_.h_check_size
 have O3:aI P w K mg base (CXR P w) 1 f0 d0 eD (spX K (ie c)):=ny Nv A_ T xs
 obtain ⟨f1,d1,N0⟩:=A_.h_shares_in_row
 have PU:aI P w K mg base CX0 10 f1 d1 cQ (spP K (dZ c)):=pO N0 A_ T xs
 refine F.fn.okX wX (fun vs H Q E h=>m4 uG h) (fun cdv A outer s H vs Q E hr h=>?_)
 refine⟨_,(ao (iO (aB O3 (hr.mono (by decide)) rfl Nv.mg Nv.fn.kp Nv.bd .nil tH (PA.nox (aa (pv 0) (aa (pv 1) aj))))) (PSs.nox (ar (aM (bK (aH.of (sc0:=(ak eF)) (tn:=["row"]) (cap:=["rows","columns"]) (idx:=[0,1]) (by decide +kernel) rfl rfl) (bJ rfl T.range_ (aa (ax (aK (K:=K) rfl) (by rfl) T.len_ Mn (aa (pv 0) aj)) aj)) (gi.name (by decide)) (fun _ _ _ _ _=>aT (i:=0) (aN (l:=["row","rows","columns"]) (by decide +kernel)) rfl (by walk_at "o") (by first|exact .inl rfl|exact .inr rfl)) (fun _ _ _ _ _=>(aB PU (hr.mono (by decide)) rfl N0.mg N0.fn.kp N0.bd .nil aZ (aa (pv 1) (aa (pv 2) (aa (pv 0) aj)))))))))),mS (Γn:=[]) (N:=mh) (fun R=>(i8 (xu lR (ai (ES.er (af 0)) (ai (ES.er (af 1)) aq))) (ST.sx (aO (M:=[]) (bB (dP (ai (EM.er (aW cO (ai (ES.er (af 0)) aq))) aq)) (aU 0) (aJ (S:=dZ c) nZ (ai (ES.er (af 1)) (ai (ES.er (af 2)) (ai (ES.er (af 0)) aq))))))))) (fun ds P R hS=>?_) h⟩
 obtain ⟨rows,cols,rfl,h1,h8,hP,hR⟩:=hS
 rw[show aL mh [dI rows,dI cols]=[some (dI rows),some (dI cols)] from rfl]
 walk_at "go"
 refine⟨_,_,rfl,fun hh=>?_,fun hh=>hR (by simpa using hh)⟩
 have hh:rows.length<=5/\cols.length<=5:=by simpa using hh
 walk_at "go"
 refine eV (lo:=0) (n:=rows.length) (g:=fun (i:Nat)=>dI (fX rows cols i (Tal.bL (rows.getD i 0) cols.length))) (fun R h=>?_) (by omega) (fun i hi R h=>?_) ?_
 .walk_at "go"
  exact h
 .walk_at "gb"
  rw[Na]
  exact⟨rows,cols,i,rfl,h1,hh.2,hh.1,hi,h⟩
 .rw[Gi]
  exact hP hh
def Fg{a b:Nat}:Builtin.bitAnd (a:Int) (b:Int)=((a &&& b:Nat):Int):=by
 unfold Builtin.bitAnd
 rw[decide_eq_true (show (0:Int)<=a by omega),decide_eq_true (show (0:Int)<=b by omega)]
 simp
def K8{a b:Nat}:Builtin.bitOr (a:Int) (b:Int)=((a ||| b:Nat):Int):=by
 unfold Builtin.bitOr Builtin.bitAnd Builtin.bitNot
 rw[decide_eq_false (show ¬ (0:Int)<=-(a:Int) - 1 by omega),decide_eq_false (show ¬ (0:Int)<=-(b:Int) - 1 by omega)]
 simp only
 rw[show (-(-(a:Int) - 1) - 1).toNat=a by omega,show (-(-(b:Int) - 1) - 1).toNat=b by omega]
 omega
def Ci{x y:Int}{k:Nat}(hx:0<=x/\x<2 ^ k)(hy:0<=y/\y<2 ^ k):0<=Builtin.bitXor x y/\Builtin.bitXor x y<2 ^ k:=by
 obtain ⟨a,rfl⟩:∃a:Nat,x=a:=⟨x.toNat,by omega⟩
 obtain ⟨b,rfl⟩:∃b:Nat,y=b:=⟨y.toNat,by omega⟩
 have ha:a<2 ^ k:=by have:=hx.2;exact_mod_cast this
 have hb:b<2 ^ k:=by have:=hy.2;exact_mod_cast this
 unfold Builtin.bitXor
 rw[K8,Fg]
 have h1:a &&& b<=a:=Nat.and_le_left
 have h2:a<=a ||| b:=Nat.left_le_or
 have h3:a ||| b<2 ^ k:=Nat.or_lt_two_pow ha hb
 have h4:((a ||| b:Nat):Int)<2 ^ k:=by exact_mod_cast h3
 omega
def B7{x:Int}{m:Nat}(hx:0<=x):0<=Builtin.bitAnd x (m:Int)/\Builtin.bitAnd x (m:Int)<=m:=by
 obtain ⟨a,rfl⟩:∃a:Nat,x=a:=⟨x.toNat,by omega⟩
 rw[Fg]
 have:a &&& m<=m:=Nat.and_le_right
 omega
def gL:DSp:=fun ds P=>∃(ns:List Int) (x:Int),ds=[.scr ns,.int x]/\0<=x/\x<2 ^ 64/\∀y:Int,0<=y->y<2 ^ 64->P (.int y)
def uC:bE gL:=by
 intro xs P P' k h
 unfold gL at h ⊢
 grind
def wR:∀ds P,gL ds P->ds.length=2:=by
 intro ds P h
 obtain ⟨_,_,e,_⟩:=h
 rw[e];rfl
def xQ{c:Cs}{f:Addr}{fd:FuncData}(F:FnAt K mg "_law_fold" fS gN f fd)(A_:Fns K mg c)(T:Txt K mg base)(xs:Exs K mg base c):aI P w K mg base CX0 1 f fd gN (spP K gL):=by
 refine F.fn.ok kj (fun vs H Q E h=>bc wR h) (fun cdv A outer s H vs Q E hr h=>?_)
 refine⟨_,(ao (i7 PassesOwn.never rfl (bS (K:=K) rfl (pv 0)) (aT (i:=2) kj.nd rfl (by walk_at "o")) (ao (aR (i:=1) kj.nd rfl (by walk_at "o") (aS gH (aS rE (aS DV (pv 1) (aS gH (pv 2) (aS Aq au au))) au) (aS Aq au au))) (ar (aR (i:=1) kj.nd rfl (by walk_at "o") (aS DV (pv 1) (aS mr (pv 1) (aS Aq au au))))))) (ar (aM (pv 1)))),bz (Γn:=[]) (N:=nV) (ay (jf (dm (af 0)) (aU 2) (ay (ST.post (Γn:=[]) (bh 1 (EM.es (aA bG (EM.er (aA bG (EM.er (aA dS (ES.er (af 1)) (EM.er (aA bG (ES.er (af 2)) (EM.er (aA bG (EM.er av) (EM.er av))))))) (EM.er av))) (EM.er (aA bG (EM.er av) (EM.er av))))))) (ST.post (Γn:=[]) (bh 1 (EM.es (aA dS (ES.er (af 1)) (EM.er (aA bG (ES.er (af 1)) (EM.er (aA bG (EM.er av) (EM.er av))))))))))) (aO (M:=[]) (ER.bg (ES.er (af 1))))) (fun ds P hS=>?_) h⟩
 obtain ⟨ns,x,rfl,h0,h1,hP⟩:=hS
 rw[show aL nV [.scr ns,.int x]=[some (.scr ns),some (.int x),none] from rfl]
 walk_at "v"
 refine iV (as:=ns) (f:=L3.D.int) (fun i δ=>∃(y:Int) (o:Option D),δ=[some (.scr ns),some (.int y),o]/\0<=y/\y<2 ^ 64) ⟨x,none,rfl,h0,h1⟩ ?_ ?_
 .rintro i a δ N e ⟨y,o,rfl,h0,h1⟩ hN
  have ha:=emod_lt (x:=a) (n:=18446744073709551616) (by decide)
  have hb:=Ci (k:=64) ⟨h0,h1⟩ (show 0<=a % 18446744073709551616/\a % 18446744073709551616<2 ^ 64 from ⟨ha.1,by have:=ha.2;omega⟩)
  walk_at "go"
  have hc:=emod_lt (x:=Builtin.bitXor y (a % 18446744073709551616)*3935559000370003845) (n:=18446744073709551616) (by decide)
  generalize Builtin.bitXor y (a % 18446744073709551616)*3935559000370003845 % 18446744073709551616=z at *
  have hd:0<=z / 2147483648/\z / 2147483648<2 ^ 64:=by omega
  have he:=Ci (k:=64) (show 0<=z/\z<2 ^ 64 from ⟨hc.1,by have:=hc.2;omega⟩) hd
  exact hN _ ⟨_,_,rfl,he.1,he.2⟩
 .rintro δ ⟨y,o,rfl,h0,h1⟩
  walk_at "v"
  exact hP y h0 h1
def Li(t:List (List Int)):Prop:=∀r∈t,∀v∈r,0<=v/\v<=1
def jD:DSp:=fun ds P=>∃x y:Int,ds=[.int x,.int y]/\0<=x/\x<2 ^ 64/\4<=y/\y<=5/\∀(t:List (List Int)) (n m:Nat),cT n m t->1<=n->n<=5->1<=m->m<=5->Li t->P (dT t)
def uQ:bE jD:=by
 intro xs P P' k h
 obtain ⟨x,y,e,h0,h1,h2,h3,h⟩:=h
 exact⟨x,y,e,h0,h1,h2,h3,fun t n m a b c d f g=>k _ (h t n m a b c d f g)⟩
def wU:∀ds P,jD ds P->ds.length=2:=by
 intro ds P h
 obtain ⟨_,_,e,_⟩:=h
 rw[e];rfl
def zr{c:Cs}{f:Addr}{fd:FuncData}(F:FnAt K mg "_law_ones" eO gI f fd)(A_:Fns K mg c)(T:Txt K mg base)(xs:Exs K mg base c):aI P w K mg base CX0 1 f fd gI (spP K jD):=by
 refine F.fn.ok mm (fun vs H Q E h=>bc wU h) (fun cdv A outer s H vs Q E hr h=>?_)
 refine⟨_,(ao (aR (i:=2) mm.nd rfl (by walk_at "o") (aS fA au (aS gH (pv 0) (pv 1)))) (ao (aR (i:=3) mm.nd rfl (by walk_at "o") (aS fA au (aS gH (aS mr (pv 0) (pv 1)) (pv 1)))) (ar (aM (bK (aH.of (sc0:=(ak eO)) (tn:=["_law_row"]) (cap:=["_law_number","_law_wide"]) (idx:=[0,3]) (by decide +kernel) rfl rfl) (bJ rfl T.range_ (aa (pv 2) aj)) (gi.name (by decide)) (fun _ _ _ _ _=>aT (i:=0) (aN (l:=["_law_row","_law_number","_law_wide"]) (by decide +kernel)) rfl (by walk_at "o") (by first|exact .inl rfl|exact .inr rfl)) (fun _ _ _ _ _=>(bK (aH.of (sc0:=(yt _ (ak eO))) (tn:=["_law_column"]) (cap:=["_law_row","_law_number"]) (idx:=[0,1]) (by decide +kernel) rfl rfl) (bJ rfl T.range_ (aa (pv 2) aj)) (gi.name (by decide)) (fun _ _ _ _ _=>aT (i:=0) (aN (l:=["_law_column","_law_row","_law_number"]) (by decide +kernel)) rfl (by walk_at "o") (by first|exact .inl rfl|exact .inr rfl)) (fun _ _ _ _ _=>(aS AY (aS pF (pv 2) (aS fA (aS fA au (aS rE au (pv 1))) (pv 0))) au))))))))),bz (Γn:=[]) (N:=nY) (ay (ST.post (Γn:=[]) (bh 2 (EM.es (aA dS (EM.er av) (EM.er (aA bG (ES.er (af 0)) (ES.er (af 1)))))))) (ay (ST.post (Γn:=[]) (bh 3 (EM.es (aA dS (EM.er av) (EM.er (aA bG (EM.er (aA bG (ES.er (af 0)) (ES.er (af 1)))) (ES.er (af 1)))))))) (aO (M:=[]) (bB (dP (ai (ES.er (af 2)) aq)) (aU 0) (bB (dP (ai (ES.er (af 2)) aq)) (aU 0) (aA dS (EM.er (aA bG (ES.er (af 2)) (EM.er (aA dS (EM.er (aA dS (EM.er av) (EM.er (aA bG (EM.er av) (ES.er (af 1)))))) (ES.er (af 0)))))) (EM.er av))))))) (fun ds P hS=>?_) h⟩
 obtain ⟨x,y,rfl,h0,h1,y4,y5,hP⟩:=hS
 rw[show aL nY [.int x,.int y]=[some (.int x),some (.int y),none,none] from rfl]
 walk_at "go"
 have e1:=emod_lt (x:=x) (n:=y) (by omega)
 have e2:=emod_lt (x:=x / y) (n:=y) (by omega)
 have d0:0<=x / y:=Int.ediv_nonneg h0 (by omega)
 obtain ⟨n,en⟩:∃n:Nat,(1+x % y:Int)=n:=⟨(1+x % y).toNat,by omega⟩
 obtain ⟨m,em⟩:∃m:Nat,(1+x / y % y:Int)=m:=⟨(1+x / y % y).toNat,by omega⟩
 rw[en,em]
 refine eV (lo:=0) (n:=n) (g:=fun r=>dI ((List.range m).map fun (q:Nat)=>Builtin.bitAnd (x / 2 ^ (16+5*(0+(r:Int))+(0+(q:Int))).toNat) 1)) (fun R h=>?_) (by omega) (fun r hr R h=>?_) ?_
 .walk_at "go"
  exact h
 .walk_at "gb"
  refine eV (lo:=0) (n:=m) (g:=fun q=>.int (Builtin.bitAnd (x / 2 ^ (16+5*(0+(r:Int))+(0+(q:Int))).toNat) 1)) (fun R h=>?_) (by omega) (fun q hq R h=>?_) ?_
  .walk_at "gb"
   exact h
  .walk_at "gb"
   exact h
  .rw[kf]
   walk_at "gb"
   exact h
 .rw[show (List.range n).map (fun (r:Nat)=>dI ((List.range m).map fun (q:Nat)=>Builtin.bitAnd (x / 2 ^ (16+5*(0+(r:Int))+(0+(q:Int))).toNat) 1))=((List.range n).map fun (r:Nat)=>(List.range m).map fun (q:Nat)=>Builtin.bitAnd (x / 2 ^ (16+5*(0+(r:Int))+(0+(q:Int))).toNat) 1).map dI by rw[Mp];rfl]
  refine hP _ n m ⟨by rw[ox,Md],fun r hr=>?_⟩ (by omega) (by omega) (by omega) (by omega) fun r hr v hv=>?_
  .obtain ⟨_,_,rfl⟩:=Ma.mp hr
   rw[ox,Md]
  .obtain ⟨_,_,rfl⟩:=Ma.mp hr
   obtain ⟨_,_,rfl⟩:=Ma.mp hv
   exact B7 (m:=1) (Int.ediv_nonneg h0 (Int.le_of_lt (Int.pow_pos (by decide))))
def NN5(xs:List Int):Prop:=1<=xs.length/\xs.length<=5/\∀v∈xs,0<=v
def NN5.get{i:Nat}{xs:List Int}(h:NN5 xs):0<=xs.getD i 0:=by
 rw[gV]
 cases e:xs[i]? with
 |none=>exact OJ _
 |some z=>exact h.2.2 z (MN e)
def NN5.set{i:Nat}{xs:List Int}{v:Int}(h:NN5 xs)(hv:0<=v):NN5 (xs.set i v):=⟨by rw[MQ];exact h.1,by rw[MQ];exact h.2.1,fun z hz=>by
 rcases Pw hz with q|q
 .exact h.2.2 z q
 .rw[q];exact hv⟩
def iN:DSp:=fun ds P=>∃x y:Int,ds=[.int x,.int y]/\0<=x/\x<2 ^ 64/\4<=y/\y<=5/\∀rows cols:List Int,NN5 rows->NN5 cols->P (.lst [dI rows,dI cols])
def uz:bE iN:=by
 intro xs P P' k h
 obtain ⟨x,y,e,h0,h1,h2,h3,h⟩:=h
 exact⟨x,y,e,h0,h1,h2,h3,fun r c a b=>k _ (h r c a b)⟩
def wJ:∀ds P,iN ds P->ds.length=2:=by
 intro ds P h
 obtain ⟨_,_,e,_⟩:=h
 rw[e];rfl
def yV{c:Cs}{f:Addr}{fd:FuncData}(F:FnAt K mg "_law_sums" cX gQ f fd)(A_:Fns K mg c)(T:Txt K mg base)(xs:Exs K mg base c):aI P w K mg base CX0 2 f fd gQ (spP K iN):=by
 obtain ⟨f0,d0,O7⟩:=A_.h_law_ones
 have Se:aI P w K mg base CX0 1 f0 d0 gI (spP K jD):=zr O7 A_ T xs
 refine F.fn.ok fJ (fun vs H Q E h=>bc wJ h) (fun cdv A outer s H vs Q E hr h=>?_)
 refine⟨_,(ao (aR (i:=2) fJ.nd rfl (by walk_at "o") (aB Se (hr.mono (by decide)) rfl O7.mg O7.fn.kp O7.bd .nil aZ (aa (pv 0) (aa (pv 1) aj)))) (ao (xP (i:=3) (aH.of (sc0:=(ak cX)) (tn:=["_law_row"]) (cap:=[]) (idx:=[]) (by decide +kernel) rfl rfl) fJ.nd rfl (by walk_at "o") (bS (K:=K) rfl (pv 2)) (gi.name (by decide)) (fun _ _ _ _ _=>aT (i:=0) (aN (l:=["_law_row"]) (by decide +kernel)) rfl (by walk_at "o") (by first|exact .inl rfl|exact .inr rfl)) (fun _ _ _ _ _=>(ax (eR (K:=K) rfl rfl) (by rfl) T.sum_ boot_sum (aa (pv 0) aj)))) (ao (aR (i:=4) fJ.nd rfl (by walk_at "o") (bK (aH.of (sc0:=(ak cX)) (tn:=["_law_k"]) (cap:=["_law_table"]) (idx:=[2]) (by decide +kernel) rfl rfl) (bJ rfl T.range_ (aa (ax (aK (K:=K) rfl) (by rfl) T.len_ Mn (aa (aP (az (K:=K) rfl) (pv 2) au (fun _ _=>rfl)) aj)) aj)) (gi.name (by decide)) (fun _ _ _ _ _=>aT (i:=0) (aN (l:=["_law_k","_law_table"]) (by decide +kernel)) rfl (by walk_at "o") (by first|exact .inl rfl|exact .inr rfl)) (fun _ _ _ _ _=>(ax (eR (K:=K) rfl rfl) (by rfl) T.sum_ boot_sum (aa (bK (aH.of (sc0:=(yt _ (ak cX))) (tn:=["_law_row"]) (cap:=["_law_k"]) (idx:=[0]) (by decide +kernel) rfl rfl) (bS (K:=K) rfl (pv 1)) (gi.name (by decide)) (fun _ _ _ _ _=>aT (i:=0) (aN (l:=["_law_row","_law_k"]) (by decide +kernel)) rfl (by walk_at "o") (by first|exact .inl rfl|exact .inr rfl)) (fun _ _ _ _ _=>(aP (az (K:=K) rfl) (pv 0) (pv 1) (fun _ _=>rfl)))) aj))))) (ao (eS (bf lQ (aS AY (aS pF (pv 0) au) au) au (bu _)) (ar (xP (i:=3) (aH.of (sc0:=(ak cX)) (tn:=["_law_k"]) (cap:=["_law_number","_law_columns"]) (idx:=[0,4]) (by decide +kernel) rfl rfl) fJ.nd rfl (by walk_at "o") (bJ rfl T.range_ (aa (ax (aK (K:=K) rfl) (by rfl) T.len_ Mn (aa (pv 3) aj)) aj)) (gi.name (by decide)) (fun _ _ _ _ _=>aT (i:=0) (aN (l:=["_law_k","_law_number","_law_columns"]) (by decide +kernel)) rfl (by walk_at "o") (by first|exact .inl rfl|exact .inr rfl)) (fun _ _ _ _ _=>(aS gH (aS gH (aS pF (pv 1) (aS fA au (aS rE au (pv 0)))) au) (aS fA (ax (aK (K:=K) rfl) (by rfl) T.len_ Mn (aa (pv 2) aj)) au))))) bt) (ao (eS (bf lQ (aS AY (aS pF (pv 0) au) au) au (bu _)) (ao (aR (i:=5) fJ.nd rfl (by walk_at "o") (aS gH (aS pF (pv 0) au) (ax (aK (K:=K) rfl) (by rfl) T.len_ Mn (aa (pv 4) aj)))) (ao (kZ (aS fA (aP (az (K:=K) rfl) (pv 4) (pv 5) (fun _ _=>rfl)) au) (mq (pv 4) (pv 5) set_list)) (ao (aR (i:=6) fJ.nd rfl (by walk_at "o") (aS gH (aS pF (pv 0) au) (ax (aK (K:=K) rfl) (by rfl) T.len_ Mn (aa (pv 3) aj)))) (ar (kZ (aS fA (aP (az (K:=K) rfl) (pv 3) (pv 6) (fun _ _=>rfl)) au) (mq (pv 3) (pv 6) set_list)))))) bt) (ar (aM (cS (aa (pv 3) (aa (pv 4) aj)))))))))),bz (Γn:=[3,4]) (N:=n0) (ay (ST.post (Γn:=[]) (bh 2 (EM.es (aJ (S:=jD) uQ (ai (ES.er (af 0)) (ai (ES.er (af 1)) aq)))))) (ay (ST.post (Γn:=[3]) (eh (M:=[]) 3 (bB (dm (af 2)) (aU 0) (aW mP (ai (ES.er (af 0)) aq))))) (ay (ST.post (Γn:=[4,3]) (eh (M:=[]) 4 (bB (dP (ai (EM.er (aW cO (ai (ES.er (bb (af 2) (EM.er av))) aq))) aq)) (aU 0) (aW mP (ai (EM.er (bB (dm (af 1)) (aU 0) (ER.bg (ES.er (bb (af 0) (ES.er (af 1))))))) aq))))) (ay (gn (aY (EM.er (aA qS (EM.er (aA dS (EM.er (aA bG (ES.er (af 0)) (EM.er av))) (EM.er av))) (EM.er av)))) (ST.post (Γn:=[3,4]) (eh (M:=[]) 3 (bB (dP (ai (EM.er (aW cO (ai (ES.er (af 3)) aq))) aq)) (aU 0) (aA bG (EM.er (aA bG (EM.er (aA bG (ES.er (af 1)) (EM.er (aA dS (EM.er av) (EM.er (aA bG (EM.er av) (ES.er (af 0)))))))) (EM.er av))) (EM.er (aA dS (EM.er (aW cO (ai (ES.er (af 2)) aq))) (EM.er av))))))) (ST.post (Γn:=[3,4]) bA)) (ay (gn (aY (EM.er (aA qS (EM.er (aA dS (EM.er (aA bG (ES.er (af 0)) (EM.er av))) (EM.er av))) (EM.er av)))) (ay (ST.post (Γn:=[3,4]) (bh 5 (EM.es (aA bG (EM.er (aA bG (ES.er (af 0)) (EM.er av))) (EM.er (aW cO (ai (fR 4) aq))))))) (ay (om 4 (aA dS (qb (fR 4) (ES.er (af 5))) (EM.er av)) (ES.er (af 5))) (ay (ST.post (Γn:=[3,4]) (bh 6 (EM.es (aA bG (EM.er (aA bG (ES.er (af 0)) (EM.er av))) (EM.er (aW cO (ai (fR 3) aq))))))) (om 3 (aA dS (qb (fR 3) (ES.er (af 6))) (EM.er av)) (ES.er (af 6)))))) bA) (aO (M:=[3,4]) (dw (iQ (jH 3) (iQ (jH 4) bw))))))))) (fun ds P hS=>?_) h⟩
 obtain ⟨x,y,rfl,h0,h1,y4,y5,hP⟩:=hS
 rw[show aL n0 [.int x,.int y]=[some (.int x),some (.int y),none,none,none,none,none] from rfl]
 walk_at "go"
 refine⟨x,y,rfl,h0,h1,y4,y5,fun t n m hR n1 n5 m1 m5 hO=>?_⟩
 have ht:=hR.1
 have ones:∀(r:List Int),(∀v∈r,0<=v/\v<=1)->0<=r.sum:=fun r=>by
  induction r with
  |nil=>intro _;simp
  |cons a r ih =>
   intro h
   have h1:=h a Fk
   have h2:=ih fun v hv=>h v (mo _ hv)
   rw[Mj]
   omega
 walk_at "go"
 refine kW (t:=t) (g:=fun r=>.int r.sum) (fun R h=>h) (by omega) (fun r hr R h=>?_) ?_
 .walk_at "gb"
  exact h
 rw[show t.map (fun r=>L3.D.int r.sum)=(t.map List.sum).map L3.D.int by rw[Mp];rfl]
 have h00:=hR.row (i:=0) (by omega)
 refine eV (lo:=0) (n:=m) (g:=fun (k:Nat)=>.int (t.map fun r=>r.getD k 0).sum) (fun R h=>?_) (by omega) (fun k hk R h=>?_) ?_
 .walk_at "go"
  refine ia (by omega) ?_
  walk_at "go"
  rw[h00]
  exact h
 .walk_at "gb"
  refine kW (t:=t) (g:=fun r=>.int (r.getD k 0)) (fun R h=>h) (by omega) (fun r hr R h=>?_) ?_
  .have lr:=hR.2 r hr
   walk_at "gb"
   rw[Na]
   refine bo (by omega) ?_
   rw[Mg]
   exact⟨rfl,h⟩
  .rw[show t.map (fun r=>L3.D.int (r.getD k 0))=(t.map fun r=>r.getD k 0).map L3.D.int by rw[Mp];rfl]
   walk_at "gb"
   exact h
 rw[show (List.range m).map (fun (k:Nat)=>L3.D.int (t.map fun r=>r.getD k 0).sum)=((List.range m).map fun (k:Nat)=>(t.map fun r=>r.getD k 0).sum).map L3.D.int by rw[Mp];rfl]
 have gr:NN5 (t.map List.sum):=⟨by rw[ox];omega,by rw[ox];omega,fun v hv=>by
  obtain ⟨r,hr,rfl⟩:=Ma.mp hv
  exact ones r (hO r hr)⟩
 have gc:NN5 ((List.range m).map fun (k:Nat)=>(t.map fun r=>r.getD k 0).sum):=⟨by rw[ox,Md];omega,by rw[ox,Md];omega,fun v hv=>by
  obtain ⟨k,hk,rfl⟩:=Ma.mp hv
  exact ones (t.map fun r=>r.getD k 0) (fun v hv=>by
   obtain ⟨r,hr,rfl⟩:=Ma.mp hv
   have UQ:k<r.length:=by rw[hR.2 r hr];exact Ms.mp hk
   rw[gV,dz UQ]
   exact hO r hr _ (MO UQ))⟩
 generalize t.map List.sum=rows at gr ⊢
 generalize ((List.range m).map fun (k:Nat)=>(t.map fun r=>r.getD k 0).sum)=cols at gc ⊢
 have b3:=B7 (m:=3) (x:=x / 1125899906842624) (by omega)
 obtain ⟨q,eq⟩:∃q,Builtin.bitAnd (x / 1125899906842624) 3=q:=⟨_,rfl⟩
 rw[eq]
 walk_at "go"
 by_cases q1:q=1
 .rw[if_pos q1]
  refine eV (lo:=0) (n:=rows.length) (g:=fun (k:Nat)=>.int (x / 2 ^ (16+3*(0+(k:Int))).toNat % 7 % ((cols.length:Int)+2))) (fun R h=>?_) (by have:=gr.2.1;omega) (fun k hk R h=>?_) ?_
  .have l5:=gr.2.1
   walk_at "go"
   exact h
  .walk_at "gb"
   have:=gr.2.1
   exact⟨⟨2,4,by decide,by omega,by decide⟩,by omega,by omega,h⟩
  rw[show (List.range rows.length).map (fun (k:Nat)=>L3.D.int (x / 2 ^ (16+3*(0+(k:Int))).toNat % 7 % ((cols.length:Int)+2)))=((List.range rows.length).map fun (k:Nat)=>x / 2 ^ (16+3*(0+(k:Int))).toNat % 7 % ((cols.length:Int)+2)).map L3.D.int by rw[Mp];rfl]
  rw[if_neg (by omega)]
  have Wk:NN5 ((List.range rows.length).map fun (k:Nat)=>x / 2 ^ (16+3*(0+(k:Int))).toNat % 7 % ((cols.length:Int)+2)):=⟨by rw[ox,Md];exact gr.1,by rw[ox,Md];exact gr.2.1,fun v hv=>by
   obtain ⟨k,_,rfl⟩:=Ma.mp hv
   exact (emod_lt (x:=x / 2 ^ (16+3*(0+(k:Int))).toNat % 7) (n:=(cols.length:Int)+2) (by omega)).1⟩
  exact⟨by decide,hP _ _ Wk gc⟩
 rw[if_neg q1]
 by_cases q2:q=2
 .rw[if_pos q2]
  have l1:=gc.1
  have l2:=gr.1
  have m1:=emod_lt (x:=x / 9007199254740992) (n:=(cols.length:Int)) (by omega)
  have m2:=emod_lt (x:=x / 72057594037927936) (n:=(rows.length:Int)) (by omega)
  refine⟨by omega,?_⟩
  refine lC (r:=cols) (a:=x / 9007199254740992 % (cols.length:Int)) (v:=cols.getD (x / 9007199254740992 % (cols.length:Int)).toNat 0+1) rfl (fun R h'=>?_) (fun R h'=>?_) (by omega) ?_
  .walk_at "go"
   exact bo (by omega) (by walk_at "go";exact h')
  .walk_at "go"
   exact h'
  have Zl:=gc.set (i:=(x / 9007199254740992 % (cols.length:Int)).toNat) (v:=cols.getD (x / 9007199254740992 % (cols.length:Int)).toNat 0+1) (by have:=gc.get (i:=(x / 9007199254740992 % (cols.length:Int)).toNat);omega)
  generalize cols.set (x / 9007199254740992 % (cols.length:Int)).toNat (cols.getD (x / 9007199254740992 % (cols.length:Int)).toNat 0+1)=cols2 at Zl ⊢
  walk_at "go"
  refine lC (r:=rows) (a:=x / 72057594037927936 % (rows.length:Int)) (v:=rows.getD (x / 72057594037927936 % (rows.length:Int)).toNat 0+1) rfl (fun R h'=>?_) (fun R h'=>?_) (by omega) ?_
  .walk_at "go"
   exact bo (by omega) (by walk_at "go";exact h')
  .walk_at "go"
   exact h'
  have Wk:=gr.set (i:=(x / 72057594037927936 % (rows.length:Int)).toNat) (v:=rows.getD (x / 72057594037927936 % (rows.length:Int)).toNat 0+1) (by have:=gr.get (i:=(x / 72057594037927936 % (rows.length:Int)).toNat);omega)
  generalize rows.set (x / 72057594037927936 % (rows.length:Int)).toNat (rows.getD (x / 72057594037927936 % (rows.length:Int)).toNat 0+1)=rows2 at Wk ⊢
  walk_at "go"
  exact hP _ _ Wk Zl
 rw[if_neg q2]
 exact⟨by decide,hP _ _ gr gc⟩
def gS:DSp:=fun ds P=>∃i,ds=[.int i]/\P (.bl true)
def sd:bE gS:=by
 intro xs P P' k h
 unfold gS at h ⊢
 grind
def ux:∀ds P,gS ds P->ds.length=1:=by
 intro ds P h
 obtain ⟨_,e,_⟩:=h
 rw[e];rfl
def wN{c:Cs}{f:Addr}{fd:FuncData}(F:FnAt K mg "_law_whole" eW fL f fd)(A_:Fns K mg c)(T:Txt K mg base)(xs:Exs K mg base c):aI P w K mg base CX0 1 f fd fL (spP K gS):=by
 refine F.fn.ok xq (fun vs H Q E h=>bc ux h) (fun cdv A outer s H vs Q E hr h=>?_)
 refine⟨_,(ar (aM (Kw (ax (lE (K:=K) rfl) (by rfl) T.isinstance_ boot_isinstance (aa (pv 0) (aa (wa (v:=.ty "int") rfl T.int_ boot_int rfl) aj))) (KC (Jz (ax (lE (K:=K) rfl) (by rfl) T.isinstance_ boot_isinstance (aa (pv 0) (aa (wa (v:=.ty "bool") rfl T.bool_ boot_bool rfl) aj)))))))),bz (Γn:=[]) (N:=mi) (aO (M:=[]) (Ir (EM.er (pU GX (ES.er (af 0)))) (Hq (EM.er (pU Fi (ES.er (af 0))))))) (fun ds P hS=>?_) h⟩
 obtain ⟨i,rfl,hP⟩:=hS
 rw[show aL mi [.int i]=[some (.int i)] from rfl]
 walk_at "v"
 exact hP
def xH:∀{rs left:List Int},cU left.length rs (fun j=>left.getD j 0)↔∃T,Tal.Ok rs left T
 |[],left=>by
  constructor
  .intro h
   refine⟨[],fun x hx=>?_⟩
   obtain ⟨i,hi,rfl⟩:=NY hx
   have z:left.getD i 0=0:=h i hi
   rw[getD_at hi] at z
   exact z
  .rintro ⟨T,h⟩
   cases T with
   |nil =>
    intro j hj
    show left.getD j 0=0
    rw[getD_at hj]
    exact h _ (MO hj)
   |cons _ _=>exact h.elim
 |r::rs,left=>by
  constructor
  .rintro ⟨b,h1,h2,h3⟩
   have lb:((List.range left.length).map b).length=left.length:=by rw[ox,Md]
   have hb:∀z∈(List.range left.length).map b,z=0\/z=1:=fun z hz=>by
    obtain ⟨j,hj,rfl⟩:=Ma.mp hz
    exact h1 j (Ms.mp hj)
   have hl:=Tal.pJ hb
   rw[lb] at hl
   have Uk:=Tal.sub_len lb
   have h4:cU (Tal.sub left ((List.range left.length).map b)).length rs (fun j=>(Tal.sub left ((List.range left.length).map b)).getD j 0):=by
    rw[Uk]
    refine h3.congr fun j hj=>?_
    rw[Tal.lJ lb]
    show _=_ - ((List.range left.length).map b).getD j 0
    rw[gV (l:=(List.range left.length).map b),L9,MK hj]
    rfl
   obtain ⟨T,hT⟩:=xH.mp h4
   exact⟨_::T,Tal.dE.mpr ⟨hl,h2⟩,hT⟩
  .rintro ⟨T,h⟩
   cases T with
   |nil=>exact h.elim
   |cons l T =>
    have m:=Tal.dE.mp h.1
    have ml:=Tal.gk m.1
    refine⟨fun j=>l.getD j 0,fun j _=>Tal.iS m.1,?_,?_⟩
    .rw[<- m.2,tj,ml.1];rfl
    .have q:=xH.mpr ⟨T,h.2⟩
     rw[Tal.sub_len ml.1] at q
     exact q.congr fun j _=>Tal.lJ ml.1
def EA{rows cols:List Int}:oO rows cols↔0<Tal.W rows cols:=xH.trans Tal.sG.symm
def I0{rows cols:List Int}{low high t:List (List Int)}(h:Bt rows.length cols.length rows cols low high t)(hl:∀i j,i<rows.length->j<cols.length->0<=cellAt low i j)(hh:∀i j,i<rows.length->j<cols.length->cellAt high i j<=1):Tal.Ok rows cols t:=by
 have own:=Tal.Aa (w:=cols.length) (T:=t) fun r hr=>by
  refine⟨h.rt.2 r hr,fun z hz=>?_⟩
  obtain ⟨i,hi,rfl⟩:=NY hr
  obtain ⟨j,hj,rfl⟩:=NY hz
  have Qf:i<rows.length:=by have:=h.rt.1;omega
  have SQ:j<cols.length:=by have:=h.rt.2 _ hr;omega
  have b:=h.bd i j Qf SQ
  have e:cellAt t i j=t[i][j]:=by
   unfold cellAt
   rw[gV,gV,dz hi,M9,dz hj];rfl
  have:=hl i j Qf SQ
  have:=hh i j Qf SQ
  omega
 have e1:t.map List.sum=rows:=by
  refine Tal.mK (by rw[ox,h.rt.1]) fun i hi=>?_
  rw[ox] at hi
  rw[<- h.rs i (by rw[<- h.rt.1];exact hi)]
  unfold lT rowAt
  rw[gV,gV,L9,dz hi];rfl
 have e2:Tal.cols cols.length t=cols:=by
  refine Tal.mK Tal.fO fun j hj=>?_
  rw[Tal.fO] at hj
  rw[Tal.jQ hj,<- h.cs j hj];rfl
 rw[e1,e2] at own
 exact own
def Jj{rows cols:List Int}{low high t:List (List Int)}(h:Tal.Ok rows cols t)(hb:∀i j,i<rows.length->j<cols.length->cellAt t i j=0\/cellAt t i j=1->cellAt low i j<=cellAt t i j/\cellAt t i j<=cellAt high i j):Bt rows.length cols.length rows cols low high t:=by
 obtain ⟨e1,e2,e3⟩:=Tal.si h
 have lt:=Tal.zQ h
 have rt:cT rows.length cols.length t:=⟨lt,fun r hr=>(e3 r hr).1⟩
 refine⟨rt,fun i j hi hj=>hb i j hi hj ?_,fun i hi=>?_,fun j hj=>?_⟩
 .have Qf:i<t.length:=by omega
  have hr:=(e3 _ (MO Qf))
  have SQ:j<(t[i]).length:=by omega
  have e:cellAt t i j=t[i][j]:=by
   unfold cellAt
   rw[gV,gV,dz Qf,M9,dz SQ];rfl
  rw[e]
  exact hr.2 _ (MO SQ)
 .conv=>rhs;rw[e1]
  have Qf:i<t.length:=by omega
  unfold lT rowAt
  rw[gV,gV,L9,dz Qf];rfl
 .conv=>rhs;rw[e2]
  rw[Tal.jQ hj];rfl
def Ct.no{n m:Nat}{rows cols:List Int}{low high:List (List Int)}{U V:List Nat}(h:Ct n m rows cols low high U V){t:List (List Int)}(b:Bt n m rows cols low high t):False:=Kk b.rt b.bd b.rs b.cs h.cut
def jq{n m i j a b:Nat}{x:Int}(hi:i<n)(hj:j<m)(ha:a<n)(hb:b<m):cellAt (jj (dU n m x) i j) a b=if i=a/\j=b then 1 - x else x:=by
 unfold jj
 rw[oP qd hi hj,cL hi hj,cL ha hb]
section
variable {rows cols:List Int}{i j:Nat}(hi:i<rows.length)(hj:j<cols.length)
include hi hj
def Fz{U V:List Nat}(h:Ct rows.length cols.length rows cols (dU rows.length cols.length 0) (jj (dU rows.length cols.length 1) i j) U V):Tal.sh (rows.getD i 0) (Tal.wo rows i) cols j=Tal.W rows cols:=by
 have le:=Tal.DR (R:=rows) (C:=cols) (k:=j) hi
 by_cases z:Tal.sh (rows.getD i 0) (Tal.wo rows i) cols j<Tal.W rows cols
 .obtain ⟨T,hT,e⟩:=(Tal.Ff hi).mp z
  refine (h.no (Jj hT fun a b ha hb q=>?_)).elim
  rw[cL ha hb,jq hi hj ha hb]
  split
  .rename_i w
   obtain ⟨rfl,rfl⟩:=w
   have e:cellAt T i j=0:=e
   omega
  .omega
 .omega
def CG{U V:List Nat}(h:Ct rows.length cols.length rows cols (jj (dU rows.length cols.length 0) i j) (dU rows.length cols.length 1) U V):Tal.sh (rows.getD i 0) (Tal.wo rows i) cols j=0:=by
 have le:=Tal.DR (R:=rows) (C:=cols) (k:=j) hi
 by_cases z:0<Tal.sh (rows.getD i 0) (Tal.wo rows i) cols j
 .obtain ⟨T,hT,e⟩:=(Tal.Cq hi).mp z
  refine (h.no (Jj hT fun a b ha hb q=>?_)).elim
  rw[cL ha hb,jq hi hj ha hb]
  split
  .rename_i w
   obtain ⟨rfl,rfl⟩:=w
   have e:cellAt T i j=1:=e
   omega
  .omega
 .omega
def CK{t:List (List Int)}(h:Bt rows.length cols.length rows cols (dU rows.length cols.length 0) (jj (dU rows.length cols.length 1) i j) t):Tal.sh (rows.getD i 0) (Tal.wo rows i) cols j<Tal.W rows cols:=by
 refine (Tal.Ff hi).mpr ⟨t,I0 h (fun a b ha hb=>by rw[cL ha hb];omega) (fun a b ha hb=>by rw[jq hi hj ha hb];split<;>omega),?_⟩
 have b:=h.bd i j hi hj
 rw[cL hi hj,jq hi hj hi hj,if_pos ⟨rfl,rfl⟩] at b
 show cellAt t i j=0
 omega
def C5{t:List (List Int)}(h:Bt rows.length cols.length rows cols (jj (dU rows.length cols.length 0) i j) (dU rows.length cols.length 1) t):0<Tal.sh (rows.getD i 0) (Tal.wo rows i) cols j:=by
 refine (Tal.Cq hi).mpr ⟨t,I0 h (fun a b ha hb=>by rw[jq hi hj ha hb];split<;>omega) (fun a b ha hb=>by rw[cL ha hb];omega),?_⟩
 have b:=h.bd i j hi hj
 rw[cL hi hj,jq hi hj hi hj,if_pos ⟨rfl,rfl⟩] at b
 show cellAt t i j=1
 omega
end
def uF(s m:Int):D:=if m=0 then .lst [.str "refused"] else if s=0 then .str "zero" else if s=m then .str "one" else .str "free"
def iz:DSp:=fun ds P=>∃(rows cols:List Int) (i j:Nat),ds=[dI rows,dI cols,.tup [.int i,.int j]]/\NN5 rows/\NN5 cols/\i<rows.length/\j<cols.length/\P (uF (Tal.sh (rows.getD i 0) (Tal.wo rows i) cols j) (Tal.W rows cols))
def uH:bE iz:=by
 intro xs P P' k h
 unfold iz at h ⊢
 grind
def wq:∀ds P,iz ds P->ds.length=3:=by
 intro ds P h
 obtain ⟨_,_,_,_,e,_⟩:=h
 rw[e];rfl
def y9{c:Cs}{f:Addr}{fd:FuncData}(F:FnAt K mg "_law_word" fW gE f fd)(A_:Fns K mg c)(T:Txt K mg base)(xs:Exs K mg base c):aI P w K mg base CX0 8 f fd gE (spP K iz):=by
 obtain ⟨f0,d0,Pl⟩:=A_.h_fate_of
 have S3:aI P w K mg base (CXR P w) 7 f0 d0 iH (spX K (mX c)):=AE Pl A_ T xs
 refine F.fn.ok kl (fun vs H Q E h=>bc wq h) (fun cdv A outer s H vs Q E hr h=>?_)
 refine⟨_,(ao (aR (i:=3) kl.nd rfl (by walk_at "o") (cS (aa (gf (fQ (K:=K) rfl) (by rfl) T.list_ boot_list (aa (pv 0) aj)) (aa (gf (fQ (K:=K) rfl) (by rfl) T.list_ boot_list (aa (pv 1) aj)) aj)))) (ao (aR (i:=4) kl.nd rfl (by walk_at "o") jG) (ao (CV (i:=4) rfl rfl S3 (hr.mono (by decide)) rfl Pl.mg Pl.fn.kp Pl.bd (aa (aP (az (K:=K) rfl) (pv 3) au (fun _ _=>rfl)) (aa (aP (az (K:=K) rfl) (pv 3) au (fun _ _=>rfl)) (aa (pv 2) aj))) xs.o_NoSums xs.o_NoSums xs.m_NoSums rfl (by simp) kl.nd rfl (by walk_at "o") (fun a oe hc=>(ar (aM (cS (aa dX aj)))))) (ao (eS (PW.pt (Cj (bf (sO hr.units) (pv 3) (cS (aa (pv 0) (aa (pv 1) aj))) (bu _)) (xl (wI (rQ (ax (lE (K:=K) rfl) (by rfl) T.isinstance_ boot_isinstance (aa (pv 4) (aa (wa (v:=.ty "tuple") rfl T.tuple_ boot_tuple rfl) aj)))))))) (ar (aM jG)) bt) (ar (aM (aP (bY (K:=K) rfl) (pv 4) au (fun _ _=>rfl)))))))),bz (Γn:=[4]) (N:=nP) (ay (ST.post (Γn:=[]) (bh 3 (EM.es (dw (aQ (aW mG (ai (ES.er (af 0)) aq)) (aQ (aW mG (ai (ES.er (af 1)) aq)) bw)))))) (ay (ST.post (Γn:=[]) (bh 4 (EM.es j3))) (ay (ST.post (Γn:=[4]) (C1 (Γn:=[]) 4 wG (ai (ES.er (bb (af 3) (EM.er av))) (ai (ES.er (bb (af 3) (EM.er av))) (ai (ES.er (af 2)) aq))) (aO (M:=[]) (dw (aQ dW bw))))) (ay (gn (B8 (aY (EM.er (aA x6 (ES.er (af 3)) (Ka (ai (ES.er (af 0)) (ai (ES.er (af 1)) aq)))))) (wu (Du (EM.er (pU kit_tuple (fR 4)))))) (aO (M:=[]) j3) bA) (aO (M:=[]) (ER.bg (zG (fR 4) (EM.er av)))))))) (fun ds P hS=>?_) h⟩
 obtain ⟨rows,cols,i,j,rfl,hr,hc,hi,hj,hP⟩:=hS
 rw[show aL nP [dI rows,dI cols,.tup [.int i,.int j]]=[some (dI rows),some (dI cols),some (.tup [.int i,.int j]),none,none] from rfl]
 have r1:=hr.1
 have r5:=hr.2.1
 have c1:=hc.1
 have c5:=hc.2.1
 walk_at "go"
 have MH:(0:Int)<=(i:Int)/\(i:Int)<rows.length:=⟨by omega,by omega⟩
 have S9:(0:Int)<=(j:Int)/\(j:Int)<cols.length:=⟨by omega,by omega⟩
 have nn:=Tal.iW (rs:=rows) (left:=cols)
 have sl:=Tal.DR (R:=rows) (C:=cols) (k:=j) hi
 unfold BA
 walk_at "go"
 refine⟨rows,cols,i,j,rfl,r1,by omega,c1,by omega,hr.2.2,hc.2.2,fun z=>absurd ⟨MH,S9⟩ z,fun _ hR=>?_,fun _ hR a b ea eb=>?_⟩
 .have wz:Tal.W rows cols=0:=by
   by_cases z:0<Tal.W rows cols
   .exact absurd (EA.mpr z) hR
   .omega
  unfold uF at hP
  rw[if_pos wz] at hP
  exact⟨rfl,by decide,hP⟩
 .have ea:i=a:=by omega
  have eb:j=b:=by omega
  subst ea
  subst eb
  have wp:=EA.mp hR
  refine⟨fun U V h=>?_,fun t U V h h'=>?_,fun t t' h h'=>?_⟩
  .have e:=Fz hi hj h
   unfold uF at hP
   rw[if_neg (by omega),if_neg (by omega),if_pos e] at hP
   walk_at "go"
   refine pX (xs:=[rows,cols]) (ys:=[rows,cols]) ?_
   simp only[if_true,decide_true,N7]
   walk_at "go"
   exact hP
  .have e:=CG hi hj h'
   unfold uF at hP
   rw[if_neg (by omega),if_pos e] at hP
   walk_at "go"
   refine pX (xs:=[rows,cols]) (ys:=[rows,cols]) ?_
   simp only[if_true,decide_true,N7]
   walk_at "go"
   exact hP
  .have e:=CK hi hj h
   have e':=C5 hi hj h'
   unfold uF at hP
   rw[if_neg (by omega),if_neg (by omega),if_neg (by omega)] at hP
   walk_at "go"
   refine pX (xs:=[rows,cols]) (ys:=[rows,cols]) ?_
   simp only[if_true,decide_true,N7]
   walk_at "go"
   exact hP
def jw:DSp:=fun ds P=>∃s m:Int,ds=[.int s,.int m]/\P (uF s m)
def wg:bE jw:=by
 intro xs P P' k h
 unfold jw at h ⊢
 grind
def yn:∀ds P,jw ds P->ds.length=2:=by
 intro ds P h
 obtain ⟨_,_,e,_⟩:=h
 rw[e];rfl
def AZ{c:Cs}{f:Addr}{fd:FuncData}(F:FnAt K mg "_law_due" gX iF f fd)(A_:Fns K mg c)(T:Txt K mg base)(xs:Exs K mg base c):aI P w K mg base CX0 1 f fd iF (spP K jw):=by
 refine F.fn.ok As (fun vs H Q E h=>bc yn h) (fun cdv A outer s H vs Q E hr h=>?_)
 refine⟨_,(ao (eS (bf lQ (pv 1) au (bu _)) (ar (aM (cS (aa dX aj)))) bt) (ao (eS (bf lQ (pv 0) au (bu _)) (ar (aM dX)) bt) (ao (eS (bf lQ (pv 0) (pv 1) (bu _)) (ar (aM dX)) bt) (ar (aM dX))))),bz (Γn:=[]) (N:=pT) (ay (gn (aY (EM.er (aA qS (ES.er (af 1)) (EM.er av)))) (aO (M:=[]) (dw (aQ dW bw))) bA) (ay (gn (aY (EM.er (aA qS (ES.er (af 0)) (EM.er av)))) (aO (M:=[]) dW) bA) (ay (gn (aY (EM.er (aA qS (ES.er (af 0)) (ES.er (af 1))))) (aO (M:=[]) dW) bA) (aO (M:=[]) dW)))) (fun ds P hS=>?_) h⟩
 obtain ⟨s,m,rfl,hP⟩:=hS
 rw[show aL pT [.int s,.int m]=[some (.int s),some (.int m)] from rfl]
 unfold uF at hP
 walk_at "go"
 by_cases h1:m=0
 .rw[if_pos h1] at hP ⊢
  exact⟨by decide,hP⟩
 rw[if_neg h1] at hP ⊢
 by_cases h2:s=0
 .rw[if_pos h2] at hP ⊢
  exact hP
 rw[if_neg h2] at hP ⊢
 by_cases h3:s=m
 .rw[if_pos h3] at hP ⊢
  exact hP
 rw[if_neg h3] at hP ⊢
 exact hP
def Dj{α:Type}{as:List α}{f:α->D}:L3.cutD (as.map f) (some 1) none=(as.drop 1).map f:=by
 unfold L3.cutD
 rw[ox,HT.mL,show (some (1:Int))=some ((1:Nat):Int) from rfl,HT.oB,Pa]
 rcases Nat.lt_or_ge as.length 1 with h|h
 .have:as=[]:=List.length_eq_zero_iff.mp (by omega)
  subst this;rfl
 .rw[NP h,M1 (by rw[Nl,ox];exact Mi _)]
def Lb(xs:List Int):Prop:=∀x∈xs,0<=x
def Ki{ns:List Int}{k:Nat}(h:k<=ns.length):L3.cutD (ns.map L3.D.int) (some (k:Int)) none=(ns.drop k).map L3.D.int:=by
 unfold L3.cutD
 rw[ox,HT.mL,HT.oB,Pa,NP h,M1 (by rw[Nl,ox];exact Mi _)]
def ik:DSp:=fun ds P=>∃(ms:List Int) (m:Nat) (b:Int),ds=[dI ms,.int m,.int b]/\1<=ms.length/\ms.length<=63/\m<=100/\0<b/\b<2 ^ 100/\∀xs:List Int,xs.length=m->Lb xs->P (dI xs)
def qJ:bE ik:=by
 intro xs P P' k h
 obtain ⟨ms,m,b,e,h1,h2,h3,h4,h5,h⟩:=h
 exact⟨ms,m,b,e,h1,h2,h3,h4,h5,fun xs a b=>k _ (h xs a b)⟩
def t4:∀ds P,ik ds P->ds.length=3:=by
 intro ds P h
 obtain ⟨_,_,_,e,_⟩:=h
 rw[e];rfl
def uN{c:Cs}{f:Addr}{fd:FuncData}(F:FnAt K mg "_law_digits" eC fg f fd)(A_:Fns K mg c)(T:Txt K mg base)(xs:Exs K mg base c):aI P w K mg base CX0 1 f fd fg (spP K ik):=by
 refine F.fn.ok gv (fun vs H Q E h=>bc t4 h) (fun cdv A outer s H vs Q E hr h=>?_)
 refine⟨_,(ao (aR (i:=3) gv.nd rfl (by walk_at "o") (gf (fQ (K:=K) rfl) (by rfl) T.list_ boot_list (aa (pv 0) aj))) (ao (aR (i:=4) gv.nd rfl (by walk_at "o") (cS aj)) (ao (i7 PassesOwn.never rfl (bJ rfl T.range_ (aa (pv 1) aj)) (aT (i:=5) gv.nd rfl (by walk_at "o")) (ao (aR (i:=6) gv.nd rfl (by walk_at "o") (aS gH (pv 5) (ax (aK (K:=K) rfl) (by rfl) T.len_ Mn (aa (pv 3) aj)))) (ao (iO (rS Nk NF ND js (pv 4) (aa (aS gH (aP (az (K:=K) rfl) (pv 3) (pv 6) (fun _ _=>rfl)) (pv 2)) aj))) (ar (kZ (aS mr (aP (az (K:=K) rfl) (pv 3) (pv 6) (fun _ _=>rfl)) (pv 2)) (mq (pv 3) (pv 6) set_list)))))) (ar (aM (pv 4)))))),bz (Γn:=[4,3]) (N:=lz) (ay (ST.post (Γn:=[3]) (eh (M:=[]) 3 (aW mG (ai (ES.er (af 0)) aq)))) (ay (ST.post (Γn:=[4,3]) (eh (M:=[]) 4 (dw bw))) (ay (jf (dP (ai (ES.er (af 1)) aq)) (aU 5) (ay (ST.post (Γn:=[4,3]) (bh 6 (EM.es (aA bG (ES.er (af 5)) (EM.er (aW cO (ai (fR 3) aq))))))) (ay (ST.post (Γn:=[4,3]) (jt (M:=[]) 4 (aA bG (qb (fR 3) (ES.er (af 6))) (ES.er (af 2))))) (om 3 (aA bG (qb (fR 3) (ES.er (af 6))) (ES.er (af 2))) (ES.er (af 6)))))) (aO (M:=[4]) (jH 4))))) (fun ds P hS=>?_) h⟩
 obtain ⟨ms,m,b,rfl,h1,h63,hm,b0,b1,hP⟩:=hS
 rw[show aL lz [dI ms,.int m,.int b]=[some (dI ms),some (.int m),some (.int b),none,none,none,none] from rfl]
 walk_at "go"
 refine mE (fun i δ=>∃(left xs:List Int) (o5 o6:Option D),δ=[some (dI ms),some (.int m),some (.int b),some (dI left),some (dI xs),o5,o6]/\left.length=ms.length/\xs.length=i/\Lb xs) ⟨ms,[],none,none,rfl,rfl,rfl,fun _ h=>(nomatch h)⟩ ?_ ?_
 .rintro i δ N hi ⟨left,xs,o5,o6,rfl,hl,hx,Xk⟩ hN
  walk_at "go"
  have h:=emod_lt (x:=0+(i:Int)) (n:=(left.length:Int)) (by omega)
  refine bo (by omega) ?_
  walk_at "go"
  have hb:=emod_lt (x:=left.getD ((0+(i:Int)) % left.length).toNat 0) (n:=b) b0
  refine lC (r:=left) (a:=(0+(i:Int)) % left.length) (v:=left.getD ((0+(i:Int)) % left.length).toNat 0 / b) rfl (fun R h'=>?_) (fun R h'=>h') (by omega) ?_
  .walk_at "v"
   refine bo (by omega) ?_
   walk_at "v"
   exact⟨⟨b0,100,by omega,by decide⟩,h'⟩
  .walk_at "v"
   rw[v8]
   refine hN _ ⟨_,_,_,_,rfl,by rw[MQ];exact hl,by rw[Mx,hx];rfl,fun y hy=>?_⟩
   rcases Mc.mp hy with q|q
   .exact Xk y q
   .rw[Gc.mp q];exact hb.1
 .rintro δ ⟨left,xs,o5,o6,rfl,hl,hx,Xk⟩
  walk_at "v"
  exact hP xs hx Xk
def i5:DSp:=fun ds P=>∃ns:List Int,ds=[.scr ns]/\ns.length<=63/\∀rows cols:List Int,NN5 rows->NN5 cols->P (.lst [dI rows,dI cols])
def rV:bE i5:=by
 intro xs P P' k h
 obtain ⟨ns,e,h0,h⟩:=h
 exact⟨ns,e,h0,fun r c a b=>k _ (h r c a b)⟩
def ur:∀ds P,i5 ds P->ds.length=1:=by
 intro ds P h
 obtain ⟨_,e,_⟩:=h
 rw[e];rfl
def xn{c:Cs}{f:Addr}{fd:FuncData}(F:FnAt K mg "_law_drawn" eX fK f fd)(A_:Fns K mg c)(T:Txt K mg base)(xs:Exs K mg base c):aI P w K mg base CX0 3 f fd fK (spP K i5):=by
 obtain ⟨f0,d0,O6⟩:=A_.h_law_sums
 have Sd:aI P w K mg base CX0 2 f0 d0 gQ (spP K iN):=yV O6 A_ T xs
 obtain ⟨f1,d1,Ow⟩:=A_.h_law_digits
 have Qz:aI P w K mg base CX0 1 f1 d1 fg (spP K ik):=uN Ow A_ T xs
 obtain ⟨f2,d2,O8⟩:=A_.h_law_fold
 have Sf:aI P w K mg base CX0 1 f2 d2 gN (spP K gL):=xQ O8 A_ T xs
 refine F.fn.ok lq (fun vs H Q E h=>bc ur h) (fun cdv A outer s H vs Q E hr h=>?_)
 refine⟨_,(ao (eS (PW.pt (GP (bf vD (ax (aK (K:=K) rfl) (by rfl) T.len_ Mn (aa (pv 0) aj)) au (bu _)) (A4 (bf lQ (aS gH (aP (az (K:=K) rfl) (pv 0) au (fun _ _=>rfl)) au) au (bu _))))) (ao (aR (i:=1) lq.nd rfl (by walk_at "o") (aS fA au (aS gH (aS mr (aP (az (K:=K) rfl) (pv 0) au (fun _ _=>rfl)) au) au))) (ao (aR (i:=2) lq.nd rfl (by walk_at "o") (aB Qz (hr.mono (by decide)) rfl Ow.mg Ow.fn.kp Ow.bd .nil aZ (aa (jU (jA (K:=K) rfl) (pv 0) (ll au) lp) (aa (aS fA (aS fA (pv 1) au) (aS gH (aS mr (aP (az (K:=K) rfl) (pv 0) au (fun _ _=>rfl)) au) au)) (aa au aj))))) (ar (aM (cS (aa (jU (jA (K:=K) rfl) (pv 2) lp (ll (pv 1))) (aa (jU (jA (K:=K) rfl) (pv 2) (ll (pv 1)) lp) aj))))))) bt) (ar (aM (aB Sd (hr.mono (by decide)) rfl O6.mg O6.fn.kp O6.bd .nil aZ (aa (aB Sf (hr.mono (by decide)) rfl O8.mg O8.fn.kp O8.bd .nil aZ (aa (pv 0) (aa au aj))) (aa au aj)))))),bz (Γn:=[]) (N:=mI) (ay (gn (Ft (aY (EM.er (aA pH (EM.er (aW cO (ai (ES.er (af 0)) aq))) (EM.er av)))) (aY (EM.er (aA qS (EM.er (aA bG (ES.er (bb (af 0) (EM.er av))) (EM.er av))) (EM.er av))))) (ay (ST.post (Γn:=[]) (bh 1 (EM.es (aA dS (EM.er av) (EM.er (aA bG (EM.er (aA bG (ES.er (bb (af 0) (EM.er av))) (EM.er av))) (EM.er av))))))) (ay (ST.post (Γn:=[]) (bh 2 (EM.es (aJ (S:=ik) qJ (ai (EM.er (sV (ES.er (af 0)) (or_some (EM.er av)) or_none)) (ai (EM.er (aA dS (EM.er (aA dS (ES.er (af 1)) (EM.er av))) (EM.er (aA bG (EM.er (aA bG (ES.er (bb (af 0) (EM.er av))) (EM.er av))) (EM.er av))))) (ai (EM.er av) aq))))))) (aO (M:=[]) (dw (aQ (sV (ES.er (af 2)) or_none (or_some (ES.er (af 1)))) (aQ (sV (ES.er (af 2)) (or_some (ES.er (af 1))) or_none) bw)))))) bA) (aO (M:=[]) (aJ (S:=iN) uz (ai (EM.er (aJ (S:=gL) uC (ai (ES.er (af 0)) (ai (EM.er av) aq)))) (ai (EM.er av) aq))))) (fun ds P hS=>?_) h⟩
 obtain ⟨ns,rfl,hz,hP⟩:=hS
 rw[show aL mI [.scr ns]=[some (.scr ns),none,none] from rfl]
 have sums:∀{Q:D->Prop},(∀rows cols:List Int,NN5 rows->NN5 cols->Q (.lst [dI rows,dI cols]))->gL [.scr ns,.int 88172645463325252] fun y=>iN [y,.int 4] Q:=fun {Q} h=>⟨ns,_,rfl,by decide,by decide,fun y y0 y1=>⟨y,4,rfl,y0,y1,by decide,by decide,h⟩⟩
 walk_at "go"
 by_cases h1:1<ns.length
 .rw[if_pos (by omega)]
  have ld:(ns.drop 1).length=ns.length - 1:=Nl
  refine bo (by omega) ?_
  walk_at "go"
  split
  .refine bo (by omega) ?_
   walk_at "go"
   have q1:=emod_lt (x:=ns.getD 0 0 / 2) (n:=4) (by decide)
   have q2:=emod_lt (x:=ns.getD 0 0 / 8) (n:=4) (by decide)
   obtain ⟨a,ea⟩:∃a:Nat,1+ns.getD 0 0 / 2 % 4=(a:Int):=⟨(1+ns.getD 0 0 / 2 % 4).toNat,by omega⟩
   obtain ⟨b,eb⟩:∃b:Nat,1+ns.getD 0 0 / 8 % 4=(b:Int):=⟨(1+ns.getD 0 0 / 8 % 4).toNat,by omega⟩
   refine bo (by omega) ?_
   walk_at "go"
   rw[Dj]
   refine⟨ns.drop 1,a+b,6,?_,by omega,by omega,by omega,by decide,by decide,fun zs hl h0=>?_⟩
   .congr 3
    omega
   .walk_at "go"
    rw[ea,zT,Ki (by omega)]
    have l1:(zs.take a).length=a:=by rw[M5];omega
    have l2:(zs.drop a).length=b:=by rw[Nl];omega
    exact hP (zs.take a) (zs.drop a) ⟨by omega,by omega,fun v hv=>h0 v (Og hv)⟩ ⟨by omega,by omega,fun v hv=>h0 v (List.mem_of_mem_drop hv)⟩
  .exact sums hP
 .rw[if_neg (by omega)]
  exact sums hP
def AB{rows cols:List Int}{i:Nat}(h:i<rows.length):rowAt (kg rows cols) i=fX rows cols i (Tal.bL (rows.getD i 0) cols.length):=by
 show (kg rows cols).getD i []=_
 unfold kg
 rw[gV,L9,MK h];rfl
def Ah{rows cols:List Int}:(kg rows cols).length=rows.length:=by unfold kg;rw[ox,Md]
def yK{rows cols:List Int}{i k:Nat}(h:k<cols.length):(fX rows cols i (Tal.bL (rows.getD i 0) cols.length)).getD k 0=Tal.sh (rows.getD i 0) (Tal.wo rows i) cols k:=by
 rw[rP h];rfl
def JS{s m:Int}{P:DK}(h:P (.bl false)):Lf (Dv true) (sR true) (uF s m) (uF s m) P:=by
 unfold uF
 split
 .exact .inl ⟨_,_,rfl,rfl,by decide,by decide,by decide,h⟩
 .split
  .exact .inr ⟨rfl,rfl,rfl,by rw[if_pos rfl,decide_eq_true rfl];exact h⟩
  .split
   .exact .inr ⟨rfl,rfl,rfl,by rw[if_pos rfl,decide_eq_true rfl];exact h⟩
   .exact .inr ⟨rfl,rfl,rfl,by rw[if_pos rfl,decide_eq_true rfl];exact h⟩
def qA:DSp:=fun ds P=>∃ns,ds=[.scr ns]/\ns.length<=63/\P (.bl true)
def DH{ns:List Int}{P:DK}(hl:ns.length<=63)(h:P (.bl true)):qA [.scr ns] P:=⟨ns,rfl,hl,h⟩
def Lz:bE qA:=by
 intro xs P P' k h
 unfold qA at h ⊢
 grind
def G8:∀ds P,qA ds P->ds.length=1:=by
 intro ds P h
 obtain ⟨_,e,_⟩:=h
 rw[e];rfl
def JY{c:Cs}{f:Addr}{fd:FuncData}(F:FnAt K mg "law" mO rT f fd)(A_:Fns K mg c)(T:Txt K mg base)(xs:Exs K mg base c):aI P w K mg base CX0 12 f fd rT (spP K qA):=by
 obtain ⟨f0,d0,OO⟩:=A_.h_law_drawn
 have RE:aI P w K mg base CX0 3 f0 d0 fK (spP K i5):=xn OO A_ T xs
 obtain ⟨f1,d1,O9⟩:=A_.h_count_of
 have Sh:aI P w K mg base (CXR P w) 10 f1 d1 gJ (spX K (lA c)):=yG O9 A_ T xs
 obtain ⟨f2,d2,OL⟩:=A_.h_shares_of
 have RB:aI P w K mg base (CXR P w) 11 f2 d2 fV (spX K (kq c)):=xK OL A_ T xs
 obtain ⟨f3,d3,ON⟩:=A_.h_law_whole
 have RD:aI P w K mg base CX0 1 f3 d3 fL (spP K gS):=wN ON A_ T xs
 obtain ⟨f4,d4,O5⟩:=A_.h_law_word
 have Sb:aI P w K mg base CX0 8 f4 d4 gE (spP K iz):=y9 O5 A_ T xs
 obtain ⟨f5,d5,Pj⟩:=A_.h_law_due
 have S1:aI P w K mg base CX0 1 f5 d5 iF (spP K jw):=AZ Pj A_ T xs
 refine F.fn.ok nI (fun vs H Q E h=>bc G8 h) (fun cdv A outer s H vs Q E hr h=>?_)
 refine⟨_,(ao (kZ (aB RE (hr.mono (by decide)) rfl OO.mg OO.fn.kp OO.bd .nil aZ (aa (pv 0) aj)) (Hf (K:=K) rfl rfl (yk (aT (i:=1) nI.nd rfl (by walk_at "o")) (yk (aT (i:=2) nI.nd rfl (by walk_at "o")) Ic)))) (ao (aR (i:=3) nI.nd rfl (by walk_at "o") (aB Sh (hr.mono (by decide)) rfl O9.mg O9.fn.kp O9.bd .nil IM (aa (gf (fQ (K:=K) rfl) (by rfl) T.list_ boot_list (aa (pv 1) aj)) (aa (gf (fQ (K:=K) rfl) (by rfl) T.list_ boot_list (aa (pv 2) aj)) aj)))) (ao (aR (i:=4) nI.nd rfl (by walk_at "o") (aB RB (hr.mono (by decide)) rfl OL.mg OL.fn.kp OL.bd .nil IM (aa (gf (fQ (K:=K) rfl) (by rfl) T.list_ boot_list (aa (pv 1) aj)) (aa (gf (fQ (K:=K) rfl) (by rfl) T.list_ boot_list (aa (pv 2) aj)) aj)))) (ao (eS (wI (rQ (aB RD (hr.mono (by decide)) rfl ON.mg ON.fn.kp ON.bd .nil aZ (aa (pv 3) aj)))) (ar (aM BW)) bt) (ao (i7 PassesOwn.never rfl (bJ rfl T.range_ (aa (ax (aK (K:=K) rfl) (by rfl) T.len_ Mn (aa (pv 1) aj)) aj)) (aT (i:=5) nI.nd rfl (by walk_at "o")) (ar (i7 PassesOwn.never rfl (bJ rfl T.range_ (aa (ax (aK (K:=K) rfl) (by rfl) T.len_ Mn (aa (pv 2) aj)) aj)) (aT (i:=6) nI.nd rfl (by walk_at "o")) (ar (eS (bf (Kv (sO hr.units) DP) (aB Sb (hr.mono (by decide)) rfl O5.mg O5.fn.kp O5.bd .nil aZ (aa (pv 1) (aa (pv 2) (aa (ir (aa (pv 5) (aa (pv 6) aj))) aj)))) (aB S1 (hr.mono (by decide)) rfl Pj.mg Pj.fn.kp Pj.bd .nil aZ (aa (aP (az (K:=K) rfl) (aP (az (K:=K) rfl) (pv 4) (pv 5) (fun _ _=>rfl)) (pv 6) (fun _ _=>rfl)) (aa (pv 3) aj))) (bu _)) (ar (aM BW)) bt))))) (ar (aM BW))))))),bz (Γn:=[]) (N:=DJ) (ay (G9 (EM.es (aJ (S:=i5) rV (ai (ES.er (af 0)) aq))) (JQ (yC (aU 1) (yC (aU 2) Ig)))) (ay (ST.post (Γn:=[]) (bh 3 (EM.es (Em uL (ai (EM.er (aW mG (ai (ES.er (af 1)) aq))) (ai (EM.er (aW mG (ai (ES.er (af 2)) aq))) aq)))))) (ay (ST.post (Γn:=[]) (bh 4 (EM.es (Em tw (ai (EM.er (aW mG (ai (ES.er (af 1)) aq))) (ai (EM.er (aW mG (ai (ES.er (af 2)) aq))) aq)))))) (ay (gn (wu (Du (EM.er (aJ (S:=gS) sd (ai (ES.er (af 3)) aq))))) (aO (M:=[]) Gb) bA) (ay (jf (dP (ai (EM.er (aW cO (ai (ES.er (af 1)) aq))) aq)) (aU 5) (jf (dP (ai (EM.er (aW cO (ai (ES.er (af 2)) aq))) aq)) (aU 6) (gn (aY (EM.er (aA (LX x6 KP) (EM.er (aJ (S:=iz) uH (ai (ES.er (af 1)) (ai (ES.er (af 2)) (ai (EM.er (iq (aQ (ER.bg (ES.er (af 5))) (aQ (ER.bg (ES.er (af 6))) bw)))) aq))))) (EM.er (aJ (S:=jw) wg (ai (ES.er (bb (bb (af 4) (ES.er (af 5))) (ES.er (af 6)))) (ai (ES.er (af 3)) aq))))))) (aO (M:=[]) Gb) bA))) (aO (M:=[]) Gb)))))) (fun ds P hS=>?_) h⟩
 obtain ⟨ns,rfl,hz,hP⟩:=hS
 rw[show aL DJ [.scr ns]=[some (.scr ns),none,none,none,none,none,none] from rfl]
 walk_at "go"
 refine⟨ns,rfl,hz,fun rows cols hr hc=>?_⟩
 have r1:=hr.1
 have r5:=hr.2.1
 have c1:=hc.1
 have c5:=hc.2.1
 have sm:rows.length<=5/\cols.length<=5:=⟨r5,c5⟩
 have lt:=Ah (rows:=rows) (cols:=cols)
 walk_at "go"
 refine⟨rows,cols,rfl,c1,by omega,fun _=>?_,fun z=>absurd sm z⟩
 walk_at "go"
 refine⟨rows,cols,rfl,c1,by omega,fun _=>?_,fun z=>absurd sm z⟩
 walk_at "go"
 refine⟨_,rfl,?_⟩
 walk_at "go"
 refine mE (lo:=0) (n:=rows.length) (fun i δ=>∃(o5 o6:Option D),δ=[some (.scr ns),some (dI rows),some (dI cols),some (.int (Tal.W rows cols)),some (dT (kg rows cols)),o5,o6]) ⟨none,none,rfl⟩ ?_ ?_
 .rintro i δ N hi ⟨o5,o6,rfl⟩ hN
  rw[Na]
  walk_at "go"
  refine mE (lo:=0) (n:=cols.length) (fun j δ=>∃(o6:Option D),δ=[some (.scr ns),some (dI rows),some (dI cols),some (.int (Tal.W rows cols)),some (dT (kg rows cols)),some (.int (i:Int)),o6]) ⟨_,rfl⟩ ?_ ?_
  .rintro j δ N hj ⟨o6,rfl⟩ hN
   rw[Na]
   walk_at "go"
   refine⟨rows,cols,i,j,rfl,hr,hc,hi,hj,?_⟩
   walk_at "go"
   refine ia (by omega) ?_
   rw[Mg,AB hi]
   refine bo (r:=fX rows cols i (Tal.bL (rows.getD i 0) cols.length)) (by rw[ui];omega) ?_
   rw[Mg,yK hj]
   refine⟨_,_,rfl,JS ?_⟩
   walk_at "go"
   exact hN _ ⟨_,rfl⟩
  .rintro δ ⟨o6,rfl⟩
   walk_at "go"
   exact hN _ ⟨_,_,rfl⟩
 .rintro δ ⟨o5,o6,rfl⟩
  walk_at "go"
  exact hP
end
end Mine
set_option maxHeartbeats 16000000
namespace Mine
open PySem L2 PyProof.Rows
def all_mk{l:PySem.W.OpenLaw}{w:World}{K:PySem.W.Frag}{h:Heap}{mg:Str->Option Value}{fa f0 f1 f2 f3 f4 f5 f6 f7 f8 f9 UW WR WQ WO VT VS VR VQ VP VO WN WM WL WK WJ WI WH WG WE WD WC WB VN VM WA Wz Wx Ww Wv Wu Wt Ws Wr Wq Wo Wn Wm Yv:Addr}(X:K.In h)(G:h.Ns mainGlobals mg)(Vu:mg "law" = some (.ref fa))
  {od0 an0 od1 an1 od2 an2 od3 an3 od4 an4 od5 an5 od6 an6 od7 an7 od8 an8 od9 an9 od10 an10 od11 an11 od12 an12 od13 an13 od14 an14 od15 an15 od16 an16 od17 an17 od18 an18 od19 an19 od20 an20 od21 an21 od22 an22 od23 an23 od24 an24 od25 an25 od26 an26 od27 an27 od28 an28 od29 an29 od30 an30 od31 an31 od32 an32 od33 an33 od34 an34 od35 an35 od36 an36 od37 an37 od38 an38 od39 an39 od40 an40 od41 an41 od42 an42 od43 an43 od44 an44 od45 an45 od46 an46 od47 an47:Option Addr}{sl0 sl1 U0 sl3 sl4 sl5 sl6 sl7 sl8 sl9 sl10 sl11 sl12 sl13 sl14 sl15 sl16 sl17 sl18 sl19 sl20 sl21 sl22 sl23 sl24 sl25 sl26 sl27 sl28 sl29 sl30 sl31 sl32 sl33 sl34 sl35 sl36 sl37 sl38 sl39 sl40 sl41 sl42 sl43 sl44 sl45 sl46 sl47:Array (Option Value)}{oc0 kV0 dc0 pm0 cd0 ct0 oc1 kV1 dc1 pm1 cd1 ct1 oc2 kV2 dc2 pm2 cd2 ct2 oc3 kV3 dc3 pm3 cd3 ct3 oc4 kV4 dc4 pm4 cd4 ct4 oc5 kV5 dc5 pm5 cd5 ct5 oc6 kV6 dc6 pm6 cd6 ct6 oc7 kV7 dc7 pm7 cd7 ct7 oc8 kV8 dc8 pm8 cd8 ct8 oc9 kV9 dc9 pm9 cd9 ct9 oc10 kV10 dc10 pm10 cd10 ct10 oc11 kV11 dc11 pm11 cd11 ct11 oc12 kV12 dc12 pm12 cd12 ct12 oc13 kV13 dc13 pm13 cd13 ct13 oc14 kV14 dc14 pm14 cd14 ct14 oc15 kV15 dc15 pm15 cd15 ct15 oc16 kV16 dc16 pm16 cd16 ct16 oc17 kV17 dc17 pm17 cd17 ct17 oc18 kV18 dc18 pm18 cd18 ct18 oc19 kV19 dc19 pm19 cd19 ct19 oc20 kV20 dc20 pm20 cd20 ct20 oc21 kV21 dc21 pm21 cd21 ct21 oc22 kV22 dc22 pm22 cd22 ct22 oc23 kV23 dc23 pm23 cd23 ct23 oc24 kV24 dc24 pm24 cd24 ct24 oc25 kV25 dc25 pm25 cd25 ct25 oc26 kV26 dc26 pm26 cd26 ct26 oc27 kV27 dc27 pm27 cd27 ct27 oc28 kV28 dc28 pm28 cd28 ct28 oc29 kV29 dc29 pm29 cd29 ct29 oc30 kV30 dc30 pm30 cd30 ct30 oc31 kV31 dc31 pm31 cd31 ct31 oc32 kV32 dc32 pm32 cd32 ct32 oc33 kV33 dc33 pm33 cd33 ct33 oc34 kV34 dc34 pm34 cd34 ct34 oc35 kV35 dc35 pm35 cd35 ct35 oc36 kV36 dc36 pm36 cd36 ct36 oc37 kV37 dc37 pm37 cd37 ct37 oc38 kV38 dc38 pm38 cd38 ct38 oc39 kV39 dc39 pm39 cd39 ct39 oc40 kV40 dc40 pm40 cd40 ct40 oc41 kV41 dc41 pm41 cd41 ct41 oc42 kV42 dc42 pm42 cd42 ct42 oc43 kV43 dc43 pm43 cd43 ct43 oc44 kV44 dc44 pm44 cd44 ct44 oc45 kV45 dc45 pm45 cd45 ct45 oc46 kV46 dc46 pm46 cd46 ct46 oc47 kV47 dc47 pm47 cd47 ct47:Value}
  {Ni NB NM NW NA MS NC NI:Addr}
  (a0:PySem.W.nsIn K mainGlobals "falling" = some (some (.ref f0))) (l0:K.lookup f0=some ⟨oc0,od0,.func (PySem.W.fnOf "falling" "falling" (aG gR) (aD gR) (ak gR) .none kV0 dc0 pm0 an0 cd0 ct0),sl0⟩) (c0:PySem.W.codeIn K cd0 "falling" = true) (k0:PySem.W.keepIn K (.ref f0)=true)
  (a1:PySem.W.nsIn K mainGlobals "falling_places" = some (some (.ref f1))) (l1:K.lookup f1=some ⟨oc1,od1,.func (PySem.W.fnOf "falling_places" "falling_places" (aG bQ) (aD bQ) (ak bQ) .none kV1 dc1 pm1 an1 cd1 ct1),sl1⟩) (c1:PySem.W.codeIn K cd1 "falling_places" = true) (k1:PySem.W.keepIn K (.ref f1)=true)
  (a2:PySem.W.nsIn K mainGlobals "places_below" = some (some (.ref f2))) (l2:K.lookup f2=some ⟨oc2,od2,.func (PySem.W.fnOf "places_below" "places_below" (aG bT) (aD bT) (ak bT) .none kV2 dc2 pm2 an2 cd2 ct2),U0⟩) (c2:PySem.W.codeIn K cd2 "places_below" = true) (k2:PySem.W.keepIn K (.ref f2)=true)
  (a3:PySem.W.nsIn K mainGlobals "less_row" = some (some (.ref f3))) (l3:K.lookup f3=some ⟨oc3,od3,.func (PySem.W.fnOf "less_row" "less_row" (aG fi) (aD fi) (ak fi) .none kV3 dc3 pm3 an3 cd3 ct3),sl3⟩) (c3:PySem.W.codeIn K cd3 "less_row" = true) (k3:PySem.W.keepIn K (.ref f3)=true)
  (a4:PySem.W.nsIn K mainGlobals "heads_of" = some (some (.ref f4))) (l4:K.lookup f4=some ⟨oc4,od4,.func (PySem.W.fnOf "heads_of" "heads_of" (aG fH) (aD fH) (ak fH) .none kV4 dc4 pm4 an4 cd4 ct4),sl4⟩) (c4:PySem.W.codeIn K cd4 "heads_of" = true) (k4:PySem.W.keepIn K (.ref f4)=true)
  (a5:PySem.W.nsIn K mainGlobals "first_head_above" = some (some (.ref f5))) (l5:K.lookup f5=some ⟨oc5,od5,.func (PySem.W.fnOf "first_head_above" "first_head_above" (aG bC) (aD bC) (ak bC) .none kV5 dc5 pm5 an5 cd5 ct5),sl5⟩) (c5:PySem.W.codeIn K cd5 "first_head_above" = true) (k5:PySem.W.keepIn K (.ref f5)=true)
  (a6:PySem.W.nsIn K mainGlobals "is_place" = some (some (.ref f6))) (l6:K.lookup f6=some ⟨oc6,od6,.func (PySem.W.fnOf "is_place" "is_place" (aG fN) (aD fN) (ak fN) .none kV6 dc6 pm6 an6 cd6 ct6),sl6⟩) (c6:PySem.W.codeIn K cd6 "is_place" = true) (k6:PySem.W.keepIn K (.ref f6)=true)
  (a7:PySem.W.nsIn K mainGlobals "copied_table" = some (some (.ref f7))) (l7:K.lookup f7=some ⟨oc7,od7,.func (PySem.W.fnOf "copied_table" "copied_table" (aG b7) (aD b7) (ak b7) .none kV7 dc7 pm7 an7 cd7 ct7),sl7⟩) (c7:PySem.W.codeIn K cd7 "copied_table" = true) (k7:PySem.W.keepIn K (.ref f7)=true)
  (a8:PySem.W.nsIn K mainGlobals "sums_of_rows" = some (some (.ref f8))) (l8:K.lookup f8=some ⟨oc8,od8,.func (PySem.W.fnOf "sums_of_rows" "sums_of_rows" (aG b8) (aD b8) (ak b8) .none kV8 dc8 pm8 an8 cd8 ct8),sl8⟩) (c8:PySem.W.codeIn K cd8 "sums_of_rows" = true) (k8:PySem.W.keepIn K (.ref f8)=true)
  (a9:PySem.W.nsIn K mainGlobals "sums_of_columns" = some (some (.ref f9))) (l9:K.lookup f9=some ⟨oc9,od9,.func (PySem.W.fnOf "sums_of_columns" "sums_of_columns" (aG bI) (aD bI) (ak bI) .none kV9 dc9 pm9 an9 cd9 ct9),sl9⟩) (c9:PySem.W.codeIn K cd9 "sums_of_columns" = true) (k9:PySem.W.keepIn K (.ref f9)=true)
  (a10:PySem.W.nsIn K mainGlobals "turned_table" = some (some (.ref UW))) (l10:K.lookup UW=some ⟨oc10,od10,.func (PySem.W.fnOf "turned_table" "turned_table" (aG b9) (aD b9) (ak b9) .none kV10 dc10 pm10 an10 cd10 ct10),sl10⟩) (c10:PySem.W.codeIn K cd10 "turned_table" = true) (k10:PySem.W.keepIn K (.ref UW)=true)
  (a11:PySem.W.nsIn K mainGlobals "column_of" = some (some (.ref WR))) (l11:K.lookup WR=some ⟨oc11,od11,.func (PySem.W.fnOf "column_of" "column_of" (aG d9) (aD d9) (ak d9) .none kV11 dc11 pm11 an11 cd11 ct11),sl11⟩) (c11:PySem.W.codeIn K cd11 "column_of" = true) (k11:PySem.W.keepIn K (.ref WR)=true)
  (a12:PySem.W.nsIn K mainGlobals "table_between" = some (some (.ref WQ))) (l12:K.lookup WQ=some ⟨oc12,od12,.func (PySem.W.fnOf "table_between" "table_between" (aG cn) (aD cn) (ak cn) .none kV12 dc12 pm12 an12 cd12 ct12),sl12⟩) (c12:PySem.W.codeIn K cd12 "table_between" = true) (k12:PySem.W.keepIn K (.ref WQ)=true)
  (a13:PySem.W.nsIn K mainGlobals "check_bounds" = some (some (.ref WO))) (l13:K.lookup WO=some ⟨oc13,od13,.func (PySem.W.fnOf "check_bounds" "check_bounds" (aG cm) (aD cm) (ak cm) .none kV13 dc13 pm13 an13 cd13 ct13),sl13⟩) (c13:PySem.W.codeIn K cd13 "check_bounds" = true) (k13:PySem.W.keepIn K (.ref WO)=true)
  (a14:PySem.W.findIn K (.ref MS) "__init__" = some (some (.ref VT))) (i14:PySem.W.isFn K (.ref VT)=true) (l14:K.lookup VT=some ⟨oc14,od14,.func (PySem.W.fnOf "__init__" "Filling.__init__" (aG cI) (aD cI) (ak cI) .none kV14 dc14 pm14 an14 cd14 ct14),sl14⟩) (c14:PySem.W.codeIn K cd14 "Filling.__init__" = true) (k14:PySem.W.keepIn K (.ref VT)=true)
  (a15:PySem.W.findIn K (.ref MS) "outcome" = some (some (.ref VS))) (i15:PySem.W.isFn K (.ref VS)=true) (l15:K.lookup VS=some ⟨oc15,od15,.func (PySem.W.fnOf "outcome" "Filling.outcome" (aG bH) (aD bH) (ak bH) .none kV15 dc15 pm15 an15 cd15 ct15),sl15⟩) (c15:PySem.W.codeIn K cd15 "Filling.outcome" = true) (k15:PySem.W.keepIn K (.ref VS)=true)
  (a16:PySem.W.findIn K (.ref MS) "pour" = some (some (.ref VR))) (i16:PySem.W.isFn K (.ref VR)=true) (l16:K.lookup VR=some ⟨oc16,od16,.func (PySem.W.fnOf "pour" "Filling.pour" (aG bZ) (aD bZ) (ak bZ) .none kV16 dc16 pm16 an16 cd16 ct16),sl16⟩) (c16:PySem.W.codeIn K cd16 "Filling.pour" = true) (k16:PySem.W.keepIn K (.ref VR)=true)
  (a17:PySem.W.findIn K (.ref MS) "slack" = some (some (.ref VQ))) (i17:PySem.W.isFn K (.ref VQ)=true) (l17:K.lookup VQ=some ⟨oc17,od17,.func (PySem.W.fnOf "slack" "Filling.slack" (aG cq) (aD cq) (ak cq) .none kV17 dc17 pm17 an17 cd17 ct17),sl17⟩) (c17:PySem.W.codeIn K cd17 "Filling.slack" = true) (k17:PySem.W.keepIn K (.ref VQ)=true)
  (a18:PySem.W.findIn K (.ref NC) "__init__" = some (some (.ref VP))) (i18:PySem.W.isFn K (.ref VP)=true) (l18:K.lookup VP=some ⟨oc18,od18,.func (PySem.W.fnOf "__init__" "Reach.__init__" (aG d8) (aD d8) (ak d8) .none kV18 dc18 pm18 an18 cd18 ct18),sl18⟩) (c18:PySem.W.codeIn K cd18 "Reach.__init__" = true) (k18:PySem.W.keepIn K (.ref VP)=true)
  (a19:PySem.W.findIn K (.ref NC) "way" = some (some (.ref VO))) (i19:PySem.W.isFn K (.ref VO)=true) (l19:K.lookup VO=some ⟨oc19,od19,.func (PySem.W.fnOf "way" "Reach.way" (aG eY) (aD eY) (ak eY) .none kV19 dc19 pm19 an19 cd19 ct19),sl19⟩) (c19:PySem.W.codeIn K cd19 "Reach.way" = true) (k19:PySem.W.keepIn K (.ref VO)=true)
  (a20:PySem.W.nsIn K mainGlobals "ways_up" = some (some (.ref WN))) (l20:K.lookup WN=some ⟨oc20,od20,.func (PySem.W.fnOf "ways_up" "ways_up" (aG gh) (aD gh) (ak gh) .none kV20 dc20 pm20 an20 cd20 ct20),sl20⟩) (c20:PySem.W.codeIn K cd20 "ways_up" = true) (k20:PySem.W.keepIn K (.ref WN)=true)
  (a21:PySem.W.nsIn K mainGlobals "spread" = some (some (.ref WM))) (l21:K.lookup WM=some ⟨oc21,od21,.func (PySem.W.fnOf "spread" "spread" (aG iU) (aD iU) (ak iU) .none kV21 dc21 pm21 an21 cd21 ct21),sl21⟩) (c21:PySem.W.codeIn K cd21 "spread" = true) (k21:PySem.W.keepIn K (.ref WM)=true)
  (a22:PySem.W.nsIn K mainGlobals "first_with_room" = some (some (.ref WL))) (l22:K.lookup WL=some ⟨oc22,od22,.func (PySem.W.fnOf "first_with_room" "first_with_room" (aG br) (aD br) (ak br) .none kV22 dc22 pm22 an22 cd22 ct22),sl22⟩) (c22:PySem.W.codeIn K cd22 "first_with_room" = true) (k22:PySem.W.keepIn K (.ref WL)=true)
  (a23:PySem.W.nsIn K mainGlobals "heap_of" = some (some (.ref WK))) (l23:K.lookup WK=some ⟨oc23,od23,.func (PySem.W.fnOf "heap_of" "heap_of" (aG gg) (aD gg) (ak gg) .none kV23 dc23 pm23 an23 cd23 ct23),sl23⟩) (c23:PySem.W.codeIn K cd23 "heap_of" = true) (k23:PySem.W.keepIn K (.ref WK)=true)
  (a24:PySem.W.nsIn K mainGlobals "how_many_reach" = some (some (.ref WJ))) (l24:K.lookup WJ=some ⟨oc24,od24,.func (PySem.W.fnOf "how_many_reach" "how_many_reach" (aG bF) (aD bF) (ak bF) .none kV24 dc24 pm24 an24 cd24 ct24),sl24⟩) (c24:PySem.W.codeIn K cd24 "how_many_reach" = true) (k24:PySem.W.keepIn K (.ref WJ)=true)
  (a25:PySem.W.nsIn K mainGlobals "ones_with" = some (some (.ref WI))) (l25:K.lookup WI=some ⟨oc25,od25,.func (PySem.W.fnOf "ones_with" "ones_with" (aG eZ) (aD eZ) (ak eZ) .none kV25 dc25 pm25 an25 cd25 ct25),sl25⟩) (c25:PySem.W.codeIn K cd25 "ones_with" = true) (k25:PySem.W.keepIn K (.ref WI)=true)
  (a26:PySem.W.nsIn K mainGlobals "filled_table" = some (some (.ref WH))) (l26:K.lookup WH=some ⟨oc26,od26,.func (PySem.W.fnOf "filled_table" "filled_table" (aG cH) (aD cH) (ak cH) .none kV26 dc26 pm26 an26 cd26 ct26),sl26⟩) (c26:PySem.W.codeIn K cd26 "filled_table" = true) (k26:PySem.W.keepIn K (.ref WH)=true)
  (a27:PySem.W.nsIn K mainGlobals "row_of_ones" = some (some (.ref WG))) (l27:K.lookup WG=some ⟨oc27,od27,.func (PySem.W.fnOf "row_of_ones" "row_of_ones" (aG cC) (aD cC) (ak cC) .none kV27 dc27 pm27 an27 cd27 ct27),sl27⟩) (c27:PySem.W.codeIn K cd27 "row_of_ones" = true) (k27:PySem.W.keepIn K (.ref WG)=true)
  (a28:PySem.W.nsIn K mainGlobals "fate_of" = some (some (.ref WE))) (l28:K.lookup WE=some ⟨oc28,od28,.func (PySem.W.fnOf "fate_of" "fate_of" (aG gU) (aD gU) (ak gU) .none kV28 dc28 pm28 an28 cd28 ct28),sl28⟩) (c28:PySem.W.codeIn K cd28 "fate_of" = true) (k28:PySem.W.keepIn K (.ref WE)=true)
  (a29:PySem.W.nsIn K mainGlobals "full_table" = some (some (.ref WD))) (l29:K.lookup WD=some ⟨oc29,od29,.func (PySem.W.fnOf "full_table" "full_table" (aG dn) (aD dn) (ak dn) .none kV29 dc29 pm29 an29 cd29 ct29),sl29⟩) (c29:PySem.W.codeIn K cd29 "full_table" = true) (k29:PySem.W.keepIn K (.ref WD)=true)
  (a30:PySem.W.nsIn K mainGlobals "turned_cell" = some (some (.ref WC))) (l30:K.lookup WC=some ⟨oc30,od30,.func (PySem.W.fnOf "turned_cell" "turned_cell" (aG dA) (aD dA) (ak dA) .none kV30 dc30 pm30 an30 cd30 ct30),sl30⟩) (c30:PySem.W.codeIn K cd30 "turned_cell" = true) (k30:PySem.W.keepIn K (.ref WC)=true)
  (a31:PySem.W.nsIn K mainGlobals "check_size" = some (some (.ref WB))) (l31:K.lookup WB=some ⟨oc31,od31,.func (PySem.W.fnOf "check_size" "check_size" (aG eA) (aD eA) (ak eA) .none kV31 dc31 pm31 an31 cd31 ct31),sl31⟩) (c31:PySem.W.codeIn K cd31 "check_size" = true) (k31:PySem.W.keepIn K (.ref WB)=true)
  (a32:PySem.W.findIn K (.ref NI) "__init__" = some (some (.ref VN))) (i32:PySem.W.isFn K (.ref VN)=true) (l32:K.lookup VN=some ⟨oc32,od32,.func (PySem.W.fnOf "__init__" "Tally.__init__" (aG cZ) (aD cZ) (ak cZ) .none kV32 dc32 pm32 an32 cd32 ct32),sl32⟩) (c32:PySem.W.codeIn K cd32 "Tally.__init__" = true) (k32:PySem.W.keepIn K (.ref VN)=true)
  (a33:PySem.W.findIn K (.ref NI) "ways" = some (some (.ref VM))) (i33:PySem.W.isFn K (.ref VM)=true) (l33:K.lookup VM=some ⟨oc33,od33,.func (PySem.W.fnOf "ways" "Tally.ways" (aG cD) (aD cD) (ak cD) .none kV33 dc33 pm33 an33 cd33 ct33),sl33⟩) (c33:PySem.W.codeIn K cd33 "Tally.ways" = true) (k33:PySem.W.keepIn K (.ref VM)=true)
  (a34:PySem.W.nsIn K mainGlobals "lines_with" = some (some (.ref WA))) (l34:K.lookup WA=some ⟨oc34,od34,.func (PySem.W.fnOf "lines_with" "lines_with" (aG dq) (aD dq) (ak dq) .none kV34 dc34 pm34 an34 cd34 ct34),sl34⟩) (c34:PySem.W.codeIn K cd34 "lines_with" = true) (k34:PySem.W.keepIn K (.ref WA)=true)
  (a35:PySem.W.nsIn K mainGlobals "all_lines" = some (some (.ref Wz))) (l35:K.lookup Wz=some ⟨oc35,od35,.func (PySem.W.fnOf "all_lines" "all_lines" (aG dy) (aD dy) (ak dy) .none kV35 dc35 pm35 an35 cd35 ct35),sl35⟩) (c35:PySem.W.codeIn K cd35 "all_lines" = true) (k35:PySem.W.keepIn K (.ref Wz)=true)
  (a36:PySem.W.nsIn K mainGlobals "count_of" = some (some (.ref Wx))) (l36:K.lookup Wx=some ⟨oc36,od36,.func (PySem.W.fnOf "count_of" "count_of" (aG fG) (aD fG) (ak fG) .none kV36 dc36 pm36 an36 cd36 ct36),sl36⟩) (c36:PySem.W.codeIn K cd36 "count_of" = true) (k36:PySem.W.keepIn K (.ref Wx)=true)
  (a37:PySem.W.nsIn K mainGlobals "shares_of" = some (some (.ref Ww))) (l37:K.lookup Ww=some ⟨oc37,od37,.func (PySem.W.fnOf "shares_of" "shares_of" (aG eF) (aD eF) (ak eF) .none kV37 dc37 pm37 an37 cd37 ct37),sl37⟩) (c37:PySem.W.codeIn K cd37 "shares_of" = true) (k37:PySem.W.keepIn K (.ref Ww)=true)
  (a38:PySem.W.nsIn K mainGlobals "shares_in_row" = some (some (.ref Wv))) (l38:K.lookup Wv=some ⟨oc38,od38,.func (PySem.W.fnOf "shares_in_row" "shares_in_row" (aG bN) (aD bN) (ak bN) .none kV38 dc38 pm38 an38 cd38 ct38),sl38⟩) (c38:PySem.W.codeIn K cd38 "shares_in_row" = true) (k38:PySem.W.keepIn K (.ref Wv)=true)
  (a39:PySem.W.nsIn K mainGlobals "_law_fold" = some (some (.ref Wu))) (l39:K.lookup Wu=some ⟨oc39,od39,.func (PySem.W.fnOf "_law_fold" "_law_fold" (aG fS) (aD fS) (ak fS) .none kV39 dc39 pm39 an39 cd39 ct39),sl39⟩) (c39:PySem.W.codeIn K cd39 "_law_fold" = true) (k39:PySem.W.keepIn K (.ref Wu)=true)
  (a40:PySem.W.nsIn K mainGlobals "_law_ones" = some (some (.ref Wt))) (l40:K.lookup Wt=some ⟨oc40,od40,.func (PySem.W.fnOf "_law_ones" "_law_ones" (aG eO) (aD eO) (ak eO) .none kV40 dc40 pm40 an40 cd40 ct40),sl40⟩) (c40:PySem.W.codeIn K cd40 "_law_ones" = true) (k40:PySem.W.keepIn K (.ref Wt)=true)
  (a41:PySem.W.nsIn K mainGlobals "_law_sums" = some (some (.ref Ws))) (l41:K.lookup Ws=some ⟨oc41,od41,.func (PySem.W.fnOf "_law_sums" "_law_sums" (aG cX) (aD cX) (ak cX) .none kV41 dc41 pm41 an41 cd41 ct41),sl41⟩) (c41:PySem.W.codeIn K cd41 "_law_sums" = true) (k41:PySem.W.keepIn K (.ref Ws)=true)
  (a42:PySem.W.nsIn K mainGlobals "_law_whole" = some (some (.ref Wr))) (l42:K.lookup Wr=some ⟨oc42,od42,.func (PySem.W.fnOf "_law_whole" "_law_whole" (aG eW) (aD eW) (ak eW) .none kV42 dc42 pm42 an42 cd42 ct42),sl42⟩) (c42:PySem.W.codeIn K cd42 "_law_whole" = true) (k42:PySem.W.keepIn K (.ref Wr)=true)
  (a43:PySem.W.nsIn K mainGlobals "_law_word" = some (some (.ref Wq))) (l43:K.lookup Wq=some ⟨oc43,od43,.func (PySem.W.fnOf "_law_word" "_law_word" (aG fW) (aD fW) (ak fW) .none kV43 dc43 pm43 an43 cd43 ct43),sl43⟩) (c43:PySem.W.codeIn K cd43 "_law_word" = true) (k43:PySem.W.keepIn K (.ref Wq)=true)
  (a44:PySem.W.nsIn K mainGlobals "_law_due" = some (some (.ref Wo))) (l44:K.lookup Wo=some ⟨oc44,od44,.func (PySem.W.fnOf "_law_due" "_law_due" (aG gX) (aD gX) (ak gX) .none kV44 dc44 pm44 an44 cd44 ct44),sl44⟩) (c44:PySem.W.codeIn K cd44 "_law_due" = true) (k44:PySem.W.keepIn K (.ref Wo)=true)
  (a45:PySem.W.nsIn K mainGlobals "_law_digits" = some (some (.ref Wn))) (l45:K.lookup Wn=some ⟨oc45,od45,.func (PySem.W.fnOf "_law_digits" "_law_digits" (aG eC) (aD eC) (ak eC) .none kV45 dc45 pm45 an45 cd45 ct45),sl45⟩) (c45:PySem.W.codeIn K cd45 "_law_digits" = true) (k45:PySem.W.keepIn K (.ref Wn)=true)
  (a46:PySem.W.nsIn K mainGlobals "_law_drawn" = some (some (.ref Wm))) (l46:K.lookup Wm=some ⟨oc46,od46,.func (PySem.W.fnOf "_law_drawn" "_law_drawn" (aG eX) (aD eX) (ak eX) .none kV46 dc46 pm46 an46 cd46 ct46),sl46⟩) (c46:PySem.W.codeIn K cd46 "_law_drawn" = true) (k46:PySem.W.keepIn K (.ref Wm)=true)
  (a47:PySem.W.nsIn K mainGlobals "law" = some (some (.ref Yv))) (l47:K.lookup Yv=some ⟨oc47,od47,.func (PySem.W.fnOf "law" "law" (aG mO) (aD mO) (ak mO) .none kV47 dc47 pm47 an47 cd47 ct47),sl47⟩) (c47:PySem.W.codeIn K cd47 "law" = true) (k47:PySem.W.keepIn K (.ref Yv)=true)
  (sg:PySem.W.specialIn K (.builtin "object.__class__") "__get__" = some (some (.builtin "getset_descriptor.__get__"))) (tg:PySem.W.takesIn K (.builtin "object.__class__")=some true)
  (pg_Filling:PySem.W.plainGet K MS Str.empty=true) (hd_Filling:PySem.W.hasDictIn K MS=true) (po_Filling:PySem.W.plainOver K MS=true) (sa_Filling:PySem.W.findIn K (.ref MS) "__setattr__" = some (some (.builtin "object.__setattr__"))) (mk_Filling:PySem.W.makesIn K MS=true) (kc_Filling:PySem.W.keepIn K (.ref MS)=true)
  (cl_Filling:PySem.W.findIn K (.ref MS) "__class__" = some (some (.builtin "object.__class__"))) (ob_Filling:PySem.W.mroIn K MS (.type "object")=some true)
  (na_Filling_low:PySem.W.findIn K (.ref MS) "low" = some none)
  (na_Filling_high:PySem.W.findIn K (.ref MS) "high" = some none)
  (na_Filling_table:PySem.W.findIn K (.ref MS) "table" = some none)
  (na_Filling_wants:PySem.W.findIn K (.ref MS) "wants" = some none)
  (na_Filling_rooms:PySem.W.findIn K (.ref MS) "rooms" = some none)
  (pg_Reach:PySem.W.plainGet K NC Str.empty=true) (hd_Reach:PySem.W.hasDictIn K NC=true) (po_Reach:PySem.W.plainOver K NC=true) (sa_Reach:PySem.W.findIn K (.ref NC) "__setattr__" = some (some (.builtin "object.__setattr__"))) (mk_Reach:PySem.W.makesIn K NC=true) (kc_Reach:PySem.W.keepIn K (.ref NC)=true)
  (cl_Reach:PySem.W.findIn K (.ref NC) "__class__" = some (some (.builtin "object.__class__"))) (ob_Reach:PySem.W.mroIn K NC (.type "object")=some true)
  (na_Reach_rows:PySem.W.findIn K (.ref NC) "rows" = some none)
  (na_Reach_columns:PySem.W.findIn K (.ref NC) "columns" = some none)
  (na_Reach_goal:PySem.W.findIn K (.ref NC) "goal" = some none)
  (pg_Tally:PySem.W.plainGet K NI Str.empty=true) (hd_Tally:PySem.W.hasDictIn K NI=true) (po_Tally:PySem.W.plainOver K NI=true) (sa_Tally:PySem.W.findIn K (.ref NI) "__setattr__" = some (some (.builtin "object.__setattr__"))) (mk_Tally:PySem.W.makesIn K NI=true) (kc_Tally:PySem.W.keepIn K (.ref NI)=true)
  (cl_Tally:PySem.W.findIn K (.ref NI) "__class__" = some (some (.builtin "object.__class__"))) (ob_Tally:PySem.W.mroIn K NI (.type "object")=some true)
  (na_Tally_choices:PySem.W.findIn K (.ref NI) "choices" = some none)
  (na_Tally_known:PySem.W.findIn K (.ref NI) "known" = some none)
  {Rr:Option Addr}{QT QN:Str}{Rw:List Value}{QQ:Addr}{Rm:Bool}{QJ:List Str}{Qr:List Value}{Rz:Bool}{Qx:Option Bool}{Ra Q7 Q4 QZ QW:Option Value}
  {Rq:Option Addr}{QS QM:Str}{Rv:List Value}{QP:Addr}{Rl:Bool}{QI:List Str}{Qq:List Value}{Ry:Bool}{Qw:Option Bool}{Q9 Q6 Q3 QY QV:Option Value}
  {R6:Option Addr}{RQ RO:Str}{R9:List Value}{RP:Addr}{R4:Bool}{RM:List Str}{QG:List Value}{Sa:Bool}{Rt:Option Bool}{RX RW RV RU RT:Option Value}
  {SW:Option Addr}{SA Sy:Str}{SY:List Value}{Sz:Addr}{SU:Bool}{Sx:List Str}{RK:List Value}{S0:Bool}{R8:Option Bool}{SJ SI SH SG SF:Option Value}
  {Ro:Option Addr}{QR QL:Str}{Ru:List Value}{QO:Addr}{Rk:Bool}{QH:List Str}{Qp:List Value}{Rx:Bool}{Qv:Option Bool}{Q8 Q5 Q2 QX QU:Option Value}
  (e_MixError:PySem.W.nsIn K mainGlobals "MixError" = some (some (.ref Ni)))
  (e_NoBounds:PySem.W.nsIn K mainGlobals "NoBounds" = some (some (.ref NB)))
  (e_NoPlace:PySem.W.nsIn K mainGlobals "NoPlace" = some (some (.ref NM)))
  (e_NoSums:PySem.W.nsIn K mainGlobals "NoSums" = some (some (.ref NW)))
  (e_TooGreat:PySem.W.nsIn K mainGlobals "TooGreat" = some (some (.ref NA)))
  (e_Filling:PySem.W.nsIn K mainGlobals "Filling" = some (some (.ref MS)))
  (e_Reach:PySem.W.nsIn K mainGlobals "Reach" = some (some (.ref NC)))
  (e_Tally:PySem.W.nsIn K mainGlobals "Tally" = some (some (.ref NI)))
  (u_MixError:K.lookup Ni=some ⟨.type "type",Rr,.cls ⟨QT,Rw,.ref Ni::VB,QQ,QN,Rm,QJ,Qr,Rz,Qx,false⟩,#[Ra,Q7,Q4,QZ,some (.builtin "ValueError.__new__"),QW]⟩) (v_MixError:PySem.W.excIn K Ni VB "ValueError.__new__" = true)
  (u_NoBounds:K.lookup NB=some ⟨.type "type",Rq,.cls ⟨QS,Rv,.ref NB::.ref Ni::VB,QP,QM,Rl,QI,Qq,Ry,Qw,false⟩,#[Q9,Q6,Q3,QY,some (.builtin "ValueError.__new__"),QV]⟩) (v_NoBounds:PySem.W.excIn K NB VB "ValueError.__new__" = true)
  (u_NoPlace:K.lookup NM=some ⟨.type "type",R6,.cls ⟨RQ,R9,.ref NM::.ref Ni::VB,RP,RO,R4,RM,QG,Sa,Rt,false⟩,#[RX,RW,RV,RU,some (.builtin "ValueError.__new__"),RT]⟩) (v_NoPlace:PySem.W.excIn K NM VB "ValueError.__new__" = true)
  (u_NoSums:K.lookup NW=some ⟨.type "type",SW,.cls ⟨SA,SY,.ref NW::.ref Ni::VB,Sz,Sy,SU,Sx,RK,S0,R8,false⟩,#[SJ,SI,SH,SG,some (.builtin "ValueError.__new__"),SF]⟩) (v_NoSums:PySem.W.excIn K NW VB "ValueError.__new__" = true)
  (u_TooGreat:K.lookup NA=some ⟨.type "type",Ro,.cls ⟨QR,Ru,.ref NA::.ref Ni::VB,QO,QL,Rk,QH,Qp,Rx,Qv,false⟩,#[Q8,Q5,Q2,QX,some (.builtin "ValueError.__new__"),QU]⟩) (v_TooGreat:PySem.W.excIn K NA VB "ValueError.__new__" = true)
  (ga_NoBounds:PySem.W.findIn K (.ref NB) "__getattribute__" = some (some (.builtin "BaseException.__getattribute__"))) (ge_NoBounds:PySem.W.findIn K (.ref NB) "__getattr__" = some none) (cl_NoBounds:PySem.W.findIn K (.ref NB) "__class__" = some (some (.builtin "object.__class__"))) (ob_NoBounds:PySem.W.mroIn K NB (.type "object")=some true) (be_NoBounds:PySem.W.mroIn K NB (.type "BaseException")=some true)
  (ga_NoPlace:PySem.W.findIn K (.ref NM) "__getattribute__" = some (some (.builtin "BaseException.__getattribute__"))) (ge_NoPlace:PySem.W.findIn K (.ref NM) "__getattr__" = some none) (cl_NoPlace:PySem.W.findIn K (.ref NM) "__class__" = some (some (.builtin "object.__class__"))) (ob_NoPlace:PySem.W.mroIn K NM (.type "object")=some true) (be_NoPlace:PySem.W.mroIn K NM (.type "BaseException")=some true)
  (ga_NoSums:PySem.W.findIn K (.ref NW) "__getattribute__" = some (some (.builtin "BaseException.__getattribute__"))) (ge_NoSums:PySem.W.findIn K (.ref NW) "__getattr__" = some none) (cl_NoSums:PySem.W.findIn K (.ref NW) "__class__" = some (some (.builtin "object.__class__"))) (ob_NoSums:PySem.W.mroIn K NW (.type "object")=some true) (be_NoSums:PySem.W.mroIn K NW (.type "BaseException")=some true)
  (ga_TooGreat:PySem.W.findIn K (.ref NA) "__getattribute__" = some (some (.builtin "BaseException.__getattribute__"))) (ge_TooGreat:PySem.W.findIn K (.ref NA) "__getattr__" = some none) (cl_TooGreat:PySem.W.findIn K (.ref NA) "__class__" = some (some (.builtin "object.__class__"))) (ob_TooGreat:PySem.W.mroIn K NA (.type "object")=some true) (be_TooGreat:PySem.W.mroIn K NA (.type "BaseException")=some true)
  {PN:Tok} (g_MOST_COUNTED:PySem.W.nsIn K mainGlobals "MOST_COUNTED" = some (some (Value.int 5 PN)))
  {UG:Addr} (hcf:cd1=.ref UG) (hch:PySem.W.codeHdIn K UG L3.uA=true)
  (z_len:PySem.W.nsIn K mainGlobals "len" = some none) (z_isinstance:PySem.W.nsIn K mainGlobals "isinstance" = some none) (z_int:PySem.W.nsIn K mainGlobals "int" = some none) (z_bool:PySem.W.nsIn K mainGlobals "bool" = some none) (z_list:PySem.W.nsIn K mainGlobals "list" = some none) (z_range:PySem.W.nsIn K mainGlobals "range" = some none) (z_min:PySem.W.nsIn K mainGlobals "min" = some none) (z_max:PySem.W.nsIn K mainGlobals "max" = some none) (z_sum:PySem.W.nsIn K mainGlobals "sum" = some none) (z_sorted:PySem.W.nsIn K mainGlobals "sorted" = some none) (z_tuple:PySem.W.nsIn K mainGlobals "tuple" = some none) (z_zip:PySem.W.nsIn K mainGlobals "zip" = some none) (z_any:PySem.W.nsIn K mainGlobals "any" = some none) (z_str:PySem.W.nsIn K mainGlobals "str" = some none) (z_ValueError:PySem.W.nsIn K mainGlobals "ValueError" = some none) :
  ∃fd:FuncData,(∀(s:Shared) (v:Value),BindsTo s fd ⟨[v],[]⟩ [("_law_script",v)])/\∀base:Heap,K.In base->base.Ns mainGlobals mg->L3.BMd base mg->aI l.prog w K mg base CX0 12 fa fd rT (L3.spP K qA):=by
 have e:=Vu.symm.trans (Me X G a47)
 cases e
 have T:∀base:Heap,L3.BMd base mg->Txt K mg base:=fun base UD=>⟨MI X G z_len,MI X G z_isinstance,MI X G z_int,MI X G z_bool,MI X G z_list,MI X G z_range,MI X G z_min,MI X G z_max,MI X G z_sum,MI X G z_sorted,MI X G z_tuple,MI X G z_zip,MI X G z_any,MI X G z_str,MI X G z_ValueError,⟨_,Me X G g_MOST_COUNTED⟩,⟨f1,_,UG,Me X G a1,⟨_,_,_,l1⟩,hcf,hch,UD⟩⟩
 have F0:=aX (st:=gR) l0 c0 k0
 have E0:FnAt K mg "falling" gR iC f0 _:=⟨F0,Me X G a0,F0.binds (ps:=iC) fun _ _ _ _ _ _ us hl=>match us,hl with|[_],_=>rfl⟩
 have F1:=aX (st:=bQ) l1 c1 k1
 have E1:FnAt K mg "falling_places" bQ bR f1 _:=⟨F1,Me X G a1,F1.binds (ps:=bR) fun _ _ _ _ _ _ us hl=>match us,hl with|[_],_=>rfl⟩
 have F2:=aX (st:=bT) l2 c2 k2
 have E2:FnAt K mg "places_below" bT bM f2 _:=⟨F2,Me X G a2,F2.binds (ps:=bM) fun _ _ _ _ _ _ us hl=>match us,hl with|[_,_],_=>rfl⟩
 have F3:=aX (st:=fi) l3 c3 k3
 have E3:FnAt K mg "less_row" fi eK f3 _:=⟨F3,Me X G a3,F3.binds (ps:=eK) fun _ _ _ _ _ _ us hl=>match us,hl with|[_,_],_=>rfl⟩
 have F4:=aX (st:=fH) l4 c4 k4
 have E4:FnAt K mg "heads_of" fH gF f4 _:=⟨F4,Me X G a4,F4.binds (ps:=gF) fun _ _ _ _ _ _ us hl=>match us,hl with|[_],_=>rfl⟩
 have F5:=aX (st:=bC) l5 c5 k5
 have E5:FnAt K mg "first_head_above" bC bP f5 _:=⟨F5,Me X G a5,F5.binds (ps:=bP) fun _ _ _ _ _ _ us hl=>match us,hl with|[_,_],_=>rfl⟩
 have F6:=aX (st:=fN) l6 c6 k6
 have E6:FnAt K mg "is_place" fN gD f6 _:=⟨F6,Me X G a6,F6.binds (ps:=gD) fun _ _ _ _ _ _ us hl=>match us,hl with|[_,_],_=>rfl⟩
 have F7:=aX (st:=b7) l7 c7 k7
 have E7:FnAt K mg "copied_table" b7 cF f7 _:=⟨F7,Me X G a7,F7.binds (ps:=cF) fun _ _ _ _ _ _ us hl=>match us,hl with|[_],_=>rfl⟩
 have F8:=aX (st:=b8) l8 c8 k8
 have E8:FnAt K mg "sums_of_rows" b8 cJ f8 _:=⟨F8,Me X G a8,F8.binds (ps:=cJ) fun _ _ _ _ _ _ us hl=>match us,hl with|[_],_=>rfl⟩
 have F9:=aX (st:=bI) l9 c9 k9
 have E9:FnAt K mg "sums_of_columns" bI bW f9 _:=⟨F9,Me X G a9,F9.binds (ps:=bW) fun _ _ _ _ _ _ us hl=>match us,hl with|[_],_=>rfl⟩
 have F10:=aX (st:=b9) l10 c10 k10
 have E10:FnAt K mg "turned_table" b9 cK UW _:=⟨F10,Me X G a10,F10.binds (ps:=cK) fun _ _ _ _ _ _ us hl=>match us,hl with|[_],_=>rfl⟩
 have F11:=aX (st:=d9) l11 c11 k11
 have E11:FnAt K mg "column_of" d9 fF WR _:=⟨F11,Me X G a11,F11.binds (ps:=fF) fun _ _ _ _ _ _ us hl=>match us,hl with|[_,_],_=>rfl⟩
 have F12:=aX (st:=cn) l12 c12 k12
 have E12:FnAt K mg "table_between" cn cW WQ _:=⟨F12,Me X G a12,F12.binds (ps:=cW) fun _ _ _ _ _ _ us hl=>match us,hl with|[_,_,_,_],_=>rfl⟩
 have F13:=aX (st:=cm) l13 c13 k13
 have E13:FnAt K mg "check_bounds" cm dJ WO _:=⟨F13,Me X G a13,F13.binds (ps:=dJ) fun _ _ _ _ _ _ us hl=>match us,hl with|[_,_],_=>rfl⟩
 have F14:=aX (st:=cI) l14 c14 k14
 have E14:wk K mg "Filling" MS "Filling.__init__" cI dF VT _:=⟨F14,⟨mk_Filling,a14,i14,kc_Filling⟩,F14.binds (ps:=dF) fun _ _ _ _ _ _ us hl=>match us,hl with|[_,_,_,_,_],_=>rfl,Me X G e_Filling⟩
 have F15:=aX (st:=bH) l15 c15 k15
 have E15:ni K MS "outcome" "Filling.outcome" bH bX VS _:=⟨F15,⟨a15,i15,k15⟩,F15.binds (ps:=bX) fun _ _ _ _ _ _ us hl=>match us,hl with|[_],_=>rfl⟩
 have F16:=aX (st:=bZ) l16 c16 k16
 have E16:ni K MS "pour" "Filling.pour" bZ dH VR _:=⟨F16,⟨a16,i16,k16⟩,F16.binds (ps:=dH) fun _ _ _ _ _ _ us hl=>match us,hl with|[_,_],_=>rfl⟩
 have F17:=aX (st:=cq) l17 c17 k17
 have E17:ni K MS "slack" "Filling.slack" cq cV VQ _:=⟨F17,⟨a17,i17,k17⟩,F17.binds (ps:=cV) fun _ _ _ _ _ _ us hl=>match us,hl with|[_,_,_],_=>rfl⟩
 have F18:=aX (st:=d8) l18 c18 k18
 have E18:wk K mg "Reach" NC "Reach.__init__" d8 fj VP _:=⟨F18,⟨mk_Reach,a18,i18,kc_Reach⟩,F18.binds (ps:=fj) fun _ _ _ _ _ _ us hl=>match us,hl with|[_,_],_=>rfl,Me X G e_Reach⟩
 have Z9:=aX (st:=eY) l19 c19 k19
 have E19:ni K NC "way" "Reach.way" eY fP VO _:=⟨Z9,⟨a19,i19,k19⟩,Z9.binds (ps:=fP) fun _ _ _ _ _ _ us hl=>match us,hl with|[_],_=>rfl⟩
 have Z8:=aX (st:=gh) l20 c20 k20
 have E20:FnAt K mg "ways_up" gh iM WN _:=⟨Z8,Me X G a20,Z8.binds (ps:=iM) fun _ _ _ _ _ _ us hl=>match us,hl with|[_,_],_=>rfl⟩
 have Z7:=aX (st:=iU) l21 c21 k21
 have E21:FnAt K mg "spread" iU jM WM _:=⟨Z7,Me X G a21,Z7.binds (ps:=jM) fun _ _ _ _ _ _ us hl=>match us,hl with|[_,_,_],_=>rfl⟩
 have Z6:=aX (st:=br) l22 c22 k22
 have E22:FnAt K mg "first_with_room" br bV WL _:=⟨Z6,Me X G a22,Z6.binds (ps:=bV) fun _ _ _ _ _ _ us hl=>match us,hl with|[_,_],_=>rfl⟩
 have Z5:=aX (st:=gg) l23 c23 k23
 have E23:FnAt K mg "heap_of" gg iA WK _:=⟨Z5,Me X G a23,Z5.binds (ps:=iA) fun _ _ _ _ _ _ us hl=>match us,hl with|[_,_],_=>rfl⟩
 have Z4:=aX (st:=bF) l24 c24 k24
 have E24:FnAt K mg "how_many_reach" bF cz WJ _:=⟨Z4,Me X G a24,Z4.binds (ps:=cz) fun _ _ _ _ _ _ us hl=>match us,hl with|[_,_],_=>rfl⟩
 have Z3:=aX (st:=eZ) l25 c25 k25
 have E25:FnAt K mg "ones_with" eZ fZ WI _:=⟨Z3,Me X G a25,Z3.binds (ps:=fZ) fun _ _ _ _ _ _ us hl=>match us,hl with|[_,_],_=>rfl⟩
 have Z2:=aX (st:=cH) l26 c26 k26
 have E26:FnAt K mg "filled_table" cH dG WH _:=⟨Z2,Me X G a26,Z2.binds (ps:=dG) fun _ _ _ _ _ _ us hl=>match us,hl with|[_,_],_=>rfl⟩
 have Z1:=aX (st:=cC) l27 c27 k27
 have E27:FnAt K mg "row_of_ones" cC eN WG _:=⟨Z1,Me X G a27,Z1.binds (ps:=eN) fun _ _ _ _ _ _ us hl=>match us,hl with|[_,_],_=>rfl⟩
 have Z0:=aX (st:=gU) l28 c28 k28
 have E28:FnAt K mg "fate_of" gU iH WE _:=⟨Z0,Me X G a28,Z0.binds (ps:=iH) fun _ _ _ _ _ _ us hl=>match us,hl with|[_,_,_],_=>rfl⟩
 have ZZ:=aX (st:=dn) l29 c29 k29
 have E29:FnAt K mg "full_table" dn ff WD _:=⟨ZZ,Me X G a29,ZZ.binds (ps:=ff) fun _ _ _ _ _ _ us hl=>match us,hl with|[_,_,_],_=>rfl⟩
 have ZY:=aX (st:=dA) l30 c30 k30
 have E30:FnAt K mg "turned_cell" dA eL WC _:=⟨ZY,Me X G a30,ZY.binds (ps:=eL) fun _ _ _ _ _ _ us hl=>match us,hl with|[_,_],_=>rfl⟩
 have ZX:=aX (st:=eA) l31 c31 k31
 have E31:FnAt K mg "check_size" eA eD WB _:=⟨ZX,Me X G a31,ZX.binds (ps:=eD) fun _ _ _ _ _ _ us hl=>match us,hl with|[_,_],_=>rfl⟩
 have ZW:=aX (st:=cZ) l32 c32 k32
 have E32:wk K mg "Tally" NI "Tally.__init__" cZ eB VN _:=⟨ZW,⟨mk_Tally,a32,i32,kc_Tally⟩,ZW.binds (ps:=eB) fun _ _ _ _ _ _ us hl=>match us,hl with|[_,_,_],_=>rfl,Me X G e_Tally⟩
 have ZV:=aX (st:=cD) l33 c33 k33
 have E33:ni K NI "ways" "Tally.ways" cD bO VM _:=⟨ZV,⟨a33,i33,k33⟩,ZV.binds (ps:=bO) fun _ _ _ _ _ _ us hl=>match us,hl with|[_,_,_],_=>rfl⟩
 have ZU:=aX (st:=dq) l34 c34 k34
 have E34:FnAt K mg "lines_with" dq d7 WA _:=⟨ZU,Me X G a34,ZU.binds (ps:=d7) fun _ _ _ _ _ _ us hl=>match us,hl with|[_,_],_=>rfl⟩
 have ZT:=aX (st:=dy) l35 c35 k35
 have E35:FnAt K mg "all_lines" dy fM Wz _:=⟨ZT,Me X G a35,ZT.binds (ps:=fM) fun _ _ _ _ _ _ us hl=>match us,hl with|[_],_=>rfl⟩
 have ZS:=aX (st:=fG) l36 c36 k36
 have E36:FnAt K mg "count_of" fG gJ Wx _:=⟨ZS,Me X G a36,ZS.binds (ps:=gJ) fun _ _ _ _ _ _ us hl=>match us,hl with|[_,_],_=>rfl⟩
 have ZR:=aX (st:=eF) l37 c37 k37
 have E37:FnAt K mg "shares_of" eF fV Ww _:=⟨ZR,Me X G a37,ZR.binds (ps:=fV) fun _ _ _ _ _ _ us hl=>match us,hl with|[_,_],_=>rfl⟩
 have ZQ:=aX (st:=bN) l38 c38 k38
 have E38:FnAt K mg "shares_in_row" bN cQ Wv _:=⟨ZQ,Me X G a38,ZQ.binds (ps:=cQ) fun _ _ _ _ _ _ us hl=>match us,hl with|[_,_,_],_=>rfl⟩
 have ZP:=aX (st:=fS) l39 c39 k39
 have E39:FnAt K mg "_law_fold" fS gN Wu _:=⟨ZP,Me X G a39,ZP.binds (ps:=gN) fun _ _ _ _ _ _ us hl=>match us,hl with|[_,_],_=>rfl⟩
 have ZO:=aX (st:=eO) l40 c40 k40
 have E40:FnAt K mg "_law_ones" eO gI Wt _:=⟨ZO,Me X G a40,ZO.binds (ps:=gI) fun _ _ _ _ _ _ us hl=>match us,hl with|[_,_],_=>rfl⟩
 have ZN:=aX (st:=cX) l41 c41 k41
 have E41:FnAt K mg "_law_sums" cX gQ Ws _:=⟨ZN,Me X G a41,ZN.binds (ps:=gQ) fun _ _ _ _ _ _ us hl=>match us,hl with|[_,_],_=>rfl⟩
 have ZM:=aX (st:=eW) l42 c42 k42
 have E42:FnAt K mg "_law_whole" eW fL Wr _:=⟨ZM,Me X G a42,ZM.binds (ps:=fL) fun _ _ _ _ _ _ us hl=>match us,hl with|[_],_=>rfl⟩
 have ZL:=aX (st:=fW) l43 c43 k43
 have E43:FnAt K mg "_law_word" fW gE Wq _:=⟨ZL,Me X G a43,ZL.binds (ps:=gE) fun _ _ _ _ _ _ us hl=>match us,hl with|[_,_,_],_=>rfl⟩
 have ZK:=aX (st:=gX) l44 c44 k44
 have E44:FnAt K mg "_law_due" gX iF Wo _:=⟨ZK,Me X G a44,ZK.binds (ps:=iF) fun _ _ _ _ _ _ us hl=>match us,hl with|[_,_],_=>rfl⟩
 have ZJ:=aX (st:=eC) l45 c45 k45
 have E45:FnAt K mg "_law_digits" eC fg Wn _:=⟨ZJ,Me X G a45,ZJ.binds (ps:=fg) fun _ _ _ _ _ _ us hl=>match us,hl with|[_,_,_],_=>rfl⟩
 have ZI:=aX (st:=eX) l46 c46 k46
 have E46:FnAt K mg "_law_drawn" eX fK Wm _:=⟨ZI,Me X G a46,ZI.binds (ps:=fK) fun _ _ _ _ _ _ us hl=>match us,hl with|[_],_=>rfl⟩
 have ZH:=aX (st:=mO) l47 c47 k47
 have E47:FnAt K mg "law" mO rT fa _:=⟨ZH,Me X G a47,ZH.binds (ps:=rT) fun _ _ _ _ _ _ us hl=>match us,hl with|[_],_=>rfl⟩
 have A_:Fns K mg ⟨Ni,NB,NM,NW,NA,MS,NC,NI⟩:=⟨⟨_,_,E0⟩,⟨_,_,E1⟩,⟨_,_,E2⟩,⟨_,_,E3⟩,⟨_,_,E4⟩,⟨_,_,E5⟩,⟨_,_,E6⟩,⟨_,_,E7⟩,⟨_,_,E8⟩,⟨_,_,E9⟩,⟨_,_,E10⟩,⟨_,_,E11⟩,⟨_,_,E12⟩,⟨_,_,E13⟩,⟨_,_,E14⟩,⟨_,_,E15⟩,⟨_,_,E16⟩,⟨_,_,E17⟩,⟨_,_,E18⟩,⟨_,_,E19⟩,⟨_,_,E20⟩,⟨_,_,E21⟩,⟨_,_,E22⟩,⟨_,_,E23⟩,⟨_,_,E24⟩,⟨_,_,E25⟩,⟨_,_,E26⟩,⟨_,_,E27⟩,⟨_,_,E28⟩,⟨_,_,E29⟩,⟨_,_,E30⟩,⟨_,_,E31⟩,⟨_,_,E32⟩,⟨_,_,E33⟩,⟨_,_,E34⟩,⟨_,_,E35⟩,⟨_,_,E36⟩,⟨_,_,E37⟩,⟨_,_,E38⟩,⟨_,_,E39⟩,⟨_,_,E40⟩,⟨_,_,E41⟩,⟨_,_,E42⟩,⟨_,_,E43⟩,⟨_,_,E44⟩,⟨_,_,E45⟩,⟨_,_,E46⟩,⟨_,_,E47⟩⟩
 exact⟨PySem.W.fnOf "law" "law" (aG mO) (aD mO) (ak mO) .none kV47 dc47 pm47 an47 cd47 ct47,fun s v=>.of_eq rfl,fun base hb _ TL=>JY E47 A_ (T base TL) (c:=⟨Ni,NB,NM,NW,NA,MS,NC,NI⟩) ⟨Me X G e_MixError,Me X G e_NoBounds,Me X G e_NoPlace,Me X G e_NoSums,Me X G e_TooGreat,Me X G e_Filling,Me X G e_Reach,Me X G e_Tally,⟨⟨pg_Filling,hd_Filling,po_Filling,sa_Filling⟩,cl_Filling,sg,tg,ob_Filling⟩,na_Filling_low,na_Filling_high,na_Filling_table,na_Filling_wants,na_Filling_rooms,⟨⟨pg_Reach,hd_Reach,po_Reach,sa_Reach⟩,cl_Reach,sg,tg,ob_Reach⟩,na_Reach_rows,na_Reach_columns,na_Reach_goal,⟨⟨pg_Tally,hd_Tally,po_Tally,sa_Tally⟩,cl_Tally,sg,tg,ob_Tally⟩,na_Tally_choices,na_Tally_known,eI.of_lookup (ups:=[]) hb u_MixError rfl v_MixError,eI.of_lookup (ups:=[Ni]) hb u_NoBounds rfl v_NoBounds,⟨ga_NoBounds,ge_NoBounds,cl_NoBounds,ob_NoBounds,be_NoBounds,by unfold PySem.W.clsIn;rw[u_NoBounds];rfl⟩,eI.of_lookup (ups:=[Ni]) hb u_NoPlace rfl v_NoPlace,⟨ga_NoPlace,ge_NoPlace,cl_NoPlace,ob_NoPlace,be_NoPlace,by unfold PySem.W.clsIn;rw[u_NoPlace];rfl⟩,eI.of_lookup (ups:=[Ni]) hb u_NoSums rfl v_NoSums,⟨ga_NoSums,ge_NoSums,cl_NoSums,ob_NoSums,be_NoSums,by unfold PySem.W.clsIn;rw[u_NoSums];rfl⟩,eI.of_lookup (ups:=[Ni]) hb u_TooGreat rfl v_TooGreat,⟨ga_TooGreat,ge_TooGreat,cl_TooGreat,ob_TooGreat,be_TooGreat,by unfold PySem.W.clsIn;rw[u_TooGreat];rfl⟩⟩⟩
def walk{l:PySem.W.OpenLaw}{q:Program}{Qj:List Str}{XP:(Str->Option Value)->Heap->Prop}{YP:World->Heap->Prop}{d:DefRec}{K:Params->PySem.W.Frag}(hn:l.most=some 63)(Vy:d.params.defaults=[])
  (hY:∀(w:World) (h:Heap),YP w h->(K w.params).In h) (hT:∀(w:World) (h:Heap),YP w h->h.get? L3.uA=some (PySem.W.tabObj #[])) (VI:∀w:World,(K w.params).lookup L3.uA=none) {c_:Addr} (PJ:∀w:World,PySem.W.codeHdIn (K w.params) c_ L3.uA=true)
  (F:∀(w:World) (mg:Str->Option Value) (fa:Addr) (h:Heap),(K w.params).In h->h.Ns mainGlobals mg->mg d.name=some (.ref fa) ->
   ∃fd:FuncData,(∀(s:Shared) (u:Value),BindsTo s fd ⟨[u],[]⟩ [("_law_script",u)])/\∀base:Heap,(K w.params).In base->base.Ns mainGlobals mg->L3.BMd base mg->aI l.prog w (K w.params) mg base CX0 12 fa fd ["_law_script"] (L3.spP (K w.params) qA)) :
  PySem.W.WalkO q Qj XP YP l.row.toRowW d [] (fun f vs=>PySem.call f vs) :=
 L3.GB (n:=63) (k:=12) (x:="_law_script") (CX:=fun _=>CX0) (sp:=fun w=>L3.spP (K w.params) qA) hn (by decide) Vy ⟨rfl,by decide,by decide⟩ hY hT VI PJ F (fun w H a ns hl hO hS=>⟨[.scr ns],⟨[],_,_,[],[],rfl,rfl,⟨a,rfl,L3.JB hO hS,rfl⟩,rfl,rfl⟩,hO.tab,DH hl (fun v H' fp s r n=>r.1)⟩) fun _ _ _ _ _ z=>z
end Mine
open PySem PySem.W PyProof.Rows
namespace PySem.W.Fast
def tw6712558004336369519:=0
def tw1529468470471869452:=0
def tw17180245069740672802:=0
def tw16853505381375026382:=0
def tw1488864321279601026:=0
def tw77675197191316374:=0
def tw4881282130917483333:=0
def tw7432057985230734628:=0
def tw1271146167286425906:=0
def tw5320411157580858952:=0
def tw15850049494966190520:=0
def tw15848890645777575055:=0
def tw15155903774157596818:=0
def tw15588205623434038464:=0
def tw15280332380750647734:=0
def tw3913810342532352058:=0
def tw11378712054307457013:=0
def tw5332570908569123281:=0
def tw15622169101480710244:=0
def tw2410573003728658883:=0
def tw10212478151881022963:=0
def tw5625003437301283407:=0
def tw5102062527422370315:=0
def tw2218479896360540994:=0
def tw4581137108500009530:=0
def tw10713462330850800655:=0
def tw15927854933504381501:=0
def tw2312935176565505624:=0
def tw4527538047679884020:=0
def tw3547915653155869045:=0
def tw16335000160187771329:=0
def tw10813981411231998874:=0
def tw11484743705513465700:=0
def tw14669382261905706774:=0
def tw17323296328047047079:=0
def tw6168607360431685844:=0
def tw13541464089126962142:=0
def tw15861532334243279119:=0
def tw6448914696132163099:=0
def tw7924903316713012617:=0
def tw7659202305990210967:=0
def tw15245641332554276088:=0
def tw15887065381200122216:=0
def tw5688340415242413675:=0
def tw17844436536778925657:=0
def tw15069272453417312217:=0
def tw15419578007682579070:=0
def tw17736132823249130710:=0
def tw5199204888215418600:=0
def tw3843731835002955190:=0
def tw16464389506197975329:=0
def tw10512061068263338475:=0
def tw11800846859679109351:=0
def tw17949591907780516185:=0
def tw7132854462524248871:=0
def tw8601717740418007060:=0
def tw4583595554835375870:=0
def tw5449620339834450232:=0
def tw18063477401576138978:=0
def tw8265733953790643112:=0
def tw14227435615520390769:=0
def tw13241680808298680845:=0
def tw5278985112018366925:=0
def tw16718837517415653909:=0
def tw11970329218345751845:=0
def tw4297563890594145809:=0
def tw15532997398634904590:=0
def tw11440008900569410835:=0
def tw11850240357710662357:=0
def tw2791675827693052571:=0
def tw14546856747161249119:=0
def tw3254005791123495495:=0
def tw15457561076133353223:=0
def tw9591602898243594743:=0
def tw7155511048463494899:=0
def tw12760503022298347062:=0
def tw3670760920795762789:=0
def tw9071319165078539159:=0
def tw11470335361165316942:=0
def tw12957846302372672721:=0
def tw17170633468627908874:=0
def tw69565269492196214:=0
def tw5451891451102486638:=0
def tw2410186554784757928:=0
def tw8583877222976168300:=0
def tw16722147873709295959:=0
def tw5713358494704440991:=0
def tw16503215509056254504:=0
def tw4380112325781302240:=0
def tw14906443173358966257:=0
def tw12769662946496549064:=0
def tw1326058115873742912:=0
def tw15840141449570864894:=0
def tw11331488859802279231:=0
def tw558715309288361702:=0
def tw5226223430776880752:=0
def tw18395897509149633584:=0
def tw4408756230494978135:=0
def tw16376850735082268843:=0
def tw18346373033798548555:=0
def tw5685846343317625083:=0
def tw11087715514475470503:=0
def tw4733299442889481824:=0
def tw2061650086405925670:=0
def tw5958612457067759414:=0
def tw16607280099521734811:=0
def tw9149078318653099105:=0
def tw2221506895810894644:=0
def tw9026568684640507184:=0
def tw12754408946314190210:=0
def tw17382287946302360316:=0
def tw12819260243392608727:=0
def tw6141470774262501354:=0
def tw4045174784575187862:=0
def tw1273154645614045028:=0
def tw13498574434320194924:=0
def tw16972651966482491155:=0
def tw16783122637630188699:=0
def tw9812322456650773188:=0
def tw331470965556546083:=0
def tw10549562202174597814:=0
def tw16846484532092507744:=0
def tw15229274054995460074:=0
def tw12405612951347306443:=0
def tw7971415175689435479:=0
def tw5513118908858619682:=0
def tw17565667411034732385:=0
def tw16609610138247422672:=0
def tw18292726026724520908:=0
def tw2038035134876083779:=0
def tw10188281324583477672:=0
def tw10795231532262704463:=0
def tw6802339818524703484:=0
def tw2053380606763621655:=0
def tw18128946949519783294:=0
def tw8544952120615092266:=0
def tw12649335857687797852:=0
def tw14090659243371897382:=0
def tw4755334143682688190:=0
def tw3871479611320926547:=0
def tw14682523056124741590:=0
def tw16462789243813293303:=0
def tw10873953831051499539:=0
def tw13253226495444500348:=0
def tw16227578899457771606:=0
def tw5304829305570921361:=0
def tw12197820650933935406:=0
def tw10460256391682002120:=0
def tw3534835675740402853:=0
def tw1824795215226287175:=0
def tw17340890930755151377:=0
def tw16811105694677277047:=0
def tw7894147671570865420:=0
def tw17219081892367176570:=0
def tw17507653219842420951:=0
def tw16746861916353702245:=0
def tw2073208845302168859:=0
def tw14026867623749204565:=0
def tw12101548167049161600:=0
def tw15745690962544873684:=0
def tw988672708475663916:=0
def tw4325331840115097230:=0
def tw8581221614039640866:=0
def tw9977070306674317139:=0
def tw10985733804443097398:=0
def tw18416452046441520092:=0
def tw2327867490490147472:=0
def tw712316336074034020:=0
def tw14889706209682087511:=0
def tw10525496451691194181:=0
def tw6641514055728263599:=0
def tw6803535226353555910:=0
def tw12807978824987001718:=0
def tw829234740699889167:=0
def tw8934545108808388749:=0
def tw10555002371228456901:=0
def tw15724343310947536110:=0
def tw12624179240213408596:=0
def tw18368436388113215417:=0
def tw15692587038119230408:=0
def tw9069658340356893903:=0
def tw3590164095972354663:=0
def tw17006186136728625704:=0
def tw18112988253970274294:=0
def tw5834904974042172532:=0
def tw13854689377836561919:=0
def tw2912539320509680515:=0
def tw3444988391468340642:=0
def tw13731860447068929840:=0
def tw12897418353074436340:=0
def tw15017906879302642995:=0
def tw1332858469759482456:=0
def tw718152453824495821:=0
def tw9433918309332106154:=0
def tw8233860489997924139:=0
def tw9302265121941122614:=0
def tw12109593134523808081:=0
def tw5826777864310827988:=0
def tw432481820764025058:=0
def tw6002104435223472309:=0
def tw11480465610481181978:=0
def tw12200120438369006189:=0
def tw14933314887893846750:=0
def tw776123616942335629:=0
def tw13851538783169154823:=0
def tw12956100650553825183:=0
def tw7186498137128079409:=0
def tw2840309821907954230:=0
def tw7087866940831203373:=0
def tw2588019225235535661:=0
def tw9627949696280067603:=0
def tw2331546834800413674:=0
def tw744420826999411963:=0
def tw6374799185071285813:=0
def tw9460102212525643112:=0
def tw12962738478204920686:=0
def tw3474015382782161902:=0
def tw18434103968531666147:=0
def tw11725232549323963472:=0
def tw1809980388981311626:=0
def tw3939842035060936308:=0
def tw18216281134556496707:=0
def tw332013880661371865:=0
def tw2646830713251312581:=0
def tw12148456357976820313:=0
def tw14319288420238208617:=0
def tw10004331444560143390:=0
def tw12373541680663404422:=0
def tw470019787287942824:=0
def tw6417909024004903968:=0
def tw3411000406596425832:=0
def tw18355954436910713234:=0
def tw3266333389605629745:=0
def tw4840500244531410882:=0
def tw3575520476424505825:=0
def tw13347214944613209422:=0
def tw8988498768700503016:=0
def tw1039856903263518432:=0
def tw5430003557468003000:=0
def tw9490282632129216976:=0
def tw9116772364077055872:=0
def tw17922870571061546626:=0
def tw1458319017237660359:=0
def tw15693571784097935158:=0
def tw8187847661850818204:=0
def tw2803177582587820426:=0
def tw4647176648634804443:=0
def tw9280177965638990205:=0
def tw12661008523037763633:=0
def tw8940536667137290102:=0
def tw3907865138274229101:=0
def tw6976791299992450262:=0
def tw4157092080538723228:=0
def tw2415720119546098356:=0
def tw9212305776402210138:=0
def tw17991307238807226164:=0
def tw2103612879502848670:=0
def tw18167179045332290945:=0
def tw14849965556643702690:=0
def tw17803923395008019780:=0
def tw5709484387228252517:=0
def tw12463001108657099288:=0
def tw7540007324753413817:=0
def tw854056998888673926:=0
def tw15853903920732436718:=0
def tw3270869585241346130:=0
def tw4388770910687544738:=0
def tw2768367049937306051:=0
def tw3297668664998955631:=0
def tw4678731897983144466:=0
def tw3420317281624067939:=0
def tw1967932879262251814:=0
def tw17218500835989367970:=0
def tw2669809443461324352:=0
def tw84782938928684573:=0
def tw6050755080589393901:=0
def tw3211188204819457175:=0
def tw14648135487529564866:=0
def tw6185581847317806928:=0
def tw10172631726919538397:=0
def tw9466716637310499224:=0
def tw15020563861250585280:=0
def tw1754735756321916539:=0
def tw13838082303273325930:=0
def tw6039287949671759073:=0
def tw13762791079753668096:=0
def tw5102417774824367885:=0
def tw3633549850920325224:=0
def tw764495657732636927:=0
def tw6711471925211840927:=0
def tw12189543729057437516:=0
def tw5489475429875104956:=0
def tw16722739142758814926:=0
def tw492427089580350619:=0
def tw8594793225454653014:=0
def tw6032767143877886997:=0
def tw10268241459670374263:=0
def tw9814765776055721417:=0
def tw2995063842169911395:=0
def tw6646324609772693943:=0
def tw16760684979146217002:=0
def tw301154674904096941:=0
def tw18262482305231599347:=0
def tw14107660371473832669:=0
def tw16886199249667970484:=0
def tw538252263906992686:=0
def tw7618467820930897554:=0
def tw2984943160226152767:=0
def tw15667625830177821735:=0
def tw16075573509498417515:=0
def tw15533877292383455848:=0
def tw17747268503189608991:=0
def tw7149489829660081558:=0
def tw14123379802956576996:=0
def tw14520233408348598559:=0
def tw2515664144929534059:=0
def tw13100791687192089616:=0
def tw487848406901490932:=0
def tw15296736273333809030:=0
def tw9582660172651085958:=0
def tw17012456328436081641:=0
def tw5899771583942241564:=0
def tw4450088926945508939:=0
def tw3888627694270684818:=0
def tw10094223770200152106:=0
def tw15813503424710531006:=0
def tw2635314785863421499:=0
def tw13932778232481233993:=0
def tw1551749950661146985:=0
def tw12722271605348683601:=0
def tw7023207547049945793:=0
def tw2479795928156659341:=0
def tw6606012755245058466:=0
def tw9680294971107863527:=0
def tw3069398627810751833:=0
def tw11240248588744560614:=0
def tw1794156189367941929:=0
def tw8451237357423062985:=0
def tw13697481459898129993:=0
def tw2993998032911902123:=0
def tw17631392724232417942:=0
def tw7699505321484605067:=0
def tw17411360495764981544:=0
def tw868436068100409005:=0
def tw9825501032171210429:=0
def tw17348018706036140152:=0
def tw8973711885241191648:=0
def tw3617313591537870152:=0
def tw12797639053954509296:=0
def tw1461474075334021977:=0
def tw5518324400944647866:=0
def tw16262685717412191964:=0
def tw8539401427789479950:=0
def tw12477261946041534758:=0
def tw5035379624459962615:=0
def tw7937706296048167770:=0
def tw16973923879545660220:=0
def tw12611419306244566457:=0
def tw4739736339043190210:=0
def tw15360521505304756683:=0
def tw4416296602508484362:=0
def tw9745729324343291772:=0
def tw11045820513955458013:=0
def tw8074081279381550157:=0
def tw8096525054801885773:=0
def tw4780557503556576075:=0
def tw7031736648101092770:=0
def tw13198490529800119358:=0
def tw8666135642373849993:=0
def tw1592477298604580721:=0
def tw3348487306448893959:=0
def tw1018456147853655597:=0
def tw13856551480721467679:=0
def tw8508770501141669944:=0
def tw2673383960021914791:=0
def tw8093713951115070100:=0
def tw7431515889115842644:=0
def tw11763942944446593291:=0
def tw6754251191529002866:=0
def tw10558614820321696137:=0
def tw15182930775336761976:=0
def tw12855808264967322816:=0
def tw4505440506464558285:=0
def tw6560694362753337417:=0
def tw12052173320548559955:=0
def tw18115608593251723157:=0
def tw3868750991713938191:=0
def tw2172746038585153587:=0
def tw17874259232882581819:=0
def tw16008487331728550395:=0
def tw15413767832458441875:=0
def tw12737592767630256958:=0
def tw15944021118079430127:=0
def tw6197631618007517090:=0
def tw529091739205027048:=0
def tw4638781746726928255:=0
def tw10022324461211665448:=0
def tw14267322458800194275:=0
def tw15744372374615909406:=0
end PySem.W.Fast
set_option maxRecDepth 100000 in
set_option maxHeartbeats 0 in
theorem PySem.Challenge.cw_evenmix_k59_whole_fates_and_shares_holds : PySem.Challenge.rw_evenmix_k59_whole_fates_and_shares.Holds := by
 w_on;o_law;k_head;(case hw=>w_witness2)
 k_fill
 refine Mine.walk (l:=PySem.Challenge.rw_evenmix_k59_whole_fates_and_shares) rfl rfl (fun w h Y=>PySem.W.km_in_of Y) (fun w h Y=>PySem.W.km_tabs_of Y L3.uA (by decide)) (fun w=>by first|exact rfl|kernel_rfl) (c_:=95) (fun w=>by first|exact rfl|kernel_rfl) ?F
 case F =>
  intro w mg fa h KX G TJ
  refine' Mine.all_mk KX G TJ ?a0 ?l0 ?c0 ?k0 ?a1 ?l1 ?c1 ?k1 ?a2 ?l2 ?c2 ?k2 ?a3 ?l3 ?c3 ?k3 ?a4 ?l4 ?c4 ?k4 ?a5 ?l5 ?c5 ?k5 ?a6 ?l6 ?c6 ?k6 ?a7 ?l7 ?c7 ?k7 ?a8 ?l8 ?c8 ?k8 ?a9 ?l9 ?c9 ?k9 ?a10 ?l10 ?c10 ?k10 ?a11 ?l11 ?c11 ?k11 ?a12 ?l12 ?c12 ?k12 ?a13 ?l13 ?c13 ?k13 ?a14 ?i14 ?l14 ?c14 ?k14 ?a15 ?i15 ?l15 ?c15 ?k15 ?a16 ?i16 ?l16 ?c16 ?k16 ?a17 ?i17 ?l17 ?c17 ?k17 ?a18 ?i18 ?l18 ?c18 ?k18 ?a19 ?i19 ?l19 ?c19 ?k19 ?a20 ?l20 ?c20 ?k20 ?a21 ?l21 ?c21 ?k21 ?a22 ?l22 ?c22 ?k22 ?a23 ?l23 ?c23 ?k23 ?a24 ?l24 ?c24 ?k24 ?a25 ?l25 ?c25 ?k25 ?a26 ?l26 ?c26 ?k26 ?a27 ?l27 ?c27 ?k27 ?a28 ?l28 ?c28 ?k28 ?a29 ?l29 ?c29 ?k29 ?a30 ?l30 ?c30 ?k30 ?a31 ?l31 ?c31 ?k31 ?a32 ?i32 ?l32 ?c32 ?k32 ?a33 ?i33 ?l33 ?c33 ?k33 ?a34 ?l34 ?c34 ?k34 ?a35 ?l35 ?c35 ?k35 ?a36 ?l36 ?c36 ?k36 ?a37 ?l37 ?c37 ?k37 ?a38 ?l38 ?c38 ?k38 ?a39 ?l39 ?c39 ?k39 ?a40 ?l40 ?c40 ?k40 ?a41 ?l41 ?c41 ?k41 ?a42 ?l42 ?c42 ?k42 ?a43 ?l43 ?c43 ?k43 ?a44 ?l44 ?c44 ?k44 ?a45 ?l45 ?c45 ?k45 ?a46 ?l46 ?c46 ?k46 ?a47 ?l47 ?c47 ?k47 ?sg ?tg ?pg_Filling ?hd_Filling ?po_Filling ?sa_Filling ?mk_Filling ?kc_Filling ?cl_Filling ?ob_Filling ?na_Filling_low ?na_Filling_high ?na_Filling_table ?na_Filling_wants ?na_Filling_rooms ?pg_Reach ?hd_Reach ?po_Reach ?sa_Reach ?mk_Reach ?kc_Reach ?cl_Reach ?ob_Reach ?na_Reach_rows ?na_Reach_columns ?na_Reach_goal ?pg_Tally ?hd_Tally ?po_Tally ?sa_Tally ?mk_Tally ?kc_Tally ?cl_Tally ?ob_Tally ?na_Tally_choices ?na_Tally_known ?e_MixError ?e_NoBounds ?e_NoPlace ?e_NoSums ?e_TooGreat ?e_Filling ?e_Reach ?e_Tally ?u_MixError ?v_MixError ?u_NoBounds ?v_NoBounds ?u_NoPlace ?v_NoPlace ?u_NoSums ?v_NoSums ?u_TooGreat ?v_TooGreat ?ga_NoBounds ?ge_NoBounds ?cl_NoBounds ?ob_NoBounds ?be_NoBounds ?ga_NoPlace ?ge_NoPlace ?cl_NoPlace ?ob_NoPlace ?be_NoPlace ?ga_NoSums ?ge_NoSums ?cl_NoSums ?ob_NoSums ?be_NoSums ?ga_TooGreat ?ge_TooGreat ?cl_TooGreat ?ob_TooGreat ?be_TooGreat ?g_MOST_COUNTED ?hcf ?hch ?z_len ?z_isinstance ?z_int ?z_bool ?z_list ?z_range ?z_min ?z_max ?z_sum ?z_sorted ?z_tuple ?z_zip ?z_any ?z_str ?z_ValueError
  (case e_MixError=>k_is)
  (case e_NoBounds=>k_is)
  (case e_NoPlace=>k_is)
  (case e_NoSums=>k_is)
  (case e_TooGreat=>k_is)
  (case e_Filling=>k_is)
  (case e_Reach=>k_is)
  (case e_Tally=>k_is)
  (case a0=>k_is)
  (case l0=>k_is)
  (case c0=>k_is)
  (case k0=>k_is)
  (case a1=>k_is)
  (case l1=>k_is)
  (case c1=>k_is)
  (case k1=>k_is)
  (case a2=>k_is)
  (case l2=>k_is)
  (case c2=>k_is)
  (case k2=>k_is)
  (case a3=>k_is)
  (case l3=>k_is)
  (case c3=>k_is)
  (case k3=>k_is)
  (case a4=>k_is)
  (case l4=>k_is)
  (case c4=>k_is)
  (case k4=>k_is)
  (case a5=>k_is)
  (case l5=>k_is)
  (case c5=>k_is)
  (case k5=>k_is)
  (case a6=>k_is)
  (case l6=>k_is)
  (case c6=>k_is)
  (case k6=>k_is)
  (case a7=>k_is)
  (case l7=>k_is)
  (case c7=>k_is)
  (case k7=>k_is)
  (case a8=>k_is)
  (case l8=>k_is)
  (case c8=>k_is)
  (case k8=>k_is)
  (case a9=>k_is)
  (case l9=>k_is)
  (case c9=>k_is)
  (case k9=>k_is)
  (case a10=>k_is)
  (case l10=>k_is)
  (case c10=>k_is)
  (case k10=>k_is)
  (case a11=>k_is)
  (case l11=>k_is)
  (case c11=>k_is)
  (case k11=>k_is)
  (case a12=>k_is)
  (case l12=>k_is)
  (case c12=>k_is)
  (case k12=>k_is)
  (case a13=>k_is)
  (case l13=>k_is)
  (case c13=>k_is)
  (case k13=>k_is)
  (case a14=>k_is)
  (case i14=>k_is)
  (case l14=>k_is)
  (case c14=>k_is)
  (case k14=>k_is)
  (case a15=>k_is)
  (case i15=>k_is)
  (case l15=>k_is)
  (case c15=>k_is)
  (case k15=>k_is)
  (case a16=>k_is)
  (case i16=>k_is)
  (case l16=>k_is)
  (case c16=>k_is)
  (case k16=>k_is)
  (case a17=>k_is)
  (case i17=>k_is)
  (case l17=>k_is)
  (case c17=>k_is)
  (case k17=>k_is)
  (case a18=>k_is)
  (case i18=>k_is)
  (case l18=>k_is)
  (case c18=>k_is)
  (case k18=>k_is)
  (case a19=>k_is)
  (case i19=>k_is)
  (case l19=>k_is)
  (case c19=>k_is)
  (case k19=>k_is)
  (case a20=>k_is)
  (case l20=>k_is)
  (case c20=>k_is)
  (case k20=>k_is)
  (case a21=>k_is)
  (case l21=>k_is)
  (case c21=>k_is)
  (case k21=>k_is)
  (case a22=>k_is)
  (case l22=>k_is)
  (case c22=>k_is)
  (case k22=>k_is)
  (case a23=>k_is)
  (case l23=>k_is)
  (case c23=>k_is)
  (case k23=>k_is)
  (case a24=>k_is)
  (case l24=>k_is)
  (case c24=>k_is)
  (case k24=>k_is)
  (case a25=>k_is)
  (case l25=>k_is)
  (case c25=>k_is)
  (case k25=>k_is)
  (case a26=>k_is)
  (case l26=>k_is)
  (case c26=>k_is)
  (case k26=>k_is)
  (case a27=>k_is)
  (case l27=>k_is)
  (case c27=>k_is)
  (case k27=>k_is)
  (case a28=>k_is)
  (case l28=>k_is)
  (case c28=>k_is)
  (case k28=>k_is)
  (case a29=>k_is)
  (case l29=>k_is)
  (case c29=>k_is)
  (case k29=>k_is)
  (case a30=>k_is)
  (case l30=>k_is)
  (case c30=>k_is)
  (case k30=>k_is)
  (case a31=>k_is)
  (case l31=>k_is)
  (case c31=>k_is)
  (case k31=>k_is)
  (case a32=>k_is)
  (case i32=>k_is)
  (case l32=>k_is)
  (case c32=>k_is)
  (case k32=>k_is)
  (case a33=>k_is)
  (case i33=>k_is)
  (case l33=>k_is)
  (case c33=>k_is)
  (case k33=>k_is)
  (case a34=>k_is)
  (case l34=>k_is)
  (case c34=>k_is)
  (case k34=>k_is)
  (case a35=>k_is)
  (case l35=>k_is)
  (case c35=>k_is)
  (case k35=>k_is)
  (case a36=>k_is)
  (case l36=>k_is)
  (case c36=>k_is)
  (case k36=>k_is)
  (case a37=>k_is)
  (case l37=>k_is)
  (case c37=>k_is)
  (case k37=>k_is)
  (case a38=>k_is)
  (case l38=>k_is)
  (case c38=>k_is)
  (case k38=>k_is)
  (case a39=>k_is)
  (case l39=>k_is)
  (case c39=>k_is)
  (case k39=>k_is)
  (case a40=>k_is)
  (case l40=>k_is)
  (case c40=>k_is)
  (case k40=>k_is)
  (case a41=>k_is)
  (case l41=>k_is)
  (case c41=>k_is)
  (case k41=>k_is)
  (case a42=>k_is)
  (case l42=>k_is)
  (case c42=>k_is)
  (case k42=>k_is)
  (case a43=>k_is)
  (case l43=>k_is)
  (case c43=>k_is)
  (case k43=>k_is)
  (case a44=>k_is)
  (case l44=>k_is)
  (case c44=>k_is)
  (case k44=>k_is)
  (case a45=>k_is)
  (case l45=>k_is)
  (case c45=>k_is)
  (case k45=>k_is)
  (case a46=>k_is)
  (case l46=>k_is)
  (case c46=>k_is)
  (case k46=>k_is)
  (case a47=>k_is)
  (case l47=>k_is)
  (case c47=>k_is)
  (case k47=>k_is)
  (case sg=>k_is)
  (case tg=>k_is)
  (case pg_Filling=>k_is)
  (case hd_Filling=>k_is)
  (case po_Filling=>k_is)
  (case sa_Filling=>k_is)
  (case mk_Filling=>k_is)
  (case kc_Filling=>k_is)
  (case cl_Filling=>k_is)
  (case ob_Filling=>k_is)
  (case na_Filling_low=>k_is)
  (case na_Filling_high=>k_is)
  (case na_Filling_table=>k_is)
  (case na_Filling_wants=>k_is)
  (case na_Filling_rooms=>k_is)
  (case pg_Reach=>k_is)
  (case hd_Reach=>k_is)
  (case po_Reach=>k_is)
  (case sa_Reach=>k_is)
  (case mk_Reach=>k_is)
  (case kc_Reach=>k_is)
  (case cl_Reach=>k_is)
  (case ob_Reach=>k_is)
  (case na_Reach_rows=>k_is)
  (case na_Reach_columns=>k_is)
  (case na_Reach_goal=>k_is)
  (case pg_Tally=>k_is)
  (case hd_Tally=>k_is)
  (case po_Tally=>k_is)
  (case sa_Tally=>k_is)
  (case mk_Tally=>k_is)
  (case kc_Tally=>k_is)
  (case cl_Tally=>k_is)
  (case ob_Tally=>k_is)
  (case na_Tally_choices=>k_is)
  (case na_Tally_known=>k_is)
  (case u_MixError=>k_is)
  (case v_MixError=>k_exc)
  (case u_NoBounds=>k_is)
  (case v_NoBounds=>k_exc)
  (case u_NoPlace=>k_is)
  (case v_NoPlace=>k_exc)
  (case u_NoSums=>k_is)
  (case v_NoSums=>k_exc)
  (case u_TooGreat=>k_is)
  (case v_TooGreat=>k_exc)
  (case ga_NoBounds=>k_is)
  (case ge_NoBounds=>k_is)
  (case cl_NoBounds=>k_is)
  (case ob_NoBounds=>k_is)
  (case be_NoBounds=>k_is)
  (case ga_NoPlace=>k_is)
  (case ge_NoPlace=>k_is)
  (case cl_NoPlace=>k_is)
  (case ob_NoPlace=>k_is)
  (case be_NoPlace=>k_is)
  (case ga_NoSums=>k_is)
  (case ge_NoSums=>k_is)
  (case cl_NoSums=>k_is)
  (case ob_NoSums=>k_is)
  (case be_NoSums=>k_is)
  (case ga_TooGreat=>k_is)
  (case ge_TooGreat=>k_is)
  (case cl_TooGreat=>k_is)
  (case ob_TooGreat=>k_is)
  (case be_TooGreat=>k_is)
  (case g_MOST_COUNTED=>k_is)
  (case hcf=>exact rfl)
  (case hch=>first|exact rfl|k_is)
  (case z_len=>k_is)
  (case z_isinstance=>k_is)
  (case z_int=>k_is)
  (case z_bool=>k_is)
  (case z_list=>k_is)
  (case z_range=>k_is)
  (case z_min=>k_is)
  (case z_max=>k_is)
  (case z_sum=>k_is)
  (case z_sorted=>k_is)
  (case z_tuple=>k_is)
  (case z_zip=>k_is)
  (case z_any=>k_is)
  (case z_str=>k_is)
  (case z_ValueError=>k_is)
