import PyProof.Rows.All
import Wide.All
import OpenK.AllK
import Wide.FinOn
import Lean
import PyProof.EqAt
import PyProof.EqKinds
import PyProof.TupleCall
import PyProof.DictRoadsH
import PyProof.TupleKey
import PyProof.NeKinds
import PyProof.ZipIter
import KE.KRevIter
import PyProof.ListRange
import KE.LcSums
import PyProof.Rows.MinMaxN
import KE.KTryDeep
import PyProof.ExcArgsOwn
import PyProof.ExcAttrAll.ValueError
import KE.KSortKey
import KE.KLam
import KE.KNestM
import KE.KIntText
import PyProof.JoinWalk
import PyProof.StrCalls
import KE.KDictSum
import PyProof.EnumMake
import PyProof.EnumStmt
import PyProof.EnumFor
import KE.KIsAll
import KE.RegKIsAll
import PySem.Challenge.RW_evenmix_k45_whole_fates_and_swaps
set_option bootstrap.genMatcherCode false
set_option genSizeOf false
set_option compiler.extract_closed false
abbrev aab:=List Int
abbrev aaa:=List aab
abbrev aac:=List Nat
abbrev aad:=PySem.W.Frag
abbrev dz := @List.getD_eq_getElem?_getD
abbrev gV := @List.getElem?_eq_getElem
abbrev mo := @List.length_map
abbrev ox := @List.mem_cons_self
abbrev Fk := @List.mem_cons_of_mem
abbrev Gc := @List.mem_singleton
abbrev KE := @List.getElem?_eq_some_iff
abbrev L1 := @List.mem_append_right
abbrev L4 := @List.getElem?_map
abbrev L5 := @List.getElem?_set_ne
abbrev L6 := @List.mem_cons
abbrev L7 := @Int.toNat_natCast
abbrev L8 := @List.length_cons
abbrev L9 := @List.length_range
abbrev Ma := @List.mem_append
abbrev Mb := @List.mem_map
abbrev Mc := @List.map_cons
abbrev Md := @Nat.le_refl
abbrev Me := @List.mem_append_left
abbrev Mf := @List.map_append
abbrev Mg := @List.length_append
abbrev Mh := @List.mem_range
abbrev Mi := @List.nodup_cons
abbrev Mj := @Bool.false_ne_true
abbrev Ml := @Nat.lt_of_lt_of_le
abbrev Mm := @List.nodup_append
abbrev Mn := @List.getElem?_append_left
abbrev Mo := @List.not_mem_nil
abbrev Mp := @PySem.F.plainAttrs_list
abbrev Mq := @List.size_toArray
abbrev Mr := @Nat.ne_of_lt
abbrev Ms := @List.getElem?_set_self
abbrev Mt := @List.length_replicate
abbrev Mv := @PySem.F.type_list_append
abbrev Mw := @PySem.F.slot_list_append
abbrev Mx := @Nat.le_trans
abbrev Mz := @List.map_map
abbrev MA := @List.getElem?_append_right
abbrev MB := @Option.some.inj
abbrev MC := @PySem.W.mg_none_of
abbrev MD := @List.sum_cons
abbrev MF := @Ne.symm
abbrev MG := @PyProof.Rows.callWith_type1
abbrev MH := @PySem.mem_of_lookup
abbrev MI := @List.getElem?_range
abbrev MJ := @List.mem_of_getElem?
abbrev MK := @List.getElem_mem
abbrev ML := @List.all_eq_true
abbrev MM := @List.length_set
abbrev MO := @List.drop_eq_getElem_cons
abbrev MP := @List.mem_filter
abbrev MQ := @List.getElem?_replicate
abbrev MR := @List.getElem?_set
abbrev MS := @Int.zero_add
abbrev MT := @Nat.lt_irrefl
abbrev MU := @Array.length_toList
abbrev MV := @List.append_nil
abbrev MW := @List.append_assoc
abbrev MX := @Iff.rfl
abbrev MY := @PySem.W.mg_of
abbrev MZ := @List.length_drop
abbrev M0 := @List.getElem_map
abbrev M3 := @Option.getD_some
abbrev M4 := @List.length_take
abbrev M5 := @Bool.and_eq_true
abbrev M7 := @Classical.byContradiction
abbrev M8 := @List.replicate_succ
abbrev Na := @List.nodup_nil
abbrev Nb := @PySem.W.kia_one
abbrev Nc := @Bool.false_eq_true
abbrev Nd := @Nat.le_succ
abbrev Nf := @List.ext_getElem
abbrev Ni := @List.take_of_length_le
abbrev Nl := @List.take_append_drop
abbrev Nn := @List.getElem_range
abbrev Np := @List.getLast?_cons_cons
abbrev Nq := @List.range_succ
abbrev Nr := @Bool.eq_iff_iff
abbrev Nx := @Nat.zero_le
abbrev Ny := @PySem.F.excBase_ValueError
abbrev NF := @Nat.lt_succ_self
abbrev NG := @List.drop_length
abbrev NK := @List.filter_eq_nil_iff
abbrev NL := @List.all_map
abbrev NM := @Int.mul_zero
abbrev NQ := @Nat.min_eq_left
abbrev NR := @List.length_nil
abbrev NU := @List.length_singleton
abbrev N1 := @List.mem_of_mem_take
abbrev N2 := @List.drop_zero
abbrev N6 := @Nat.lt_or_ge
abbrev N7 := @Nat.le_of_lt
abbrev N8 := @List.map_nil
abbrev N9 := @List.lookup_cons
abbrev Oa := @List.mem_or_eq_of_mem_set
abbrev Ob := @List.map_congr_left
abbrev Oc := @List.getElem_of_mem
abbrev Od := @Int.toNat_of_nonneg
abbrev Of := @List.all_cons
abbrev Ol := @List.find?_cons
abbrev Om := @Nat.add_sub_cancel
abbrev Oo := @List.zip_cons_cons
abbrev Oq := @List.filter_append
abbrev Ov := @Int.le_refl
abbrev Oz := @List.flatten_cons
abbrev OA := @List.Pairwise.map
abbrev OF := @Nat.not_lt
abbrev OG := @List.take_length
abbrev OL := @Bool.not_true
abbrev OO := @PySem.W.hideAll_none
abbrev OX := @PySem.W.hideAll_get
abbrev OY := @List.take_succ_cons
abbrev O0 := @Nat.ne_of_gt
abbrev O2 := @List.map_set
abbrev O8 := @List.mem_filterMap
set_option linter.all false
set_option maxRecDepth 100000
namespace L2
open PySem
abbrev rf:=Int × aab
section
variable {prog:Program}{w:World}
abbrev inner(prog:Program)(w:World):=PySem.intKind prog w
def iq(h:Heap)(k:rf)(a:Addr):Prop :=
 ∃o n t b,h.get? a=some o/\o.cls=.type "tuple"/\o.data=.seq #[.int k.1 t,.ref b] n/\IsTupleKey (inner prog w) h k.2 b
def uP(prog:Program)(w:World)(k:rf):Int:=reduceHash (Builtin.Tuple.tupleHashOf [hashInt k.1,tupleKeyHash (inner prog w) k.2])
theorem iq.ty{s:Shared}{k:rf}{a:Addr}(x:iq (prog:=prog) (w:=w) s.heap k a):s.TypeIs (.ref a) "tuple":=by
 obtain ⟨o,n,t,b,e,c,_⟩:=x
 exact⟨o,e,c⟩
theorem iq.uniq{h:Heap}{a:Addr}{x y:rf}(p:iq (prog:=prog) (w:=w) h x a)(m:iq (prog:=prog) (w:=w) h y a):x=y:=by
 obtain ⟨o,n,t,b,e,c,d,i⟩:=p
 obtain ⟨q,r,t',u,f,s,d',j⟩:=m
 rw[e] at f
 cases f
 rw[d] at d'
 injection d' with g _
 have q2:=congrArg Array.toList g
 injection q2 with q3 q4
 injection q3 with q5 _
 injection q4 with q6 _
 injection q6 with q7
 subst q7
 exact Prod.ext q5 (i.inj j)
theorem iq.stays{h h':Heap}{k:rf}{a d:Addr}{o:Obj}{es ep}(x:iq (prog:=prog) (w:=w) h k a)(g:h.get? d=some o)(hd:o.data=.dict es ep)(f:Heap.SameBut d h h'):iq (prog:=prog) (w:=w) h' k a:=by
 obtain ⟨j,n,t,b,e,c,q,i⟩:=x
 have ne:a≠d:=fun z=>by
  rw[z,g] at e
  cases e
  rw[hd] at q
  exact nomatch q
 exact⟨j,n,t,b,(f.2 a ne).trans e,c,q,i.keeps g hd f⟩
theorem A1{i g:Program}{f c:World}{ks:aab}{vs:List Value}(h:ItemsAre (intKind i f) ks vs):ItemsAre (intKind g c) ks vs:=by
 induction h with
 |nil=>exact .nil
 |cons a _ ih=>exact .cons a ih
theorem zE{i g:Program}{f c:World}{h:Heap}{ks:aab}{a:Addr}(x:IsTupleKey (intKind i f) h ks a):IsTupleKey (intKind g c) h ks a:=by
 obtain ⟨o,it,n,e1,e2,m,j⟩:=x
 exact⟨o,it,n,e1,e2,m,A1 j⟩
variable {A:Around}{E:Value->Shared->Prop}{s:Shared}
theorem Di{k:rf}{a:Addr}{Q:Int->Shared->Prop}(g:A.units+2<cLine)(c:iq (prog:=prog) (w:=w) s.heap k a)(h:Q (uP prog w k) { s with toks:=s.toks+(k.2.length+3) }):wpAny (model prog w) A (pyHash (.ref a)) Q E s:=by
 have ty:=c.ty
 obtain ⟨o,n,t,b,f,_,hd,hi⟩:=c
 unfold pyHash
 first|unfold pyHashByItsType|skip
 first|refine wpAny_bind (wpAny_cRoomFor_or (.inr (by omega)) ?_)|skip
 refine (wpAny_bind (wpAny_specialOf ty F.slot_tuple_hash.lookup ?_))
 show wpAny (model prog w) A (if (some (Value.builtin "tuple.__hash__") == some Value.none)=true then _ else _) Q E s
 rw[if_neg (fun z=>by rw[beq_builtin_none] at z;cases z)]
 refine (wpAny_bind (wpAny_specialOf ty F.slot_tuple_hash.lookup ?_))
 show wpAny (model prog w) A (callSpecialIfBoundUnlessNone? (.ref a) "__hash__" _ >>= _) Q E s
 refine wpAny_bind (wpAny_callSpecialIfBoundUnlessNone?_slot ty F.slot_tuple_hash (wpAny_call_entry F.slot_tuple_hash ty F.entry_tuple_hash ?_ (F.args_tuple_hash_1 _)))
 show wpAny (model prog w) _ (Builtin.Tuple.tupleItemsOf (.ref a) >>= _) _ _ s
 refine wpAny_bind (wpAny_tupleItemsOf f hd (wpAny_bind ?_))
 rw[<- Array.forIn_toList]
 refine wpAny_forIn_list _ (fun rest (z:Array Int) s'=>(rest=[.int k.1 t,.ref b]/\z.toList=[]/\s'=s)\/(rest=[.ref b]/\z.toList=[hashInt k.1]/\s'={ s with toks:=s.toks+1 })\/(rest=[]/\z.toList=[hashInt k.1,tupleKeyHash (inner prog w) k.2]/\s'={ s with toks:=s.toks+1+(k.2.length+1) })) _ ?_ ?_ _ _ (.inl ⟨rfl,rfl,rfl⟩)
 .rintro x rest z s' (⟨e1,e2,rfl⟩|⟨e1,e2,rfl⟩|⟨e1,_⟩)
  .cases e1
   refine wpAny_bind ((inner prog w).pyHash (k:=k.1) (by simp [inner,intKind,Value.isInt]) ?_)
   first
    |exact wpAny_pure (.inr (.inl ⟨rfl,by simp [e2];rfl,rfl⟩))
    |exact wpAny_bind (wpAny_pure (wpAny_pure (.inr (.inl ⟨rfl,by simp [e2];rfl,rfl⟩))))
  .cases e1
   refine wpAny_bind (wpAny_pyHash_tuple (knd:=inner prog w) (ks:=k.2) (by first|omega|(show A.in1.units<cLine;show A.units+1<cLine;omega)) hi ?_)
   first
    |exact wpAny_pure (.inr (.inr ⟨rfl,by simp [e2],rfl⟩))
    |exact wpAny_bind (wpAny_pure (wpAny_pure (.inr (.inr ⟨rfl,by simp [e2],rfl⟩))))
  .cases e1
 .rintro z s' (⟨e1,_⟩|⟨e1,_⟩|⟨_,e2,rfl⟩)
  .cases e1
  .cases e1
  show wpAny (model prog w) _ (retInt (Builtin.Tuple.tupleHashOf z.toList)) _ _ _
  rw[e2]
  refine wpAny_ret_mkInt ?_
  unfold uP reduceHash at h
  generalize Builtin.Tuple.tupleHashOf [hashInt k.1,tupleKeyHash (inner prog w) k.2]=m at h ⊢
  rw[show s.toks+(k.2.length+3)=s.toks+1+(k.2.length+1)+1 by omega] at h
  show wpAny (model prog w) A (if (decide (-(2:Int) ^ 63<=m) && decide (m<2 ^ 63))=true then _ else _) Q E _
  by_cases hr:(decide (-(2:Int) ^ 63<=m) && decide (m<2 ^ 63))=true
  .rw[if_pos hr] at h ⊢
   exact wpAny_pure h
  .rw[if_neg hr] at h ⊢
   exact wpAny_bind (wpAny_rule (wpAny_pure h))
theorem HN{x y:rf}{a b:Addr}(O:A.units+2<cLine)(n:iq (prog:=prog) (w:=w) s.heap x a)(m:iq (prog:=prog) (w:=w) s.heap y b):SeqAt.EqAt A s (.ref a) (.ref b) (decide (x=y)):=by
 by_cases p:a=b
 .subst p
  rw[n.uniq m,decide_eq_true rfl]
  exact SeqAt.EqAt.same _
 .obtain ⟨v,n1,h,f,G,c1,I,B⟩:=n
  obtain ⟨u,n2,g,c,F,J,H,z⟩:=m
  have t:s.heap.IsTuple a #[.int x.1 h,.ref f]:=⟨v,G,c1,n1,I⟩
  have r:s.heap.IsTuple b #[.int y.1 g,.ref c]:=⟨u,F,J,n2,H⟩
  have inn:SeqAt.EqAt A.in1 s (.ref f) (.ref c) (decide (x.2=y.2)):=fun o i M L q=>by
   have:=wpAny_eqBool_tuple (prog:=o) (w:=i) (knd:=intKind o i) (A:=A.in1) (E:=M) (s:=s) (x:=x.2) (y:=y.2) (a:=f) (b:=c) (Q:=L) (by show A.units+1<cLine;omega) (zE B) (zE z) q
   exact this
  have key:=SeqAt.RcAt.tuples (A:=A) (e:=fun j=>if j=0 then decide (x.1=y.1) else decide (x.2=y.2)) t r (by omega) (fun j C P=>by
   have hj:j=0\/j=1:=by simp at C;omega
   rcases hj with rfl|rfl
   .have:=SeqAt.EqAt.int_int (A:=A.in1) (s:=s) x.1 h y.1 g
    rw[show (x.1 == y.1)=decide (x.1=y.1) from rfl] at this
    exact this
   .exact inn)
  refine SeqAt.EqAt.of_refs p ?_
  have e:decide (x=y)=((List.range (min (#[Value.int x.1 h,Value.ref f]:Array Value).size (#[Value.int y.1 g,Value.ref c]:Array Value).size)).all (fun j=>if j=0 then decide (x.1=y.1) else decide (x.2=y.2)) && (#[Value.int x.1 h,Value.ref f]:Array Value).size == (#[Value.int y.1 g,Value.ref c]:Array Value).size):=by
   rw[show (List.range (min (#[Value.int x.1 h,Value.ref f]:Array Value).size (#[Value.int y.1 g,Value.ref c]:Array Value).size))=[0,1] from rfl]
   rw[Nr]
   simp [Prod.ext_iff]
  rw[e]
  exact key
theorem Bq{ks:aab}{a:Addr}{n:Nat}{Q:Bool->Shared->Prop}(c:IsTupleKey (inner prog w) s.heap ks a)(h:Q true s):wpAny (model prog w) A (eqIsQuiet (n+1) (.ref a)) Q E s:=by
 have ty:=c.typeIs
 obtain ⟨o,it,m,i,_,hd,hi⟩:=c
 unfold eqIsQuiet
 refine (wpAny_bind (wpAny_specialOf ty F.slot_tuple_eq.lookup ?_))
 show wpAny (model prog w) A (isInstance (.ref a) (.type "tuple") >>= _) Q E s
 refine (wpAny_bind (wpAny_isInstance ty isSubtype_tuple_tuple ?_))
 simp only[OL,Nc,if_false]
 refine (wpAny_bind (wpAny_seqItems i hd (wpAny_bind ?_)))
 show wpAny (model prog w) A (forIn it _ _) _ E s
 rw[<- Array.forIn_toList]
 refine wpAny_forIn_list _ (fun rest r s'=>(r.1=none/\s'=s)/\∀v∈rest,carriedByValue v=true) _ ?_ ?_ _ _ ⟨⟨rfl,rfl⟩,hi.byValue⟩
 .rintro v rest r s' ⟨⟨hr,rfl⟩,f⟩
  rw[eqIsQuiet_byValue _ (f v ox)]
  refine wpAny_bind (wpAny_pure ?_)
  simp only[OL,Nc,if_false]
  exact wpAny_pure ⟨⟨rfl,rfl⟩,fun u g=>f u (Fk _ g)⟩
 .rintro ⟨p,j⟩ s' ⟨⟨hr,rfl⟩,_⟩
  simp only at hr
  subst hr
  exact wpAny_pure h
theorem AE{k:rf}{a:Addr}{Q:Bool->Shared->Prop}(g:iq (prog:=prog) (w:=w) s.heap k a)(h:Q true s):wpAny (model prog w) A (eqIsQuiet 8 (.ref a)) Q E s:=by
 have ty:=g.ty
 obtain ⟨o,n,t,b,j,_,hd,hi⟩:=g
 unfold eqIsQuiet
 refine (wpAny_bind (wpAny_specialOf ty F.slot_tuple_eq.lookup ?_))
 show wpAny (model prog w) A (isInstance (.ref a) (.type "tuple") >>= _) Q E s
 refine (wpAny_bind (wpAny_isInstance ty isSubtype_tuple_tuple ?_))
 simp only[OL,Nc,if_false]
 refine (wpAny_bind (wpAny_seqItems j hd (wpAny_bind ?_)))
 show wpAny (model prog w) A (forIn (#[Value.int k.1 t,Value.ref b]:Array Value) _ _) _ E s
 rw[<- Array.forIn_toList]
 refine wpAny_forIn_list _ (fun rest r s'=>(r.1=none/\s'=s)/\∀v∈rest,v=.int k.1 t\/v=.ref b) _ ?_ ?_ _ _ ⟨⟨rfl,rfl⟩,fun v i=>by simpa using i⟩
 .rintro v rest r s' ⟨⟨hr,rfl⟩,f⟩
  rcases f v ox with rfl|rfl
  .rw[eqIsQuiet_byValue _ rfl]
   refine wpAny_bind (wpAny_pure ?_)
   simp only[OL,Nc,if_false]
   exact wpAny_pure ⟨⟨rfl,rfl⟩,fun u c=>f u (Fk _ c)⟩
  .refine wpAny_bind (Bq hi ?_)
   simp only[OL,Nc,if_false]
   exact wpAny_pure ⟨⟨rfl,rfl⟩,fun u c=>f u (Fk _ c)⟩
 .rintro ⟨p,m⟩ s' ⟨⟨hr,rfl⟩,_⟩
  simp only at hr
  subst hr
  exact wpAny_pure h
end
def Ge(prog:Program)(w:World):HeapKind prog w rf where
 is:=iq (prog:=prog) (w:=w)
 hash:=uP prog w
 draws:=fun k=>k.2.length+3
 room:=fun A=>A.units+2<cLine
 inj:=fun f c=>f.uniq c
 keeps:=fun x m hd j=>x.stays m hd j
 pyHash:=fun g i h=>Di g i h
 eqBool:=fun g f c h=>HN g f c _ _ _ _ h
 quiet:=fun i h=>AE i h
end L2
set_option Elab.async false
namespace L2
open PySem PySem.Spec PyProof.Rows
abbrev Key:=Sum Int Str
def tU:Key->Value->Bool
 |.inl k,v=>Value.isInt k v
 |.inr x,v=>Value.isStrOf x v
def LW(w:World):Key->Int
 |.inl k=>hashInt k
 |.inr x=>hashStr w x
theorem cy:∀{k:Key}{v:Value},tU k v=true->(∃i t,k=Sum.inl i/\v=Value.int i t)\/(∃x t,k=Sum.inr x/\v=Value.str x t)
 |.inl i,v,h=>by
  obtain ⟨t,e⟩:=Value.isInt_shape (k:=i) (v:=v) h
  exact .inl ⟨i,t,rfl,e⟩
 |.inr x,v,h=>by
  obtain ⟨t,e⟩:=Value.isStrOf_shape (x:=x) (v:=v) h
  exact .inr ⟨x,t,rfl,e⟩
theorem Ef(i:Int)(t:Tok):tU (.inl i) (.int i t)=true:=by simp [tU,Value.isInt]
theorem DW(x:Str)(t:Tok):tU (.inr x) (.str x t)=true:=by simp [tU,Value.isStrOf]
theorem KA(a b:Int):decide ((Sum.inl a:Key)=Sum.inl b)=(a == b):=by
 by_cases e:a=b
 .subst e;simp
 .have h:¬ (Sum.inl a:Key)=Sum.inl b:=fun q=>e (Sum.inl.inj q)
  rw[decide_eq_false h]
  exact (beq_eq_false_iff_ne.mpr e).symm
theorem J1(a b:Str):decide ((Sum.inr a:Key)=Sum.inr b)=decide (a=b):=by
 by_cases e:a=b
 .subst e;simp
 .have h:¬ (Sum.inr a:Key)=Sum.inr b:=fun q=>e (Sum.inr.inj q)
  rw[decide_eq_false h,decide_eq_false e]
theorem JD(a:Int)(b:Str):decide ((Sum.inl a:Key)=Sum.inr b)=false:=decide_eq_false (fun q=>nomatch q)
theorem Jv(a:Str)(b:Int):decide ((Sum.inr a:Key)=Sum.inl b)=false:=decide_eq_false (fun q=>nomatch q)
def cZ(prog:Program)(w:World):PySem.KeyKind prog w Key where
 is:=tU
 hash:=LW w
 inj:=fun v a b ha hb=>by
  rcases cy ha with ⟨i,t,rfl,rfl⟩|⟨x,t,rfl,rfl⟩
  .rcases cy hb with ⟨j,u,rfl,e⟩|⟨y,u,rfl,e⟩
   .injection e with e1 _;rw[e1]
   .exact nomatch e
  .rcases cy hb with ⟨j,u,rfl,e⟩|⟨y,u,rfl,e⟩
   .exact nomatch e
   .injection e with e1 _;rw[e1]
 byValue:=fun k v h=>by
  rcases cy h with ⟨i,t,rfl,rfl⟩|⟨x,t,rfl,rfl⟩<;>rfl
 pyHash:=fun c h=>by
  rcases cy c with ⟨i,t,rfl,rfl⟩|⟨x,t,rfl,rfl⟩
  .exact wpAny_pyHash_int h
  .exact wpAny_pyHash_str h
 eqBool:=fun f c h=>by
  rcases cy f with ⟨i,t,rfl,rfl⟩|⟨x,t,rfl,rfl⟩
  .rcases cy c with ⟨j,u,rfl,rfl⟩|⟨y,u,rfl,rfl⟩
   .rw[KA] at h;exact wpAny_eqBool_int h
   .rw[JD] at h;exact SeqAt.EqAt.int_str i t y u _ _ _ _ h
  .rcases cy c with ⟨j,u,rfl,rfl⟩|⟨y,u,rfl,rfl⟩
   .rw[Jv] at h;exact SeqAt.EqAt.str_int x t j u _ _ _ _ h
   .rw[J1] at h;exact wpAny_eqBool_str h
 «strs»:=fun k x t v h=>by
  rcases cy h with ⟨i,u,rfl,e⟩|⟨y,u,rfl,e⟩
  .exact nomatch e
  .injection e with e1 _
   subst e1
   cases v<;>rfl
theorem AU(prog:Program)(w:World)(k:Key)(v:Value):(cZ prog w).is k v=tU k v:=rfl
theorem Ao(prog:Program)(w:World)(i:Int)(t:Tok):(cZ prog w).is (.inl i) (.int i t)=true:=Ef i t
theorem zu(prog:Program)(w:World)(x:Str)(t:Tok):(cZ prog w).is (.inr x) (.str x t)=true:=DW x t
end L2
namespace L2
open PySem PySem.Spec PyProof.Rows
inductive V where
 |non|bl (b:Bool)|int (i:Int)|str (x:Str)|byt (b:Array UInt8)|flt (b:UInt64)|ref (a:Addr)|ty (n:String)
 deriving DecidableEq
def RelV:V->Value->Prop
 |.non,u=>u=Value.none
 |.bl b,u=>u=Value.bool b
 |.int i,u=>∃t,u=Value.int i t
 |.str x,u=>∃t,u=Value.str x t
 |.byt b,u=>∃t,u=Value.bytes b t
 |.flt b,u=>∃t,u=Value.float b t
 |.ref a,u=>u=Value.ref a
 |.ty n,u=>u=Value.type n
abbrev Vals:List V->List Value->Prop:=Paired RelV
theorem Vals.length{xs:List V}{us:List Value}(r:Vals xs us):xs.length=us.length:=Paired.length r
theorem Vals.get:∀{xs:List V}{us:List Value}{i:Nat}{x:V},Vals xs us->xs[i]?=some x->∃u,us[i]?=some u/\RelV x u
 |_,_,_,_,.nil,e=>by simp at e
 |_,_,0,_,.cons r _,e=>by simp at e;subst e;exact⟨_,rfl,r⟩
 |_,_,i+1,x,.cons _ t,e=>by
  obtain ⟨u,f,c⟩:=Vals.get (i:=i) (x:=x) t (by simpa using e)
  exact⟨u,by simpa using f,c⟩
theorem Vals.set{x:V}{u:Value}(r:RelV x u):∀{xs:List V}{us:List Value} (i:Nat),Vals xs us->Vals (xs.set i x) (us.set i u)
 |_,_,_,.nil=>.nil
 |_,_,0,.cons _ t=>.cons r t
 |_,_,i+1,.cons q t=>.cons q (Vals.set r i t)
theorem Vals.append:∀{xs ys:List V}{us ws:List Value},Vals xs us->Vals ys ws->Vals (xs++ys) (us++ws)
 |_,_,_,_,.nil,s=>s
 |_,_,_,_,.cons r t,s=>.cons r (Vals.append t s)
theorem Vals.take:∀{xs:List V}{us:List Value} (n:Nat),Vals xs us->Vals (xs.take n) (us.take n)
 |_,_,0,_=>.nil
 |_,_,_+1,.nil=>.nil
 |_,_,n+1,.cons r t=>.cons r (Vals.take n t)
theorem Vals.drop:∀{xs:List V}{us:List Value} (n:Nat),Vals xs us->Vals (xs.drop n) (us.drop n)
 |_,_,0,r=>r
 |_,_,_+1,.nil=>.nil
 |_,_,n+1,.cons _ t=>Vals.drop n t
def nQ:Option V->Option Value->Prop
 |some v,some u=>RelV v u
 |none,none=>True
 |_,_=>False
def KV{c:Type}:List (c × V)->List (c × Value)->Prop:=Paired fun (p:c × V) (q:c × Value)=>p.1=q.1/\RelV p.2 q.2
def kV:Key->V
 |.inl i=>.int i
 |.inr x=>.str x
inductive HO where
  |lst (xs:List V)
  |tup (xs:List V)
  |dK (kvs:List (Key × V))|dT (kvs:List (List Key × V))
  |set (S:Int->Bool) (n:Nat)
  |ins (C dx:Addr) (fs:List (Str × V))
  |own (x:Addr)
  |xd (fs:List (Str × V))
  |met (f x:Addr)
  |rng (lo hi:Int)
  |frz (o:Obj) (u:HO)
  |tbl (ps:Array Value)
  |ext (φ:Heap->Prop)
 |memo (φ:Int->aab->Int->Prop) (ks:List rf)
abbrev Hp:=Addr->Option HO
def upd(H:Hp)(a:Addr)(o:HO):Hp:=fun b=>if b=a then some o else H b
theorem az{H:Hp}{a:Addr}{o:HO}:upd H a o a=some o:=by unfold upd;rw[if_pos rfl]
theorem aG{H:Hp}{a b:Addr}{o:HO}(h:b≠a):upd H a o b=H b:=by unfold upd;rw[if_neg h]
theorem LB{H:Hp}{a b:Addr}{o u:HO}(h:H a=some o)(h':H b=some u)(d:o≠u):a≠b:=by
 intro e;subst e;rw[h] at h';exact d (MB h')
theorem aS{H:Hp}{a b:Addr}{o:HO}(h:H a=some o)(h':H b=none):a≠b:=by
 intro e;subst e;rw[h] at h';cases h'
def LV(k:rf):Bool:=decide (0<=k.1) && decide (k.1<8) && decide (k.2.length<=5) && k.2.all fun e=>decide (0<=e) && decide (e<7)
def JR(H:Hp)(c:Int->aab->Int->Prop)(x:rf × Addr × Value):Prop:=∃b n t,H x.2.1=some (.tup [.int x.1.1,.ref b])/\H b=some (.tup (x.1.2.map V.int))/\x.2.2=.int n t/\c x.1.1 x.1.2 n/\LV x.1=true
section
variable (P:Program)(w:World)
def cD(H:Hp)(h:Heap)(a:Addr):HO->Prop
 |.lst xs=>xs.length<=sizeLine/\∃(i:List Value) (n:Nat),Vals xs i/\h.get? a=some { cls:=.type "list",data:=.seq i.toArray n }
 |.tup xs=>xs.length<=sizeLine/\∃i:List Value,Vals xs i/\IsTup h a i.toArray
 |.dK kvs=>kvs.length<=sizeLine/\(a == sysModules)=false/\∃vs,KV kvs vs/\h.DictOf (cZ P w) a vs
 |.dT kvs=>kvs.length<=sizeLine/\(a == sysModules)=false/\∃xs:List (List Key × Addr × Value),
   Paired (fun (p:List Key × V) (q:List Key × Addr × Value)=>p.1=q.1/\H q.2.1=some (.tup (p.1.map kV))/\RelV p.2 q.2.2) kvs xs /\
   ∃o es ep,h.get? a=some o/\o.ExactDict/\o.data=.dict es ep/\es.toList=xs.map (entryOfKey (tupleKind (cZ P w)))/\(xs.map (·.1)).Nodup
 |.set S n=>h.SetOf (intKind P w) a S n
 |.ins C dx fs=>H dx=some (.own a)/\fs.length<=1000/\dx≠a/\h.get? a=some (PySem.W.instObj C dx) /\
   ∃c,h.Ns1 dx c/\(∀f,nQ (fs.lookup f) (c f))/\PySem.Within c (fs.map (·.1))
 |.own _=>∃o,h.get? a=some o
 |.xd fs=>∃c,h.Ns1 a c/\∀f,nQ (fs.lookup f) (c f)
 |.rng lo hi=>∃t u v,h.get? a=some { cls:=.type "range",data:=.fields #[.int lo t,.int hi u,.int 1 v] }
 |.frz o u=>h.get? a=some o/\cD H h a u
 |.tbl ps=>h.get? a=some { cls:=.none,data:=.fields ps }
 |.met f x=>h.get? a=some (PySem.W.methodObj (.ref f) (.ref x))
 |.memo g ks=>(a == sysModules)=false/\∃xs:List (rf × Addr × Value),(∀x∈xs,JR H g x)/\(∀k∈ks,k∈xs.map (·.1)) /\
   ∃o es ep,h.get? a=some o/\o.ExactDict/\o.data=.dict es ep/\es.toList=xs.map (entryOfKey (Ge P w))/\(xs.map (·.1)).Nodup
 |.ext g=>g h/\(∃o,h.get? a=some o)/\∀m j:Heap,g m->(∀o,m.get? a=some o->j.get? a=some o)->g j
def HOk(H:Hp)(h:Heap):Prop:=∀a o,H a=some o->cD P w H h a o
end
section
variable {P:Program}{w:World}{H H':Hp}{h h':Heap}{a:Addr}{o:HO}
theorem cD.lt(x:cD P w H h a o):a<h.objs.size:=by
 cases o with
 |lst xs=>obtain ⟨_,_,_,_,e⟩:=x;exact Heap.lt_size e
 |tup xs=>obtain ⟨_,_,_,p⟩:=x;exact p.lt
 |dK kvs=>obtain ⟨_,_,_,_,o,_,_,e,_⟩:=x;exact Heap.lt_size e
 |dT kvs=>obtain ⟨_,_,_,_,o,_,_,e,_⟩:=x;exact Heap.lt_size e
 |set S n=>obtain ⟨o,_,_,_,e,_⟩:=x;exact Heap.lt_size e
 |ins C dx fs=>obtain ⟨_,_,_,e,_⟩:=x;exact Heap.lt_size e
 |own y=>obtain ⟨_,e⟩:=x;exact Heap.lt_size e
 |xd fs=>obtain ⟨_,⟨_,_,_,e,_⟩,_⟩:=x;exact Heap.lt_size e
 |rng lo hi=>obtain ⟨_,_,_,e⟩:=x;exact Heap.lt_size e
 |frz ob u=>obtain ⟨e,_⟩:=x;exact Heap.lt_size e
 |tbl ps=>exact Heap.lt_size (show h.get? a=some _ from x)
 |met f y=>exact Heap.lt_size (show h.get? a=some _ from x)
 |ext c=>obtain ⟨_,⟨_,e⟩,_⟩:=x;exact Heap.lt_size e
 |memo c ks=>obtain ⟨_,_,_,_,_,_,_,e,_⟩:=x;exact Heap.lt_size e
theorem Paired.KL{g c:Type}{F G:g->c->Prop}:∀{i:List g}{h:List c},Paired F i h->(∀a b,F a b->G a b)->Paired G i h
 |_,_,.nil,_=>.nil
 |_,_,.cons r t,f=>.cons (f _ _ r) (Paired.KL t f)
theorem cD.pF(x:cD P w H h a o)(k:∀b u,(b=a\/H b=some (.own a))->h.get? b=some u->h'.get? b=some u)
  (E:∀b,H b=some (.own a)->H' b=some (.own a)) (ht:∀b xs,H b=some (.tup xs)->H' b=some (.tup xs)):cD P w H' h' a o:=by
 induction o with
 |lst xs=>obtain ⟨z,j,n,r,e⟩:=x;exact⟨z,j,n,r,k _ _ (.inl rfl) e⟩
 |tup xs=>obtain ⟨z,j,r,ob,e,c⟩:=x;exact⟨z,j,r,ob,k _ _ (.inl rfl) e,c⟩
 |dK kvs=>obtain ⟨z,y,vs,r,ob,es,ep,e,c⟩:=x;exact⟨z,y,vs,r,ob,es,ep,k _ _ (.inl rfl) e,c⟩
 |dT kvs =>
  obtain ⟨z,y,xs,r,ob,es,ep,e,c⟩:=x
  exact⟨z,y,xs,Paired.KL r fun p q z=>⟨z.1,ht _ _ z.2.1,z.2.2⟩,ob,es,ep,k _ _ (.inl rfl) e,c⟩
 |set S n=>obtain ⟨ob,es,ep,t,e,c⟩:=x;exact⟨ob,es,ep,t,k _ _ (.inl rfl) e,c⟩
 |ins C dx fs =>
  obtain ⟨d,z,ne,e,i,⟨g,es,ep,e2,c⟩,r⟩:=x
  exact⟨E _ d,z,ne,k _ _ (.inl rfl) e,i,⟨g,es,ep,k _ _ (.inr d) e2,c⟩,r⟩
 |own y=>obtain ⟨ob,e⟩:=x;exact⟨ob,k _ _ (.inl rfl) e⟩
 |xd fs=>obtain ⟨i,⟨g,es,ep,e,c⟩,r⟩:=x;exact⟨i,⟨g,es,ep,k _ _ (.inl rfl) e,c⟩,r⟩
 |rng lo hi=>obtain ⟨t,u,v,e⟩:=x;exact⟨t,u,v,k _ _ (.inl rfl) e⟩
 |frz ob u ih=>obtain ⟨e,q⟩:=x;exact⟨k _ _ (.inl rfl) e,ih q⟩
 |tbl ps =>
  have e:h.get? a=some { cls:=.none,data:=.fields ps }:=x
  show h'.get? a=some { cls:=.none,data:=.fields ps }
  exact k a _ (.inl rfl) e
 |met f y =>
  have e:h.get? a=some (PySem.W.methodObj (.ref f) (.ref y)):=x
  show h'.get? a=some (PySem.W.methodObj (.ref f) (.ref y))
  exact k a _ (.inl rfl) e
 |memo m ks =>
  obtain ⟨y,xs,B,F,ob,es,ep,e,c⟩:=x
  exact⟨y,xs,fun z s=>let ⟨b,n,t,q1,q2,q3⟩:=B z s;⟨b,n,t,ht _ _ q1,ht _ _ q2,q3⟩,F,ob,es,ep,k _ _ (.inl rfl) e,c⟩
 |ext m=>obtain ⟨p,⟨o,e⟩,st⟩:=x;exact⟨st _ _ p fun o q=>k _ _ (.inl rfl) q,⟨o,k _ _ (.inl rfl) e⟩,st⟩
theorem HOk.lt(x:HOk P w H h)(e:H a=some o):a<h.objs.size:=(x a o e).lt
theorem HOk.fresh(x:HOk P w H h)(e:h.objs.size<=a):H a=none:=by
 cases q:H a with
 |none=>rfl
 |some u=>exact absurd (Ml (x.lt q) e) (MT _)
theorem HOk.kept(x:HOk P w H h)(k:∀b u,h.get? b=some u->h'.get? b=some u):HOk P w H h':=fun a o e =>
 (x a o e).pF (fun b u _ q=>k b u q) (fun _ q=>q) fun _ _ q=>q
theorem HOk.laid(x:HOk P w H h)(k:∀b u,h.get? b=some u->h'.get? b=some u)(f:h.objs.size<=a)(g:cD P w (upd H a o) h' a o):HOk P w (upd H a o) h':=fun b u e=>by
 have hn:=x.fresh f
 by_cases hb:b=a
 .subst hb;rw[az] at e;cases e;exact g
 .rw[aG hb] at e
  exact (x b u e).pF (fun c v _ q=>k c v q) (fun c q=>by rw[aG (aS q hn)];exact q) fun c xs q=>by rw[aG (aS q hn)];exact q
end
def Rd(H:Hp)(a:Addr)(u:HO):Prop:=H a=some u\/∃o,H a=some (.frz o u)
theorem Rd.ok{P:Program}{w:World}{H:Hp}{h:Heap}{a:Addr}{u:HO}(r:Rd H a u)(x:HOk P w H h):cD P w H h a u:=by
 rcases r with r|⟨o,r⟩
 .exact x a u r
 .obtain ⟨_,q⟩:=x a _ r
  exact q
def Mut:Option HO->Prop
 |some (.lst _)=>True
 |some (.dK _)=>True
 |some (.dT _)=>True
 |some (.set _ _)=>True
 |some (.ins _ _ _)=>True
 |some (.ext _)=>True
 |some (.memo _ _)=>True
 |_=>False
section
variable {P:Program}{w:World}{H:Hp}{h h':Heap}{x e:Addr}{o':HO}
theorem HOk.write(ok:HOk P w H h)(mu:Mut (H x))(j:e=x\/H e=some (.own x))(k:∀b u,b≠e->h.get? b=some u->h'.get? b=some u)(p:∃u,h'.get? e=some u)
  (s:cD P w (upd H x o') h' x o'):HOk P w (upd H x o') h':=fun b u q=>by
 have m:∀c y,H c=some (.own y)->c≠x:=fun c y r z=>by subst z;rw[r] at mu;exact mu
 have o:∀c xs,H c=some (.tup xs)->c≠x:=fun c xs r z=>by subst z;rw[r] at mu;exact mu
 by_cases hb:b=x
 .subst hb;rw[az] at q;cases q;exact s
 .rw[aG hb] at q
  by_cases g:b=e
  .have i:H b=some (.own x):=by
    rcases j with z|z
    .exact absurd (g.trans z) hb
    .rw[g];exact z
   rw[q] at i;cases i
   obtain ⟨v,n⟩:=p
   exact⟨v,by rw[g];exact n⟩
  .refine (ok b u q).pF (fun c v f r=>k c v ?_ r) (fun c r=>by rw[aG (m c b r)];exact r) fun c xs r=>by rw[aG (o c xs r)];exact r
   rcases f with rfl|f
   .exact g
   .rintro rfl
    rcases j with z|z
    .exact m c b f z
    .rw[f] at z;cases z;exact hb rfl
end
structure Un(fs ex:List Addr)(H H':Hp)(h h':Heap):Prop where
 keep:∀b o,h.get? b=some o->H b=none->b∉fs->b∉ex->h'.get? b=some o
 slot:∀b o,h.get? b=some o->H b=none->b∈fs->b∉ex->∃sl,h'.get? b=some { o with slots:=sl }
 free:∀b o,h.get? b=some o->H b=none->b∉ex->H' b=none
 there:∀b o,h.get? b=some o->b∉ex->∃o',h'.get? b=some o'
 tups:∀b xs,H b=some (.tup xs)->H' b=some (.tup xs)
 frzs:∀b o u,H b=some (.frz o u)->H' b=some (.frz o u)
 tbls:∀b ps,H b=some (.tbl ps)->∃more,H' b=some (.tbl (ps++more))
section
variable {fs ex:List Addr}{H H1:Hp}{h h1 h':Heap}{a x e:Addr}{o:HO}
theorem Un.any(u:Un fs ex H H1 h h1){b:Addr}{ob:Obj}(q:h.get? b=some ob)(n:H b=none)(c:b∉ex):∃f,h1.get? b=some { ob with slots:=f }:=by
 by_cases hb:b∈fs
 .exact u.slot b ob q n hb c
 .exact⟨ob.slots,u.keep b ob q n hb c⟩
theorem Un.kept(k:∀b u,h.get? b=some u->h'.get? b=some u):Un fs ex H H h h' :=
 ⟨fun b ob q _ _ _=>k b ob q,fun b ob q _ _ _=>⟨ob.slots,k b ob q⟩,fun _ _ _ n _=>n,fun b ob q _=>⟨ob,k b ob q⟩,fun _ _ q=>q,fun _ _ _ q=>q,fun _ ps q=>⟨#[],by rw[q];simp⟩⟩
theorem Un.refl:Un fs ex H H h h:=Un.kept fun _ _ q=>q
theorem Un.laid(k:∀b u,h.get? b=some u->h'.get? b=some u)(c:h.objs.size<=a)(hn:H a=none):Un fs ex H (upd H a o) h h' where
 keep:=fun b u q _ _ _=>k b u q
 slot:=fun b u q _ _ _=>⟨u.slots,k b u q⟩
 free:=fun b u q n _=>by rw[aG (Mr (Ml (Heap.lt_size q) c))];exact n
 there:=fun b u q _=>⟨u,k b u q⟩
 tups:=fun b xs q=>by rw[aG (aS q hn)];exact q
 frzs:=fun b u xs q=>by rw[aG (aS q hn)];exact q
 tbls:=fun b ps q=>⟨#[],by rw[aG (aS q hn),q];simp⟩
theorem Un.write(mu:Mut (H x))(g:e=x\/H e=some (.own x))(k:∀b u,b≠e->h.get? b=some u->h'.get? b=some u)(i:∃u,h'.get? e=some u):Un fs ex H (upd H x o) h h':=by
 have c:∀b,H b=none->b≠x:=fun b n z=>by subst z;rw[n] at mu;exact mu
 have hb:∀b,H b=none->b≠e:=fun b n z=>by
  subst z
  rcases g with r|r
  .exact c b n r
  .rw[n] at r;cases r
 have hm:∀b u,H b=some u->¬ Mut (some u)->b≠x:=fun b u q nm z=>by subst z;rw[q] at mu;exact nm mu
 refine⟨fun b u q n _ _=>k b u (hb b n) q,fun b u q n _ _=>⟨u.slots,k b u (hb b n) q⟩,fun b u q n _=>by rw[aG (c b n)];exact n,fun b u q _=>?_,
  fun b xs q=>by rw[aG (hm b _ q fun z=>z)];exact q,fun b u xs q=>by rw[aG (hm b _ q fun z=>z)];exact q,fun b ps q=>⟨#[],by rw[aG (hm b _ q fun z=>z),q];simp⟩⟩
 by_cases f:b=e
 .subst f;exact i
 .exact⟨u,k b u f q⟩
end
def trk(h:Heap)(H:Hp):List Addr:=(List.range h.objs.size).filter fun a=>(H a).isSome
def xV(h:Heap)(H:Hp):Heap:=PySem.W.hideAll h (trk h H)
theorem DP(h:Heap)(H:Hp):(xV h H).objs.size=h.objs.size:=PySem.W.hideAll_size _ _
theorem vd{h:Heap}{H:Hp}{b:Addr}{o:Obj}(e:h.get? b=some o)(n:H b=none):(xV h H).get? b=some o :=
 OX _ e fun hm=>by
  have q:(H b).isSome=true:=(MP.mp hm).2
  rw[n] at q;simp at q
theorem Hk{h:Heap}{H:Hp}{b:Addr}{o:Obj}(e:(xV h H).get? b=some o):h.get? b=some o/\H b=none:=by
 have c:h.get? b=some o:=PySem.W.of_hideAll (trk h H) e
 refine⟨c,?_⟩
 cases q:H b with
 |none=>rfl
 |some x =>
  have hm:b∈trk h H:=MP.mpr ⟨Mh.mpr (Heap.lt_size c),by simp [q]⟩
  have z:(xV h H).get? b=none:=OO (trk h H) hm
  rw[z] at e;cases e
end L2
namespace L2
open PySem PySem.Spec PyProof.Rows
structure Mod(K:aad)(mg:Str->Option Value)(base:Heap):Prop where
 kin:K.In base
 glob:base.Ns mainGlobals mg
 blt:∃mb,base.Ns builtinsNs mb/\∀x:Str,x≠"__name__"->mb x=bootBuiltins x
 nolimit:base.NoLimit
structure Cx where
 prog:Program
 w:World
 K:aad
 mg:Str->Option Value
 base:Heap
 A:Around
 N:List Str
 s₀:Shared
 H₀:Hp
 env:Env
 outer:List Env
 stack:List Env
 ex:List Addr
 fn:Str->Bool
 calm:Bool
 pn:List (Addr × Obj)
 xe:Value->Shared->Prop
def frs(l:List Env):List Addr:=l.filterMap (·.frame)
abbrev Cx.fs(X:Cx):List Addr:=frs X.outer
def Vis(c:Scope)(x:Str):Prop:=c.names.lookup x=some .local\/c.names.lookup x=some .cell\/c.names.lookup x=some .free
def Loc(c:Scope)(x:Str):Prop:=c.names.lookup x=some .local\/c.names.lookup x=some .cell
def Look(env:Env)(h:Heap)(m:Str->Option Value)(x:Str)(u:Value):Prop :=
 (env.kindOf x=some .local/\m x=some u)\/((env.kindOf x=some .cell\/env.kindOf x=some .free)/\∃c,env.cells.lookup x=some c/\h.IsCell c (some u))
structure Cx.Ok(X:Cx):Prop where
 mod:Mod X.K X.mg X.base
 kind:X.env.scope.kind=.function
 glob:X.env.globals=mainGlobals
 blt:X.env.builtins=builtinsNs
 above:X.s₀.heap.objs.size<=X.env.locals
 inj:∀x y c,X.env.cells.lookup x=some c->X.env.cells.lookup y=some c->x=y
 has:∀x,(X.env.kindOf x=some .cell\/X.env.kindOf x=some .free)->∃c,X.env.cells.lookup x=some c
 cab:∀x c,X.fn x=true->X.env.cells.lookup x=some c->X.s₀.heap.objs.size<=c
 hd:X.calm=true->X.A.handled=none
 frames:X.A.frames=some X.stack
 stk:X.stack=X.outer\/(X.stack=X.env::X.outer/\X.env.frame=some X.env.locals)
 exf:∀b∈X.ex,b≠X.env.locals/\∀x c,X.env.cells.lookup x=some c->c≠b
 bs:∀b o,X.base.get? b=some o->X.s₀.heap.get? b=some o/\X.H₀ b=none
 bsz:X.base.objs.size<=X.s₀.heap.objs.size
 noex:∀b o,X.base.get? b=some o->b∉X.ex
 exfs:∀b∈X.ex,b∉X.fs
 qJ:X.s₀.heap.FunFrames X.base X.outer
 frf:∀b∈X.fs,X.H₀ b=none
structure Inv(X:Cx)(pins:List (Addr × Obj))(σ:List (Option V))(H:Hp)(s:Shared):Prop where
 ok:X.Ok
 os:s.os=X.s₀.os
 bare:AllBare s.gens
 base:Un X.fs X.ex X.H₀ H X.s₀.heap s.heap
 loc:∃m,s.heap.Ns X.env.locals m/\∀(i:Nat) (x:Str) (v:V),X.N[i]?=some x->σ[i]?=some (some v)->Vis X.env.scope x->∃u,RelV v u/\Look X.env s.heap m x u
 cell:∀x c,X.env.cells.lookup x=some c->∃v,s.heap.IsCell c v
 free:H X.env.locals=none
 freeC:∀x c,X.env.cells.lookup x=some c->H c=none
 pin:∀p∈X.pn++pins,s.heap.get? p.1=some p.2/\H p.1=none/\p.1≠X.env.locals/\p.1∉X.fs/\∀v,p.2.data≠.cell v
 hok:HOk X.prog X.w H s.heap
 len:σ.length=X.N.length
section
variable {X:Cx}{pins:List (Addr × Obj)}{σ:List (Option V)}{H H':Hp}{s:Shared}{h':Heap}
theorem Cx.Ok.LQ(ok:X.Ok){b:Addr}{o:Obj}(e:X.base.get? b=some o):b∉X.fs:=fun hb=>by
 have:=(ok.qJ.mem hb).1
 rw[e] at this;cases this
theorem Inv.bs(I:Inv X pins σ H s):∀b o,X.base.get? b=some o->s.heap.get? b=some o/\H b=none:=fun b o e =>
 ⟨I.base.keep b o (I.ok.bs b o e).1 (I.ok.bs b o e).2 (I.ok.LQ e) (I.ok.noex b o e),I.base.free b o (I.ok.bs b o e).1 (I.ok.bs b o e).2 (I.ok.noex b o e)⟩
theorem Inv.bk(I:Inv X pins σ H s):∀b o,X.base.get? b=some o->s.heap.get? b=some o:=fun b o e=>(I.bs b o e).1
theorem Inv.mod(I:Inv X pins σ H s):Mod X.K X.mg X.base:=I.ok.mod
theorem Inv.kIn(I:Inv X pins σ H s):X.K.In s.heap:=I.ok.mod.kin.keeps I.bk
theorem Inv.lt(I:Inv X pins σ H s):X.env.locals<s.heap.objs.size:=let ⟨_,hn,_⟩:=I.loc;hn.lt
theorem Inv.sz(I:Inv X pins σ H s):X.s₀.heap.objs.size<=s.heap.objs.size:=Mx I.ok.above (N7 I.lt)
theorem Inv.Lv(I:Inv X pins σ H s){a:Addr}(h:s.heap.objs.size<=a):a∉X.fs:=fun hb=>by
 obtain ⟨_,o,c,_⟩:=I.ok.qJ.mem hb
 exact absurd (Ml (Heap.lt_size c) (Mx I.sz h)) (MT _)
theorem Inv.cne(I:Inv X pins σ H s):∀x c,X.env.cells.lookup x=some c->c≠X.env.locals:=fun x c e z=>by
 obtain ⟨v,o,f,hd⟩:=I.cell x c e
 obtain ⟨m,⟨i,es,ep,h,g,_⟩,_⟩:=I.loc
 rw[z,h] at f;cases f;rw[g] at hd;cases hd
theorem Inv.qJ(I:Inv X pins σ H s):s.heap.FunFrames X.base X.outer:=by
 have all:∀(l:List Env),(∀b∈frs l,b∈X.fs)->X.s₀.heap.FunFrames X.base l->s.heap.FunFrames X.base l:=by
  intro l
  induction l with
  |nil=>intro _ _;trivial
  |cons env r ih =>
   intro g hl
   obtain ⟨i,⟨L,o,c,hn,h,hd⟩,hr⟩:=hl
   have f:L∈X.fs:=g L (by unfold frs;rw[List.filterMap_cons,c];exact ox)
   obtain ⟨j,e⟩:=I.base.slot L o h (I.ok.frf L f) f fun z=>I.ok.exfs L z f
   exact⟨i,⟨L,_,c,hn,e,hd⟩,ih (fun b hb=>g b (by unfold frs;rw[List.filterMap_cons,c];exact Fk _ hb)) hr⟩
 exact all X.outer (fun _ hb=>hb) I.ok.qJ
theorem Inv.stack(I:Inv X pins σ H s):s.heap.FunFrames X.base X.stack:=by
 rcases I.ok.stk with e|⟨e,c⟩
 .rw[e];exact I.qJ
 .rw[e]
  obtain ⟨m,hn,_⟩:=I.loc
  refine .cons (by rw[I.ok.kind];decide) c hn ?_ I.qJ
  exact Heap.get?_none_of_le (Mx I.ok.bsz I.ok.above)
theorem Inv.uC(I:Inv X pins σ H s):∀b∈frs X.stack,b∈X.env.locals::X.fs:=fun b hb=>by
 rcases I.ok.stk with e|⟨e,c⟩
 .rw[e] at hb;exact Fk _ hb
 .rw[e] at hb
  unfold frs at hb
  rw[List.filterMap_cons,c] at hb
  exact hb
theorem Inv.xM(I:Inv X pins σ H s):∀b∈frs X.stack,H b=none:=fun b hb=>by
 rcases L6.mp (I.uC b hb) with e|hb
 .rw[e];exact I.free
 .obtain ⟨_,o,c,_⟩:=I.ok.qJ.mem hb
  exact I.base.free b o c (I.ok.frf b hb) fun z=>I.ok.exfs b z hb
theorem Inv.step{g':Array GenState}{t':Nat}{d':Drawn}{ch:List Addr}(I:Inv X pins σ H s)
  (hch:∀b∈ch,(b∈X.ex\/X.s₀.heap.objs.size<=b)/\b≠X.env.locals/\(∀x c,X.env.cells.lookup x=some c->c≠b)/\∀p∈X.pn++pins,p.1≠b)
  (keep:∀b o,b≠X.env.locals->b∉X.fs->b∉ch->s.heap.get? b=some o->H b=none->h'.get? b=some o)
  (slot:∀b o,b≠X.env.locals->b∈X.fs->b∉ch->s.heap.get? b=some o->H b=none->∃B,h'.get? b=some { o with slots:=B }) (free:∀b o,b∉ch->s.heap.get? b=some o->H b=none->H' b=none)
  (there:∀b o,b∉ch->s.heap.get? b=some o->∃h,h'.get? b=some h)
  (tups:∀b xs,H b=some (.tup xs)->H' b=some (.tup xs)) (frzs:∀b o u,H b=some (.frz o u)->H' b=some (.frz o u)) (tbls:∀b ps,H b=some (.tbl ps)->∃j,H' b=some (.tbl (ps++j)))
  (ns:∀m,s.heap.Ns X.env.locals m->h'.Ns X.env.locals m) (hok:HOk X.prog X.w H' h') (M:AllBare g') :
  Inv X pins σ H' { s with heap:=h',gens:=g',drawn:=d',toks:=t' }:=by
 have F:∀b o,X.s₀.heap.get? b=some o->b≠X.env.locals:=fun b o e=>Mr (Ml (Heap.lt_size e) I.ok.above)
 have y:∀b o,X.s₀.heap.get? b=some o->b∉X.ex->b∉ch:=fun b o e f hb=>by
  rcases (hch b hb).1 with z|z
  .exact f z
  .exact absurd (Ml (Heap.lt_size e) z) (MT _)
 have G:∀x c,X.env.cells.lookup x=some c->∀v,s.heap.IsCell c v->h'.IsCell c v:=fun x c e v ⟨o,g,hd⟩=>by
  have t:c∉ch:=fun z=>(hch c z).2.2.1 x c e rfl
  by_cases E:c∈X.fs
  .obtain ⟨B,q⟩:=slot c o (I.cne x c e) E t g (I.freeC x c e)
   exact⟨_,q,hd⟩
  .exact⟨o,keep c o (I.cne x c e) E t g (I.freeC x c e),hd⟩
 refine⟨I.ok,I.os,M,⟨fun b o e n hb f=>?_,fun b o e n hb f=>?_,fun b o e n f=>?_,fun b o e f=>?_,fun b xs e=>tups b xs (I.base.tups b xs e),fun b o xs e=>frzs b o xs (I.base.frzs b o xs e),fun b ps e=>?_⟩,?_,fun x c e=>?_,?_,fun x c e=>?_,fun p C=>?_,hok,I.len⟩
 .exact keep b o (F b o e) hb (y b o e f) (I.base.keep b o e n hb f) (I.base.free b o e n f)
 .obtain ⟨B,e1⟩:=I.base.slot b o e n hb f
  obtain ⟨P,e2⟩:=slot b _ (F b o e) hb (y b o e f) e1 (I.base.free b o e n f)
  exact⟨P,e2⟩
 .obtain ⟨h,e1⟩:=I.base.there b o e f
  exact free b h (y b o e f) e1 (I.base.free b o e n f)
 .obtain ⟨h,e1⟩:=I.base.there b o e f
  exact there b h (y b o e f) e1
 .obtain ⟨L,e1⟩:=I.base.tbls b ps e
  obtain ⟨J,e2⟩:=tbls b _ e1
  exact⟨L++J,by rw[e2,Array.append_assoc]⟩
 .obtain ⟨m,hn,hl⟩:=I.loc
  refine⟨m,ns m hn,fun i x v e1 e2 O=>?_⟩
  obtain ⟨u,r,l⟩:=hl i x v e1 e2 O
  refine⟨u,r,?_⟩
  rcases l with l|⟨k,c,e,z⟩
  .exact .inl l
  .exact .inr ⟨k,c,e,G x c e _ z⟩
 .obtain ⟨v,z⟩:=I.cell x c e
  exact⟨v,G x c e v z⟩
 .obtain ⟨m,⟨o,_,_,g,_⟩,_⟩:=I.loc
  exact free _ o (fun z=>(hch _ z).2.1 rfl) g I.free
 .obtain ⟨v,o,g,hd⟩:=I.cell x c e
  exact free c o (fun z=>(hch c z).2.2.1 x c e rfl) g (I.freeC x c e)
 .obtain ⟨e,n,ne,nf,d⟩:=I.pin p C
  have t:p.1∉ch:=fun z=>(hch p.1 z).2.2.2 p C rfl
  exact⟨keep p.1 p.2 ne nf t e n,free p.1 p.2 t e n,ne,nf,d⟩
theorem Inv.un{t':Nat}(I:Inv X pins σ H s)(u:Un X.fs [] H H' s.heap h')(hok:HOk X.prog X.w H' h'):Inv X pins σ H' { s with heap:=h',toks:=t' }:=by
 obtain ⟨m,⟨o,es,ep,c,r⟩,_⟩:=id I.loc
 obtain ⟨j,h⟩:=u.any c I.free (by simp)
 exact I.step (g':=s.gens) (d':=s.drawn) (ch:=[]) (fun _ z=>nomatch z) (fun b o _ hb _ e n=>u.keep b o e n hb (by simp)) (fun b o _ hb _ e n=>u.slot b o e n hb (by simp)) (fun b o _ e n=>u.free b o e n (by simp)) (fun b o _ e=>u.there b o e (by simp)) u.tups u.frzs u.tbls (fun q hm=>by
  obtain ⟨p,es',i,f,g⟩:=hm
  rw[c] at f;cases f
  exact⟨_,es',i,h,g⟩) hok I.bare
theorem Inv.call{g':Array GenState}{t':Nat}{d':Drawn}{ch:List Addr}(I:Inv X pins σ H s)(u:Un (frs X.stack) ch H H' s.heap h')(hok:HOk X.prog X.w H' h')(q:AllBare g')
  (hch:∀b∈ch,(b∈X.ex\/X.s₀.heap.objs.size<=b)/\b≠X.env.locals/\(∀x c,X.env.cells.lookup x=some c->c≠b)/\∀p∈X.pn++pins,p.1≠b) :
  Inv X pins σ H' { s with heap:=h',gens:=g',drawn:=d',toks:=t' }:=by
 obtain ⟨m,⟨o,es,ep,h,r⟩,_⟩:=id I.loc
 obtain ⟨v,g⟩:=u.any h I.free fun z=>(hch _ z).2.1 rfl
 exact I.step (ch:=ch) hch (fun b o g hb f e n=>u.keep b o e n (fun z=>(L6.mp (I.uC b z)).elim g hb) f) (fun b o _ _ f e n=>u.any e n f) (fun b o f e n=>u.free b o e n f) (fun b o f e=>u.there b o e f) u.tups u.frzs u.tbls (fun B hm=>by
  obtain ⟨y,es',t,i,j⟩:=hm
  rw[h] at i;cases i
  exact⟨_,es',t,g,j⟩) hok q
theorem Inv.turned{t':Nat}{it:Addr}(I:Inv X pins σ H s)(k:∀b o,b≠it->s.heap.get? b=some o->h'.get? b=some o)(hn:H it=none)(g:it≠X.env.locals)
  (y:it∈X.ex\/X.s₀.heap.objs.size<=it) (t:∀x c,X.env.cells.lookup x=some c->c≠it) (j:∀p∈X.pn++pins,p.1≠it):Inv X pins σ H { s with heap:=h',toks:=t' }:=by
 have h:∀b u,H b=some u->b≠it:=fun b u e z=>by rw[z,hn] at e;cases e
 refine I.step (g':=s.gens) (d':=s.drawn) (ch:=[it]) (fun b hb=>?_) (fun b o _ _ f e _=>k b o (fun z=>f (by simp [z])) e) (fun b o _ _ f e _=>⟨o.slots,k b o (fun z=>f (by simp [z])) e⟩) (fun _ _ _ _ n=>n)
  (fun b o f e=>⟨o,k b o (fun z=>f (by simp [z])) e⟩) (fun _ _ e=>e) (fun _ _ _ e=>e) (fun b ps e=>⟨#[],by rw[e];simp⟩) (fun m hm=>?_) (fun b u e=>?_) I.bare
 .have e:b=it:=by simpa using hb
  subst e
  exact⟨y,g,t,j⟩
 .obtain ⟨o,es,ep,i,r⟩:=hm
  exact⟨o,es,ep,k _ o (MF g) i,r⟩
 .refine (I.hok b u e).pF (fun c v f q=>k c v ?_ q) (fun _ q=>q) fun _ _ q=>q
  rcases f with z|z
  .rw[z];exact h b u e
  .exact h c _ z
theorem Inv.tok(I:Inv X pins σ H s)(t:Nat):Inv X pins σ H { s with toks:=t }:=I.un (h':=s.heap) (t':=t) Un.refl I.hok
theorem Inv.kept{t':Nat}(I:Inv X pins σ H s)(k:∀b u,s.heap.get? b=some u->h'.get? b=some u):Inv X pins σ H { s with heap:=h',toks:=t' }:=I.un (Un.kept k) (I.hok.kept k)
theorem Inv.laid{a:Addr}{o:HO}{t':Nat}(I:Inv X pins σ H s)(k:∀b u,s.heap.get? b=some u->h'.get? b=some u)(c:s.heap.objs.size<=a)(f:cD X.prog X.w (upd H a o) h' a o) :
  Inv X pins σ (upd H a o) { s with heap:=h',toks:=t' }:=I.un (Un.laid k c (I.hok.fresh c)) (I.hok.laid k c f)
theorem Inv.write{x e:Addr}{o:HO}{t':Nat}(I:Inv X pins σ H s)(mu:Mut (H x))(c:e=x\/H e=some (.own x))(k:∀b u,b≠e->s.heap.get? b=some u->h'.get? b=some u)(f:∃u,h'.get? e=some u)
  (g:cD X.prog X.w (upd H x o) h' x o):Inv X pins σ (upd H x o) { s with heap:=h',toks:=t' }:=I.un (Un.write mu c k f) (I.hok.write mu c k f g)
theorem Inv.weak{σ':List (Option V)}(I:Inv X pins σ H s)(hl:σ'.length=σ.length)(w:∀(i:Nat) v,σ'[i]?=some (some v)->σ[i]?=some (some v)):Inv X pins σ' H s :=
 ⟨I.ok,I.os,I.bare,I.base,let ⟨m,hn,Ts⟩:=I.loc;⟨m,hn,fun i x v e1 e2 c=>Ts i x v e1 (w i v e2) c⟩,I.cell,I.free,I.freeC,I.pin,I.hok,hl.trans I.len⟩
theorem Inv.sX{c:List (Addr × Obj)}(I:Inv X pins σ H s)(h:∀p∈c,s.heap.get? p.1=some p.2/\H p.1=none/\p.1≠X.env.locals/\p.1∉X.fs/\∀v,p.2.data≠.cell v):Inv X c σ H s :=
 ⟨I.ok,I.os,I.bare,I.base,I.loc,I.cell,I.free,I.freeC,fun p f=>(Ma.mp f).elim (fun z=>I.pin p (Me _ z)) (h p),I.hok,I.len⟩
theorem Ad{N:List Str}(c:N.Nodup){i j:Nat}{x:Str}(a:N[i]?=some x)(b:N[j]?=some x):i=j:=by
 obtain ⟨g,e1⟩:=KE.mp a
 obtain ⟨f,e2⟩:=KE.mp b
 exact (List.getElem_inj c).mp (e1.trans e2.symm)
theorem wo{M:Model}{A:Around}{E:Value->Shared->Prop}{i:Nat}{x:Str}{v:V}{u:Value}{Q:Unit->Shared->Prop}(I:Inv X pins σ H s)(Y:X.N.Nodup)(hi:X.N[i]?=some x)(t:Loc X.env.scope x)(r:RelV v u)
  (h:∀s',Inv X pins (σ.set i (some v)) H s'->(∃a,Heap.SameBut a s.heap s'.heap/\(a=X.env.locals\/X.env.cells.lookup x=some a))->Q () s') (hf:X.fn x=true\/X.env.scope.names.lookup x=some .local:=by first|exact .inl rfl|exact .inr rfl|assumption):wpAny M A (storeName X.env x u) Q E s:=by
 obtain ⟨m,hn,hl⟩:=id I.loc
 have WE:(X.env.scope.kind == .class || (X.env.scope.kind == .module && X.env.locals != X.env.globals))=false:=by rw[I.ok.kind];rfl
 have Up:i<σ.length:=by rw[I.len];exact (KE.mp hi).1
 have cne:=I.cne
 have Ra:∀{a:Addr}{h':Heap},(∃o,s.heap.get? a=some o/\H a=none)->Heap.SameBut a s.heap h'->HOk X.prog X.w H h':=fun {a h'} ha f b ob e=>by
  obtain ⟨_,_,Sx⟩:=ha
  refine (I.hok b ob e).pF (fun c C g q=>(f.2 c ?_).trans q) (fun _ q=>q) fun _ _ q=>q
  rintro rfl
  rcases g with rfl|g
  .rw[Sx] at e;cases e
  .rw[Sx] at g;cases g
 rcases t with B|B
 .refine wpAny_storeName_local B hn (fun h' Wd f=>?_) WE
  obtain ⟨oL,_,_,Sv,_⟩:=id hn
  refine h _ ⟨I.ok,I.os,I.bare,⟨fun b o e n hb t=>?_,fun b o e n hb t=>?_,I.base.free,fun b o e t=>?_,I.base.tups,I.base.frzs,I.base.tbls⟩,⟨_,Wd,fun j y G e1 e2 S=>?_⟩,fun y c e=>?_,I.free,I.freeC,fun p R=>?_,Ra ⟨oL,Sv,I.free⟩ f,by simpa using I.len⟩ ⟨_,f,.inl rfl⟩
  .exact (f.2 b (Mr (Ml (Heap.lt_size e) I.ok.above))).trans (I.base.keep b o e n hb t)
  .obtain ⟨L,e1⟩:=I.base.slot b o e n hb t
   exact⟨L,(f.2 b (Mr (Ml (Heap.lt_size e) I.ok.above))).trans e1⟩
  .obtain ⟨P,e1⟩:=I.base.there b o e t
   exact⟨P,(f.2 b (Mr (Ml (Heap.lt_size e) I.ok.above))).trans e1⟩
  .by_cases hj:j=i
   .subst hj
    rw[hi] at e1;cases e1
    rw[Ms Up] at e2
    cases e2
    exact⟨u,r,.inl ⟨B,by simp⟩⟩
   .rw[L5 (MF hj)] at e2
    obtain ⟨J,O,q⟩:=hl j y G e1 e2 S
    refine⟨J,O,?_⟩
    rcases q with ⟨k,e⟩|⟨k,c,e,z⟩
    .refine .inl ⟨k,?_⟩
     have:y≠x:=fun e=>hj (Ad Y e1 (e▸hi))
     simp [this,e]
    .exact .inr ⟨k,c,e,z.sameBut f (cne y c e)⟩
  .obtain ⟨C,z⟩:=I.cell y c e
   exact⟨C,z.sameBut f (cne y c e)⟩
  .obtain ⟨e,n,ne,nf,d⟩:=I.pin p R
   exact⟨(f.2 p.1 ne).trans e,n,ne,nf,d⟩
 .have T:X.fn x=true:=by
   rcases hf with z|z
   .exact z
   .rw[z] at B;cases B
  obtain ⟨c,g⟩:=I.ok.has x (.inl B)
  obtain ⟨C,z⟩:=I.cell x c g
  refine wpAny_storeName_cell I.ok.kind B g z (fun h' Rw f=>?_)
  obtain ⟨U,Z,V9⟩:=id z
  refine h { s with heap:=h' } ⟨I.ok,I.os,I.bare,⟨fun b o e n hb t=>?_,fun b o e n hb t=>?_,I.base.free,fun b o e t=>?_,I.base.tups,I.base.frzs,I.base.tbls⟩,⟨m,hn.sameBut f (MF (cne x c g)),fun j y G e1 e2 S=>?_⟩,fun y F e=>?_,I.free,I.freeC,fun p R=>?_,Ra ⟨U,Z,I.freeC x c g⟩ f,by simpa using I.len⟩ ⟨c,f,.inr g⟩
  .exact (f.2 b (Mr (Ml (Heap.lt_size e) (I.ok.cab x c T g)))).trans (I.base.keep b o e n hb t)
  .obtain ⟨L,e1⟩:=I.base.slot b o e n hb t
   exact⟨L,(f.2 b (Mr (Ml (Heap.lt_size e) (I.ok.cab x c T g)))).trans e1⟩
  .obtain ⟨P,e1⟩:=I.base.there b o e t
   exact⟨P,(f.2 b (Mr (Ml (Heap.lt_size e) (I.ok.cab x c T g)))).trans e1⟩
  .by_cases hj:j=i
   .subst hj
    rw[hi] at e1;cases e1
    rw[Ms Up] at e2
    cases e2
    exact⟨u,r,.inr ⟨.inl B,c,g,Rw⟩⟩
   .rw[L5 (MF hj)] at e2
    obtain ⟨J,O,q⟩:=hl j y G e1 e2 S
    refine⟨J,O,?_⟩
    rcases q with q|⟨k,F,e,z'⟩
    .exact .inl q
    .refine .inr ⟨k,F,e,z'.sameBut f ?_⟩
     rintro rfl
     exact hj (Ad Y e1 (I.ok.inj _ _ _ e g▸hi))
  .by_cases WH:F=c
   .subst WH;exact⟨_,Rw⟩
   .obtain ⟨w2,z2⟩:=I.cell y F e
    exact⟨w2,z2.sameBut f WH⟩
  .obtain ⟨e,n,ne,nf,d⟩:=I.pin p R
   refine⟨(f.2 p.1 ?_).trans e,n,ne,nf,d⟩
   intro q
   rw[q,Z] at e
   have q':U=p.2:=MB e
   exact d C (by rw[<- q'];exact V9)
theorem zS{M:Model}{A:Around}{E:Value->Shared->Prop}{i:Nat}{x:Str}{v:V}{u:Value}{Q:Unit->Shared->Prop}(I:Inv X pins σ H s)(g:X.N.Nodup)(hi:X.N[i]?=some x)(c:Loc X.env.scope x)(r:RelV v u)
  (h:∀s',Inv X pins (σ.set i (some v)) H s'->Q () s') (f:X.fn x=true\/X.env.scope.names.lookup x=some .local:=by first|exact .inl rfl|exact .inr rfl|assumption):wpAny M A (storeName X.env x u) Q E s :=
 wo I g hi c r (fun s' j _=>h s' j) f
theorem Inv.Jg{s':Shared}{ch:List Addr}(I:Inv X pins σ H s)(g:s'.os=s.os)(u:Un (frs X.stack) ch H H' s.heap s'.heap)(hok:HOk X.prog X.w H' s'.heap)(h:AllBare s'.gens)
  (hch:∀b∈ch,(b∈X.ex\/X.s₀.heap.objs.size<=b)/\b≠X.env.locals/\(∀x c,X.env.cells.lookup x=some c->c≠b)/\∀p∈X.pn++pins,p.1≠b):Inv X pins σ H' s':=by
 obtain ⟨h',g',d',t',f⟩:=s'
 have e:f=s.os:=g
 subst e
 exact I.call (g':=g') (t':=t') (d':=d') u hok h hch
end
abbrev XK:=Value->Option Addr->Hp->Prop
abbrev St:=List (Option V)
abbrev VK:=V->Hp->Prop
abbrev TE:=St->Hp->VK->Prop
abbrev TT:=St->Hp->(Bool->Hp->Prop)->Prop
abbrev TA:=St->Hp->(List V->Hp->Prop)->Prop
structure Ends where
 nx:St->Hp->Prop
 rt:VK
 bk:St->Hp->Prop:=fun _ _=>False
 ct:St->Hp->Prop:=fun _ _=>False
abbrev TS:=Ends->St->Hp->Prop
def EP(X:Cx)(c:List (Addr × Obj))(f:St)(Q:VK)(u:Value)(s':Shared):Prop:=∃v H',Inv X c f H' s'/\RelV v u/\Q v H'
def TP(X:Cx)(c:List (Addr × Obj))(f:St)(Q:Bool->Hp->Prop)(b:Bool)(s':Shared):Prop:=∃H',Inv X c f H' s'/\Q b H'
def AP(X:Cx)(c:List (Addr × Obj))(f:St)(Q:List V->Hp->Prop)(us:List Value)(s':Shared):Prop:=∃vs H',Inv X c f H' s'/\Vals vs us/\Q vs H'
def SP(X:Cx)(c:List (Addr × Obj))(D:Ends)(f:Flow)(s':Shared):Prop :=
 match f with
 |.next=>∃σ' H',Inv X c σ' H' s'/\D.nx σ' H'
 |.brk=>∃σ' H',Inv X c σ' H' s'/\D.bk σ' H'
 |.cont=>∃σ' H',Inv X c σ' H' s'/\D.ct σ' H'
 |.ret u=>∃v σ' H',Inv X c σ' H' s'/\RelV v u/\D.rt v H'
def PE(X:Cx)(e:Expr)(t:TE):Prop :=
 ∀(c:List (Addr × Obj)) (s:Shared) (f:St) (H:Hp) (Q:VK),Inv X c f H s->t f H Q->wpAny (model X.prog X.w) X.A (eval e X.env) (EP X c f Q) X.xe s
def PT(X:Cx)(e:Expr)(t:TT):Prop :=
 ∀(c:List (Addr × Obj)) (s:Shared) (f:St) (H:Hp) (Q:Bool->Hp->Prop),Inv X c f H s->t f H Q->wpAny (model X.prog X.w) X.A (isTrue e X.env (eval e X.env)) (TP X c f Q) X.xe s
def PW(X:Cx)(e:Expr)(t:TT):Prop :=
 ∀(g:Sem Value) (c:List (Addr × Obj)) (s:Shared) (f:St) (H:Hp) (Q:Bool->Hp->Prop),Inv X c f H s->t f H Q->wpAny (model X.prog X.w) X.A (isTrue e X.env g) (TP X c f Q) X.xe s
theorem PW.pt{X:Cx}{e:Expr}{t:TT}(h:PW X e t):PT X e t:=h _
def PA(X:Cx)(es:List Expr)(t:TA):Prop :=
 ∀(pos:Pos) (c:List (Addr × Obj)) (s:Shared) (f:St) (H:Hp) (Q:List V->Hp->Prop),Inv X c f H s->t f H Q->wpAny (model X.prog X.w) X.A (spliced (backTo pos (starEach es X.env))) (AP X c f Q) X.xe s
def PS(X:Cx)(st:Stmt)(t:TS):Prop :=
 ∀(c:List (Addr × Obj)) (s:Shared) (f:St) (H:Hp) (D:Ends),Inv X c f H s->t D f H->wpAny (model X.prog X.w) X.A (exec st X.env) (SP X c D) X.xe s
def PSs(X:Cx)(st:List Stmt)(t:TS):Prop :=
 ∀(c:List (Addr × Obj)) (s:Shared) (f:St) (H:Hp) (D:Ends),Inv X c f H s->t D f H->wpAny (model X.prog X.w) X.A (execs st X.env) (SP X c D) X.xe s
theorem thn{c:Type}{t:Sem c}{Q f:c->Shared->Prop}{M:Model}{A:Around}{E:Value->Shared->Prop}{s:Shared}(h:wpAny M A t Q E s)(g:∀a s,Q a s->f a s):wpAny M A t f E s:=wpAny_mono h g fun _ _ x=>x
end L2
namespace L2
open PySem PySem.Spec PyProof.Rows
section
variable {X:Cx}
def eT(i:Nat):TE:=fun c H Q=>∃v,c[i]?=some (some v)/\Q v H
def tC(v:V):TE:=fun _ H Q=>Q v H
theorem Ko{i:Nat}{x:Str}{pos:Pos}(t:X.N[i]?=some x)(q:Vis X.env.scope x)(hd:(x == ("__debug__" : Str))=false:=by decide)(y:(x == ("__classdict__" : Str))=false:=by decide):PE X (.Name x pos) (eT i):=by
 intro g s p H Q I h
 obtain ⟨v,e,h⟩:=h
 obtain ⟨m,hn,hl⟩:=I.loc
 obtain ⟨u,r,l⟩:=hl i x v t e q
 have j:EP X g p Q u s:=⟨v,H,I,r,h⟩
 rcases l with ⟨f,hm⟩|⟨f,c,n,o⟩
 .exact wpAny_Name (wpAny_loadName_local I.ok.kind f hn hm j) hd
 .rcases f with f|f
  .exact wpAny_Name (wpAny_loadName_cell I.ok.kind f n o j) hd
  .exact wpAny_Name (wpAny_loadName_free I.ok.kind f n o j y) hd
theorem ar{i j pos}:PE X (.Constant (.int i) j pos) (tC (.int i)):=fun _ _ _ H _ I h=>wpAny_Constant_int ⟨.int i,H,I.tok _,⟨_,rfl⟩,h⟩
theorem lH{b j pos}:PE X (.Constant (.bool b) j pos) (tC (.bl b)):=fun _ _ _ H _ I h=>Constant_bool ⟨.bl b,H,I,rfl,h⟩
theorem lQ{j pos}:PE X (.Constant .none j pos) (tC .non):=fun _ _ _ H _ I h=>Constant_none ⟨.non,H,I,rfl,h⟩
theorem cw{x j pos}:PE X (.Constant (.str x) j pos) (tC (.str x)):=fun _ _ _ H _ I h=>Calls.Constant_str ⟨.str x,H,I.tok _,⟨_,rfl⟩,h⟩
def Gl(X:Cx)(x:Str):Prop:=X.env.kindOf x=some .globalImplicit
theorem yv{E:Value->Shared->Prop}{c:List (Addr × Obj)}{s:Shared}{f:St}{H:Hp}{x:Str}{u:Value}{pos:Pos}{Q:Value->Shared->Prop}(I:Inv X c f H s)(g:Gl X x)(hm:X.mg x=some u)(h:Q u s)
  (hd:(x == ("__debug__" : Str))=false:=by decide):wpAny (model X.prog X.w) X.A (eval (.Name x pos) X.env) Q E s :=
 Calls.Name_function_global I.ok.kind g (Calls.loadGlobal_global (by rw[I.ok.glob];exact I.mod.glob.keeps I.bk) hm h) hd
theorem gP{E:Value->Shared->Prop}{c:List (Addr × Obj)}{s:Shared}{f:St}{H:Hp}{x:Str}{u:Value}{pos:Pos}{Q:Value->Shared->Prop}(I:Inv X c f H s)(i:Gl X x)(hm:X.mg x=none)(g:bootBuiltins x=some u)(h:Q u s)
  (hn:x≠"__name__":=by decide) (hd:(x == ("__debug__" : Str))=false:=by decide):wpAny (model X.prog X.w) X.A (eval (.Name x pos) X.env) Q E s:=by
 obtain ⟨n,m,j⟩:=I.mod.blt
 exact Calls.Name_function_global I.ok.kind i (Calls.loadGlobal_builtin (by rw[I.ok.glob];exact I.mod.glob.keeps I.bk) hm (by rw[I.ok.blt];exact m.keeps I.bk) ((j x hn).trans g) h) hd
theorem CA{x:Str}{v:V}{u:Value}{pos:Pos}(f:Gl X x)(hm:X.mg x=none)(c:bootBuiltins x=some u)(r:RelV v u)(hn:x≠"__name__":=by decide)(hd:(x == ("__debug__" : Str))=false:=by decide):PE X (.Name x pos) (tC v) :=
 fun _ _ _ H _ I h=>gP I f hm c ⟨v,H,I,r,h⟩ hn hd
variable {a b:Expr}{ta tb:TE}{pos:Pos}
def PC(X:Cx)(h:CmpOp)(a b:Expr)(t:TE):Prop :=
 ∀(c:List (Addr × Obj)) (s:Shared) (g:St) (H:Hp) (Q:VK),Inv X c g H s->t g H Q ->
  wpAny (model X.prog X.w) X.A (eval a X.env) (fun v f=>wpAny (model X.prog X.w) X.A (eval b X.env) (fun u i=>wpAny (model X.prog X.w) X.A (compareOp h v u) (EP X c g Q) X.xe i) X.xe f) X.xe s
def tB(t:TE):TT:=fun f H Q=>t f H fun x g=>∃c,x=.bl c/\Q c g
theorem KZ{g:CmpOp}{t:TE}(h:PC X g a b t)(i:behindInMarks g b=false:=by first|exact nobehind _ (by decide) (by decide)|rfl):PT X (.Compare a [g] [b] pos) (tB t):=by
 intro f s j H Q I hw
 refine wpAny_isTrue_Compare1 (thn (h f s j H _ I hw) fun v B i=>thn i fun u z o=>thn o fun c y ⟨x,r,p,m,n⟩=>?_) i
 obtain ⟨d,rfl,q⟩:=n
 cases m
 exact wpAny_truthy_bool ⟨r,p,q⟩
theorem gR{e:Expr}{t:TE}(h:PE X e t)(m:∀f,isTrue e X.env f=(do let v <- f;standAt e.pos;holding [v] (truthy v)):=by intro _;rfl):PT X e (tB t):=by
 intro c s g H Q I hw
 refine isTrue_plain (thn (h c s g H _ I hw) fun v p ⟨x,o,n,i,j⟩=>?_) (m _)
 obtain ⟨d,rfl,q⟩:=j
 cases i
 exact wpAny_truthy_bool ⟨o,n,q⟩
variable {tA UU:TT}{rest:List Expr}
def Ld(t u:TT):TT:=fun f H Q=>t f H fun c g=>if c=true then u f g Q else Q false g
def tOr(t u:TT):TT:=fun f H Q=>t f H fun c g=>if c=true then Q true g else u f g Q
def Lw(t:TT):TT:=fun f H Q=>t f H fun c g=>Q (!c) g
theorem pE(ha:PT X a tA):PW X (.BoolOp .And [a] pos) tA:=by
 intro i f s g H Q I h
 refine isTrue_and (thn (ha f s g H Q I h) fun c j e=>?_)
 cases c with
 |true=>exact isTrue_and_nil e
 |false=>exact e
theorem mT(ha:PT X a tA):PW X (.BoolOp .Or [a] pos) tA:=by
 intro i f s g H Q I h
 refine isTrue_or (thn (ha f s g H Q I h) fun c j e=>?_)
 cases c with
 |false=>exact isTrue_or_nil e
 |true=>exact e
theorem t8(ha:PT X a tA)(hb:PW X (.BoolOp .And (b::rest) pos) UU):PW X (.BoolOp .And (a::b::rest) pos) (Ld tA UU):=by
 intro n f s g H Q I h
 refine isTrue_and (thn (ha f s g H _ I h) fun c o ⟨m,j,i⟩=>?_)
 cases c with
 |true=>exact hb n f o g m Q j i
 |false=>exact⟨m,j,i⟩
theorem mY(ha:PT X a tA)(hb:PW X (.BoolOp .Or (b::rest) pos) UU):PW X (.BoolOp .Or (a::b::rest) pos) (tOr tA UU):=by
 intro n f s g H Q I h
 refine isTrue_or (thn (ha f s g H _ I h) fun c o ⟨m,j,i⟩=>?_)
 cases c with
 |true=>exact⟨m,j,i⟩
 |false=>exact hb n f o g m Q j i
theorem fF(ha:PT X a tA):PT X (.UnaryOp .Not a pos) (Lw tA):=by
 intro f s g H Q I h
 exact isTrue_not (ha f s g H (fun c i=>Q (!c) i) I h)
def Jd(h tb:TE):TE:=fun f H Q=>h f H fun x g=>∃c,x=.bl c/\if c=true then tb f g Q else Q (.bl false) g
theorem Ki{op}{t:TE}(h:PE X a t):PE X (.BoolOp op [a] pos) t:=fun c s f H Q I hw=>BoolOp_one (h c s f H Q I hw)
theorem Ks(ha:PE X a ta)(hb:PE X (.BoolOp .And (b::rest) pos) tb):PE X (.BoolOp .And (a::b::rest) pos) (Jd ta tb):=by
 intro f s i H Q I h
 refine BoolOp_and (thn (ha f s i H _ I h) fun v n ⟨x,m,j,o,g⟩=>?_)
 obtain ⟨c,rfl,g⟩:=g
 cases o
 refine wpAny_truthy_bool ?_
 cases c with
 |true=>exact hb f n i m Q j g
 |false=>exact⟨.bl false,m,j,rfl,g⟩
def tIf(t:TT)(h tb:TE):TE:=fun f H Q=>t f H fun c g=>if c=true then h f g Q else tb f g Q
theorem uX{c:Expr}(o:PT X c tA)(ha:PE X a ta)(hb:PE X b tb):PE X (.IfExp c a b pos) (tIf tA ta tb):=by
 intro f s g H Q I h
 refine wpAny_IfExp (thn (o f s g H _ I h) fun d i ⟨n,m,j⟩=>?_)
 cases d with
 |true=>exact ha f i g n Q m j
 |false=>exact hb f i g n Q m j
end
end L2
namespace L2
open PySem PySem.Spec PyProof.Rows
def SqL(K:aad)(H:Hp)(a:Addr)(xs:List V):Prop :=
 Rd H a (.lst xs) \/
  ∃(o:Obj) (c:Array Value) (n:Nat),K.lookup a=some o/\o.cls=.type "list"/\o.dict=none/\o.data=.seq c n/\c.size<=sizeLine/\Vals xs c.toList
def SqT(K:aad)(H:Hp)(a:Addr)(xs:List V):Prop :=
 Rd H a (.tup xs) \/
  ∃(o:Obj) (c:Array Value) (n:Nat),K.lookup a=some o/\o.cls=.type "tuple"/\o.data=.seq c n/\c.size<=sizeLine/\Vals xs c.toList
def LU:Value->Option V
 |.none=>some .non
 |.bool b=>some (.bl b)
 |.int i _=>some (.int i)
 |.str x _=>some (.str x)
 |.bytes b _=>some (.byt b)
 |.float b _=>some (.flt b)
 |.ref a=>some (.ref a)
 |.type n=>some (.ty n)
 |_=>none
theorem RelV.abs{x:V}{u:Value}(r:RelV x u):LU u=some x:=by
 cases x with
 |non=>cases r;rfl
 |bl _=>cases r;rfl
 |int _=>obtain ⟨t,rfl⟩:=r;rfl
 |str _=>obtain ⟨t,rfl⟩:=r;rfl
 |byt _=>obtain ⟨t,rfl⟩:=r;rfl
 |flt _=>obtain ⟨t,rfl⟩:=r;rfl
 |ref _=>cases r;rfl
 |ty _=>cases r;rfl
theorem RelV.inj{x y:V}{u:Value}(r:RelV x u)(q:RelV y u):x=y:=MB (r.abs.symm.trans q.abs)
theorem Vals.inj:∀{xs ys:List V}{us:List Value},Vals xs us->Vals ys us->xs=ys
 |_,_,_,.nil,.nil=>rfl
 |_,_,_,.cons r t,.cons c t'=>by rw[r.inj c,Vals.inj t t']
section
variable {X:Cx}{pins:List (Addr × Obj)}{σ:St}{H:Hp}{s:Shared}{a:Addr}{xs ys:List V}
theorem SqL.of{K:aad}(h:H a=some (.lst xs)):SqL K H a xs:=.inl (.inl h)
theorem SqT.of{K:aad}(h:H a=some (.tup xs)):SqT K H a xs:=.inl (.inl h)
theorem Inv.list(I:Inv X pins σ H s)(h:SqL X.K H a xs):∃c:List Value,Vals xs c/\PlainL s.heap a c.toArray/\xs.length<=sizeLine:=by
 rcases h with h|⟨o,c,n,g,i,hd,f,j,r⟩
 .obtain ⟨z,c,n,r,e⟩:=h.ok I.hok
  exact⟨c,r,⟨_,n,e,rfl,rfl,rfl⟩,z⟩
 .refine⟨c.toList,r,⟨o,n,I.kIn a o g,i,hd,by simpa using f⟩,?_⟩
  have e:=r.length
  simp only[MU] at e
  omega
theorem Inv.tuple(I:Inv X pins σ H s)(h:SqT X.K H a xs):∃c:List Value,Vals xs c/\IsTup s.heap a c.toArray/\xs.length<=sizeLine:=by
 rcases h with h|⟨o,c,n,g,i,f,j,r⟩
 .obtain ⟨z,c,r,p⟩:=h.ok I.hok
  exact⟨c,r,p,z⟩
 .refine⟨c.toList,r,⟨o,I.kIn a o g,i,n,by simpa using f⟩,?_⟩
  have e:=r.length
  simp only[MU] at e
  omega
theorem Inv.pw(I:Inv X pins σ H s)(h:SqL X.K H a xs)(h':SqL X.K H a ys):xs=ys:=by
 obtain ⟨i,r,⟨o,n,e,_,_,d⟩,_⟩:=I.list h
 obtain ⟨its',f,⟨j,m,c,_,_,d'⟩,_⟩:=I.list h'
 rw[e] at c;cases c
 rw[d] at d'
 injection d' with g _
 have:i=its':=by simpa using congrArg Array.toList g
 subst this
 exact r.inj f
end
abbrev Cx.rE(X:Cx)(E:Value->Shared->Prop):Cx:={ X with xe:=E }
abbrev Cx.nox(X:Cx):Cx:=X.rE fun _ _=>False
theorem Cx.Ok.rE{X:Cx}(ok:X.Ok)(E:Value->Shared->Prop):(X.rE E).Ok :=
 ⟨ok.mod,ok.kind,ok.glob,ok.blt,ok.above,ok.inj,ok.has,ok.cab,ok.hd,ok.frames,ok.stk,ok.exf,ok.bs,ok.bsz,ok.noex,ok.exfs,ok.qJ,ok.frf⟩
theorem Cx.Ok.jI{X:Cx}{E:Value->Shared->Prop}(ok:(X.rE E).Ok):X.Ok :=
 ⟨ok.mod,ok.kind,ok.glob,ok.blt,ok.above,ok.inj,ok.has,ok.cab,ok.hd,ok.frames,ok.stk,ok.exf,ok.bs,ok.bsz,ok.noex,ok.exfs,ok.qJ,ok.frf⟩
section
variable {X:Cx}{pins:List (Addr × Obj)}{σ:St}{H:Hp}{s:Shared}{E:Value->Shared->Prop}
theorem Inv.rE(I:Inv X pins σ H s)(E:Value->Shared->Prop):Inv (X.rE E) pins σ H s:=⟨I.ok.rE E,I.os,I.bare,I.base,I.loc,I.cell,I.free,I.freeC,I.pin,I.hok,I.len⟩
theorem Inv.jI(I:Inv (X.rE E) pins σ H s):Inv X pins σ H s:=⟨I.ok.jI,I.os,I.bare,I.base,I.loc,I.cell,I.free,I.freeC,I.pin,I.hok,I.len⟩
theorem SP.jI{D:Ends}{f:Flow}{s':Shared}(h:SP (X.rE E) pins D f s'):SP X pins D f s':=by
 cases f with
 |next=>obtain ⟨σ',H',I,q⟩:=h;exact⟨σ',H',I.jI,q⟩
 |brk=>obtain ⟨σ',H',I,q⟩:=h;exact⟨σ',H',I.jI,q⟩
 |cont=>obtain ⟨σ',H',I,q⟩:=h;exact⟨σ',H',I.jI,q⟩
 |ret u=>obtain ⟨v,σ',H',I,r,q⟩:=h;exact⟨v,σ',H',I.jI,r,q⟩
theorem PT.nox{e:Expr}{t:TT}(h:PT X.nox e t):PT X e t:=fun pins s σ H Q I hw =>
 wpAny_mono (h pins s σ H Q (I.rE _) hw) (fun _ _ ⟨H',c,q⟩=>⟨H',c.jI,q⟩) fun _ _ z=>False.elim z
theorem PSs.nox{st:List Stmt}{t:TS}(h:PSs X.nox st t):PSs X st t:=fun pins s σ H D I hw =>
 wpAny_mono (h pins s σ H D (I.rE _) hw) (fun _ _ q=>q.jI) fun _ _ z=>False.elim z
end
section
variable {X:Cx}{st:Stmt}{rest:List Stmt}{t u:TS}{e:Expr}{te:TE}{pos:Pos}
def IS:TS:=fun D c H=>D.nx c H
def zV(t u:TS):TS:=fun D c H=>t { D with nx:=u D } c H
theorem aY:PSs X [] IS:=fun _ _ c H _ I h=>wpAny_execs_nil ⟨c,H,I,h⟩
theorem aj(m:PS X st t)(j:PSs X rest u):PSs X (st::rest) (zV t u):=by
 intro c s g H D I h
 refine wpAny_execs_cons (thn (m c s g H { D with nx:=u D } I h) fun f i q=>?_)
 cases f with
 |next =>
  obtain ⟨σ',H',n,q⟩:=q
  exact j c i σ' H' D n q
 |ret v=>exact q
 |brk=>exact q
 |cont=>exact q
theorem aw(i:PS X st t):PSs X [st] t:=by
 intro c s g H D I h
 refine wpAny_execs_cons (thn (i c s g H D I h) fun f j q=>?_)
 cases f with
 |next=>exact wpAny_execs_nil q
 |ret v=>exact q
 |brk=>exact q
 |cont=>exact q
theorem Inv.quiet{c:List (Addr × Obj)}{f:St}{H:Hp}{s:Shared}(I:Inv X c f H s):interactive X.env=false:=by simp [interactive,I.ok.kind]
def Am(f:TE):TS:=fun D c H=>f c H fun _ g=>D.nx c g
theorem cH(j:PE X e te)(i:swapsWith e none pos.line X.env=pure false:=by rfl):PS X (.Expr e pos) (Am te):=by
 intro c s f H D I h
 exact wpAny_Expr_any (thn (j c s f H _ I h) fun v o ⟨x,n,m,p,g⟩=>⟨f,n,m,g⟩) I.quiet i
def KD(f:TE):TS:=fun D c H=>f c H D.rt
theorem aI(j:PE X e te):PS X (.Return (some e) pos) (KD te):=by
 intro c s f H D I h
 exact wpAny_Return_some (thn (j c s f H _ I h) fun v o ⟨x,n,m,g,i⟩=>⟨x,f,n,m,g,i⟩)
def Kx(c:TT)(t u:TS):TS:=fun D f H=>c f H fun b g=>if b=true then t D f g else u D f g
theorem bZ{c:Expr}{a b:List Stmt}{i:TT}(p:PT X c i)(ha:PSs X a t)(hb:PSs X b u):PS X (.If c a b pos) (Kx i t u):=by
 intro f s g H D I h
 refine wpAny_If (thn (p f s g H _ I h) fun d j ⟨o,n,m⟩=>?_)
 cases d with
 |true=>exact ha f j g o D n m
 |false=>exact hb f j g o D n m
end
abbrev TG:=V->St->Hp->(St->Hp->Prop)->Prop
abbrev TGs:=List V->St->Hp->(St->Hp->Prop)->Prop
def PG(X:Cx)(g:Expr)(t:TG):Prop :=
 ∀(c:List (Addr × Obj)) (s:Shared) (f:St) (H:Hp) (v:V) (u:Value) (Q:St->Hp->Prop),Inv X c f H s->RelV v u->t v f H Q ->
  wpAny (model X.prog X.w) X.A (assign g X.env u) (fun _ s'=>∃σ' H',Inv X c σ' H' s'/\Q σ' H') X.xe s
def PGs(X:Cx)(g:List Expr)(t:TGs):Prop :=
 ∀(c:List (Addr × Obj)) (s:Shared) (f:St) (H:Hp) (vs:List V) (us:List Value) (Q:St->Hp->Prop),Inv X c f H s->Vals vs us->t vs f H Q ->
  wpAny (model X.prog X.w) X.A (assignInOrder ((assignEach g X.env).map (·.2)) us) (fun _ s'=>∃σ' H',Inv X c σ' H' s'/\Q σ' H') X.xe s
abbrev Kj:=V->V->V->Hp->(Hp->Prop)->Prop
def LD(X:Cx)(t:Kj):Prop :=
 ∀(c:List (Addr × Obj)) (s:Shared) (f:St) (H:Hp) (o i v:V) (g h u:Value) (Q:Hp->Prop),Inv X c f H s->RelV o g->RelV i h->RelV v u->t o i v H Q ->
  wpAny (model X.prog X.w) X.A (setItem g h u) (fun _ s'=>∃H',Inv X c f H' s'/\Q H') X.xe s
section
variable {X:Cx}{pos:Pos}
def gn(i:Nat):TG:=fun v c H Q=>Q (c.set i (some v)) H
theorem fU{i:Nat}{x:Str}(j:X.N.Nodup)(hi:X.N[i]?=some x)(f:Loc X.env.scope x)(g:X.fn x=true\/X.env.scope.names.lookup x=some .local:=by first|exact .inl rfl|exact .inr rfl|assumption):PG X (.Name x pos) (gn i):=by
 intro c s n H v u Q I r h
 exact wpAny_assign_Name (zS I j hi f r (fun s' m=>⟨_,H,m,h⟩) g)
def JB:TGs:=fun vs c H Q=>vs=[]/\Q c H
def F3(t:TG)(u:TGs):TGs:=fun vs c H Q=>∃v r,vs=v::r/\t v c H fun σ' H'=>u r σ' H' Q
theorem jm:PGs X [] JB:=by
 intro c s f H vs us Q I r h
 obtain ⟨e,h⟩:=h
 subst e
 cases r
 exact assignInOrder_nil ⟨f,H,I,h⟩
theorem bg{e:Expr}{es:List Expr}{t:TG}{u:TGs}(o:PG X e t)(n:PGs X es u)
  (m:(assignEach (e::es) X.env).map (·.2)=assign e X.env::(assignEach es X.env).map (·.2):=by rfl):PGs X (e::es) (F3 t u):=by
 intro c s f H vs us Q I r h
 obtain ⟨v,y,e1,h⟩:=h
 subst e1
 cases r with
 |cons r i =>
  rw[m]
  refine assignInOrder_cons (thn (o c s f H _ _ _ I r h) fun _ g ⟨p,x,q,j⟩=>?_)
  exact n c g p x _ _ Q q i j
def HF(K:aad)(n:Nat)(t:TGs):TG:=fun v c H Q=>∃a xs,v=.ref a/\SqT K H a xs/\xs.length=n/\t xs c H Q
theorem KH{es:List Expr}{k:Nat}{t:TGs}{n:Nat}(m:X.calm=true)(h:PGs X es t)
  (hn:(assignEach es X.env).length=n:=by rfl) (p:(assignEach es X.env).findIdx? (·.1)=none:=by rfl):PG X (.Tuple es k pos) (HF X.K n t):=by
 intro c s f H v u Q I r hw
 obtain ⟨a,xs,e1,j,hl,hw⟩:=hw
 subst e1
 cases r
 obtain ⟨y,g,ht,x⟩:=I.tuple j
 refine assign_Tuple_tuple (I.ok.hd m) ht (by simp [hn,<- hl,g.length]) p fun h' i=>?_
 have q:Inv X c f H { s with heap:=h' }:=I.kept (t':=s.toks) fun b o e=>i b o (Mr (Heap.lt_size e)) e
 exact h c _ f H xs _ Q q (by simpa using g) hw
def Eb(f ti:TE)(t:Kj):TG:=fun v c H Q=>f c H fun o j=>ti c j fun i h=>t o i v h fun g=>Q c g
theorem iz{o i:Expr}{m ti:TE}{t:Kj}(E:PE X o m)(hi:PE X i ti)(C:LD X t)
  (ha:∀v,assign (.Subscript o i pos) X.env v=(do
   let f <- holding [v] (eval o X.env)
   let g <- holding [v,f] (eval i X.env)
   standAt pos
   holding [v,f,g] (setItem f g v)
   release [v,f,g] []):=by intro _;rfl):PG X (.Subscript o i pos) (Eb m ti t):=by
 intro c s j H v u Q I r h
 rw[ha]
 refine wpAny_bind (wpAny_holding (thn (E c s j H _ I h) fun f p ⟨x,O,J,z,B⟩=>?_))
 refine wpAny_bind (wpAny_holding (thn (hi c p j O _ J B) fun g n ⟨y,M,G,q,q2⟩=>?_))
 refine wpAny_bind (wpAny_standAt (wpAny_bind (wpAny_holding (thn (C c n j M x y v f g u _ G z q r q2) fun _ P ⟨L,F,q3⟩=>?_))))
 exact wpAny_release ⟨j,L,F,q3⟩
def lN(f:TE)(g:TG):TS:=fun D c H=>f c H fun x h=>g x c h D.nx
theorem dO{f e:Expr}{j:TE}{g:TG}(t:PE X e j)(r:PG X f g)(p:swapsWithSole [f] e pos.line X.env=pure false:=by rfl)(hw:swappedStores [f] e X.env=pure none:=by rfl)
  (u:(assignEach [f] X.env).map (·.2)=[assign f X.env]:=by rfl):PS X (.Assign [f] e pos) (lN j g):=by
 intro c s i H D I h
 refine wpAny_Assign_stores (thn (t c s i H _ I h) fun v m ⟨x,z,y,n,o⟩=>?_) p hw
 rw[u]
 exact thn (r c m i z x v _ y n o) fun _ B q=>q
theorem ym{i:Nat}{x:Str}{e:Expr}{f:TE}{g:Pos}(t:X.N.Nodup)(hi:X.N[i]?=some x)(o:Loc X.env.scope x)(r:PE X e f)(p:swapsWith e (some (.Name x g)) pos.line X.env=pure false:=by rfl)(q:X.fn x=true\/X.env.scope.names.lookup x=some .local:=by first|exact .inl rfl|exact .inr rfl|assumption) :
  PS X (.Assign [.Name x g] e pos) (lN f (gn i)):=by
 intro c s j H D I h
 refine wpAny_Assign_Name (thn (r c s j H _ I h) fun v E ⟨y,B,z,m,n⟩=>?_) p
 exact zS z t hi o m (fun C u=>⟨_,B,u,n⟩) q
end
section
variable {X:Cx}{pos:Pos}
def GS(c:TT)(tb:TS):TS:=fun D f H=>∃W:Nat->St->Hp->Prop,(∃m,W m f H)/\∀m f H,W m f H ->
 c f H fun b h=>if b=true then ∃N:St->Hp->Prop,(∀σ' H',N σ' H'->∃g,g < m/\W g σ' H')/\tb { D with nx:=N,ct:=N,bk:=D.nx } f h else D.nx f h
theorem mD{c:Expr}{y:List Stmt}{t:TT}{tb:TS}(u:PassesOwn (model X.prog X.w) X.A X.env X.xe)(O:PT X c t)(hb:PSs X y tb):PS X (.While c y [] pos) (GS t tb):=by
 intro g s E H D I h
 obtain ⟨W,⟨M,G⟩,turn⟩:=h
 refine wpAny_While (codeAny_whileLoop (fun n s'=>∃σ' H',Inv X g σ' H' s'/\W n σ' H') ?_ M ⟨E,H,I,G⟩)
 rintro n L ⟨m,C,P,F⟩
 refine wpAny_passesOwn u (thn (O g L m C _ P (turn n m C F)) fun b J ⟨B,z,q2⟩=>?_)
 cases b with
 |true =>
  obtain ⟨N,x,q2⟩:=q2
  rw[if_pos rfl]
  refine wpAny_passesOwn u (thn (hb g J m B _ z q2) fun f Q q3=>?_)
  cases f with
  |next =>
   obtain ⟨i,j,r,p⟩:=q3
   obtain ⟨q,hm,o⟩:=x i j p
   exact⟨q,hm,i,j,r,o⟩
  |cont =>
   obtain ⟨i,j,r,p⟩:=q3
   obtain ⟨q,hm,o⟩:=x i j p
   exact⟨q,hm,i,j,r,o⟩
  |brk=>exact q3
  |ret v=>exact q3
 |false =>
  rw[if_neg Mj]
  exact wpAny_execs_nil ⟨m,B,z,q2⟩
end
structure It where
 go:Nat->Hp->Prop
 yld:Nat->Hp->V->Hp->Prop
 stop:Nat->Hp->Prop
def u6(X:Cx)(f:List (Addr × Obj))(H:Hp)(b:Addr):Prop :=
 H b=none/\b≠X.env.locals/\b∉X.fs/\(b∈X.ex\/X.s₀.heap.objs.size<=b)/\(∀x c,X.env.cells.lookup x=some c->c≠b)/\∀p∈X.pn++f,p.1≠b
theorem Inv.Ie{X:Cx}{f:List (Addr × Obj)}{g:St}{H H':Hp}{s:Shared}{b:Addr}(I:Inv X f g H s)(hb:s.heap.objs.size<=b)(hn:H' b=none):u6 X f H' b:=by
 refine⟨hn,O0 (Ml I.lt hb),I.Lv hb,.inr (Mx I.sz hb),fun x c e z=>?_,fun p h z=>?_⟩
 .obtain ⟨v,q⟩:=I.cell x c e
  exact absurd (Ml q.lt (by rw[z];exact hb)) (MT _)
 .exact absurd (Ml (Heap.lt_size (I.pin p h).1) (by rw[z];exact hb)) (MT _)
structure Turn(P:Program)(w:World)(K:aad)(tg:Expr)(J:It)(fp:List Addr)(it:Addr)(tn:Nat->Heap->Prop):Prop where
 mem:it∈fp
 obj:∀i h,tn i h->∀b∈fp,∃o,h.get? b=some o/\∀v,o.data≠.cell v
 keep:∀i h h',tn i h->(∀b∈fp,∀o,h.get? b=some o->h'.get? b=some o)->tn i h'
 item:∀(X:Cx),X.prog=P->X.w=w->X.K=K->X.calm=true->∀(i:Nat) (pins:List (Addr × Obj)) (s:Shared) (σ:St) (H:Hp) (E:Value->Shared->Prop),Inv X pins σ H s->(∀b∈fp,u6 X pins H b)->tn i s.heap->J.go i H ->
  wpAny (model P w) X.A (pyNext (.ref it)) (fun r s1=>∃u,r=some u /\
   wpAny (model P w) X.A (letOwnedTupleGo tg (.ref it) u) (fun _ s2=>∃x H',Inv X pins σ H' s2/\RelV x u/\J.yld i H x H'/\tn (i+1) s2.heap/\∀b∈fp,H' b=none) E s1) E s
 done:∀(X:Cx),X.prog=P->X.w=w->X.K=K->X.calm=true->∀(i:Nat) (pins:List (Addr × Obj)) (s:Shared) (σ:St) (H:Hp) (E:Value->Shared->Prop),Inv X pins σ H s->(∀b∈fp,u6 X pins H b)->tn i s.heap->J.stop i H ->
  wpAny (model P w) X.A (pyNext (.ref it)) (fun r s1=>r=none/\Inv X pins σ H s1) E s
 self:∀(A:Around) (i:Nat) (s:Shared) (Q:Value->Shared->Prop) (E:Value->Shared->Prop),tn i s.heap->Q (.ref it) s->wpAny (model P w) A (pyIter (.ref it)) Q E s
abbrev TI:=St->Hp->(It->Hp->Prop)->Prop
def PIE(X:Cx)(c:List (Addr × Obj))(g:St)(h:Expr)(R:It->Hp->Prop)(i:Value)(f:Shared):Prop :=
 ∃(it:Addr) (fp:List Addr) (tn:Nat->Heap->Prop) (J:It) (H':Hp),i=.ref it/\Inv X c g H' f/\Turn X.prog X.w X.K h J fp it tn/\tn 0 f.heap/\(∀b∈fp,u6 X c H' b)/\R J H'
def PI(X:Cx)(h iter:Expr)(g:TI):Prop :=
 ∀(c:List (Addr × Obj)) (s:Shared) (f:St) (H:Hp) (R:It->Hp->Prop),Inv X c f H s->g f H R ->
  wpAny (model X.prog X.w) X.A (eval iter X.env) (fun v i=>wpAny (model X.prog X.w) X.A (pyIter v) (PIE X c f h R) X.xe i) X.xe s
theorem Jr{M:Model}{A:Around}{E:Value->Shared->Prop}{s:Shared}{f:Expr}{it:Addr}{u:Value}{o:Obj}{n:String}{vs:Array Value}{Q:Unit->Shared->Prop}(g:s.heap.get? it=some o)(i:o.cls=.type n)(hd:o.data=.fields vs)
  (hn:["enumerate","zip","dict_itemiterator","dict_reverseitemiterator","odict_iterator","itertools.zip_longest","itertools.pairwise"].contains n=false) (c:Q () s):wpAny M A (letOwnedTupleGo f (.ref it) u) Q E s:=by
 unfold letOwnedTupleGo
 cases f<;>first
  |exact wpAny_pure c
  |(cases u<;>first
    |exact wpAny_pure c
    |(refine wpAny_bind (wpAny_load g ?_)
      rw[i,hd]
      show wpAny M A (if (["enumerate","zip","dict_itemiterator","dict_reverseitemiterator","odict_iterator","itertools.zip_longest","itertools.pairwise"].contains n && vs[0]? == some (rawInt _))=true then _ else _) Q E s
      rw[if_neg (by intro h;rw[hn,Bool.false_and] at h;cases h)]
      exact wpAny_pure c))
def Itl(K:aad)(a:Addr):It :=
 ⟨fun i H=>∃xs x,SqL K H a xs/\xs[i]?=some x,fun i H x H'=>H'=H/\∀xs,SqL K H a xs->xs[i]?=some x,fun i H=>∃xs,SqL K H a xs/\xs.length<=i⟩
def Itr(lo:Int)(n:Nat):It:=⟨fun i _=>i<n,fun i H x H'=>H'=H/\x=.int (lo+i),fun i _=>n<=i⟩
theorem Dw{P:Program}{w:World}{K:aad}{O:Expr}(a it:Addr):Turn P w K O (Itl K a) [it] it (fun i h=>h.IsListIter it a i) where
 mem:=by simp
 obj:=fun i h st b hb=>by
  have e:b=it:=by simpa using hb
  subst e
  obtain ⟨o,e,c,d⟩:=st
  exact⟨o,e,fun v z=>by rw[d] at z;cases z⟩
 keep:=fun i h h' st k=>st.at fun o e=>k it (by simp) o e
 item:=by
  intro X r hw t L i f s J H E I j st q
  subst r hw t
  obtain ⟨xs,x,g,n⟩:=q
  obtain ⟨ME,m,p,S⟩:=I.list g
  obtain ⟨u,U,R⟩:=m.get n
  obtain ⟨G,F,Y,C,B,y⟩:=j it (by simp)
  refine wpAny_pyNext_list_item st p.isList (x:=u) (by simpa using U) fun h' M Q=>?_
  have I1:Inv X f J H { s with heap:=h' }:=I.turned (t':=s.toks) (fun b o hb e=>(Q.2 b hb).trans e) G F C B y
  obtain ⟨o,e,c,d⟩:=id M
  exact⟨u,rfl,Jr (s:={ s with heap:=h' }) e c d (by decide) ⟨x,H,I1,R,⟨rfl,fun ys T=>by rw[I.pw T g];exact n⟩,M,fun b hb=>(j b hb).1⟩⟩
 done:=by
  intro X r hw t L i f s J H E I j st q
  subst r hw t
  obtain ⟨xs,g,n⟩:=q
  obtain ⟨ME,m,p,S⟩:=I.list g
  obtain ⟨G,F,Y,C,B,y⟩:=j it (by simp)
  have hl:=m.length
  exact wpAny_pyNext_list_end (I.ok.hd L) st p.isList (by simp;omega) fun h' Z=>⟨rfl,I.turned (t':=s.toks) (fun b o hb e=>Z b o hb e) G F C B y⟩
 self:=fun _ _ _ _ _ st h=>wpAny_pyIter_listiter st h
theorem AN{P:Program}{w:World}{K:aad}{J:Expr}(it:Addr)(lo:Int)(n:Nat):Turn P w K J (Itr lo n) [it] it (fun i h=>IsRangeIter h it (lo+(i:Nat)*1) ((n:Int) - (i:Nat)) 1) where
 mem:=by simp
 obj:=fun i h st b hb=>by
  have e:b=it:=by simpa using hb
  subst e
  exact⟨_,st,fun v z=>by
   have G:Data.fields _=Data.cell v:=z
   cases G⟩
 keep:=fun i h h' st k=>k it (by simp) _ st
 item:=by
  intro X m hw p j i c s B H E I f st g
  subst m hw p
  obtain ⟨y,x,O,u,r,q⟩:=f it (by simp)
  have W:=Walks.range (prog:=X.prog) (w:=X.w) (I.ok.hd j) it lo 1 n
  refine W.item i s _ _ g st fun v h' C M F L=>?_
  obtain ⟨t,rfl⟩:=M
  have R:Inv X c B H { s with heap:=h',toks:=C }:=I.turned (fun b o hb e=>L b o (by simpa using hb) e) y x u r q
  refine⟨_,rfl,Jr (s:={ s with heap:=h',toks:=C }) (n:="range_iterator") F rfl rfl (by decide) ⟨.int (lo+i),H,R,⟨t,?_⟩,⟨rfl,rfl⟩,F,fun b hb=>(f b hb).1⟩⟩
  rw[Int.mul_one]
 done:=by
  intro X m hw p j i c s B H E I f st g
  subst m hw p
  obtain ⟨y,x,O,u,r,q⟩:=f it (by simp)
  exact wpAny_pyNext_range_end (I.ok.hd j) st (by have:n<=i:=g;omega) fun h' Q=>⟨rfl,I.turned (t':=s.toks) (fun b o hb e=>Q b o hb e) y x u r q⟩
 self:=fun _ _ _ _ _ st h=>wpAny_pyIter_rangeiter st h
end L2
namespace L2
open PySem PySem.Spec PyProof.Rows
section
variable {X:Cx}{tg:Expr}
def C0(K:aad)(g:TE):TI:=fun f H R=>g f H fun x c=>∃a,x=.ref a/\(∃xs,SqL K c a xs)/\R (Itl K a) c
theorem HP{l:Expr}{i:TE}(hl:PE X l i):PI X tg l (C0 X.K i):=by
 intro c s j H R I h
 refine thn (hl c s j H _ I h) fun v f ⟨x,t,g,m,n⟩=>?_
 obtain ⟨a,e,⟨xs,r⟩,q⟩:=n
 subst e
 cases m
 obtain ⟨z,u,p,y⟩:=g.list r
 refine wpAny_pyIter_list p.isList ?_
 refine⟨f.heap.objs.size,[f.heap.objs.size],_,_,t,rfl,g.kept (t':=f.toks) fun b o e=>Heap.get?_push_of_some _ e,Dw a _,⟨_,Heap.get?_push_size _ rfl,rfl,rfl⟩,fun b hb=>?_,q⟩
 have e:b=f.heap.objs.size:=by simpa using hb
 subst e
 exact g.Ie (Md _) (g.hok.fresh (Md _))
theorem zv{c:List (Addr × Obj)}{f:St}{H:Hp}{s:Shared}{R:It->Hp->Prop}{E:Value->Shared->Prop}{lo hi:Int}{t u v:Tok}{g:Nat}(I:Inv X c f H s)(n : -(2 ^ 62)<=lo)(m:lo<2 ^ 62)(j : -(2 ^ 62)<=hi)(i:hi<2 ^ 62)
  (q:R (Itr lo (hi - lo).toNat) H):wpAny (model X.prog X.w) X.A (pyIter (.ref s.heap.objs.size)) (PIE X c f tg R) E { s with heap:=s.heap.push { cls:=.type "range",data:=.fields #[.int lo t,.int hi u,.int 1 v] },toks:=g }:=by
 refine wpAny_pyIter_range (IsRange.new ..) (small_one n m j i) ?_
 have h:Inv X c f H { s with heap:=s.heap.push { cls:=.type "range",data:=.fields #[.int lo t,.int hi u,.int 1 v] },toks:=g }:=I.kept fun b o e=>Heap.get?_push_of_some _ e
 refine⟨(s.heap.push { cls:=.type "range",data:=.fields #[.int lo t,.int hi u,.int 1 v] }).objs.size,[(s.heap.push { cls:=.type "range",data:=.fields #[.int lo t,.int hi u,.int 1 v] }).objs.size],_,_,H,rfl,
  h.kept (t':=g) fun b o e=>Heap.get?_push_of_some _ e,AN _ lo (hi - lo).toNat,?_,fun b hb=>?_,q⟩
 .have e1:lo+((0:Nat):Int)*1=lo:=by simp
  have e2:(((hi - lo).toNat:Nat):Int) - ((0:Nat):Int)=Builtin.Range.rangeSize lo hi 1:=by rw[rangeSize_one];split<;>omega
  show IsRangeIter _ _ (lo+((0:Nat):Int)*1) ((((hi - lo).toNat:Nat):Int) - ((0:Nat):Int)) 1
  rw[e1,e2]
  exact Heap.get?_push_size _ rfl
 .have e:b=(s.heap.push { cls:=.type "range",data:=.fields #[.int lo t,.int hi u,.int 1 v] }).objs.size:=by simpa using hb
  subst e
  exact h.Ie (Md _) (h.hok.fresh (Md _))
def Ju(f:TA):TI:=fun c H R=>f c H fun vs g=>∃j:Int,vs=[.int j]/\-(2 ^ 62)<=j/\j<2 ^ 62/\R (Itr 0 j.toNat) g
def Jj(f:TA):TI:=fun c H R=>f c H fun vs g=>∃i j:Int,vs=[.int i,.int j]/\(-(2 ^ 62)<=i/\i<2 ^ 62/\-(2 ^ 62)<=j/\j<2 ^ 62)/\R (Itr i (j - i).toNat) g
theorem bw{a:Expr}{g:TA}{p pos:Pos}(u:Gl X "range")(hm:X.mg "range" = none)(ha:PA X [a] g)(o:starEach [a] X.env=[(false,eval a X.env)]:=by rfl):PI X tg (.Call (.Name "range" p) [a] [] pos) (Ju g):=by
 intro c s i H R I h
 refine Call_ (gP I u hm boot_range (MG (thn (ha pos c s i H _ I h) fun us x ⟨vs,y,v,n,f⟩=>?_) o rfl))
 obtain ⟨j,e,f,q2,q⟩:=f
 subst e
 cases n with
 |cons r m =>
  cases m
  obtain ⟨t,rfl⟩:=r
  exact call_range_1 (zv v (by omega) (by omega) f q2 (by simpa using q))
theorem DQ{a b:Expr}{m:TA}{p pos:Pos}(y:Gl X "range")(hm:X.mg "range" = none)(ha:PA X [a,b] m)(x:starEach [a,b] X.env=[(false,eval a X.env),(false,eval b X.env)]:=by rfl)(n:starEach [b] X.env=[(false,eval b X.env)]:=by rfl) :
  PI X tg (.Call (.Name "range" p) [a,b] [] pos) (Jj m):=by
 intro c s o H R I h
 refine Call_ (gP I y hm boot_range (MG (thn (ha pos c s o H _ I h) fun us B ⟨vs,C,z,u,g⟩=>?_) (by rw[x,n]) (by rw[n];rfl)))
 obtain ⟨i,j,e,⟨g,q2,q3,q4⟩,q⟩:=g
 subst e
 cases u with
 |cons r f =>
  cases f with
  |cons v f =>
   cases f
   obtain ⟨t,rfl⟩:=r
   obtain ⟨t',rfl⟩:=v
   exact call_range_2 (zv z g q2 q3 q4 q)
def Hi(h:TI)(g:TG)(tb:TS):TS:=fun D c H=>h c H fun J o=>∃W:Nat->Nat->St->Hp->Prop,(∃m,W 0 m c o)/\∀i m c H,W i m c H ->
 (J.stop i H/\D.nx c H)\/(J.go i H/\∃N:St->Hp->Prop,(∀σ' H',N σ' H'->∃f,f < m/\W (i+1) f σ' H')/\∀x H',J.yld i H x H'->g x c H' fun j n=>tb { D with nx:=N,ct:=N,bk:=D.nx } j n)
def m4(fp:List Addr)(h:Heap):List (Addr × Obj):=fp.filterMap fun b=>(h.get? b).map fun o=>(b,o)
theorem lW{fp:List Addr}{h:Heap}{b:Addr}{o:Obj}(hb:b∈fp)(e:h.get? b=some o):(b,o)∈m4 fp h:=O8.mpr ⟨b,hb,by rw[e];rfl⟩
theorem wG{fp:List Addr}{h:Heap}{p:Addr × Obj}(c:p∈m4 fp h):p.1∈fp/\h.get? p.1=some p.2:=by
 obtain ⟨b,hb,e⟩:=O8.mp c
 cases q:h.get? b with
 |none=>rw[q] at e;cases e
 |some o =>
  rw[q] at e
  have f:(b,o)=p:=MB e
  subst f
  exact⟨hb,q⟩
theorem Inv.pinned{c:List (Addr × Obj)}{f:St}{H:Hp}{s:Shared}{fp:List Addr}(I:Inv X c f H s)(j:∀b∈fp,u6 X c H b)(i:∀b∈fp,∃o,s.heap.get? b=some o/\∀v,o.data≠.cell v):Inv X (c++m4 fp s.heap) f H s :=
 I.sX fun p h=>(Ma.mp h).elim (fun z=>I.pin p (L1 _ z)) fun z=>by
  obtain ⟨hb,e⟩:=wG z
  obtain ⟨q,n,m,_⟩:=j p.1 hb
  obtain ⟨o,g,d⟩:=i p.1 hb
  rw[e] at g;cases g
  exact⟨e,q,n,m,d⟩
theorem Inv.pG{c pl:List (Addr × Obj)}{f:St}{H:Hp}{s:Shared}(I:Inv X (c++pl) f H s):Inv X c f H s:=I.sX fun p g=>I.pin p (L1 _ (Me _ g))
theorem Fd{iter:Expr}{Z:List Stmt}{O:TI}{g:TG}{tb:TS}{pos:Pos}(y:PassesOwn (model X.prog X.w) X.A X.env X.xe)(R:X.calm=true)(hi:PI X tg iter O)(hg:PG X tg g)(hb:PSs X Z tb)
  (hs:∀x,foldedSetIterable iter X.env x=pure x:=by intro _;rfl):PS X (.For tg iter Z [] pos) (Hi O g tb):=by
 intro c s M H D I h
 refine wpAny_For (thn (hi c s M H _ I h) fun v s1 h1=>thn h1 fun U1 s2 h2=>?_) hs
 obtain ⟨it,fp,tn,J,H2,e,I2,T,R0,S,W,⟨m0,w0⟩,turn⟩:=h2
 subst e
 have G:∀{H':Hp},(∀b∈fp,H' b=none)->∀b∈fp,u6 X c H' b:=fun hn b hb=>⟨hn b hb,(S b hb).2⟩
 refine codeAny_forLoop_any (fun n s'=>∃i σ' H',Inv X c σ' H' s'/\tn i s'.heap/\(∀b∈fp,H' b=none)/\W i n σ' H') ?_ m0 ⟨0,M,H2,I2,R0,fun b hb=>(S b hb).1,w0⟩
 rintro n Q ⟨i,z,B,I3,U,Y,w3⟩
 rcases turn i n z B w3 with ⟨stop,qn⟩|⟨go,N,hN,step⟩
 .refine wpAny_passesOwn y (thn (T.done X rfl rfl rfl R i c Q z B X.xe I3 (G Y) U stop) fun r s4 ⟨hr,I4⟩=>?_)
  subst hr
  exact wpAny_execs_nil ⟨z,B,I4,qn⟩
 .refine wpAny_passesOwn y (thn (T.item X rfl rfl rfl R i c Q z B X.xe I3 (G Y) U go) fun r s4 ⟨u,hr,h4⟩=>?_)
  subst hr
  refine wpAny_passesOwn y (thn h4 fun _ P ⟨x,H5,I5,r5,y5,F,E⟩=>?_)
  have L:=I5.pinned (G E) (T.obj _ _ F)
  refine wpAny_passesOwn y (thn (hg _ P z H5 x u _ L r5 (step x H5 y5)) fun _ s6 ⟨Yl,H6,I6,q6⟩=>?_)
  refine wpAny_passesOwn y (thn (hb _ s6 Yl H6 _ I6 q6) fun f C q7=>?_)
  have again:∀{j:St}{q:Hp},Inv X (c++m4 fp P.heap) j q C->N j q->∃m,m<n/\∃i σ' H',Inv X c σ' H' C/\tn i C.heap/\(∀b∈fp,H' b=none)/\W i m σ' H':=fun {j q} p t=>by
   obtain ⟨m',hm,w7⟩:=hN j q t
   refine⟨m',hm,i+1,j,q,p.pG,T.keep _ _ _ F fun b hb o e=>(p.pin (b,o) (L1 _ (L1 _ (lW hb e)))).1,fun b hb=>?_,w7⟩
   obtain ⟨o,e,d⟩:=T.obj _ _ F b hb
   exact (p.pin (b,o) (L1 _ (L1 _ (lW hb e)))).2.1
  cases f with
  |next=>obtain ⟨j,q,p,t⟩:=q7;exact again p t
  |cont=>obtain ⟨j,q,p,t⟩:=q7;exact again p t
  |brk=>obtain ⟨j,q,p,q7⟩:=q7;exact⟨j,q,p.pG,q7⟩
  |ret v=>obtain ⟨x7,j,q,p,r7,q7⟩:=q7;exact⟨x7,j,q,p.pG,r7,q7⟩
end
end L2
namespace L2
open PySem PySem.Spec PyProof.Rows
abbrev R2:=V->V->Hp->VK->Prop
def OpR(X:Cx)(f:Value->Value->Sem Value)(r:R2):Prop :=
 ∀(c:List (Addr × Obj)) (s:Shared) (g:St) (H:Hp) (x y:V) (v u:Value) (Q:VK),Inv X c g H s->RelV x v->RelV y u->r x y H Q ->
  wpAny (model X.prog X.w) X.A (f v u) (EP X c g Q) X.xe s
def UnR(X:Cx)(f:Value->Sem Value)(r:V->Hp->VK->Prop):Prop :=
 ∀(c:List (Addr × Obj)) (s:Shared) (g:St) (H:Hp) (x:V) (v:Value) (Q:VK),Inv X c g H s->RelV x v->r x H Q ->
  wpAny (model X.prog X.w) X.A (f v) (EP X c g Q) X.xe s
def je(X:Cx)(f:Value)(r:List V->Hp->VK->Prop):Prop :=
 ∀(c:List (Addr × Obj)) (s:Shared) (g:St) (H:Hp) (xs:List V) (us:List Value) (Q:VK),Inv X c g H s->Vals xs us->r xs H Q ->
  wpAny (model X.prog X.w) X.A (call f us) (EP X c g Q) X.xe s
def tOp(r:R2)(f tb:TE):TE:=fun c H Q=>f c H fun x h=>tb c h fun y g=>r x y g Q
def tUn(r:V->Hp->VK->Prop)(f:TE):TE:=fun c H Q=>f c H fun x g=>r x g Q
def rI(C:Int->Int->Prop)(g:Int->Int->V):R2:=fun x y H Q=>∃i j,x=.int i/\y=.int j/\C i j/\Q (g i j) H
def rI0(g:Int->Int->V):R2:=fun x y H Q=>∃i j,x=.int i/\y=.int j/\Q (g i j) H
def rU(g:Int->V):V->Hp->VK->Prop:=fun x H Q=>∃i,x=.int i/\Q (g i) H
section
variable {X:Cx}{a b:Expr}{ta tb:TE}{pos:Pos}
theorem J7(ha:PE X a ta)(hb:PE X b tb){c:List (Addr × Obj)}{s:Shared}{g:St}{H:Hp}{R:V->V->Hp->Prop}(I:Inv X c g H s)
  (h:ta g H fun x n=>tb g n fun y i=>R x y i) {Q:Value->Shared->Prop}{f:Value->Value->Sem Value}
  (t:∀v u m x y i,Inv X c g i m->RelV x v->RelV y u->R x y i->wpAny (model X.prog X.w) X.A (f v u) Q X.xe m) :
  wpAny (model X.prog X.w) X.A (eval a X.env) (fun v j=>wpAny (model X.prog X.w) X.A (eval b X.env) (fun u z=>wpAny (model X.prog X.w) X.A (f v u) Q X.xe z) X.xe j) X.xe s:=by
 refine thn (ha c s g H _ I h) fun v o ⟨x,n,C,q,r⟩=>?_
 refine thn (hb c o g n _ C r) fun u m ⟨y,i,B,p,q2⟩=>?_
 exact t v u m x y i B q p q2
theorem aK{f:Operator}{r:R2}(n:OpR X (binaryOp f) r)(ha:PE X a ta)(hb:PE X b tb):PE X (.BinOp a f b pos) (tOp r ta tb):=by
 intro c s g H Q I h
 exact wpAny_BinOp (J7 ha hb I h fun v u i x y p o m j q=>n c i g p x y v u Q o m j q)
theorem GB{g:UnaryOp}{r:V->Hp->VK->Prop}(n:UnR X (unaryOp g) r)(ha:PE X a ta):PE X (.UnaryOp g a pos) (tUn r ta):=by
 intro c s f H Q I h
 exact UnaryOp_ (thn (ha c s f H _ I h) fun v i ⟨x,p,o,j,m⟩=>n c i f p x v Q o j m)
theorem opI{f:Value->Value->Sem Value}{C:Int->Int->Prop}{g:Int->Int->Int}
  (rule:∀(i j:Int) (t u:Tok) (s:Shared) (Q:Value->Shared->Prop) (E:Value->Shared->Prop),C i j->Q (.int (g i j) s.toks) { s with toks:=s.toks+1 }->wpAny (model X.prog X.w) X.A (f (.int i t) (.int j u)) Q E s) :
  OpR X f (rI C fun i j=>.int (g i j)):=by
 intro c s p H x y v u Q I n m h
 obtain ⟨i,j,rfl,rfl,o,q⟩:=h
 obtain ⟨t,rfl⟩:=n
 obtain ⟨t',rfl⟩:=m
 exact rule i j t t' s _ _ o ⟨.int (g i j),H,I.tok _,⟨_,rfl⟩,q⟩
theorem Jw{f:Value->Value->Sem Value}{g:Int->Int->Int}
  (rule:∀(i j:Int) (t u:Tok) (s:Shared) (Q:Value->Shared->Prop) (E:Value->Shared->Prop),Q (.int (g i j) s.toks) { s with toks:=s.toks+1 }->wpAny (model X.prog X.w) X.A (f (.int i t) (.int j u)) Q E s) :
  OpR X f (rI0 fun i j=>.int (g i j)):=by
 intro c s o H x y v u Q I n m h
 obtain ⟨i,j,rfl,rfl,q⟩:=h
 obtain ⟨t,rfl⟩:=n
 obtain ⟨t',rfl⟩:=m
 exact rule i j t t' s _ _ ⟨.int (g i j),H,I.tok _,⟨_,rfl⟩,q⟩
theorem HX{f:Value->Value->Sem Value}{g:Int->Int->Bool}
  (rule:∀(i j:Int) (t u:Tok) (s:Shared) (Q:Value->Shared->Prop) (E:Value->Shared->Prop),Q (.bool (g i j)) s->wpAny (model X.prog X.w) X.A (f (.int i t) (.int j u)) Q E s) :
  OpR X f (rI0 fun i j=>.bl (g i j)):=by
 intro c s o H x y v u Q I n m h
 obtain ⟨i,j,rfl,rfl,q⟩:=h
 obtain ⟨t,rfl⟩:=n
 obtain ⟨t',rfl⟩:=m
 exact rule i j t t' s _ _ ⟨.bl (g i j),H,I,rfl,q⟩
def LY(i j:Int):Prop:=0<=j/\j<=1000000/\i.natAbs<2 ^ 64
theorem AI(k:Nat):(0:Int)<=2 ^ k:=by
 rw[two_pow_cast]
 exact Int.natCast_nonneg _
theorem cK:OpR X (binaryOp .Add) (rI0 fun i j=>.int (i+j)):=Jw fun _ _ _ _ _ _ _ q=>add_int q
theorem og:OpR X (binaryOp .Sub) (rI0 fun i j=>.int (i - j)):=Jw fun _ _ _ _ _ _ _ q=>sub_int q
theorem bS:OpR X (binaryOp .Mod) (rI (fun _ j=>0<j) fun i j=>.int (i % j)):=opI fun i j _ _ _ _ _ c q=>by
 have f:(0:Int)<j:=c
 exact mod_int' (by omega) (by rw[Int.fmod_eq_emod_of_nonneg i (by omega)];exact q)
theorem Kh:OpR X (binaryOp .Pow) (rI LY fun i j=>.int (i ^ j.toNat)):=opI fun _ _ _ _ _ _ _ c q=>pow_int_small c.1 c.2.1 c.2.2 q
theorem Kv:OpR X (binaryOp .RShift) (rI (fun _ j=>0<=j) fun i j=>.int (i / 2 ^ j.toNat)):=opI fun i j _ _ _ _ _ c q =>
 rshift_int c (by rw[Int.fdiv_eq_ediv_of_nonneg i (AI _)];exact q)
theorem KR:OpR X (binaryOp .BitAnd) (rI0 fun i j=>.int (Builtin.bitAnd i j)):=Jw fun _ _ _ _ _ _ _ q=>and_int q
theorem unI{f:Value->Sem Value}{g:Int->Int}
  (rule:∀(i:Int) (t:Tok) (s:Shared) (Q:Value->Shared->Prop) (E:Value->Shared->Prop),Q (.int (g i) s.toks) { s with toks:=s.toks+1 }->wpAny (model X.prog X.w) X.A (f (.int i t)) Q E s) :
  UnR X f (rU fun i=>.int (g i)):=by
 intro c s m H x v Q I j h
 obtain ⟨i,rfl,q⟩:=h
 obtain ⟨t,rfl⟩:=j
 exact rule i t s _ _ ⟨.int (g i),H,I.tok _,⟨_,rfl⟩,q⟩
theorem Ay:UnR X (unaryOp .USub) (rU fun i=>.int (-i)):=unI fun _ _ _ _ _ q=>neg_int q
end
def aQ:V->V->Bool
 |.non,.non=>true|.non,.int _=>true|.int _,.non=>true|.non,.bl _=>true|.bl _,.non=>true|.non,.str _=>true|.str _,.non=>true
 |.int _,.int _=>true|.bl _,.bl _=>true|.str _,.str _=>true|.byt _,.byt _=>true
 |.int _,.str _=>true|.str _,.int _=>true|.bl _,.str _=>true|.str _,.bl _=>true
 |_,_=>false
def rEq:R2:=fun x y H Q=>aQ x y=true/\Q (.bl (decide (x=y))) H
def rNe:R2:=fun x y H Q=>aQ x y=true/\Q (.bl (!decide (x=y))) H
theorem CG{i j:Int}:decide (V.int i=V.int j)=(i == j):=by
 rw[Nr]
 simp
theorem G4{i j:Bool}:decide (V.bl i=V.bl j)=(i == j):=by
 rw[Nr]
 simp
theorem Dc{i j:Str}:decide (V.str i=V.str j)=(i == j):=by
 rw[Nr]
 simp
theorem BL{i j:Array UInt8}:decide (V.byt i=V.byt j)=(i.toList == j.toList):=by
 rw[Nr]
 cases i
 cases j
 simp
section
variable {X:Cx}{a b c:Expr}{ta tb tc:TE}{pos:Pos}
theorem bo{c:List (Addr × Obj)}{f:St}{H:Hp}{s:Shared}{Q:VK}{k g:Bool}(I:Inv X c f H s)(q:Q (.bl k) H)(e:k=g):EP X c f Q (.bool g) s:=by
 subst e
 exact⟨.bl k,H,I,rfl,q⟩
theorem i9:OpR X (compareOp .Eq) rEq:=by
 intro m s n H x y v u Q I g c h
 obtain ⟨f,q⟩:=h
 cases x with
 |non =>
  cases g
  cases y with
  |non=>cases c;exact PySem.EqNone.eq_none_none (bo I q (by simp))
  |bl j=>cases c;exact PySem.EqNone.eq_none_bool (bo I q (by simp))
  |int j=>obtain ⟨t',rfl⟩:=c;exact PySem.EqNone.eq_none_int (bo I q (by simp))
  |str j=>obtain ⟨t',rfl⟩:=c;exact PySem.EqNone.eq_none_str (bo I q (by simp))
  |_=>exact absurd (show false=true from f) Mj
 |bl i =>
  cases g
  cases y with
  |non=>cases c;exact PySem.EqNone.eq_bool_none (bo I q (by simp))
  |bl j=>cases c;exact eq_bool (bo I q G4)
  |str j=>obtain ⟨t',rfl⟩:=c;exact PySem.EqMixed.eq_bool_str (bo I q (by simp))
  |_=>exact absurd (show false=true from f) Mj
 |int i =>
  obtain ⟨t,rfl⟩:=g
  cases y with
  |non=>cases c;exact PySem.EqNone.eq_int_none (bo I q (by simp))
  |int j=>obtain ⟨t',rfl⟩:=c;exact eq_int (bo I q CG)
  |str j=>obtain ⟨t',rfl⟩:=c;exact PySem.EqMixed.eq_int_str (bo I q (by simp))
  |_=>exact absurd (show false=true from f) Mj
 |str i =>
  obtain ⟨t,rfl⟩:=g
  cases y with
  |non=>cases c;exact PySem.EqNone.eq_str_none (bo I q (by simp))
  |bl j=>cases c;exact PySem.EqMixed.eq_str_bool (bo I q (by simp))
  |int j=>obtain ⟨t',rfl⟩:=c;exact PySem.EqMixed.eq_str_int (bo I q (by simp))
  |str j=>obtain ⟨t',rfl⟩:=c;exact eq_str (bo I q Dc)
  |_=>exact absurd (show false=true from f) Mj
 |byt i =>
  obtain ⟨t,rfl⟩:=g
  cases y with
  |byt j=>obtain ⟨t',rfl⟩:=c;exact PySem.W.eq_bytes (bo I q BL)
  |_=>exact absurd (show false=true from f) Mj
 |_=>cases y<;>exact absurd (show false=true from f) Mj
theorem uz:OpR X (compareOp .NotEq) rNe:=by
 intro m s n H x y v u Q I g c h
 obtain ⟨f,q⟩:=h
 cases x with
 |non =>
  cases g
  cases y with
  |non=>cases c;exact PySem.EqNone.ne_none_none (bo I q (by simp))
  |bl j=>cases c;exact PySem.EqNone.ne_none_bool (bo I q (by simp))
  |int j=>obtain ⟨t',rfl⟩:=c;exact PySem.EqNone.ne_none_int (bo I q (by simp))
  |str j=>obtain ⟨t',rfl⟩:=c;exact PySem.EqNone.ne_none_str (bo I q (by simp))
  |_=>exact absurd (show false=true from f) Mj
 |bl i =>
  cases g
  cases y with
  |non=>cases c;exact PySem.EqNone.ne_bool_none (bo I q (by simp))
  |bl j=>cases c;exact ne_bool (bo I q (congrArg not G4))
  |str j=>obtain ⟨t',rfl⟩:=c;exact PySem.EqMixed.ne_bool_str (bo I q (by simp))
  |_=>exact absurd (show false=true from f) Mj
 |int i =>
  obtain ⟨t,rfl⟩:=g
  cases y with
  |non=>cases c;exact PySem.EqNone.ne_int_none (bo I q (by simp))
  |int j=>obtain ⟨t',rfl⟩:=c;exact ne_int (bo I q (congrArg not CG))
  |str j=>obtain ⟨t',rfl⟩:=c;exact PySem.EqMixed.ne_int_str (bo I q (by simp))
  |_=>exact absurd (show false=true from f) Mj
 |str i =>
  obtain ⟨t,rfl⟩:=g
  cases y with
  |non=>cases c;exact PySem.EqNone.ne_str_none (bo I q (by simp))
  |bl j=>cases c;exact PySem.EqMixed.ne_str_bool (bo I q (by simp))
  |int j=>obtain ⟨t',rfl⟩:=c;exact PySem.EqMixed.ne_str_int (bo I q (by simp))
  |str j=>obtain ⟨t',rfl⟩:=c;exact ne_str (bo I q (congrArg not Dc))
  |_=>exact absurd (show false=true from f) Mj
 |byt i =>
  obtain ⟨t,rfl⟩:=g
  cases y with
  |byt j=>obtain ⟨t',rfl⟩:=c;exact PySem.W.ne_bytes (bo I q (congrArg not BL))
  |_=>exact absurd (show false=true from f) Mj
 |_=>cases y<;>exact absurd (show false=true from f) Mj
theorem nY:OpR X (compareOp .Lt) (rI0 fun i j=>.bl (decide (i<j))):=HX fun _ _ _ _ _ _ _ q=>lt_int q
theorem Ac:OpR X (compareOp .LtE) (rI0 fun i j=>.bl (decide (i<=j))):=HX fun _ _ _ _ _ _ _ q=>le_int q
theorem Co:OpR X (compareOp .Gt) (rI0 fun i j=>.bl (decide (j<i))):=HX fun _ _ _ _ _ _ _ q=>gt_int q
theorem Jo:OpR X (compareOp .GtE) (rI0 fun i j=>.bl (decide (j<=i))):=HX fun _ _ _ _ _ _ _ q=>ge_int q
theorem Fz:OpR X (compareOp .Is) (fun x y H Q=>y=.non/\Q (.bl (decide (x=.non))) H):=by
 intro f s i H x y v u Q I c g h
 obtain ⟨rfl,q⟩:=h
 cases g
 refine is_none_gen (bo I q ?_)
 cases x<;>first
  |(cases c;rfl)
  |(obtain ⟨t,rfl⟩:=c;rfl)
theorem yg:OpR X (compareOp .IsNot) (fun x y H Q=>y=.non/\Q (.bl (!decide (x=.non))) H):=by
 intro f s i H x y v u Q I c g h
 obtain ⟨rfl,q⟩:=h
 cases g
 refine isnot_none_gen (bo I q ?_)
 cases x<;>first
  |(cases c;rfl)
  |(obtain ⟨t,rfl⟩:=c;rfl)
theorem aW(b:Expr){c:CmpOp}(h:c≠.In:=by decide)(f:c≠.NotIn:=by decide):behindInMarks c b=false:=by
 have e1:(c == CmpOp.In)=false:=by cases c<;>first|rfl|exact absurd rfl h
 have e2:(c == CmpOp.NotIn)=false:=by cases c<;>first|rfl|exact absurd rfl f
 cases b<;>simp [behindInMarks,e1,e2]
theorem sZ{f:CmpOp}{r:R2}(n:OpR X (compareOp f) r)(ha:PE X a ta)(hb:PE X b tb)(hm:behindInMarks f b=false):PE X (.Compare a [f] [b] pos) (tOp r ta tb):=by
 intro c s g H Q I h
 exact wpAny_Compare1 (J7 ha hb I h fun v u i x y p o m j q=>n c i g p x y v u Q o m j q) hm
def G5(t:TE):TT:=fun c H Q=>t c H fun x H'=>∃k,x=.bl k/\Q k H'
theorem aO{i:CmpOp}{r:R2}(t:OpR X (compareOp i) r)(ha:PE X a ta)(hb:PE X b tb)(hm:behindInMarks i b=false):PT X (.Compare a [i] [b] pos) (G5 (tOp r ta tb)):=by
 intro f s g H Q I h
 refine wpAny_isTrue_Compare1 (thn (ha f s g H _ I h) fun v m ⟨x,J,E,p,q⟩=>thn (hb f m g J _ E q) fun u j ⟨y,G,C,o,q2⟩ =>
  thn (t f j g G x y v u _ C p o q2) fun c L ⟨z,F,B,n,k,e,q3⟩=>?_) hm
 subst e
 cases n
 exact wpAny_truthy_bool ⟨F,B,q3⟩
def Br(r j:R2)(i tb h:TE):TE:=fun c H Q=>i c H fun x o=>tb c o fun y n=>r x y n fun z f=>∃k,z=.bl k /\
 (if k=true then h c f fun g m=>j y g m Q else Q (.bl false) f)
theorem tH{i j:CmpOp}{r n:R2}(O:OpR X (compareOp i) r)(R:OpR X (compareOp j) n)(ha:PE X a ta)(hb:PE X b tb)(P:PE X c tc)
  (hm:lastMarks [i,j] [b,c]=false:=by with_unfolding_all rfl):PE X (.Compare a [i,j] [b,c] pos) (Br r n ta tb tc):=by
 intro f s g H Q I h
 refine Compare_chain (thn (ha f s g H _ I h) fun v F ⟨x,H1,U,L,M⟩=>chain_link (thn (hb f F g H1 _ U M) fun u E ⟨y,Z,T,m,q2⟩ =>
  thn (O f E g Z x y v u _ T L m q2) fun d C ⟨z,p,o,J,k,e,q3⟩=>?_)) hm
 subst e
 cases J
 refine wpAny_truthy_bool ?_
 cases k with
 |false=>exact ite_ff ⟨.bl false,p,o,rfl,q3⟩
 |true=>exact ite_tt (chain_last (thn (P f C g p _ o q3) fun t B ⟨q,Y,S,G,q4⟩=>R f B g Y y q u t Q S m G q4))
theorem pV{i j:CmpOp}{r n:R2}(R:OpR X (compareOp i) r)(U:OpR X (compareOp j) n)(ha:PE X a ta)(hb:PE X b tb)(S:PE X c tc)
  (hm:lastMarks [i,j] [b,c]=false:=by with_unfolding_all rfl):PT X (.Compare a [i,j] [b,c] pos) (G5 (Br r n ta tb tc)):=by
 intro f s g H Q I h
 refine isTrue_chain (thn (ha f s g H _ I h) fun v F ⟨x,H1,I1,M,O⟩=>test_link (thn (hb f F g H1 _ I1 O) fun u E ⟨y,H2,I2,m,q2⟩ =>
  thn (R f E g H2 x y v u _ I2 M m q2) fun d C ⟨z,p,o,L,k,e,q3⟩=>?_)) hm
 subst e
 cases L
 refine wpAny_truthy_bool ?_
 cases k with
 |false =>
  obtain ⟨k',T,P⟩:=q3
  cases T
  exact ite_ff ⟨p,o,P⟩
 |true =>
  refine ite_tt (test_last (thn (S f C g p _ o q3) fun t B ⟨q,H4,Z,J,q4⟩=>thn (U f B g H4 y q u t _ Z m J q4) fun d' s5 ⟨z2,H5,Y,G,k2,e2,q5⟩=>?_))
  subst e2
  cases G
  exact wpAny_truthy_bool ⟨H5,Y,q5⟩
theorem xU:(sizeLine:Nat)<2 ^ 63:=by rw[sizeLine_eq];decide
theorem vals1{x:V}{us:List Value}(r:Vals [x] us):∃u,us=[u]/\RelV x u:=by
 cases r with
 |cons f c=>cases c;exact⟨_,rfl,f⟩
theorem vals2{x y:V}{us:List Value}(r:Vals [x,y] us):∃u c,us=[u,c]/\RelV x u/\RelV y c:=by
 cases r with
 |cons i h =>
  cases h with
  |cons g f=>cases f;exact⟨_,_,rfl,i,g⟩
theorem Dm:je X (.type "int") (fun xs H Q=>(∃i,xs=[.int i]/\Q (.int i) H)\/∃k,xs=[.bl k]/\Q (.int (if k then 1 else 0)) H):=by
 intro c s g H xs us Q I r h
 rcases h with ⟨i,rfl,q⟩|⟨k,rfl,q⟩
 .obtain ⟨u,rfl,t,rfl⟩:=vals1 r
  exact call_int_int ⟨.int i,H,I,⟨_,rfl⟩,q⟩
 .obtain ⟨u,rfl,f⟩:=vals1 r
  cases f
  exact call_int_bool ⟨.int (if k then 1 else 0),H,I.tok _,⟨_,rfl⟩,q⟩
end
end L2
namespace L2
open PySem PySem.Spec PyProof.Rows
structure Bf(h:Heap)(x dx C:Addr)(mA:Str->Option Value):Prop where
 obj:h.get? x=some (PySem.W.instObj C dx)
 ns:h.Ns1 dx mA
 ne:dx≠x
theorem DB{h:Heap}{dx:Addr}{f:Str->Option Value}(n:h.Ns1 dx f):∃c,h.get? dx=some c/\∀name,PySem.W.lookIn name c=some (f name):=by
 obtain ⟨o,es,ep,i,hd,j,_,hm⟩:=n
 refine⟨o,i,fun name=>?_⟩
 have e:=hm name
 unfold nsFind findBy at e
 rw[<- Array.find?_toList] at e
 unfold PySem.W.lookIn
 rw[hd]
 dsimp only
 split
 .rename_i y q
  rw[q] at e
  exact congrArg some e
 .rename_i q
  rw[q] at e
  have a:es.toList.any (·.refKey)=false:=by
   rw[List.any_eq_false]
   intro y g
   obtain ⟨z,t,p⟩:=j y (Array.mem_toList_iff.mp g)
   simp [DictEntry.refKey,p]
  have m:¬ es.toList.any (·.refKey)=true:=by rw[a];exact Mj
  rw[if_neg m]
  exact congrArg some e
theorem Bf.look{h:Heap}{x dx C:Addr}{f:Str->Option Value}(I:Bf h x dx C f):∃c,PySem.W.InstAt h x (PySem.W.instObj C dx) C (some c)/\∀name,PySem.W.lookIn name c=some (f name) :=
 let ⟨c,ho,hl⟩:=DB I.ns
 ⟨c,⟨I.obj,rfl,rfl,ho⟩,hl⟩
section
variable {prog:Program}{w:World}{A:Around}{E:Value->Shared->Prop}{s:Shared}{K:aad}{x dx C f:Addr}{mA:Str->Option Value}{name:Str}{v:Value}
theorem get_map{i:Bool}{Q:Value->Shared->Prop}(X:K.In s.heap)(I:Bf s.heap x dx C mA)(g:PySem.W.plainGet K C name=true)(f:PySem.W.hasDictIn K C=true)
  (ha:PySem.W.findIn K (.ref C) name=some none) (c:mA name=some v) (j:PySem.W.handedIn v=true) (h:Q v { s with toks:=s.toks+1 }) :
  wpAny (model prog w) A (getAttr (.ref x) name i) Q E s:=by
 obtain ⟨m,J,hl⟩:=I.look
 exact PySem.W.get_value X J (PySem.W.plainGet_of g).1 (PySem.W.findObj_own f ha rfl (by rw[hl,c])) j h
theorem EW{pl:Sem Bool}{Q:Value × List Value->Shared->Prop}(X:K.In s.heap)(I:Bf s.heap x dx C mA)(c:PySem.W.plainGet K C name=true)
  (j:PySem.W.findIn K (.ref C) name=some (some (.ref f))) (ht:PySem.W.isFn K (.ref f)=true) (i:mA name=none) (h:Q (.ref f,[.ref x]) s) :
  wpAny (model prog w) A (getMethod (.ref x) name pl) Q E s:=by
 obtain ⟨g,J,hl⟩:=I.look
 exact PySem.W.method_fn X J (PySem.W.plainGet_of c).1 (PySem.W.plainGet_of c).2 j (beq_iff_eq.mp ht) (by show (PySem.W.lookIn name g).map (·.isSome)=some false;rw[hl,i];rfl) h
theorem IQ{ns:List Str}{Q:Unit->Shared->Prop}(X:K.In s.heap)(I:Bf s.heap x dx C mA)
  (i:PySem.W.findIn K (.ref C) "__setattr__" = some (some (.builtin "object.__setattr__"))) (j:PySem.W.plainOver K C=true) (ht:PySem.W.takerIn K C name=some none) (m:PySem.W.hasDictIn K C=true)
  (hw:PySem.Within mA ns) (hsz:ns.length<=sizeLine)
  (h:∀h',Bf h' x dx C (fun y=>if y=name then some v else mA y)->Heap.SameBut dx s.heap h'->Q () { s with heap:=h',toks:=s.toks+2 }) :
  wpAny (model prog w) A (setAttr (.ref x) name v) Q E s:=by
 obtain ⟨B,J,hl⟩:=I.look
 refine PySem.W.set_plain X J i (PySem.W.osa_open (s:={ s with toks:=s.toks+1 }) (r:=none) X J j ht fun b=>?_)
 obtain ⟨cd,n,z⟩:=PySem.W.any_some m
 have g:s.heap.get? x=some ⟨.ref C,some dx,.plain,#[]⟩:=I.obj
 refine wpAny_bind (wpAny_pure (wpAny_bind (wpAny_bind (wpAny_loadPart g (wpAny_bind (PySem.W.Looks.here (s:={ s with toks:=s.toks+1 }) (PySem.W.looks_clsIn X n) ?_))))))
 rw[z]
 refine wpAny_pure (a:=some dx) (wpAny_bind (wpAny_pure (wpAny_bind ?_)))
 refine wpAny_nsSet1 (s:={ s with toks:=s.toks+1 }) I.ns fun h' c f=>?_
 obtain ⟨oD,o,p,q,u,t⟩:=c.count (PySem.Within.cons name v hw)
 refine wpAny_bind (wpAny_lookBehind q (by rw[u];exact pastItsLine_dict (Mx t (by rw[L8];omega))) ?_)
 exact wpAny_pure (h _ ⟨(f.2 _ (MF I.ne)).trans I.obj,c,I.ne⟩ f)
theorem Fw{R:Result->Shared->Prop}{vs:List Value}{c:List (Str × Value)}(X:K.In s.heap)(hm:PySem.W.makesIn K C=true)
  (hi:PySem.W.findIn K (.ref C) "__init__" = some (some (.ref f))) (i:PySem.W.typeIn K (.ref f)=some (.type "function"))
  (h:codeAny (model prog w) (A.under (.builtin "type.__call__" ⟨.ref C::vs,c⟩)) (.call (.ref f) ⟨.ref (s.heap.objs.size+1)::vs,c⟩) (PySem.W.InitBack (s.heap.objs.size+1) R)
   { s with heap:=(s.heap.push PySem.W.emptyDict).push (PySem.W.instObj C s.heap.objs.size) }) :
  codeAny (model prog w) A (.call (.ref C) ⟨vs,c⟩) R s:=by
 obtain ⟨j,g,d,t,os⟩:=s
 exact PySem.W.make_core (PySem.W.makes_of X hm) (PySem.W.looks_findIn X hi) (fun self=>PySem.W.bind_fn X self i) (.inl rfl) h
end
def kN(f:Str)(v:V):List (Str × V)->List (Str × V)
 |[]=>[(f,v)]
 |(g,x)::r=>if g=f then (g,v)::r else (g,x)::kN f v r
theorem sd(f g:Str)(v:V):∀fs:List (Str × V),(kN f v fs).lookup g=if g=f then some v else fs.lookup g
 |[]=>by
  show List.lookup g [(f,v)]=_
  by_cases h:g=f
  .have hb:(g == f)=true:=beq_iff_eq.mpr h
   simp only[List.lookup,hb,if_pos h]
  .have hb:(g == f)=false:=beq_eq_false_iff_ne.mpr h
   simp only[List.lookup,hb,if_neg h]
 |(k,x)::r=>by
  have ih:=sd f g v r
  rw[show kN f v ((k,x)::r)=(if k=f then (k,v)::r else (k,x)::kN f v r) from rfl]
  by_cases c:k=f
  .rw[if_pos c]
   by_cases h:g=k
   .have hb:(g == k)=true:=beq_iff_eq.mpr h
    simp only[List.lookup,hb,if_pos (h.trans c)]
   .have hb:(g == k)=false:=beq_eq_false_iff_ne.mpr h
    simp only[List.lookup,hb,if_neg (fun e:g=f=>h (e.trans c.symm))]
  .rw[if_neg c]
   by_cases h:g=k
   .have hb:(g == k)=true:=beq_iff_eq.mpr h
    simp only[List.lookup,hb,if_neg (fun e:g=f=>c (h.symm.trans e))]
   .have hb:(g == k)=false:=beq_eq_false_iff_ne.mpr h
    simp only[List.lookup,hb]
    exact ih
theorem qU(f:Str)(v:V):∀fs:List (Str × V),f∈(kN f v fs).map (·.1)/\∀g,g∈fs.map (·.1)->g∈(kN f v fs).map (·.1)
 |[]=>⟨by simp [kN],fun g h=>by simp at h⟩
 |(k,x)::r=>by
  obtain ⟨j,i⟩:=qU f v r
  rw[show kN f v ((k,x)::r)=(if k=f then (k,v)::r else (k,x)::kN f v r) from rfl]
  by_cases c:k=f
  .rw[if_pos c]
   subst c
   exact⟨by simp,fun g h=>by simpa using h⟩
  .rw[if_neg c]
   refine⟨?_,fun g h=>?_⟩
   .rw[Mc]
    exact Fk _ j
   .rw[Mc] at h ⊢
    rcases L6.mp h with e|e
    .exact L6.mpr (.inl e)
    .exact Fk _ (i g e)
theorem rS(f:Str)(v:V):∀fs:List (Str × V),(kN f v fs).length<=fs.length+1
 |[]=>by simp [kN]
 |(k,x)::r=>by
  have ih:=rS f v r
  rw[show kN f v ((k,x)::r)=(if k=f then (k,v)::r else (k,x)::kN f v r) from rfl]
  by_cases c:k=f
  .rw[if_pos c,L8,L8];omega
  .rw[if_neg c,L8,L8];omega
theorem nQ.some_of{v:V}{o:Option Value}(r:nQ (some v) o):∃u,o=some u/\RelV v u:=by
 cases o with
 |none=>exact (show False from r).elim
 |some u=>exact⟨u,rfl,r⟩
theorem nQ.none_of{o:Option Value}(r:nQ none o):o=none:=by
 cases o with
 |none=>rfl
 |some u=>exact (show False from r).elim
theorem D6{v:V}{u:Value}(r:RelV v u):PySem.W.handedIn u=true:=by
 cases v with
 |non=>cases (show u=Value.none from r);rfl
 |bl b=>cases (show u=Value.bool b from r);rfl
 |int i=>obtain ⟨t,e⟩:=(show ∃t,u=Value.int i t from r);cases e;rfl
 |str x=>obtain ⟨t,e⟩:=(show ∃t,u=Value.str x t from r);cases e;rfl
 |byt b=>obtain ⟨t,e⟩:=(show ∃t,u=Value.bytes b t from r);cases e;rfl
 |flt b=>obtain ⟨t,e⟩:=(show ∃t,u=Value.float b t from r);cases e;rfl
 |ref a=>cases (show u=Value.ref a from r);rfl
 |ty n=>cases (show u=Value.type n from r);rfl
section
variable {P:Program}{w:World}{H:Hp}{h:Heap}{a C dx:Addr}{fs:List (Str × V)}
theorem sY(hok:HOk P w H h)(e:H a=some (.ins C dx fs)):∃c,Bf h a dx C c/\(∀f,nQ (fs.lookup f) (c f))/\PySem.Within c (fs.map (·.1))/\fs.length<=1000/\H dx=some (.own a):=by
 obtain ⟨d,z,ne,ob,c,n,r,q⟩:=(show cD P w H h a (.ins C dx fs) from hok a _ e)
 exact⟨c,⟨ob,n,ne⟩,r,q,z,d⟩
end
structure Cls(K:aad)(C:Addr):Prop where
 pg:PySem.W.plainGet K C Str.empty=true
 hd:PySem.W.hasDictIn K C=true
 po:PySem.W.plainOver K C=true
 sa:PySem.W.findIn K (.ref C) "__setattr__" = some (some (.builtin "object.__setattr__"))
theorem Cls.get{K:aad}{C:Addr}(c:Cls K C)(f:Str):PySem.W.plainGet K C f=true:=c.pg
def bW(K:aad)(C:Addr)(f:Str):Prop:=PySem.W.findIn K (.ref C) f=some none
theorem bW.Lm{K:aad}{C:Addr}{f:Str}(n:bW K C f):PySem.W.takerIn K C f=some none:=by
 unfold PySem.W.takerIn
 rw[show PySem.W.findIn K (.ref C) f=some none from n]
 rfl
structure Meth(K:aad)(C:Addr)(m:Str)(f:Addr):Prop where
 at_:PySem.W.findIn K (.ref C) m=some (some (.ref f))
 fn:PySem.W.isFn K (.ref f)=true
 kp:PySem.W.keepIn K (.ref f)=true
section
variable {X:Cx}{pins:List (Addr × Obj)}{σ:St}{H:Hp}{s:Shared}{a C dx:Addr}{fs:List (Str × V)}{f:Str}{v:V}{A:Around}{E:Value->Shared->Prop}
theorem AO{b:Bool}{Q:Value->Shared->Prop}(I:Inv X pins σ H s)(e:H a=some (.ins C dx fs))(c:Cls X.K C)(n:bW X.K C f)(l:fs.lookup f=some v)
  (h:∀u s',Inv X pins σ H s'->RelV v u->Q u s'):wpAny (model X.prog X.w) A (getAttr (.ref a) f b) Q E s:=by
 obtain ⟨i,O,r,_,_,_⟩:=sY I.hok e
 obtain ⟨u,j,g⟩:=nQ.some_of (v:=v) (o:=i f) (by rw[<- l];exact r f)
 exact get_map I.kIn O (c.get f) c.hd n j (D6 g) (h u _ (I.tok _) g)
theorem uo{m:Str}{g:Addr}{pl:Sem Bool}{Q:Value × List Value->Shared->Prop}(I:Inv X pins σ H s)(e:H a=some (.ins C dx fs))(c:Cls X.K C)(k:Meth X.K C m g)(l:fs.lookup m=none)
  (h:Q (.ref g,[.ref a]) s):wpAny (model X.prog X.w) A (getMethod (.ref a) m pl) Q E s:=by
 obtain ⟨f,O,r,_,_,_⟩:=sY I.hok e
 have hn:f m=none:=nQ.none_of (by rw[<- l];exact r m)
 exact EW I.kIn O (c.get m) k.at_ k.fn hn h
theorem A9{y:V}{u:Value}{Q:Unit->Shared->Prop}(I:Inv X pins σ H s)(e:H a=some (.ins C dx fs))(c:Cls X.K C)(n:bW X.K C f)(hl:fs.length<1000)(v:RelV y u)
  (h:∀s',Inv X pins σ (upd H a (.ins C dx (kN f y fs))) s'->Q () s'):wpAny (model X.prog X.w) A (setAttr (.ref a) f u) Q E s:=by
 obtain ⟨m,O,r,j,_,p⟩:=sY I.hok e
 have B:(fs.map (·.1)).length<=sizeLine:=by rw[mo,sizeLine_eq];omega
 refine IQ I.kIn O c.sa c.po n.Lm c.hd j B fun h' i t=>h _ ?_
 have hd:∃o,h'.get? dx=some o:=let ⟨o,_,_,e',_⟩:=i.ns;⟨o,e'⟩
 refine I.write (x:=a) (e:=dx) (by rw[e];exact True.intro) (.inr p) (fun b q hb z=>(t.2 b hb).trans z) hd ?_
 refine⟨by rw[aG O.ne];exact p,?_,O.ne,i.obj,_,i.ns,fun g=>?_,fun g F=>?_⟩
 .have:=rS f y fs;omega
 .show nQ ((kN f y fs).lookup g) (if g=f then some u else m g)
  rw[sd]
  by_cases q:g=f
  .rw[if_pos q,if_pos q];exact v
  .rw[if_neg q,if_neg q];exact r g
 .by_cases q:g=f
  .rw[q];exact (qU f y fs).1
  .refine (qU f y fs).2 g (j g fun z=>F ?_)
   show (if g=f then some u else m g)=none
   rw[if_neg q];exact z
theorem Inv.made(I:Inv X pins σ H s):Inv X pins σ (upd (upd H s.heap.objs.size (.own (s.heap.objs.size+1))) (s.heap.objs.size+1) (.ins C s.heap.objs.size []))
  { s with heap:=(s.heap.push PySem.W.emptyDict).push (PySem.W.instObj C s.heap.objs.size) }:=by
 have e1:(s.heap.push PySem.W.emptyDict).get? s.heap.objs.size=some PySem.W.emptyDict:=Heap.get?_push_size s.heap rfl
 have e2:((s.heap.push PySem.W.emptyDict).push (PySem.W.instObj C s.heap.objs.size)).get? (s.heap.objs.size+1)=some (PySem.W.instObj C s.heap.objs.size):=by
  have:=Heap.get?_push_size (s.heap.push PySem.W.emptyDict) (o:=PySem.W.instObj C s.heap.objs.size) rfl
  rwa [Heap.size_push] at this
 have g:(s.heap.push PySem.W.emptyDict).Ns s.heap.objs.size (fun _=>none):=⟨PySem.W.emptyDict,#[],_,e1,rfl,(fun e f=>absurd f (by simp)),fun _=>rfl⟩
 have h:=I.laid (a:=s.heap.objs.size) (o:=.own (s.heap.objs.size+1)) (h':=s.heap.push PySem.W.emptyDict) (t':=s.toks) (fun b u q=>Heap.get?_push_of_some _ q) (Md _) ⟨_,e1⟩
 refine h.laid (a:=s.heap.objs.size+1) (o:=.ins C s.heap.objs.size []) (t':=s.toks) (fun b u q=>Heap.get?_push_of_some _ q) (Nat.le_of_eq (Heap.size_push _ _)) ?_
 have ne:s.heap.objs.size≠s.heap.objs.size+1:=Mr (NF _)
 refine⟨by rw[aG ne,az],Nx _,ne,e2,fun _=>none,(Heap.Ns1.of_empty g).at fun o q=>Heap.get?_push_of_some _ q,fun _=>True.intro,fun y c=>absurd rfl c⟩
theorem Iu{prog:Program}{w:World}{env:Env}{e:Expr}{f:Str}{pos:Pos}{s:Shared}{Q:Value->Shared->Prop}(hb:attributeBase e f env (eval e env)=eval e env)
  (h:wpAny (model prog w) A (eval e env) (fun o c=>wpAny (model prog w) A (getAttr o f true) Q E c) E s):wpAny (model prog w) A (eval (.Attribute e f pos) env) Q E s :=
 Attribute_any_ h (by rw[arm_eval_Attribute,hb])
end
def xu(K:aad)(h:TE)(f:Str):TE:=fun g H Q=>h g H fun x c=>∃a C dx fs v,x=.ref a/\c a=some (.ins C dx fs)/\Cls K C/\bW K C f/\fs.lookup f=some v/\Q v c
def Az(K:aad)(h tv:TE)(f:Str):TS:=fun D c H=>tv c H fun y i=>h c i fun x g=>∃a C dx fs,x=.ref a/\g a=some (.ins C dx fs)/\Cls K C/\bW K C f/\fs.length<1000 /\
 D.nx c (upd g a (.ins C dx (kN f y fs)))
section
variable {X:Cx}{o e NV:Expr}{f:Str}{pos OP:Pos}{ta tv:TE}
theorem J6(o:PE X e ta)(hb:attributeBase e f X.env (eval e X.env)=eval e X.env):PE X (.Attribute e f pos) (xu X.K ta f):=by
 intro g s i H Q I h
 refine Iu hb (thn (o g s i H _ I h) fun u E ⟨x,y,t,j,a,C,dx,fs,v,ex,p,c,n,l,q⟩=>?_)
 subst ex
 obtain rfl:u=Value.ref a:=j
 exact AO t p c n l fun z B r m=>⟨v,y,r,m,q⟩
theorem KU(ha:PE X o ta)(t:PE X NV tv)(v:swapsWith NV (some (.Attribute o f OP)) pos.line X.env=pure false):PS X (.Assign [.Attribute o f OP] NV pos) (Az X.K ta tv f):=by
 intro g s i H D I h
 refine plainObj_wpAny_Assign_Attribute (thn (t g s i H _ I h) fun u j ⟨y,G,F,m,q⟩=>thn (ha g j i G _ F q) fun r L ⟨x,M,E,p,a,C,dx,fs,ex,z,c,n,l,q2⟩=>?_) v
 subst ex
 obtain rfl:r=Value.ref a:=p
 exact A9 E z c n l m fun J B=>⟨i,_,B,q2⟩
end
section
variable {X:Cx}{pins:List (Addr × Obj)}{σ:St}{H:Hp}{s:Shared}{A:Around}{E:Value->Shared->Prop}{Q:Value->Shared->Prop}{c:Value}{b:Bool}
inductive nX(K:aad)(H:Hp):V->Value->Prop where
 |non:nX K H .non (.type "NoneType")
 |bl (x:Bool):nX K H (.bl x) (.type "bool")
 |int (i:Int):nX K H (.int i) (.type "int")
 |str (x:Str):nX K H (.str x) (.type "str")
 |flt (x:UInt64):nX K H (.flt x) (.type "float")
 |lst {a:Addr}{xs:List V} (e:H a=some (.lst xs)):nX K H (.ref a) (.type "list")
 |frz {a:Addr}{o:Obj}{xs:List V} (e:H a=some (.frz o (.lst xs))):nX K H (.ref a) (.type "list")
 |tup {a:Addr}{xs:List V} (e:H a=some (.tup xs)):nX K H (.ref a) (.type "tuple")
 |dK {a:Addr}{kvs:List (Key × V)} (e:H a=some (.dK kvs)):nX K H (.ref a) (.type "dict")
 |dT {a:Addr}{kvs:List (List Key × V)} (e:H a=some (.dT kvs)):nX K H (.ref a) (.type "dict")
 |ins {a C dx:Addr}{fs:List (Str × V)} (e:H a=some (.ins C dx fs)) (cl:Cls K C) (ha:PySem.W.findIn K (.ref C) "__class__" = some (some (.builtin "object.__class__")))
   (hn:PySem.W.specialIn K (.builtin "object.__class__") "__get__" = some (some (.builtin "getset_descriptor.__get__"))) (htk:PySem.W.takesIn K (.builtin "object.__class__")=some true)
   (hm:PySem.W.mroIn K C (.type "object")=some true):nX K H (.ref a) (.ref C)
theorem DV{x:V}{u t:Value}(I:Inv X pins σ H s)(f:RelV x u)(ty:nX X.K H x t)(e:PySem.W.kitOne X.K t c=some b)(h:∀v,Q (.bool b) { s with toks:=v }) :
  wpAny (model X.prog X.w) A (call (.builtin "isinstance") [u,c]) Q E s:=by
 cases ty with
 |non=>cases (show u=Value.none from f);exact Nb PySem.W.kitx_none I.kIn True.intro e (fun z=>nomatch z) h
 |bl y=>cases (show u=Value.bool y from f);exact Nb PySem.W.kitx_bool I.kIn True.intro e (fun z=>nomatch z) h
 |int i=>obtain ⟨t,q⟩:=(show ∃t,u=Value.int i t from f);cases q;exact Nb PySem.W.kitx_int I.kIn True.intro e (fun z=>nomatch z) h
 |str y=>obtain ⟨t,q⟩:=(show ∃t,u=Value.str y t from f);cases q;exact Nb PySem.W.kitx_str I.kIn True.intro e (fun z=>nomatch z) h
 |flt y=>obtain ⟨t,q⟩:=(show ∃t,u=Value.float y t from f);cases q;exact Nb PySem.W.kitx_float I.kIn True.intro e (fun z=>nomatch z) h
 |@lst a xs g =>
  cases (show u=Value.ref a from f)
  obtain ⟨_,_,n,_,j⟩:=(show cD X.prog X.w H s.heap a (.lst xs) from I.hok a _ g)
  exact Nb PySem.W.kitx_list I.kIn ⟨_,j,rfl⟩ e (fun z=>nomatch z) h
 |@frz a ob xs g =>
  cases (show u=Value.ref a from f)
  obtain ⟨_,_,_,n,_,j⟩:=(show cD X.prog X.w H s.heap a (.frz ob (.lst xs)) from I.hok a _ g)
  exact Nb PySem.W.kitx_list I.kIn ⟨_,j,rfl⟩ e (fun z=>nomatch z) h
 |@tup a xs g =>
  cases (show u=Value.ref a from f)
  obtain ⟨_,_,_,p⟩:=(show cD X.prog X.w H s.heap a (.tup xs) from I.hok a _ g)
  obtain ⟨o,j,m,_⟩:=p
  exact Nb PySem.W.kitx_tuple I.kIn ⟨o,j,m⟩ e (fun z=>nomatch z) h
 |@dK a kvs g =>
  cases (show u=Value.ref a from f)
  obtain ⟨_,_,vs,_,p⟩:=(show cD X.prog X.w H s.heap a (.dK kvs) from I.hok a _ g)
  obtain ⟨o,es,ep,j,m,_⟩:=p
  exact Nb PySem.W.kitx_dict I.kIn ⟨o,j,m.1⟩ e (fun z=>nomatch z) h
 |@dT a kvs g =>
  cases (show u=Value.ref a from f)
  obtain ⟨_,_,xs,_,o,es,ep,j,m,_⟩:=(show cD X.prog X.w H s.heap a (.dT kvs) from I.hok a _ g)
  exact Nb PySem.W.kitx_dict I.kIn ⟨o,j,m.1⟩ e (fun z=>nomatch z) h
 |@ins a C dx fs g cl ha hn r hm =>
  cases (show u=Value.ref a from f)
  obtain ⟨F,O,_⟩:=sY I.hok g
  obtain ⟨B,J,_⟩:=O.look
  exact Nb (PySem.W.kitx_own (cl.get _) cl.hd ha hn r hm) I.kIn J e (fun z=>nomatch z) h
end
end L2
namespace L2
open PySem PySem.Spec PyProof.Rows
structure hV(k:Nat)(A:Around):Prop where
 hd:A.handled=none
 dp:A.depth+3*k+5<recursionLimit
 un:A.units+16*k+200<cLine
theorem hV.mono{j k:Nat}{A:Around}(r:hV k A)(h:j<=k):hV j A:=⟨r.hd,by have:=r.dp;omega,by have:=r.un;omega⟩
theorem hV.deeper{k:Nat}{A:Around}(r:hV (k+1) A)(env:Env):hV k (A.deeper env) :=
 ⟨r.hd,by have:=r.dp;show A.depth+1+3*k+5<_;omega,by have:=r.un;show A.units+3+16*k+200<_;omega⟩
theorem By{A:Around}{C:Addr}{us:List Value}{c:List (Str × Value)}:(A.under (.builtin "type.__call__" ⟨.ref C::us,c⟩)).depth=A.depth+1:=by
 first|rfl|simp [Around.under,Code.weight,Code.isCreation,Code.isGuard,Code.isCaller,Code.frames,Code.isFrame,guardIds]
theorem Bp{A:Around}{C:Addr}{us:List Value}{c:List (Str × Value)}:(A.under (.builtin "type.__call__" ⟨.ref C::us,c⟩)).units=A.units+1:=by
 first|rfl|simp [Around.under,Code.cUnits,Code.frames,Code.isFrame]
theorem hV.make{k:Nat}{A:Around}(r:hV (k+1) A)(C:Addr)(us:List Value)(c:List (Str × Value)):hV k (A.under (.builtin "type.__call__" ⟨.ref C::us,c⟩)) :=
 ⟨r.hd,by have:=r.dp;rw[By];omega,by have:=r.un;rw[Bp];omega⟩
theorem hV.depth{k:Nat}{A:Around}(r:hV k A):A.depth<recursionLimit:=by have:=r.dp;omega
theorem hV.units{k:Nat}{A:Around}(r:hV k A):A.units+64<cLine:=by have:=r.un;omega
def kP:TA:=fun _ H Q=>Q [] H
def cY(g:TE)(f:TA):TA:=fun c H Q=>g c H fun x i=>f c i fun xs h=>Q (x::xs) h
section
variable {X:Cx}{e:Expr}{es:List Expr}{te:TE}{t:TA}{pos:Pos}
theorem ak:PA X [] kP:=fun _ _ _ _ H Q I h=>Calls.spliced_nil ⟨[],H,I,.nil,h⟩
theorem af(ha:PE X e te)(hr:PA X es t)(n:starEach (e::es) X.env=(false,eval e X.env)::starEach es X.env:=by rfl):PA X (e::es) (cY te t):=by
 intro pos c s f H Q I h
 rw[n]
 show wpAny _ _ (spliced ((false,eval e X.env)::backTo pos (starEach es X.env))) _ _ s
 refine Calls.spliced_cons (thn (ha c s f H _ I h) fun u g ⟨x,r,p,j,m⟩=>?_)
 exact thn (hr pos c g f r _ p m) fun us v ⟨xs,q,o,i,q2⟩=>⟨x::xs,q,o,.cons j i,q2⟩
def Ls(t:TA):TE:=fun f H Q=>t f H fun xs c=>xs.length<=sizeLine/\∀p,c p=none->Q (.ref p) (upd c p (.tup xs))
def K6(t:TA):TE:=fun f H Q=>t f H fun xs c=>xs.length<=sizeLine/\∀p,c p=none->Q (.ref p) (upd c p (.lst xs))
theorem dU{x1}(h:PA X es t):PE X (.Tuple es x1 pos) (Ls t):=by
 intro c s j H Q I m
 refine wpAny_Tuple_spliced (thn (h pos c s j H _ I m) fun us f ⟨xs,i,g,r,z,q⟩=>⟨by rw[<- r.length];exact z,?_⟩)
 have n:i f.heap.objs.size=none:=g.hok.fresh (Md _)
 refine⟨.ref f.heap.objs.size,upd i f.heap.objs.size (.tup xs),g.laid (t':=f.toks) (fun b u e=>Heap.get?_push_of_some _ e) (Md _) ?_,rfl,q _ n⟩
 exact⟨z,us,r,⟨_,Heap.get?_push_size _ rfl,rfl,_,rfl⟩⟩
theorem bD(h:PA X es t):PE X (.List es pos) (K6 t):=by
 intro c s j H Q I m
 refine wpAny_List_spliced (thn (h pos c s j H _ I m) fun us f ⟨xs,i,g,r,z,q⟩=>⟨by rw[<- r.length];exact z,?_⟩)
 have n:i f.heap.objs.size=none:=g.hok.fresh (Md _)
 refine⟨.ref f.heap.objs.size,upd i f.heap.objs.size (.lst xs),g.laid (t':=f.toks) (fun b u e=>Heap.get?_push_of_some _ e) (Md _) ?_,rfl,q _ n⟩
 exact⟨z,us,0,r,Heap.get?_push_size _ rfl⟩
end
abbrev Sp:=List V->Hp->VK->XK->Prop
abbrev CXT:=List Env->Hp->Shared->XK->Value->Shared->Prop
structure BG(P:Program)(w:World)(K:aad)(mg:Str->Option Value)(base:Heap)(A:Around)(outer:List Env)(s:Shared)(H:Hp):Prop where
 frames:A.frames=some outer
 mod:Mod K mg base
 bs:∀b o,base.get? b=some o->s.heap.get? b=some o/\H b=none
 bsz:base.objs.size<=s.heap.objs.size
 qJ:s.heap.FunFrames base outer
 frf:∀b∈frs outer,H b=none
 hok:HOk P w H s.heap
 bare:AllBare s.gens
def CE(outer:List Env)(P:Program)(w:World)(H:Hp)(s:Shared)(Q:VK)(u:Value)(s':Shared):Prop :=
 ∃v H',s'.os=s.os/\AllBare s'.gens/\Un (frs outer) [] H H' s.heap s'.heap/\HOk P w H' s'.heap/\RelV v u/\Q v H'
def CR(CX:CXT)(outer:List Env)(P:Program)(w:World)(H:Hp)(s:Shared)(Q:VK)(E:XK)(r:Result)(s':Shared):Prop :=
 match r with
 |.ok (.ret u)=>CE outer P w H s Q u s'
 |.ok _=>False
 |.error e=>CX outer H s E e s'
structure bE(P:Program)(w:World)(K:aad)(mg:Str->Option Value)(base:Heap)(CX:CXT)(k:Nat)(f:Addr)(fd:FuncData)(ps:List Str)(sp:Sp):Prop where
 len:∀vs H Q E,sp vs H Q E->vs.length=ps.length
 run:∀(A:Around) (outer:List Env) (s:Shared) (H:Hp) (args:Args) (us:List Value) (vs:List V) (Q:VK) (E:XK),hV k A->BG P w K mg base A outer s H->BindsTo s fd args (ps.zip us)->Vals vs us->sp vs H Q E ->
  codeAny (model P w) A (.call (.ref f) args) (CR CX outer P w H s Q E) s
theorem BG.make{P:Program}{w:World}{K:aad}{mg:Str->Option Value}{base:Heap}{A:Around}{outer:List Env}{s:Shared}{H:Hp}(e:BG P w K mg base A outer s H)(C:Addr)(us:List Value)(c:List (Str × Value)) :
  BG P w K mg base (A.under (.builtin "type.__call__" ⟨.ref C::us,c⟩)) outer s H:=⟨by first|exact e.frames|(simpa [Around.under,Code.envs,Code.isFrame,pushEnvs] using e.frames),e.mod,e.bs,e.bsz,e.qJ,e.frf,e.hok,e.bare⟩
section
variable {X:Cx}{pins:List (Addr × Obj)}{σ:St}{H:Hp}{s s':Shared}
theorem Inv.Ax(I:Inv X pins σ H s):BG X.prog X.w X.K X.mg X.base X.A X.stack s H :=
 ⟨I.ok.frames,I.ok.mod,I.bs,Mx I.ok.bsz I.sz,I.stack,I.xM,I.hok,I.bare⟩
theorem Inv.after{Q:VK}{u:Value}(I:Inv X pins σ H s)(h:CE X.stack X.prog X.w H s Q u s'):EP X pins σ Q u s':=by
 obtain ⟨v,H',os,bare,un,hok,r,q⟩:=h
 obtain ⟨c,g,d,t,f⟩:=s'
 obtain rfl:f=s.os:=os
 exact⟨v,H',I.call (h':=c) (g':=g) (d':=d) (t':=t) (ch:=[]) un hok bare (fun b z=>absurd z (by simp)),r,q⟩
end
def pk(sp:Sp)(f:List V)(E:XK)(t:TA):TE:=fun c H Q=>t c H fun vs g=>sp (vs++f) g Q E
def yU(C:Addr)(m:Str)(sp:Sp)(h:List V)(E:XK)(g:TE)(t:TA):TE:=fun c H Q=>g c H fun x f=>∃a dx fs,x=.ref a/\f a=some (.ins C dx fs)/\fs.lookup m=none /\
 t c f fun vs i=>sp (x::(vs++h)) i Q E
def Gp(C:Addr)(sp:Sp)(g:List V)(E:XK)(t:TA):TE:=fun f H Q=>t f H fun vs c=>∀x dx,c x=none->c dx=none->dx≠x ->
 sp (.ref x::(vs++g)) (upd (upd c dx (.own x)) x (.ins C dx [])) (fun v h=>v=.non/\Q (.ref x) h) E
def Binds(K:aad)(c:FuncData)(ps:List Str)(ds:List Value):Prop :=
 ∀(s:Shared) (us:List Value),K.In s.heap->(us++ds).length=ps.length->BindsTo s c ⟨us,[]⟩ (ps.zip (us++ds))
theorem Binds.all{K:aad}{c:FuncData}{ps:List Str}(h:∀us:List Value,us.length=ps.length->bindArgs c ⟨us,[]⟩=pure (ps.zip us)):Binds K c ps []:=fun s us _ hl=>by
 rw[MV] at hl ⊢
 exact .of_eq (h us hl)
def Passes(CX:CXT)(X:Cx)(E:XK):Prop:=∀(c:List (Addr × Obj)) (f:St) (H:Hp) (s:Shared) (e:Value) (s':Shared),Inv X c f H s->CX X.stack H s E e s'->X.xe e s'
section
variable {X:Cx}{CX:CXT}{k:Nat}{f C:Addr}{fd:FuncData}{ps:List Str}{sp:Sp}{Qf:List V}{ds:List Value}{E:XK}{x m:Str}{p pos Qu:Pos}{e o:Expr}{es:List Expr}{ta:TE}{t:TA}
theorem Bl{c:List (Addr × Obj)}{i:St}{H:Hp}{s:Shared}{Q:VK}{us:List Value}{vs:List V}(F:bE X.prog X.w X.K X.mg X.base CX k f fd ps sp)(hr:hV k X.A)(hb:Binds X.K fd ps ds)(hd:Vals Qf ds)(m:Passes CX X E)
  (I:Inv X c i H s) (r:Vals vs us) (h:sp (vs++Qf) H Q E):wpAny (model X.prog X.w) X.A (call (.ref f) us) (EP X c i Q) X.xe s:=by
 have j:Vals (vs++Qf) (us++ds):=r.append hd
 have hl:(us++ds).length=ps.length:=by rw[<- j.length];exact F.len _ _ _ _ h
 refine wpAny_call (codeAny_mono (F.run X.A X.stack s H ⟨us,[]⟩ (us++ds) (vs++Qf) Q E hr I.Ax (hb s us I.kIn hl) j h) fun r s' g=>?_)
 cases r with
 |error e=>exact m c i H s e s' I g
 |ok n =>
  cases n with
  |ret u=>exact I.after g
  |next=>exact False.elim g
  |brk=>exact False.elim g
  |cont=>exact False.elim g
theorem jg(F:bE X.prog X.w X.K X.mg X.base CX k f fd ps sp)(hr:hV k X.A)(n:Gl X x)(hm:X.mg x=some (.ref f))(m:PySem.W.keepIn X.K (.ref f)=true)(hb:Binds X.K fd ps ds)(hd:Vals Qf ds)(j:Passes CX X E)
  (ha:PA X (e::es) t) (u:(x == ("__debug__" : Str))=false:=by decide) (o:starEach (e::es) X.env=(false,eval e X.env)::starEach es X.env:=by rfl) (v:(backTo pos (starEach es X.env)).any (·.1)=false:=by rfl) :
  PE X (.Call (.Name x p) (e::es) [] pos) (pk sp Qf E t):=by
 intro c s i H Q I h
 refine wpAny_Call_Name_kw (yv I n hm ?_ u)
 refine PySem.W.callWith_K (h₀:=X.base) I.ok.mod.kin m (thn (ha pos c s i H _ I h) fun us y ⟨vs,z,g,r,q⟩=>⟨g.kIn,?_⟩) o v
 exact Bl F hr hb hd j g r q
theorem B6{pl:Sem Bool}(z:PE X o ta)(c:Cls X.K C)(hm:Meth X.K C m f)(F:bE X.prog X.w X.K X.mg X.base CX k f fd ps sp)(hr:hV k X.A)(hb:Binds X.K fd ps ds)(hd:Vals Qf ds)(y:Passes CX X E)(ha:PA X (e::es) t)
  (G:starEach (e::es) X.env=(false,eval e X.env)::starEach es X.env:=by rfl) (J:(backTo pos (starEach es X.env)).any (·.1)=false:=by rfl)
  (ht:eval (.Call (.Attribute o m Qu) (e::es) [] pos) X.env=(do
   let ov <- eval o X.env
   standAt Qu.atName
   let (f,first) <- holding [ov] (getMethod ov m pl)
   callWith pos f first (backTo pos (starEach (e::es) X.env)) (backToKw pos (keywordEach [] X.env))):=by rfl) :
  PE X (.Call (.Attribute o m Qu) (e::es) [] pos) (yU C m sp Qf E ta t):=by
 intro g s i H Q I h
 refine PySem.W.methodCall_KW (pl:=pl) (thn (z g s i H _ I h) fun u p ⟨x,L,n,v,a,dx,fs,ex,B,l,q⟩=>?_) ht
 subst ex
 obtain rfl:u=Value.ref a:=v
 refine uo n B c hm l ?_
 refine PySem.W.callWith_K (first:=[.ref a]) (h₀:=X.base) I.ok.mod.kin hm.kp (thn (ha pos g p i L _ n q) fun us M ⟨vs,O,j,r,q2⟩=>⟨j.kIn,?_⟩) G J
 exact Bl (us:=.ref a::us) (vs:=.ref a::vs) F hr hb hd y j (.cons rfl r) q2
theorem yM{pl:Sem Bool}(r:PE X o ta)(c:Cls X.K C)(hm:Meth X.K C m f)(F:bE X.prog X.w X.K X.mg X.base CX k f fd ps sp)(hr:hV k X.A)(hb:Binds X.K fd ps ds)(hd:Vals Qf ds)(p:Passes CX X E)
  (ht:eval (.Call (.Attribute o m Qu) [] [] pos) X.env=(do
   let ov <- eval o X.env
   standAt Qu.atName
   let (f,first) <- holding [ov] (getMethod ov m pl)
   callWith pos f first (backTo pos (starEach [] X.env)) (backToKw pos (keywordEach [] X.env))):=by rfl) :
  PE X (.Call (.Attribute o m Qu) [] [] pos) (yU C m sp Qf E ta kP):=by
 intro g s j H Q I h
 refine PySem.W.methodCall_KW (pl:=pl) (thn (r g s j H _ I h) fun u v ⟨x,y,i,n,a,dx,fs,ex,t,l,q⟩=>?_) ht
 subst ex
 obtain rfl:u=Value.ref a:=n
 refine uo i t c hm l ?_
 exact PySem.W.callWith_K0 (first:=[.ref a]) i.kIn hm.kp (Bl (us:=[.ref a]) (vs:=[.ref a]) F hr hb hd p i (.cons rfl .nil) q)
structure Mk(K:aad)(C f:Addr):Prop where
 makes:PySem.W.makesIn K C=true
 init:PySem.W.findIn K (.ref C) "__init__" = some (some (.ref f))
 fn:PySem.W.isFn K (.ref f)=true
 kp:PySem.W.keepIn K (.ref C)=true
theorem Gi{c:List (Addr × Obj)}{j:St}{H:Hp}{s:Shared}{Q:VK}{us:List Value}{vs:List V}(M:Mk X.K C f)(F:bE X.prog X.w X.K X.mg X.base CX k f fd ps sp)(hr:hV (k+1) X.A)(hb:Binds X.K fd ps ds)(hd:Vals Qf ds)
  (p:Passes CX X E) (I:Inv X c j H s) (r:Vals vs us)
  (h:∀x dx,H x=none->H dx=none->dx≠x->sp (.ref x::(vs++Qf)) (upd (upd H dx (.own x)) x (.ins C dx [])) (fun v z=>v=.non/\Q (.ref x) z) E) :
  wpAny (model X.prog X.w) X.A (call (.ref C) us) (EP X c j Q) X.xe s:=by
 have n:=h (s.heap.objs.size+1) s.heap.objs.size (I.hok.fresh (Nd _)) (I.hok.fresh (Md _)) (Mr (NF _))
 have i:=Inv.made (C:=C) I
 have m:Vals (V.ref (s.heap.objs.size+1)::(vs++Qf)) (Value.ref (s.heap.objs.size+1)::(us++ds)):=.cons rfl (r.append hd)
 have hl:(Value.ref (s.heap.objs.size+1)::us++ds).length=ps.length:=by
  have e:=m.length
  rw[F.len _ _ _ _ n] at e
  exact e.symm
 refine wpAny_call (Fw (f:=f) I.kIn M.makes M.init (beq_iff_eq.mp M.fn) (codeAny_mono (F.run _ X.stack _ _ ⟨Value.ref (s.heap.objs.size+1)::us,[]⟩ (Value.ref (s.heap.objs.size+1)::(us++ds)) _ _ E (hr.make C us [])
  (i.Ax.make C us []) (hb _ (Value.ref (s.heap.objs.size+1)::us) i.kIn hl) m n) fun r s' g=>?_))
 cases r with
 |error e=>exact p c j _ _ e s' i g
 |ok q =>
  cases q with
  |ret u =>
   obtain ⟨v,H',y,o,t,q3⟩:=i.after g
   subst t
   exact⟨o,⟨V.ref (s.heap.objs.size+1),H',y,rfl,q3⟩⟩
  |next=>exact False.elim g
  |brk=>exact False.elim g
  |cont=>exact False.elim g
theorem BQ(M:Mk X.K C f)(F:bE X.prog X.w X.K X.mg X.base CX k f fd ps sp)(hr:hV (k+1) X.A)(m:Gl X x)(hm:X.mg x=some (.ref C))(hb:Binds X.K fd ps ds)(hd:Vals Qf ds)(j:Passes CX X E)
  (ha:PA X (e::es) t) (o:(x == ("__debug__" : Str))=false:=by decide) (n:starEach (e::es) X.env=(false,eval e X.env)::starEach es X.env:=by rfl) (u:(backTo pos (starEach es X.env)).any (·.1)=false:=by rfl) :
  PE X (.Call (.Name x p) (e::es) [] pos) (Gp C sp Qf E t):=by
 intro c s i H Q I h
 refine wpAny_Call_Name_kw (yv I m hm ?_ o)
 refine PySem.W.callWith_K (h₀:=X.base) I.ok.mod.kin M.kp (thn (ha pos c s i H _ I h) fun us v ⟨vs,y,g,r,q⟩=>⟨g.kIn,?_⟩) n u
 exact Gi M F hr hb hd j g r q
end
def PK(X:Cx)(g:List Keyword)(t:TA):Prop :=
 ∀(pos:Pos) (c:List (Addr × Obj)) (s:Shared) (f:St) (H:Hp) (Q:List V->Hp->Prop),Inv X c f H s->t f H Q->wpAny (model X.prog X.w) X.A (evalAll ((backToKw pos (keywordEach g X.env)).map (·.2))) (AP X c f Q) X.xe s
section
variable {X:Cx}{x:Str}{pos QV:Pos}{e:Expr}{RG:List Keyword}{te:TE}{t:TA}{nm:Option Str}
theorem FO:PK X [] kP:=fun _ _ _ _ H Q I h=>wpAny_evalAll_nil ⟨[],H,I,.nil,h⟩
theorem Ca(ha:PE X e te)(hr:PK X RG t):PK X (⟨nm,e,QV⟩::RG) (cY te t):=by
 intro pos c s f H Q I h
 show wpAny _ _ (evalAll ((do let v <- eval e X.env;standAt pos;pure v)::(backToKw pos (keywordEach RG X.env)).map (·.2))) _ _ s
 refine wpAny_evalAll_cons (wpAny_bind (thn (ha c s f H _ I h) fun u g ⟨x,q,o,j,m⟩=>wpAny_bind (wpAny_standAt (wpAny_pure ?_))))
 exact thn (hr pos c g f q _ o m) fun us r ⟨xs,p,n,i,q2⟩=>⟨x::xs,p,n,.cons j i,q2⟩
end
structure aH(N P:List Str)(sc:Scope):Prop where
 kind:sc.kind=.function
 co:sc.isCoroutine=false
 gen:sc.isGenerator=false
 nd:N.Nodup
 pre:N.take P.length=P
 par:∀x∈P,sc.names.lookup x=some .local\/sc.names.lookup x=some .cell
 nofree:∀y∈sc.names,y.2≠.free
theorem vT{kindOf:Str->Option NameKind}{x:Str}:∀{binds:List (Str × Value)}{m:Str->Option Value},(∀v,(x,v)∉binds)->bindL kindOf binds m x=m x
 |[],_,_=>rfl
 |(n,v)::r,m,h=>by
  unfold bindL
  rw[vT fun w hw=>h w (Fk _ hw)]
  split
  .have:x≠n:=by rintro rfl;exact h v ox
   simp [this]
  .rfl
theorem vO{kindOf:Str->Option NameKind}{x:Str}:∀{binds:List (Str × Value)}{m:Str->Option Value},(∀v,(x,v)∉binds)->bindC kindOf binds m x=m x
 |[],_,_=>rfl
 |(n,v)::r,m,h=>by
  unfold bindC
  rw[vO fun w hw=>h w (Fk _ hw)]
  split
  .rfl
  .have:x≠n:=by rintro rfl;exact h v ox
   simp [this]
theorem wL{kindOf:Str->Option NameKind}{x:Str}{v:Value}:∀{P:List Str}{vs:List Value}{i:Nat}{m:Str->Option Value},P.Nodup->P[i]?=some x->vs[i]?=some v->kindOf x=some .local ->
  bindL kindOf (P.zip vs) m x=some v
 |[],_,_,_,_,h,_,_=>by simp at h
 |_::_,[],_,_,_,_,h,_=>by simp at h
 |p::P,w::vs,0,m,nd,f,c,g=>by
  simp at f c;subst f;subst c
  show bindL kindOf ((p,w)::P.zip vs) m p=_
  unfold bindL
  rw[vT fun v j=>(Mi.mp nd).1 (List.of_mem_zip j).1,if_pos g]
  simp
 |p::P,w::vs,i+1,m,nd,f,c,g=>by
  show bindL kindOf ((p,w)::P.zip vs) m x=_
  unfold bindL
  exact wL (i:=i) (Mi.mp nd).2 (by simpa using f) (by simpa using c) g
theorem wZ{kindOf:Str->Option NameKind}{x:Str}{v:Value}:∀{P:List Str}{vs:List Value}{i:Nat}{m:Str->Option Value},P.Nodup->P[i]?=some x->vs[i]?=some v->kindOf x≠some .local ->
  bindC kindOf (P.zip vs) m x=some v
 |[],_,_,_,_,h,_,_=>by simp at h
 |_::_,[],_,_,_,_,h,_=>by simp at h
 |p::P,w::vs,0,m,nd,f,c,g=>by
  simp at f c;subst f;subst c
  show bindC kindOf ((p,w)::P.zip vs) m p=_
  unfold bindC
  rw[vO fun v j=>(Mi.mp nd).1 (List.of_mem_zip j).1,if_neg g]
  simp
 |p::P,w::vs,i+1,m,nd,f,c,g=>by
  show bindC kindOf ((p,w)::P.zip vs) m x=_
  unfold bindC
  exact wZ (i:=i) (Mi.mp nd).2 (by simpa using f) (by simpa using c) g
def start(N:List Str)(vs:List V):St:=vs.map some++List.replicate (N.length - vs.length) none
def qr(CX:CXT)(P:Program)(w:World)(K:aad)(mg:Str->Option Value)(base:Heap)(N:List Str)(qual:Str)(scope:Scope)(f:Addr)(cd:Value)(A:Around)(outer:List Env)(s:Shared)(H:Hp)(E:XK):Cx where
 prog:=P
 w:=w
 K:=K
 mg:=mg
 base:=base
 A:=A.deeper (envOfC qual scope s.heap.objs.size f cd)
 N:=N
 s₀:=s
 H₀:=H
 env:=envOfC qual scope s.heap.objs.size f cd
 outer:=outer
 stack:=envOfC qual scope s.heap.objs.size f cd::outer
 ex:=[]
 calm:=true
 fn:=fun _=>true
 pn:=[]
 xe:=fun e s'=>wpAny (model P w) (A.deeper (envOfC qual scope s.heap.objs.size f cd)) (leaving (envOfC qual scope s.heap.objs.size f cd) e) (fun _ c=>CX outer H s E e c) (fun g c=>CX outer H s E g c) s'
theorem Ah{f:Scope}{n:Nat}{x:Str}(h:f.names.lookup x=some .cell):∃c,(cellsFrom n f.names []).lookup x=some c:=by
 have q:=PySem.W.cellsFrom_some f.names n [] (.inl h)
 exact Option.isSome_iff_exists.mp q
theorem Ee{CX:CXT}{P:Program}{w:World}{K:aad}{mg:Str->Option Value}{base:Heap}{N ps:List Str}{qual:Str}{scope:Scope}{f:Addr}{cd:Value}{A:Around}{outer:List Env}{s C:Shared}{H:Hp}{E:XK}{us:List Value}{vs:List V}
  (S:aH N ps scope) (hd:A.handled=none) (j:BG P w K mg base A outer s H) (hl:vs.length=ps.length) (r:Vals vs us)
  (x:InCallC s s.heap.objs.size (bindL (envOfC qual scope s.heap.objs.size f cd).kindOf (ps.zip us) fun _=>none) (cellsFrom (s.heap.objs.size+1) scope.names []) (bindC (envOfC qual scope s.heap.objs.size f cd).kindOf (ps.zip us) fun _=>none) C) :
  Inv (qr CX P w K mg base N qual scope f cd A outer s H E) [] (start N vs) H C:=by
 have O:ps.length<=N.length:=by have:=congrArg List.length S.pre;rw[M4] at this;omega
 obtain ⟨t,L,rfl,G⟩:=x.done
 have B:∀b:Addr,b∉(qr CX P w K mg base N qual scope f cd A outer s H E).ex:=fun b z=>absurd (show b∈([]:List Addr) from z) (by simp)
 refine⟨⟨j.mod,S.kind,rfl,rfl,Md _,fun y z c t g=>?_,fun y m=>?_,fun y c _ h=>?_,fun _=>hd,Around.frames_deeper j.frames,.inr ⟨rfl,rfl⟩,fun b z=>absurd z (B b),j.bs,j.bsz,fun b _ _=>B b,fun b z=>absurd z (B b),j.qJ,j.frf⟩,
  rfl,j.bare,Un.kept G,⟨_,x.toInCall.ns,fun i y v t g M=>?_⟩,fun y c h=>⟨_,x.cell y c h⟩,j.hok.fresh (Md _),fun y c h=>?_,fun p o=>absurd (show p∈([]:List (Addr × Obj)) from o) (by simp),j.hok.kept G,?_⟩
 .exact name_of_addr x.apart (MH t) (MH g)
 .have m:scope.names.lookup y=some .cell\/scope.names.lookup y=some .free:=m
  rcases m with m|m
  .exact Ah m
  .exact absurd rfl (S.nofree _ (MH m))
 .exact N7 (x.above y c (MH h))
 .have hi:i<vs.length:=by
   unfold start at g
   by_cases hi:i<vs.length
   .exact hi
   .rw[MA (by simpa using hi)] at g
    rw[MQ] at g
    split at g<;>cases g
  have ha:vs[i]?=some v:=by
   unfold start at g
   rw[Mn (by simpa using hi),L4] at g
   cases e:vs[i]? with
   |none=>rw[e] at g;cases g
   |some a=>rw[e] at g;cases g;rfl
  obtain ⟨u,F,J⟩:=r.get ha
  have o:ps[i]?=some y:=by
   rw[<- S.pre,List.getElem?_take_of_lt (by omega)];exact t
  have I:ps.Nodup:=by rw[<- S.pre];exact S.nd.sublist (List.take_sublist _ _)
  refine⟨u,J,?_⟩
  rcases S.par y (MJ o) with k|k
  .exact .inl ⟨k,wL I o F k⟩
  .obtain ⟨c,e⟩:=Ah (n:=s.heap.objs.size+1) k
   refine .inr ⟨.inl k,c,e,?_⟩
   have q:=x.cell y c e
   rw[wZ I o F (by show scope.names.lookup y≠_;rw[k];decide)] at q
   exact q
 .exact j.hok.fresh (N7 (x.above y c (MH h)))
 .unfold start
  show _=N.length
  rw[Mg,mo,Mt]
  omega
theorem FD{CX:CXT}{P:Program}{w:World}{K:aad}{mg:Str->Option Value}{base:Heap}{k:Nat}{f:Addr}{name qual:Str}{M:Arguments}{p:List Stmt}{scope:Scope}{C kV i B c ct T:Value}{F R:Option Addr}
  {m:Array (Option Value)}{N ps:List Str}{sp:Sp} (lk:K.lookup f=some ⟨T,R,.func (PySem.W.fnOf name qual M p scope C kV i B F c ct),m⟩) (Pq:PySem.W.codeIn K c qual=true) (S:aH N ps scope)
  (len:∀vs H Q E,sp vs H Q E->vs.length=ps.length)
  (PU:∀(A:Around) (outer:List Env) (s:Shared) (H:Hp) (vs:List V) (Q:VK) (E:XK),hV k (A.deeper (envOfC qual scope s.heap.objs.size f c))->sp vs H Q E ->
   ∃t,PSs (qr CX P w K mg base N qual scope f c A outer s H E) p t/\t { nx:=fun _ H'=>Q .non H',rt:=Q } (start N vs) H) :
  bE P w K mg base CX (k+1) f (PySem.W.fnOf name qual M p scope C kV i B F c ct) ps sp:=by
 refine⟨len,fun A outer s H args us vs Q E hr h hb r G=>?_⟩
 have hl:=len _ _ _ _ G
 have O:K.In s.heap:=h.mod.kin.keeps fun b o e=>(h.bs b o e).1
 have Za:s.heap.NoLimit:=h.mod.nolimit.keeps fun b o e=>(h.bs b o e).1
 have Uo:∀y∈ps.zip us,scope.names.lookup y.1=some .local\/(scope.names.lookup y.1=some .cell/\((cellsFrom (s.heap.objs.size+1) scope.names []).lookup y.1).isSome=true):=fun ⟨n,v⟩ U=>by
  rcases S.par n (List.of_mem_zip U).1 with q|q
  .exact .inl q
  .exact .inr ⟨q,PySem.W.cellsFrom_some _ _ _ (.inl q)⟩
 refine codeAny_call_function hr.depth (O _ _ lk) rfl S.co S.gen rfl (PySem.W.codeRec_of O Pq) (hb _ _ _ _ ?_)
 refine wpAny_newFunctionEnv_cells S.kind Uo fun env Y z x=>?_
 subst Y
 refine⟨Za.keeps x.toInCall.keep,codeAny_func ?_⟩
 obtain ⟨t,ht,X⟩:=PU A outer s H vs Q E (hr.deeper _) G
 have I:Inv (qr CX P w K mg base N qual scope f c A outer s H E) [] (start N vs) H z:=Ee S hr.hd h hl r x
 refine wpAny_mono (ht [] z (start N vs) H _ I X) (fun Z s' g=>?_) fun e s' g=>g
 have L:∀{σ':St}{H':Hp}{v:V}{u:Value},Inv (qr CX P w K mg base N qual scope f c A outer s H E) [] σ' H' s'->RelV v u->Q v H'->CE outer P w H s Q u s' :=
  fun {σ' H' v u} J j q=>⟨v,H',J.os,J.bare,J.base,J.hok,j,q⟩
 cases Z with
 |ret u =>
  obtain ⟨v,σ',H',J,j,q⟩:=g
  exact L J j q
 |next =>
  obtain ⟨σ',H',J,q⟩:=g
  exact L (v:=V.non) (u:=Value.none) J rfl q
 |brk =>
  obtain ⟨_,_,_,q⟩:=g
  exact False.elim q
 |cont =>
  obtain ⟨_,_,_,q⟩:=g
  exact False.elim q
end L2
namespace L2
open PySem PySem.Spec PyProof.Rows
section
variable {X:Cx}{x:Str}{p pos:Pos}{e:Expr}{es:List Expr}{t:TA}{id T:String}{r:List V->Hp->VK->Prop}
def tCB(r:List V->Hp->VK->Prop)(t:TA):TE:=fun c H Q=>t c H fun vs f=>r vs f Q
theorem bF(q:je X (.builtin id) r)(n:Gl X x)(hm:X.mg x=none)(m:bootBuiltins x=some (.builtin id))(ha:PA X (e::es) t)(hn:x≠"__name__":=by decide)(u:(x == ("__debug__" : Str))=false:=by decide)
  (o:starEach (e::es) X.env=(false,eval e X.env)::starEach es X.env:=by rfl) (v:(backTo pos (starEach es X.env)).any (·.1)=false:=by rfl):PE X (.Call (.Name x p) (e::es) [] pos) (tCB r t):=by
 intro c s f H Q I h
 refine wpAny_Call_Name_kw (gP I n hm m ?_ hn u)
 exact PyProof.Rows.callWith_builtin1 (thn (ha pos c s f H _ I h) fun us g ⟨vs,z,y,i,j⟩=>q c g f z vs us Q y i j) o v
theorem fo(q:je X (.type T) r)(n:Gl X x)(hm:X.mg x=none)(m:bootBuiltins x=some (.type T))(ha:PA X (e::es) t)(hn:x≠"__name__":=by decide)(u:(x == ("__debug__" : Str))=false:=by decide)
  (o:starEach (e::es) X.env=(false,eval e X.env)::starEach es X.env:=by rfl) (v:(backTo pos (starEach es X.env)).any (·.1)=false:=by rfl):PE X (.Call (.Name x p) (e::es) [] pos) (tCB r t):=by
 intro c s f H Q I h
 refine wpAny_Call_Name_kw (gP I n hm m ?_ hn u)
 exact MG (thn (ha pos c s f H _ I h) fun us g ⟨vs,z,y,i,j⟩=>q c g f z vs us Q y i j) o v
end
end L2
namespace HT
open PySem PyProof.Rows
section
open PySem.SeqAt
open PySem.AutoSeq1 (wpAny_loadPart')
open PySem.MeetsSeq PySem.MeetsSeq2 PySem.MeetsSeq3
end
section
def sIx(n d:Nat):Option Int->Nat
 |none=>d
 |some v=>if v<0 then (v+(n:Int)).toNat else min v.toNat n
theorem uQ(n d:Nat):sIx n d none=d:=rfl
theorem xB(n d k:Nat):sIx n d (some (k:Int))=min k n:=by
 show (if (k:Int)<0 then ((k:Int)+(n:Int)).toNat else min (k:Int).toNat n)=min k n
 rw[if_neg (by omega),L7]
end
end HT
namespace L2
open PySem PySem.Spec PyProof.Rows
abbrev TO:=St->Hp->(Option Int->Hp->Prop)->Prop
def PO(X:Cx)(e:Option Expr)(t:TO):Prop :=
 ∀(c:List (Addr × Obj)) (s:Shared) (f:St) (H:Hp) (Q:Option Int->Hp->Prop),Inv X c f H s->t f H Q ->
  wpAny (model X.prog X.w) X.A (evalPart e X.env) (fun u s'=>∃o H',Inv X c f H' s'/\IsPart u o/\Q o H') X.xe s
def Df:TO:=fun _ H Q=>Q none H
def Je(t:TE):TO:=fun c H Q=>t c H fun x f=>∃i,x=.int i/\Q (some i) f
section
variable {X:Cx}{e:Expr}{te:TE}{lo hi:Option Expr}{tl th:TO}{pos p2:Pos}
theorem me:PO X none Df:=by
 intro c s f H Q I h
 rw[evalPart_none]
 exact wpAny_pure ⟨none,H,I,.none,h⟩
theorem jf(h:PE X e te):PO X (some e) (Je te):=by
 intro c s f H Q I hw
 rw[evalPart_some]
 refine thn (h c s f H _ I hw) fun u o ⟨x,n,m,g,j⟩=>?_
 obtain ⟨i,rfl,q⟩:=j
 obtain ⟨t,rfl⟩:=g
 exact⟨some i,n,m,.int i t,q⟩
def SlR(X:Cx)(r:V->Option Int->Option Int->Hp->VK->Prop):Prop :=
 ∀(c:List (Addr × Obj)) (s:Shared) (f:St) (H:Hp) (x:V) (v h g:Value) (lo hi:Option Int) (i:Addr) (Q:VK),Inv X c f H s->RelV x v->s.heap.IsSliceOf i h g .none->IsPart h lo->IsPart g hi->r x lo hi H Q ->
  ∃T id,typeLookup (.type T) "__getitem__" = pure (some (.builtin id))/\s.TypeIs v T/\wpAny (model X.prog X.w) X.A (getItem v (.ref i)) (EP X c f Q) X.xe s
def tSl(r:V->Option Int->Option Int->Hp->VK->Prop)(h:TE)(f g:TO):TE:=fun c H Q=>h c H fun x m=>f c m fun l j=>g c j fun u i=>r x l u i Q
theorem iQ{r:V->Option Int->Option Int->Hp->VK->Prop}(hr:SlR X r)(C:PE X e te)(hl:PO X lo tl)(z:PO X hi th):PE X (.Subscript e (.Slice lo hi none p2) pos) (tSl r te tl th):=by
 intro c s g H Q I h
 refine Subscript_ (thn (C c s g H _ I h) fun v o ⟨x,O,L,p,t⟩=>?_)
 refine wpAny_Slice (thn (hl c o g O _ L t) fun j n ⟨l,M,J,pl,q2⟩=>thn (z c n g M _ J q2) fun i f ⟨u,m,G,y,q3⟩=>?_)
 rw[evalPart_none]
 refine wpAny_pure ?_
 have F:Inv X c g m { f with heap:=f.heap.push { cls:=.type "slice",data:=.fields #[j,i,.none] } }:=G.kept (t':=f.toks) fun b ob q=>Heap.get?_push_of_some _ q
 obtain ⟨T,id,E,ht,B⟩:=hr c { f with heap:=f.heap.push { cls:=.type "slice",data:=.fields #[j,i,.none] } } g m x v j i l u f.heap.objs.size Q F p (Heap.IsSliceOf.new ..) pl y q3
 show wpAny (model X.prog X.w) X.A (subscriptTail e (.Slice lo hi none p2) v (.ref f.heap.objs.size)) (EP X c g Q) X.xe { f with heap:=f.heap.push { cls:=.type "slice",data:=.fields #[j,i,.none] } }
 exact tail_any (ops:=[.ref f.heap.objs.size,v]) ht E B (by with_unfolding_all rfl)
def Ed(xs:List V)(lo hi:Option Int):List V:=(xs.drop (HT.sIx xs.length 0 lo)).take (HT.sIx xs.length xs.length hi - HT.sIx xs.length 0 lo)
theorem yB(xs:List V)(lo hi:Option Int):(Ed xs lo hi).length<=xs.length:=by
 unfold Ed
 rw[M4,MZ]
 omega
end
end L2
namespace L2
open PySem PySem.Spec PyProof.Rows
def ixN(n:Nat)(i:Int):Option Nat:=if 0<=i then (if i<n then some i.toNat else none) else if -(n:Int)<=i then some (i+n).toNat else none
def atI{c:Type}(xs:List c)(i:Int):Option c:=(ixN xs.length i).bind fun j=>xs[j]?
theorem C3{n:Nat}{i:Int}{j:Nat}(h:ixN n i=some j):seqIndex? i n=some j/\j<n/\-(n:Int)<=i/\i<n:=by
 unfold ixN at h
 by_cases f:0<=i
 .rw[if_pos f] at h
  by_cases c:i<n
  .rw[if_pos c] at h
   have e:i.toNat=j:=MB h
   exact⟨by rw[seqIndex_of f c,e],by omega,by omega,c⟩
  .rw[if_neg c] at h;cases h
 .rw[if_neg f] at h
  by_cases c : -(n:Int)<=i
  .rw[if_pos c] at h
   have e:(i+n).toNat=j:=MB h
   exact⟨by rw[seqIndex_neg (by omega) c,e],by omega,c,by omega⟩
  .rw[if_neg c] at h;cases h
theorem Cz{c:Type}{xs:List c}{i:Int}{v:c}(h:atI xs i=some v):∃j,seqIndex? i xs.length=some j/\xs[j]?=some v/\j<xs.length/\-(xs.length:Int)<=i/\i<xs.length:=by
 unfold atI at h
 cases e:ixN xs.length i with
 |none=>rw[e] at h;cases h
 |some j =>
  rw[e] at h
  obtain ⟨n,m,g,f⟩:=C3 e
  exact⟨j,n,h,m,g,f⟩
def yj(b:Expr):Prop:=∀o i,subscripted b false o i=operate [o,i] (getItem o i)
def IxR(X:Cx)(r:R2):Prop :=
 ∀(h c:Expr) (f:List (Addr × Obj)) (s:Shared) (g:St) (H:Hp) (x y:V) (v u:Value) (Q:VK),Inv X f g H s->RelV x v->RelV y u->r x y H Q ->
  subscripted c false v u=operate [v,u] (getItem v u)->wpAny (model X.prog X.w) X.A (subscriptTail h c v u) (EP X f g Q) X.xe s
def MtR(X:Cx)(id:String)(r:V->List V->Hp->VK->Prop):Prop :=
 ∀(c:List (Addr × Obj)) (s:Shared) (f:St) (H:Hp) (x:V) (xs:List V) (v:Value) (us:List Value) (Q:VK),Inv X c f H s->RelV x v->Vals xs us->r x xs H Q ->
  wpAny (model X.prog X.w) X.A (call (.builtin id) (v::us)) (EP X c f Q) X.xe s
section
variable {X:Cx}{a b:Expr}{ta tb:TE}{pos:Pos}
theorem IZ{r:R2}(hr:IxR X r)(ha:PE X a ta)(hb:PE X b tb)(m:yj b):PE X (.Subscript a b pos) (tOp r ta tb):=by
 intro c s f H Q I h
 exact Subscript_ (J7 ha hb I h fun v u g x y o n j i q=>hr a b c g f o x y v u Q n j i q (m _ _))
def xE(K:aad):R2:=fun x y H Q=>∃p xs i v,x=.ref p/\y=.int i/\SqL K H p xs/\atI xs i=some v/\Q v H
def yb(K:aad):R2:=fun x y H Q=>∃p xs i v,x=.ref p/\y=.int i/\SqT K H p xs/\atI xs i=some v/\Q v H
theorem Hz:IxR X (xE X.K):=by
 intro U g c s m H x y v u Q I F E h n
 obtain ⟨p,xs,i,z,rfl,rfl,G,J,q⟩:=h
 cases F
 obtain ⟨t,rfl⟩:=E
 obtain ⟨R,r,pl,S⟩:=I.list G
 obtain ⟨j,f,O,T,M,L⟩:=Cz J
 obtain ⟨w,B,P⟩:=r.get O
 have hl:=r.length
 have hn:=xU
 have C:EP X c m Q w s:=⟨z,H,I,P,q⟩
 by_cases o:0<=i
 .have hj:i.toNat=j:=by
   rw[seqIndex_of o L] at f
   exact MB f
  exact item_listR pl.isList o (by omega) (by rw[hj];simpa using B) C n
 .have hj:(i+(R.toArray.size:Int)).toNat=j:=by
   rw[seqIndex_neg (by omega) M] at f
   rw[Mq,<- hl]
   exact MB f
  exact subscriptTail_builtinR (x:=w) pl.isList.typeIs slot_list_getitem.lookup
   (wpAny_getItem_list_neg (Q:=fun r s'=>r=w/\EP X c m Q r s') pl.isList (by omega) (by rw[Mq]<;>omega) (by omega) (by rw[hj];simpa using B) ⟨rfl,C⟩) n
theorem JM:IxR X (yb X.K):=by
 intro S f c s g H x y v u Q I n m h o
 obtain ⟨p,xs,i,z,rfl,rfl,B,C,q⟩:=h
 cases n
 obtain ⟨t,rfl⟩:=m
 obtain ⟨T,r,pl,M⟩:=I.tuple B
 obtain ⟨j,F,E,R,P,O⟩:=Cz C
 obtain ⟨w,G,J⟩:=r.get E
 have hl:=r.length
 have hn:=xU
 have L:EP X c g Q w s:=⟨z,H,I,J,q⟩
 exact subscriptTail_builtinR (x:=w) pl.typeIs slot_tuple_getitem.lookup
  (getItem_tuple (j:=j) (Q:=fun r s'=>r=w/\EP X c g Q r s') pl (by omega) (by omega) (by rw[Mq,<- hl];exact F) (by simpa using G) ⟨rfl,L⟩) o
theorem Bu(c:List Value)(n j:Nat)(u:Value):Obj.mapSeq (·.setIfInBounds j u) { cls:=.type "list",data:=.seq c.toArray n }={ cls:=.type "list",data:=.seq (c.set j u).toArray n }:=by
 simp [Obj.mapSeq]
theorem Inv.lst{c:List (Addr × Obj)}{g:St}{H:Hp}{s:Shared}{p:Addr}{xs:List V}(I:Inv X c g H s)(h:H p=some (.lst xs)) :
  ∃(f:List Value) (n:Nat),Vals xs f/\s.heap.get? p=some { cls:=.type "list",data:=.seq f.toArray n }/\xs.length<=sizeLine:=by
 obtain ⟨z,f,n,r,e⟩:=I.hok p _ h
 exact⟨f,n,r,e,z⟩
theorem Inv.JU{c:List (Addr × Obj)}{i:St}{H:Hp}{s:Shared}{p:Addr}{xs ys:List V}{m its':List Value}{n g:Nat}{f:Obj->Obj}(I:Inv X c i H s)(h:H p=some (.lst xs))
  (v:s.heap.get? p=some { cls:=.type "list",data:=.seq m.toArray n }) (j:f { cls:=.type "list",data:=.seq m.toArray n }={ cls:=.type "list",data:=.seq its'.toArray g }) (r:Vals ys its') (o:ys.length<=sizeLine) (t:Nat) :
  Inv X c i (upd H p (.lst ys)) { s with heap:=s.heap.update p f,toks:=t }:=by
 have e:(s.heap.update p f).get? p=some { cls:=.type "list",data:=.seq its'.toArray g }:=by
  rw[Heap.get?_update_self f v (by rw[j]<;>rfl),j]
 refine I.write (x:=p) (e:=p) (by rw[h];trivial) (.inl rfl) (fun b u hb q=>(Heap.get?_update_other _ _ (MF hb)).trans q) ⟨_,e⟩ ?_
 exact⟨o,its',g,r,e⟩
def wk:V->V->V->Hp->(Hp->Prop)->Prop:=fun o i v H Q=>∃p xs k j,o=.ref p/\i=.int k/\H p=some (.lst xs)/\ixN xs.length k=some j/\Q (upd H p (.lst (xs.set j v)))
theorem set_list:LD X wk:=by
 intro c s F H o i v M O u Q I J ri G h
 obtain ⟨p,xs,k,j,rfl,rfl,x,hj,q⟩:=h
 cases J
 obtain ⟨t,rfl⟩:=ri
 obtain ⟨C,n,r,g,L⟩:=I.lst x
 obtain ⟨f,P,z,y⟩:=C3 hj
 have hl:=r.length
 have hn:=xU
 have E:Inv X c F (upd H p (.lst (xs.set j v))) { s with heap:=s.heap.update p (Obj.mapSeq (·.setIfInBounds j u)) } :=
  I.JU x g (Bu C n j u) (r.set G j) (by rw[MM];exact L) s.toks
 by_cases B:0<=k
 .have m:k.toNat=j:=by
   rw[seqIndex_of B y] at f
   exact MB f
  exact PySem.W.ki_setAt g B (by omega) (by rw[Mq,<- hl];exact y) (by rw[m];exact⟨_,E,q⟩)
 .have m:(k+(C.toArray.size:Int)).toNat=j:=by
   rw[seqIndex_neg (by omega) z] at f
   rw[Mq,<- hl]
   exact MB f
  exact PySem.W.ki_setBack g (by omega) (by rw[Mq,<- hl];exact z) (by omega) (by rw[m];exact⟨_,E,q⟩)
theorem yc(lo hi:Option Int)(n:Nat):(sliceBounds lo hi none n).1=((HT.sIx n 0 lo:Nat):Int)/\(sliceBounds lo hi none n).2.1=((HT.sIx n n hi:Nat):Int)/\(sliceBounds lo hi none n).2.2=1:=by
 refine⟨?_,?_,rfl⟩
 .cases lo with
  |none=>simp [sliceBounds,HT.sIx]
  |some i =>
   simp only[sliceBounds,HT.sIx,Option.getD_none,show (1:Int)>0 by decide,if_true]
   by_cases h:i<0
   .simp only[h,if_true]<;>omega
   .simp only[h,if_false]<;>omega
 .cases hi with
  |none=>simp [sliceBounds,HT.sIx]
  |some i =>
   simp only[sliceBounds,HT.sIx,Option.getD_none,show (1:Int)>0 by decide,if_true]
   by_cases h:i<0
   .simp only[h,if_true]<;>omega
   .simp only[h,if_false]<;>omega
theorem vG(c:List Value)(lo hi:Option Int):slicePick c.toArray lo hi none=((c.drop (HT.sIx c.length 0 lo)).take (HT.sIx c.length c.length hi - HT.sIx c.length 0 lo)).toArray:=by
 obtain ⟨h,g,f⟩:=yc lo hi c.toArray.size
 unfold slicePick
 rw[h,g,f]
 simp only[sliceRange_one,pick_run,Mq]<;>rfl
def JH(K:aad):V->Option Int->Option Int->Hp->VK->Prop:=fun x lo hi H Q=>∃a xs,x=.ref a/\SqL K H a xs/\∀p,H p=none->Q (.ref p) (upd H p (.lst (Ed xs lo hi)))
theorem Hn:SlR X (JH X.K):=by
 intro c s p H x v u t lo hi y Q I f m pl g h
 obtain ⟨a,xs,rfl,j,q⟩:=h
 cases f
 obtain ⟨z,r,ht,i⟩:=I.list j
 have n:=r.length
 refine⟨"list",_,slot_list_getitem.lookup,ht.isList.typeIs,?_⟩
 refine wpAny_getItem_list_slice ht.isList m pl g .none (by simp) ?_ (by rw[Mq]<;>omega)
 rw[vG,<- n]
 refine⟨.ref s.heap.objs.size,_,I.laid (t':=s.toks) (o:=.lst (Ed xs lo hi)) (fun b ob q=>Heap.get?_push_of_some _ q) (Md _) ?_,rfl,q _ (I.hok.fresh (Md _))⟩
 exact⟨Mx (yB xs lo hi) i,_,0,(r.drop (HT.sIx xs.length 0 lo)).take (HT.sIx xs.length xs.length hi - HT.sIx xs.length 0 lo),Heap.get?_push_size _ rfl⟩
def ib:V->Bool
 |.non=>true
 |.bl _=>true
 |.int _=>true
 |.str _=>true
 |_=>false
def eqV:V->V->Bool
 |.non,.non=>true
 |.bl a,.bl b=>a == b
 |.bl a,.int b=>(if a then 1 else 0) == b
 |.int a,.bl b=>a == (if b then 1 else 0)
 |.int a,.int b=>a == b
 |.str a,.str b=>a == b
 |_,_=>false
theorem JA{A:Around}{s:Shared}{y x:V}{u v:Value}(f:RelV y u)(c:RelV x v)(h:ib y=true)(g:ib x=true):SeqAt.EqAt A s u v (eqV y x):=by
 cases y with
 |non =>
  cases f
  cases x with
  |non=>cases c;exact SeqAt.EqAt.same _
  |bl b=>cases c;exact SeqAt.EqAt.none_bool b
  |int b=>obtain ⟨t,rfl⟩:=c;exact SeqAt.EqAt.none_int b t
  |str b=>obtain ⟨t,rfl⟩:=c;exact SeqAt.EqAt.none_str b t
  |_=>exact absurd (show false=true from g) Mj
 |bl a =>
  cases f
  cases x with
  |non=>cases c;exact SeqAt.EqAt.bool_none a
  |bl b=>cases c;exact SeqAt.EqAt.bool_bool a b
  |int b=>obtain ⟨t,rfl⟩:=c;exact SeqAt.EqAt.bool_int a b t
  |str b=>obtain ⟨t,rfl⟩:=c;exact SeqAt.EqAt.bool_str a b t
  |_=>exact absurd (show false=true from g) Mj
 |int a =>
  obtain ⟨t',rfl⟩:=f
  cases x with
  |non=>cases c;exact SeqAt.EqAt.int_none a t'
  |bl b=>cases c;exact SeqAt.EqAt.int_bool a t' b
  |int b=>obtain ⟨t,rfl⟩:=c;exact SeqAt.EqAt.int_int a t' b t
  |str b=>obtain ⟨t,rfl⟩:=c;exact SeqAt.EqAt.int_str a t' b t
  |_=>exact absurd (show false=true from g) Mj
 |str a =>
  obtain ⟨t',rfl⟩:=f
  cases x with
  |non=>cases c;exact SeqAt.EqAt.str_none a t'
  |bl b=>cases c;exact SeqAt.EqAt.str_bool a t' b
  |int b=>obtain ⟨t,rfl⟩:=c;exact SeqAt.EqAt.str_int a t' b t
  |str b=>obtain ⟨t,rfl⟩:=c;exact SeqAt.EqAt.str_str a t' b t
  |_=>exact absurd (show false=true from g) Mj
 |_=>exact absurd (show false=true from h) Mj
def eqU(x:V)(u:Value):Bool:=match u with
 |.none=>eqV .non x
 |.bool b=>eqV (.bl b) x
 |.int i _=>eqV (.int i) x
 |.str z _=>eqV (.str z) x
 |_=>false
theorem Bi{x y:V}{u:Value}(r:RelV y u)(f:ib y=true):eqU x u=eqV y x:=by
 cases y with
 |non=>cases r;rfl
 |bl b=>cases r;rfl
 |int i=>obtain ⟨t,rfl⟩:=r;rfl
 |str z=>obtain ⟨t,rfl⟩:=r;rfl
 |_=>exact absurd (show false=true from f) Mj
theorem pS{x:V}:∀{xs:List V}{us:List Value},Vals xs us->xs.all ib=true->us.any (eqU x)=xs.any fun y=>eqV y x
 |_,_,.nil,_=>rfl
 |y::xs,u::us,.cons r t,f=>by
  rw[Of,M5] at f
  rw[List.any_cons,List.any_cons,Bi r f.1,pS t f.2]
theorem lO{A:Around}{s:Shared}{x:V}{v:Value}(g:RelV x v)(h:ib x=true):∀{xs:List V}{us:List Value},Vals xs us->xs.all ib=true->∀u∈us,SeqAt.EqAt A s u v (eqU x u)
 |_,_,.nil,_=>fun u c=>by cases c
 |y::xs,u::us,.cons r t,f=>fun i c=>by
  rw[Of,M5] at f
  rcases L6.mp c with rfl|c
  .rw[Bi r f.1];exact JA r g f.1 h
  .exact lO g h t f.2 i c
def inV(x:V)(xs:List V):Bool:=xs.any fun y=>eqV y x
def rIn(K:aad)(c:Bool):R2:=fun x y H Q=>∃p xs,y=.ref p/\(SqL K H p xs\/SqT K H p xs)/\ib x=true/\xs.all ib=true/\Q (.bl (if c then !inV x xs else inV x xs)) H
theorem Dj:OpR X (compareOp .In) (rIn X.K false):=by
 intro i s o H x y v u Q I g m h
 obtain ⟨p,xs,rfl,c,j,fs,q⟩:=h
 cases m
 rcases c with c|c
 .obtain ⟨f,r,pl,n⟩:=I.list c
  refine SeqAt.in_listAt (eqU x) pl.isList (fun w hw=>lO g j r fs w (by simpa using hw)) ⟨.bl _,H,I,rfl,?_⟩
  rw[show f.toArray.any (eqU x)=f.any (eqU x) by simp,pS r fs]
  exact q
 .obtain ⟨f,r,pl,n⟩:=I.tuple c
  refine SeqAt.in_tupleAt (eqU x) pl (fun w hw=>lO g j r fs w (by simpa using hw)) ⟨.bl _,H,I,rfl,?_⟩
  rw[show f.toArray.any (eqU x)=f.any (eqU x) by simp,pS r fs]
  exact q
theorem xC:OpR X (compareOp .NotIn) (rIn X.K true):=by
 intro i s o H x y v u Q I g m h
 obtain ⟨p,xs,rfl,c,j,fs,q⟩:=h
 cases m
 rcases c with c|c
 .obtain ⟨f,r,pl,n⟩:=I.list c
  refine SeqAt.notIn_listAt (eqU x) pl.isList (fun w hw=>lO g j r fs w (by simpa using hw)) ⟨.bl _,H,I,rfl,?_⟩
  rw[show f.toArray.any (eqU x)=f.any (eqU x) by simp,pS r fs]
  exact q
 .obtain ⟨f,r,pl,n⟩:=I.tuple c
  refine SeqAt.notIn_tupleAt (eqU x) pl (fun w hw=>lO g j r fs w (by simpa using hw)) ⟨.bl _,H,I,rfl,?_⟩
  rw[show f.toArray.any (eqU x)=f.any (eqU x) by simp,pS r fs]
  exact q
theorem yk:je X (.builtin "len") (fun xs H Q=>∃p ys,xs=[.ref p]/\(SqL X.K H p ys\/SqT X.K H p ys)/\Q (.int ys.length) H):=by
 intro i s o H xs us Q I r h
 obtain ⟨p,ys,rfl,c,q⟩:=h
 obtain ⟨u,rfl,j⟩:=vals1 r
 cases j
 have hn:=xU
 rcases c with c|c
 .obtain ⟨n,f,pl,m⟩:=I.list c
  have g:=f.length
  exact Calls.call_len_list pl.isList (by simp only[Mq]<;>omega) ⟨.int ys.length,H,I.tok _,⟨s.toks+1,by rw[Mq,g]⟩,q⟩
 .obtain ⟨n,f,pl,m⟩:=I.tuple c
  have g:=f.length
  exact len_tuple pl (by simp only[Mq]<;>omega) ⟨.int ys.length,H,I.tok _,⟨s.toks+1,by rw[Mq,g]⟩,q⟩
theorem xo:je X (.type "list") (fun xs H Q=>∃p ys,xs=[.ref p]/\(SqL X.K H p ys\/SqT X.K H p ys)/\∀l,H l=none->Q (.ref l) (upd H l (.lst ys))):=by
 intro i s z H xs us Q I r h
 obtain ⟨p,ys,rfl,m,q⟩:=h
 obtain ⟨u,rfl,B⟩:=vals1 r
 cases B
 have y:∀(c:List Value),Vals ys c->ys.length<=sizeLine->∀(h':Heap) (g:Nat),(∀b x,s.heap.get? b=some x->h'.get? b=some x) ->
   h'.get? s.heap.objs.size=some { cls:=.type "list",dict:=none,data:=.seq c.toArray g,slots:=#[] }->EP X i z Q (.ref s.heap.objs.size) { s with heap:=h' }:=fun c f j h' g kp e =>
  ⟨.ref s.heap.objs.size,_,I.laid (t':=s.toks) kp (Md _) (show cD X.prog X.w _ h' _ (.lst ys) from ⟨j,c,g,f,e⟩),rfl,q _ (I.hok.fresh (Md _))⟩
 rcases m with m|m
 .obtain ⟨c,f,pl,j⟩:=I.list m
  have C:=f.length
  obtain ⟨o,t,v,n,hd⟩:=pl.isList
  exact call_list_seq p (.inl rfl) t v hd (fun h' g kp e=>y c f j h' g kp e) (by simp only[Mq]<;>omega)
 .obtain ⟨c,f,pl,j⟩:=I.tuple m
  have C:=f.length
  obtain ⟨o,t,v,n,hd⟩:=pl
  exact call_list_seq p (.inr rfl) t v hd (fun h' g kp e=>y c f j h' g kp e) (by simp only[Mq]<;>omega)
def tyV(K:aad)(T:String)(x:V)(H:Hp):Prop:=match x with
 |.str _=>T = "str"
 |.int _=>T = "int"
 |.ref p=>(T = "list"/\∃xs,SqL K H p xs)\/(T = "tuple"/\∃o,K.lookup p=some o/\o.cls=.type "tuple"/\o.dict=none) \/
   (T = "dict"/\((∃kvs,H p=some (.dK kvs))\/∃kvs,H p=some (.dT kvs)))\/(T = "set"/\∃S n,H p=some (.set S n))
 |_=>False
theorem Kb{g:List (Addr × Obj)}{h:St}{H:Hp}{s:Shared}{T:String}{x:V}{v:Value}(I:Inv X g h H s)(r:RelV x v)(ty:tyV X.K T x H) :
  s.TypeIs v T/\∀a,v=.ref a->∃ob,s.heap.get? a=some ob/\ob.dict=none:=by
 cases x with
 |str z =>
  obtain ⟨t,rfl⟩:=r
  cases (show T = "str" from ty)
  exact⟨typeIs_str s z t,fun _ e=>nomatch e⟩
 |int i =>
  obtain ⟨t,rfl⟩:=r
  cases (show T = "int" from ty)
  exact⟨typeIs_int s i t,fun _ e=>nomatch e⟩
 |ref p =>
  cases r
  rcases ty with ⟨rfl,xs,j⟩|⟨rfl,o,f,m,hd⟩|⟨rfl,f⟩|⟨rfl,S,n,f⟩
  .obtain ⟨q,_,pl,_⟩:=I.list j
   refine⟨pl.isList.typeIs,fun a e=>?_⟩
   cases e
   obtain ⟨o,n,e,c,hd,_⟩:=pl
   exact⟨o,e,hd⟩
  .refine⟨⟨o,I.kIn p o f,m⟩,fun a e=>?_⟩
   cases e
   exact⟨o,I.kIn _ o f,hd⟩
  .have z:∃o,s.heap.get? p=some o/\o.ExactDict:=by
    rcases f with ⟨kvs,f⟩|⟨kvs,f⟩
    .obtain ⟨_,_,_,_,o,_,_,e,ex,_⟩:=I.hok p _ f
     exact⟨o,e,ex⟩
    .obtain ⟨_,_,_,_,o,_,_,e,ex,_⟩:=I.hok p _ f
     exact⟨o,e,ex⟩
   obtain ⟨o,e,ex⟩:=z
   refine⟨⟨o,e,ex.1⟩,fun a e2=>?_⟩
   cases e2
   exact⟨o,e,ex.2.1⟩
  .obtain ⟨o,_,_,_,e,ex,_⟩:=I.hok p _ f
   refine⟨⟨o,e,ex.1⟩,fun a e2=>?_⟩
   cases e2
   exact⟨o,e,ex.2.1⟩
 |_=>exact False.elim ty
def tBM(K:aad)(T:String)(r:V->List V->Hp->VK->Prop)(g:TE)(t:TA):TE:=fun c H Q=>g c H fun x f=>tyV K T x f/\t c f fun xs h=>r x xs h Q
variable {o e:Expr}{es:List Expr}{to:TE}{t:TA}{name:Str}{Qu PL:Pos}{T id:String}{r:V->List V->Hp->VK->Prop}
theorem ia(pa:PlainAttrs T)(slot:Slot T name id)(C:typeOf (.builtin id)=pure (.type "method_descriptor"))(hm:MtR X id r)(y:PE X o to)(ha:PA X (e::es) t)
  (F:attributeBase o name X.env (eval o X.env)=eval o X.env:=by rfl)
  (E:((backTo PL (starEach (e::es) X.env)).all (fun x=>!x.1) && (backToKw PL (keywordEach [] X.env)).all (fun x=>x.1.isSome)
   && decide ((e::es).length+([]:List Keyword).length+(if ([]:List Keyword).isEmpty then 0 else 1)<30))=true:=by rfl)
  (G:(Qu.endLine == PL.line)=true:=by rfl) (u:starEach (e::es) X.env=(false,eval e X.env)::starEach es X.env:=by rfl) (J:(backTo PL (starEach es X.env)).any (·.1)=false:=by rfl) :
  PE X (.Call (.Attribute o name Qu) (e::es) [] PL) (tBM X.K T r to t):=by
 intro c s f H Q I h
 refine wpAny_Call_method_late F E G rfl (thn (y c s f H _ I h) fun v n ⟨x,O,j,g,ty,q⟩=>?_)
 obtain ⟨B,z⟩:=Kb j g ty
 refine⟨T,id,pa,slot,C,B,z,?_⟩
 have i:=ha PL c n f O _ j q
 rw[u] at i ⊢
 refine Calls.callWith_builtin (by show (false || (backTo PL (starEach es X.env)).any (·.1))=false;rw[J]<;>rfl) (Calls.evalArgs_plain ?_)
 exact thn i fun us m ⟨vs,M,L,p,q2⟩=>hm c m f M x vs v us Q L g p q2
end
end L2
namespace L2
open PySem PySem.Spec PyProof.Rows
def MtM(X:Cx)(id:String)(r:V->List V->Hp->VK->Prop):Prop :=
 ∀(c:List (Addr × Obj)) (s:Shared) (f:St) (H:Hp) (x:V) (xs:List V) (v:Value) (us:List Value) (Q:VK),Inv X c f H s->RelV x v->Vals xs us->r x xs H Q ->
  wpAny (model X.prog X.w) X.A (call (.builtin id) (v::us)) (EP X c f Q) X.xe s
theorem Vals.one:∀{x:V}{us:List Value},Vals [x] us->∃u,us=[u]/\RelV x u
 |_,_,.cons r .nil=>⟨_,rfl,r⟩
theorem Vals.reverse{xs:List V}{us:List Value}(h:Vals xs us):Vals xs.reverse us.reverse:=by
 induction h with
 |nil=>exact .nil
 |cons r t ih=>rw[List.reverse_cons,List.reverse_cons];exact Vals.append ih (.cons r .nil)
theorem Vals.rep{xs:List V}{us:List Value}(h:Vals xs us):∀k:Nat,Vals (List.replicate k xs).flatten (List.replicate k us).flatten
 |0=>.nil
 |k+1=>by
  rw[M8,M8,Oz,Oz]
  exact Vals.append h (Vals.rep h k)
theorem foldl_rep(c:List Value):∀(k:Nat) (acc:List Value),
  List.foldl (fun g f=>g++f) acc.toArray (List.replicate k c.toArray)=(acc++(List.replicate k c).flatten).toArray
 |0,acc=>by simp
 |k+1,acc=>by
  have e:acc.toArray++c.toArray=(acc++c).toArray:=by simp
  have e2:(acc++c)++(List.replicate k c).flatten=acc++(List.replicate (k+1) c).flatten:=by
   rw[M8,Oz,MW]
  rw[<- e2,<- foldl_rep c k (acc++c),<- e,M8,List.foldl_cons]
section
variable {X:Cx}{pins:List (Addr × Obj)}{σ:St}{H:Hp}{s:Shared}{l b:Addr}{xs ys:List V}
theorem Inv.Lx{c its':List Value}{n:Nat}{f:Array Value->Array Value}{t':Nat}(I:Inv X pins σ H s)(m:H l=some (.lst xs))
  (e:s.heap.get? l=some { cls:=.type "list",data:=.seq c.toArray n }) (j:f c.toArray=its'.toArray) (h:Vals ys its') (g:ys.length<=sizeLine) :
  Inv X pins σ (upd H l (.lst ys)) { s with heap:=s.heap.update l (Obj.mapSeq f),toks:=t' }:=by
 have q:=PySem.IsL.update e f
 rw[j] at q
 refine I.write (x:=l) (e:=l) (by rw[m];exact trivial) (.inl rfl) (fun o u hb i=>(Heap.get?_update_other s.heap (Obj.mapSeq f) (MF hb)).trans i) ⟨_,q⟩ ?_
 exact⟨g,its',_,h,q⟩
theorem Inv.HS{c:List Value}{t':Nat}(I:Inv X pins σ H s)(g:Vals ys c)(f:ys.length<=sizeLine) :
  Inv X pins σ (upd H s.heap.objs.size (.lst ys)) { s with heap:=s.heap.push { cls:=.type "list",data:=.seq c.toArray },toks:=t' } :=
 I.laid (fun _ _ q=>Heap.get?_push_of_some _ q) (Md _) ⟨f,c,0,g,Heap.get?_push_size _ rfl⟩
theorem Inv.fresh(I:Inv X pins σ H s):H s.heap.objs.size=none:=I.hok.fresh (Md _)
theorem Inv.Bh(I:Inv X pins σ H s)(f:H l=some (.lst xs)):xs.length<=sizeLine/\∃(c:List Value) (n:Nat),Vals xs c/\xs.length=c.length/\s.heap.get? l=some { cls:=.type "list",data:=.seq c.toArray n }:=by
 obtain ⟨z,c,n,r,e⟩:=I.hok l _ f
 exact⟨z,c,n,r,r.length,e⟩
theorem yJ{n:Nat}(h:n<=sizeLine):Builtin.List.listTooLong n=false:=by
 unfold Builtin.List.listTooLong
 exact decide_eq_false (by omega)
end
section
variable {X:Cx}
def CK:V->List V->Hp->VK->Prop:=fun x vs H Q=>∃l xs y,x=.ref l/\vs=[y]/\H l=some (.lst xs)/\xs.length<sizeLine/\Q .non (upd H l (.lst (xs++[y])))
theorem bQ:MtM X "list.append" CK:=by
 intro c s o H x vs v us Q I i j h
 obtain ⟨l,xs,y,rfl,rfl,f,p,q⟩:=h
 cases i
 obtain ⟨u,rfl,m⟩:=j.one
 obtain ⟨z,g,n,r,hl,e⟩:=I.Bh f
 refine call_meets F.slot_list_append ⟨_,e,rfl⟩ F.entry_list_append (F.args_list_append_2 _ _) (PySem.list_append l g.toArray n u (by rw[Mq];omega)) ⟨e,?_⟩
 refine⟨.non,_,I.Lx (its':=g++[u]) f e (by simp) (r.append (.cons m .nil)) ?_,rfl,q⟩
 rw[Mg,NU]
 omega
def Cb:V->List V->Hp->VK->Prop:=fun x vs H Q=>∃l b xs c,x=.ref l/\vs=[.ref b]/\H l=some (.lst xs)/\H b=some (.lst c)/\xs.length+c.length<=sizeLine/\Q .non (upd H l (.lst (xs++c)))
theorem D0:MtM X "list.extend" Cb:=by
 intro g s B H x vs v us Q I j m h
 obtain ⟨l,b,xs,C,rfl,rfl,i,t,G,q⟩:=h
 cases j
 obtain ⟨u,rfl,o⟩:=m.one
 cases o
 obtain ⟨z,c,n,r,hl,e⟩:=I.Bh i
 obtain ⟨E,f,n2,p,J,e2⟩:=I.Bh t
 have hsz:c.toArray.size+f.toArray.size<=sizeLine:=by rw[Mq,Mq];omega
 have y:¬ (!c.toArray.isEmpty && Builtin.List.listTooLong (c.toArray.size+f.toArray.size))=true:=by
  rw[yJ hsz,Bool.and_false]
  exact Mj
 refine call_meets F.slot_list_extend ⟨_,e,rfl⟩ F.entry_list_extend (F.args_list_extend_2 _ _)
  (AutoSeq1.list_extend_list_list_0 l c.toArray n b f.toArray n2 y (by rw[Mq];omega) (by omega)) ⟨e,e2,?_⟩
 refine⟨.non,_,I.Lx (its':=c++f) i e (by simp) (r.append p) ?_,rfl,q⟩
 rw[Mg]
 omega
def JV:R2:=fun x y H Q=>∃l b xs c,x=.ref l/\y=.ref b/\H l=some (.lst xs)/\H b=some (.lst c)/\xs.length+c.length<=sizeLine/\∀p,H p=none->Q (.ref p) (upd H p (.lst (xs++c)))
theorem AY:OpR X (binaryOp .Add) JV:=by
 intro c s B H x y v u Q I j i h
 obtain ⟨l,b,xs,C,rfl,rfl,o,p,F,q⟩:=h
 cases j
 cases i
 obtain ⟨z,g,n,r,hl,e⟩:=I.Bh o
 obtain ⟨E,f,n2,m,G,e2⟩:=I.Bh p
 refine PySem.P.add_list e e2 ?_ (by rw[Mq,Mq];omega)
 have t:g.toArray++f.toArray=(g++f).toArray:=by simp
 rw[t]
 exact⟨.ref _,_,I.HS (t':=s.toks) (r.append m) (by rw[Mg];omega),rfl,q _ I.fresh⟩
def Lq:R2:=fun x y H Q=>∃l k xs,x=.ref l/\y=.int k/\H l=some (.lst xs)/\-(2 ^ 63)<=k/\k<2 ^ 63/\xs.length*k.toNat<=sizeLine /\
 ∀p,H p=none->Q (.ref p) (upd H p (.lst (List.replicate k.toNat xs).flatten))
theorem len_rep{c:Type}(xs:List c)(k:Nat):(List.replicate k xs).flatten.length=k*xs.length:=by
 induction k with
 |zero=>simp
 |succ k ih=>rw[M8,Oz,Mg,ih,Nat.succ_mul,Nat.add_comm]
theorem Gx:OpR X (binaryOp .Mult) Lq:=by
 intro i s R H x y v u Q I p o h
 obtain ⟨l,k,xs,rfl,rfl,B,E,C,j,q⟩:=h
 cases p
 obtain ⟨t,rfl⟩:=o
 obtain ⟨z,c,n,r,hl,e⟩:=I.Bh B
 have P:c.toArray.size*k.toNat<=sizeLine:=by rw[Mq,<- hl];exact j
 have M:¬ c.toArray.size*k.toNat>(2 ^ 63 - 1) / 8:=by
  have:(sizeLine:Nat)<=(2 ^ 63 - 1) / 8:=by decide
  omega
 have J:¬ (!Builtin.List.listFitsIndex k)=true:=by
  rw[fitsIndex_both E C]
  exact Mj
 have O:¬ Builtin.List.listTooLong (c.toArray.size*k.toNat)=true:=by
  rw[yJ P]
  exact Mj
 have L:List.foldl (fun g f=>g++f) #[] (List.replicate (if c.toArray.isEmpty=true then 0 else k.toNat) c.toArray)=(List.replicate k.toNat c).flatten.toArray:=by
  have G:∀m:Nat,List.foldl (fun g f=>g++f) #[] (List.replicate m c.toArray)=(List.replicate m c).flatten.toArray:=fun m=>by
   have:=foldl_rep c m []
   rw[List.nil_append] at this
   exact this
  rw[G]
  cases c with
  |nil=>simp
  |cons a S=>rw[if_neg (by simp)]
 refine wpAny_binaryOp_repeat_ref (T:="list") (U:="int") (by decide) ⟨_,e,rfl⟩ (fun s'=>typeIs_int s' k t) noFill_list_mul F.fills_int_mul F.slot_int_rmul repeat_list F.slot_int_index.lookup
  (call_meets F.slot_int_rmul (typeIs_int s k t) F.entry_int_rmul (F.args_int_rmul_2 _ _) (int___rmul___int_list k t l c.toArray n)
   ⟨e,rfl,⟨_,e,rfl⟩,call_meets F.slot_list_mul ⟨_,e,rfl⟩ F.entry_list_mul (F.args_list_mul_2 _ _) (AutoListH.list___mul___list_int_3 l c.toArray n k t J M O) ⟨e,?_⟩⟩)
 rw[L]
 exact⟨.ref _,_,I.HS (t':=s.toks) (r.rep k.toNat) (by rw[len_rep,Nat.mul_comm];exact j),rfl,q _ I.fresh⟩
end
section
end
section
end
end L2
namespace Att
open PySem PySem.W PySem.Calls PyProof.Rows
theorem sL{P:Params}{h:Heap}:∀(ns:aab) (vs:List Value),WellAll P h vs (ns.map WData.int)->IntsAre vs ns:=by
 intro ns
 induction ns with
 |nil =>
  intro vs w
  rw[N8] at w
  cases w
  exact .nil
 |cons n ns ih =>
  intro vs w
  rw[Mc] at w
  cases w with
  |cons a b =>
   cases a
   exact .cons _ _ (ih _ b)
theorem DG{l:OpenLaw}{n:Nat}(hn:l.most=some n){P:Params}{h:Heap}{args:List WData}{i:List Value}
  (j:l.row.toRowW.claim.pre args=true) (y:WellAll P h i args) :
  ∃a vs ns,i=[Value.ref a]/\args=[WData.list (ns.map WData.int)]/\h.get? a=some { cls:=.type "list",data:=.seq vs.toArray }/\IntsAre vs ns/\ns.length<=n:=by
 have x:WShape.hasAll [] args [.list .int]=true:=(pre_splitW j).1
 have g:l.pre.holds [] { args:=args }=true:=(pre_splitW j).2
 obtain ⟨d,r,rfl,v,u⟩:=hasAllW_cons x
 obtain rfl:=hasAllW_nil u
 obtain ⟨xs,rfl,t⟩:=hasW_list v
 obtain ⟨ns,rfl⟩:=items_int t
 have B:ns.length<=n:=by
  unfold OpenLaw.pre at g
  have f:(WTm.not (.lt (.lit (.int (n:Int))) (.len (.arg 0)))).holds [] { args:=[.list (ns.map .int)] }=true:=by
   have f:=(holds_andW g).1
   rw[hn] at f
   exact f
  have c:=condW_of f (w_not (w_lt w_lit (w_len_list (w_arg rfl))))
  rw[mo] at c
  refine Nat.le_of_not_lt fun q=>?_
  have p:(n:Int)<((ns.length:Nat):Int):=by omega
  first
   |(rw[decide_eq_true p] at c;exact absurd c (by decide))
   |(simp at c;omega)
 cases y with
 |cons o m =>
  cases m
  cases o with
  |list s z=>exact⟨_,_,ns,rfl,rfl,s,sL ns _ z,B⟩
theorem D7(l:OpenLaw)(args:List WData):l.row.toRowW.claim.post args (.bool true) args=true :=
 postW_of (r:=l.row.toRowW) (X:=(true == true))
  (show WShape.has [] (.bool true) .bool=true by first|rfl|decide|simp [WShape.has,WShape.arms,WShape.armsAll])
  (show (WTm.eq .res (.lit (.bool true))).value [] { args:=args,res:=some (.bool true),after:=args }=some (.bool (true == true)) from w_eq_bool (w_res rfl) w_lit) rfl
theorem yR{l:OpenLaw}{n:Nat}{q:Program}{t:List Str}{s:(Str->Option Value)->Heap->Prop}{p:World->Heap->Prop}{d:DefRec}
  (hn:l.most=some n) (H:d.params.defaults=[])
  (call:∀(w:World) (s₀ c:Shared) (mg j:Str->Option Value) (h:Addr) (o:Obj) (i cd g:Value) (a:Addr) (vs:List Value) (ns:aab),
   Ground q t [] s w s₀ mg j c.heap->p w c.heap ->
   c.heap.get? h=some o->o.data=.func (docDef d.name d.params d.body d.scope i cd g)->c.heap.CodeRec cd d.name->mg d.name=some (.ref h) ->
   c.heap.get? a=some { cls:=.type "list",data:=.seq vs.toArray }->IntsAre vs ns->ns.length<=n->c.gens=#[] ->
   codeAny (model l.prog w) callerA (.call (.ref h) ⟨[.ref a],[]⟩) (fun r s'=>r=.ok (.ret (.bool true))/\OldK c.heap s'.heap/\s'.os=c.os/\AllBare s'.gens) c) :
  WalkO q t s p l.row.toRowW d [] (fun f vs=>PySem.call f vs):=by
 intro w s₀ c mg j G Y h o i cd g E kV x hd O m I y args S as M Q u F R
 obtain rfl:E=.none:=Dflts.none m H
 obtain rfl:kV=.none:=Dflts.noKw m
 obtain ⟨a,vs,ns,rfl,rfl,J,L,P⟩:=DG hn M F
 refine enter_call (codeAny_mono (call w s₀ c mg j h o i cd g a vs ns G Y x (fd_plain hd) O I J L P y) fun r s' v=>?_)
 obtain ⟨rfl,C,B,z⟩:=v
 exact⟨.inl ⟨.bool true,.bool true,[],rfl,fun _=>rfl,.bool true,D7 l _,fun _=>⟨List.Pairwise.nil,fun _ hm=>(nomatch hm)⟩⟩,C,B,z⟩
section
end
end Att
namespace L2
open PySem PySem.Spec PyProof.Rows
theorem xb:∀{vs:List Value}{ns:aab},IntsAre vs ns->Vals (ns.map V.int) vs
 |_,_,.nil=>.nil
 |_,_,.cons n t h=>.cons ⟨t,rfl⟩ (xb h)
end L2
namespace L2
open PySem PySem.Spec PyProof.Rows
end L2
namespace L2
open PySem PySem.Spec PyProof.Rows
def gW(s:Stmt):Arguments:=match s with
 |.FunctionDef _ a _ _ _ _ _ _ _ _=>a
 |_=>{ posonlyargs:=[],args:=[],vararg:=none,kwonlyargs:=[],kw_defaults:=[],kwarg:=none,defaults:=[] }
def dZ(s:Stmt):List Stmt:=match s with
 |.FunctionDef _ _ b _ _ _ _ _ _ _=>b
 |_=>[]
def av(s:Stmt):Scope:=match s with
 |.FunctionDef _ _ _ _ _ _ c _ _ _=>c
 |_=>{ kind:=.function,names:=[],isGenerator:=false,isCoroutine:=false }
abbrev CX0:CXT:=fun _ _ _ _ _ _=>False
abbrev E0:XK:=fun _ _ _=>False
theorem tQ{X:Cx}:Passes CX0 X E0:=fun _ _ _ _ _ _ _ h=>h.elim
structure Fun(K:aad)(x qual:Str)(st:Stmt)(f:Addr)(fd:FuncData):Prop where
 ex:∃(oc:Value) (od:Option Addr) (kV doc pm:Value) (an:Option Addr) (cdv ct:Value) (osl:Array (Option Value)),
  fd=PySem.W.fnOf x qual (gW st) (dZ st) (av st) .none kV doc pm an cdv ct/\K.lookup f=some ⟨oc,od,.func fd,osl⟩/\PySem.W.codeIn K cdv qual=true
 kp:PySem.W.keepIn K (.ref f)=true
section
variable {P:Program}{w:World}{K:aad}{mg:Str->Option Value}{base:Heap}
theorem Fun.ok{x qual:Str}{st:Stmt}{f:Addr}{g:FuncData}{N ps:List Str}{k:Nat}{sp:Sp}(F:Fun K x qual st f g)(S:aH N ps (av st))(len:∀vs H Q E,sp vs H Q E->vs.length=ps.length)
  (o:∀(c:Value) (A:Around) (outer:List Env) (s:Shared) (H:Hp) (vs:List V) (Q:VK) (E:XK),hV k (A.deeper (envOfC qual (av st) s.heap.objs.size f c))->sp vs H Q E ->
   ∃t,PSs (qr CX0 P w K mg base N qual (av st) f c A outer s H E).nox (dZ st) t/\t { nx:=fun _ H'=>Q .non H',rt:=Q } (start N vs) H):bE P w K mg base CX0 (k+1) f g ps sp:=by
 obtain ⟨u,r,kV,j,p,v,c,ct,i,rfl,lk,n⟩:=F.ex
 refine FD lk n S len fun A outer s H vs Q E hr m=>?_
 obtain ⟨t,h,q⟩:=o c A outer s H vs Q E hr m
 exact⟨t,h.nox,q⟩
theorem Fun.binds{x qual:Str}{st:Stmt}{f:Addr}{m:FuncData}{ps:List Str}(F:Fun K x qual st f m)
  (h:∀(kV c i:Value) (j:Option Addr) (g ct:Value) (us:List Value),us.length=ps.length->bindArgs (PySem.W.fnOf x qual (gW st) (dZ st) (av st) .none kV c i j g ct) ⟨us,[]⟩=pure (ps.zip us)):Binds K m ps []:=by
 obtain ⟨p,o,kV,c,i,j,g,ct,n,rfl,lk,q⟩:=F.ex
 exact .all (h kV c i j g ct)
theorem mI{x qual:Str}{st:Stmt}{f:Addr}{o:Value}{n m:Option Addr}{i:Array (Option Value)}{kV h j g ct:Value}(l:K.lookup f=some ⟨o,n,.func (PySem.W.fnOf x qual (gW st) (dZ st) (av st) .none kV h j m g ct),i⟩)
  (c:PySem.W.codeIn K g qual=true) (k:PySem.W.keepIn K (.ref f)=true):Fun K x qual st f (PySem.W.fnOf x qual (gW st) (dZ st) (av st) .none kV h j m g ct):=⟨⟨o,n,kV,h,j,m,g,ct,i,rfl,l,c⟩,k⟩
end
theorem zQ{A:Around}{k:Nat}(hr:hV k A):A.units+1<cLine:=Nat.lt_of_le_of_lt (Nat.add_le_add_left (by decide:1<=64) _) hr.units
theorem rF{n:Nat}(h:n<=1000):n<sizeLine:=Nat.lt_of_le_of_lt h (by decide)
section
variable {X:Cx}
theorem pv(i:Nat){x:Str}{pos:Pos}(f:X.N[i]?=some x:=by rfl)(c:Vis X.env.scope x:=by first|exact Or.inl rfl|exact Or.inr (Or.inl rfl)|exact Or.inr (Or.inr rfl))(hd:(x == ("__debug__" : Str))=false:=by decide)
  (g:(x == ("__classdict__" : Str))=false:=by decide):PE X (.Name x pos) (eT i):=Ko f c hd g
end
def Same(H H':Hp):Prop:=∀b o,H b=some o->H' b=some o
theorem Same.refl(H:Hp):Same H H:=fun _ _ h=>h
end L2
set_option maxHeartbeats 4000000
namespace L2
open PySem PySem.Spec PyProof.Rows
def dS(env:Env):List (Str × NameKind)->List (Str × Addr)->List (Str × Addr)
 |[],acc=>acc
 |(n,k)::r,acc=>dS env r (if k == .free then (n,(env.cells.lookup n).getD 0)::acc else acc)
theorem vf{scope:Scope}{env:Env}(h:∀n,(n,NameKind.free)∈scope.names->∃c,env.cells.lookup n=some c):closureFor scope env=pure (dS env scope.names []):=by
 have go:∀(names:List (Str × NameKind)) (acc:List (Str × Addr)),(∀n,(n,NameKind.free)∈names->∃c,env.cells.lookup n=some c) ->
   (forIn names acc (fun (x:Str × NameKind) (cs:List (Str × Addr))=>match x with
    |(name,kind)=>if (kind == .free)=true then (do let c <- cellOf env name;pure (ForInStep.yield ((name,c)::cs))) else pure (ForInStep.yield cs)):Sem (List (Str × Addr)))=pure (dS env names acc):=by
  intro names
  induction names with
  |nil=>intro acc _;rfl
  |cons x r ih =>
   intro acc hn
   obtain ⟨n,k⟩:=x
   rw[List.forIn_cons]
   have hr:∀m,(m,NameKind.free)∈r->∃c,env.cells.lookup m=some c:=fun m hm=>hn m (Fk _ hm)
   by_cases f:k=.free
   .subst f
    obtain ⟨c,g⟩:=hn n ox
    have e:cellOf env n=pure c:=by unfold cellOf;rw[g]
    have e2:dS env ((n,NameKind.free)::r) acc=dS env r ((n,c)::acc):=by
     show dS env r (if (NameKind.free == NameKind.free)=true then (n,(env.cells.lookup n).getD 0)::acc else acc)=_
     rw[if_pos (by decide),g];rfl
    rw[e2,<- ih _ hr]
    show (do let __do_lift <- (if (NameKind.free == NameKind.free)=true then (do let c <- cellOf env n;pure (ForInStep.yield ((n,c)::acc))) else pure (ForInStep.yield acc):Sem (ForInStep (List (Str × Addr))));_)=_
    rw[if_pos (by decide),e]
    rfl
   .have hb:(k == NameKind.free)=false:=by simpa using f
    have e2:dS env ((n,k)::r) acc=dS env r acc:=by
     show dS env r (if (k == NameKind.free)=true then (n,(env.cells.lookup n).getD 0)::acc else acc)=_
     rw[hb];rfl
    rw[e2,<- ih _ hr]
    show (do let __do_lift <- (if (k == NameKind.free)=true then (do let c <- cellOf env n;pure (ForInStep.yield ((n,c)::acc))) else pure (ForInStep.yield acc):Sem (ForInStep (List (Str × Addr))));_)=_
    rw[hb]
    rfl
 have e:=go scope.names [] h
 unfold closureFor
 exact congrArg (fun (m:Sem (List (Str × Addr)))=>m >>= fun r=>pure r) e
theorem uk{env:Env}:∀{names:List (Str × NameKind)}{acc:List (Str × Addr)}{n:Str}{c:Addr},(n,c)∈dS env names acc->(n,c)∈acc\/((n,NameKind.free)∈names/\c=(env.cells.lookup n).getD 0)
 |[],acc,n,c,h=>.inl h
 |(m,k)::r,acc,n,c,h=>by
  rcases uk (names:=r) h with h|⟨h,e⟩
  .by_cases f:k=.free
   .subst f
    rw[if_pos (by decide)] at h
    rcases L6.mp h with e|h
    .cases e;exact .inr ⟨ox,rfl⟩
    .exact .inl h
   .have hb:(k == NameKind.free)=false:=by simpa using f
    rw[hb] at h
    exact .inl h
  .exact .inr ⟨Fk _ h,e⟩
theorem iB{f:Type}:∀{l:List (Str × f)}{n:Str}{c:f},(n,c)∈l->∃d,l.lookup n=some d
 |[],_,_,h=>nomatch h
 |(k,v)::r,n,c,h=>by
  rw[N9]
  cases hb:n == k with
  |true=>exact⟨v,rfl⟩
  |false =>
   rcases L6.mp h with e|h
   .cases e;simp at hb
   .exact iB h
theorem t7{env:Env}:∀{names:List (Str × NameKind)}{acc:List (Str × Addr)}{n:Str}{c:Addr},(n,c)∈acc->(n,c)∈dS env names acc
 |[],acc,n,c,h=>h
 |(m,k)::r,acc,n,c,h=>by
  refine t7 (names:=r) ?_
  split
  .exact Fk _ h
  .exact h
theorem oB{env:Env}:∀{names:List (Str × NameKind)}{acc:List (Str × Addr)}{n:Str},(n,NameKind.free)∈names->(n,(env.cells.lookup n).getD 0)∈dS env names acc
 |[],acc,n,h=>nomatch h
 |(m,k)::r,acc,n,h=>by
  rcases L6.mp h with e|h
  .cases e
   refine t7 (names:=r) ?_
   rw[if_pos (by decide)]
   exact ox
  .exact oB (names:=r) h
theorem kM:∀{names:List (Str × NameKind)}{n:Nat}{acc:List (Str × Addr)}{x:Str}{c:Addr},(x,c)∈cellsFrom n names acc->(x,c)∈acc\/((x,NameKind.cell)∈names/\n<=c)
 |[],n,acc,x,c,h=>.inl h
 |(m,k)::r,n,acc,x,c,h=>by
  unfold cellsFrom at h
  by_cases f:k=.cell
  .subst f
   rw[if_pos (by decide)] at h
   rcases kM (names:=r) h with h|⟨h,e⟩
   .rcases L6.mp h with e|h
    .cases e;exact .inr ⟨ox,Md _⟩
    .exact .inl h
   .exact .inr ⟨Fk _ h,by omega⟩
  .have hb:(k == NameKind.cell)=false:=by simpa using f
   rw[hb] at h
   rcases kM (names:=r) h with h|⟨h,e⟩
   .exact .inl h
   .exact .inr ⟨Fk _ h,e⟩
theorem fI:∀{names:List (Str × NameKind)}{n:Nat}{acc:List (Str × Addr)}{x:Str}{c:Addr},(x,c)∈acc->(x,c)∈cellsFrom n names acc
 |[],n,acc,x,c,h=>h
 |(m,k)::r,n,acc,x,c,h=>by
  unfold cellsFrom
  split
  .exact fI (names:=r) (Fk _ h)
  .exact fI (names:=r) h
theorem kQ:∀{names:List (Str × NameKind)}{n:Nat}{acc:List (Str × Addr)}{x:Str},(x,NameKind.cell)∈names->∃c,(x,c)∈cellsFrom n names acc
 |[],n,acc,x,h=>nomatch h
 |(m,k)::r,n,acc,x,h=>by
  unfold cellsFrom
  rcases L6.mp h with e|h
  .cases e
   rw[if_pos (by decide)]
   exact⟨n,fI (names:=r) ox⟩
  .split
   .exact kQ (names:=r) h
   .exact kQ (names:=r) h
theorem jE:∀{names:List (Str × NameKind)}{h:Heap}{acc:List (Str × Addr)}{x:Str}{c:Addr},(x,c)∈cellsFrom h.objs.size names acc->(x,c)∈acc\/(pushCells h names).IsCell c none
 |[],h,acc,x,c,m=>.inl m
 |(n,k)::r,h,acc,x,c,m=>by
  unfold cellsFrom at m
  unfold pushCells
  split at m
  .rename_i f
   rw[if_pos f]
   have g:(x,c)∈cellsFrom (h.push { cls:=.type "cell",data:=.cell none }).objs.size r ((n,h.objs.size)::acc):=by rw[Heap.size_push];exact m
   rcases jE (names:=r) g with z|z
   .rcases L6.mp z with e|z
    .cases e
     exact .inr ⟨_,pushCells_keeps _ _ _ _ (Heap.get?_push_size _ rfl),rfl⟩
    .exact .inl z
   .exact .inr z
  .rename_i f
   rw[if_neg f]
   exact jE (names:=r) m
theorem kR:∀{names:List (Str × NameKind)}{n:Nat}{acc:List (Str × Addr)},(∀x c,(x,c)∈acc->c<n)->(∀x y c,(x,c)∈acc->(y,c)∈acc->x=y) ->
  ∀x y c,(x,c)∈cellsFrom n names acc->(y,c)∈cellsFrom n names acc->x=y
 |[],n,acc,lt,inj,x,y,c,h,h'=>inj x y c h h'
 |(m,k)::r,n,acc,lt,inj,x,y,c,h,h'=>by
  unfold cellsFrom at h h'
  split at h
  .rename_i g
   rw[if_pos g] at h'
   refine kR (names:=r) (n:=n+1) (acc:=(m,n)::acc) (fun x c hm=>?_) (fun x y c hm f=>?_) x y c h h'
   .rcases L6.mp hm with e|hm
    .cases e;exact NF _
    .exact Nat.lt_succ_of_lt (lt _ _ hm)
   .rcases L6.mp hm with e|hm<;>rcases L6.mp f with i|f
    .cases e;cases i;rfl
    .cases e;exact absurd (lt _ _ f) (MT _)
    .cases i;exact absurd (lt _ _ hm) (MT _)
    .exact inj _ _ _ hm f
  .rename_i g
   rw[if_neg g] at h'
   exact kR (names:=r) lt inj x y c h h'
theorem j6{env:Env}:∀{names:List (Str × NameKind)}{x:Str},
  (names.map fun (n,k)=>if (k == NameKind.free && env.scope.kind == .function && env.kindOf n == some .cell) then (n,NameKind.cell) else (n,k)).lookup x =
   (names.lookup x).map fun k=>if (k == NameKind.free && env.scope.kind == .function && env.kindOf x == some .cell)=true then NameKind.cell else k
 |[],x=>rfl
 |(n,k)::r,x=>by
  have ih:=@j6 env r x
  show List.lookup x ((if (k == NameKind.free && env.scope.kind == .function && env.kindOf n == some .cell)=true then (n,NameKind.cell) else (n,k))::_)=_
  have e:(if (k == NameKind.free && env.scope.kind == .function && env.kindOf n == some .cell)=true then (n,NameKind.cell) else (n,k))=(n,if (k == NameKind.free && env.scope.kind == .function && env.kindOf n == some .cell)=true then NameKind.cell else k):=by split<;>rfl
  rw[e,N9,N9]
  cases hx:x == n with
  |true =>
   have c:=beq_iff_eq.mp hx
   subst c
   rfl
  |false=>exact ih
structure br(X:Cx)(scope:Scope)(tn cap:List Str)(idx:aac):Prop where
 kind:scope.kind=.function
 nd:(scope.names.map (·.1)).Nodup
 tnd:(tn++cap).Nodup
 ct:∀y∈cap,scope.names.lookup y=some .free
 ci:idx.map (fun i=>X.N[i]?)=cap.map some
 fr:∀y∈scope.names,y.2=.free->X.env.scope.names.lookup y.1=some .cell\/X.env.scope.names.lookup y.1=some .free
theorem nC{f:Type}:∀{l:List (Str × f)}{n:Str}{c:f},(l.map (·.1)).Nodup->(n,c)∈l->l.lookup n=some c
 |[],_,_,_,h=>nomatch h
 |(k,v)::r,n,c,nd,h=>by
  obtain ⟨i,g⟩:=Mi.mp nd
  rw[N9]
  rcases L6.mp h with e|hm
  .cases e;simp
  .have j:n≠k:=fun e=>i (Mb.mpr ⟨_,hm,e⟩)
   have hb:(n == k)=false:=beq_eq_false_iff_ne.mpr j
   rw[hb]
   exact nC g hm
def Dr(c:St)(idx:aac):St:=idx.map fun i=>(c[i]?).getD none
def ic(k:Nat)(idx:aac)(c:St):St:=List.replicate k none++Dr c idx
def cxC(X:Cx)(c:List Str)(scope:Scope)(cs:List (Str × Addr))(C:Addr)(fp:List Addr)(s₀:Shared)(H₀:Hp):Cx where
 prog:=X.prog
 w:=X.w
 K:=X.K
 mg:=X.mg
 base:=X.base
 A:=X.A
 N:=c
 s₀:=s₀
 H₀:=H₀
 env:=compEnvC scope cs C X.env
 outer:=X.stack
 stack:=X.stack
 ex:=fp
 fn:=fun x=>scope.names.lookup x == some .local || scope.names.lookup x == some .cell
 calm:=X.calm
 pn:=[]
 xe:=fun _ _=>False
theorem pU{M:Model}{A:Around}{E:Value->Shared->Prop}{s:Shared}{scope:Scope}{globals:Addr}{cl:List (Str × Addr)}{qual:Str}{Ax:Env}{Q:Env->Shared->Prop}
  (c:Q { scope:=scope,locals:=s.heap.objs.size,globals:=globals,cells:=cellsFrom (s.heap.objs.size+1) scope.names cl,qual:=qual,func:=none,code:=Ax.code,frame:=Ax.frame,builtins:=Ax.builtins }
   { s with heap:=pushCells (s.heap.push { cls:=.type "dict",data:=.dict #[] }) scope.names }) :
  wpAny M A (newFunctionEnv scope globals cl [] qual none .none (some Ax)) Q E s:=by
 simp only[newFunctionEnv,Option.isSome_some,if_true]
 refine wpAny_bind (wpAny_alloc ?_)
 refine wpAny_bind (wpAny_layCells _ (fun name kind cells=>by cases hkc:kind == NameKind.cell<;>simp [hkc]) _ _ _ _ ?_)
 rw[show ({ s with heap:=s.heap.push { cls:=.type "dict",data:=.dict #[] } }:Shared).heap.objs.size=s.heap.objs.size+1 from Heap.size_push ..]
 exact wpAny_bind (wpAny_pure (wpAny_pure c))
section
variable {prog:Program}{w:World}{A:Around}{R:Result->Shared->Prop}{s:Shared}
theorem x8{o g iter:Expr}{i:List Expr}{scope:Scope}{pos:Pos}{it acc:Value}{env:Env}(I:Nat->Shared->Prop)
  (turn:∀n s,I n s->wpAny (model prog w) A (pyNext it) (fun r f=>match r with
   |none=>R (.ok .next) f
   |some v=>wpAny (model prog w) A (letOwnedTupleGo g it v) (fun _ q=>wpAny (model prog w) A (assign g env v) (fun _ z =>
     wpAny (model prog w) A (forIn i true fun c r=>if r=true then do let ok <- isTrue c env (eval c env);pure (ForInStep.yield ok) else pure (ForInStep.yield r)) (fun ok j =>
      if ok=true then wpAny (model prog w) A (eval o env) (fun x t =>
       wpAny (model prog w) A (call (.builtin "list.append") [acc,x]) (fun _ p=>∃m,m<n/\I m p) (fun _ _=>False) t) (fun _ _=>False) j
      else ∃m,m<n/\I m j) (fun _ _=>False) z) (fun _ _=>False) q) (fun _ _=>False) f) (fun _ _=>False) s)
  (n:Nat) (h:I n s) :
  codeAny (model prog w) A (.compLoop (.ListComp o [⟨g,iter,i,0⟩] scope pos) 0 it acc env) R s:=by
 refine codeAny_loop rfl I (fun n s B=>?_) n h
 show wpAny _ A ((compTurn (.ListComp o [⟨g,iter,i,0⟩] scope pos) 0 it acc env).onRaise (fun x=>do noteFrame x env;theTreesLotGoes x)) _ _ s
 refine wpAny_noted ?_
 rw[compTurn_list]
 refine wpAny_bind (wpAny_standAt (wpAny_bind (wpAny_mono (turn n s B) (fun r f y=>?_) fun _ _ h'=>h'.elim)))
 cases r with
 |none=>exact wpAny_pure y
 |some v =>
  refine wpAny_bind (wpAny_mono y (fun _ q F=>?_) fun _ _ h'=>h'.elim)
  refine wpAny_bind (wpAny_mono F (fun _ z G=>wpAny_bind (wpAny_mono G (fun ok j u=>?_) fun _ _ h'=>h'.elim)) fun _ _ h'=>h'.elim)
  cases ok with
  |false=>exact wpAny_pure ⟨rfl,u⟩
  |true =>
   exact wpAny_bind (wpAny_bind (wpAny_mono u (fun x t C=>wpAny_bind (wpAny_mono C (fun _ p E=>wpAny_pure (wpAny_pure ⟨rfl,E⟩)) fun _ _ h'=>h'.elim)) fun _ _ h'=>h'.elim))
end
section
variable {X:Cx}{pins:List (Addr × Obj)}{σ:St}{H:Hp}{s2:Shared}{scope:Scope}{tn cap:List Str}{idx:aac}{fp:List Addr}
abbrev sh:Obj:={ cls:=.type "list",data:=.seq ([]:List Value).toArray }
abbrev Gz:Obj:={ cls:=.type "dict",data:=.dict #[] }
abbrev yP(h:Heap)(scope:Scope):Heap:=pushCells ((h.push sh).push Gz) scope.names
abbrev xm(X:Cx)(h:Heap)(scope:Scope):List (Str × Addr):=cellsFrom (h.objs.size+1+1) scope.names (dS X.env scope.names [])
theorem Gm{c:St}{idx:aac}{j:Nat}{v:V}(h:(Dr c idx)[j]?=some (some v)):∃i,idx[j]?=some i/\c[i]?=some (some v):=by
 unfold Dr at h
 rw[L4] at h
 cases e:idx[j]? with
 |none=>rw[e] at h;cases h
 |some i =>
  rw[e] at h
  have h':(c[i]?).getD none=some v:=MB h
  refine⟨i,rfl,?_⟩
  cases q:c[i]? with
  |none=>rw[q] at h';cases h'
  |some o=>rw[q] at h';have f:o=some v:=h';rw[f]
theorem Bn(I:Inv X pins σ H s2)(S:br X scope tn cap idx)(F:∀b∈fp,u6 X pins H b)(R:∀b∈fp,b<s2.heap.objs.size) :
  Inv (cxC X (tn++cap) scope (xm X s2.heap scope) (s2.heap.objs.size+1) fp s2 H) [(s2.heap.objs.size,sh)] (ic tn.length idx σ) H { s2 with heap:=yP s2.heap scope }:=by
 have old:∀b o,s2.heap.get? b=some o->(yP s2.heap scope).get? b=some o:=fun b o e=>pushCells_keeps _ _ _ _ (Heap.get?_push_of_some _ (Heap.get?_push_of_some _ e))
 have hsz:((s2.heap.push sh).push Gz).objs.size=s2.heap.objs.size+1+1:=by rw[Heap.size_push,Heap.size_push]
 have Pd:(yP s2.heap scope).get? s2.heap.objs.size=some sh:=pushCells_keeps _ _ _ _ (Heap.get?_push_of_some _ (Heap.get?_push_size _ rfl))
 have Qd:(yP s2.heap scope).Ns (s2.heap.objs.size+1) (fun _=>none):=by
  have e:=(Heap.Ns.new (s2.heap.push sh) (.type "dict")).keeps (pushCells_keeps scope.names _)
  rw[Heap.size_push] at e
  exact e
 have t:∀x c,(x,c)∈dS X.env scope.names []->X.env.cells.lookup x=some c/\(x,NameKind.free)∈scope.names:=fun x c h=>by
  rcases uk h with z|⟨z,e⟩
  .nomatch z
  .obtain ⟨d,hd⟩:=I.ok.has x (S.fr _ z rfl)
   rw[hd] at e
   have M:c=d:=e
   subst M
   exact⟨hd,z⟩
 have C:∀x c,(x,c)∈xm X s2.heap scope->(X.env.cells.lookup x=some c/\(x,NameKind.free)∈scope.names)\/((x,NameKind.cell)∈scope.names/\s2.heap.objs.size+1+1<=c):=fun x c h=>by
  rcases kM h with z|z
  .exact .inl (t x c z)
  .exact .inr z
 have O:∀x c,X.env.cells.lookup x=some c->c<s2.heap.objs.size:=fun x c h=>by
  obtain ⟨v,q⟩:=I.cell x c h
  exact q.lt
 have UJ:∀x,(x,NameKind.free)∈scope.names->scope.names.lookup x=some .free:=fun x h=>nC S.nd h
 have Rl:∀x,(x,NameKind.cell)∈scope.names->scope.names.lookup x=some .cell:=fun x h=>nC S.nd h
 refine⟨⟨I.ok.mod,S.kind,I.ok.glob,I.ok.blt,Nd _,fun x y c L J=>?_,fun x B=>?_,fun x c E h=>?_,I.ok.hd,I.ok.frames,.inl rfl,fun b hb=>⟨?_,fun x c h=>?_⟩,I.bs,Mx I.ok.bsz I.sz,fun b o e hb=>?_,fun b hb z=>?_,I.stack,I.xM⟩,
  rfl,I.bare,Un.kept old,⟨_,Qd,fun i x v e1 e2 e3=>?_⟩,fun x c h=>?_,I.hok.fresh (Nd _),fun x c h=>?_,fun p T=>?_,I.hok.kept old,?_⟩
 .exact kR (fun x c h=>Nat.lt_succ_of_lt (Nat.lt_succ_of_lt (O x c (t x c h).1))) (fun x y c h h'=>I.ok.inj x y c (t x c h).1 (t y c h').1) x y c (MH L) (MH J)
 .have B:(relabel scope X.env).names.lookup x=some .cell\/(relabel scope X.env).names.lookup x=some .free:=B
  have e:=@j6 X.env scope.names x
  have j:∃k,scope.names.lookup x=some k/\(k=.cell\/k=.free):=by
   cases q:scope.names.lookup x with
   |none =>
    rw[q] at e
    rcases B with z|z
    .have f:=e.symm.trans z;cases f
    .have f:=e.symm.trans z;cases f
   |some k =>
    rw[q] at e
    refine⟨k,rfl,?_⟩
    cases k with
    |cell=>exact .inl rfl
    |free=>exact .inr rfl
    |_ =>
     exfalso
     rcases B with z|z
     .have f:=e.symm.trans z;cases f
     .have f:=e.symm.trans z;cases f
  obtain ⟨k,j,Vc⟩:=j
  have hm:=MH j
  rcases Vc with rfl|rfl
  .obtain ⟨c,G⟩:=kQ (n:=s2.heap.objs.size+1+1) (acc:=dS X.env scope.names []) hm
   exact iB G
  .exact iB (fI (oB (env:=X.env) (acc:=[]) hm))
 .rcases C x c (MH h) with ⟨_,z⟩|⟨_,z⟩
  .have E:(scope.names.lookup x == some .local || scope.names.lookup x == some .cell)=true:=E
   rw[UJ x z] at E
   exact absurd E (by decide)
  .show s2.heap.objs.size<=c
   omega
 .-- b is not SF block's frame
  intro z
  have f:b=s2.heap.objs.size+1:=z
  exact absurd (R b hb) (by rw[f];exact OF.mpr (Nd _))
 .rcases C x c (MH h) with ⟨z,_⟩|⟨_,z⟩
  .exact (F b hb).2.2.2.2.1 x c z
  .intro e
   exact absurd (R b hb) (by rw[<- e];exact OF.mpr (Mx (Mx (Nd _) (Nd _)) z))
 .rcases (F b hb).2.2.2.1 with z|z
  .exact I.ok.noex b o e z
  .exact absurd (Ml (Heap.lt_size e) (Mx I.ok.bsz z)) (MT _)
 .obtain ⟨_,Z,Y,_⟩:=F b hb
  rcases L6.mp (I.uC b z) with e|e
  .exact Z e
  .exact Y e
 .-- SF names
  have e1:(tn++cap)[i]?=some x:=e1
  have e2:(ic tn.length idx σ)[i]?=some (some v):=e2
  unfold ic at e2
  by_cases hi:i<tn.length
  .rw[Mn (by rw[Mt];exact hi),MQ,if_pos hi] at e2
   cases e2
  .rw[MA (by rw[Mt];omega),Mt] at e2
   rw[MA (by omega)] at e1
   obtain ⟨Q,L,J⟩:=Gm e2
   have U:X.N[Q]?=some x:=by
    have q:=congrArg (fun l=>l[i - tn.length]?) S.ci
    simp only[L4,L,e1,Option.map_some] at q
    exact MB q
   have P:=S.ct x (MJ e1)
   have g:=MH P
   have j:=S.fr _ g rfl
   obtain ⟨m,hn,hl⟩:=I.loc
   obtain ⟨u,r,l⟩:=hl Q x v U J (j.elim (fun z=>.inr (.inl z)) fun z=>.inr (.inr z))
   refine⟨u,r,.inr ⟨?_,?_⟩⟩
   .show (relabel scope X.env).names.lookup x=some .cell\/(relabel scope X.env).names.lookup x=some .free
    have e:=@j6 X.env scope.names x
    rw[P] at e
    have M:(relabel scope X.env).names.lookup x=some (if (NameKind.free == NameKind.free && X.env.scope.kind == .function && X.env.kindOf x == some .cell)=true then NameKind.cell else NameKind.free):=e
    rw[M]
    split
    .exact .inl rfl
    .exact .inr rfl
   .rcases l with ⟨s,_⟩|⟨_,c,G,z⟩
    .exfalso
     have s:X.env.scope.names.lookup x=some .local:=s
     rcases j with q|q
     .have q:X.env.scope.names.lookup x=some .cell:=q
      rw[q] at s;cases s
     .have q:X.env.scope.names.lookup x=some .free:=q
      rw[q] at s;cases s
    .obtain ⟨d,hd⟩:=iB (fI (names:=scope.names) (n:=s2.heap.objs.size+1+1) (oB (env:=X.env) (acc:=[]) g))
     refine⟨c,?_,z.keeps old⟩
     rcases C x d (MH hd) with ⟨q,_⟩|⟨q,_⟩
     .rw[G] at q;cases q;exact hd
     .have:=Rl x q;rw[P] at this;cases this
 .have hm:(x,c)∈cellsFrom ((s2.heap.push sh).push Gz).objs.size scope.names (dS X.env scope.names []):=by rw[hsz];exact MH h
  rcases jE hm with z|z
  .obtain ⟨v,q⟩:=I.cell x c (t x c z).1
   exact⟨v,q.keeps old⟩
  .exact⟨_,z⟩
 .rcases C x c (MH h) with ⟨z,_⟩|⟨_,z⟩
  .exact I.freeC x c z
  .exact I.hok.fresh (by omega)
 .have Su:p∈[(s2.heap.objs.size,sh)]:=T
  obtain rfl:=Gc.mp Su
  refine⟨Pd,I.hok.fresh (Md _),Mr (NF _),fun z=>?_,fun v z=>?_⟩
  .rcases L6.mp (I.uC _ z) with e|e
   .exact absurd I.lt (by rw[<- e];exact MT _)
   .exact I.Lv (Md _) e
  .have f:Data.seq _ _=Data.cell v:=z
   cases f
 .show (ic tn.length idx σ).length=(tn++cap).length
  have:=congrArg List.length S.ci
  unfold ic Dr
  simp only[Mg,Mt,mo] at this ⊢
  omega
theorem comp_back{G:List Str}{cs:List (Str × Addr)}{C D:Addr}{F:List (Addr × Obj)}{σ':St}{i:Hp}{g:Shared}{vs:List V}{h:List Value}{n:Nat}(I:Inv X pins σ H s2)(s:∀b∈fp,u6 X pins H b)
  (J:Inv (cxC X G scope cs C fp s2 H) F σ' i g) (t:s2.heap.objs.size<=D) (f:i D=none) (E:g.heap.get? D=some { cls:=.type "list",data:=.seq h.toArray n }) (r:Vals vs h) (j:vs.length<=sizeLine) :
  Inv X pins σ (upd i D (.lst vs)) g:=by
 have u:=J.base
 have hb:∀b o,s2.heap.get? b=some o->b≠D:=fun b o e=>Mr (Ml (Heap.lt_size e) t)
 refine I.Jg (ch:=fp) J.os ⟨u.keep,u.slot,fun b o e n p=>?_,u.there,fun b xs e=>?_,fun b o xs e=>?_,fun b ps e=>?_⟩ (fun b o e=>?_) J.bare fun b B=>?_
 .rw[aG (hb b o e)];exact u.free b o e n p
 .have q:=u.tups b xs e
  rw[aG (aS q f)];exact q
 .have q:=u.frzs b o xs e
  rw[aG (aS q f)];exact q
 .obtain ⟨m,q⟩:=u.tbls b ps e
  exact⟨m,by rw[aG (aS q f)];exact q⟩
 .by_cases e1:b=D
  .subst e1
   rw[az] at e
   cases e
   exact⟨j,h,n,r,E⟩
  .rw[aG e1] at e
   exact (J.hok b o e).pF (fun _ _ _ q=>q) (fun c q=>by rw[aG (aS q f)];exact q) fun c xs q=>by rw[aG (aS q f)];exact q
 .obtain ⟨_,z,_,y,x,v⟩:=s b B
  exact⟨y,z,x,v⟩
def PTs(X:Cx)(g:List Expr)(f:TT):Prop :=
 ∀(pins:List (Addr × Obj)) (s:Shared) (σ:St) (H:Hp) (Q:Bool->Hp->Prop),Inv X pins σ H s->f σ H Q ->
  wpAny (model X.prog X.w) X.A (forIn g true fun c r=>if r=true then do let ok <- isTrue c X.env (eval c X.env);pure (ForInStep.yield ok) else pure (ForInStep.yield r)) (TP X pins σ Q) X.xe s
def Iv:TT:=fun _ H Q=>Q true H
theorem CP:PTs X [] Iv:=fun _ _ _ H _ I h=>wpAny_tests_nil ⟨H,I,h⟩
theorem pI{c:Expr}{f:TT}(h:PT X c f):PTs X [c] f:=fun pins s σ H Q I q=>wpAny_tests_one (h pins s σ H Q I q)
def yz(n:TI)(g:TG)(o:TT)(q:TE)(k:Nat)(idx:aac):TE:=fun σ H Q=>n σ H fun J t =>
 ∃W:Nat->Nat->List V->Hp->Prop,(∃m,W 0 m [] t)/\∀i m vs H,W i m vs H ->
  (J.stop i H/\vs.length<=sizeLine/\∀p,H p=none->Q (.ref p) (upd H p (.lst vs))) \/
  (J.go i H/\vs.length<=sizeLine/\∃N:List V->Hp->Prop,(∀f H',N f H'->∃c,c < m/\W (i+1) c f H')/\∀x H',J.yld i H x H'->g x (ic k idx σ) H' fun h s=>o h s fun b j =>
   if b=true then q h j fun v r=>N (vs++[v]) r else N vs j)
def ma(k:Nat)(g:TG):Prop:=∀x σ H Q,g x σ H Q->g x σ H fun c f=>Q c f/\c.length=σ.length/\∀j,k<=j->c[j]?=σ[j]?
theorem ma.name{i k:Nat}(h:i<k):ma k (gn i):=fun x σ H Q q=>⟨q,by simp,fun j hj=>by rw[L5 (by omega)]⟩
theorem D8{k j:Nat}{idx:aac}{c:St}{v:V}(h:(ic k idx c)[j]?=some (some v)):k<=j:=by
 by_cases hj:j<k
 .unfold ic at h
  rw[Mn (by rw[Mt];exact hj),MQ,if_pos hj] at h
  cases h
 .omega
theorem ui{Pf Z iter:Expr}{Qz:List Expr}{pos:Pos}{g:TG}{tt:TT}{te:TE}{E:Value->Shared->Prop}{it:Addr}{Tf:Nat->Heap->Prop}{J:It}{Q:VK}{RR:Value->Addr->Result->Shared->Prop}
  (OQ:X.calm=true) (S:br X scope tn cap idx) (Ri:ma tn.length g)
  (hg:∀cs C fp s₀ H₀,PG (cxC X (tn++cap) scope cs C fp s₀ H₀) Z g) (ht:∀cs C fp s₀ H₀,PTs (cxC X (tn++cap) scope cs C fp s₀ H₀) Qz tt)
  (he:∀cs C fp s₀ H₀,PE (cxC X (tn++cap) scope cs C fp s₀ H₀) Pf te)
  (I:Inv X pins σ H s2) (T:Turn X.prog X.w X.K Z J fp it Tf) (R0:Tf 0 s2.heap) (f2:∀b∈fp,u6 X pins H b)
  (hW:∃W:Nat->Nat->List V->Hp->Prop,(∃m,W 0 m [] H)/\∀i m vs H,W i m vs H ->
   (J.stop i H/\vs.length<=sizeLine/\∀p,H p=none->Q (.ref p) (upd H p (.lst vs))) \/
   (J.go i H/\vs.length<=sizeLine/\∃N:List V->Hp->Prop,(∀RY H',N RY H'->∃m',m' < m/\W (i+1) m' RY H')/\∀x H',J.yld i H x H'->g x (ic tn.length idx σ) H' fun O3 H2=>tt O3 H2 fun b H3 =>
    if b=true then te O3 H3 fun v H4=>N (vs++[v]) H4 else N vs H3))
  (hRR:∀(B:Shared) (H8:Hp) (C D:Addr) (m:Str->Option Value),Inv X pins σ H8 B->B.heap.Ns C m->H8 C=none->s2.heap.objs.size<=C->Q (.ref D) H8->RR (.ref D) C (.ok .next) B) :
  wpAny (model X.prog X.w) X.A (newList []) (fun acc QB=>wpAny (model X.prog X.w) X.A (newFunctionEnv scope X.env.globals (dS X.env scope.names []) [] X.env.qual none .none (some X.env)) (fun UR RZ =>
   codeAny (model X.prog X.w) X.A (.compStart (.ListComp Pf [⟨Z,iter,Qz,0⟩] scope pos) 0 (.ref it) acc { UR with scope:=relabel scope X.env }) (RR acc UR.locals) RZ) E QB) E s2:=by
 obtain ⟨W,⟨m0,w0⟩,turn⟩:=hW
 have RB:∀b∈fp,b<s2.heap.objs.size:=fun b hb=>by
  obtain ⟨o,e,_⟩:=T.obj _ _ R0 b hb
  exact Heap.lt_size e
 have I4:=Bn I S f2 RB
 refine wpAny_newObj_type (pU ?_)
 have e1:({ s2 with heap:=s2.heap.push sh }:Shared).heap.objs.size=s2.heap.objs.size+1:=Heap.size_push ..
 rw[e1]
 generalize f:cxC X (tn++cap) scope (xm X s2.heap scope) (s2.heap.objs.size+1) fp s2 H=X' at I4
 have R:X'.A=X.A:=by subst f;rfl
 have Y:X'.prog=X.prog:=by subst f;rfl
 have hw:X'.w=X.w:=by subst f;rfl
 have hK:X'.K=X.K:=by subst f;rfl
 have Uw:X'.calm=true:=by subst f;exact OQ
 have T7:X'.xe=fun _ _=>False:=by subst f;rfl
 have Sb:X'.env.locals=s2.heap.objs.size+1:=by subst f;rfl
 have V5:X'.pn=[]:=by subst f;rfl
 have hex:X'.ex=fp:=by subst f;rfl
 have Zr:X'.s₀=s2:=by subst f;rfl
 have ZW:PG X' Z g:=by subst f;exact hg _ _ _ _ _
 have Zm:PTs X' Qz tt:=by subst f;exact ht _ _ _ _ _
 have ZZ:PE X' Pf te:=by subst f;exact he _ _ _ _ _
 have Ut:X'.env={ scope:=relabel scope X.env,locals:=s2.heap.objs.size+1,globals:=X.env.globals,cells:=xm X s2.heap scope,qual:=X.env.qual,func:=none,code:=X.env.code,frame:=X.env.frame,builtins:=X.env.builtins }:=by subst f;rfl
 let lo:List Value->Nat->Obj:=fun s n=>{ cls:=.type "list",data:=.seq s.toArray n }
 have QS:∀{H':Hp}{pl:List (Addr × Obj)},(∀b∈fp,H' b=none)->(∀p∈pl,p.1∉fp)->∀b∈fp,u6 X' pl H' b:=fun {H' pl} hn h b hb=>by
  have q:=I4.ok.exf b (by rw[hex];exact hb)
  have q2:=I4.ok.exfs b (by rw[hex];exact hb)
  refine⟨hn b hb,q.1,q2,.inl (by rw[hex];exact hb),q.2,fun p Su z=>?_⟩
  rw[V5] at Su
  exact h p Su (by rw[z];exact hb)
 have Yk:s2.heap.objs.size∉fp:=fun z=>MT _ (RB _ z)
 have D1:∀(o:Obj),∀p∈[((s2.heap.objs.size:Addr),o)],p.1∉fp:=fun o p h=>by
  obtain rfl:=Gc.mp h
  exact Yk
 have T3:∀s3:Shared,s3={ s2 with heap:=yP s2.heap scope } ->
   codeAny (model X.prog X.w) X.A (.compLoop (.ListComp Pf [⟨Z,iter,Qz,0⟩] scope pos) 0 (.ref it) (.ref s2.heap.objs.size) X'.env) (RR (.ref s2.heap.objs.size) (s2.heap.objs.size+1)) s3:=by
  intro s3 Zq
  subst Zq
  refine x8 (fun n s'=>∃i vs s t σ' H',Inv X' [(s2.heap.objs.size,lo s t)] σ' H' s'/\(∀(j:Nat) v,(ic tn.length idx σ)[j]?=some (some v)->σ'[j]?=some (some v))/\σ'.length=(ic tn.length idx σ).length/\Tf i s'.heap/\(∀b∈fp,H' b=none)/\Vals vs s/\W i n vs H') ?_ m0
   ⟨0,[],[],0,_,H,I4,fun _ _ z=>z,rfl,T.keep _ _ _ R0 (fun b hb o e=>pushCells_keeps _ _ _ _ (Heap.get?_push_of_some _ (Heap.get?_push_of_some _ e))),fun b hb=>(f2 b hb).1,.nil,w0⟩
  rintro n s' ⟨i,vs,s,t,σ',H',I',U3,VV,Sn,XY,rv,w'⟩
  have I5:Inv X' [(s2.heap.objs.size,lo s t)] (ic tn.length idx σ) H' s':=I'.weak VV.symm U3
  rcases turn i n vs H' w' with ⟨stop,hz,q⟩|⟨go,hz,N,hN,step⟩
  .-- it ends
   have td:=T.done X' Y hw hK Uw i _ s' _ H' (fun _ _=>False) I5 (QS XY (D1 _)) Sn stop
   rw[R] at td
   refine thn td fun r B ⟨hr,G⟩=>?_
   subst hr
   obtain ⟨U8,U,_⟩:=G.pin (s2.heap.objs.size,lo s t) (by rw[V5];exact Gc.mpr rfl)
   have J8:Inv X pins σ (upd H' s2.heap.objs.size (.lst vs)) B:=by
    subst f
    exact comp_back I f2 G (Md _) U U8 rv hz
   obtain ⟨m,hm,_⟩:=G.loc
   rw[Sb] at hm
   have hCf:H' (s2.heap.objs.size+1)=none:=by have:=G.free;rw[Sb] at this;exact this
   refine hRR B _ _ _ m J8 hm ?_ (Nd _) (q _ U)
   rw[aG (O0 (NF _))]
   exact hCf
  .-- a turn
   have ti:=T.item X' Y hw hK Uw i _ s' _ H' (fun _ _=>False) I5 (QS XY (D1 _)) Sn go
   rw[R] at ti
   refine thn ti fun r s5 ⟨u,hr,h5⟩=>?_
   subst hr
   refine thn h5 fun _ P ⟨x,H6,I6,r6,y6,Vq,fr6⟩=>?_
   have I6':=I6.pinned (QS fr6 (D1 _)) (T.obj _ _ Vq)
   have ag:=ZW _ P _ H6 x u _ I6' r6 (Ri _ _ _ _ (step x H6 y6))
   rw[Y,hw,R,T7] at ag
   refine thn ag fun _ s7 ⟨M,H7,I7,q7,ZL,ZQ⟩=>?_
   have Yd:=Zm _ s7 M H7 _ I7 q7
   rw[Y,hw,R,T7] at Yd
   refine thn Yd fun b B ⟨H8,G,q8⟩=>?_
   have again:∀{y:Shared}{L:Hp}{vs9:List V}{its9:List Value}{n9:Nat},Inv X' ([(s2.heap.objs.size,lo its9 n9)]++m4 fp P.heap) M L y->Vals vs9 its9->N vs9 L ->
     ∃m,m<n/\∃i vs s t σ' H',Inv X' [(s2.heap.objs.size,lo s t)] σ' H' y/\(∀(j:Nat) v,(ic tn.length idx σ)[j]?=some (some v)->σ'[j]?=some (some v))/\σ'.length=(ic tn.length idx σ).length/\Tf i y.heap/\(∀b∈fp,H' b=none)/\Vals vs s/\W i m vs H':=by
    intro y L vs9 its9 n9 F r9 Y0
    obtain ⟨m',hm',w9⟩:=hN _ _ Y0
    refine⟨m',hm',i+1,vs9,its9,n9,M,L,F.pG,fun j v e=>by rw[ZQ j (D8 e)];exact e,ZL,T.keep _ _ _ Vq fun b hb o e=>(F.pin (b,o) (L1 _ (L1 _ (lW hb e)))).1,fun b hb=>?_,r9,w9⟩
    obtain ⟨o,e,d⟩:=T.obj _ _ Vq b hb
    exact (F.pin (b,o) (L1 _ (L1 _ (lW hb e)))).2.1
   cases b with
   |false =>
    exact again G rv q8
   |true =>
    have ae:=ZZ _ B M H8 _ G q8
    rw[Y,hw,R,T7] at ae
    refine thn ae fun O y ⟨v9,L,F,r9,q9⟩=>?_
    obtain ⟨U8,U,XB,Zy,_⟩:=F.pin (s2.heap.objs.size,lo s t) (L1 _ (Me _ (Gc.mpr rfl)))
    have rvl:=rv.length
    refine append_at (hsz:=by rw[Mq];omega) U8 fun h' QA QH=>?_
    have YU:∀p∈m4 fp P.heap,p.1≠s2.heap.objs.size:=fun p h z=>Yk (by rw[<- z];exact (wG h).1)
    have I10:Inv X' (m4 fp P.heap) M L y:=F.sX fun p h=>F.pin p (L1 _ (L1 _ h))
    have Yh:Inv X' (m4 fp P.heap) M L { y with heap:=h' }:=I10.turned (t':=y.toks) (it:=s2.heap.objs.size) (fun b o hb e=>QA.extBut b o hb e) U XB (.inr (by rw[Zr];exact Md _))
     (fun x c e z=>by
      obtain ⟨v,o,q1,q2⟩:=F.cell x c e
      rw[z,U8] at q1
      cases q1
      cases q2) (fun p h=>by rw[V5] at h;exact YU p h)
    have eo:({ cls:=.type "list",data:=.seq (s.toArray.push O) (t+1) }:Obj)=lo (s++[O]) (t+1):=by
     show ({ cls:=.type "list",data:=.seq (s.toArray.push O) (t+1) }:Obj)={ cls:=.type "list",data:=.seq (s++[O]).toArray (t+1) }
     rw[List.push_toArray]
    refine again (vs9:=vs++[v9]) (its9:=s++[O]) (n9:=t+1) (Yh.sX fun p h=>?_) (rv.append (.cons r9 .nil)) q9
    rcases Ma.mp h with h|h
    .obtain rfl:=Gc.mp h
     refine⟨QH.trans (congrArg some eo),U,XB,Zy,fun v z=>?_⟩
     have z':Data.seq _ _=Data.cell v:=z
     cases z'
    .exact Yh.pin p (L1 _ h)
 refine codeAny_compStart_list ?_ ?_
 .have:=T3 _ rfl
  rw[Ut] at this
  exact this
 .refine T.self _ 0 _ _ _ (T.keep _ _ _ R0 (fun b hb o e=>pushCells_keeps _ _ _ _ (Heap.get?_push_of_some _ (Heap.get?_push_of_some _ e)))) ?_
  have:=T3 _ rfl
  rw[Ut] at this
  exact this
theorem Cv(I:Inv X pins σ H s2)(S:br X scope tn cap idx):closureFor scope X.env=pure (dS X.env scope.names []) :=
 vf fun n hm=>I.ok.has n (S.fr _ hm rfl)
theorem yX(S:br X scope tn cap idx):∀x∈scope.names,x.2=.local->scope.names.lookup x.1=some .local:=fun x c e=>by
 obtain ⟨n,k⟩:=x
 have f:k=NameKind.local:=e
 subst f
 exact nC S.nd c
theorem oW{u i iter:Expr}{t:List Expr}{pos:Pos}{j:TI}{g:TG}{n:TT}{r:TE}(OQ:X.calm=true)(S:br X scope tn cap idx)(hi:PI X i iter j)(U:ma tn.length g)
  (F:∀cs C fp s₀ H₀,PG (cxC X (tn++cap) scope cs C fp s₀ H₀) i g) (ht:∀cs C fp s₀ H₀,PTs (cxC X (tn++cap) scope cs C fp s₀ H₀) t n)
  (G:∀cs C fp s₀ H₀,PE (cxC X (tn++cap) scope cs C fp s₀ H₀) u r) (B:∀x,foldedSetIterable iter X.env x=pure x:=by intro _;rfl) :
  PE X (.ListComp u [⟨i,iter,t,0⟩] scope pos) (yz j g n r tn.length idx):=by
 intro pins s σ H Q I h
 rw[eval_ListComp]
 refine wpAny_comprehension_free (use:=none) rfl B (Cv I S) S.kind (yX S) (thn (hi pins s σ H _ I h) fun v s1 P=>thn P fun U1 s2 O=>?_)
 obtain ⟨it,fp,Tf,J,H2,e,f,T,Y,R,L⟩:=O
 subst e
 refine ui OQ S U F ht G f T Y R L fun y H8 C D m I8 hm M hsz q=>?_
 refine⟨m,hm,fun h' Z=>⟨.ref D,H8,?_,rfl,q⟩⟩
 exact I8.turned (t':=y.toks) (it:=C) (fun b o hb e=>Z.extBut b o hb e) M (fun z=>absurd f.lt (by rw[<- z];exact OF.mpr hsz)) (.inr (Mx f.sz hsz))
  (fun x c e z=>by
   obtain ⟨v,q⟩:=f.cell x c e
   exact absurd q.lt (by rw[z];exact OF.mpr hsz)) (fun p E z=>absurd (Heap.lt_size (f.pin p E).1) (by rw[z];exact OF.mpr hsz))
theorem BR{t j iter:Expr}{r:List Expr}{pos F f:Pos}{u:TI}{g:TG}{B:TT}{E:TE}{i:Nat}{y:Str}(OQ:X.calm=true)(S:br X scope tn cap idx)(hN:X.N.Nodup)(P:X.N[i]?=some y)(R:Loc X.env.scope y)
  (hi:PI X j iter u) (Ri:ma tn.length g)
  (hg:∀cs C fp s₀ H₀,PG (cxC X (tn++cap) scope cs C fp s₀ H₀) j g) (ht:∀cs C fp s₀ H₀,PTs (cxC X (tn++cap) scope cs C fp s₀ H₀) r B)
  (he:∀cs C fp s₀ H₀,PE (cxC X (tn++cap) scope cs C fp s₀ H₀) t E)
  (Tn:swapsWith (.ListComp t [⟨j,iter,r,0⟩] scope pos) (some (.Name y f)) F.line X.env=pure true:=by rfl) (U:∀x,foldedSetIterable iter X.env x=pure x:=by intro _;rfl)
  (hf:X.fn y=true\/X.env.scope.names.lookup y=some .local:=by first|exact .inl rfl|exact .inr rfl|assumption) :
  PS X (.Assign [.Name y f] (.ListComp t [⟨j,iter,r,0⟩] scope pos) F) (lN (yz u g B E tn.length idx) (gn i)):=by
 intro pins s σ H D I h
 rw[exec_Assign_Name_used _ _ _ _ Tn]
 refine wpAny_bind (wpAny_standAt (wpAny_bind ?_))
 show wpAny _ X.A (do let _ <- comprehension (.ListComp t [⟨j,iter,r,0⟩] scope pos) scope X.env _ (newList []) false (eval iter X.env) (some (assign (.Name y f) X.env))) _ _ s
 refine wpAny_bind (wpAny_mono (wpAny_comprehension_free (use:=some (assign (.Name y f) X.env)) (Q:=fun _ s'=>SP X pins D .next s') rfl U (Cv I S) S.kind (yX S)
  (thn (hi pins s σ H _ I h) fun v s1 h1=>thn h1 fun U1 s2 h2=>?_)) (fun _ s' Y=>wpAny_pure (wpAny_pure Y)) fun _ _ e=>e)
 obtain ⟨it,fp,Tf,J,H2,e,n,T,R0,f2,hW⟩:=h2
 subst e
 refine ui (Q:=fun x H1=>gn i x σ H1 D.nx) OQ S Ri hg ht he n T R0 f2 hW fun s8 H8 C G m I8 hm hC hsz q=>?_
 show wpAny _ X.A (assign (.Name y f) X.env (.ref G)) _ _ _
 have L:C≠X.env.locals:=fun z=>absurd n.lt (by rw[<- z];exact OF.mpr hsz)
 have M:∀x c,X.env.cells.lookup x=some c->c≠C:=fun x c e z=>by
  obtain ⟨v,q⟩:=n.cell x c e
  exact absurd q.lt (by rw[z];exact OF.mpr hsz)
 refine wpAny_assign_Name (wo (v:=.ref G) I8 hN P R rfl (fun O I9 ⟨a,To,ha⟩=>?_) hf)
 have aC:C≠a:=fun z=>by
  rcases ha with e|e
  .exact L (z.trans e)
  .exact M _ _ e z.symm
 refine⟨m,hm.sameBut To aC,fun h' QA=>⟨_,H8,?_,q⟩⟩
 exact I9.turned (t':=O.toks) (it:=C) (fun b o hb e=>QA.extBut b o hb e) hC L (.inr (Mx n.sz hsz)) M (fun p Z z=>absurd (Heap.lt_size (n.pin p Z).1) (by rw[z];exact OF.mpr hsz))
end
def FR(J:It)(g:TG)(j:TE)(k:Nat)(idx:aac)(h:St)(r:Hp)(Q:VK):Prop :=
 ∃W:Nat->Nat->List V->Hp->Prop,(∃m,W 0 m [] r)/\∀i m vs H,W i m vs H ->
  (J.stop i H/\vs.length<=sizeLine/\∀p,H p=none->Q (.ref p) (upd H p (.lst vs))) \/
  (J.go i H/\vs.length<=sizeLine/\∃N:List V->Hp->Prop,(∀f H',N f H'->∃c,c < m/\W (i+1) c f H')/\∀x H',J.yld i H x H'->g x (ic k idx h) H' fun n q=>j n q fun v o=>N (vs++[v]) o)
def rJ(f:TI)(g:TG)(h:TE)(k:Nat)(idx:aac):TE:=fun c H Q=>f c H fun J i=>FR J g h k idx c i Q
theorem qY{c:TI}{g:TG}{f:TE}{k:Nat}{idx:aac}:rJ c g f k idx=yz c g Iv f k idx:=by
 have e:∀(A B:Prop),(if true=true then A else B)=A:=fun A B=>if_pos rfl
 unfold rJ FR yz Iv
 simp only[if_true]
section
variable {X:Cx}{scope:Scope}{tn cap:List Str}{idx:aac}
theorem An{i c iter:Expr}{pos:Pos}{f:TI}{g:TG}{h:TE}(S:br X scope tn cap idx)(hi:PI X c iter f)(o:ma tn.length g)
  (m:∀cs C fp s₀ H₀,PG (cxC X (tn++cap) scope cs C fp s₀ H₀) c g)
  (n:∀cs C fp s₀ H₀,PE (cxC X (tn++cap) scope cs C fp s₀ H₀) i h) (p:X.calm=true:=by rfl) (j:∀x,foldedSetIterable iter X.env x=pure x:=by intro _;rfl) :
  PE X (.ListComp i [⟨c,iter,[],0⟩] scope pos) (rJ f g h tn.length idx):=by
 rw[qY]
 exact oW p S hi o m (fun _ _ _ _ _=>CP) n j
theorem tL{f c iter:Expr}{pos n m:Pos}{h:TI}{g:TG}{j:TE}{i:Nat}{y:Str}(S:br X scope tn cap idx)(u:X.N.Nodup)(o:X.N[i]?=some y)(p:Loc X.env.scope y)
  (hi:PI X c iter h) (z:ma tn.length g)
  (r:∀cs C fp s₀ H₀,PG (cxC X (tn++cap) scope cs C fp s₀ H₀) c g)
  (t:∀cs C fp s₀ H₀,PE (cxC X (tn++cap) scope cs C fp s₀ H₀) f j) (B:X.calm=true:=by rfl)
  (v:swapsWith (.ListComp f [⟨c,iter,[],0⟩] scope pos) (some (.Name y m)) n.line X.env=pure true:=by rfl) (q:∀x,foldedSetIterable iter X.env x=pure x:=by intro _;rfl)
  (s:X.fn y=true\/X.env.scope.names.lookup y=some .local:=by first|exact .inl rfl|exact .inr rfl|assumption) :
  PS X (.Assign [.Name y m] (.ListComp f [⟨c,iter,[],0⟩] scope pos) n) (lN (rJ h g j tn.length idx) (gn i)):=by
 rw[qY]
 exact BR B S u o p hi z r (fun _ _ _ _ _=>CP) t v q s
end
end L2
namespace L2
open PySem PySem.Spec PyProof.Rows
inductive D where
 |non|bl (b:Bool)|int (i:Int)|str (x:Str)|lst (ds:List D)|tup (ds:List D)
mutual
def Rf(H:Hp):D->V->List Addr->Prop
 |.non,v,fp=>v=.non/\fp=[]
 |.bl b,v,fp=>v=.bl b/\fp=[]
 |.int i,v,fp=>v=.int i/\fp=[]
 |.str x,v,fp=>v=.str x/\fp=[]
 |.lst ds,v,fp=>∃a xs c,v=.ref a/\H a=some (.lst xs)/\fp=a::c/\Rfs H ds xs c
 |.tup ds,v,fp=>∃a xs,v=.ref a/\H a=some (.tup xs)/\Rfs H ds xs fp
def Rfs(H:Hp):List D->List V->List Addr->Prop
 |[],xs,fp=>xs=[]/\fp=[]
 |d::ds,xs,fp=>∃x r g f,xs=x::r/\fp=g++f/\Rf H d x g/\Rfs H ds r f
end
def Rp(H:Hp)(d:D)(v:V):Prop:=∃fp,Rf H d v fp
theorem Rfs.length{H:Hp}:∀{ds:List D}{vs:List V}{fp:List Addr},Rfs H ds vs fp->vs.length=ds.length
 |[],_,_,h=>by obtain ⟨rfl,_⟩:=h;rfl
 |d::ds,vs,fp,h=>by
  obtain ⟨x,r,i,g,e1,e2,f,c⟩:=h
  subst e1
  rw[L8,L8,Rfs.length c]
theorem Rfs.get{H:Hp}:∀{ds:List D}{vs:List V}{fp:List Addr}{i:Nat}{d:D},Rfs H ds vs fp->ds[i]?=some d->∃v f,vs[i]?=some v/\Rf H d v f/\(∀a∈f,a∈fp)
 |[],_,_,_,_,_,e=>by simp at e
 |d::ds,vs,fp,0,d',h,e=>by
  obtain ⟨x,r,j,n,rfl,rfl,g,c⟩:=h
  simp at e;subst e
  exact⟨x,j,rfl,g,fun a ha=>Me _ ha⟩
 |d::ds,vs,fp,i+1,d',h,e=>by
  obtain ⟨x,r,j,n,rfl,rfl,g,c⟩:=h
  obtain ⟨v,f,e1,m,k⟩:=Rfs.get (i:=i) c (by simpa using e)
  exact⟨v,f,by simpa using e1,m,fun a ha=>L1 _ (k a ha)⟩
abbrev dI(xs:aab):D:=.lst (xs.map D.int)
abbrev dT(t:aaa):D:=.lst (t.map dI)
end L2
namespace L2
open PySem PySem.Spec PyProof.Rows
section
variable {X:Cx}
theorem zw:je X (.builtin "isinstance") (fun xs H Q=>∃x n t b,xs=[x,.ty n]/\nX X.K H x t/\PySem.W.kitOne X.K t (.type n)=some b/\Q (.bl b) H):=by
 intro c s i H xs us Q I r h
 obtain ⟨x,n,t,b,rfl,ty,e,q⟩:=h
 obtain ⟨u,f,rfl,g,rn⟩:=vals2 r
 obtain rfl:f=Value.type n:=rn
 exact DV I g ty e fun j=>⟨.bl b,H,I.tok _,rfl,q⟩
theorem lC:∀{xs:aab}{us:List Value},Vals (xs.map V.int) us->IntsAre us xs
 |[],us,r=>by cases r;exact .nil
 |x::xs,us,r=>by
  cases r with
  |cons r c =>
   obtain ⟨t,rfl⟩:=r
   exact .cons _ _ (lC c)
theorem FJ(j:X.calm=true):je X (.builtin "sum") (fun xs H Q=>∃(a:Addr) (ns:aab),xs=[.ref a]/\SqL X.K H a (ns.map V.int)/\Q (.int ns.sum) H):=by
 intro c s p H xs us Q I r h
 obtain ⟨a,ns,rfl,m,q⟩:=h
 obtain ⟨u,rfl,g⟩:=vals1 r
 obtain rfl:u=Value.ref a:=g
 obtain ⟨o,f,pl,v⟩:=I.list m
 have hi:=lC f
 obtain ⟨n,e⟩:=hi.allInts.items
 have hl:s.heap.IsList a (intItems n):=by rw[<- e];exact pl.isList
 refine sum_intListG (I.ok.hd j) hl fun h' t t' i=>⟨.int ns.sum,H,I.kept i,⟨t',?_⟩,q⟩
 have e2:numsOf o.toArray.toList=ns:=hi.numsOf
 rw[e,nums_intItems] at e2
 rw[preSum_eq,Ni (by simp),e2]
end
def Itz(K:aad)(a b:Addr):It :=
 ⟨fun i H=>∃xs ys x y,SqL K H a xs/\SqL K H b ys/\xs[i]?=some x/\ys[i]?=some y,
 fun i H v H'=>∃p x y,v=.ref p/\H p=none/\H'=upd H p (.tup [x,y])/\(∀xs,SqL K H a xs->xs[i]?=some x)/\∀ys,SqL K H b ys->ys[i]?=some y,
 fun i H=>∃xs ys,SqL K H a xs/\SqL K H b ys/\(xs.length<=i\/ys.length<=i)⟩
def Ek(a b z TI TO f c:Addr)(i:Nat)(h:Heap):Prop :=
 IsZip h z TI TO .none/\IsPair h TI (.ref f) (.ref c)/\(∃u v,IsPair h TO u v)/\h.IsListIter f a i/\h.IsListIter c b i
theorem c6{h:Heap}{a b:Addr}{o u:Obj}{c d:String}(e1:h.get? a=some o)(e2:h.get? b=some u)(c1:o.cls=.type c)(f:u.cls=.type d)(n:c≠d):a≠b:=fun z=>by
 subst z;rw[e1] at e2;cases e2;rw[c1] at f;cases f;exact n rfl
theorem vZ{h:Heap}{a b z TI TO q p:Addr}{i:Nat}{xs ys:Array Value}(st:Ek a b z TI TO q p i h)(s:h.IsList a xs)(r:h.IsList b ys)(x:TI≠TO)(t:q≠p):ZipApart z TI TO q p a b:=by
 obtain ⟨sz,o,⟨u,v,c⟩,⟨B,e1,c1,_⟩,⟨y,e2,f,_⟩⟩:=st
 obtain ⟨oa,j,n,_⟩:=s
 obtain ⟨ob,g,m,_⟩:=r
 exact⟨c6 o sz rfl rfl (by decide),c6 c sz rfl rfl (by decide),c6 e1 sz c1 rfl (by decide),c6 e2 sz f rfl (by decide),x,c6 o e1 rfl c1 (by decide),c6 o e2 rfl f (by decide),c6 c e1 rfl c1 (by decide),c6 c e2 rfl f (by decide),t,
  c6 j sz n rfl (by decide),c6 j c n rfl (by decide),c6 j e1 n c1 (by decide),c6 j e2 n f (by decide),c6 g sz m rfl (by decide),c6 g c m rfl (by decide),c6 g e1 m c1 (by decide),c6 g e2 m f (by decide)⟩
theorem Inv.tf{X:Cx}{c:List (Addr × Obj)}{h:St}{H H':Hp}{s:Shared}{h':Heap}{fp:List Addr}{t':Nat}(I:Inv X c h H s)(i:∀b∈fp,u6 X c H b)(k:∀b o,b∉fp->s.heap.get? b=some o->h'.get? b=some o)
  (free:∀b o,s.heap.get? b=some o->H b=none->H' b=none) (g:Same H H') (hok:HOk X.prog X.w H' h'):Inv X c h H' { s with heap:=h',toks:=t' }:=by
 have j:X.env.locals∉fp:=fun z=>(i _ z).2.1 rfl
 refine I.step (g':=s.gens) (d':=s.drawn) (ch:=fp) (fun b hb=>?_) (fun b o _ _ f e _=>k b o f e) (fun b o _ _ f e _=>⟨o.slots,k b o f e⟩) (fun b o _ e n=>free b o e n) (fun b o f e=>⟨o,k b o f e⟩)
  (fun b xs e=>g b _ e) (fun b o u e=>g b _ e) (fun b ps e=>⟨#[],by rw[g b _ e];simp⟩) (fun m hm=>?_) hok I.bare
 .obtain ⟨_,x,_,v,t,q⟩:=i b hb
  exact⟨v,x,t,q⟩
 .obtain ⟨o,es,ep,p,r⟩:=hm
  exact⟨o,es,ep,k _ o j p,r⟩
theorem EI{P:Program}{w:World}{K:aad}{O5:List Expr}{x1:Nat}{pos:Pos}(a b z TI TO L J:Addr)(d1:TI≠TO)(d2:L≠J):Turn P w K (.Tuple O5 x1 pos) (Itz K a b) [z,TI,TO,L,J] z (Ek a b z TI TO L J) where
 mem:=by simp
 obj:=fun i h st c f=>by
  obtain ⟨sz,j,⟨u,v,m⟩,⟨o1,e1,c1,q1⟩,⟨o2,e2,c2,q2⟩⟩:=st
  simp only[L6,Mo,or_false] at f
  rcases f with rfl|rfl|rfl|rfl|rfl
  .exact⟨_,sz,fun v z=>by cases z⟩
  .exact⟨_,j,fun v z=>by cases z⟩
  .exact⟨_,m,fun v z=>by cases z⟩
  .exact⟨_,e1,fun v z=>by rw[q1] at z;cases z⟩
  .exact⟨_,e2,fun v z=>by rw[q2] at z;cases z⟩
 keep:=fun i h h' st k=>by
  obtain ⟨sz,j,⟨u,v,m⟩,t,r⟩:=st
  exact⟨k _ (by simp) _ sz,k _ (by simp) _ j,⟨u,v,k _ (by simp) _ m⟩,t.at fun o e=>k _ (by simp) o e,r.at fun o e=>k _ (by simp) o e⟩
 item:=by
  intro X hP hw hK f i C s σ H E I B st Z
  subst hP hw hK
  obtain ⟨xs,ys,x,y,S,R,hx,hy⟩:=Z
  obtain ⟨RI,R4,G,T6⟩:=I.list S
  obtain ⟨Oh,Qp,F,Ti⟩:=I.list R
  obtain ⟨u,hu,ru⟩:=R4.get hx
  obtain ⟨v,hv,rv⟩:=Qp.get hy
  have g:=vZ st G.isList F.isList d1 d2
  obtain ⟨sz,j,⟨ua,ub,m⟩,t,r⟩:=st
  refine wpAny_pyNext_zip_item g sz j m t r G.isList F.isList (x:=u) (y:=v) (by simpa using hu) (by simpa using hv) fun h1 z1 O1 t1 t2 pr hsz Q=>?_
  refine⟨.ref s.heap.objs.size,rfl,wpAny_letOwnedTupleGo_zip z1 fun h2 z2 p=>?_⟩
  have Ym:z<s.heap.objs.size:=Heap.lt_size sz
  have pz:s.heap.objs.size≠z:=O0 Ym
  have hn:H s.heap.objs.size=none:=I.hok.fresh (Md _)
  have k2:∀c o,c∉[z,TI,TO,L,J]->s.heap.get? c=some o->h2.get? c=some o:=fun c o f e=>by
   simp only[L6,Mo,or_false,not_or] at f
   exact p.extBut c o f.1 (Q c o f.1 f.2.2.1 f.2.2.2.1 f.2.2.2.2 e)
  have U:Same H (upd H s.heap.objs.size (.tup [x,y])):=fun c o e=>by rw[aG (aS e hn)];exact e
  refine⟨.ref s.heap.objs.size,upd H s.heap.objs.size (.tup [x,y]),?_,rfl,⟨s.heap.objs.size,x,y,rfl,hn,rfl,fun zs Y=>by rw[I.pw Y S];exact hx,fun zs Y=>by rw[I.pw Y R];exact hy⟩,
   ⟨z2,p.extBut _ _ g.TIz (Q _ _ g.TIz g.TITO g.TIi1 g.TIi2 j),⟨u,v,p.extBut _ _ g.TOz O1⟩,t1.at fun o e=>p.extBut _ _ g.i1z e,t2.at fun o e=>p.extBut _ _ g.i2z e⟩,fun c f=>?_⟩
  .refine I.tf (t':=s.toks) B k2 (fun c o e n=>by rw[aG (Mr (Heap.lt_size e))];exact n) U fun c o e=>?_
   by_cases M:c=s.heap.objs.size
   .subst M
    rw[az] at e
    cases e
    exact⟨by simp only[L8,NR];rw[sizeLine_eq];decide,[u,v],.cons ru (.cons rv .nil),⟨_,p.extBut _ _ pz pr,rfl,0,rfl⟩⟩
   .rw[aG M] at e
    refine (I.hok c o e).pF (fun d T hd q=>k2 d T (fun hm=>?_) q) (fun d q=>U d _ q) fun d ds q=>U d _ q
    have O:=(B d hm).1
    rcases hd with rfl|hd
    .rw[O] at e;cases e
    .rw[O] at hd;cases hd
  .have:=(B c f).1
   by_cases M:c=s.heap.objs.size
   .exfalso
    subst M
    obtain ⟨_,e1,_⟩:=t
    obtain ⟨_,e2,_⟩:=r
    simp only[L6,Mo,or_false] at f
    rcases f with q|q|q|q|q
    .exact pz q
    .exact absurd (Heap.lt_size j) (by rw[<- q];exact MT _)
    .exact absurd (Heap.lt_size m) (by rw[<- q];exact MT _)
    .exact absurd (Heap.lt_size e1) (by rw[<- q];exact MT _)
    .exact absurd (Heap.lt_size e2) (by rw[<- q];exact MT _)
   .rw[aG M];exact this
 done:=by
  intro X hP hw hK f i C s σ H E I B st Z
  subst hP hw hK
  obtain ⟨xs,ys,S,R,QR⟩:=Z
  obtain ⟨RI,R4,G,T6⟩:=I.list S
  obtain ⟨Oh,Qp,F,Ti⟩:=I.list R
  have l1:=R4.length
  have l2:=Qp.length
  have g:=vZ st G.isList F.isList d1 d2
  obtain ⟨sz,j,⟨ua,ub,m⟩,t,r⟩:=st
  refine wpAny_pyNext_zip_end (I.ok.hd f) g sz j m t r G.isList F.isList (QR.elim (fun q=>.inl (by simp;omega)) fun q=>.inr (by simp;omega)) fun h1 Q=>⟨rfl,?_⟩
  have k2:∀c o,c∉[z,TI,TO,L,J]->s.heap.get? c=some o->h1.get? c=some o:=fun c o f e=>by
   simp only[L6,Mo,or_false,not_or] at f
   exact Q c o f.1 f.2.2.1 f.2.2.2.1 f.2.2.2.2 e
  refine I.tf (t':=s.toks) B k2 (fun _ _ _ n=>n) (Same.refl H) fun c o e=>?_
  refine (I.hok c o e).pF (fun d T hd q=>k2 d T (fun hm=>?_) q) (fun d q=>q) fun d ds q=>q
  have O:=(B d hm).1
  rcases hd with rfl|hd
  .rw[O] at e;cases e
  .rw[O] at hd;cases hd
 self:=fun _ _ _ _ _ st h=>wpAny_pyIter_zip st.1 h
section
variable {X:Cx}
def JC(K:aad)(g:TA):TI:=fun f H R=>g f H fun vs c=>∃a b,vs=[.ref a,.ref b]/\(∃xs,SqL K c a xs)/\(∃ys,SqL K c b ys)/\R (Itz K a b) c
theorem KW{O5:List Expr}{u:Nat}{y:Pos}{a b:Expr}{n:TA}{p pos:Pos}(U:Gl X "zip")(hm:X.mg "zip" = none)(ha:PA X [a,b] n)(T:starEach [a,b] X.env=[(false,eval a X.env),(false,eval b X.env)]:=by rfl)(t:starEach [b] X.env=[(false,eval b X.env)]:=by rfl) :
  PI X (.Tuple O5 u y) (.Call (.Name "zip" p) [a,b] [] pos) (JC X.K n):=by
 intro g s m H R I h
 refine Call_ (gP I U hm boot_zip (MG (thn (ha pos g s m H _ I h) fun us f ⟨vs,j,i,J,L⟩=>?_) (by rw[T,t]) (by rw[t];rfl)))
 obtain ⟨l1,l2,rfl,⟨xs,S⟩,⟨ys,Q⟩,q⟩:=L
 obtain ⟨x,v,rfl,G,F⟩:=vals2 J
 obtain rfl:x=Value.ref l1:=G
 obtain rfl:v=Value.ref l2:=F
 obtain ⟨RI,R4,O,T6⟩:=i.list S
 obtain ⟨Oh,Qp,M,Ti⟩:=i.list Q
 refine call_zip_2 O.isList M.isList fun h' sz E C B z hsz P=>?_
 have I2:Inv X g m j { f with heap:=h' }:=i.kept (t':=f.toks) P
 refine wpAny_pyIter_zip sz ⟨_,_,Ek l1 l2 (f.heap.objs.size+4) (f.heap.objs.size+2) (f.heap.objs.size+3) f.heap.objs.size (f.heap.objs.size+1),Itz X.K l1 l2,j,rfl,I2,EI _ _ _ _ _ _ _ (Mr (NF _)) (Mr (NF _)),⟨sz,E,⟨_,_,C⟩,B,z⟩,fun c o=>?_,q⟩
 simp only[L6,Mo,or_false] at o
 have r:f.heap.objs.size<=c:=by rcases o with rfl|rfl|rfl|rfl|rfl<;>first|exact Nat.le_add_right _ _|exact Md _
 obtain ⟨g0,g1,g2,g3,Z,Y⟩:=i.Ie (H':=j) r (i.hok.fresh r)
 exact⟨g0,g1,g2,g3,Z,Y⟩
end
mutual
def D.plain:D->Bool
 |.non=>true|.bl _=>false|.int _=>true|.str _=>true
 |.lst ds=>D.eG ds|.tup ds=>D.eG ds
def D.eG:List D->Bool
 |[]=>true
 |d::ds=>D.plain d && D.eG ds
end
mutual
def D.depth:D->Nat
 |.lst ds=>D.gf ds+1|.tup ds=>D.gf ds+1
 |_=>0
def D.gf:List D->Nat
 |[]=>0
 |d::ds=>max (D.depth d) (D.gf ds)
end
mutual
def D.eqb:D->D->Bool
 |.non,.non=>true
 |.int i,.int j=>i == j
 |.str i,.str j=>i == j
 |.lst a,.lst b=>D.l9 a b
 |.tup a,.tup b=>D.l9 a b
 |_,_=>false
def D.l9:List D->List D->Bool
 |[],[]=>true
 |a::as,b::bs=>D.eqb a b && D.l9 as bs
 |_,_=>false
end
theorem D.lF:∀{a b:List D},D.l9 a b=(decide (a.length=b.length) && (List.range a.length).all fun i=>match a[i]?,b[i]? with|some x,some y=>D.eqb x y|_,_=>false)
 |[],[]=>rfl
 |[],b::bs=>by simp [D.l9]
 |a::as,[]=>by simp [D.l9]
 |a::as,b::bs=>by
  rw[D.l9,D.lF (a:=as) (b:=bs),L8,List.range_succ_eq_map,Of,NL]
  by_cases h:as.length=bs.length
  .simp [h,Function.comp_def]
  .simp [h]
end L2
namespace L2
open PySem PySem.Spec PyProof.Rows
open PySem.SeqAt
theorem D.eV:∀{ds:List D}{i:Nat}{d:D},D.eG ds=true->ds[i]?=some d->d.plain=true
 |[],i,d,_,e=>by simp at e
 |c::ds,0,d,h,e=>by
  simp at e;subst e
  rw[D.eG,M5] at h
  exact h.1
 |c::ds,i+1,d,h,e=>by
  rw[D.eG,M5] at h
  exact D.eV (i:=i) h.2 (by simpa using e)
theorem D.jZ:∀{ds:List D}{i:Nat}{d:D},ds[i]?=some d->d.depth<=D.gf ds
 |[],i,d,e=>by simp at e
 |c::ds,0,d,e=>by
  simp at e;subst e
  rw[D.gf]
  exact Nat.le_max_left _ _
 |c::ds,i+1,d,e=>by
  rw[D.gf]
  exact Mx (D.jZ (i:=i) (by simpa using e)) (Nat.le_max_right _ _)
theorem D.F0{a b:List D}(hl:a.length=b.length)(f:Nat->Bool)(h:∀i x y,a[i]?=some x->b[i]?=some y->f i=D.eqb x y):D.l9 a b=(List.range a.length).all f:=by
 rw[D.lF,decide_eq_true hl,Bool.true_and,Nr]
 simp only[ML,Mh]
 constructor
 .intro q i hi
  have:=q i hi
  rw[gV hi,gV (show i<b.length by omega)] at this
  rw[h i _ _ (gV hi) (gV (show i<b.length by omega))]
  exact this
 .intro q i hi
  have:=q i hi
  rw[h i _ _ (gV hi) (gV (show i<b.length by omega))] at this
  rw[gV hi,gV (show i<b.length by omega)]
  exact this
theorem D.pC{a b:List D}(hl:a.length≠b.length):D.l9 a b=false:=by
 rw[D.lF,decide_eq_false hl,Bool.false_and]
theorem Cj{H:Hp}:∀(n:Nat) (d e:D) (v:V),d.depth<=n->Rp H d v->Rp H e v->d.plain=true->D.eqb d e=true:=by
 intro n
 induction n with
 |zero =>
  intro d e v hn hd c h
  obtain ⟨f,hd⟩:=hd
  obtain ⟨g,c⟩:=c
  cases d with
  |non=>obtain ⟨rfl,_⟩:=hd;cases e with
   |non=>rfl
   |lst ds=>obtain ⟨_,_,_,z,_⟩:=c;cases z
   |tup ds=>obtain ⟨_,_,z,_⟩:=c;cases z
   |_=>obtain ⟨z,_⟩:=c;cases z
  |bl b=>cases h
  |int i=>obtain ⟨rfl,_⟩:=hd;cases e with
   |int j=>obtain ⟨z,_⟩:=c;cases z;simp [D.eqb]
   |lst ds=>obtain ⟨_,_,_,z,_⟩:=c;cases z
   |tup ds=>obtain ⟨_,_,z,_⟩:=c;cases z
   |_=>obtain ⟨z,_⟩:=c;cases z
  |str i=>obtain ⟨rfl,_⟩:=hd;cases e with
   |str j=>obtain ⟨z,_⟩:=c;cases z;simp [D.eqb]
   |lst ds=>obtain ⟨_,_,_,z,_⟩:=c;cases z
   |tup ds=>obtain ⟨_,_,z,_⟩:=c;cases z
   |_=>obtain ⟨z,_⟩:=c;cases z
  |lst ds=>rw[D.depth] at hn;omega
  |tup ds=>rw[D.depth] at hn;omega
 |succ n ih =>
  intro d e v hn hd c h
  have go:∀(ds es:List D) (xs:List V) (f g:List Addr),D.gf ds<=n->Rfs H ds xs f->Rfs H es xs g->D.eG ds=true->D.l9 ds es=true:=by
   intro ds es xs f g hn o m h
   have l1:=o.length
   have l2:=m.length
   rw[D.F0 (by omega) (fun _=>true) (fun i x y e1 e2=>?_)]
   .simp
   .obtain ⟨v1,C,s,r,_⟩:=o.get e1
    obtain ⟨u,B,q2,q,_⟩:=m.get e2
    rw[s] at q2;cases q2
    exact (ih x y v1 (Mx (D.jZ e1) hn) ⟨_,r⟩ ⟨_,q⟩ (D.eV h e1)).symm
  obtain ⟨f,hd⟩:=hd
  obtain ⟨g,c⟩:=c
  cases d with
  |non=>obtain ⟨rfl,_⟩:=hd;cases e with
   |non=>rfl
   |lst ds=>obtain ⟨_,_,_,z,_⟩:=c;cases z
   |tup ds=>obtain ⟨_,_,z,_⟩:=c;cases z
   |_=>obtain ⟨z,_⟩:=c;cases z
  |bl b=>cases h
  |int i=>obtain ⟨rfl,_⟩:=hd;cases e with
   |int j=>obtain ⟨z,_⟩:=c;cases z;simp [D.eqb]
   |lst ds=>obtain ⟨_,_,_,z,_⟩:=c;cases z
   |tup ds=>obtain ⟨_,_,z,_⟩:=c;cases z
   |_=>obtain ⟨z,_⟩:=c;cases z
  |str i=>obtain ⟨rfl,_⟩:=hd;cases e with
   |str j=>obtain ⟨z,_⟩:=c;cases z;simp [D.eqb]
   |lst ds=>obtain ⟨_,_,_,z,_⟩:=c;cases z
   |tup ds=>obtain ⟨_,_,z,_⟩:=c;cases z
   |_=>obtain ⟨z,_⟩:=c;cases z
  |lst ds =>
   obtain ⟨a,xs,t,rfl,e1,rfl,hd⟩:=hd
   cases e with
   |lst es =>
    obtain ⟨b,ys,p,z,e2,rfl,c⟩:=c
    cases z
    rw[e1] at e2;cases e2
    rw[D.eqb]
    exact go ds es xs t p (by rw[D.depth] at hn;omega) hd c h
   |tup es =>
    obtain ⟨b,ys,z,e2,c⟩:=c
    cases z
    rw[e1] at e2;cases e2
   |_=>obtain ⟨z,_⟩:=c;cases z
  |tup ds =>
   obtain ⟨a,xs,rfl,e1,hd⟩:=hd
   cases e with
   |tup es =>
    obtain ⟨b,ys,z,e2,c⟩:=c
    cases z
    rw[e1] at e2;cases e2
    rw[D.eqb]
    exact go ds es xs f g (by rw[D.depth] at hn;omega) hd c h
   |lst es =>
    obtain ⟨b,ys,p,z,e2,rfl,c⟩:=c
    cases z
    rw[e1] at e2;cases e2
   |_=>obtain ⟨z,_⟩:=c;cases z
theorem JW{X:Cx}{L:List (Addr × Obj)}{σ:St}{H:Hp}{s:Shared}(I:Inv X L σ H s):∀(n:Nat) (d e:D) (x y:V) (u w:Value) (A:Around),d.depth<=n->Rp H d x->Rp H e y->RelV x u->RelV y w->d.plain=true->e.plain=true->A.units+n<cLine ->
  EqAt A s u w (D.eqb d e):=by
 intro n
 induction n with
 |zero =>
  intro d e x y u w A hn hd c q h p o hu
  obtain ⟨f,hd⟩:=hd
  obtain ⟨g,c⟩:=c
  have m:A.units<cLine:=by omega
  cases d with
  |non =>
   obtain ⟨rfl,_⟩:=hd;obtain rfl:u=.none:=q
   cases e with
   |non=>obtain ⟨rfl,_⟩:=c;obtain rfl:w=.none:=h;exact EqAt.same _
   |bl b=>cases o
   |int j=>obtain ⟨rfl,_⟩:=c;obtain ⟨t,rfl⟩:=h;exact EqAt.none_int _ _
   |str j=>obtain ⟨rfl,_⟩:=c;obtain ⟨t,rfl⟩:=h;exact EqAt.none_str _ _
   |lst es=>obtain ⟨b,ys,P,rfl,e2,_,c⟩:=c;obtain rfl:w=.ref b:=h;obtain ⟨_,_,pl,_⟩:=I.list (SqL.of e2);exact EqAt.none_list pl.isList m
   |tup es=>obtain ⟨b,ys,rfl,e2,c⟩:=c;obtain rfl:w=.ref b:=h;obtain ⟨_,_,pl,_⟩:=I.tuple (SqT.of e2);exact EqAt.none_tuple pl m
  |bl b=>cases p
  |int i =>
   obtain ⟨rfl,_⟩:=hd;obtain ⟨t0,rfl⟩:=q
   cases e with
   |non=>obtain ⟨rfl,_⟩:=c;obtain rfl:w=.none:=h;exact EqAt.int_none _ _
   |bl b=>cases o
   |int j=>obtain ⟨rfl,_⟩:=c;obtain ⟨t,rfl⟩:=h;exact EqAt.int_int _ _ _ _
   |str j=>obtain ⟨rfl,_⟩:=c;obtain ⟨t,rfl⟩:=h;exact EqAt.int_str _ _ _ _
   |lst es=>obtain ⟨b,ys,P,rfl,e2,_,c⟩:=c;obtain rfl:w=.ref b:=h;obtain ⟨_,_,pl,_⟩:=I.list (SqL.of e2);exact EqAt.int_list _ _ pl.isList m
   |tup es=>obtain ⟨b,ys,rfl,e2,c⟩:=c;obtain rfl:w=.ref b:=h;obtain ⟨_,_,pl,_⟩:=I.tuple (SqT.of e2);exact EqAt.int_tuple _ _ pl m
  |str i =>
   obtain ⟨rfl,_⟩:=hd;obtain ⟨t0,rfl⟩:=q
   cases e with
   |non=>obtain ⟨rfl,_⟩:=c;obtain rfl:w=.none:=h;exact EqAt.str_none _ _
   |bl b=>cases o
   |int j=>obtain ⟨rfl,_⟩:=c;obtain ⟨t,rfl⟩:=h;exact EqAt.str_int _ _ _ _
   |str j=>obtain ⟨rfl,_⟩:=c;obtain ⟨t,rfl⟩:=h;exact EqAt.str_str _ _ _ _
   |lst es=>obtain ⟨b,ys,P,rfl,e2,_,c⟩:=c;obtain rfl:w=.ref b:=h;obtain ⟨_,_,pl,_⟩:=I.list (SqL.of e2);exact EqAt.str_list _ _ pl.isList m
   |tup es=>obtain ⟨b,ys,rfl,e2,c⟩:=c;obtain rfl:w=.ref b:=h;obtain ⟨_,_,pl,_⟩:=I.tuple (SqT.of e2);exact EqAt.str_tuple _ _ pl m
  |lst ds=>rw[D.depth] at hn;omega
  |tup ds=>rw[D.depth] at hn;omega
 |succ n ih =>
  intro d e x y u w A hn hd c q h p o hu
  have m:A.units<cLine:=by omega
  have ud:A.in1.units+n<cLine:=by show A.units+1+n<cLine;omega
  cases d with
  |non=>exact ih _ _ x y u w A (by simp [D.depth]) hd c q h p o (by omega)
  |bl b=>cases p
  |int i=>exact ih _ _ x y u w A (by simp [D.depth]) hd c q h p o (by omega)
  |str i=>exact ih _ _ x y u w A (by simp [D.depth]) hd c q h p o (by omega)
  |lst ds =>
   have Uv:=hd
   have Ww:=c
   obtain ⟨f,a,xs,fq,rfl,e1,rfl,hd⟩:=hd
   obtain rfl:u=.ref a:=q
   obtain ⟨B,J,pl,hz⟩:=I.list (SqL.of e1)
   obtain ⟨g,c⟩:=c
   cases e with
   |non=>obtain ⟨rfl,_⟩:=c;obtain rfl:w=.none:=h;exact EqAt.list_none pl.isList m
   |bl b=>cases o
   |int j=>obtain ⟨rfl,_⟩:=c;obtain ⟨t,rfl⟩:=h;exact EqAt.list_int _ _ pl.isList m
   |str j=>obtain ⟨rfl,_⟩:=c;obtain ⟨t,rfl⟩:=h;exact EqAt.list_str _ _ pl.isList m
   |tup es=>obtain ⟨b,ys,rfl,e2,c⟩:=c;obtain rfl:w=.ref b:=h;obtain ⟨_,_,v,_⟩:=I.tuple (SqT.of e2);exact EqAt.list_tuple pl.isList v m
   |lst es =>
    obtain ⟨b,ys,P,rfl,e2,rfl,c⟩:=c
    obtain rfl:w=.ref b:=h
    by_cases O:a=b
    .subst O
     rw[Cj _ _ _ _ (Md _) Uv Ww p]
     exact EqAt.same _
    .obtain ⟨E,M,v,Ti⟩:=I.list (SqL.of e2)
     refine EqAt.of_refs O ?_
     have l1:=J.length
     have l2:=M.length
     have m1:=hd.length
     have m2:=c.length
     by_cases hl:ds.length=es.length
     .have key:=RcAt.lists (A:=A) (e:=fun i=>match ds[i]?,es[i]? with|some x,some y=>D.eqb x y|_,_=>false) pl.isList v.isList (by simp;omega) m (fun j h1 h2=>by
       have r:j<ds.length:=by simp at h1;omega
       have C:j<es.length:=by omega
       simp only[gV r,gV C]
       obtain ⟨v1,f1,Y,U,_⟩:=hd.get (gV r)
       obtain ⟨Q,f2,q2,T,_⟩:=c.get (gV C)
       obtain ⟨G,p1,S⟩:=J.get Y
       obtain ⟨F,Z,R⟩:=M.get q2
       have i1:B.toArray[j]=G:=by
        have:=KE.mp p1
        obtain ⟨_,z⟩:=this
        simpa using z
       have i2:E.toArray[j]=F:=by
        have:=KE.mp Z
        obtain ⟨_,z⟩:=this
        simpa using z
       rw[i1,i2]
       exact ih _ _ v1 Q G F A.in1 (by have:=D.jZ (gV r);rw[D.depth] at hn;omega) ⟨_,U⟩ ⟨_,T⟩ S R (D.eV p (gV r)) (D.eV o (gV C)) ud)
      have e3:D.eqb (.lst ds) (.lst es)=(List.range B.toArray.size).all fun i=>match ds[i]?,es[i]? with|some x,some y=>D.eqb x y|_,_=>false:=by
       rw[D.eqb,D.lF,decide_eq_true hl,Bool.true_and]
       rw[show B.toArray.size=ds.length by simp;omega]
       all_goals rfl
      rw[e3]
      exact key
     .rw[D.eqb,D.pC hl]
      exact RcAt.lists_lengths pl.isList v.isList (by simp;omega) m
  |tup ds =>
   have Uv:=hd
   have Ww:=c
   obtain ⟨f,a,xs,rfl,e1,hd⟩:=hd
   obtain rfl:u=.ref a:=q
   obtain ⟨B,J,pl,hz⟩:=I.tuple (SqT.of e1)
   obtain ⟨g,c⟩:=c
   cases e with
   |non=>obtain ⟨rfl,_⟩:=c;obtain rfl:w=.none:=h;exact EqAt.tuple_none pl m
   |bl b=>cases o
   |int j=>obtain ⟨rfl,_⟩:=c;obtain ⟨t,rfl⟩:=h;exact EqAt.tuple_int _ _ pl m
   |str j=>obtain ⟨rfl,_⟩:=c;obtain ⟨t,rfl⟩:=h;exact EqAt.tuple_str _ _ pl m
   |lst es=>obtain ⟨b,ys,P,rfl,e2,_,c⟩:=c;obtain rfl:w=.ref b:=h;obtain ⟨_,_,v,_⟩:=I.list (SqL.of e2);exact EqAt.tuple_list pl v.isList m
   |tup es =>
    obtain ⟨b,ys,rfl,e2,c⟩:=c
    obtain rfl:w=.ref b:=h
    by_cases O:a=b
    .subst O
     rw[Cj _ _ _ _ (Md _) Uv Ww p]
     exact EqAt.same _
    .obtain ⟨E,M,v,Ti⟩:=I.tuple (SqT.of e2)
     refine EqAt.of_refs O ?_
     have l1:=J.length
     have l2:=M.length
     have m1:=hd.length
     have m2:=c.length
     have key:=RcAt.tuples (A:=A) (e:=fun i=>match ds[i]?,es[i]? with|some x,some y=>D.eqb x y|_,_=>false) pl v m (fun j h1 h2=>by
       have r:j<ds.length:=by simp at h1;omega
       have C:j<es.length:=by simp at h2;omega
       simp only[gV r,gV C]
       obtain ⟨v1,f1,Y,U,_⟩:=hd.get (gV r)
       obtain ⟨Q,f2,q2,T,_⟩:=c.get (gV C)
       obtain ⟨G,p1,S⟩:=J.get Y
       obtain ⟨F,Z,R⟩:=M.get q2
       have i1:B.toArray[j]=G:=by
        have:=KE.mp p1
        obtain ⟨_,z⟩:=this
        simpa using z
       have i2:E.toArray[j]=F:=by
        have:=KE.mp Z
        obtain ⟨_,z⟩:=this
        simpa using z
       rw[i1,i2]
       exact ih _ _ v1 Q G F A.in1 (by have:=D.jZ (gV r);rw[D.depth] at hn;omega) ⟨_,U⟩ ⟨_,T⟩ S R (D.eV p (gV r)) (D.eV o (gV C)) ud)
     have e3:D.eqb (.tup ds) (.tup es)=((List.range (min B.toArray.size E.toArray.size)).all (fun i=>match ds[i]?,es[i]? with|some x,some y=>D.eqb x y|_,_=>false) && B.toArray.size == E.toArray.size):=by
      rw[D.eqb]
      have z1:B.toArray.size=ds.length:=by simp;omega
      have z2:E.toArray.size=es.length:=by simp;omega
      rw[z1,z2]
      by_cases hl:ds.length=es.length
      .rw[D.lF,decide_eq_true hl,Bool.true_and,hl,Nat.min_self,beq_self_eq_true,Bool.and_true]
       all_goals rfl
      .rw[D.pC hl]
       have:(ds.length == es.length)=false:=beq_eq_false_iff_ne.mpr hl
       rw[this,Bool.and_false]
     rw[e3]
     exact key
def GN(ds es:List D)(i:Nat):Bool:=match ds[i]?,es[i]? with|some x,some y=>D.eqb x y|_,_=>false
theorem zd{X:Cx}{c:List (Addr × Obj)}{x:St}{H:Hp}{s:Shared}(I:Inv X c x H s){A:Around}{ds es:List D}{xs ys:List V}{f g:List Addr}{m i:List Value}(hd:Rfs H ds xs f)(r:Rfs H es ys g)(q:Vals xs m)(v:Vals ys i)
  (L:D.eG ds=true) (J:D.eG es=true) (R:A.units+1+D.gf ds<cLine):∀j (u:j<m.toArray.size) (t:j<i.toArray.size),EqAt A.in1 s m.toArray[j] i.toArray[j] (GN ds es j):=by
 intro j u t
 have l1:=q.length
 have l2:=v.length
 have T:=hd.length
 have S:=r.length
 have h:j<ds.length:=by simp at u;omega
 have n:j<es.length:=by simp at t;omega
 unfold GN
 simp only[gV h,gV n]
 obtain ⟨v1,Y,G,F,_⟩:=hd.get (gV h)
 obtain ⟨y,U,q2,E,_⟩:=r.get (gV n)
 obtain ⟨p,O,C⟩:=q.get G
 obtain ⟨o,M,B⟩:=v.get q2
 have Q:m.toArray[j]=p:=by
  obtain ⟨_,z⟩:=KE.mp O
  simpa using z
 have P:i.toArray[j]=o:=by
  obtain ⟨_,z⟩:=KE.mp M
  simpa using z
 rw[Q,P]
 exact JW I _ _ _ v1 y p o A.in1 (D.jZ (gV h)) ⟨_,F⟩ ⟨_,E⟩ C B (D.eV L (gV h)) (D.eV J (gV n)) R
theorem uB{ds es:List D}(hl:ds.length=es.length):D.l9 ds es=(List.range ds.length).all (GN ds es):=by
 rw[D.lF,decide_eq_true hl,Bool.true_and]
 rfl
section
variable {X:Cx}
def G3(c:Bool):R2:=fun x y H Q=>∃ds es,Rp H (.lst ds) x/\Rp H (.lst es) y/\D.eG ds=true/\D.eG es=true/\D.gf ds<=60/\Q (.bl (if c then !D.l9 ds es else D.l9 ds es)) H
theorem BH(G:X.A.units+64<cLine):OpR X (compareOp .Eq) (G3 false):=by
 intro i s B H x y v u Q I p o h
 obtain ⟨ds,es,⟨f,a,xs,L,rfl,e1,rfl,hd⟩,⟨g,b,ys,J,rfl,e2,rfl,j⟩,t,r,M,q⟩:=h
 obtain rfl:v=.ref a:=p
 obtain rfl:u=.ref b:=o
 obtain ⟨z,c,pl,F⟩:=I.list (SqL.of e1)
 obtain ⟨P,n,m,O⟩:=I.list (SqL.of e2)
 have l1:=c.length
 have l2:=n.length
 have E:=hd.length
 have C:=j.length
 by_cases hl:ds.length=es.length
 .refine eq_listAt pl.isList m.isList (by simp;omega) (by omega) (zd I hd j c n t r (by omega)) (bo I q ?_)
  rw[uB hl,show z.toArray.size=ds.length by simp;omega]
  all_goals rfl
 .refine eq_list_lengthsAt pl.isList m.isList (by simp;omega) (by omega) (bo I q ?_)
  rw[D.pC hl]
  all_goals rfl
theorem oG(G:X.A.units+64<cLine):OpR X (compareOp .NotEq) (G3 true):=by
 intro i s B H x y v u Q I p o h
 obtain ⟨ds,es,⟨f,a,xs,L,rfl,e1,rfl,hd⟩,⟨g,b,ys,J,rfl,e2,rfl,j⟩,t,r,M,q⟩:=h
 obtain rfl:v=.ref a:=p
 obtain rfl:u=.ref b:=o
 obtain ⟨z,c,pl,F⟩:=I.list (SqL.of e1)
 obtain ⟨P,n,m,O⟩:=I.list (SqL.of e2)
 have l1:=c.length
 have l2:=n.length
 have E:=hd.length
 have C:=j.length
 by_cases hl:ds.length=es.length
 .refine RcNeAt.lists pl.isList m.isList (by simp;omega) (by omega) (zd I hd j c n t r (by omega)) _ _ _ _ (bo I q ?_)
  rw[uB hl,show z.toArray.size=ds.length by simp;omega]
  all_goals rfl
 .refine RcNeAt.lists_lengths pl.isList m.isList (by simp;omega) (by omega) _ _ _ _ (bo I q ?_)
  rw[D.pC hl]
  all_goals rfl
end
theorem D.kG:∀(xs:aab),D.eG (xs.map D.int)=true
 |[]=>rfl
 |x::xs=>by rw[Mc,D.eG,D.kG xs];rfl
theorem D.mM:∀(t:aaa),D.eG (t.map dI)=true
 |[]=>rfl
 |x::xs=>by rw[Mc,D.eG,D.mM xs,D.plain,D.kG];rfl
theorem D.mv:∀(xs:aab),D.gf (xs.map D.int)=0
 |[]=>rfl
 |x::xs=>by rw[Mc,D.gf,D.mv xs];rfl
theorem D.rT:∀(t:aaa),D.gf (t.map dI)<=1
 |[]=>by rw[N8,D.gf];omega
 |x::xs=>by
  have:=D.rT xs
  rw[Mc,D.gf,D.depth,D.mv]
  exact Nat.max_le.mpr ⟨Md _,this⟩
theorem D.qz:∀(xs ys:aab),D.l9 (xs.map D.int) (ys.map D.int)=decide (xs=ys)
 |[],[]=>rfl
 |[],y::ys=>rfl
 |x::xs,[]=>rfl
 |x::xs,y::ys=>by
  rw[Mc,Mc,D.l9,D.qz xs ys,D.eqb]
  by_cases h:x=y
  .subst h;simp
  .have:(x == y)=false:=beq_eq_false_iff_ne.mpr h
   simp [this,h]
theorem D.wg:∀(xs ys:aaa),D.l9 (xs.map dI) (ys.map dI)=decide (xs=ys)
 |[],[]=>rfl
 |[],y::ys=>rfl
 |x::xs,[]=>rfl
 |x::xs,y::ys=>by
  rw[Mc,Mc,D.l9,D.wg xs ys,D.eqb,D.qz]
  by_cases h:x=y
  .subst h;simp
  .simp [h]
def Lb(i j:Int):Prop:=∃m n:Nat,i.natAbs<2 ^ m/\j.natAbs<2 ^ n/\m+n<=100000000
def LF(i j:Int):Prop:=0<j/\∃m:Nat,j.natAbs<2 ^ m/\m<=9000
section
variable {X:Cx}
theorem tu:OpR X (binaryOp .Mult) (rI Lb fun i j=>.int (i*j)):=opI fun i j _ _ _ _ _ c q=>by
 obtain ⟨m,n,g,f,h⟩:=c
 exact mul_int q (mulOk_of_bits (intBits_le g) (intBits_le f) (by omega))
theorem cC:OpR X (binaryOp .FloorDiv) (rI LF fun i j=>.int (i / j)):=opI fun i j _ _ _ _ _ c q=>by
 obtain ⟨h,m,g,f⟩:=c
 have hj:j.natAbs≠0:=by omega
 refine floordiv_int (by omega) ?_ (.inl (PyProof.noPylong_of_log2 (Ml ((Nat.log2_lt hj).mpr g) f)))
 rw[Int.fdiv_eq_ediv_of_nonneg i (by omega)]
 exact q
end
def EK(scope sc0:Scope):Scope:={ scope with names:=scope.names.map fun (n,k)=>if (k == .free && sc0.kind == .function && sc0.names.lookup n == some .cell) then (n,.cell) else (n,k) }
def qZ:List Str->Bool
 |[]=>true
 |x::xs=>!xs.contains x && qZ xs
theorem bM:∀{l:List Str},qZ l=true->l.Nodup
 |[],_=>Na
 |x::xs,h=>by
  rw[qZ,M5,Bool.not_eq_true'] at h
  refine Mi.mpr ⟨fun z=>?_,bM h.2⟩
  have:=List.contains_iff_mem.mpr z
  rw[this] at h
  exact absurd h.1 (by decide)
def Aw(sc0 scope:Scope)(tn cap:List Str):Bool :=
 decide (scope.kind=.function) && qZ (scope.names.map (·.1)) && qZ (tn++cap) && cap.all (fun y=>decide (scope.names.lookup y=some .free)) &&
  scope.names.all fun y=>!decide (y.2=.free) || (decide (sc0.names.lookup y.1=some .cell) || decide (sc0.names.lookup y.1=some .free))
theorem br.of{X:Cx}{sc0 scope:Scope}{tn cap:List Str}{idx:aac}(h:Aw sc0 scope tn cap=true)(e:X.env.scope=sc0)(ci:idx.map (fun i=>X.N[i]?)=cap.map some):br X scope tn cap idx:=by
 unfold Aw at h
 simp only[M5,decide_eq_true_eq,ML,Bool.or_eq_true,Bool.not_eq_true',decide_eq_false_iff_not] at h
 obtain ⟨⟨⟨⟨o,n⟩,m⟩,j⟩,g⟩:=h
 refine⟨o,bM n,bM m,j,ci,fun y c f=>?_⟩
 rw[e]
 rcases g y c with z|z
 .exact absurd f z
 .exact z
structure FnAt(K:aad)(mg:Str->Option Value)(x:Str)(st:Stmt)(ps:List Str)(f:Addr)(fd:FuncData):Prop where
 fn:Fun K x x st f fd
 mg:mg x=some (.ref f)
 bd:Binds K fd ps []
end L2
namespace L2
open PySem PySem.Spec PyProof.Rows
theorem small{n:Nat}(h:n<=100000):n<=sizeLine:=Mx h (by rw[sizeLine_eq];decide)
section
variable {X:Cx}{K:aad}
theorem FX(h:X.K=K):IxR X (xE K):=by subst h;exact Hz
theorem Hu(h:X.K=K):IxR X (yb K):=by subst h;exact JM
theorem FL{f l:Expr}{c:TE}(h:X.K=K)(hl:PE X l c):PI X f l (C0 K c):=by subst h;exact HP hl
theorem IM{n:List Expr}{f:Nat}{g:Pos}{a b:Expr}{c:TA}{p pos:Pos}(h:X.K=K)(j:Gl X "zip")(hm:X.mg "zip" = none)(ha:PA X [a,b] c)(i:starEach [a,b] X.env=[(false,eval a X.env),(false,eval b X.env)]:=by rfl)(m:starEach [b] X.env=[(false,eval b X.env)]:=by rfl) :
  PI X (.Tuple n f g) (.Call (.Name "zip" p) [a,b] [] pos) (JC K c):=by subst h;exact KW j hm ha i m
theorem Ec(h:X.K=K):je X (.builtin "len") (fun xs H Q=>∃p ys,xs=[.ref p]/\(SqL K H p ys\/SqT K H p ys)/\Q (.int ys.length) H):=by subst h;exact yk
theorem pY(h:X.K=K):je X (.builtin "isinstance") (fun xs H Q=>∃x n t b,xs=[x,.ty n]/\nX K H x t/\PySem.W.kitOne K t (.type n)=some b/\Q (.bl b) H):=by subst h;exact zw
theorem ft(h:X.K=K)(c:X.calm=true):je X (.builtin "sum") (fun xs H Q=>∃(a:Addr) (ns:aab),xs=[.ref a]/\SqL K H a (ns.map V.int)/\Q (.int ns.sum) H):=by subst h;exact FJ c
theorem eD(h:X.K=K):je X (.type "list") (fun xs H Q=>∃p ys,xs=[.ref p]/\(SqL K H p ys\/SqT K H p ys)/\∀l,H l=none->Q (.ref l) (upd H l (.lst ys))):=by subst h;exact xo
theorem iJ(h:X.K=K):SlR X (JH K):=by subst h;exact Hn
theorem J3(h:X.K=K):OpR X (compareOp .In) (rIn K false):=by subst h;exact Dj
theorem vV(h:X.K=K):OpR X (compareOp .NotIn) (rIn K true):=by subst h;exact xC
theorem nv{es:List Expr}{k:Nat}{t:TGs}{n:Nat}{pos:Pos}(h:X.K=K)(c:X.calm=true)(ht:PGs X es t)
  (hn:(assignEach es X.env).length=n:=by rfl) (f:(assignEach es X.env).findIdx? (·.1)=none:=by rfl):PG X (.Tuple es k pos) (HF K n t):=by subst h;exact KH c ht hn f
end
theorem yV{K:aad}{n:String}:PySem.W.kitOne K (.type n) (.type n)=some true:=by unfold PySem.W.kitOne;rw[if_pos (beq_self_eq_true _)]
end L2
namespace L2
open PySem PySem.Spec PyProof.Rows
def Eu(X:Cx)(f:Value)(ks:List Str)(r:List V->List V->Hp->VK->Prop):Prop :=
 ∀(c:List (Addr × Obj)) (s:Shared) (g:St) (H:Hp) (xs h:List V) (us ws:List Value) (Q:VK),Inv X c g H s->Vals xs us->Vals h ws->r xs h H Q ->
  wpAny (model X.prog X.w) X.A (call f us (ks.zip ws)) (EP X c g Q) X.xe s
section
variable {X:Cx}{x:Str}{p pos:Pos}{e:Expr}{es:List Expr}{RG:List Keyword}{t tk:TA}{id:String}{ks:List Str}{r:List V->List V->Hp->VK->Prop}
def LG(r:List V->List V->Hp->VK->Prop)(t g:TA):TE:=fun c H Q=>t c H fun vs i=>g c i fun f h=>r vs f h Q
theorem DC(y:Eu X (.builtin id) ks r)(u:Gl X x)(hm:X.mg x=none)(q:bootBuiltins x=some (.builtin id))(ha:PA X (e::es) t)(z:PK X RG tk)(C:(backToKw pos (keywordEach RG X.env)).filterMap (·.1)=ks:=by rfl)(hn:x≠"__name__":=by decide)(E:(x == ("__debug__" : Str))=false:=by decide)
  (v:backTo pos (starEach (e::es) X.env)=(false,eval e X.env)::backTo pos (starEach es X.env):=by rfl) (F:(backTo pos (starEach (e::es) X.env)).any (·.1)=false:=by rfl) (G:(backToKw pos (keywordEach RG X.env)).all (·.1.isSome)=true:=by rfl)
  (B:(backToKw pos (keywordEach RG X.env)).any (·.1.isNone)=false:=by rfl):PE X (.Call (.Name x p) (e::es) RG pos) (LG r t tk):=by
 intro c s f H Q I h
 refine wpAny_Call_Name_kw (gP I u hm q ?_ hn E)
 refine callWith_kw (thn (ha pos c s f H _ I h) fun us j ⟨vs,O,L,n,o⟩=>?_) v F G B
 refine thn (z pos c j f O _ L o) fun ws i ⟨g,M,J,m,q2⟩=>?_
 rw[C]
 exact y c i f M vs g us ws Q J n m q2
end
section
variable {X:Cx}{K:aad}
theorem gU:∀{us:List Value}{ns:aab},IntsAre us ns->Vals (ns.map V.int) us
 |_,_,.nil=>.nil
 |_,_,.cons n t h=>.cons ⟨t,rfl⟩ (gU h)
theorem sF(x:X.K=K):Eu X (.builtin "sorted") ["reverse"] (fun xs f H Q=>∃(a:Addr) (ns:aab) (b:Bool),xs=[.ref a]/\f=[.bl b]/\SqL K H a (ns.map V.int)/\ns.length<64 /\
  ∀(l:Addr) (c:aab),H l=none->c.Perm ns->Ordered b c->Q (.ref l) (upd H l (.lst (c.map V.int)))):=by
 subst x
 intro i s C H xs f us ws Q I r m h
 obtain ⟨a,ns,b,rfl,rfl,v,E,q⟩:=h
 obtain ⟨u,rfl,p⟩:=vals1 r
 obtain ⟨j,rfl,z⟩:=vals1 m
 obtain rfl:u=Value.ref a:=p
 obtain rfl:j=Value.bool b:=z
 obtain ⟨B,g,pl,_⟩:=I.list v
 have hl:=g.length
 rw[mo] at hl
 refine sorted_ints_rev pl.isList (lC g) (by omega) fun out c a1 a2 y=>?_
 obtain ⟨n,t⟩:=sortedAll_at s.heap B out
 have hn:H (s.heap.objs.size+1)=none:=I.hok.fresh (Nd _)
 have F:=a2.length_eq
 refine⟨.ref (s.heap.objs.size+1),_,I.laid (t':=s.toks) (o:=.lst (c.map V.int)) (fun b o e=>sortedAll_old e) (Nd _) ⟨?_,out.toList,n,gU a1,?_⟩,rfl,q _ c hn a2 y⟩
 .rw[mo];exact small (by omega)
 .exact t
end
theorem BI:typeLookup (.type "list_reverseiterator") "__len__" = pure none:=by rw[typeLookup_type,builtinLookup_eq_fast];kernel_rfl
theorem Er:typeLookup (.type "list_reverseiterator") "__length_hint__" = pure (some (.builtin "list_reverseiterator.__length_hint__")):=by rw[typeLookup_type,builtinLookup_eq_fast];kernel_rfl
theorem xA:isSubtype (.type "list_reverseiterator") (.type "list_reverseiterator")=pure true:=by rw[isSubtype_type];kernel_rfl
section
variable {prog:Program}{w:World}{A:Around}{E:Value->Shared->Prop}{s:Shared}
theorem uh{it l:Addr}{i:Int}{Q:Bool->Shared->Prop}(g:s.heap.IsRevIter it l i)(h:Q false s):wpAny (model prog w) A (Builtin.List.listLengthHint (.ref it)) Q E s:=by
 unfold Builtin.List.listLengthHint
 refine wpAny_bind (wpAny_specialOf g.typeIs BI ?_)
 show wpAny _ A (specialOf (Value.ref it) (Str.ofString "__length_hint__") >>= _) _ _ _
 refine wpAny_bind (wpAny_specialOf g.typeIs Er ?_)
 generalize c:("list_reverseiterator.__length_hint__" : String)=id0
 wp_delta
 rw[show splitId id0=some ("list_reverseiterator","__length_hint__") from by subst c;decide +kernel]
 subst c
 refine wpAny_bind (wpAny_isInstance (T:="list_reverseiterator") (b:=true) g.typeIs xA ?_)
 refine wpAny_ite_split (fun f=>absurd f (by decide)) (fun _=>?_)
 refine wpAny_ite_split (fun _=>?_) (fun f=>absurd (by decide +kernel) f)
 refine wpAny_ite_split (fun f=>absurd f (by decide)) (fun _=>?_)
 exact wpAny_pure h
theorem rN{R:Result->Shared->Prop}{it l:Addr}{items:Array Value}(x:A.handled=none)(h:s.heap.IsRevIter it l ((items.size:Int) - 1))(hl:s.heap.IsList l items)(U:items.size<=sizeLine)(S:Addr)(res:Value)(q:Nat)
  (n:s.heap.get? S=some { cls:=.type "list",data:=.seq #[] q }) (I:S≠l)
  (y:∀h' u j g,(∀b o,b≠S->b≠it->s.heap.get? b=some o->h'.get? b=some o)->h'.get? S=some { cls:=.type "list",dict:=none,data:=.seq j g,slots:=#[] } ->
   ItemsOf (fun i v=>items[items.size - 1 - i]?=some v) j items.size->R (.ok (.ret res)) { s with heap:=h',toks:=u }) :
  wpAny (model prog w) A.in1 (Builtin.List.listExtendWith (.ref S) (.ref it) res)
   (fun Q s'=>match Q with|.done f=>R (.ok f) s'|.again g=>g.quiet=true/\codeAny (model prog w) A g R s') (fun e s'=>R (.error e) s') s:=by
 obtain ⟨Y,r,t,Z⟩:=id h
 have p:S≠it:=c6 n r rfl t (by decide)
 obtain ⟨X,J,L,_⟩:=id hl
 have G:l≠it:=c6 J r L t (by decide)
 have m:S∉[it,l]:=fun hm=>by
  rcases L6.mp hm with e|hm
  .exact p e
  .exact I (Gc.mp hm)
 have W:=(Walks.listRev (prog:=prog) (w:=w) (A:=A.in1) x it l G items).toS
 unfold Builtin.List.listExtendWith
 refine wpAny_bind (wpAny_typeOf (T:="list_reverseiterator") h.typeIs ?_)
 have C:Builtin.List.listSameRef (.ref S) (.ref it)=false:=by simp [Builtin.List.listSameRef,p]
 have B:(Value.type "list_reverseiterator" == Value.type "list")=false:=by decide
 have z:(Value.type "list_reverseiterator" == Value.type "tuple")=false:=by decide
 simp only[C,B,z,Bool.or_false,Nc,if_false]
 refine wpAny_bind (wpAny_pyIter_revIter h ?_)
 refine wpAny_bind (wpAny_holding (uh h ?_))
 refine wpAny_ite_split (fun P=>absurd P (by decide)) (fun _=>?_)
 refine wpAny_pure ⟨plainId_quiet F.plain_extend_loop _,?_⟩
 refine codeAny_extend_loopS W U S m res items.size 0 _ #[] q rfl (Nx _) ⟨Nx _,by simpa using h,hl⟩ n (ItemsOf.nil _) fun s' j g hm M O=>?_
 rw[Moved.eq_with hm]
 refine y s'.heap s'.toks j g (fun b o hb H e=>hm.heap b o (fun c=>?_) e) M O
 rcases L6.mp c with E|c
 .exact hb E
 .exact H (Gc.mp c)
theorem nP{R:Result->Shared->Prop}{it l:Addr}{items:Array Value}(r:A.handled=none)(p:s.heap.IsRevIter it l ((items.size:Int) - 1))(hl:s.heap.IsList l items)(G:items.size<=sizeLine)(S:Addr)
  (g:s.heap.get? S=some { cls:=.type "list",data:=.seq #[] }) (n:S≠l)
  (t:∀h' j h c,(∀b o,b≠S->b≠it->s.heap.get? b=some o->h'.get? b=some o)->h'.get? S=some { cls:=.type "list",dict:=none,data:=.seq h c,slots:=#[] } ->
   ItemsOf (fun i v=>items[items.size - 1 - i]?=some v) h items.size->R (.ok (.ret .none)) { s with heap:=h',toks:=j }) :
  wpAny (model prog w) A.in1 (Builtin.«list.__init__» ⟨[.ref S,.ref it],[]⟩)
   (fun F s'=>match F with|.done f=>R (.ok f) s'|.again c=>c.quiet=true/\codeAny (model prog w) A c R s') (fun e s'=>R (.error e) s') s:=by
 obtain ⟨H,z,B,I⟩:=id p
 have x:S≠it:=c6 g z rfl B (by decide)
 show wpAny _ _ (do let old <- Builtin.List.listItems (.ref S);Builtin.List.listUpdate (.ref S) (fun _=>#[]);letGo old.toList.reverse;Builtin.List.listExtendWith (.ref S) (.ref it) .none) _ _ s
 refine wpAny_bind ?_
 unfold Builtin.List.listItems
 refine wpAny_bind (wpAny_seqItems g rfl (wpAny_pure ?_))
 show wpAny _ _ (updateSeq S (fun _=>#[]) >>= fun _=>letGo (#[]:Array Value).toList.reverse >>= fun _=>Builtin.List.listExtendWith (.ref S) (.ref it) .none) _ _ s
 refine wpAny_bind (wpAny_updateSeq g rfl ?_)
 have y:=Heap.get?_update_self (Obj.mapSeq (fun _=>(#[]:Array Value))) g rfl
 have m:∀b o,b≠S->s.heap.get? b=some o->(s.heap.update S (Obj.mapSeq (fun _=>(#[]:Array Value)))).get? b=some o :=
  fun b o hb e=>(Heap.get?_update_other _ _ (MF hb)).trans e
 refine wpAny_bind (wpAny_letGo ?_)
 refine rN r (p.at fun o e=>m it o (MF x) e) (hl.at fun o e=>m l o (MF n) e) G S .none _ y n fun h' j h c q C E=>?_
 exact t h' j h c (fun b o hb u e=>q b o hb u (m b o hb e)) C E
theorem vF{Q:Value->Shared->Prop}{it l:Addr}{items:Array Value}(n:A.handled=none)(u:s.heap.IsRevIter it l ((items.size:Int) - 1))(hl:s.heap.IsList l items)(y:items.size<=sizeLine)
  (p:∀h' g f h,(∀b o,b≠it->s.heap.get? b=some o->h'.get? b=some o) ->
   h'.get? s.heap.objs.size=some { cls:=.type "list",dict:=none,data:=.seq f h,slots:=#[] }->ItemsOf (fun i v=>items[items.size - 1 - i]?=some v) f items.size->Q (.ref s.heap.objs.size) { s with heap:=h',toks:=g }) :
  wpAny (model prog w) A (call (.type "list") [.ref it]) Q E s:=by
 refine callType_codes (Q₁:=fun obj c=>obj=.ref s.heap.objs.size/\c={ s with heap:=s.heap.push { cls:=.type "list",data:=.seq #[] } }) F.called_list (F.typeCall_list_1 _) F.entry_list_init
  (code_list_new _ ⟨rfl,rfl⟩) fun obj c x=>?_
 obtain ⟨rfl,rfl⟩:=x
 have j:(s.heap.push { cls:=.type "list",data:=.seq #[] }).get? s.heap.objs.size=some { cls:=.type "list",data:=.seq #[] }:=Heap.get?_push_size _ rfl
 obtain ⟨z,q,_⟩:=id hl
 refine⟨⟨_,j,rfl⟩,F.args_list_init_2 _ _,nP (A:=A.in1) n (u.at fun o e=>Heap.get?_push_of_some _ e) (hl.at fun o e=>Heap.get?_push_of_some _ e) y _ j (O0 (Heap.lt_size q)) fun h' g f h m r t=>?_⟩
 exact⟨rfl,p h' g f h (fun b o hb e=>m b o (Mr (Heap.lt_size e)) hb (Heap.get?_push_of_some _ e)) r t⟩
end
section
variable {X:Cx}{K:aad}{e:Expr}{te:TE}{p p2 pos QU:Pos}
def zt(K:aad)(g:TE):TE:=fun f H Q=>g f H fun x c=>∃a xs,x=.ref a/\SqL K c a xs/\∀l,c l=none->Q (.ref l) (upd c l (.lst xs.reverse))
theorem yI(R:X.K=K)(O:X.calm=true)(L:Gl X "list")(hm:X.mg "list" = none)(Y:Gl X "reversed")(Z:X.mg "reversed" = none)(M:PE X e te)
  (r:starEach [Expr.Call (.Name "reversed" p2) [e] [] QU] X.env=[(false,eval (.Call (.Name "reversed" p2) [e] [] QU) X.env)]:=by rfl) (t:starEach [e] X.env=[(false,eval e X.env)]:=by rfl) :
  PE X (.Call (.Name "list" p) [.Call (.Name "reversed" p2) [e] [] QU] [] pos) (zt K te):=by
 subst R
 intro g s y H Q I h
 refine wpAny_Call_Name_kw (gP I L hm boot_list ?_)
 refine MG ?_ r rfl
 rw[r]
 refine Calls.spliced_cons ?_
 refine wpAny_Call_Name_kw (gP I Y Z boot_reversed ?_)
 refine MG ?_ t rfl
 rw[t]
 refine Calls.spliced_cons (thn (M g s y H _ I h) fun v c ⟨x,H1,j,C,a,xs,ex,P,q⟩=>?_)
 subst ex
 obtain rfl:v=Value.ref a:=C
 obtain ⟨i,m,pl,F⟩:=j.list P
 have G:=m.length
 refine Calls.spliced_nil (PySem.call_reversed_list pl.isList (Calls.spliced_nil ?_))
 have NO:a<c.heap.objs.size:=by obtain ⟨o,e,_⟩:=pl.isList;exact Heap.lt_size e
 refine vF (items:=i.toArray) (I.ok.hd O) ⟨_,Heap.get?_push_size _ rfl,rfl,rfl⟩ (pl.isList.at fun o e=>Heap.get?_push_of_some _ e) (by simp;omega) fun h' B f U J u Pd=>?_
 have hsz:(c.heap.push (revObj a ((i.toArray.size:Int) - 1))).objs.size=c.heap.objs.size+1:=Heap.size_push ..
 have k1:∀b o,c.heap.get? b=some o->h'.get? b=some o:=fun b o e=>J b o (Mr (Heap.lt_size e)) (Heap.get?_push_of_some _ e)
 have hn:H1 (c.heap.objs.size+1)=none:=j.hok.fresh (Nd _)
 rw[hsz] at u ⊢
 have RU:Vals xs.reverse f.toList:=by
  obtain ⟨a1,a2⟩:=Pd
  have e:f.toList=i.reverse:=by
   refine Nf (by simpa using a1) fun n T h2=>?_
   have S:n<f.size:=by simpa using T
   have q:=a2 n f[n] (Array.getElem?_eq_getElem S)
   rw[List.getElem_reverse]
   have E:i[i.length - 1 - n]?=some f[n]:=by simpa using q
   obtain ⟨_,z⟩:=KE.mp E
   rw[z]
   simp
  rw[e]
  exact m.reverse
 refine⟨.ref (c.heap.objs.size+1),_,j.laid (t':=B) (o:=.lst xs.reverse) k1 (Nd _) ⟨by rw[List.length_reverse];exact F,f.toList,U,RU,?_⟩,rfl,q _ hn⟩
 rw[u]
end
end L2
namespace L2
open PySem PySem.Spec PyProof.Rows
def tM(ns:aab):aab:=ns.mergeSort fun a b=>decide (b<=a)
theorem il(ns:aab):(tM ns).Perm ns:=List.mergeSort_perm ns _
theorem rG(ns:aab):(tM ns).Pairwise (·>=·):=by
 have h:=List.pairwise_mergeSort (le:=fun a b:Int=>decide (b<=a)) (fun a b c g f=>by simp only[decide_eq_true_eq] at *;omega) (fun a b=>by simp only[Bool.or_eq_true,decide_eq_true_eq];omega) ns
 exact h.imp fun h=>by simpa using h
theorem tj{c ns:aab}(f:c.Perm ns)(h:c.Pairwise (·>=·)):c=tM ns :=
 (f.trans (il ns).symm).eq_of_pairwise (fun x y _ _ i g=>Int.le_antisymm g i) h (rG ns)
theorem rQ(ns:aab):(tM ns).length=ns.length:=(il ns).length_eq
end L2
namespace L3
open PySem L2
inductive D where
 |non|bl (b:Bool)|int (i:Int)|str (x:Str)|lst (ds:List D)|tup (ds:List D)|dic (kvs:List (Key × V))|dit (kvs:List (List Key × V))|scr (ns:aab)|pin (a:Addr) (d:D)|mem (φ:Int->aab->Int->Prop)|raw (w:V)|ins (C:Addr) (ns:List Str) (ds:List D)
def NT:HO->Prop|.tbl _=>False|_=>True
def yy:Str:="falling_places.<locals>.<lambda>"
def vH(c:Addr):HO:=.ext fun h=>h.CodeRec (.ref c) yy
def TabAt(P:Addr)(H:Hp):Prop:=∃ps,H P=some (.tbl ps)/\TriplesOk ps.toList/\∀pos f,codeAmong pos ps.toList=some f->∃c,f=.ref c/\H c=some (vH c)
structure Same(H H':Hp):Prop where
 st:∀b o,H b=some o->NT o->H' b=some o
 tb:∀b ps,H b=some (.tbl ps)->∃ps',H' b=some (.tbl ps')
 ti:∀P,TabAt P H->TabAt P H'
theorem Same.refl(H:Hp):Same H H:=⟨fun _ _ h _=>h,fun _ ps h=>⟨ps,h⟩,fun _ h=>h⟩
theorem Same.trans{H g f:Hp}(a:Same H g)(b:Same g f):Same H f:=⟨fun c o h n=>b.st c o (a.st c o h n) n,fun c ps h=>let ⟨_,h1⟩:=a.tb c ps h;b.tb c _ h1,fun P h=>b.ti P (a.ti P h)⟩
theorem Same.free{H H':Hp}(e:Same H H'){l:Addr}(h:H' l=Option.none):H l=Option.none:=by
 cases q:H l with
 |none=>rfl
 |some o =>
  by_cases n:NT o
  .rw[e.st l o q n] at h;cases h
  .cases o with
   |tbl ps=>obtain ⟨c,z⟩:=e.tb l ps q;rw[z] at h;cases h
   |_=>exact absurd trivial n
theorem Same.all{H H':Hp}(k:∀b u,H b=some u->H' b=some u):Same H H' :=
 ⟨fun b u e _=>k b u e,fun b ps e=>⟨ps,k b _ e⟩,fun P ⟨ps,e,g,f⟩=>⟨ps,k P _ e,g,fun pos h z=>let ⟨c,z1,z2⟩:=f pos h z;⟨c,z1,k c _ z2⟩⟩⟩
theorem Same.kj{H:Hp}{p:Addr}{o:HO}(h:H p=none):Same H (upd H p o):=Same.all fun b u e=>by rw[aG (aS e h)];exact e
theorem Same.seq{K:aad}{H H':Hp}{a:Addr}{xs:List V}(e:Same H H')(h:SqL K H a xs):SqL K H' a xs:=by
 rcases h with (h|⟨o,h⟩)|h
 .exact .inl (.inl (e.st _ _ h trivial))
 .exact .inl (.inr ⟨o,e.st _ _ h trivial⟩)
 .exact .inr h
def vq:Addr:=96
def gB(K:aad)(H:Hp):Prop:=TabAt vq H
theorem gB.same{K:aad}{H H':Hp}(t:gB K H)(s:Same H H'):gB K H':=s.ti _ t
structure SB(K:aad)(B H:Hp):Prop extends Same B H where
 tv:gB K B
theorem SB.trans{K:aad}{B H H':Hp}(a:SB K B H)(s:Same H H'):SB K B H':=⟨a.toSame.trans s,a.tv⟩
theorem SB.now{K:aad}{B H:Hp}(a:SB K B H):gB K H:=a.tv.same a.toSame
instance {K:aad}{B H:Hp}:CoeOut (SB K B H) (Same B H):=⟨SB.toSame⟩
theorem SB.refl{K:aad}{H:Hp}(t:gB K H):SB K H H:=⟨Same.refl H,t⟩
def Kc(K:aad)(a:Addr)(xs:List V):Prop :=
 ∃(o:Obj) (c:Array Value) (n:Nat),K.lookup a=some o/\o.cls=.type "list"/\o.dict=none/\o.data=.seq c n/\c.size<=sizeLine/\Vals xs c.toList
def Sc(K:aad)(H:Hp)(a:Addr)(xs:List V):Prop:=(∃o,H a=some (.frz o (.lst xs)))\/Kc K a xs
theorem Sc.seq{K:aad}{H:Hp}{a:Addr}{xs:List V}(h:Sc K H a xs):SqL K H a xs:=h.elim (fun ⟨o,h⟩=>.inl (.inr ⟨o,h⟩)) .inr
def Im(o:HO):Prop:=(∃xs,o=.tup xs)\/(∃f u,o=.frz f u)\/∃c ks,o=.memo c ks
section
variable {K:aad}
mutual
def Rf(K:aad)(H:Hp):D->V->List Addr->Prop
 |.non,v,fp=>v=.non/\fp=[]
 |.bl b,v,fp=>v=.bl b/\fp=[]
 |.int i,v,fp=>v=.int i/\fp=[]
 |.str x,v,fp=>v=.str x/\fp=[]
 |.lst ds,v,fp=>∃a xs c,v=.ref a/\H a=some (.lst xs)/\fp=a::c/\Rfs K H ds xs c
 |.tup ds,v,fp=>∃a xs,v=.ref a/\H a=some (.tup xs)/\Rfs K H ds xs fp
 |.dic kvs,v,fp=>∃a,v=.ref a/\H a=some (.dK kvs)/\(∀p∈kvs,ib p.2=true)/\fp=[a]
 |.dit kvs,v,fp=>∃a,v=.ref a/\H a=some (.dT kvs)/\(∀p∈kvs,ib p.2=true)/\fp=[a]
 |.scr ns,v,fp=>∃a,v=.ref a/\Sc K H a (ns.map V.int)/\fp=[]
 |.pin a d,v,fp=>v=.ref a/\Rf K H d v fp
 |.mem h,v,fp=>∃a,v=.ref a/\H a=some (.memo h [])/\fp=[]
 |.raw w,v,fp=>v=w/\fp=[]
 |.ins C ns ds,v,fp=>∃a dx xs c,v=.ref a/\H a=some (.ins C dx (ns.zip xs))/\fp=a::c/\Rfs K H ds xs c
def Rfs(K:aad)(H:Hp):List D->List V->List Addr->Prop
 |[],xs,fp=>xs=[]/\fp=[]
 |d::ds,xs,fp=>∃x r g f,xs=x::r/\fp=g++f/\Rf K H d x g/\Rfs K H ds r f
end
def Rp(K:aad)(H:Hp)(d:D)(v:V):Prop:=∃fp,Rf K H d v fp
def Rps(K:aad)(H:Hp)(ds:List D)(vs:List V):Prop:=∃fp,Rfs K H ds vs fp
mutual
theorem Rf.mono{H H':Hp}:∀{d:D}{v:V}{fp:List Addr},Rf K H d v fp->(∀a∈fp,∀o,H a=some o->H' a=some o)->(∀a o,H a=some o->Im o->H' a=some o)->Rf K H' d v fp
 |.non,_,_,h,_,_=>h
 |.bl _,_,_,h,_,_=>h
 |.int _,_,_,h,_,_=>h
 |.str _,_,_,h,_,_=>h
 |.lst ds,v,fp,h,k,t=>by
  obtain ⟨a,xs,f,e1,e2,c,h⟩:=h
  subst c
  exact⟨a,xs,f,e1,k a ox _ e2,rfl,Rfs.mono h (fun b hb=>k b (Fk _ hb)) t⟩
 |.tup ds,v,fp,h,k,t=>by
  obtain ⟨a,xs,e1,e2,h⟩:=h
  exact⟨a,xs,e1,t a _ e2 (.inl ⟨_,rfl⟩),Rfs.mono h k t⟩
 |.dic kvs,v,fp,h,k,t=>by
  obtain ⟨a,e1,e2,c,g⟩:=h
  subst g
  exact⟨a,e1,k a ox _ e2,c,rfl⟩
 |.dit kvs,v,fp,h,k,t=>by
  obtain ⟨a,e1,e2,c,g⟩:=h
  subst g
  exact⟨a,e1,k a ox _ e2,c,rfl⟩
 |.scr ns,v,fp,h,k,t=>by
  obtain ⟨a,e1,e2,c⟩:=h
  refine⟨a,e1,?_,c⟩
  rcases e2 with ⟨o,e2⟩|e2
  .exact .inl ⟨o,t a _ e2 (.inr (.inl ⟨_,_,rfl⟩))⟩
  .exact .inr e2
 |.pin a d,v,fp,h,k,t=>⟨h.1,Rf.mono h.2 k t⟩
 |.mem p,v,fp,h,k,t=>by
  obtain ⟨a,e1,e2,c⟩:=h
  exact⟨a,e1,t a _ e2 (.inr (.inr ⟨_,_,rfl⟩)),c⟩
 |.raw _,_,_,h,_,_=>h
 |.ins C ns ds,v,fp,h,k,t=>by
  obtain ⟨a,dx,xs,f,e1,e2,c,h⟩:=h
  subst c
  exact⟨a,dx,xs,f,e1,k a ox _ e2,rfl,Rfs.mono h (fun b hb=>k b (Fk _ hb)) t⟩
theorem Rfs.mono{H H':Hp}:∀{ds:List D}{vs:List V}{fp:List Addr},Rfs K H ds vs fp->(∀a∈fp,∀o,H a=some o->H' a=some o)->(∀a o,H a=some o->Im o->H' a=some o)->Rfs K H' ds vs fp
 |[],_,_,h,_,_=>h
 |d::ds,vs,fp,h,k,t=>by
  obtain ⟨x,r,n,m,e1,e2,j,i⟩:=h
  subst e2
  exact⟨x,r,n,m,e1,rfl,Rf.mono j (fun b hb=>k b (Me _ hb)) t,Rfs.mono i (fun b hb=>k b (L1 _ hb)) t⟩
end
mutual
theorem Rf.mn{H H':Hp}:∀{d:D}{v:V}{fp:List Addr},Rf K H d v fp->(∀a∈fp,∀o,H a=some o->NT o->H' a=some o)->(∀a o,H a=some o->Im o->H' a=some o)->Rf K H' d v fp
 |.non,_,_,h,_,_=>h
 |.bl _,_,_,h,_,_=>h
 |.int _,_,_,h,_,_=>h
 |.str _,_,_,h,_,_=>h
 |.lst ds,v,fp,h,k,t=>by
  obtain ⟨a,xs,f,e1,e2,c,h⟩:=h
  subst c
  exact⟨a,xs,f,e1,k a ox _ e2 trivial,rfl,Rfs.mn h (fun b hb=>k b (Fk _ hb)) t⟩
 |.tup ds,v,fp,h,k,t=>by
  obtain ⟨a,xs,e1,e2,h⟩:=h
  exact⟨a,xs,e1,t a _ e2 (.inl ⟨_,rfl⟩),Rfs.mn h k t⟩
 |.dic kvs,v,fp,h,k,t=>by
  obtain ⟨a,e1,e2,c,g⟩:=h
  subst g
  exact⟨a,e1,k a ox _ e2 trivial,c,rfl⟩
 |.dit kvs,v,fp,h,k,t=>by
  obtain ⟨a,e1,e2,c,g⟩:=h
  subst g
  exact⟨a,e1,k a ox _ e2 trivial,c,rfl⟩
 |.scr ns,v,fp,h,k,t=>by
  obtain ⟨a,e1,e2,c⟩:=h
  refine⟨a,e1,?_,c⟩
  rcases e2 with ⟨o,e2⟩|e2
  .exact .inl ⟨o,t a _ e2 (.inr (.inl ⟨_,_,rfl⟩))⟩
  .exact .inr e2
 |.pin a d,v,fp,h,k,t=>⟨h.1,Rf.mn h.2 k t⟩
 |.mem p,v,fp,h,k,t=>by
  obtain ⟨a,e1,e2,c⟩:=h
  exact⟨a,e1,t a _ e2 (.inr (.inr ⟨_,_,rfl⟩)),c⟩
 |.raw _,_,_,h,_,_=>h
 |.ins C ns ds,v,fp,h,k,t=>by
  obtain ⟨a,dx,xs,f,e1,e2,c,h⟩:=h
  subst c
  exact⟨a,dx,xs,f,e1,k a ox _ e2 trivial,rfl,Rfs.mn h (fun b hb=>k b (Fk _ hb)) t⟩
theorem Rfs.mn{H H':Hp}:∀{ds:List D}{vs:List V}{fp:List Addr},Rfs K H ds vs fp->(∀a∈fp,∀o,H a=some o->NT o->H' a=some o)->(∀a o,H a=some o->Im o->H' a=some o)->Rfs K H' ds vs fp
 |[],_,_,h,_,_=>h
 |d::ds,vs,fp,h,k,t=>by
  obtain ⟨x,r,n,m,e1,e2,j,i⟩:=h
  subst e2
  exact⟨x,r,n,m,e1,rfl,Rf.mn j (fun b hb=>k b (Me _ hb)) t,Rfs.mn i (fun b hb=>k b (L1 _ hb)) t⟩
end
theorem Rf.same{H H':Hp}{d:D}{v:V}{fp:List Addr}(h:Rf K H d v fp)(s:Same H H'):Rf K H' d v fp:=h.mn (fun a _ o e n=>s.st a o e n) fun a o e i=>s.st a o e (by rcases i with ⟨_,rfl⟩|⟨_,_,rfl⟩|⟨_,_,rfl⟩<;>trivial)
theorem Rfs.same{H H':Hp}{d:List D}{v:List V}{fp:List Addr}(h:Rfs K H d v fp)(s:Same H H'):Rfs K H' d v fp:=h.mn (fun a _ o e n=>s.st a o e n) fun a o e i=>s.st a o e (by rcases i with ⟨_,rfl⟩|⟨_,_,rfl⟩|⟨_,_,rfl⟩<;>trivial)
theorem Rp.same{H H':Hp}{d:D}{v:V}(h:Rp K H d v)(s:Same H H'):Rp K H' d v:=let ⟨fp,h⟩:=h;⟨fp,h.same s⟩
theorem Rps.same{H H':Hp}{d:List D}{v:List V}(h:Rps K H d v)(s:Same H H'):Rps K H' d v:=let ⟨fp,h⟩:=h;⟨fp,h.same s⟩
mutual
theorem Rf.dom{H:Hp}:∀{d:D}{v:V}{fp:List Addr},Rf K H d v fp->∀a∈fp,∃o,H a=some o/\¬ Im o
 |.non,_,_,h,a,ha=>by obtain ⟨_,rfl⟩:=h;nomatch ha
 |.bl _,_,_,h,a,ha=>by obtain ⟨_,rfl⟩:=h;nomatch ha
 |.int _,_,_,h,a,ha=>by obtain ⟨_,rfl⟩:=h;nomatch ha
 |.str _,_,_,h,a,ha=>by obtain ⟨_,rfl⟩:=h;nomatch ha
 |.lst ds,v,fp,h,b,hb=>by
  obtain ⟨a,xs,j,e1,e2,c,h⟩:=h
  subst c
  rcases L6.mp hb with e|hb
  .subst e;exact⟨_,e2,fun z=>by rcases z with ⟨_,z⟩|⟨_,_,z⟩|⟨_,_,z⟩<;>cases z⟩
  .exact Rfs.dom h b hb
 |.tup ds,v,fp,h,b,hb=>by
  obtain ⟨a,xs,e1,e2,h⟩:=h
  exact Rfs.dom h b hb
 |.dic kvs,v,fp,h,b,hb=>by
  obtain ⟨a,e1,e2,c,f⟩:=h
  subst f
  cases Gc.mp hb
  exact⟨_,e2,fun z=>by rcases z with ⟨_,z⟩|⟨_,_,z⟩|⟨_,_,z⟩<;>cases z⟩
 |.dit kvs,v,fp,h,b,hb=>by
  obtain ⟨a,e1,e2,c,f⟩:=h
  subst f
  cases Gc.mp hb
  exact⟨_,e2,fun z=>by rcases z with ⟨_,z⟩|⟨_,_,z⟩|⟨_,_,z⟩<;>cases z⟩
 |.scr ns,v,fp,h,b,hb=>by
  obtain ⟨a,e1,e2,c⟩:=h
  subst c;nomatch hb
 |.pin a d,v,fp,h,b,hb=>Rf.dom h.2 b hb
 |.mem m,v,fp,h,b,hb=>by
  obtain ⟨a,e1,e2,c⟩:=h
  subst c;nomatch hb
 |.raw _,_,_,h,a,ha=>by obtain ⟨_,rfl⟩:=h;nomatch ha
 |.ins C ns ds,v,fp,h,b,hb=>by
  obtain ⟨a,dx,xs,j,e1,e2,c,h⟩:=h
  subst c
  rcases L6.mp hb with e|hb
  .subst e;exact⟨_,e2,fun z=>by rcases z with ⟨_,z⟩|⟨_,_,z⟩|⟨_,_,z⟩<;>cases z⟩
  .exact Rfs.dom h b hb
theorem Rfs.dom{H:Hp}:∀{ds:List D}{vs:List V}{fp:List Addr},Rfs K H ds vs fp->∀a∈fp,∃o,H a=some o/\¬ Im o
 |[],_,_,h,a,ha=>by obtain ⟨_,rfl⟩:=h;nomatch ha
 |d::ds,vs,fp,h,b,hb=>by
  obtain ⟨x,r,p,n,e1,e2,i,g⟩:=h
  subst e2
  rcases Ma.mp hb with hb|hb
  .exact Rf.dom i b hb
  .exact Rfs.dom g b hb
end
theorem Rfs.upd{H:Hp}{d:List D}{v:List V}{fp:List Addr}{l:Addr}{o:HO}(h:Rfs K H d v fp)(hl:l∉fp)(hm:∀o,H l=some o->¬ Im o):Rfs K (upd H l o) d v fp :=
 h.mono (fun a ha u e=>by rw[aG (fun z=>hl (by rw[<- z];exact ha))];exact e) fun a o e i=>by rw[aG (fun z=>hm o (by rw[<- z];exact e) i)];exact e
theorem Rfs.length{H:Hp}:∀{ds:List D}{vs:List V}{fp:List Addr},Rfs K H ds vs fp->vs.length=ds.length
 |[],_,_,h=>by obtain ⟨rfl,_⟩:=h;rfl
 |d::ds,vs,fp,h=>by
  obtain ⟨x,r,i,g,e1,e2,f,c⟩:=h
  subst e1
  rw[L8,L8,Rfs.length c]
theorem Rfs.append{H:Hp}:∀{ds es:List D}{vs ws:List V}{fp c:List Addr},Rfs K H ds vs fp->Rfs K H es ws c->Rfs K H (ds++es) (vs++ws) (fp++c)
 |[],es,vs,ws,fp,c,h,h'=>by obtain ⟨rfl,rfl⟩:=h;exact h'
 |d::ds,es,vs,ws,fp,c,h,h'=>by
  obtain ⟨x,r,j,i,rfl,rfl,g,f⟩:=h
  exact⟨x,r++ws,j,i++c,rfl,MW ..,g,Rfs.append f h'⟩
theorem Rfs.one{H:Hp}{d:D}{v:V}{fp:List Addr}(h:Rf K H d v fp):Rfs K H [d] [v] fp:=⟨v,[],fp,[],rfl,(MV _).symm,h,rfl,rfl⟩
theorem Rfs.get{H:Hp}:∀{ds:List D}{vs:List V}{fp:List Addr}{i:Nat}{d:D},Rfs K H ds vs fp->ds[i]?=some d->∃v f,vs[i]?=some v/\Rf K H d v f/\(∀a∈f,a∈fp)
 |[],_,_,_,_,_,e=>by simp at e
 |d::ds,vs,fp,0,d',h,e=>by
  obtain ⟨x,r,j,n,rfl,rfl,g,c⟩:=h
  simp at e;subst e
  exact⟨x,j,rfl,g,fun a ha=>Me _ ha⟩
 |d::ds,vs,fp,i+1,d',h,e=>by
  obtain ⟨x,r,j,n,rfl,rfl,g,c⟩:=h
  obtain ⟨v,f,e1,m,k⟩:=Rfs.get (i:=i) c (by simpa using e)
  exact⟨v,f,by simpa using e1,m,fun a ha=>L1 _ (k a ha)⟩
theorem Rfs.get'{H:Hp}{ds:List D}{vs:List V}{fp:List Addr}{i:Nat}{v:V}(h:Rfs K H ds vs fp)(e:vs[i]?=some v):∃d f,ds[i]?=some d/\Rf K H d v f/\(∀a∈f,a∈fp):=by
 have hl:=h.length
 obtain ⟨hi,_⟩:=KE.mp e
 have c:i<ds.length:=by omega
 obtain ⟨j,f,e1,g,k⟩:=h.get (d:=ds[i]) (gV c)
 rw[e] at e1;cases e1
 exact⟨ds[i],f,gV c,g,k⟩
def D.aQ:D->Bool
 |.non=>true|.bl _=>true|.int _=>true|.str _=>true|_=>false
def D.toV:D->V
 |.non=>.non|.bl b=>.bl b|.int i=>.int i|.str x=>.str x|_=>.non
theorem Rf.aQ{H:Hp}{d:D}{v:V}{fp:List Addr}(h:Rf K H d v fp)(s:d.aQ=true):v=d.toV/\fp=[]:=by
 cases d<;>first|exact h|cases s
theorem Rf.xJ{H:Hp}{d:D}(s:d.aQ=true):Rf K H d d.toV []:=by
 cases d<;>first|exact⟨rfl,rfl⟩|cases s
theorem Rp.int{H:Hp}{i:Int}{v:V}(h:Rp K H (.int i) v):v=.int i:=h.choose_spec.1
theorem Rp.bl{H:Hp}{i:Bool}{v:V}(h:Rp K H (.bl i) v):v=.bl i:=h.choose_spec.1
theorem Rfs.jb{H:Hp}:∀{ds:List D}{vs:List V}{fp:List Addr},Rfs K H ds vs fp->ds.all D.aQ=true->vs=ds.map D.toV/\fp=[]
 |[],vs,fp,h,_=>h
 |d::ds,vs,fp,h,s=>by
  obtain ⟨x,r,i,g,rfl,rfl,f,c⟩:=h
  simp only[Of,M5] at s
  obtain ⟨rfl,rfl⟩:=f.aQ s.1
  obtain ⟨rfl,rfl⟩:=Rfs.jb c s.2
  exact⟨rfl,rfl⟩
theorem Rfs.oY{H:Hp}:∀{ds:List D},ds.all D.aQ=true->Rfs K H ds (ds.map D.toV) []
 |[],_=>⟨rfl,rfl⟩
 |d::ds,s=>by
  simp only[Of,M5] at s
  exact⟨_,_,[],[],rfl,rfl,Rf.xJ s.1,Rfs.oY s.2⟩
def D.items:D->Option (List D)
 |.lst ds=>some ds|.scr ns=>some (ns.map D.int)|_=>none
theorem Rfs.ofInts{H:Hp}:∀{ns:aab},Rfs K H (ns.map D.int) (ns.map V.int) []
 |[]=>⟨rfl,rfl⟩
 |n::ns=>⟨_,_,[],[],rfl,rfl,⟨rfl,rfl⟩,Rfs.ofInts⟩
theorem Rf.seq{H:Hp}{d:D}{ds:List D}{v:V}{fp:List Addr}(h:Rf K H d v fp)(e:d.items=some ds):∃a xs c,v=.ref a/\SqL K H a xs/\Rfs K H ds xs c/\∀b∈c,b∈fp:=by
 cases d with
 |lst es =>
  cases e
  obtain ⟨a,xs,c,e1,e2,rfl,h⟩:=h
  exact⟨a,xs,c,e1,.inl (.inl e2),h,fun b hb=>Fk _ hb⟩
 |scr ns =>
  cases e
  obtain ⟨a,e1,e2,f⟩:=h
  exact⟨a,_,[],e1,e2.seq,Rfs.ofInts,fun b hb=>nomatch hb⟩
 |_=>cases e
theorem Rp.seq{H:Hp}{d:D}{ds:List D}{v:V}(h:Rp K H d v)(e:d.items=some ds):∃a xs c,v=.ref a/\SqL K H a xs/\Rfs K H ds xs c :=
 let ⟨_,h⟩:=h;let ⟨a,xs,c,h1,h2,h3,_⟩:=h.seq e;⟨a,xs,c,h1,h2,h3⟩
theorem Rp.tup{H:Hp}{ds:List D}{v:V}(h:Rp K H (.tup ds) v):∃a xs c,v=.ref a/\SqT K H a xs/\Rfs K H ds xs c:=by
 obtain ⟨fp,a,xs,e1,e2,h⟩:=h
 exact⟨a,xs,fp,e1,.inl (.inl e2),h⟩
def Mu(H:Hp)(a:Addr):Prop:=(∃xs,H a=some (.lst xs))\/(∃kvs,H a=some (.dK kvs))\/(∃kvs,H a=some (.dT kvs))\/∃C dx fs,H a=some (.ins C dx fs)
theorem Mu.same{H H':Hp}{a:Addr}(h:Mu H a)(s:Same H H'):Mu H' a:=by
 rcases h with ⟨x,h⟩|⟨x,h⟩|⟨x,h⟩|⟨C,dx,fs,h⟩
 .exact .inl ⟨x,s.st _ _ h trivial⟩
 .exact .inr (.inl ⟨x,s.st _ _ h trivial⟩)
 .exact .inr (.inr (.inl ⟨x,s.st _ _ h trivial⟩))
 .exact .inr (.inr (.inr ⟨C,dx,fs,s.st _ _ h trivial⟩))
theorem Mu.some{H:Hp}{a:Addr}(h:Mu H a):H a≠none:=by
 rcases h with ⟨x,h⟩|⟨x,h⟩|⟨x,h⟩|⟨C,dx,fs,h⟩<;>rw[h]<;>intro z<;>cases z
theorem Mu.nu{H:Hp}{a:Addr}(h:Mu H a):∀o,H a=Option.some o->¬ Im o:=by
 rcases h with ⟨x,h⟩|⟨x,h⟩|⟨x,h⟩|⟨C,dx,fs,h⟩<;>rw[h]<;>intro o e z<;>cases e<;>rcases z with ⟨_,z⟩|⟨_,_,z⟩|⟨_,_,z⟩<;>cases z
theorem Mu.upd{H:Hp}{a l:Addr}{o:HO}(h:Mu H a)(c:(∃xs,o=.lst xs)\/(∃xs,o=.dK xs)\/(∃xs,o=.dT xs)\/∃C dx fs,o=.ins C dx fs):Mu (upd H l o) a:=by
 by_cases e:a=l
 .subst e
  rcases c with ⟨xs,rfl⟩|⟨xs,rfl⟩|⟨xs,rfl⟩|⟨C,dx,fs,rfl⟩
  .exact .inl ⟨xs,az⟩
  .exact .inr (.inl ⟨xs,az⟩)
  .exact .inr (.inr (.inl ⟨xs,az⟩))
  .exact .inr (.inr (.inr ⟨C,dx,fs,az⟩))
 .unfold Mu
  rw[aG e]
  exact h
abbrev Dl:=List (Option D)
structure Ok(K:aad)(B0:Hp)(Γ:aac)(fps:Nat->List Addr)(δ:Dl)(σ:St)(H:Hp):Prop where
 len:σ.length=δ.length
 b0:SB K B0 H
 val:∀i d,δ[i]?=some (some d)->∃v,σ[i]?=some (some v)/\Rf K H d v (fps i)
 non:∀i,(∀d,δ[i]?≠some (some d))->fps i=[]
 own:∀i∈Γ,(fps i).Nodup/\∀a∈fps i,B0 a=none/\Mu H a
 dj:∀i∈Γ,∀j,j≠i->∀a∈fps i,a∉fps j
variable {B0:Hp}{Γ:aac}{fps:Nat->List Addr}{δ:Dl}{σ:St}{H H':Hp}
theorem Ok.same(o:Ok K B0 Γ fps δ σ H)(s:Same H H'):Ok K B0 Γ fps δ σ H' :=
 ⟨o.len,o.b0.trans s,fun i d e=>let ⟨v,h1,h2⟩:=o.val i d e;⟨v,h1,h2.same s⟩,o.non,fun i hi=>⟨(o.own i hi).1,fun a ha=>⟨((o.own i hi).2 a ha).1,((o.own i hi).2 a ha).2.same s⟩⟩,o.dj⟩
theorem Ok.sub{Γ':aac}(o:Ok K B0 Γ fps δ σ H)(h:∀i∈Γ',i∈Γ):Ok K B0 Γ' fps δ σ H :=
 ⟨o.len,o.b0,o.val,o.non,fun i hi=>o.own i (h i hi),fun i hi=>o.dj i (h i hi)⟩
theorem Ok.dom(o:Ok K B0 Γ fps δ σ H){i:Nat}{a:Addr}(h:a∈fps i):H a≠none:=by
 by_cases e:∃d,δ[i]?=some (some d)
 .obtain ⟨d,e⟩:=e
  obtain ⟨v,_,r⟩:=o.val i d e
  obtain ⟨u,c,_⟩:=r.dom a h
  rw[c];intro z;cases z
 .rw[o.non i (fun d z=>e ⟨d,z⟩)] at h
  nomatch h
structure Nw(H H':Hp)(fps:Nat->List Addr)(M:aac)(fp:List Addr):Prop where
 nd:fp.Nodup
 mu:∀a∈fp,Mu H' a
 src:∀a∈fp,H a=none\/∃j∈M,a∈fps j
theorem Nw.nil{M:aac}:Nw H H' fps M []:=⟨Na,fun _ h=>(nomatch h),fun _ h=>(nomatch h)⟩
theorem Nw.later{c:Hp}{M:aac}{fp:List Addr}(n:Nw c H' fps M fp)(s:Same H c):Nw H H' fps M fp :=
 ⟨n.nd,n.mu,fun a ha=>(n.src a ha).elim (fun z=>.inl (s.free z)) .inr⟩
theorem Nw.same{c:Hp}{M:aac}{fp:List Addr}(n:Nw H H' fps M fp)(s:Same H' c):Nw H c fps M fp:=⟨n.nd,fun a ha=>(n.mu a ha).same s,n.src⟩
theorem Nw.any{c:Nat->List Addr}{fp:List Addr}(n:Nw H H' fps [] fp):Nw H H' c [] fp:=⟨n.nd,n.mu,fun a ha=>(n.src a ha).elim .inl fun ⟨_,h,_⟩=>nomatch h⟩
theorem Nw.fresh{fp:List Addr}(n:Nw H H' fps [] fp):∀a∈fp,H a=none:=fun a ha=>(n.src a ha).elim id fun ⟨_,h,_⟩=>nomatch h
def kill(M:aac)(δ:Dl):Dl:=M.foldl (fun δ j=>δ.set j none) δ
theorem iO:∀{M:aac}{δ:Dl},(kill M δ).length=δ.length
 |[],_=>rfl
 |j::M,δ=>by rw[kill,List.foldl_cons];exact (iO (M:=M)).trans (by simp)
theorem uu:∀{M:aac}{δ:Dl}{i:Nat}{d:D},(kill M δ)[i]?=some (some d)↔i∉M/\δ[i]?=some (some d)
 |[],_,_,_=>by simp [kill]
 |j::M,δ,i,d=>by
  rw[kill,List.foldl_cons]
  have:=uu (M:=M) (δ:=δ.set j none) (i:=i) (d:=d)
  rw[kill] at this
  rw[this,L6]
  by_cases e:i=j
  .subst e
   simp [MR]
  .rw[L5 (MF e)]
   simp [e]
def minus(c M:aac):aac:=c.filter fun i=>!M.contains i
theorem bT{c M:aac}{i:Nat}:i∈minus c M↔i∈c/\i∉M:=by
 unfold minus
 rw[MP]
 simp
theorem Ok.kill(o:Ok K B0 Γ fps δ σ H)(M:aac):Ok K B0 (minus Γ M) (fun i=>if i∈M then [] else fps i) (kill M δ) σ H:=by
 refine⟨by rw[iO];exact o.len,o.b0,fun i d e=>?_,fun i e=>?_,fun i hi=>?_,fun i hi j hj a ha=>?_⟩
 .obtain ⟨f,c⟩:=uu.mp e
  rw[if_neg f]
  exact o.val i d c
 .by_cases h:i∈M
  .rw[if_pos h]
  .rw[if_neg h]
   exact o.non i fun d z=>e d (uu.mpr ⟨h,z⟩)
 .obtain ⟨f,c⟩:=bT.mp hi
  rw[if_neg c]
  exact o.own i f
 .obtain ⟨f,c⟩:=bT.mp hi
  rw[if_neg c] at ha
  by_cases h:j∈M
  .rw[if_pos h];exact Mo
  .rw[if_neg h];exact o.dj i f j hj a ha
theorem Ok.Jt{M:aac}{x:D}{v:V}{fp:List Addr}(o:Ok K B0 Γ fps δ σ H)(i:Nat)(g:∀j∈M,j∈Γ)(s:Same H H')(r:Rf K H' x v fp)(n:Nw H H' fps M fp) :
  Ok K B0 (i::minus (minus Γ M) [i]) (fun j=>if j=i then (if i<δ.length then fp else []) else if j∈M then [] else fps j) ((L3.kill M δ).set i (some x)) (σ.set i (some v)) H':=by
 have ok:=(o.kill M).same s
 have m:∀a∈fp,∀j,j∉M->a∉fps j:=fun a ha j hj z=>by
  rcases n.src a ha with e|⟨k,c,e⟩
  .exact o.dom z e
  .exact o.dj k (g k c) j (fun q=>hj (by rw[q];exact c)) a e z
 refine⟨by simp [iO,o.len],ok.b0,fun j d e=>?_,fun j e=>?_,fun j hj=>?_,fun j hj k c a ha=>?_⟩
 .by_cases h:j=i
  .subst h
   rw[MR] at e
   simp only[iO] at e
   by_cases hl:j<δ.length
   .simp [hl] at e
    subst e
    refine⟨v,?_,?_⟩
    .rw[MR];simp [o.len,hl]
    .rw[if_pos rfl,if_pos hl];exact r
   .simp [hl] at e
  .rw[L5 (MF h)] at e
   rw[L5 (MF h),if_neg h]
   exact ok.val j d e
 .by_cases h:j=i
  .subst h
   rw[if_pos rfl]
   by_cases hl:j<δ.length
   .exact absurd (by rw[MR];simp [iO,hl]) (e x)
   .rw[if_neg hl]
  .rw[if_neg h]
   exact ok.non j fun d z=>e d (by rw[L5 (MF h)];exact z)
 .by_cases h:j=i
  .subst h
   rw[if_pos rfl]
   split
   .refine⟨n.nd,fun a ha=>⟨?_,n.mu a ha⟩⟩
    rcases n.src a ha with e|⟨k,c,e⟩
    .exact o.b0.free e
    .exact ((o.own k (g k c)).2 a e).1
   .exact⟨Na,fun _ z=>nomatch z⟩
  .rw[if_neg h]
   rcases L6.mp hj with z|hj
   .exact absurd z h
   .exact ok.own j (bT.mp hj).1
 .by_cases h:j=i
  .subst h
   rw[if_pos rfl] at ha
   rw[if_neg c]
   split at ha
   .by_cases hm:k∈M
    .rw[if_pos hm];exact Mo
    .rw[if_neg hm];exact m a ha k hm
   .nomatch ha
  .rcases L6.mp hj with z|hj
   .exact absurd z h
   rw[if_neg h] at ha
   have f:=bT.mp (bT.mp hj).1
   rw[if_neg f.2] at ha
   by_cases p:k=i
   .rw[if_pos p]
    split
    .exact fun z=>m a z j f.2 ha
    .exact Mo
   .rw[if_neg p]
    split
    .exact Mo
    .exact o.dj j f.1 k c a ha
theorem Ok.zi{x:D}{v:V}{fp:List Addr}(o:Ok K B0 Γ fps δ σ H)(i:Nat)(s:Same H H')(r:Rf K H' x v fp)(n:∀j∈Γ,∀a∈fp,a∉fps j) :
  Ok K B0 (minus Γ [i]) (fun j=>if j=i then (if i<δ.length then fp else []) else fps j) (δ.set i (some x)) (σ.set i (some v)) H':=by
 have ok:=o.same s
 refine⟨by simp [o.len],ok.b0,fun j d e=>?_,fun j e=>?_,fun j hj=>?_,fun j hj k m a ha=>?_⟩
 .by_cases h:j=i
  .subst h
   rw[MR] at e
   by_cases hl:j<δ.length
   .simp [hl] at e
    subst e
    refine⟨v,?_,?_⟩
    .rw[MR];simp [o.len,hl]
    .rw[if_pos rfl,if_pos hl];exact r
   .simp [hl] at e
  .rw[L5 (MF h)] at e
   rw[L5 (MF h),if_neg h]
   exact ok.val j d e
 .by_cases h:j=i
  .subst h
   rw[if_pos rfl]
   by_cases hl:j<δ.length
   .exact absurd (by rw[MR];simp [hl]) (e x)
   .rw[if_neg hl]
  .rw[if_neg h]
   exact ok.non j fun d z=>e d (by rw[L5 (MF h)];exact z)
 .obtain ⟨c,f⟩:=bT.mp hj
  rw[if_neg (fun z=>f (by rw[z];exact Gc.mpr rfl))]
  exact ok.own j c
 .obtain ⟨c,f⟩:=bT.mp hj
  rw[if_neg (fun z=>f (by rw[z];exact Gc.mpr rfl))] at ha
  by_cases g:k=i
  .rw[if_pos g]
   split
   .exact fun z=>n j c a z ha
   .exact Mo
  .rw[if_neg g]
   exact o.dj j c k m a ha
theorem yo{H:Hp}{c:Addr}(h:H c=some (vH c)):¬ Mu H c:=by
 rintro (⟨x,z⟩|⟨x,z⟩|⟨x,z⟩|⟨C,dx,fs,z⟩)<;>rw[h] at z<;>cases z
theorem SB.keep{fp:List Addr}(b:SB K B0 H)(n:∀a∈fp,B0 a=none/\Mu H a)(keep:∀b u,b∉fp->H b=some u->H' b=some u):SB K B0 H':=by
 have nb:∀{c u},B0 c=some u->c∉fp:=fun {c u} e z=>by have:=(n c z).1;rw[e] at this;cases this
 refine⟨⟨fun c u e x=>keep c u (nb e) (b.st c u e x),fun c ps e=>let ⟨ps',z⟩:=b.tb c ps e;⟨ps',keep c _ (nb e) z⟩,fun P t=>?_⟩,b.tv⟩
 obtain ⟨j,h,_⟩:=id t
 obtain ⟨ps,e,g,f⟩:=b.ti P t
 exact⟨ps,keep P _ (nb h) e,g,fun pos i z=>let ⟨c,z1,z2⟩:=f pos i z;⟨c,z1,keep c _ (fun y=>yo z2 (n c y).2) z2⟩⟩
theorem Ok.rebase(o:Ok K B0 Γ fps δ σ H):∃g,Same B0 g/\Ok K g Γ fps δ σ H/\(∀a,(∀j∈Γ,a∉fps j)->g a=H a):=by
 have key:∀b u,B0 b=some u->¬ ∃j∈Γ,b∈fps j:=fun b u e ⟨j,hj,hb⟩=>by
  have:=((o.own j hj).2 b hb).1
  rw[e] at this;cases this
 have p:Same B0 (fun a=>if (∃j∈Γ,a∈fps j) then none else H a):=⟨fun b u e n=>by
   show (if _ then _ else _)=_
   rw[if_neg (key b u e)]
   exact o.b0.st b u e n,fun b ps e=>by
   obtain ⟨f,z⟩:=o.b0.tb b ps e
   refine⟨f,?_⟩
   show (if _ then _ else _)=_
   rw[if_neg (key b _ e)];exact z,fun P t=>by
   obtain ⟨C,y,_⟩:=id t
   obtain ⟨ps,e,x,v⟩:=o.b0.ti P t
   refine⟨ps,?_,x,fun pos B z=>?_⟩
   .show (if _ then _ else _)=_
    rw[if_neg (key P _ y)];exact e
   .obtain ⟨c,q,m⟩:=v pos B z
    refine⟨c,q,?_⟩
    show (if _ then _ else _)=_
    rw[if_neg (fun ⟨j,hj,s⟩=>yo m ((o.own j hj).2 c s).2)];exact m⟩
 have r:Same (fun a=>if (∃j∈Γ,a∈fps j) then none else H a) H:=Same.all fun b u e=>by
  by_cases z:∃j∈Γ,b∈fps j
  .simp only[if_pos z] at e;cases e
  .simp only[if_neg z] at e;exact e
 refine⟨fun a=>if (∃j∈Γ,a∈fps j) then none else H a,p,⟨o.len,⟨r,o.b0.tv.same p⟩,o.val,o.non,fun i hi=>⟨(o.own i hi).1,fun a ha=>⟨?_,((o.own i hi).2 a ha).2⟩⟩,o.dj⟩,fun a h=>?_⟩
 .show (if _ then _ else _)=_
  rw[if_pos ⟨i,hi,ha⟩]
 .show (if _ then _ else _)=_
  rw[if_neg (fun ⟨j,hj,z⟩=>h j hj z)]
theorem Ok.base{c:Hp}(o:Ok K c Γ fps δ σ H)(s:Same B0 c)(t:gB K B0):Ok K B0 Γ fps δ σ H :=
 ⟨o.len,⟨s.trans o.b0.toSame,t⟩,o.val,o.non,fun i hi=>⟨(o.own i hi).1,fun a ha=>⟨s.free ((o.own i hi).2 a ha).1,((o.own i hi).2 a ha).2⟩⟩,o.dj⟩
end
end L3
namespace L3
open PySem L2
abbrev DK:=D->Prop
abbrev DE:=Dl->DK->Prop
abbrev DT:=Dl->(Bool->Prop)->Prop
abbrev DA:=Dl->(List D->Prop)->Prop
structure ER(K:aad)(Γ:aac)(t:TE)(d:DE):Prop where
 mono:∀δ (P P':DK),(∀x,P x->P' x)->d δ P->d δ P'
 run:∀{B0 fps δ σ H Q},Ok K B0 Γ fps δ σ H->d δ (fun x=>∀v H',Same H H'->Rp K H' x v->Q v H')->t σ H Q
structure ES(K:aad)(Γ:aac)(t:TE)(d:DE):Prop where
 mono:∀δ (P P':DK),(∀x,P x->P' x)->d δ P->d δ P'
 run:∀{B0 fps δ σ H Q},Ok K B0 Γ fps δ σ H->d δ (fun x=>∀v H' fp,Same H H'->Rf K H' x v fp->(∀j∈Γ,∀a∈fp,a∉fps j)->Q v H')->t σ H Q
structure EM(K:aad)(Γ M:aac)(t:TE)(d:DE):Prop where
 mono:∀δ (P P':DK),(∀x,P x->P' x)->d δ P->d δ P'
 run:∀{B0 fps δ σ H Q},Ok K B0 Γ fps δ σ H->d δ (fun x=>∀v H' fp,Same H H'->Rf K H' x v fp->Nw H H' fps M fp->Q v H')->t σ H Q
structure TR(K:aad)(Γ:aac)(t:TT)(d:DT):Prop where
 mono:∀δ (P P':Bool->Prop),(∀x,P x->P' x)->d δ P->d δ P'
 run:∀{B0 fps δ σ H Q},Ok K B0 Γ fps δ σ H->d δ (fun b=>∀H',Same H H'->Q b H')->t σ H Q
structure AR(K:aad)(Γ:aac)(t:TA)(d:DA):Prop where
 mono:∀δ (P P':List D->Prop),(∀x,P x->P' x)->d δ P->d δ P'
 run:∀{B0 fps δ σ H Q},Ok K B0 Γ fps δ σ H->d δ (fun xs=>∀vs H',Same H H'->Rps K H' xs vs->Q vs H')->t σ H Q
structure AS(K:aad)(Γ:aac)(t:TA)(d:DA):Prop where
 mono:∀δ (P P':List D->Prop),(∀x,P x->P' x)->d δ P->d δ P'
 run:∀{B0 fps δ σ H Q},Ok K B0 Γ fps δ σ H->d δ (fun xs=>∀vs H' fp,Same H H'->Rfs K H' xs vs fp->(∀j∈Γ,∀a∈fp,a∉fps j)->Q vs H')->t σ H Q
structure AM(K:aad)(Γ M:aac)(t:TA)(d:DA):Prop where
 mono:∀δ (P P':List D->Prop),(∀x,P x->P' x)->d δ P->d δ P'
 run:∀{B0 fps δ σ H Q},Ok K B0 Γ fps δ σ H->d δ (fun xs=>∀vs H' fp,Same H H'->Rfs K H' xs vs fp->Nw H H' fps M fp->Q vs H')->t σ H Q
section
variable {K:aad}{Γ M:aac}{t ta tb tc:TE}{d da db dc:DE}
theorem EM.es(h:EM K Γ [] t d):ES K Γ t d:=⟨h.mono,fun o q=>h.run o (h.mono _ _ _ (fun x z v H' fp s r n=>z v H' fp s r fun j _ a ha y=>o.dom y (n.fresh a ha)) q)⟩
theorem ES.er(h:ES K Γ t d):ER K Γ t d:=⟨h.mono,fun o q=>h.run o (h.mono _ _ _ (fun x z v H' fp s r n=>z v H' s ⟨fp,r⟩) q)⟩
theorem EM.er(h:EM K Γ M t d):ER K Γ t d:=⟨h.mono,fun o q=>h.run o (h.mono _ _ _ (fun x z v H' fp s r n=>z v H' s ⟨fp,r⟩) q)⟩
def Ci(d:DE)(δ:Dl)(P:DK):Prop:=d δ fun x=>x.aQ=true/\P x
theorem ER.aQ(h:ER K Γ t d):EM K Γ [] t (Ci d):=⟨fun δ P c k q=>h.mono _ _ _ (fun x z=>⟨z.1,k x z.2⟩) q,fun o q=>h.run o (h.mono _ _ _ (fun x z v H' s r=>by
 obtain ⟨fp,r⟩:=r
 obtain ⟨_,rfl⟩:=r.aQ z.1
 exact z.2 v H' [] s r Nw.nil) q)⟩
def mx(i:Nat)(δ:Dl)(P:DK):Prop:=match δ[i]? with|some (some d)=>P d|_=>False
theorem jv{i:Nat}{δ:Dl}{P:DK}(h:mx i δ P):∃d,δ[i]?=some (some d)/\P d:=by
 unfold mx at h
 split at h
 .exact⟨_,by assumption,h⟩
 .exact h.elim
theorem qC{i:Nat}:∀δ (P c:DK),(∀x,P x->c x)->mx i δ P->mx i δ c:=fun δ P c k h=>by
 unfold mx at h ⊢
 split
 .rename_i e;rw[e] at h;exact k _ h
 .rename_i e;revert h;split
  .rename_i f;exact absurd f (e _)
  .exact id
theorem gh(i:Nat):ER K Γ (eT i) (mx i):=⟨qC,fun {B0 fps δ c H Q} o q=>by
 obtain ⟨d,e,q⟩:=jv q
 obtain ⟨v,e1,r⟩:=o.val i d e
 exact⟨v,e1,q v H (Same.refl H) ⟨_,r⟩⟩⟩
theorem aa(i:Nat)(h:i∉Γ:=by decide):ES K Γ (eT i) (mx i):=⟨qC,fun {B0 fps δ c H Q} o q=>by
 obtain ⟨d,e,q⟩:=jv q
 obtain ⟨v,e1,r⟩:=o.val i d e
 exact⟨v,e1,q v H _ (Same.refl H) r fun j hj a ha z=>o.dj j hj i (fun y=>h (by rw[y];exact hj)) a z ha⟩⟩
theorem ix(i:Nat)(h:i∈Γ:=by decide):EM K Γ [i] (eT i) (mx i):=⟨qC,fun {B0 fps δ c H Q} o q=>by
 obtain ⟨d,e,q⟩:=jv q
 obtain ⟨v,e1,r⟩:=o.val i d e
 exact⟨v,e1,q v H _ (Same.refl H) r ⟨(o.own i h).1,fun a ha=>((o.own i h).2 a ha).2,fun a ha=>.inr ⟨i,Gc.mpr rfl,ha⟩⟩⟩⟩
def vC(d:D)(c:Dl)(P:DK):Prop:=P d
theorem au{i:Int}:EM K Γ [] (tC (.int i)) (vC (.int i)):=⟨fun _ _ _ k h=>k _ h,fun {_ _ _ _ H _} _ q=>q _ H [] (Same.refl H) ⟨rfl,rfl⟩ Nw.nil⟩
theorem mm{i:Bool}:EM K Γ [] (tC (.bl i)) (vC (.bl i)):=⟨fun _ _ _ k h=>k _ h,fun {_ _ _ _ H _} _ q=>q _ H [] (Same.refl H) ⟨rfl,rfl⟩ Nw.nil⟩
theorem cj{i:Str}:EM K Γ [] (tC (.str i)) (vC (.str i)):=⟨fun _ _ _ k h=>k _ h,fun {_ _ _ _ H _} _ q=>q _ H [] (Same.refl H) ⟨rfl,rfl⟩ Nw.nil⟩
theorem lS:EM K Γ [] (tC .non) (vC .non):=⟨fun _ _ _ k h=>k _ h,fun {_ _ _ _ H _} _ q=>q _ H [] (Same.refl H) ⟨rfl,rfl⟩ Nw.nil⟩
abbrev D2:=D->D->DK->Prop
abbrev nf:Nat->List Addr:=fun _=>[]
structure OpV(K:aad)(r:R2)(rv:D2):Prop where
 mono:∀x y (P P':DK),(∀z,P z->P' z)->rv x y P->rv x y P'
 run:∀{H x y v w Q},Rp K H x v->Rp K H y w->rv x y (fun z=>∀u H' fp,Same H H'->Rf K H' z u fp->Nw H H' nf [] fp->Q u H')->r v w H Q
def vOp(c:D2)(g f:DE)(δ:Dl)(P:DK):Prop:=g δ fun x=>f δ fun y=>c x y P
theorem ay{r:R2}{i:D2}(g:OpV K r i)(ha:ER K Γ ta da)(hb:ER K Γ tb db):EM K Γ [] (tOp r ta tb) (vOp i da db) :=
 ⟨fun δ P t k h=>ha.mono _ _ _ (fun x z=>hb.mono _ _ _ (fun y z=>g.mono x y _ _ k z) z) h,
 fun o q=>ha.run o (ha.mono _ _ _ (fun x z v C f p=>hb.run (o.same f) (hb.mono _ _ _ (fun y z w B c m=>g.run (p.same c) m (g.mono _ _ _ _ (fun u z j H' fp s r n=>z j H' fp ((f.trans c).trans s) r (n.any.later (f.trans c))) z)) z)) q)⟩
abbrev D1:=D->DK->Prop
structure UnV(K:aad)(r:V->Hp->VK->Prop)(rv:D1):Prop where
 mono:∀x (P P':DK),(∀z,P z->P' z)->rv x P->rv x P'
 run:∀{H x v Q},Rp K H x v->rv x (fun z=>∀u H' fp,Same H H'->Rf K H' z u fp->Nw H H' nf [] fp->Q u H')->r v H Q
def vUn(c:D1)(f:DE)(δ:Dl)(P:DK):Prop:=f δ fun x=>c x P
theorem Gs{r:V->Hp->VK->Prop}{g:D1}(c:UnV K r g)(ha:ER K Γ ta da):EM K Γ [] (tUn r ta) (vUn g da) :=
 ⟨fun δ P m k h=>ha.mono _ _ _ (fun x z=>c.mono x _ _ k z) h,
 fun o q=>ha.run o (ha.mono _ _ _ (fun x z v p f j=>c.run j (c.mono _ _ _ (fun u z i H' fp s r n=>z i H' fp (f.trans s) r (n.any.later f)) z)) q)⟩
def vI0(g:Int->Int->D)(x:D)(y:D)(P:DK):Prop:=match x,y with|.int i,.int j=>P (g i j)|_,_=>False
def vI(C:Int->Int->Prop)(g:Int->Int->D)(x:D)(y:D)(P:DK):Prop:=match x,y with|.int i,.int j=>C i j/\P (g i j)|_,_=>False
def vU(g:Int->D)(x:D)(P:DK):Prop:=match x with|.int i=>P (g i)|_=>False
theorem GV{g:Int->Int->D}:∀x y (P c:DK),(∀z,P z->c z)->vI0 g x y P->vI0 g x y c:=fun x y P c k h=>by
 unfold vI0 at h ⊢;revert h;split<;>first|exact k _|exact id
theorem Hd{C:Int->Int->Prop}{g:Int->Int->D}:∀x y (P c:DK),(∀z,P z->c z)->vI C g x y P->vI C g x y c:=fun x y P c k h=>by
 unfold vI at h ⊢;revert h;split<;>first|exact fun h=>⟨h.1,k _ h.2⟩|exact id
theorem CZ{f:Int->Int->V}{g:Int->Int->D}(c:∀i j,(g i j).aQ=true/\(g i j).toV=f i j):OpV K (rI0 f) (vI0 g):=⟨GV,fun {H x y v w Q} n m h=>by
 unfold vI0 at h
 split at h
 .rename_i i j
  refine⟨i,j,n.int,m.int,?_⟩
  rw[<- (c i j).2]
  exact h _ H [] (Same.refl H) (Rf.xJ (c i j).1) Nw.nil
 .exact h.elim⟩
theorem Ku{C:Int->Int->Prop}{f:Int->Int->V}{g:Int->Int->D}(c:∀i j,(g i j).aQ=true/\(g i j).toV=f i j):OpV K (rI C f) (vI C g):=⟨Hd,fun {H x y v w Q} n m h=>by
 unfold vI at h
 split at h
 .rename_i i j
  refine⟨i,j,n.int,m.int,h.1,?_⟩
  rw[<- (c i j).2]
  exact h.2 _ H [] (Same.refl H) (Rf.xJ (c i j).1) Nw.nil
 .exact h.elim⟩
theorem cJ{f:Int->Int->Int}:OpV K (rI0 fun i j=>.int (f i j)) (vI0 fun i j=>.int (f i j)):=CZ fun _ _=>⟨rfl,rfl⟩
theorem kS{f:Int->Int->Bool}:OpV K (rI0 fun i j=>.bl (f i j)) (vI0 fun i j=>.bl (f i j)):=CZ fun _ _=>⟨rfl,rfl⟩
theorem aT{C:Int->Int->Prop}{f:Int->Int->Int}:OpV K (rI C fun i j=>.int (f i j)) (vI C fun i j=>.int (f i j)):=Ku fun _ _=>⟨rfl,rfl⟩
theorem GR{f:Int->Int}:UnV K (rU fun i=>.int (f i)) (vU fun i=>.int (f i)):=⟨fun x P g k h=>by unfold vU at h ⊢;revert h;split<;>first|exact k _|exact id,fun {H x v Q} c h=>by
 unfold vU at h
 split at h
 .rename_i i
  exact⟨i,c.int,h _ H [] (Same.refl H) ⟨rfl,rfl⟩ Nw.nil⟩
 .exact h.elim⟩
def vA(c:Bool)(x:D)(y:D)(P:DK):Prop:=x.aQ=true/\y.aQ=true/\aQ x.toV y.toV=true/\P (.bl (if c then !decide (x.toV=y.toV) else decide (x.toV=y.toV)))
theorem wH{f:Bool}:∀x y (P c:DK),(∀z,P z->c z)->vA f x y P->vA f x y c:=fun x y P c k h=>⟨h.1,h.2.1,h.2.2.1,k _ h.2.2.2⟩
theorem nU:OpV K rEq (vA false):=⟨wH,fun {H x y v w Q} ⟨i,f⟩ ⟨g,c⟩ h=>by
 rw[(f.aQ h.1).1,(c.aQ h.2.1).1]
 exact⟨h.2.2.1,h.2.2.2 _ H [] (Same.refl H) ⟨rfl,rfl⟩ Nw.nil⟩⟩
theorem BC:OpV K rNe (vA true):=⟨wH,fun {H x y v w Q} ⟨i,f⟩ ⟨g,c⟩ h=>by
 rw[(f.aQ h.1).1,(c.aQ h.2.1).1]
 exact⟨h.2.2.1,h.2.2.2 _ H [] (Same.refl H) ⟨rfl,rfl⟩ Nw.nil⟩⟩
theorem zI{c:Bool}{i j:Int}{P:DK}:vA c (.int i) (.int j) P↔P (.bl (if c then !decide (i=j) else decide (i=j))):=by
 unfold vA
 simp only[D.aQ,D.toV,aQ,true_and,V.int.injEq]
def uH(x:D)(y:D)(P:DK):Prop:=match x.items,y with|some ds,.int i=>(match atI ds i with|some d=>P d|none=>False)|_,_=>False
def rq(x:D)(y:D)(P:DK):Prop:=match x,y with|.tup ds,.int i=>(match atI ds i with|some d=>P d|none=>False)|_,_=>False
theorem uV{x y:D}{P:DK}(h:uH x y P):∃ds i d,x.items=some ds/\y=.int i/\atI ds i=some d/\P d:=by
 unfold uH at h
 split at h
 .split at h
  .exact⟨_,_,_,by assumption,rfl,by assumption,h⟩
  .exact h.elim
 .exact h.elim
theorem u9{x y:D}{P:DK}(h:rq x y P):∃ds i d,x=.tup ds/\y=.int i/\atI ds i=some d/\P d:=by
 unfold rq at h
 split at h
 .split at h
  .exact⟨_,_,_,rfl,rfl,by assumption,h⟩
  .exact h.elim
 .exact h.elim
theorem Ht{x:D}{ds:List D}{i:Int}{d:D}{P:DK}(ex:x.items=some ds)(e:atI ds i=some d)(h:P d):uH x (.int i) P:=by unfold uH;simp only[ex,e];exact h
theorem Il{ds:List D}{i:Int}{d:D}{P:DK}(e:atI ds i=some d)(h:P d):rq (.tup ds) (.int i) P:=by unfold rq;simp only[e];exact h
theorem wt:∀x y (P c:DK),(∀z,P z->c z)->uH x y P->uH x y c:=fun x y P c k h=>by
 obtain ⟨ds,i,d,ex,rfl,e,h⟩:=uV h;exact Ht ex e (k _ h)
theorem wU:∀x y (P c:DK),(∀z,P z->c z)->rq x y P->rq x y c:=fun x y P c k h=>by
 obtain ⟨ds,i,d,rfl,rfl,e,h⟩:=u9 h;exact Il e (k _ h)
theorem Rfs.at{H:Hp}{ds:List D}{xs:List V}{c:List Addr}{i:Int}{d:D}(h:Rfs K H ds xs c)(e:atI ds i=some d):∃v f,atI xs i=some v/\Rf K H d v f/\∀a∈f,a∈c:=by
 unfold atI at e ⊢
 rw[h.length]
 cases hj:ixN ds.length i with
 |none=>rw[hj] at e;cases e
 |some j=>rw[hj] at e;exact h.get e
theorem Gk(ha:ER K Γ ta da)(hb:ER K Γ tb db):ER K Γ (tOp (xE K) ta tb) (vOp uH da db) :=
 ⟨fun δ P t k h=>ha.mono _ _ _ (fun x z=>hb.mono _ _ _ (fun y z=>wt x y _ _ k z) z) h,
 fun o q=>ha.run o (ha.mono _ _ _ (fun x z v u g n=>hb.run (o.same g) (hb.mono _ _ _ (fun y z w r c m=>by
  obtain ⟨ds,i,d,ex,rfl,e,z⟩:=uV z
  obtain ⟨a,xs,s,rfl,p,hr⟩:=(n.same c).seq ex
  obtain ⟨v,f,e1,j,_⟩:=hr.at e
  exact⟨a,xs,i,v,rfl,m.int,p,e1,z v r (g.trans c) ⟨f,j⟩⟩) z)) q)⟩
theorem G7(ha:ER K Γ ta da)(hb:ER K Γ tb db):ER K Γ (tOp (yb K) ta tb) (vOp rq da db) :=
 ⟨fun δ P t k h=>ha.mono _ _ _ (fun x z=>hb.mono _ _ _ (fun y z=>wU x y _ _ k z) z) h,
 fun o q=>ha.run o (ha.mono _ _ _ (fun x z v u g n=>hb.run (o.same g) (hb.mono _ _ _ (fun y z w r c m=>by
  obtain ⟨ds,i,d,rfl,rfl,e,z⟩:=u9 z
  obtain ⟨a,xs,s,rfl,p,hr⟩:=(n.same c).tup
  obtain ⟨v,f,e1,j,_⟩:=hr.at e
  exact⟨a,xs,i,v,rfl,m.int,p,e1,z v r (g.trans c) ⟨f,j⟩⟩) z)) q)⟩
theorem aD(ha:ES K Γ ta da)(hb:ER K Γ tb db):ES K Γ (tOp (xE K) ta tb) (vOp uH da db) :=
 ⟨fun δ P C k h=>ha.mono _ _ _ (fun x z=>hb.mono _ _ _ (fun y z=>wt x y _ _ k z) z) h,
 fun o q=>ha.run o (ha.mono _ _ _ (fun x z v E fp g r n=>hb.run (o.same g) (hb.mono _ _ _ (fun y z w u c p=>by
  obtain ⟨ds,i,d,ex,rfl,e,z⟩:=uV z
  obtain ⟨a,xs,B,rfl,s,hr,t⟩:=(r.same c).seq ex
  obtain ⟨v,f,e1,m,k⟩:=hr.at e
  exact⟨a,xs,i,v,rfl,p.int,s,e1,z v u f (g.trans c) m fun j hj b hb=>n j hj b (t b (k b hb))⟩) z)) q)⟩
theorem bb(ha:ES K Γ ta da)(hb:ER K Γ tb db):ES K Γ (tOp (yb K) ta tb) (vOp rq da db) :=
 ⟨fun δ P u k h=>ha.mono _ _ _ (fun x z=>hb.mono _ _ _ (fun y z=>wU x y _ _ k z) z) h,
 fun o q=>ha.run o (ha.mono _ _ _ (fun x z v B fp g r n=>hb.run (o.same g) (hb.mono _ _ _ (fun y z w t c p=>by
  obtain ⟨ds,i,d,rfl,rfl,e,z⟩:=u9 z
  obtain ⟨a,xs,rfl,s,hr⟩:=r.same c
  obtain ⟨v,f,e1,m,k⟩:=hr.at e
  exact⟨a,xs,i,v,rfl,p.int,.inl (.inl s),e1,z v t f (g.trans c) m fun j hj b hb=>n j hj b (k b hb)⟩) z)) q)⟩
def asB(x:D)(P:Bool->Prop):Prop:=match x with|.bl k=>P k|_=>False
def yT(d:DE)(δ:Dl)(P:Bool->Prop):Prop:=d δ fun x=>asB x P
theorem um{x:D}{P:Bool->Prop}(h:asB x P):∃k,x=.bl k/\P k:=by
 unfold asB at h
 split at h
 .exact⟨_,rfl,h⟩
 .exact h.elim
theorem Ga{x:D}{P c:Bool->Prop}(k:∀b,P b->c b)(h:asB x P):asB x c:=by
 obtain ⟨b,rfl,h⟩:=um h;exact k b h
theorem aM(h:ER K Γ t d):TR K Γ (G5 t) (yT d):=⟨fun δ P c k q=>h.mono _ _ _ (fun x z=>Ga k z) q,fun o q=>h.run o (h.mono _ _ _ (fun x z v H' s r=>by
 obtain ⟨b,rfl,z⟩:=um z;exact⟨b,r.bl,z H' s⟩) q)⟩
theorem oH(h:ER K Γ t d):TR K Γ (tB t) (yT d):=⟨fun δ P c k q=>h.mono _ _ _ (fun x z=>Ga k z) q,fun o q=>h.run o (h.mono _ _ _ (fun x z v H' s r=>by
 obtain ⟨b,rfl,z⟩:=um z;exact⟨b,r.bl,z H' s⟩) q)⟩
def Km(c e:DT)(δ:Dl)(P:Bool->Prop):Prop:=c δ fun k=>if k=true then e δ P else P false
def vOr(c e:DT)(δ:Dl)(P:Bool->Prop):Prop:=c δ fun k=>if k=true then P true else e δ P
def Kg(c:DT)(δ:Dl)(P:Bool->Prop):Prop:=c δ fun k=>P (!k)
theorem dy{b:Bool}{A B f c:Prop}(i:A->f)(g:B->c)(h:if b=true then A else B):if b=true then f else c:=by
 cases b
 .exact g h
 .exact i h
theorem tE{i h:TT}{c e:DT}(g:TR K Γ i c)(f:TR K Γ h e):TR K Γ (Ld i h) (Km c e) :=
 ⟨fun δ P n k q=>g.mono _ _ _ (fun b z=>dy (f.mono _ _ _ k) (k _) z) q,
 fun o q=>g.run o (g.mono _ _ _ (fun b z H' s=>dy (fun z=>f.run (o.same s) (f.mono _ _ _ (fun b z m j=>z m (s.trans j)) z)) (fun z=>z H' s) z) q)⟩
theorem mL{i h:TT}{c e:DT}(g:TR K Γ i c)(f:TR K Γ h e):TR K Γ (tOr i h) (vOr c e) :=
 ⟨fun δ P n k q=>g.mono _ _ _ (fun b z=>dy (k _) (f.mono _ _ _ k) z) q,
 fun o q=>g.run o (g.mono _ _ _ (fun b z H' s=>dy (fun z=>z H' s) (fun z=>f.run (o.same s) (f.mono _ _ _ (fun b z m j=>z m (s.trans j)) z)) z) q)⟩
theorem fE{g:TT}{c:DT}(f:TR K Γ g c):TR K Γ (Lw g) (Kg c) :=
 ⟨fun δ P h k q=>f.mono _ _ _ (fun b z=>k _ z) q,fun o q=>f.run o (f.mono _ _ _ (fun b z H' s=>z H' s) q)⟩
def GZ(f c:DE)(δ:Dl)(P:DK):Prop:=yT f δ fun k=>if k=true then c δ P else P (.bl false)
theorem HW(ha:ER K Γ ta da)(hb:EM K Γ [] tb db):EM K Γ [] (Jd ta tb) (GZ da db) :=
 ⟨fun δ P h k q=>(aM ha).mono _ _ _ (fun b z=>dy (hb.mono _ _ _ k) (k _) z) q,
 fun o q=>ha.run o (ha.mono _ _ _ (fun x z v H' s r=>by
  obtain ⟨b,rfl,z⟩:=um z
  exact⟨b,r.bl,dy (fun z=>hb.run (o.same s) (hb.mono _ _ _ (fun y z u g fp c f n2=>z u g fp (s.trans c) f (n2.later s)) z)) (fun z=>z _ H' [] s ⟨rfl,rfl⟩ Nw.nil) z⟩) q)⟩
def vIf(c:DT)(g f:DE)(δ:Dl)(P:DK):Prop:=c δ fun k=>if k=true then g δ P else f δ P
theorem Fq{u:TT}{c:DT}(h:TR K Γ u c)(ha:EM K Γ [] ta da)(hb:EM K Γ [] tb db):EM K Γ [] (tIf u ta tb) (vIf c da db) :=
 ⟨fun δ P j k q=>h.mono _ _ _ (fun b z=>dy (ha.mono _ _ _ k) (hb.mono _ _ _ k) z) q,
 fun o q=>h.run o (h.mono _ _ _ (fun b z H' s=>dy (fun z=>ha.run (o.same s) (ha.mono _ _ _ (fun y z u i fp f g n2=>z u i fp (s.trans f) g (n2.later s)) z)) (fun z=>hb.run (o.same s) (hb.mono _ _ _ (fun y z u i fp f g n2=>z u i fp (s.trans f) g (n2.later s)) z)) z) q)⟩
def Bv(r c:D2)(h g f:DE)(δ:Dl)(P:DK):Prop:=h δ fun x=>g δ fun y=>r x y fun z=>asB z fun k=>if k=true then f δ fun w=>c y w P else P (.bl false)
theorem jV{r F:R2}{C G:D2}(g:OpV K r C)(j:OpV K F G)(ha:ER K Γ ta da)(hb:ER K Γ tb db)(i:ER K Γ tc dc):EM K Γ [] (Br r F ta tb tc) (Bv C G da db dc) :=
 ⟨fun δ P Q k h=>ha.mono _ _ _ (fun x z=>hb.mono _ _ _ (fun y z=>g.mono x y _ _ (fun u z=>Ga (fun b z=>dy (i.mono _ _ _ fun w z=>j.mono _ _ _ _ k z) (k _) z) z) z) z) h,
 fun o q=>ha.run o (ha.mono _ _ _ (fun x z v T B J=>hb.run (o.same B) (hb.mono _ _ _ (fun y z w S t E=>g.run (J.same t) E (g.mono _ _ _ _ (fun u z m L fp p I O=>by
  obtain ⟨b,rfl,z⟩:=um z
  have c:=(B.trans t).trans p
  refine⟨b,I.1,dy (fun z=>?_) (fun z=>z _ L [] c ⟨rfl,rfl⟩ Nw.nil) z⟩
  exact i.run (o.same c) (i.mono _ _ _ (fun w z M R f H=>j.run (E.same (p.trans f)) H (j.mono _ _ _ _ (fun u z m H' fp s r n=>z m H' fp ((c.trans f).trans s) r (n.any.later (c.trans f))) z)) z)) z)) z)) q)⟩
def Dg(c:Dl)(P:List D->Prop):Prop:=P []
def rV(f:DE)(c:DA)(δ:Dl)(P:List D->Prop):Prop:=f δ fun x=>c δ fun xs=>P (x::xs)
theorem aq:AR K Γ kP Dg:=⟨fun _ _ _ k h=>k _ h,fun {_ _ _ _ H _} o q=>q [] H (Same.refl H) ⟨[],rfl,rfl⟩⟩
theorem aV:AM K Γ [] kP Dg:=⟨fun _ _ _ k h=>k _ h,fun {_ _ _ _ H _} o q=>q [] H [] (Same.refl H) ⟨rfl,rfl⟩ Nw.nil⟩
theorem Ke:AS K Γ kP Dg:=⟨fun _ _ _ k h=>k _ h,fun {_ _ _ _ H _} o q=>q [] H [] (Same.refl H) ⟨rfl,rfl⟩ fun _ _ _ h=>nomatch h⟩
theorem ai{g:TA}{p:DA}(ha:ER K Γ ta da)(hr:AR K Γ g p):AR K Γ (cY ta g) (rV da p) :=
 ⟨fun δ P s k h=>ha.mono _ _ _ (fun x z=>hr.mono _ _ _ (fun y z=>k _ z) z) h,
 fun o q=>ha.run o (ha.mono _ _ _ (fun x z v t j f=>hr.run (o.same j) (hr.mono _ _ _ (fun xs z vs r i c=>by
  obtain ⟨n,f⟩:=f.same i
  obtain ⟨m,c⟩:=c
  exact z _ r (j.trans i) ⟨n++m,_,_,n,m,rfl,rfl,f,c⟩) z)) q)⟩
theorem Ii{c:TA}{n:DA}(ha:ES K Γ ta da)(hr:AS K Γ c n):AS K Γ (cY ta c) (rV da n) :=
 ⟨fun δ P t k h=>ha.mono _ _ _ (fun x z=>hr.mono _ _ _ (fun y z=>k _ z) z) h,
 fun o q=>ha.run o (ha.mono _ _ _ (fun x z v u m g r n1=>hr.run (o.same g) (hr.mono _ _ _ (fun xs z vs s i f p n2 =>
  z _ s (m++i) (g.trans f) ⟨_,_,m,i,rfl,rfl,r.same f,p⟩ fun j hj a ha=>(Ma.mp ha).elim (n1 j hj a) (n2 j hj a)) z)) q)⟩
theorem gY{g:aac}{r:TA}{B:DA}(ha:EM K Γ M ta da)(hr:AM K Γ g r B)(s:∀i∈M,i∈Γ/\i∉g:=by decide)(I:∀i∈g,i∈Γ:=by decide):AM K Γ (M++g) (cY ta r) (rV da B) :=
 ⟨fun δ P J k h=>ha.mono _ _ _ (fun x z=>hr.mono _ _ _ (fun y z=>k _ z) z) h,
 fun {B0 fps δ G H Q} o q=>ha.run o (ha.mono _ _ _ (fun x z v L u n E n1=>hr.run (o.same n) (hr.mono _ _ _ (fun xs z vs F t m C n2=>by
  refine z _ F (u++t) (n.trans m) ⟨_,_,u,t,rfl,rfl,E.same m,C⟩ ⟨?_,fun a ha=>(Ma.mp ha).elim (fun h=>(n1.mu a h).same m) (n2.mu a),fun a ha=>?_⟩
  .refine Mm.mpr ⟨n1.nd,n2.nd,fun a c b f e=>?_⟩
   subst e
   rcases n2.src a f with e|⟨j,hj,e⟩
   .exact (n1.mu a c).some e
   .rcases n1.src a c with p|⟨i,hi,p⟩
    .exact o.dom e p
    .exact o.dj i (s i hi).1 j (fun y=>(s i hi).2 (by rw[<- y];exact hj)) a p e
  .rcases Ma.mp ha with h|h
   .exact (n1.src a h).imp id fun ⟨j,c,f⟩=>⟨j,Me _ c,f⟩
   .exact (n2.src a h).elim (fun e=>.inl (n.free e)) fun ⟨j,c,f⟩=>.inr ⟨j,L1 _ c,f⟩) z)) q)⟩
theorem l6{n:Nat}(h:n<=1000):n<=sizeLine:=Mx h (by rw[sizeLine_eq];decide)
def KO(c:DA)(δ:Dl)(P:DK):Prop:=c δ fun xs=>xs.length<=1000/\P (.lst xs)
def JI(c:DA)(δ:Dl)(P:DK):Prop:=c δ fun xs=>xs.length<=1000/\P (.tup xs)
theorem bC{u:TA}{m:DA}(hr:AM K Γ M u m)(s:∀i∈M,i∈Γ:=by decide):EM K Γ M (K6 u) (KO m) :=
 ⟨fun δ P t k h=>hr.mono _ _ _ (fun y z=>⟨z.1,k _ z.2⟩) h,
 fun {B0 fps δ r H Q} o q=>hr.run o (hr.mono _ _ _ (fun xs z vs n fp g j n1=>by
  refine⟨by rw[j.length];exact l6 z.1,fun p f=>?_⟩
  have c:Same n (upd n p (.lst vs)):=Same.kj f
  refine z.2 _ _ (p::fp) (g.trans c) ⟨p,vs,fp,rfl,az,rfl,j.same c⟩ ⟨Mi.mpr ⟨fun h=>(n1.mu p h).some f,n1.nd⟩,fun a ha=>?_,fun a ha=>?_⟩
  .rcases L6.mp ha with e|h
   .subst e;exact .inl ⟨vs,az⟩
   .exact (n1.mu a h).same c
  .rcases L6.mp ha with e|h
   .subst e;exact .inl (g.free f)
   .exact n1.src a h) q)⟩
theorem dP{u:TA}{g:DA}(hr:AM K Γ M u g):EM K Γ M (Ls u) (JI g) :=
 ⟨fun δ P r k h=>hr.mono _ _ _ (fun y z=>⟨z.1,k _ z.2⟩) h,
 fun {B0 fps δ n H Q} o q=>hr.run o (hr.mono _ _ _ (fun xs z vs i fp j f n1=>by
  refine⟨by rw[f.length];exact l6 z.1,fun p m=>?_⟩
  have c:Same i (upd i p (.tup vs)):=Same.kj m
  exact z.2 _ _ fp (j.trans c) ⟨p,vs,rfl,az,f.same c⟩ (n1.same c)) q)⟩
abbrev DSp:=List D->DK->Prop
def bt(S:DSp):Prop:=∀xs (P c:DK),(∀z,P z->c z)->S xs P->S xs c
def spP(K:aad)(S:DSp):Sp:=fun vs H Q _=>∃ds,Rps K H ds vs/\gB K H/\S ds fun x=>∀v H' fp,Same H H'->Rf K H' x v fp->Nw H H' nf [] fp->Q v H'
structure n0(K:aad)(r:List V->Hp->VK->Prop)(S:DSp):Prop where
 mono:bt S
 run:∀{H xs vs Q},Rps K H xs vs->S xs (fun z=>∀u H' fp,Same H H'->Rf K H' z u fp->Nw H H' nf [] fp->Q u H')->r vs H Q
def rY(S:DSp)(c:DA)(δ:Dl)(P:DK):Prop:=c δ fun xs=>S xs P
theorem aR{r:List V->Hp->VK->Prop}{S:DSp}{u:TA}{g:DA}(c:n0 K r S)(hr:AR K Γ u g):EM K Γ [] (tCB r u) (rY S g) :=
 ⟨fun δ P p k h=>hr.mono _ _ _ (fun y z=>c.mono _ _ _ k z) h,
 fun {B0 fps δ m H Q} o q=>hr.run o (hr.mono _ _ _ (fun xs z vs t f j=>c.run j (c.mono _ _ _ (fun u z i H' fp s r n=>z i H' fp (f.trans s) r (n.any.later f)) z)) q)⟩
theorem aE{S:DSp}{E:XK}{u:TA}{g:DA}(f:bt S)(hr:AR K Γ u g):EM K Γ [] (pk (spP K S) [] E u) (rY S g) :=
 ⟨fun δ P p k h=>hr.mono _ _ _ (fun y z=>f _ _ _ k z) h,
 fun {B0 fps δ m H Q} o q=>hr.run o (hr.mono _ _ _ (fun xs z vs t c j=>⟨xs,by rw[MV];exact j,(o.b0.trans c).now,f _ _ _ (fun u z i H' fp s r n=>z i H' fp (c.trans s) r (n.any.later c)) z⟩) q)⟩
end
end L3
namespace L3
open PySem L2
structure bB where
 nx:Dl->Prop
 rt:D->Dl->Prop
 bk:Dl->Prop
 ct:Dl->Prop
abbrev DS:=bB->Dl->Prop
structure RtI(B0:Hp)(Γr:aac)(fps:Nat->List Addr)(H:Hp)(fp:List Addr):Prop where
 nd:fp.Nodup
 mu:∀a∈fp,Mu H a
 nw:∀a∈fp,B0 a=none
 dj:∀j∈Γr,∀a∈fp,a∉fps j
structure EOk(K:aad)(ρ:Bool)(Γr Γl Γn:aac)(B0:Hp)(Dn:Ends)(E:bB):Prop where
 nx:∀{fps δ σ H},Ok K B0 Γn fps δ σ H->E.nx δ->Dn.nx σ H
 bk:∀{fps δ σ H},Ok K B0 Γl fps δ σ H->E.bk δ->Dn.bk σ H
 ct:∀{fps δ σ H},Ok K B0 Γl fps δ σ H->E.ct δ->Dn.ct σ H
 rt:∀{fps δ σ H x v fp},Ok K B0 Γr fps δ σ H->Rf K H x v fp->(ρ=true->RtI B0 Γr fps H fp)->E.rt x δ->Dn.rt v H
def ST(K:aad)(h:Bool)(c f:aac)(t:TS)(i Γn:aac)(d:DS):Prop :=
 ∀⦃B0:Hp⦄ ⦃Dn:Ends⦄ ⦃E:bB⦄ ⦃fps:Nat->List Addr⦄ ⦃δ:Dl⦄ ⦃g:St⦄ ⦃H:Hp⦄,EOk K h c f Γn B0 Dn E->Ok K B0 i fps δ g H->d E δ->t Dn g H
section
variable {K:aad}{ρ:Bool}{Γr Γl Γ Γ1 TH Γn M:aac}{t u:TS}{te tb:TE}{de da db:DE}{d e:DS}
def E9(E:bB)(δ:Dl):Prop:=E.nx δ
def AZ(d e:DS)(E:bB)(δ:Dl):Prop:=d { E with nx:=e E } δ
theorem aZ:ST K ρ Γr Γl IS Γ Γ E9:=fun _ _ _ _ _ _ _ k o h=>k.nx o h
theorem ax(f:ST K ρ Γr Γl t Γ Γ1 d)(c:ST K ρ Γr Γl u Γ1 TH e):ST K ρ Γr Γl (zV t u) Γ TH (AZ d e) :=
 fun {B0 Dn E fps δ g H} k o h=>f (Dn:={ Dn with nx:=u Dn }) (E:={ E with nx:=e E }) ⟨fun o h=>c k o h,k.bk,k.ct,k.rt⟩ o h
theorem ST.pre(h:ST K ρ Γr Γl t Γ1 Γn d)(s:∀i∈Γ1,i∈Γ:=by decide):ST K ρ Γr Γl t Γ Γn d:=fun _ _ _ _ _ _ _ k o q=>h k (o.sub s) q
theorem ST.post(h:ST K ρ Γr Γl t Γ Γ1 d)(s:∀i∈Γn,i∈Γ1:=by decide):ST K ρ Γr Γl t Γ Γn d:=fun _ _ _ _ _ _ _ k o q=>h ⟨fun o h=>k.nx (o.sub s) h,k.bk,k.ct,k.rt⟩ o q
def FU(M:aac)(i:Nat)(c:DE)(E:bB)(δ:Dl):Prop:=c δ fun x=>E.nx ((kill M δ).set i (some x))
theorem bV(i:Nat)(c:EM K Γ M te de)(f:∀j∈M,j∈Γ:=by decide):ST K ρ Γr Γl (lN te (gn i)) Γ (i::minus (minus Γ M) [i]) (FU M i de) :=
 fun _ _ _ _ _ _ _ k o h=>c.run o (c.mono _ _ _ (fun x z v H' fp s r n=>k.nx (o.Jt i f s r n) z) h)
def HB(i:Nat)(c:DE)(E:bB)(δ:Dl):Prop:=c δ fun x=>E.nx (δ.set i (some x))
theorem aN(i:Nat)(c:ES K Γ te de):ST K ρ Γr Γl (lN te (gn i)) Γ (minus Γ [i]) (HB i de) :=
 fun _ _ _ _ _ _ _ k o h=>c.run o (c.mono _ _ _ (fun x z v H' fp s r n=>k.nx (o.zi i s r n) z) h)
def Hb(M:aac)(c:DE)(E:bB)(δ:Dl):Prop:=c δ fun x=>E.rt x (kill M δ)
theorem aJ(c:EM K Γ M te de)(f:∀j∈M,j∈Γ:=by decide)(hr:∀j∈Γr,j∈Γ/\j∉M:=by decide):ST K ρ Γr Γl (KD te) Γ Γn (Hb M de) :=
 fun {B0 Dn E fps δ g H} k o h=>c.run o (c.mono _ _ _ (fun x z v H' fp s r n=>by
  have ok:=((o.kill M).same s).sub (Γ':=Γr) fun i hi=>bT.mpr (hr i hi)
  refine k.rt ok r (fun _=>⟨n.nd,n.mu,fun a ha=>?_,fun j hj a ha=>?_⟩) z
  .rcases n.src a ha with e|⟨i,hi,e⟩
   .exact o.b0.free e
   .exact ((o.own i (f i hi)).2 a e).1
  .show a∉if j∈M then [] else fps j
   rw[if_neg (hr j hj).2]
   intro z
   rcases n.src a ha with e|⟨i,hi,e⟩
   .exact o.dom z e
   .exact o.dj i (f i hi) j (fun y=>(hr j hj).2 (by rw[y];exact hi)) a e z) h)
theorem HG(c:ER K Γ te de)(hr:∀j∈Γr,j∈Γ:=by decide):ST K false Γr Γl (KD te) Γ Γn (Hb [] de) :=
 fun {B0 Dn E fps δ f H} k o h=>c.run o (c.mono _ _ _ (fun x z v H' s r=>by
  obtain ⟨fp,r⟩:=r
  exact k.rt ((o.same s).sub hr) r (fun z=>by cases z) z) h)
def HZ(c:DT)(d e:DS)(E:bB)(δ:Dl):Prop:=c δ fun b=>if b=true then d E δ else e E δ
theorem cS{c:TT}{g:DT}(f:TR K Γ c g)(j:ST K ρ Γr Γl t Γ Γn d)(i:ST K ρ Γr Γl u Γ Γn e):ST K ρ Γr Γl (Kx c t u) Γ Γn (HZ g d e) :=
 fun _ _ _ _ _ _ _ k o h=>f.run o (f.mono _ _ _ (fun b z H' s=>dy (fun z=>j k (o.same s) z) (fun z=>i k (o.same s) z) z) h)
structure GT(K:aad)(Γ:aac)(g:TG)(dg:D->Dl->(Dl->Prop)->Prop):Prop where
 mono:∀x δ (P P':Dl->Prop),(∀z,P z->P' z)->dg x δ P->dg x δ P'
 run:∀{B0 fps δ σ H x v fp Q},Ok K B0 Γ fps δ σ H->Rf K H x v fp->(∀j∈Γ,∀a∈fp,a∉fps j)->dg x δ (fun δ'=>∀fps' σ',Ok K B0 Γ fps' δ' σ' H->(∀j∈Γ,fps' j=fps j)->Q σ' H)->g v σ H Q
structure GTs(K:aad)(Γ:aac)(g:TGs)(dg:List D->Dl->(Dl->Prop)->Prop):Prop where
 mono:∀x δ (P P':Dl->Prop),(∀z,P z->P' z)->dg x δ P->dg x δ P'
 run:∀{B0 fps δ σ H x v fp Q},Ok K B0 Γ fps δ σ H->Rfs K H x v fp->(∀j∈Γ,∀a∈fp,a∉fps j)->dg x δ (fun δ'=>∀fps' σ',Ok K B0 Γ fps' δ' σ' H->(∀j∈Γ,fps' j=fps j)->Q σ' H)->g v σ H Q
def Av(i:Nat)(x:D)(δ:Dl)(P:Dl->Prop):Prop:=P (δ.set i (some x))
theorem aB(i:Nat)(h:i∉Γ:=by decide):GT K Γ (gn i) (Av i):=⟨fun _ _ _ _ k h=>k _ h,fun {B0 fps δ c H x v fp Q} o r n q=>by
 have ok:=(o.zi i (Same.refl H) r n).sub (Γ':=Γ) fun j hj=>bT.mpr ⟨hj,fun z=>h (by rw[<- Gc.mp z];exact hj)⟩
 exact q _ _ ok fun j hj=>by rw[if_neg (fun z=>h (by rw[<- z];exact hj))]⟩
def Jn(xs:List D)(δ:Dl)(P:Dl->Prop):Prop:=match xs with|[]=>P δ|_=>False
def FP(g:D->Dl->(Dl->Prop)->Prop)(f:List D->Dl->(Dl->Prop)->Prop)(xs:List D)(δ:Dl)(P:Dl->Prop):Prop:=match xs with|x::r=>g x δ fun c=>f r c P|[]=>False
theorem jj:GTs K Γ JB Jn:=⟨fun x _ _ _ k h=>by cases x with|nil=>exact k _ h|cons _ _=>exact h,fun {B0 fps δ c H x v fp Q} o r n q=>by
 cases x with
 |nil=>obtain ⟨rfl,_⟩:=r;exact⟨rfl,q _ _ o fun _ _=>rfl⟩
 |cons _ _=>exact q.elim⟩
theorem bf{g:TG}{i:TGs}{s:D->Dl->(Dl->Prop)->Prop}{p:List D->Dl->(Dl->Prop)->Prop}(f:GT K Γ g s)(c:GTs K Γ i p):GTs K Γ (F3 g i) (FP s p) :=
 ⟨fun x _ _ _ k h=>by
  cases x with
  |nil=>exact h
  |cons x r=>exact f.mono _ _ _ _ (fun z h=>c.mono _ _ _ _ k h) h,
 fun {B0 fps δ I H x v fp Q} o r n q=>by
  cases x with
  |nil=>exact q.elim
  |cons x xs =>
   obtain ⟨y,ys,L,J,rfl,rfl,B,u⟩:=r
   refine⟨y,ys,rfl,f.run o B (fun j hj a ha=>n j hj a (Me _ ha)) (f.mono _ _ _ _ (fun t z m σ' E e=>?_) q)⟩
   exact c.run E u (fun j hj a ha=>by rw[e j hj];exact n j hj a (L1 _ ha)) (c.mono _ _ _ _ (fun M z F G C e2=>z F G C fun j hj=>(e2 j hj).trans (e j hj)) z)⟩
def CY(n:Nat)(c:List D->Dl->(Dl->Prop)->Prop)(x:D)(δ:Dl)(P:Dl->Prop):Prop:=match x with|.tup ds=>ds.length=n/\c ds δ P|_=>False
theorem qH{n:Nat}{g:TGs}{c:List D->Dl->(Dl->Prop)->Prop}(h:GTs K Γ g c):GT K Γ (HF K n g) (CY n c) :=
 ⟨fun x δ P j k h'=>by unfold CY at h' ⊢;revert h';split<;>first|exact fun h'=>⟨h'.1,h.mono _ _ _ _ k h'.2⟩|exact id,
 fun {B0 fps δ i H x v fp Q} o r f q=>by
  unfold CY at q
  split at q
  .obtain ⟨a,xs,e1,e2,r⟩:=r
   exact⟨a,xs,e1,.inl (.inl e2),r.length.trans q.1,h.run o r f q.2⟩
  .exact q.elim⟩
def JQ(f:DE)(c:D->Dl->(Dl->Prop)->Prop)(E:bB)(δ:Dl):Prop:=f δ fun x=>c x δ E.nx
theorem qa{g:TG}{j:D->Dl->(Dl->Prop)->Prop}(f:ES K Γ te de)(c:GT K Γ g j):ST K ρ Γr Γl (lN te g) Γ Γ (JQ de j) :=
 fun _ _ _ _ _ _ _ k o h=>f.run o (f.mono _ _ _ (fun x z v H' fp s r n=>c.run (o.same s) r n (c.mono _ _ _ _ (fun m z i σ' p _=>k.nx p z) z)) h)
structure F9(K:aad)(J:It)(B:Hp)(ds:List D):Prop where
 go:∀{i H},Same B H->i<ds.length->J.go i H
 yld:∀{i H x H' d},Same B H->J.yld i H x H'->ds[i]?=some d->Same H H'/\∃fp,Rf K H' d x fp/\∀a∈fp,B a≠none
 stop:∀{i H},Same B H->ds.length<=i->J.stop i H
abbrev DI:=Dl->(List D->Prop)->Prop
structure IT(K:aad)(Γ:aac)(wi:TI)(di:DI):Prop where
 mono:∀δ (P P':List D->Prop),(∀x,P x->P' x)->di δ P->di δ P'
 run:∀{B0 fps δ σ H R},Ok K B0 Γ fps δ σ H->di δ (fun ds=>∀(J:It) (H':Hp) (fq:List Addr),Same H H'->(∀j∈Γ,∀a∈fq,a∉fps j) ->
  (∀B,Same B H'->(∀a∈fq,B a=H' a)->(∀a o,H' a=some o->Im o->B a=some o)->F9 K J B ds)->R J H')->wi σ H R
def asL(x:D)(P:List D->Prop):Prop:=match x.items with|some ds=>P ds|none=>False
theorem bH{x:D}{P:List D->Prop}(h:asL x P):∃ds,x.items=some ds/\P ds:=by
 unfold asL at h;split at h
 .exact⟨_,by assumption,h⟩
 .exact h.elim
theorem gg{x:D}{ds:List D}{P:List D->Prop}(e:x.items=some ds)(h:P ds):asL x P:=by unfold asL;rw[e];exact h
def JN(c:DE)(δ:Dl)(P:List D->Prop):Prop:=c δ fun x=>asL x P
theorem bI(q:ES K Γ te de):IT K Γ (C0 K te) (JN de) :=
 ⟨fun δ P P' k h=>q.mono _ _ _ (fun x z=>by obtain ⟨ds,e,z⟩:=bH z;exact gg e (k _ z)) h,
 fun {B0 fps δ Q H R} o h=>q.run o (q.mono _ _ _ (fun x z v H' fp s r n=>by
  obtain ⟨ds,ex,z⟩:=bH z
  obtain ⟨a,xs,T,rfl,L,hr,Y⟩:=r.seq ex
  refine⟨a,rfl,⟨xs,L⟩,z (Itl K a) H' fp s n fun B S M I=>?_⟩
  have F:Rf K B x (.ref a) fp:=r.mono (fun b hb u e=>by rw[M b hb];exact e) I
  obtain ⟨U,g,Z,e1,O,E,X⟩:=F.seq ex
  cases e1
  have m:∀{j:Hp},Same B j->SqL K j a g:=fun c=>by
   rcases O with (h|⟨G,h⟩)|h
   .exact .inl (.inl (c.st _ _ h trivial))
   .exact .inl (.inr ⟨G,c.st _ _ h trivial⟩)
   .exact .inr h
  have hl:=E.length
  refine⟨fun {i j} c hi=>⟨g,g[i]'(by omega),m c,by simp [hl,hi]⟩,fun {i j y H3 d} c p hd=>?_,fun {i j} c hi=>⟨g,m c,by omega⟩⟩
  obtain ⟨rfl,p⟩:=p
  have e2:=p g (m c)
  obtain ⟨d',f,C,t,k3⟩:=E.get' e2
  rw[hd] at C;cases C
  exact⟨Same.refl _,f,t.same c,fun b hb=>by
   obtain ⟨u,J,_⟩:=t.dom b hb
   rw[J];intro z;cases z⟩) h)⟩
def asI(xs:List D)(P:Int->Prop):Prop:=match xs with|[.int j]=>P j|_=>False
def Hh(xs:List D)(P:Int->Int->Prop):Prop:=match xs with|[.int i,.int j]=>P i j|_=>False
theorem xc{xs:List D}{P:Int->Prop}(h:asI xs P):∃j,xs=[.int j]/\P j:=by
 unfold asI at h;split at h
 .exact⟨_,rfl,h⟩
 .exact h.elim
theorem zy{xs:List D}{P:Int->Int->Prop}(h:Hh xs P):∃i j,xs=[.int i,.int j]/\P i j:=by
 unfold Hh at h;split at h
 .exact⟨_,_,rfl,h⟩
 .exact h.elim
def qt(lo:Int)(n:Nat):List D:=(List.range n).map fun (k:Nat)=>.int (lo+(k:Int))
theorem EX{lo:Int}{n:Nat}{B:Hp}:F9 K (Itr lo n) B (qt lo n):=⟨fun {i g} c hi=>by unfold Itr;simpa [qt] using hi,fun {i g y o d} c j hd=>by
 obtain ⟨rfl,rfl⟩:=j
 unfold qt at hd
 rw[L4] at hd
 cases e:(List.range n)[i]? with
 |none=>rw[e] at hd;cases hd
 |some k =>
  rw[e] at hd
  obtain ⟨m,f⟩:=KE.mp e
  rw[Nn] at f
  subst f
  cases hd
  exact⟨Same.refl _,[],⟨rfl,rfl⟩,fun _ h=>nomatch h⟩,fun {i g} c hi=>by unfold Itr;simpa [qt] using hi⟩
def FV(c:DA)(δ:Dl)(P:List D->Prop):Prop:=c δ fun xs=>asI xs fun j=>(-(2 ^ 62)<=j/\j<2 ^ 62)/\P (qt 0 j.toNat)
def Fn(c:DA)(δ:Dl)(P:List D->Prop):Prop:=c δ fun xs=>Hh xs fun i j=>(-(2 ^ 62)<=i/\i<2 ^ 62/\-(2 ^ 62)<=j/\j<2 ^ 62)/\P (qt i (j - i).toNat)
theorem Rps.ints1{H:Hp}{j:Int}{vs:List V}(h:Rps K H [.int j] vs):vs=[.int j]:=by
 obtain ⟨fp,x,r,f,c,rfl,_,⟨rfl,_⟩,⟨rfl,_⟩⟩:=h;rfl
theorem Rps.ints2{H:Hp}{i j:Int}{vs:List V}(h:Rps K H [.int i,.int j] vs):vs=[.int i,.int j]:=by
 obtain ⟨fp,x,r,f,c,rfl,_,⟨rfl,_⟩,y,g,f,c,rfl,_,⟨rfl,_⟩,⟨rfl,_⟩⟩:=h;rfl
theorem cn{u:TA}{c:DA}(ha:AR K Γ u c):IT K Γ (Ju u) (FV c) :=
 ⟨fun δ P g k h=>ha.mono _ _ _ (fun x z=>by obtain ⟨j,rfl,z⟩:=xc z;exact⟨z.1,k _ z.2⟩) h,
 fun {B0 fps δ f H R} o h=>ha.run o (ha.mono _ _ _ (fun xs z vs H' s r=>by
  obtain ⟨j,rfl,z⟩:=xc z
  exact⟨j,r.ints1,z.1.1,z.1.2,z.2 _ H' [] s (fun _ _ _ h=>(nomatch h)) fun B _ _ _=>EX⟩) h)⟩
theorem Ho{u:TA}{c:DA}(ha:AR K Γ u c):IT K Γ (Jj u) (Fn c) :=
 ⟨fun δ P g k h=>ha.mono _ _ _ (fun x z=>by obtain ⟨i,j,rfl,z⟩:=zy z;exact⟨z.1,k _ z.2⟩) h,
 fun {B0 fps δ f H R} o h=>ha.run o (ha.mono _ _ _ (fun xs z vs H' s r=>by
  obtain ⟨i,j,rfl,z⟩:=zy z
  exact⟨i,j,r.ints2,z.1,z.2 _ H' [] s (fun _ _ _ h=>(nomatch h)) fun B _ _ _=>EX⟩) h)⟩
def lE(f:D->Dl->(Dl->Prop)->Prop)(g:DS)(E:bB):List D->Dl->Prop
 |[],δ=>E.nx δ
 |x::xs,δ=>f x δ fun c=>g { nx:=lE f g E xs,ct:=lE f g E xs,bk:=E.nx,rt:=E.rt } c
def HC(c:DI)(f:D->Dl->(Dl->Prop)->Prop)(g:DS)(E:bB)(δ:Dl):Prop:=c δ fun ds=>lE f g E ds δ
theorem RtI.base{c B0:Hp}{fps:Nat->List Addr}{H:Hp}{fp:List Addr}(r:RtI c Γr fps H fp)(s:Same B0 c)(_:gB K B0):RtI B0 Γr fps H fp:=⟨r.nd,r.mu,fun a ha=>s.free (r.nw a ha),r.dj⟩
theorem dQ{I:TI}{O:DI}{g:TG}{p:D->Dl->(Dl->Prop)->Prop}{tb:TS}{r:DS}(hi:IT K Γ I O)(L:GT K Γ g p)(hb:ST K ρ Γr Γ tb Γ Γ r):ST K ρ Γr Γl (Hi I g tb) Γ Γ (HC O p r):=by
 intro B0 Dn E fps δ G H k o h
 refine hi.run o (hi.mono _ _ _ (fun ds z J H1 fq T n1 PQ=>?_) h)
 obtain ⟨F,v,B,P⟩:=(o.same T).rebase
 have C:F9 K J F ds:=PQ F B.b0 (fun a ha=>P a fun j hj=>n1 j hj a ha) fun a u e im=>by
  rw[P a fun j hj ha=>((B.own j hj).2 a ha).2.nu u e im];exact e
 refine⟨fun i m G H=>m=ds.length - i/\i<=ds.length/\∃fps δ,Ok K F Γ fps δ G H/\lE p r E (ds.drop i) δ,⟨ds.length,by omega,Nx _,fps,δ,B,by rw[N2];exact z⟩,?_⟩
 rintro i m O3 H2 ⟨rfl,XF,Qs,RE,n,t⟩
 by_cases s:i<ds.length
 .refine .inr ⟨C.go n.b0 s,_,fun σ' H' q=>q,fun x H3 hy=>?_⟩
  obtain ⟨S,fp,X,Z⟩:=C.yld n.b0 hy (gV s)
  rw[MO s] at t
  refine L.run (n.same S) X (fun j hj a ha hz=>Z a ha ((n.own j hj).2 a hz).1) (L.mono _ _ _ _ (fun Q R M σ' Y e'=>?_) t)
  refine hb (E:={ nx:=lE p r E (ds.drop (i+1)),ct:=lE p r E (ds.drop (i+1)),bk:=E.nx,rt:=E.rt }) ⟨fun f c=>⟨ds.length - (i+1),by omega,rfl,s,_,_,f,c⟩,fun f c=>k.nx (f.base v o.b0.tv) c,fun f c=>⟨ds.length - (i+1),by omega,rfl,s,_,_,f,c⟩,fun f U i4 c=>k.rt (f.base v o.b0.tv) U (fun y=>(i4 y).base v o.b0.tv) c⟩ Y R
 .have e:i=ds.length:=by omega
  subst e
  rw[NG] at t
  exact .inl ⟨C.stop n.b0 (Md _),k.nx (n.base v o.b0.tv) t⟩
def KP(c:DT)(h:DS)(E:bB)(δ:Dl):Prop:=∃W:Nat->Dl->Prop,(∃m,W m δ)/\∀m δ,W m δ->c δ fun b=>if b=true then h { nx:=fun f=>∃g,g < m/\W g f,ct:=fun f=>∃g,g < m/\W g f,bk:=E.nx,rt:=E.rt } δ else E.nx δ
theorem mW{c:TT}{u:DT}{tb:TS}{v:DS}(t:TR K Γ c u)(hb:ST K ρ Γr Γ tb Γ Γ v):ST K ρ Γr Γl (GS c tb) Γ Γ (KP u v):=by
 intro B0 Dn E fps δ i H k o h
 obtain ⟨W,⟨m,B⟩,turn⟩:=h
 refine⟨fun m i H=>∃fps δ,Ok K B0 Γ fps δ i H/\W m δ,⟨m,fps,δ,o,B⟩,?_⟩
 rintro m G I ⟨F,C,n,y⟩
 refine t.run n (t.mono _ _ _ (fun b z H' s=>dy (fun z=>?_) (fun z=>k.nx (n.same s) z) z) (turn m C y))
 refine⟨fun i H=>∃f,f < m/\∃fps δ,Ok K B0 Γ fps δ i H/\W f δ,fun σ' H' q=>q,hb (E:={ nx:=fun g=>∃f,f < m/\W f g,ct:=fun g=>∃f,f < m/\W f g,bk:=E.nx,rt:=E.rt }) ⟨?_,fun j x=>k.nx j x,?_,k.rt⟩ (n.same s) z⟩
 .rintro fps δ i H j ⟨f,r,p⟩
  exact⟨f,r,fps,δ,j,p⟩
 .rintro fps δ i H j ⟨f,r,p⟩
  exact⟨f,r,fps,δ,j,p⟩
def vR(f:D->(List D->Prop)->Prop):List D->List D->(List D->Prop)->Prop
 |[],acc,P=>P acc
 |x::xs,acc,P=>f x fun ys=>vR f xs (acc++ys) P
theorem ur{f:D->(List D->Prop)->Prop}(g:∀x P c,(∀z,P z->c z)->f x P->f x c):∀xs acc (P c:List D->Prop),(∀z,P z->c z)->vR f xs acc P->vR f xs acc c
 |[],acc,P,c,k,h=>k _ h
 |x::xs,acc,P,c,k,h=>g x _ _ (fun z h=>ur g xs _ P c k h) h
def eQ(k:Nat)(idx:aac)(δ:Dl):Dl:=List.replicate k none++idx.map fun i=>(δ[i]?).getD none
theorem K7{k:Nat}{idx:aac}{B0:Hp}{fps:Nat->List Addr}{δ:Dl}{c:St}{H:Hp}(o:Ok K B0 Γ fps δ c H):Ok K H [] (fun j=>match (eQ k idx δ)[j]? with|some (some _)=>fps (idx.getD (j - k) 0)|_=>[]) (eQ k idx δ) (ic k idx c) H:=by
 refine⟨by simp [eQ,ic,Dr],SB.refl o.b0.now,fun i d e=>?_,fun i h=>?_,fun _ h=>(nomatch h),fun _ h=>(nomatch h)⟩
 .rw[e]
  unfold eQ at e
  unfold ic Dr
  by_cases hi:i<k
  .rw[Mn (by simpa using hi)] at e
   simp [hi] at e
  .rw[MA (by simpa using hi),Mt,L4] at e
   cases ej:idx[i - k]? with
   |none=>rw[ej] at e;simp at e
   |some j =>
    rw[ej] at e
    simp only[Option.map_some,Option.some.injEq] at e
    have m:δ[j]?=some (some d):=by
     cases q:δ[j]? with
     |none=>rw[q] at e;cases e
     |some x=>rw[q] at e;simp at e;rw[e]
    obtain ⟨v,g,f⟩:=o.val j d m
    refine⟨v,?_,?_⟩
    .rw[MA (by simpa using hi),Mt,L4,ej]
     simp [g]
    .show Rf K H d v (fps (idx.getD (i - k) 0))
     rw[dz,ej]
     exact f
 .show (match (eQ k idx δ)[i]? with|some (some _)=>_|_=>_)=_
  split
  .exact absurd (by assumption) (h _)
  .rfl
def kC(g:D->Dl->(Dl->Prop)->Prop)(f:DT)(h:DE)(δ:Dl)(x:D)(R:List D->Prop):Prop:=g x δ fun c=>f c fun b=>if b=true then h c fun y=>R [y] else R []
def pK(f:DI)(g:D->Dl->(Dl->Prop)->Prop)(c:DT)(h:DE)(k:Nat)(idx:aac)(δ:Dl)(P:DK):Prop:=f δ fun ds=>ds.length<=1000/\vR (kC g c h (eQ k idx δ)) ds [] fun ys=>P (.lst ys)
theorem Bs{Γ':aac}{g:TG}{i:D->Dl->(Dl->Prop)->Prop}{j:TT}{f:DT}(m:GT K Γ' g i)(ht:TR K Γ' j f)(hm:∀δ (P c:DK),(∀x,P x->c x)->de δ P->de δ c)(δ:Dl):∀x P c,(∀z,P z->c z)->kC i f de δ x P->kC i f de δ x c :=
 fun x P c k h=>m.mono _ _ _ _ (fun n h=>ht.mono _ _ _ (fun b h=>dy (hm _ _ _ fun y h=>k _ h) (k _) h) h) h
theorem nG{X:TI}{di:DI}{g:TG}{S:D->Dl->(Dl->Prop)->Prop}{Y:TT}{R:DT}{k:Nat}{idx:aac}(hi:IT K [] X di)(L:GT K [] g S)(ht:TR K [] Y R)(M:EM K [] [] te de) :
  EM K Γ [] (yz X g Y te k idx) (pK di S R de k idx):=by
 have hm:=Bs L ht M.mono
 refine⟨fun δ P P' k h=>hi.mono _ _ _ (fun ds z=>⟨z.1,ur (hm _) _ _ _ _ (fun ys h=>k _ h) z.2⟩) h,fun {B0 fps δ σ H Q} o h=>hi.run (o.sub (Γ':=[]) fun _ h=>(nomatch h)) (hi.mono _ _ _ (fun ds z J E fq B n1 PQ=>?_) h)⟩
 have O:F9 K J E ds:=PQ E (Same.refl _) (fun _ _=>rfl) fun a u e im=>e
 obtain ⟨hz,z⟩:=z
 refine⟨fun i m vs j=>m=ds.length - i/\i<=ds.length/\Same E j/\vs.length<=i/\∃ys fp,Rfs K j ys vs fp/\Nw E j nf [] fp/\vR (kC S R de (eQ k idx δ)) (ds.drop i) ys fun ys=>∀v H' fp,Same H H'->Rf K H' (.lst ys) v fp->Nw H H' fps [] fp->Q v H',
  ⟨ds.length,by omega,Nx _,Same.refl _,Nx _,[],[],⟨rfl,rfl⟩,Nw.nil,by rw[N2];exact z⟩,?_⟩
 rintro i m vs j ⟨rfl,XF,f,T8,ys,fp,F,n2,t⟩
 by_cases s:i<ds.length
 .refine .inr ⟨O.go f s,l6 (by omega),_,fun RY H' q=>q,fun x H3 hy=>?_⟩
  obtain ⟨r,fx,r3,n3⟩:=O.yld f hy (gV s)
  rw[MO s] at t
  have oi:=(K7 (k:=k) (idx:=idx) ((o.same B).same (f.trans r)))
  refine L.run oi r3 (fun _ h=>(nomatch h)) (L.mono _ _ _ _ (fun δ' c fps' σ' Z e'=>?_) t)
  refine ht.run Z (ht.mono _ _ _ (fun b c H4 n=>dy (fun c=>M.run (Z.same n) (M.mono _ _ _ (fun y c v H5 f5 s5 r5 C=>?_) c)) (fun c=>?_) c) c)
  .have T:=r.trans (n.trans s5)
   refine⟨ds.length - (i+1),by omega,rfl,s,f.trans T,by simp;omega,ys++[y],fp++f5,(F.same T).append (Rfs.one r5),⟨?_,fun a ha=>?_,fun a ha=>?_⟩,c⟩
   .refine Mm.mpr ⟨n2.nd,C.nd,fun a h1 b h2 e=>?_⟩
    subst e
    exact ((n2.mu a h1).same (r.trans n)).some (C.fresh a h2)
   .rcases Ma.mp ha with h|h
    .exact (n2.mu a h).same T
    .exact C.mu a h
   .rcases Ma.mp ha with h|h
    .exact n2.src a h
    .exact .inl ((f.trans (r.trans n)).free (C.fresh a h))
  .have U:=r.trans n
   dsimp only at c
   rw[MV] at c
   exact⟨ds.length - (i+1),by omega,rfl,s,f.trans U,by omega,ys,fp,F.same U,n2.same U,c⟩
 .have e:i=ds.length:=by omega
  subst e
  rw[NG] at t
  refine .inl ⟨O.stop f (Md _),l6 (by omega),fun p I=>?_⟩
  have G:Same j (upd j p (.lst vs)):=Same.kj I
  refine t _ _ (p::fp) ((B.trans f).trans G) ⟨p,vs,fp,rfl,az,rfl,F.same G⟩ ⟨Mi.mpr ⟨fun h=>(n2.mu p h).some I,n2.nd⟩,fun a ha=>?_,fun a ha=>?_⟩
  .rcases L6.mp ha with e|h
   .subst e;exact .inl ⟨vs,az⟩
   .exact (n2.mu a h).same G
  .rcases L6.mp ha with e|h
   .subst e;exact .inl ((B.trans f).free I)
   .exact .inl (B.free (n2.fresh a h))
def Iw(c:Dl)(P:Bool->Prop):Prop:=P true
theorem JL:TR K Γ Iv Iw:=⟨fun _ _ _ k h=>k _ h,fun {_ _ _ _ H _} o q=>q H (Same.refl H)⟩
def aL(N:List Str)(ds:List D):Dl:=ds.map some++List.replicate (N.length - ds.length) none
theorem Rfs.split{H:Hp}:∀{ds:List D}{vs:List V}{fp:List Addr},Rfs K H ds vs fp->∃fps:Nat->List Addr,(∀i d,ds[i]?=some d->∃v,vs[i]?=some v/\Rf K H d v (fps i))/\∀i,ds.length<=i->fps i=[]
 |[],vs,fp,h=>⟨fun _=>[],fun i d e=>by simp at e,fun _ _=>rfl⟩
 |d::ds,vs,fp,h=>by
  obtain ⟨x,r,g,m,rfl,rfl,f,c⟩:=h
  obtain ⟨fps,k1,k2⟩:=Rfs.split c
  refine⟨fun i=>match i with|0=>g|j+1=>fps j,fun i d' e=>?_,fun i hi=>?_⟩
  .cases i with
   |zero=>simp at e;subst e;exact⟨x,rfl,f⟩
   |succ j=>simpa using k1 j d' (by simpa using e)
  .cases i with
   |zero=>simp at hi
   |succ j=>exact k2 j (by simpa using hi)
theorem lq{N:List Str}{ds:List D}{vs:List V}{H:Hp}(h:Rps K H ds vs)(tv:gB K H):∃fps,Ok K H [] fps (aL N ds) (L2.start N vs) H:=by
 obtain ⟨fp,h⟩:=h
 have hl:=h.length
 obtain ⟨fps,k1,k2⟩:=h.split
 refine⟨fps,by simp [aL,L2.start,hl],SB.refl tv,fun i d e=>?_,fun i e=>?_,fun _ h=>(nomatch h),fun _ h=>(nomatch h)⟩
 .unfold aL at e
  unfold L2.start
  by_cases hi:i<ds.length
  .rw[Mn (by simpa using hi),L4,gV hi] at e
   simp at e
   obtain ⟨v,f,c⟩:=k1 i d (by rw[gV hi,e])
   exact⟨v,by rw[Mn (by simpa [hl] using hi),L4,f];rfl,c⟩
  .rw[MA (by simpa using hi),MQ] at e
   split at e<;>cases e
 .by_cases hi:i<ds.length
  .refine absurd ?_ (e ds[i])
   unfold aL
   rw[Mn (by simpa using hi),L4,gV hi]
   rfl
  .exact k2 i (by omega)
abbrev nZ(P:DK):bB:=⟨fun _=>P .non,fun x _=>P x,fun _=>False,fun _=>False⟩
theorem bh{N:List Str}{S:DSp}(c:ST K true [] [] t [] Γn d)(hd:∀ds P,S ds P->d (nZ P) (aL N ds)) :
  ∀{vs H Q E},spP K S vs H Q E->t { nx:=fun _ H'=>Q .non H',rt:=Q } (L2.start N vs) H:=by
 rintro vs H Q E ⟨ds,r,tv,h⟩
 obtain ⟨fps,o⟩:=lq (N:=N) r tv
 refine c (E:=nZ _) ⟨fun {fps δ f H'} o z=>?_,fun o (z:False)=>z.elim,fun o (z:False)=>z.elim,fun o r i z=>?_⟩ o (hd ds _ h)
 .exact z _ H' [] o.b0 ⟨rfl,rfl⟩ Nw.nil
 .exact z _ _ _ o.b0 r ⟨(i rfl).nd,(i rfl).mu,fun a ha=>.inl ((i rfl).nw a ha)⟩
end
end L3
namespace L3
open PySem L2
section
variable {K:aad}{ρ:Bool}{Γr Γl Γ M:aac}{t u:TS}{te t1 t2:TE}{de dx d1 d2:DE}{d e:DS}
variable {B0:Hp}{fps:Nat->List Addr}{δ:Dl}{σ:St}{H H':Hp}
theorem Ok.AA(o:Ok K B0 Γ fps δ σ H){i:Nat}(hi:i∈Γ){d':D}{v:V}{fp':List Addr}(g:σ[i]?=some (some v))(r:Rf K H' d' v fp')(nd:fp'.Nodup)(mu:∀a∈fp',Mu H' a)
  (src:∀a∈fp',a∈fps i\/(B0 a=none/\∀j,a∉fps j)) (q:SB K B0 H') (keep:∀b u,b∉fps i->H b=some u->NT u->H' b=some u) :
  Ok K B0 Γ (fun j=>if j=i then fp' else fps j) (δ.set i (some d')) σ H':=by
 have p:i<δ.length:=by rw[<- o.len];exact (KE.mp g).1
 refine⟨by simp [o.len],q,fun j d e=>?_,fun j h=>?_,fun j hj=>?_,fun j hj k c a ha=>?_⟩
 .by_cases h:j=i
  .subst h
   rw[MR] at e
   simp [p] at e
   subst e
   exact⟨v,g,by rw[if_pos rfl];exact r⟩
  .rw[L5 (MF h)] at e
   obtain ⟨w,t,s⟩:=o.val j d e
   refine⟨w,t,?_⟩
   rw[if_neg h]
   exact s.mn (fun a ha u e n=>keep a u (fun z=>o.dj i hi j h a z ha) e n) fun a u e f=>keep a u (fun z=>((o.own i hi).2 a z).2.nu u e f) e (by rcases f with ⟨_,rfl⟩|⟨_,_,rfl⟩|⟨_,_,rfl⟩<;>trivial)
 .by_cases h':j=i
  .subst h'
   exact absurd (by rw[MR];simp [p]) (h d')
  .rw[if_neg h']
   exact o.non j fun d z=>h d (by rw[L5 (MF h')];exact z)
 .by_cases h:j=i
  .subst h
   rw[if_pos rfl]
   refine⟨nd,fun a ha=>⟨?_,mu a ha⟩⟩
   rcases src a ha with z|z
   .exact ((o.own j hi).2 a z).1
   .exact z.1
  .rw[if_neg h]
   refine⟨(o.own j hj).1,fun a ha=>⟨((o.own j hj).2 a ha).1,?_⟩⟩
   have hn:a∉fps i:=fun z=>o.dj i hi j h a z ha
   rcases ((o.own j hj).2 a ha).2 with ⟨x,z⟩|⟨x,z⟩|⟨x,z⟩|⟨C,dx,fs,z⟩
   .exact .inl ⟨x,keep a _ hn z trivial⟩
   .exact .inr (.inl ⟨x,keep a _ hn z trivial⟩)
   .exact .inr (.inr (.inl ⟨x,keep a _ hn z trivial⟩))
   .exact .inr (.inr (.inr ⟨C,dx,fs,keep a _ hn z trivial⟩))
 .by_cases h:j=i
  .subst h
   rw[if_pos rfl] at ha
   rw[if_neg c]
   rcases src a ha with z|z
   .exact o.dj j hi k c a z
   .exact z.2 k
  .rw[if_neg h] at ha
   by_cases m:k=i
   .rw[if_pos m]
    intro z
    rcases src a z with y|y
    .exact o.dj j hj i (MF h) a ha y
    .exact y.2 j ha
   .rw[if_neg m]
    exact o.dj j hj k c a ha
def j3(δ:Dl)(i:Nat)(P:List D->Prop):Prop:=match δ[i]? with|some (some (.lst ds))=>P ds|_=>False
theorem Ok.write(o:Ok K B0 Γ fps δ σ H){i:Nat}(hi:i∈Γ){d':D}{v:V}{fp':List Addr}(c:σ[i]?=some (some v))(r:Rf K H' d' v fp')(nd:fp'.Nodup)(mu:∀a∈fp',Mu H' a)
  (src:∀a∈fp',a∈fps i\/(B0 a=none/\∀j,a∉fps j)) (keep:∀b u,b∉fps i->H b=some u->H' b=some u) :
  Ok K B0 Γ (fun j=>if j=i then fp' else fps j) (δ.set i (some d')) σ H':=o.AA hi c r nd mu src (o.b0.keep (fun a ha=>(o.own i hi).2 a ha) keep) fun b u n e _=>keep b u n e
theorem gk{δ:Dl}{i:Nat}{P:List D->Prop}(h:j3 δ i P):∃ds,δ[i]?=some (some (.lst ds))/\P ds:=by
 unfold j3 at h;split at h
 .exact⟨_,by assumption,h⟩
 .exact h.elim
theorem Ok.yN(o:Ok K B0 Γ fps δ σ H){i:Nat}{ds:List D}(e:δ[i]?=some (some (.lst ds))):∃a xs c,σ[i]?=some (some (.ref a))/\H a=some (.lst xs)/\fps i=a::c/\Rfs K H ds xs c:=by
 obtain ⟨v,j,a,xs,c,rfl,h,g,f⟩:=o.val i _ e
 exact⟨a,xs,c,j,h,g,f⟩
theorem tq{a:Addr}{w:HO}{fp:List Addr}(ha:a∈fp):∀b u,b∉fp->H b=some u->upd H a w b=some u:=fun b u hb e=>by
 rw[aG (fun z=>hb (by rw[z];exact ha))];exact e
def xl(M:aac)(i:Nat)(c:DE)(E:bB)(δ:Dl):Prop:=j3 δ i fun ds=>c δ fun x=>ds.length<1000/\E.nx ((kill M δ).set i (some (.lst (ds++[x]))))
theorem bR(i:Nat)(F:EM K Γ M te de)(hi:i∈Γ/\i∉M:=by decide)(p:∀j∈M,j∈Γ:=by decide):ST K ρ Γr Γl (Am (tBM K "list" CK (eT i) (cY te kP))) Γ (minus Γ M) (xl M i de):=by
 intro B0 Dn E fps δ σ H k o h
 obtain ⟨ds,e,h⟩:=gk h
 obtain ⟨a,xs,t,m,f,g,G⟩:=o.yN e
 refine⟨.ref a,m,.inl ⟨rfl,xs,.inl (.inl f)⟩,F.run o (F.mono _ _ _ (fun x z v Q fp s r n=>?_) h)⟩
 refine⟨a,xs,v,rfl,rfl,s.st _ _ f trivial,by rw[G.length];exact Ml z.1 (l6 (Md _)),?_⟩
 have ok:=(o.kill M).same s
 have P:i∈minus Γ M:=bT.mpr hi
 have L:=o.own i hi.1
 rw[g] at L
 obtain ⟨nd,J⟩:=L
 obtain ⟨na,O⟩:=Mi.mp nd
 have B:∀b∈fp,b≠a/\b∉t:=fun b hb=>by
  have:b∉fps i:=fun z=>by
   rcases n.src b hb with y|⟨j,hj,y⟩
   .exact o.dom z y
   .exact o.dj j (p j hj) i (fun w=>hi.2 (by rw[w];exact hj)) b y z
  rw[g] at this
  exact⟨fun z=>this (by rw[z];exact ox),fun z=>this (Fk _ z)⟩
 have nt:=((J a ox).2.same s).nu
 refine k.nx (ok.write P (d':=.lst (ds++[x])) (fp':=a::(t++fp)) m ⟨a,xs++[v],t++fp,rfl,az,rfl,?_⟩ ?_ (fun b hb=>?_) (fun b hb=>?_) ?_) z.2
 .exact ((G.same s).upd na nt).append ((Rfs.one r).upd (fun w=>(B a w).1 rfl) nt)
 .refine Mi.mpr ⟨fun w=>?_,Mm.mpr ⟨O,n.nd,fun b m c f z=>?_⟩⟩
  .rcases Ma.mp w with w|w
   .exact na w
   .exact (B a w).1 rfl
  .subst z;exact (B b f).2 m
 .refine Mu.upd ?_ (.inl ⟨_,rfl⟩)
  rcases L6.mp hb with w|w
  .subst w;exact .inl ⟨xs,s.st _ _ f trivial⟩
  .rcases Ma.mp w with w|w
   .exact (J b (Fk _ w)).2.same s
   .exact n.mu b w
 .show b∈(if i∈M then [] else fps i)\/_
  rw[if_neg hi.2,g]
  rcases L6.mp hb with w|w
  .subst w;exact .inl ox
  .rcases Ma.mp w with w|w
   .exact .inl (Fk _ w)
   .refine .inr ⟨?_,fun j=>?_⟩
    .rcases n.src b w with y|⟨j,hj,y⟩
     .exact o.b0.free y
     .exact ((o.own j (p j hj)).2 b y).1
    .show b∉(if j∈M then [] else fps j)
     split
     .exact Mo
     .rename_i hj
      intro z
      rcases n.src b w with y|⟨C,I,y⟩
      .exact o.dom z y
      .exact o.dj C (p C I) j (fun q=>hj (by rw[q];exact I)) b y z
 .show ∀b u,b∉(if i∈M then [] else fps i)->_
  rw[if_neg hi.2,g]
  exact tq ox
theorem Rfs.set{H:Hp}{x:D}{v:V}{fp:List Addr}(r:Rf K H x v fp)(nd:fp.Nodup):∀{ds:List D}{xs:List V}{c:List Addr}{j:Nat},Rfs K H ds xs c->c.Nodup->(∀a∈fp,a∉c)->j<ds.length ->
  ∃f,Rfs K H (ds.set j x) (xs.set j v) f/\f.Nodup/\∀a∈f,a∈c\/a∈fp
 |[],xs,c,j,h,_,_,hj=>by simp at hj
 |d::ds,xs,c,j,h,hn,hd,hj=>by
  obtain ⟨y,ys,n,m,rfl,rfl,q,i⟩:=h
  obtain ⟨n1,n2,p⟩:=Mm.mp hn
  cases j with
  |zero =>
   refine⟨fp++m,⟨v,ys,fp,m,rfl,rfl,r,i⟩,Mm.mpr ⟨nd,n2,fun a ha b hb z=>?_⟩,fun a ha=>?_⟩
   .subst z;exact hd a ha (L1 _ hb)
   .exact (Ma.mp ha).elim .inr fun z=>.inl (L1 _ z)
  |succ j =>
   obtain ⟨f,o,s,g⟩:=Rfs.set r nd (j:=j) i n2 (fun a ha z=>hd a ha (L1 _ z)) (by simpa using hj)
   refine⟨n++f,⟨y,ys.set j v,n,f,rfl,rfl,q,o⟩,Mm.mpr ⟨n1,s,fun a ha b hb z=>?_⟩,fun a ha=>?_⟩
   .subst z
    rcases g a hb with w|w
    .exact p a ha a w rfl
    .exact hd a w (Me _ ha)
   .rcases Ma.mp ha with w|w
    .exact .inl (Me _ w)
    .exact (g a w).imp (L1 _) id
theorem Eo{n:Nat}{i:Int}{j:Nat}(h:ixN n i=some j):j<n:=by
 unfold ixN at h
 split at h
 .split at h
  .cases h;omega
  .cases h
 .split at h
  .cases h;omega
  .cases h
theorem bP{x:D}{P:Int->Prop}(h:asI [x] P):∃j,x=.int j/\P j:=by
 obtain ⟨j,e,h⟩:=xc h;cases e;exact⟨j,rfl,h⟩
theorem Rfs.inner{H:Hp}:∀{ds:List D}{xs:List V}{m:List Addr}{j:Nat}{es:List D},Rfs K H ds xs m->m.Nodup->ds[j]?=some (.lst es) ->
  ∃b ys i,xs[j]?=some (.ref b)/\H b=some (.lst ys)/\Rfs K H es ys i/\b∈m/\(∀a∈i,a∈m)/\b∉i/\i.Nodup /\
   ∀{H':Hp}{es':List D}{p:List V}{f:List Addr},(∀c u,c≠b->H c=some u->H' c=some u)->H' b=some (.lst p)->(∀u,H b=some u->¬ Im u)->Rfs K H' es' p f->f.Nodup->b∉f->(∀a∈f,a∈i\/a∉m) ->
    ∃o,Rfs K H' (ds.set j (.lst es')) xs o/\o.Nodup/\∀a∈o,a∈m\/a∈f
 |[],xs,m,j,es,h,_,e=>by simp at e
 |d::ds,xs,m,j,es,h,hn,e=>by
  obtain ⟨y,ys,B,F,rfl,rfl,E,C⟩:=h
  obtain ⟨n1,n2,n⟩:=Mm.mp hn
  cases j with
  |zero =>
   simp at e;subst e
   obtain ⟨b,r,i,rfl,hb,rfl,x⟩:=E
   obtain ⟨M,L⟩:=Mi.mp n1
   refine⟨b,r,i,rfl,hb,x,Me _ ox,fun a ha=>Me _ (Fk _ ha),M,L,fun {H' es' p f} k1 k2 k3 t k5 s q=>?_⟩
   refine⟨(b::f)++F,⟨_,ys,b::f,F,rfl,rfl,⟨b,p,f,rfl,k2,rfl,t⟩,?_⟩,Mm.mpr ⟨Mi.mpr ⟨s,k5⟩,n2,fun a ha c g z=>?_⟩,fun a ha=>?_⟩
   .exact C.mono (fun c g u e=>k1 c u (fun z=>n b ox c g z.symm) e) fun c u e v=>k1 c u (fun z=>k3 u (by rw[<- z];exact e) v) e
   .subst z
    rcases L6.mp ha with w|w
    .exact n a (by rw[w];exact ox) a g rfl
    .rcases q a w with w|w
     .exact n a (Fk _ w) a g rfl
     .exact w (L1 _ g)
   .rcases Ma.mp ha with w|w
    .rcases L6.mp w with w|w
     .exact .inl (Me _ (by rw[w];exact ox))
     .exact .inr w
    .exact .inl (L1 _ w)
  |succ j =>
   obtain ⟨b,r,i,e1,hb,x,I,G,Q,R,S⟩:=Rfs.inner (j:=j) C n2 (by simpa using e)
   refine⟨b,r,i,by simpa using e1,hb,x,L1 _ I,fun a ha=>L1 _ (G a ha),Q,R,fun {H' es' p f} k1 k2 k3 t k5 s q=>?_⟩
   obtain ⟨o,J,P,s'⟩:=S k1 k2 k3 t k5 s fun a ha=>(q a ha).imp id fun w z=>w (L1 _ z)
   have O:Rf K H' d y B:=E.mono (fun c g u e=>k1 c u (fun z=>n c g b I z) e) fun c u e v=>k1 c u (fun z=>k3 u (by rw[<- z];exact e) v) e
   refine⟨B++o,⟨y,ys,B,o,rfl,rfl,O,J⟩,Mm.mpr ⟨n1,P,fun a ha c g z=>?_⟩,fun a ha=>?_⟩
   .subst z
    rcases s' a g with w|w
    .exact n a ha a w rfl
    .rcases q a w with w|w
     .exact n a ha a (G a w) rfl
     .exact w (Me _ ha)
   .rcases Ma.mp ha with w|w
    .exact .inl (Me _ w)
    .exact (s' a w).imp (L1 _) id
theorem mX(o:Ok K B0 Γ fps δ σ H){i j:Nat}(hi:i∈Γ){ds es es':List D}(e:δ[i]?=some (some (.lst ds)))(I:ds[j]?=some (.lst es)) :
  ∃a xs b ys h,σ[i]?=some (some (.ref a))/\H a=some (.lst xs)/\xs.length=ds.length/\xs[j]?=some (.ref b)/\H b=some (.lst ys)/\Rfs K H es ys h/\h.Nodup/\b∉h/\(∀a∈h,a∈fps i)/\b∈fps i /\
   ∀{q:List V}{m:List Addr},Rfs K H es' q m->m.Nodup->b∉m->(∀c∈m,Mu H c)->(∀c∈m,c∈h\/(B0 c=none/\∀j,c∉fps j))->∃n,Ok K B0 Γ n (δ.set i (some (.lst (ds.set j (.lst es'))))) σ (upd H b (.lst q)):=by
 obtain ⟨a,xs,T,B,t,g,y⟩:=o.yN e
 have E:=o.own i hi
 rw[g] at E
 obtain ⟨M,C⟩:=E
 obtain ⟨na,L⟩:=Mi.mp M
 obtain ⟨b,ys,h,e1,hb,G,p,v,P,Q,S⟩:=y.inner L I
 refine⟨a,xs,b,ys,h,B,t,y.length,e1,hb,G,Q,P,fun c f=>by rw[g];exact Fk _ (v c f),by rw[g];exact Fk _ p,fun {q m} r nd nb mu src=>?_⟩
 have nt:=(C b (Fk _ p)).2.nu
 have R:a≠b:=fun z=>na (by rw[z];exact p)
 obtain ⟨x,F,O,s⟩:=S (H':=upd H b (.lst q)) (fun c u f e=>by rw[aG f];exact e) az nt (r.upd nb nt) nd nb fun c f=>(src c f).imp id fun w z=>w.2 i (by rw[g];exact Fk _ z)
 have J:a∉x:=fun z=>by
  rcases s a z with w|w
  .exact na w
  .rcases src a w with w|w
   .exact na (v a w)
   .exact w.2 i (by rw[g];exact ox)
 refine⟨_,o.write hi (fp':=a::x) B ⟨a,xs,x,rfl,by rw[aG R];exact t,rfl,F⟩ (Mi.mpr ⟨J,O⟩) (fun c f=>Mu.upd ?_ (.inl ⟨_,rfl⟩)) (fun c f=>?_) ?_⟩
 .rcases L6.mp f with w|w
  .subst w;exact .inl ⟨xs,t⟩
  .rcases s c w with w|w
   .exact (C c (Fk _ w)).2
   .exact mu c w
 .rw[g]
  rcases L6.mp f with w|w
  .subst w;exact .inl ox
  .rcases s c w with w|w
   .exact .inl (Fk _ w)
   .rcases src c w with w|w
    .exact .inl (Fk _ (v c w))
    .exact .inr w
 .rw[g];exact tq (Fk _ p)
def pA(o:Option D)(P:List D->Prop):Prop:=match o with|some (.lst es)=>P es|_=>False
theorem lK{o:Option D}{P:List D->Prop}(h:pA o P):∃es,o=some (.lst es)/\P es:=by
 unfold pA at h;split at h
 .exact⟨_,rfl,h⟩
 .exact h.elim
def qB(i:Nat)(g n h:DE)(E:bB)(δ:Dl):Prop:=g δ fun x=>j3 δ i fun ds=>n δ fun k=>asI [k] fun m=>pA (atI ds m) fun es=>h δ fun k2=>asI [k2] fun c=>match ixN ds.length m,ixN es.length c with|some j,some f=>E.nx (δ.set i (some (.lst (ds.set j (.lst (es.set f x))))))|_,_=>False
theorem cU(i:Nat)(O:EM K Γ [] te de)(Q:ER K Γ t1 d1)(P:ER K Γ t2 d2)(hi:i∈Γ:=by decide):ST K ρ Γr Γl (lN te (Eb (tOp (xE K) (eT i) t1) t2 wk)) Γ Γ (qB i de d1 d2):=by
 intro B0 Dn E fps δ σ H k o h
 refine O.run o (O.mono _ _ _ (fun x z v H1 fp s r n=>?_) h)
 obtain ⟨ds,e,z⟩:=gk z
 obtain ⟨a0,xs0,fq0,F,_⟩:=(o.same s).yN e
 refine⟨.ref a0,F,Q.run (o.same s) (Q.mono _ _ _ (fun y z w H2 u r2=>?_) z)⟩
 obtain ⟨m,em,t⟩:=bP z
 subst em
 obtain ⟨es,f,t⟩:=lK t
 cases ejj:ixN ds.length m with
 |none=>unfold atI at f;rw[ejj] at f;cases f
 |some j =>
  have B:=(o.same s).same u
  have W6:ds[j]?=some (.lst es):=by unfold atI at f;rw[ejj] at f;exact f
  obtain ⟨a,xs,b,ys,fe,e1,e2,e3,Z,e5,e6,e7,e8,e9,_,KK⟩:=mX (es':=[]) B hi e W6
  rw[F] at e1;cases e1
  refine⟨a0,xs,m,.ref b,rfl,r2.int,.inl (.inl e2),by unfold atI;rw[e3,ejj];exact Z,P.run B (P.mono _ _ _ (fun y2 z w2 H3 q r3=>?_) t)⟩
  obtain ⟨L,I,g⟩:=bP z
  subst I
  rw[ejj] at g
  cases ej2:ixN es.length L with
  |none=>rw[ej2] at g;exact g.elim
  |some M =>
   rw[ej2] at g
   have J:=B.same q
   obtain ⟨a',Pc,b',Qo,PV,Y,X,f3,U,f5,T,f7,f8,S,G,KK⟩:=mX (es':=es.set M x) J hi e W6
   rw[F] at Y;cases Y
   rw[q.st _ _ e2 trivial] at X;cases X
   rw[Z] at U;cases U
   have r4:=r.same (u.trans q)
   have src:∀c∈fp,B0 c=none/\∀j,c∉fps j:=fun a ha=>⟨o.b0.free (n.fresh a ha),fun j z=>o.dom z (n.fresh a ha)⟩
   obtain ⟨PJ,r',Rn,C⟩:=Rfs.set r4 n.nd T f7 (fun c p z=>(src c p).2 i (S c z)) (Eo ej2)
   have Y4:∀c∈PJ,Mu H3 c:=fun c p=>by
    rcases C c p with w|w
    .exact ((J.own i hi).2 c (S c w)).2
    .exact (n.mu c w).same (u.trans q)
   obtain ⟨R,o'⟩:=KK r' Rn (fun z=>(C b z).elim f8 fun w=>(src b w).2 i G) Y4 (fun c p=>(C c p).imp id fun w=>src c w)
   exact⟨b,Qo,L,M,rfl,r3.int,f5,by rw[T.length];exact ej2,k.nx o' g⟩
def cutD(ds:List D)(lo hi:Option Int):List D:=(ds.drop (HT.sIx ds.length 0 lo)).take (HT.sIx ds.length ds.length hi - HT.sIx ds.length 0 lo)
abbrev DO:=Dl->(Option Int->Prop)->Prop
structure OR(K:aad)(Γ:aac)(t:TO)(d:DO):Prop where
 mono:∀δ (P P':Option Int->Prop),(∀x,P x->P' x)->d δ P->d δ P'
 run:∀{B0 fps δ σ H Q},Ok K B0 Γ fps δ σ H->d δ (fun x=>∀H',Same H H'->Q x H')->t σ H Q
def xg(c:Dl)(P:Option Int->Prop):Prop:=P none
def EN(d:DE)(δ:Dl)(P:Option Int->Prop):Prop:=d δ fun x=>asI [x] fun i=>P (some i)
theorem or_none:OR K Γ Df xg:=⟨fun _ _ _ k h=>k _ h,fun {_ _ _ _ H _} o q=>q H (Same.refl H)⟩
theorem or_some(h:ER K Γ te de):OR K Γ (Je te) (EN de):=⟨fun δ P c k q=>h.mono _ _ _ (fun x z=>by obtain ⟨j,rfl,z⟩:=bP z;exact k _ z) q,
 fun o q=>h.run o (h.mono _ _ _ (fun x z v H' s r=>by obtain ⟨j,rfl,z⟩:=bP z;exact⟨j,r.int,z H' s⟩) q)⟩
def vSl(f:DE)(dl c:DO)(δ:Dl)(P:DK):Prop:=f δ fun x=>dl δ fun l=>c δ fun u=>asL x fun ds=>ds.all D.aQ=true/\P (.lst (cutD ds l u))
theorem HM{ds:List D}{lo hi:Option Int}:Ed (ds.map D.toV) lo hi=(cutD ds lo hi).map D.toV:=by
 unfold Ed cutD
 rw[mo,List.map_take,List.map_drop]
theorem ET{ds:List D}{lo hi:Option Int}(h:ds.all D.aQ=true):(cutD ds lo hi).all D.aQ=true:=by
 unfold cutD
 rw[ML] at h ⊢
 exact fun x c=>h x (List.mem_of_mem_drop (N1 c))
theorem sf{m n:TO}{dl r:DO}(j:ER K Γ te de)(hl:OR K Γ m dl)(i:OR K Γ n r):EM K Γ [] (tSl (JH K) te m n) (vSl de dl r) :=
 ⟨fun δ P E k h=>j.mono _ _ _ (fun x z=>hl.mono _ _ _ (fun l z=>i.mono _ _ _ (fun u z=>by obtain ⟨ds,e,z⟩:=bH z;exact gg e ⟨z.1,k _ z.2⟩) z) z) h,
 fun {B0 fps δ σ H Q} o h=>j.run o (j.mono _ _ _ (fun x z v G f y=>hl.run (o.same f) (hl.mono _ _ _ (fun l z F c=>i.run ((o.same f).same c) (i.mono _ _ _ (fun u z s g=>by
  obtain ⟨ds,e,z⟩:=bH z
  obtain ⟨a,xs,C,rfl,B,hr⟩:=(y.same (c.trans g)).seq e
  obtain ⟨rfl,rfl⟩:=hr.jb z.1
  refine⟨a,_,rfl,B,fun p q=>?_⟩
  rw[HM]
  have t:Same s (upd s p (.lst ((cutD ds l u).map D.toV))):=Same.kj q
  refine z.2 _ _ [p] (((f.trans c).trans g).trans t) ⟨p,_,[],rfl,az,rfl,Rfs.oY (ET z.1)⟩ ⟨by simp,fun b hb=>?_,fun b hb=>?_⟩
  .cases Gc.mp hb;exact .inl ⟨_,az⟩
  .cases Gc.mp hb;exact .inl (((f.trans c).trans g).free q)) z)) z)) h)⟩
def Hy(x:D)(y:D)(P:DK):Prop:=match x,y with|.lst a,.lst b=>(a.all D.aQ=true/\b.all D.aQ=true/\a.length+b.length<=1000)/\P (.lst (a++b))|_,_=>False
theorem KG{H:Hp}{p:Addr}{ds:List D}(h:ds.all D.aQ=true)(c:H p=none):Same H (upd H p (.lst (ds.map D.toV)))/\Rf K (upd H p (.lst (ds.map D.toV))) (.lst ds) (.ref p) [p]/\Nw H (upd H p (.lst (ds.map D.toV))) nf [] [p] :=
 ⟨Same.kj c,⟨p,_,[],rfl,az,rfl,Rfs.oY h⟩,⟨by simp,fun b hb=>by cases Gc.mp hb;exact .inl ⟨_,az⟩,fun b hb=>by cases Gc.mp hb;exact .inl c⟩⟩
theorem Jc:OpV K JV Hy:=⟨fun x y P t k h=>by unfold Hy at h ⊢;revert h;split<;>first|exact fun h=>⟨h.1,k _ h.2⟩|exact id,fun {H x y v w Q} i g h=>by
 unfold Hy at h
 split at h
 .rename_i a b
  obtain ⟨⟨f,c,hl⟩,h⟩:=h
  obtain ⟨s,l1,xs,q,rfl,e1,_,o⟩:=i
  obtain ⟨r,l2,ys,q2,rfl,e2,_,n⟩:=g
  obtain ⟨rfl,_⟩:=o.jb f
  obtain ⟨rfl,_⟩:=n.jb c
  refine⟨l1,l2,_,_,rfl,rfl,e1,e2,by rw[mo,mo];exact l6 hl,fun p m=>?_⟩
  rw[<- Mf]
  obtain ⟨n1,n2,j⟩:=KG (K:=K) (ds:=a++b) (by rw[List.all_append,f,c];rfl) m
  exact h _ _ _ n1 n2 j
 .exact h.elim⟩
def vo(xs:List D)(k:Nat):List D:=(List.replicate k xs).flatten
def Hc(x:D)(y:D)(P:DK):Prop:=match x,y with|.lst a,.int k=>(a.all D.aQ=true/\(-(2 ^ 63)<=k/\k<2 ^ 63)/\a.length*k.toNat<=1000)/\P (.lst (vo a k.toNat))|_,_=>False
theorem I0:OpV K Lq Hc:=⟨fun x y P B k h=>by unfold Hc at h ⊢;revert h;split<;>first|exact fun h=>⟨h.1,k _ h.2⟩|exact id,fun {H x y v w Q} j i h=>by
 unfold Hc at h
 split at h
 .rename_i a n
  obtain ⟨⟨c,⟨s,r⟩,hl⟩,h⟩:=h
  obtain ⟨z,l1,xs,u,rfl,e1,_,t⟩:=j
  obtain ⟨rfl,_⟩:=t.jb c
  refine⟨l1,n,_,rfl,i.int,e1,s,r,by rw[mo];exact l6 hl,fun p o=>?_⟩
  have:(List.replicate n.toNat (a.map D.toV)).flatten=(vo a n.toNat).map D.toV:=by unfold vo;rw[List.map_flatten,List.map_replicate]
  rw[this]
  obtain ⟨n1,n2,m⟩:=KG (K:=K) (ds:=vo a n.toNat) (by
   rw[ML] at c ⊢
   intro x f
   unfold vo at f
   obtain ⟨l,q,g⟩:=List.mem_flatten.mp f
   rw[(List.mem_replicate.mp q).2] at g
   exact c x g) o
  exact h _ _ _ n1 n2 m
 .exact h.elim⟩
def inD(x:D)(ds:List D):Bool:=inV x.toV (ds.map D.toV)
def vIn(c:Bool)(x:D)(y:D)(P:DK):Prop:=x.aQ=true/\asL y fun ds=>ds.all D.aQ=true/\P (.bl (if c then !inD x ds else inD x ds))
theorem jr{d:D}(h:d.aQ=true):ib d.toV=true:=by cases d<;>first|rfl|cases h
theorem Kz{i:Bool}:OpV K (rIn K i) (vIn i):=⟨fun x y P q k h=>⟨h.1,by obtain ⟨ds,e,z⟩:=bH h.2;exact gg e ⟨z.1,k _ z.2⟩⟩,fun {H x y v w Q} c j h=>by
 obtain ⟨g,h⟩:=h
 obtain ⟨ds,e,f,h⟩:=bH h
 obtain ⟨p,c⟩:=c
 obtain ⟨rfl,_⟩:=c.aQ g
 obtain ⟨a,xs,o,rfl,n,hr⟩:=j.seq e
 obtain ⟨rfl,_⟩:=hr.jb f
 refine⟨a,_,rfl,.inl n,jr g,?_,h _ H [] (Same.refl H) ⟨rfl,rfl⟩ Nw.nil⟩
 rw[NL,ML]
 rw[ML] at f
 exact fun y m=>jr (f y m)⟩
def Dv(xs:List D)(P:DK):Prop:=match xs with|[x]=>(match x with|.tup ds=>P (.int ds.length)|x=>asL x fun ds=>P (.int ds.length))|_=>False
theorem Rps.one{H:Hp}{x:D}{vs:List V}(h:Rps K H [x] vs):∃v,vs=[v]/\Rp K H x v:=by
 obtain ⟨fp,y,r,f,g,rfl,_,c,⟨rfl,_⟩⟩:=h
 exact⟨y,rfl,f,c⟩
theorem bJ:n0 K (fun xs H Q=>∃p ys,xs=[.ref p]/\(SqL K H p ys\/SqT K H p ys)/\Q (.int ys.length) H) Dv:=⟨fun xs P i k h=>by
  unfold Dv at h ⊢
  revert h
  split
  .split
   .exact fun h=>k _ h
   .exact fun h=>by obtain ⟨ds,e,z⟩:=bH h;exact gg e (k _ z)
  .exact id,
 fun {H xs vs Q} r h=>by
  unfold Dv at h
  split at h
  .obtain ⟨v,rfl,f⟩:=r.one
   split at h
   .obtain ⟨a,ys,g,rfl,c,hr⟩:=f.tup
    refine⟨a,ys,rfl,.inr c,?_⟩
    rw[hr.length]
    exact h _ H [] (Same.refl H) ⟨rfl,rfl⟩ Nw.nil
   .obtain ⟨ds,e,h⟩:=bH h
    obtain ⟨a,ys,g,rfl,c,hr⟩:=f.seq e
    refine⟨a,ys,rfl,.inl c,?_⟩
    rw[hr.length]
    exact h _ H [] (Same.refl H) ⟨rfl,rfl⟩ Nw.nil
  .exact h.elim⟩
theorem tF{ds:List D}{P:DK}:Dv [.lst ds] P↔P (.int ds.length):=MX
theorem zG{ds:aab}{P:DK}:Dv [.scr ds] P↔P (.int ds.length):=by
 show P (.int ((ds.map D.int).length:Nat))↔_
 rw[mo]
def iZ:List D->Option aab
 |[]=>some []
 |.int i::ds=>(iZ ds).map (i::·)
 |_=>none
theorem jP:∀{ns:aab},iZ (ns.map D.int)=some ns
 |[]=>rfl
 |n::ns=>by rw[Mc,iZ,jP];rfl
theorem wz:∀{ds:List D}{ns:aab},iZ ds=some ns->ds=ns.map D.int
 |[],ns,h=>by cases h;rfl
 |.int i::ds,ns,h=>by
  rw[iZ] at h
  cases e:iZ ds with
  |none=>rw[e] at h;cases h
  |some c=>rw[e] at h;cases h;rw[wz e];rfl
 |.non::_,_,h=>by cases h
 |.bl _::_,_,h=>by cases h
 |.str _::_,_,h=>by cases h
 |.lst _::_,_,h=>by cases h
 |.tup _::_,_,h=>by cases h
 |.dic _::_,_,h=>by cases h
 |.dit _::_,_,h=>by cases h
 |.scr _::_,_,h=>by cases h
theorem Rfs.wm{H:Hp}{ns:aab}{vs:List V}{fp:List Addr}(h:Rfs K H (ns.map D.int) vs fp):vs=ns.map V.int:=by
 have c:(ns.map D.int).all D.aQ=true:=by rw[NL,ML];exact fun _ _=>rfl
 rw[(h.jb c).1,Mz]
 rfl
def Ak(x:D)(P:aab->Prop):Prop:=asL x fun ds=>match iZ ds with|some ns=>P ns|none=>False
theorem fO{x:D}{P:aab->Prop}(h:Ak x P):∃ns,x.items=some (ns.map D.int)/\P ns:=by
 obtain ⟨ds,e,h⟩:=bH h
 cases q:iZ ds with
 |none=>rw[q] at h;exact h.elim
 |some ns=>rw[q] at h;rw[wz q] at e;exact⟨ns,e,h⟩
theorem qx{x:D}{ns:aab}{P:aab->Prop}(e:x.items=some (ns.map D.int))(h:P ns):Ak x P:=by
 refine gg e ?_
 rw[jP];exact h
def HA(xs:List D)(P:DK):Prop:=match xs with|[x]=>Ak x fun ns=>P (.int ns.sum)|_=>False
theorem qd:n0 K (fun xs H Q=>∃(a:Addr) (ns:aab),xs=[.ref a]/\SqL K H a (ns.map V.int)/\Q (.int ns.sum) H) HA:=⟨fun xs P i k h=>by
  unfold HA at h ⊢
  revert h
  split
  .exact fun h=>by obtain ⟨ns,e,z⟩:=fO h;exact qx e (k _ z)
  .exact id,
 fun {H xs vs Q} r h=>by
  unfold HA at h
  split at h
  .obtain ⟨v,rfl,f⟩:=r.one
   obtain ⟨ns,e,h⟩:=fO h
   obtain ⟨a,ys,g,rfl,c,hr⟩:=f.seq e
   rw[hr.wm] at c
   exact⟨a,ns,rfl,c,h _ H [] (Same.refl H) ⟨rfl,rfl⟩ Nw.nil⟩
  .exact h.elim⟩
def Aa(xs:List D)(P:DK):Prop:=match xs with|[x]=>asL x fun ds=>ds.all D.aQ=true/\P (.lst ds)|_=>False
theorem mK:n0 K (fun xs H Q=>∃p ys,xs=[.ref p]/\(SqL K H p ys\/SqT K H p ys)/\∀l,H l=none->Q (.ref l) (upd H l (.lst ys))) Aa:=⟨fun xs P m k h=>by
  unfold Aa at h ⊢
  revert h
  split
  .exact fun h=>by obtain ⟨ds,e,z⟩:=bH h;exact gg e ⟨z.1,k _ z.2⟩
  .exact id,
 fun {H xs vs Q} r h=>by
  unfold Aa at h
  split at h
  .obtain ⟨v,rfl,f⟩:=r.one
   obtain ⟨ds,e,c,h⟩:=bH h
   obtain ⟨a,ys,j,rfl,i,hr⟩:=f.seq e
   obtain ⟨rfl,_⟩:=hr.jb c
   refine⟨a,_,rfl,.inl i,fun l hl=>?_⟩
   obtain ⟨n1,n2,g⟩:=KG (K:=K) c hl
   exact h _ _ _ n1 n2 g
  .exact h.elim⟩
end
end L3
namespace L3
open PySem L2
open PyProof.Rows (Ordered)
section
variable {K:aad}{Γ:aac}{te ta tb:TE}{de da db:DE}
theorem bx{c:TI}{f:DI}{g:TG}{h:D->Dl->(Dl->Prop)->Prop}{k:Nat}{idx:aac}(hi:IT K [] c f)(i:GT K [] g h)(j:EM K [] [] te de):EM K Γ [] (rJ c g te k idx) (pK f h Iw de k idx):=by
 rw[qY];exact nG hi i JL j
def D.tyn:D->Option String
 |.non=>some "NoneType"|.bl _=>some "bool"|.int _=>some "int"|.str _=>some "str"|.lst _=>some "list"|.tup _=>some "tuple"|.dic _=>some "dict"|.dit _=>some "dict"|.scr _=>none|.pin _ _=>none|.mem _=>none|.raw _=>none|.ins _ _ _=>none
theorem Rp.ty{H:Hp}{d:D}{v:V}{n:String}(h:Rp K H d v)(e:d.tyn=some n):nX K H v (.type n):=by
 obtain ⟨fp,h⟩:=h
 cases d with
 |non=>cases e;obtain ⟨rfl,_⟩:=h;exact .non
 |bl b=>cases e;obtain ⟨rfl,_⟩:=h;exact .bl _
 |int b=>cases e;obtain ⟨rfl,_⟩:=h;exact .int _
 |str b=>cases e;obtain ⟨rfl,_⟩:=h;exact .str _
 |lst ds=>cases e;obtain ⟨a,xs,g,rfl,c,_⟩:=h;exact .lst c
 |tup ds=>cases e;obtain ⟨a,xs,rfl,c,_⟩:=h;exact .tup c
 |dic ds=>cases e;obtain ⟨a,rfl,c,_⟩:=h;exact .dK c
 |dit ds=>cases e;obtain ⟨a,rfl,c,_⟩:=h;exact .dT c
 |scr ns=>cases e
 |pin a d=>cases e
 |mem f=>cases e
 |raw w=>cases e
 |ins C ns ds=>cases e
def isB(m n:String):Bool:=m == n || (m == "bool" && n == "int")
def Gq(n:String):Prop:=∀(K:aad) (d:D) (m:String),d.tyn=some m->PySem.W.kitOne K (.type m) (.type n)=some (isB m n)
theorem Ft:Gq "list":=fun K d m e=>by cases d<;>cases e<;>first|exact yV|with_unfolding_all rfl
theorem kit_tuple:Gq "tuple":=fun K d m e=>by cases d<;>cases e<;>first|exact yV|with_unfolding_all rfl
def vIs(n:String)(c:DE)(δ:Dl)(P:DK):Prop:=c δ fun x=>match x.tyn with|some m=>P (.bl (isB m n))|none=>False
theorem wb{n:String}(g:Gq n)(ha:ER K Γ ta da):EM K Γ [] (tCB (fun xs H Q=>∃x n t b,xs=[x,.ty n]/\nX K H x t/\PySem.W.kitOne K t (.type n)=some b/\Q (.bl b) H) (cY ta (cY (tC (.ty n)) kP))) (vIs n da) :=
 ⟨fun δ P p k h=>ha.mono _ _ _ (fun x z=>by
   revert z;split
   .exact fun z=>k _ z
   .exact id) h,
 fun {B0 fps δ j H Q} o h=>ha.run o (ha.mono _ _ _ (fun x z v i c f=>by
   split at z
   .rename_i m e
    exact⟨v,n,_,_,rfl,f.ty e,g K x m e,z _ i [] c ⟨rfl,rfl⟩ Nw.nil⟩
   .exact z.elim) h)⟩
mutual
def D.old:D->Option L2.D
 |.non=>some .non|.bl b=>some (.bl b)|.int i=>some (.int i)|.str x=>some (.str x)
 |.lst ds=>(D.olds ds).map L2.D.lst|.tup ds=>(D.olds ds).map L2.D.tup
 |.dic _=>none|.dit _=>none|.scr _=>none|.pin _ _=>none|.mem _=>none|.raw _=>none|.ins _ _ _=>none
def D.olds:List D->Option (List L2.D)
 |[]=>some []
 |d::ds=>match D.old d,D.olds ds with|some x,some xs=>some (x::xs)|_,_=>none
end
mutual
theorem Rf.old{H:Hp}:∀{d:D}{d':L2.D}{v:V}{fp:List Addr},Rf K H d v fp->d.old=some d'->L2.Rf H d' v fp
 |.non,d',v,fp,h,e=>by rw[D.old] at e;cases e;rw[L2.Rf];exact h
 |.bl _,d',v,fp,h,e=>by rw[D.old] at e;cases e;rw[L2.Rf];exact h
 |.int _,d',v,fp,h,e=>by rw[D.old] at e;cases e;rw[L2.Rf];exact h
 |.str _,d',v,fp,h,e=>by rw[D.old] at e;cases e;rw[L2.Rf];exact h
 |.lst ds,d',v,fp,h,e=>by
  rw[D.old] at e
  cases q:D.olds ds with
  |none=>rw[q] at e;cases e
  |some es =>
   rw[q] at e;cases e
   obtain ⟨a,xs,i,e1,e2,n,h⟩:=h
   rw[L2.Rf]
   exact⟨a,xs,i,e1,e2,n,Rfs.old h q⟩
 |.tup ds,d',v,fp,h,e=>by
  rw[D.old] at e
  cases q:D.olds ds with
  |none=>rw[q] at e;cases e
  |some es =>
   rw[q] at e;cases e
   obtain ⟨a,xs,e1,e2,h⟩:=h
   rw[L2.Rf]
   exact⟨a,xs,e1,e2,Rfs.old h q⟩
 |.dic _,d',v,fp,h,e=>by rw[D.old] at e;cases e
 |.dit _,d',v,fp,h,e=>by rw[D.old] at e;cases e
 |.scr _,d',v,fp,h,e=>by rw[D.old] at e;cases e
 |.pin _ _,d',v,fp,h,e=>by rw[D.old] at e;cases e
 |.mem _,d',v,fp,h,e=>by rw[D.old] at e;cases e
 |.raw _,d',v,fp,h,e=>by rw[D.old] at e;cases e
 |.ins _ _ _,d',v,fp,h,e=>by rw[D.old] at e;cases e
theorem Rfs.old{H:Hp}:∀{ds:List D}{c:List L2.D}{vs:List V}{fp:List Addr},Rfs K H ds vs fp->D.olds ds=some c->L2.Rfs H c vs fp
 |[],c,vs,fp,h,e=>by rw[D.olds] at e;cases e;rw[L2.Rfs];exact h
 |d::ds,c,vs,fp,h,e=>by
  rw[D.olds] at e
  obtain ⟨x,r,m,j,e1,e2,g,f⟩:=h
  cases q1:d.old with
  |none=>rw[q1] at e;simp at e
  |some o =>
   cases q2:D.olds ds with
   |none=>rw[q1,q2] at e;simp at e
   |some p =>
    rw[q1,q2] at e
    cases e
    rw[L2.Rfs]
    exact⟨x,r,m,j,e1,e2,Rf.old g q1,Rfs.old f q2⟩
end
abbrev dI(xs:aab):D:=.lst (xs.map D.int)
abbrev dT(t:aaa):D:=.lst (t.map dI)
def GA(c:Bool)(x:D)(y:D)(P:DK):Prop:=∃a b,x.old=some (.lst a)/\y.old=some (.lst b)/\L2.D.eG a=true/\L2.D.eG b=true/\L2.D.gf a<=60/\P (.bl (if c then !L2.D.l9 a b else L2.D.l9 a b))
theorem za{m:Bool}:OpV K (G3 m) (GA m):=⟨fun x y P r k h=>by
  obtain ⟨a,b,j,i,g,f,c,h⟩:=h
  exact⟨a,b,j,i,g,f,c,k _ h⟩,
 fun {H x y v w Q} ⟨q,o⟩ ⟨p,n⟩ h=>by
  obtain ⟨a,b,j,i,g,f,c,h⟩:=h
  exact⟨a,b,⟨q,o.old j⟩,⟨p,n.old i⟩,g,f,c,h _ H [] (Same.refl H) ⟨rfl,rfl⟩ Nw.nil⟩⟩
theorem G6:OpV K (G3 false) (GA false):=za
theorem tG:OpV K (G3 true) (GA true):=za
theorem wR:∀{ns:aab},D.olds (ns.map D.int)=some (ns.map L2.D.int)
 |[]=>by rw[N8,D.olds];rfl
 |n::ns=>by rw[Mc,D.olds,wR,D.old];rfl
theorem A3{ns:aab}:(dI ns).old=some (L2.dI ns):=by rw[D.old,wR];rfl
theorem wF:∀{t:aaa},D.olds (t.map dI)=some (t.map L2.dI)
 |[]=>by rw[N8,D.olds];rfl
 |n::ns=>by rw[Mc,D.olds,wF,A3];rfl
theorem FA{t:aaa}:(dT t).old=some (L2.dT t):=by rw[D.old,wF];rfl
theorem fB{c:Bool}{xs ys:aab}{P:DK}(h:P (.bl (if c then !decide (xs=ys) else decide (xs=ys)))):GA c (dI xs) (dI ys) P :=
 ⟨_,_,A3,A3,D.kG _,D.kG _,by rw[D.mv];omega,by rw[D.qz];exact h⟩
theorem wu{c:Bool}{xs ys:aaa}{P:DK}(h:P (.bl (if c then !decide (xs=ys) else decide (xs=ys)))):GA c (dT xs) (dT ys) P :=
 ⟨_,_,FA,FA,D.mM _,D.mM _,Mx (D.rT _) (by omega),by rw[D.wg];exact h⟩
def ny(b:Bool)(xs:List D)(P:DK):Prop:=match xs with|[x]=>Ak x fun ns=>ns.length<64/\∀c:aab,c.Perm ns->Ordered b c->P (dI c)|_=>False
theorem Rf.ofInts{H:Hp}{p:Addr}{c:aab}(e:H p=some (.lst (c.map V.int))):Rf K H (dI c) (.ref p) [p]:=⟨p,_,[],rfl,e,rfl,Rfs.ofInts⟩
theorem Nw.one{H H':Hp}{p:Addr}{xs:List V}(h:H p=none)(e:H' p=some (.lst xs)):Nw H H' nf [] [p]:=⟨by simp,fun b hb=>by cases Gc.mp hb;exact .inl ⟨_,e⟩,fun b hb=>by cases Gc.mp hb;exact .inl h⟩
theorem xH{u:TA}{i:DA}{b:Bool}(hr:AR K Γ u i):EM K Γ [] (LG (fun xs m H Q=>∃(a:Addr) (ns:aab) (b:Bool),xs=[.ref a]/\m=[.bl b]/\SqL K H a (ns.map V.int)/\ns.length<64 /\
  ∀(l:Addr) (c:aab),H l=none->c.Perm ns->Ordered b c->Q (.ref l) (upd H l (.lst (c.map V.int)))) u (cY (tC (.bl b)) kP)) (rY (ny b) i):=by
 have mono:bt (ny b):=fun xs P x k h=>by
  unfold ny at h ⊢
  revert h
  split
  .exact fun h=>by obtain ⟨ns,e,z⟩:=fO h;exact qx e ⟨z.1,fun c a b=>k _ (z.2 c a b)⟩
  .exact id
 refine⟨fun δ P x k h=>hr.mono _ _ _ (fun y z=>mono _ _ _ k z) h,fun {B0 fps δ B H Q} o q=>hr.run o (hr.mono _ _ _ (fun xs z vs j f p=>?_) q)⟩
 unfold ny at z
 split at z
 .obtain ⟨v,rfl,r⟩:=p.one
  obtain ⟨ns,e,z⟩:=fO z
  obtain ⟨a,ys,C,rfl,g,hr⟩:=r.seq e
  rw[hr.wm] at g
  refine⟨a,ns,b,rfl,rfl,g,z.1,fun l c hl s t=>?_⟩
  have n:Same j (upd j l (.lst (c.map V.int))):=Same.kj hl
  exact z.2 c s t _ _ [l] (f.trans n) (Rf.ofInts az) ((Nw.one hl az).any.later f)
 .exact z.elim
def D.uZ:D->Bool|.non=>true|.raw w=>decide (w=.non)|_=>false
theorem Rp.CD{H:Hp}{d:D}{v:V}(h:Rp K H d v):decide (v=.non)=d.uZ:=by
 obtain ⟨fp,h⟩:=h
 cases d with
 |non=>obtain ⟨rfl,_⟩:=h;rfl
 |bl b=>obtain ⟨rfl,_⟩:=h;rfl
 |int b=>obtain ⟨rfl,_⟩:=h;rfl
 |str b=>obtain ⟨rfl,_⟩:=h;rfl
 |lst ds=>obtain ⟨a,xs,c,rfl,_⟩:=h;rfl
 |tup ds=>obtain ⟨a,xs,rfl,_⟩:=h;rfl
 |dic ds=>obtain ⟨a,rfl,_⟩:=h;rfl
 |dit ds=>obtain ⟨a,rfl,_⟩:=h;rfl
 |scr ns=>obtain ⟨a,rfl,_⟩:=h;rfl
 |pin a d=>obtain ⟨rfl,_⟩:=h;rfl
 |mem f=>obtain ⟨a,rfl,_⟩:=h;rfl
 |raw w=>obtain ⟨rfl,_⟩:=h;rfl
 |ins C ns ds=>obtain ⟨a,dx,xs,c,rfl,_⟩:=h;rfl
def zj(c:Bool)(x:D)(y:D)(P:DK):Prop:=match y with|.non=>P (.bl (if c then !x.uZ else x.uZ))|_=>False
theorem wq{f:Bool}:∀x y (P c:DK),(∀z,P z->c z)->zj f x y P->zj f x y c:=fun x y P c k h=>by
 unfold zj at h ⊢;revert h;split<;>first|exact k _|exact id
theorem IX:OpV K (fun x y H Q=>y=.non/\Q (.bl (decide (x=.non))) H) (zj false):=⟨wq,fun {H x y v w Q} f c h=>by
 unfold zj at h
 split at h
 .refine⟨c.choose_spec.1,?_⟩
  rw[f.CD];exact h _ H [] (Same.refl H) ⟨rfl,rfl⟩ Nw.nil
 .exact h.elim⟩
theorem BA:OpV K (fun x y H Q=>y=.non/\Q (.bl (!decide (x=.non))) H) (zj true):=⟨wq,fun {H x y v w Q} f c h=>by
 unfold zj at h
 split at h
 .refine⟨c.choose_spec.1,?_⟩
  rw[f.CD];exact h _ H [] (Same.refl H) ⟨rfl,rfl⟩ Nw.nil
 .exact h.elim⟩
def LC(f c:DE)(δ:Dl)(P:List D->Prop):Prop:=f δ fun x=>c δ fun y=>asL x fun xs=>asL y fun ys=>xs.length=ys.length/\P ((xs.zip ys).map fun p=>.tup [p.1,p.2])
theorem JE(ha:ES K Γ ta da)(hb:ES K Γ tb db):IT K Γ (JC K (cY ta (cY tb kP))) (LC da db) :=
 ⟨fun δ P P' k h=>ha.mono _ _ _ (fun x z=>hb.mono _ _ _ (fun y z=>by
   obtain ⟨xs,e1,z⟩:=bH z;obtain ⟨ys,e2,z⟩:=bH z;exact gg e1 (gg e2 ⟨z.1,k _ z.2⟩)) z) h,
 fun {B0 fps δ σ H R} o h=>ha.run o (ha.mono _ _ _ (fun x z v H1 Y Q r1 n1=>hb.run (o.same Q) (hb.mono _ _ _ (fun y z w H2 X O S n2=>by
  obtain ⟨xs,ex,z⟩:=bH z
  obtain ⟨ys,Z,z⟩:=bH z
  have UX:=r1.same O
  obtain ⟨a,as,fa,rfl,V2,Zu,Wm⟩:=UX.seq ex
  obtain ⟨b,bs,fb,rfl,To,hrb,ZT⟩:=S.seq Z
  refine⟨a,b,rfl,⟨as,V2⟩,⟨bs,To⟩,z.2 (Itz K a b) H2 (Y++X) (Q.trans O) (fun j hj c g=>(Ma.mp g).elim (n1 j hj c) (n2 j hj c)) fun B sB ag T=>?_⟩
  have VA:Rf K B x (.ref a) Y:=UX.mono (fun c g u e=>by rw[ag c (Me _ g)];exact e) T
  have YJ:Rf K B y (.ref b) X:=S.mono (fun c g u e=>by rw[ag c (L1 _ g)];exact e) T
  obtain ⟨a',r,fa',e1,G,RL,_⟩:=VA.seq ex
  obtain ⟨b',q,fb',e2,F,Ub,_⟩:=YJ.seq Z
  cases e1;cases e2
  have n:∀{c:Addr}{I:List V}{m:Hp},SqL K B c I->Same B m->SqL K m c I:=fun h f=>f.seq h
  have la:=RL.length
  have lb:=Ub.length
  have hl:=z.1
  have NB:((xs.zip ys).map fun p=>D.tup [p.1,p.2]).length=xs.length:=by simp [hl]
  refine⟨fun {i m} f hi=>?_,fun {i m u H4 d} f hy hd=>?_,fun {i m} f hi=>?_⟩
  .rw[NB] at hi
   exact⟨r,q,r[i]'(by omega),q[i]'(by omega),n G f,n F f,by simp [la,hi],by simp [lb,<- hl,hi]⟩
  .obtain ⟨p,J,s,rfl,hp,rfl,h1,h2⟩:=hy
   have q1:=h1 r (n G f)
   have q2:=h2 q (n F f)
   obtain ⟨d1,U,e1,M,_⟩:=RL.get' q1
   obtain ⟨d2,E,e2,L,_⟩:=Ub.get' q2
   have ez:(xs.zip ys)[i]?=some (d1,d2):=List.getElem?_zip_eq_some.mpr ⟨e1,e2⟩
   rw[L4,ez] at hd
   cases hd
   have t:Same m (upd m p (.tup [J,s])):=Same.kj hp
   refine⟨t,U++E,⟨p,_,rfl,az,J,[s],U,E,rfl,rfl,(M.same f).same t,s,[],E,[],rfl,(MV _).symm,(L.same f).same t,rfl,rfl⟩,fun c g=>?_⟩
   rcases Ma.mp g with w|w
   .obtain ⟨u,C,_⟩:=M.dom c w;rw[C];intro z;cases z
   .obtain ⟨u,C,_⟩:=L.dom c w;rw[C];intro z;cases z
  .rw[NB] at hi
   exact⟨r,q,n G f,n F f,.inl (by omega)⟩) z)) h)⟩
end
theorem aU{K:aad}{S:DSp}{n:Nat}(c:∀ds P,S ds P->ds.length=n){vs:List V}{H:Hp}{Q:VK}{E:XK}(h:spP K S vs H Q E):vs.length=n:=by
 obtain ⟨ds,⟨fp,r⟩,_,h⟩:=h
 rw[r.length];exact c _ _ h
theorem Ff{g:D->Dl->(Dl->Prop)->Prop}{h:DS}{E:bB}(I:Nat->Dl->Prop){ds:List D}{δ:Dl}(q:I 0 δ)
  (m:∀i d δ (N:Dl->Prop),ds[i]?=some d->I i δ->(∀c,I (i+1) c->N c)->g d δ fun c=>h { nx:=N,ct:=N,bk:=E.nx,rt:=E.rt } c)
  (hd:∀δ,I ds.length δ->E.nx δ):lE g h E ds δ:=by
 have key:∀(n:Nat) (i:Nat) (δ:Dl),ds.length - i=n->i<=ds.length->I i δ->lE g h E (ds.drop i) δ:=by
  intro n
  induction n with
  |zero =>
   intro i δ p o f
   have:i=ds.length:=by omega
   subst this
   rw[NG]
   exact hd δ f
  |succ n ih =>
   intro i δ p o f
   have j:i<ds.length:=by omega
   rw[MO j]
   exact m i _ δ _ (gV j) f fun c h'=>ih (i+1) c (by omega) j h'
 have:=key ds.length 0 δ (by omega) (Nx _) q
 rwa [N2] at this
end L3
namespace L3
open PySem L2
end L3
namespace L3
open PySem
open L2 hiding D Rf Rfs Rp dI dT
section
variable {di:DI}{dg:D->Dl->(Dl->Prop)->Prop}{dt:DT}{de:DE}{k:Nat}{idx:aac}{δ:Dl}{P:DK}
theorem oU{c:Type}{as:List c}{f:c->D}{p:c->Bool}{g:c->D}(m:∀R:List D->Prop,R (as.map f)->di δ R)(hl:as.length<=1000)
  (hb:∀a∈as,∀R:List D->Prop,R (if p a then [g a] else [])->kC dg dt de (eQ k idx δ) (f a) R) (h:P (.lst ((as.filter p).map g))):pK di dg dt de k idx δ P:=by
 refine m _ ⟨by rw[mo];exact hl,?_⟩
 have key:∀(as:List c) (acc:List D),(∀a∈as,∀R:List D->Prop,R (if p a then [g a] else [])->kC dg dt de (eQ k idx δ) (f a) R)->P (.lst (acc++(as.filter p).map g))->vR (kC dg dt de (eQ k idx δ)) (as.map f) acc fun ys=>P (.lst ys):=by
  intro as
  induction as with
  |nil=>intro acc _ h;rw[List.filter_nil,N8,MV] at h;exact h
  |cons a as ih =>
   intro acc hb h
   refine hb a ox _ (ih _ (fun x j=>hb x (Fk _ j)) ?_)
   by_cases i:p a=true
   .rw[if_pos i,MW];rwa [List.filter_cons_of_pos i] at h
   .rw[if_neg i,MV];rwa [List.filter_cons_of_neg i] at h
 exact key as [] hb h
theorem my{c:Type}{as:List c}{f:c->D}{g:c->D}(i:∀R:List D->Prop,R (as.map f)->di δ R)(hl:as.length<=1000)
  (hb:∀a∈as,∀R:List D->Prop,R [g a]->kC dg dt de (eQ k idx δ) (f a) R) (h:P (.lst (as.map g))):pK di dg dt de k idx δ P:=by
 refine oU (p:=fun _=>true) i hl (fun a ha R h=>hb a ha R h) ?_
 rw[List.filter_eq_self.mpr (fun _ _=>rfl)]
 exact h
theorem Bb{ns:aab}{p:Int->Bool}{g:Int->D}(c:∀R:List D->Prop,R (ns.map D.int)->di δ R)(hl:ns.length<=1000)
  (hb:∀n∈ns,∀R:List D->Prop,R (if p n then [g n] else [])->kC dg dt de (eQ k idx δ) (.int n) R) (h:P (.lst ((ns.filter p).map g))):pK di dg dt de k idx δ P:=oU c hl hb h
theorem eY{lo:Int}{n:Nat}{g:Nat->D}(c:∀R:List D->Prop,R (qt lo n)->di δ R)(hl:n<=1000)
  (hb:∀i,i<n->∀R:List D->Prop,R [g i]->kC dg dt de (eQ k idx δ) (.int (lo+(i:Int))) R) (h:P (.lst ((List.range n).map g))):pK di dg dt de k idx δ P :=
 my (as:=List.range n) (f:=fun (k:Nat)=>D.int (lo+(k:Int))) c (by rw[L9];exact hl) (fun a ha=>hb a (Mh.mp ha)) h
theorem rh{lo:Int}{n:Nat}{p:Nat->Bool}{g:Nat->D}(c:∀R:List D->Prop,R (qt lo n)->di δ R)(hl:n<=1000)
  (hb:∀i,i<n->∀R:List D->Prop,R (if p i then [g i] else [])->kC dg dt de (eQ k idx δ) (.int (lo+(i:Int))) R) (h:P (.lst (((List.range n).filter p).map g))):pK di dg dt de k idx δ P :=
 oU (as:=List.range n) (f:=fun (k:Nat)=>D.int (lo+(k:Int))) c (by rw[L9];exact hl) (fun a ha=>hb a (Mh.mp ha)) h
theorem lB{t:aaa}{g:aab->D}(c:∀R:List D->Prop,R (t.map dI)->di δ R)(hl:t.length<=1000)
  (hb:∀r∈t,∀R:List D->Prop,R [g r]->kC dg dt de (eQ k idx δ) (dI r) R) (h:P (.lst (t.map g))):pK di dg dt de k idx δ P:=my c hl hb h
variable {db:DS}{E:bB}
theorem cO{h:Type}{as:List h}{f:h->D}(I:Nat->Dl->Prop)(n:I 0 δ)
  (j:∀i a δ (N:Dl->Prop),as[i]?=some a->I i δ->(∀c,I (i+1) c->N c)->dg (f a) δ fun c=>db { nx:=N,ct:=N,bk:=E.nx,rt:=E.rt } c)
  (hd:∀δ,I as.length δ->E.nx δ):lE dg db E (as.map f) δ:=by
 refine Ff I n (fun i d δ N e g m=>?_) (fun δ g=>hd δ (by rwa [mo] at g))
 rw[L4] at e
 cases q:as[i]? with
 |none=>rw[q] at e;cases e
 |some a=>rw[q] at e;cases e;exact j i a δ N q g m
theorem lD{lo:Int}{n:Nat}(I:Nat->Dl->Prop)(p:I 0 δ)
  (j:∀i δ (N:Dl->Prop),i<n->I i δ->(∀c,I (i+1) c->N c)->dg (.int (lo+(i:Int))) δ fun c=>db { nx:=N,ct:=N,bk:=E.nx,rt:=E.rt } c)
  (hd:∀δ,I n δ->E.nx δ):lE dg db E (qt lo n) δ:=by
 refine cO (as:=List.range n) (f:=fun (k:Nat)=>D.int (lo+(k:Int))) I p (fun i a δ N e g m=>?_) (fun δ g=>hd δ (by rwa [L9] at g))
 obtain ⟨o,h⟩:=KE.mp e
 rw[Nn] at h
 subst h
 exact j i δ N (by simpa using o) g m
end
theorem K1{ns:aab}{i:Int}(c:0<=i)(h:i<ns.length):atI (ns.map D.int) i=some (.int (ns.getD i.toNat 0)):=by
 unfold atI ixN
 rw[if_pos c,mo,if_pos h]
 show (ns.map D.int)[i.toNat]?=_
 rw[L4,dz]
 have:i.toNat<ns.length:=by omega
 rw[gV this]
 rfl
theorem bN{ns:aab}:(ns.map D.int).all D.aQ=true:=by rw[NL,ML];exact fun _ _=>rfl
theorem c0{n:Nat}{i:Int}(c:0<=i)(h:i<n):ixN n i=some i.toNat:=by unfold ixN;rw[if_pos c,if_pos h]
theorem uI{ns:aab}{j:Nat}{v:Int}:(ns.map D.int).set j (.int v)=(ns.set j v).map D.int:=(O2 ..).symm
theorem qh{ns:aab}{v:Int}:ns.map D.int++[.int v]=(ns++[v]).map D.int:=by simp
theorem emod_lt{x n:Int}(h:0<n):0<=x % n/\x % n<n:=⟨Int.emod_nonneg x (by omega),Int.emod_lt_of_pos x h⟩
section
variable {P:DK}
def asO(o:Option D)(P:DK):Prop:=match o with|some d=>P d|none=>False
theorem zW{d:D}:asO (some d) P↔P d:=MX
theorem yq{o:Option D}{d:D}(h:o=some d):asO o P↔P d:=by rw[h];rfl
theorem GL{k:Bool}{Q:Bool->Prop}:asB (.bl k) Q↔Q k:=MX
theorem BX{g:Int->Int->D}{i j:Int}:vI0 g (.int i) (.int j) P↔P (g i j):=MX
theorem EV{C:Int->Int->Prop}{g:Int->Int->D}{i j:Int}:vI C g (.int i) (.int j) P↔C i j/\P (g i j):=MX
theorem GW{g:Int->D}{i:Int}:vU g (.int i) P↔P (g i):=MX
theorem BJ{i:Int}{Q:Int->Prop}:asI [.int i] Q↔Q i:=MX
theorem zM{i j:Int}{Q:Int->Int->Prop}:Hh [.int i,.int j] Q↔Q i j:=MX
theorem BS{ds:List D}{Q:List D->Prop}:asL (.lst ds) Q↔Q ds:=MX
theorem CM{ns:aab}{Q:List D->Prop}:asL (.scr ns) Q↔Q (ns.map D.int):=MX
theorem t5{ds:List D}{i:Int}:uH (.lst ds) (.int i) P↔asO (atI ds i) P:=MX
theorem yF{ns:aab}{i:Int}:uH (.scr ns) (.int i) P↔asO (atI (ns.map D.int) i) P:=MX
theorem Ar{ds:List D}{i:Int}:rq (.tup ds) (.int i) P↔asO (atI ds i) P:=MX
theorem zo{ds:List D}:Dv [.tup ds] P↔P (.int ds.length):=MX
theorem zZ{c:Bool}{x:D}:zj c x .non P↔P (.bl (if c then !x.uZ else x.uZ)):=MX
theorem yL{a b:List D}:Hy (.lst a) (.lst b) P↔(a.all D.aQ=true/\b.all D.aQ=true/\a.length+b.length<=1000)/\P (.lst (a++b)):=MX
theorem zr{a:List D}{k:Int}:Hc (.lst a) (.int k) P↔(a.all D.aQ=true/\(-(2 ^ 63)<=k/\k<2 ^ 63)/\a.length*k.toNat<=1000)/\P (.lst (vo a k.toNat)):=MX
theorem vQ{ds:List D}:Aa [.lst ds] P↔ds.all D.aQ=true/\P (.lst ds):=MX
theorem v5{ns:aab}:Aa [.scr ns] P↔P (dI ns):=by
 show ((ns.map D.int).all D.aQ=true/\P _)↔_
 rw[bN];exact⟨fun h=>h.2,fun h=>⟨rfl,h⟩⟩
theorem we{ns:aab}:HA [dI ns] P↔P (.int ns.sum):=by
 show (match iZ (ns.map D.int) with|some ns=>P (.int ns.sum)|none=>False)↔_
 rw[jP]
theorem jn{ns:aab}{Q:aab->Prop}:Ak (dI ns) Q↔Q ns:=by
 show (match iZ (ns.map D.int) with|some ns=>Q ns|none=>False)↔_
 rw[jP]
theorem EA{g:List D->Dl->(Dl->Prop)->Prop}{n:Nat}{ds:List D}{δ:Dl}{Q:Dl->Prop}:CY n g (.tup ds) δ Q↔ds.length=n/\g ds δ Q:=MX
theorem zk{g:D->Dl->(Dl->Prop)->Prop}{f:List D->Dl->(Dl->Prop)->Prop}{x:D}{xs:List D}{δ:Dl}{Q:Dl->Prop}:FP g f (x::xs) δ Q↔g x δ fun c=>f xs c Q:=MX
theorem B9{δ:Dl}{Q:Dl->Prop}:Jn [] δ Q↔Q δ:=MX
theorem qp{i:Nat}{δ:Dl}{ds:List D}{Q:List D->Prop}(h:δ[i]?=some (some (.lst ds))):j3 δ i Q↔Q ds:=by unfold j3;rw[h]
theorem BP{i:Int}:(D.int i).tyn=some "int":=rfl
theorem Ez{i:Bool}:(D.bl i).tyn=some "bool":=rfl
theorem Cy{i:List D}:(D.lst i).tyn=some "list":=rfl
theorem BM{i:List D}:(D.tup i).tyn=some "tuple":=rfl
theorem Cr{i:Str}:(D.str i).tyn=some "str":=rfl
theorem CJ:D.non.tyn=some "NoneType":=rfl
theorem GO:isB "int" "int" = true:=rfl
theorem E3:isB "int" "bool" = false:=rfl
theorem EE:isB "list" "list" = true:=rfl
theorem GH:isB "tuple" "tuple" = true:=rfl
theorem El:isB "str" "str" = true:=rfl
theorem Fm:isB "bool" "bool" = true:=rfl
theorem Et:isB "bool" "int" = true:=rfl
theorem F7:isB "int" "list" = false:=rfl
theorem F8:isB "NoneType" "list" = false:=rfl
end
end L3
namespace L2
open PySem PySem.Spec PyProof.Rows
section
variable {X:Cx}{K:aad}
theorem qI(B:X.K=K)(y:X.calm=true):je X (.builtin "min") (fun xs H Q=>∃(a:Addr) (ns:aab),xs=[.ref a]/\SqL K H a (ns.map V.int)/\0<ns.length/\∀M,M∈ns->(∀x∈ns,M<=x)->Q (.int M) H):=by
 subst B
 intro g s F H xs us Q I r h
 obtain ⟨a,ns,rfl,z,E,q⟩:=h
 obtain ⟨u,rfl,n⟩:=vals1 r
 obtain rfl:u=Value.ref a:=n
 obtain ⟨O,m,pl,J⟩:=I.list z
 have hi:=lC m
 obtain ⟨c,e⟩:=hi.allInts.items
 have hl:s.heap.IsList a (intItems c):=by rw[<- e];exact pl.isList
 have f:ns=c.toList.map (·.1):=by rw[<- hi.numsOf,<- nums_intItems,<- e]
 have hsz:0<c.size:=by
  have i:=E;rw[f,mo,MU] at i;exact i
 refine min_intList (I.ok.hd y) hl hsz fun v h' G o p=>?_
 obtain ⟨t,rfl⟩:=intItems_at o
 obtain ⟨L,C⟩:=argBest_lt (numAt c) (c.size - 1)
 refine⟨.int _,H,I.kept p,⟨t,rfl⟩,q _ ?_ fun b hb=>?_⟩
 .rw[f,numAt_eq];exact getD_mem (by rw[mo,MU];omega)
 .rw[f] at hb
  obtain ⟨j,hj,rfl⟩:=mem_getD hb
  rw[mo,MU] at hj
  rw[<- numAt_eq];exact C j (by omega)
theorem Ds(B:X.K=K)(y:X.calm=true):je X (.builtin "max") (fun xs H Q=>∃(a:Addr) (ns:aab),xs=[.ref a]/\SqL K H a (ns.map V.int)/\0<ns.length/\∀M,M∈ns->(∀x∈ns,x<=M)->Q (.int M) H):=by
 subst B
 intro g s F H xs us Q I r h
 obtain ⟨a,ns,rfl,z,E,q⟩:=h
 obtain ⟨u,rfl,n⟩:=vals1 r
 obtain rfl:u=Value.ref a:=n
 obtain ⟨O,m,pl,J⟩:=I.list z
 have hi:=lC m
 obtain ⟨c,e⟩:=hi.allInts.items
 have hl:s.heap.IsList a (intItems c):=by rw[<- e];exact pl.isList
 have f:ns=c.toList.map (·.1):=by rw[<- hi.numsOf,<- nums_intItems,<- e]
 have hsz:0<c.size:=by
  have i:=E;rw[f,mo,MU] at i;exact i
 refine max_intList (I.ok.hd y) hl hsz fun v h' G o p=>?_
 obtain ⟨t,rfl⟩:=intItems_at o
 obtain ⟨L,C⟩:=argBest_gt (numAt c) (c.size - 1)
 refine⟨.int _,H,I.kept p,⟨t,rfl⟩,q _ ?_ fun b hb=>?_⟩
 .rw[f,numAt_eq];exact getD_mem (by rw[mo,MU];omega)
 .rw[f] at hb
  obtain ⟨j,hj,rfl⟩:=mem_getD hb
  rw[mo,MU] at hj
  rw[<- numAt_eq];exact C j (by omega)
theorem wW:∀{bs:List Bool}{c:List Value},Vals (bs.map V.bl) c->LSm.BoolsAre c bs
 |[],_,.nil=>.nil
 |b::bs,_,.cons r t=>by
  cases (show _=Value.bool b from r)
  exact .cons b (wW t)
theorem D4(t:X.K=K)(n:X.calm=true):je X (.builtin "any") (fun xs H Q=>∃(a:Addr) (bs:List Bool),xs=[.ref a]/\SqL K H a (bs.map V.bl)/\Q (.bl (bs.any id)) H):=by
 subst t
 intro c s y H xs us Q I r h
 obtain ⟨l,bs,rfl,o,q⟩:=h
 obtain ⟨u,rfl,j⟩:=vals1 r
 obtain rfl:u=Value.ref l:=j
 obtain ⟨vs,g,pl,B⟩:=I.list o
 have hb:=wW g
 have hl:=pl.isList
 have x:l<s.heap.objs.size:=by obtain ⟨_,e,_⟩:=hl;exact Heap.lt_size e
 refine PySem.call_any_walk (wpAny_pyIter_list hl ?_)
 refine⟨s.heap.objs.size,[s.heap.objs.size,l],[s.heap.objs.size],vs.toArray.size,_,_,fun i=>(bs[i]?).getD false,rfl,Walks.list (A:=X.A.in1) (I.ok.hd n) _ l (Mr x) vs.toArray,
  ⟨⟨_,Heap.get?_push_size _ rfl,rfl,rfl⟩,hl.push _⟩,fun i v s' C E p f=>?_,fun h' z m=>?_⟩
 .obtain ⟨b,e,rfl⟩:=hb.get i v (by simpa using p)
  simp only[e,M3] at f
  exact wpAny_truthy_bool f
 .have e:((List.range vs.toArray.size).any fun i=>(bs[i]?).getD false)=bs.any id:=by
   rw[Mq,hb.length];exact LSm.range_any bs
  rw[e]
  exact⟨.bl _,H,I.kept (LSm.kept_iter m),rfl,q⟩
def DX(n:Nat):List V:=(List.range n).map fun (k:Nat)=>.int (k:Int)
def zY(g:TE):TE:=fun f H Q=>g f H fun x c=>∃j:Int,x=.int j/\j<=100000/\-(2 ^ 62)<=j/\∀l,c l=none->Q (.ref l) (upd c l (.lst (DX j.toNat)))
theorem zN{e:Expr}{C:TE}{p u pos z:Pos}(U:X.calm=true)(S:Gl X "list")(hm:X.mg "list" = none)(Uq:Gl X "range")(Uj:X.mg "range" = none)(T:PE X e C)
  (E:starEach [Expr.Call (.Name "range" u) [e] [] z] X.env=[(false,eval (.Call (.Name "range" u) [e] [] z) X.env)]:=by rfl) (F:starEach [e] X.env=[(false,eval e X.env)]:=by rfl) :
  PE X (.Call (.Name "list" p) [.Call (.Name "range" u) [e] [] z] [] pos) (zY C):=by
 intro m s L H Q I h
 refine wpAny_Call_Name_kw (gP I S hm boot_list ?_)
 refine MG ?_ E rfl
 rw[E]
 refine Calls.spliced_cons ?_
 refine wpAny_Call_Name_kw (gP I Uq Uj boot_range ?_)
 refine MG ?_ F rfl
 rw[F]
 refine Calls.spliced_cons (thn (T m s L H _ I h) fun v g ⟨x,H1,J,O,j,ex,hj,Z,q⟩=>?_)
 subst ex
 obtain ⟨t,rfl⟩:=O
 refine Calls.spliced_nil (call_range_1 (Calls.spliced_nil ?_))
 have hn:Builtin.Range.rangeSize 0 j 1=(j.toNat:Nat):=by rw[rangeSize_one];split<;>omega
 refine call_list_range (n:=j.toNat) (I.ok.hd U) (IsRange.new ..) (small_one (by omega) (by omega) Z (by omega)) hn (by omega) fun h' M G Y R B Pd=>?_
 have hsz:∀o:Obj,(g.heap.push o).objs.size=g.heap.objs.size+1:=fun o=>Heap.size_push ..
 have k1:∀b o,g.heap.get? b=some o->h'.get? b=some o:=fun b o e=>R b o (Heap.get?_push_of_some _ e)
 have ZD:H1 (g.heap.objs.size+1)=none:=J.hok.fresh (Nd _)
 dsimp only at B ⊢
 rw[hsz] at B ⊢
 have RU:Vals (DX j.toNat) G.toList:=by
  obtain ⟨a1,a2⟩:=Pd
  have key:∀(n:Nat) (f:Nat->V) (c:List Value),c.length=n->(∀i v,c[i]?=some v->RelV (f i) v)->Vals ((List.range n).map f) c:=by
   intro n
   induction n with
   |zero=>intro f c r y;cases c with|nil=>exact .nil|cons _ _=>simp at r
   |succ n ih =>
    intro f c r y
    cases c with
    |nil=>simp at r
    |cons v vs =>
     rw[List.range_succ_eq_map,Mc,Mz]
     exact .cons (y 0 v rfl) (ih (f ∘ Nat.succ) vs (by simpa using r) fun i w e=>y (i+1) w (by simpa using e))
  refine key _ _ _ (by simpa using a1) fun i v e=>?_
  obtain ⟨t,P⟩:=a2 i v (by simpa using e)
  exact⟨t,by rw[P];simp⟩
 refine⟨.ref (g.heap.objs.size+1),_,J.laid (t':=M) (o:=.lst (DX j.toNat)) k1 (Nd _) ⟨by unfold DX;rw[mo,L9];exact small (by omega),G.toList,Y,RU,?_⟩,rfl,q _ ZD⟩
 rw[B]
end
end L2
namespace L2
open PySem PySem.Spec PyProof.Rows
section
end
end L2
namespace L2
open PySem PySem.Spec PyProof.Rows
section
variable {X:Cx}
def nB:List Expr->Option aab
 |[]=>some []
 |.Constant (.int n) _ _::es=>(nB es).map (n::·)
 |_=>none
def FG:aab->TA
 |[]=>kP
 |n::ns=>cY (tC (.int n)) (FG ns)
theorem wx{es:List Expr}:∀{ns:aab},nB es=some ns->PA X es (FG ns):=by
 induction es with
 |nil=>intro ns h;cases h;exact ak
 |cons f es ih =>
  intro ns h
  unfold nB at h
  split at h
  .contradiction
  .rename_i q
   cases q
   cases e:nB es with
   |none=>rw[e] at h;cases h
   |some c =>
    rw[e] at h;cases h
    exact af ar (ih e)
  .cases h
end
end L2
namespace L3
open PySem
open L2 hiding D Rf Rfs Rp dI dT
section
variable {K:aad}{ρ:Bool}{Γr Γl Γ Γn M:aac}{te ta t1:TE}{de da d1:DE}{d e:DS}
variable {B0:Hp}{fps:Nat->List Addr}{δ:Dl}{σ:St}{H H':Hp}
def B4(xs:List D)(P:DK):Prop:=match xs with|[x]=>Ak x fun ns=>0<ns.length/\∀M,M∈ns->(∀x∈ns,M<=x)->P (.int M)|_=>False
def CS(xs:List D)(P:DK):Prop:=match xs with|[x]=>Ak x fun ns=>0<ns.length/\∀M,M∈ns->(∀x∈ns,x<=M)->P (.int M)|_=>False
theorem AB:n0 K (fun xs H Q=>∃(a:Addr) (ns:aab),xs=[.ref a]/\SqL K H a (ns.map V.int)/\0<ns.length/\∀M,M∈ns->(∀x∈ns,M<=x)->Q (.int M) H) B4:=⟨fun xs P m k h=>by
  unfold B4 at h ⊢
  revert h
  split
  .exact fun h=>by obtain ⟨ns,e,z⟩:=fO h;exact qx e ⟨z.1,fun M a b=>k _ (z.2 M a b)⟩
  .exact id,
 fun {H xs vs Q} r h=>by
  unfold B4 at h
  split at h
  .obtain ⟨v,rfl,f⟩:=r.one
   obtain ⟨ns,e,h⟩:=fO h
   obtain ⟨a,ys,j,rfl,c,hr⟩:=f.seq e
   rw[hr.wm] at c
   exact⟨a,ns,rfl,c,h.1,fun M i g=>h.2 M i g _ H [] (Same.refl H) ⟨rfl,rfl⟩ Nw.nil⟩
  .exact h.elim⟩
theorem J4:n0 K (fun xs H Q=>∃(a:Addr) (ns:aab),xs=[.ref a]/\SqL K H a (ns.map V.int)/\0<ns.length/\∀M,M∈ns->(∀x∈ns,x<=M)->Q (.int M) H) CS:=⟨fun xs P m k h=>by
  unfold CS at h ⊢
  revert h
  split
  .exact fun h=>by obtain ⟨ns,e,z⟩:=fO h;exact qx e ⟨z.1,fun M a b=>k _ (z.2 M a b)⟩
  .exact id,
 fun {H xs vs Q} r h=>by
  unfold CS at h
  split at h
  .obtain ⟨v,rfl,f⟩:=r.one
   obtain ⟨ns,e,h⟩:=fO h
   obtain ⟨a,ys,j,rfl,c,hr⟩:=f.seq e
   rw[hr.wm] at c
   exact⟨a,ns,rfl,c,h.1,fun M i g=>h.2 M i g _ H [] (Same.refl H) ⟨rfl,rfl⟩ Nw.nil⟩
  .exact h.elim⟩
def iC:List D->Option (List Bool)
 |[]=>some []
 |.bl i::ds=>(iC ds).map (i::·)
 |_=>none
theorem kE:∀{ns:List Bool},iC (ns.map D.bl)=some ns
 |[]=>rfl
 |n::ns=>by rw[Mc,iC,kE];rfl
theorem t6:∀{ds:List D}{ns:List Bool},iC ds=some ns->ds=ns.map D.bl
 |[],ns,h=>by cases h;rfl
 |.bl i::ds,ns,h=>by
  rw[iC] at h
  cases e:iC ds with
  |none=>rw[e] at h;cases h
  |some c=>rw[e] at h;cases h;rw[t6 e];rfl
 |.non::_,_,h=>by cases h
 |.int _::_,_,h=>by cases h
 |.str _::_,_,h=>by cases h
 |.lst _::_,_,h=>by cases h
 |.tup _::_,_,h=>by cases h
 |.dic _::_,_,h=>by cases h
 |.dit _::_,_,h=>by cases h
 |.scr _::_,_,h=>by cases h
def IJ(x:D)(P:List Bool->Prop):Prop:=asL x fun ds=>match iC ds with|some ns=>P ns|none=>False
theorem yx{x:D}{P:List Bool->Prop}(h:IJ x P):∃ns,x.items=some (ns.map D.bl)/\P ns:=by
 obtain ⟨ds,e,h⟩:=bH h
 cases q:iC ds with
 |none=>rw[q] at h;exact h.elim
 |some ns=>rw[q] at h;rw[t6 q] at e;exact⟨ns,e,h⟩
theorem HV{x:D}{ns:List Bool}{P:List Bool->Prop}(e:x.items=some (ns.map D.bl))(h:P ns):IJ x P:=by
 refine gg e ?_
 rw[kE];exact h
theorem Rfs.Jz{ns:List Bool}{vs:List V}{fp:List Addr}(h:Rfs K H (ns.map D.bl) vs fp):vs=ns.map V.bl:=by
 have c:(ns.map D.bl).all D.aQ=true:=by rw[NL,ML];exact fun _ _=>rfl
 rw[(h.jb c).1,Mz]
 rfl
def L0(xs:List D)(P:DK):Prop:=match xs with|[x]=>IJ x fun ns=>P (.bl (ns.all id))|_=>False
def G8(xs:List D)(P:DK):Prop:=match xs with|[x]=>IJ x fun ns=>P (.bl (ns.any id))|_=>False
theorem Kr:n0 K (fun xs H Q=>∃(a:Addr) (bs:List Bool),xs=[.ref a]/\SqL K H a (bs.map V.bl)/\Q (.bl (bs.any id)) H) G8:=⟨fun xs P i k h=>by
  unfold G8 at h ⊢
  revert h
  split
  .exact fun h=>by obtain ⟨ns,e,z⟩:=yx h;exact HV e (k _ z)
  .exact id,
 fun {H xs vs Q} r h=>by
  unfold G8 at h
  split at h
  .obtain ⟨v,rfl,f⟩:=r.one
   obtain ⟨ns,e,h⟩:=yx h
   obtain ⟨a,ys,g,rfl,c,hr⟩:=f.seq e
   rw[hr.Jz] at c
   exact⟨a,ns,rfl,c,h _ H [] (Same.refl H) ⟨rfl,rfl⟩ Nw.nil⟩
  .exact h.elim⟩
theorem uM{ns:List Bool}{P:DK}:L0 [.lst (ns.map D.bl)] P↔P (.bl (ns.all id)):=by
 show (match iC (ns.map D.bl) with|some ns=>P (.bl (ns.all id))|none=>False)↔_
 rw[kE]
theorem ux{ns:List Bool}{P:DK}:G8 [.lst (ns.map D.bl)] P↔P (.bl (ns.any id)):=by
 show (match iC (ns.map D.bl) with|some ns=>P (.bl (ns.any id))|none=>False)↔_
 rw[kE]
theorem oE{ns:aab}{P:DK}:B4 [dI ns] P↔0<ns.length/\∀M,M∈ns->(∀x∈ns,M<=x)->P (.int M):=jn
theorem tS{ns:aab}{P:DK}:CS [dI ns] P↔0<ns.length/\∀M,M∈ns->(∀x∈ns,x<=M)->P (.int M):=jn
def Ih(n:Nat):aab:=(List.range n).map fun (k:Nat)=>(k:Int)
def uq(c:DE)(δ:Dl)(P:DK):Prop:=c δ fun x=>asI [x] fun j=>(j<=100000/\-(2 ^ 62)<=j)/\P (dI (Ih j.toNat))
theorem Bc(f:ER K Γ te de):EM K Γ [] (zY te) (uq de) :=
 ⟨fun δ P q k h=>f.mono _ _ _ (fun x z=>by obtain ⟨j,rfl,z⟩:=bP z;exact⟨z.1,k _ z.2⟩) h,
 fun {B0 fps δ σ H Q} o h=>f.run o (f.mono _ _ _ (fun x z v i g n=>by
  obtain ⟨j,p,c⟩:=bP z
  subst p
  refine⟨j,n.int,c.1.1,c.1.2,fun l hl=>?_⟩
  have e:DX j.toNat=(Ih j.toNat).map V.int:=by unfold DX Ih;rw[Mz];rfl
  rw[e]
  have m:Same i (upd i l (.lst ((Ih j.toNat).map V.int))):=Same.kj hl
  exact c.2 _ _ [l] (g.trans m) (Rf.ofInts az) ((Nw.one hl az).any.later g)) h)⟩
theorem Ok.dead(o:Ok K B0 Γ fps δ σ H)(j:Nat)(v:V)(hj:j∉Γ):Ok K B0 Γ (fun i=>if i=j then [] else fps i) (δ.set j none) (σ.set j (some v)) H:=by
 refine⟨by simp [o.len],o.b0,fun i d e=>?_,fun i h=>?_,fun i hi=>?_,fun i hi k c a ha=>?_⟩
 .by_cases h:i=j
  .subst h
   rw[MR] at e
   by_cases hl:i<δ.length
   .simp [hl] at e
   .simp [hl] at e
  .rw[L5 (MF h)] at e
   rw[L5 (MF h),if_neg h]
   exact o.val i d e
 .by_cases h':i=j
  .rw[if_pos h']
  .rw[if_neg h'];exact o.non i fun d z=>h d (by rw[L5 (MF h')];exact z)
 .have h:i≠j:=fun z=>hj (by rw[<- z];exact hi)
  rw[if_neg h];exact o.own i hi
 .have h:i≠j:=fun z=>hj (by rw[<- z];exact hi)
  rw[if_neg h] at ha
  split
  .exact Mo
  .exact o.dj i hi k c a ha
theorem IL{o:Option D}{P:DK}(h:asO o P):∃d,o=some d/\P d:=by
 unfold asO at h;split at h
 .exact⟨_,rfl,h⟩
 .exact h.elim
theorem uO{i j:Nat}{k:EOk K ρ Γr Γl Γn B0 Dn' E'}{Dn:Ends}{R:TS}(p:ER K Γ t1 d1)(hi:i∈Γ)(hj:j∉Γ)(r:i≠j)(o:Ok K B0 Γ fps δ σ H)
  (h:j3 δ i fun ds=>d1 δ fun k=>asI [k] fun m=>(0<=m/\j<δ.length)/\pA (ds[m.toNat]?) fun es=>∀(a0 b:Addr) xs σ' H' fps',Ok K B0 Γ fps' (δ.set j none) σ' H'->(δ.set j none)[i]?=some (some (.lst ds))->ds[m.toNat]?=some (.lst es)->σ'[i]?=some (some (.ref a0))->H' a0=some (.lst xs)->xs[m.toNat]?=some (.ref b)->σ'[j]?=some (some (.ref b))->R Dn σ' H') :
  lN (tOp (xE K) (eT i) t1) (gn j) { Dn with nx:=R Dn } σ H:=by
 obtain ⟨ds,e,h⟩:=gk h
 obtain ⟨a0,xs0,fq0,f,_⟩:=o.yN e
 refine⟨.ref a0,f,p.run o (p.mono _ _ _ (fun y z w O t u=>?_) h)⟩
 obtain ⟨m,em,c⟩:=bP z
 subst em
 obtain ⟨⟨B,C⟩,c⟩:=c
 obtain ⟨es,g,s⟩:=lK c
 have n:=o.same t
 have M:=(KE.mp g).1
 obtain ⟨a,xs,b,ys,E,e1,e2,v,q,L,J,I,G,F,x,_⟩:=mX (es':=[]) n hi e g
 rw[f] at e1;cases e1
 refine⟨a0,xs,m,.ref b,rfl,u.int,.inl (.inl e2),by unfold atI;rw[c0 B (by rw[v];omega)];exact q,?_⟩
 exact s a0 b xs _ _ _ (n.dead j (.ref b) hj) (by rw[L5 (MF r)];exact e) g (by rw[L5 (MF r)];exact f) e2 q (by rw[MR];simp [o.len,C])
theorem F5{i:Nat}{ds:List D}{Q:List D->Prop}(e:δ[i]?=some (some (.lst ds)))(h:Q ds):j3 δ i Q:=(qp e).mpr h
theorem pB{o:Option D}{es:List D}{Q:List D->Prop}(e:o=some (.lst es))(h:Q es):pA o Q:=by rw[e];exact h
theorem JZ{ds:List D}{xs:List V}{c:List Addr}{p:Addr}(h:Rfs K H ds xs c)(f:H p=none):Same H (upd H p (.lst xs))/\Rp K (upd H p (.lst xs)) (.lst ds) (.ref p) :=
 have s:Same H (upd H p (.lst xs)):=Same.kj f
 ⟨s,p::c,p,xs,c,rfl,az,rfl,h.same s⟩
def Lg(x y:D)(P:DK):Prop:=match x,y with|.lst a,.lst b=>a.length+b.length<=1000/\P (.lst (a++b))|_,_=>False
theorem wA{a b:List D}{P:DK}:Lg (.lst a) (.lst b) P↔a.length+b.length<=1000/\P (.lst (a++b)):=MX
def K9(x y:D)(P:DK):Prop:=match x,y with|.lst a,.int k=>((-(2 ^ 63)<=k/\k<2 ^ 63)/\a.length*k.toNat<=1000)/\P (.lst (vo a k.toNat))|_,_=>False
theorem wQ{a:List D}{k:Int}{P:DK}:K9 (.lst a) (.int k) P↔((-(2 ^ 63)<=k/\k<2 ^ 63)/\a.length*k.toNat<=1000)/\P (.lst (vo a k.toNat)):=MX
def Ky(xs:List D)(P:DK):Prop:=match xs with|[x]=>asL x fun ds=>P (.lst ds)|_=>False
theorem uW{ds:List D}{P:DK}:Ky [.lst ds] P↔P (.lst ds):=MX
theorem Rfs.rev{ds:List D}{xs:List V}{c:List Addr}(h:Rfs K H ds xs c):∃f,Rfs K H ds.reverse xs.reverse f:=by
 induction ds generalizing xs c with
 |nil=>obtain ⟨rfl,rfl⟩:=h;exact⟨[],rfl,rfl⟩
 |cons d ds ih =>
  obtain ⟨x,r,n,m,rfl,rfl,j,i⟩:=h
  obtain ⟨f,g⟩:=ih i
  rw[List.reverse_cons,List.reverse_cons]
  exact⟨_,g.append (Rfs.one j)⟩
def Fv(c:DE)(δ:Dl)(P:DK):Prop:=c δ fun x=>asL x fun ds=>P (.lst ds.reverse)
theorem A6(ha:ER K Γ ta da):ER K Γ (zt K ta) (Fv da) :=
 ⟨fun δ P n k h=>ha.mono _ _ _ (fun x z=>by obtain ⟨ds,e,z⟩:=bH z;exact gg e (k _ z)) h,
 fun {B0 fps δ σ H Q} o h=>ha.run o (ha.mono _ _ _ (fun x z v p c f=>by
  obtain ⟨ds,e,z⟩:=bH z
  obtain ⟨a,xs,j,rfl,g,hr⟩:=f.seq e
  obtain ⟨m,i⟩:=hr.rev
  refine⟨a,_,rfl,g,fun l hl=>?_⟩
  obtain ⟨n1,n2⟩:=JZ i hl
  exact z _ _ (c.trans n1) n2) h)⟩
theorem C6{c:Bool}{i j:Bool}{P:DK}:vA c (.bl i) (.bl j) P↔P (.bl (if c then !decide (i=j) else decide (i=j))):=by
 unfold vA
 simp only[D.aQ,D.toV,aQ,true_and,V.bl.injEq]
theorem zU{c:Bool}{i j:Str}{P:DK}:vA c (.str i) (.str j) P↔P (.bl (if c then !decide (i=j) else decide (i=j))):=by
 unfold vA
 simp only[D.aQ,D.toV,aQ,true_and,V.str.injEq]
end
end L3
namespace L3
open PySem
open L2 hiding D Rf Rfs Rp dI dT
def bc(n m:Nat)(t:aaa):Prop:=t.length=n/\∀r∈t,r.length=m
abbrev rowAt(t:aaa)(i:Nat):aab:=t.getD i []
abbrev cellAt(t:aaa)(i j:Nat):Int:=(t.getD i []).getD j 0
abbrev setCell(t:aaa)(i j:Nat)(v:Int):aaa:=t.set i ((t.getD i []).set j v)
theorem rD{t:aaa}{i:Nat}(h:i<t.length):rowAt t i∈t:=by
 unfold rowAt
 rw[dz,gV h]
 exact MK h
theorem bc.row{n m:Nat}{t:aaa}(h:bc n m t){i:Nat}(hi:i<n):(rowAt t i).length=m:=h.2 _ (rD (by rw[h.1];exact hi))
theorem bc.set{n m:Nat}{t:aaa}(h:bc n m t){i:Nat}{r:aab}(hr:r.length=m):bc n m (t.set i r):=by
 refine⟨by rw[MM];exact h.1,fun x c=>?_⟩
 rcases Oa c with z|z
 .exact h.2 x z
 .rw[z];exact hr
theorem bc.setCell{n m:Nat}{t:aaa}(h:bc n m t){i j:Nat}{v:Int}(hi:i<n):bc n m (setCell t i j v):=h.set (by rw[MM];exact h.row hi)
theorem GG{t:aaa}{i:Nat}(h:i<t.length):(t.map dI)[i]?=some (dI (rowAt t i)):=by
 unfold rowAt
 rw[L4,dz,gV h]
 rfl
theorem IV{t:aaa}{i:Int}(c:0<=i)(h:i<t.length):atI (t.map dI) i=some (dI (rowAt t i.toNat)):=by
 unfold atI
 rw[c0 c (by rw[mo];exact h)]
 exact GG (by omega)
theorem Fx{t:aaa}{i:Nat}{r:aab}:(t.map dI).set i (dI r)=(t.set i r).map dI:=(O2 ..).symm
section
variable {i j:Nat}{δ:Dl}{de d1 d2:DE}{E:bB}{t:aaa}{a b v:Int}
theorem cq(f:δ[i]?=some (some (dT t)))(n:∀R:DK,R (.int v)->de δ R)(m:∀R:DK,R (.int a)->d1 δ R)(g:∀R:DK,R (.int b)->d2 δ R)(ha:0<=a/\a<t.length)(hb:0<=b/\b<(rowAt t a.toNat).length)
  (h:E.nx (δ.set i (some (dT (setCell t a.toNat b.toNat v))))):qB i de d1 d2 E δ:=by
 unfold qB
 refine n _ ((qp f).mpr (m _ ?_))
 show pA (atI (t.map dI) a) _
 rw[IV ha.1 ha.2]
 refine g _ ?_
 show match ixN (t.map dI).length a,ixN ((rowAt t a.toNat).map D.int).length b with|some j,some c=>E.nx (δ.set i (some (.lst ((t.map dI).set j (.lst (((rowAt t a.toNat).map D.int).set c (.int v)))))))|_,_=>False
 rw[c0 ha.1 (by rw[mo];exact ha.2),c0 hb.1 (by rw[mo];exact hb.2)]
 show E.nx (δ.set i (some (.lst ((t.map dI).set a.toNat (.lst (((rowAt t a.toNat).map D.int).set b.toNat (.int v)))))))
 rw[uI,Fx];exact h
end
theorem aP{r:aab}{a:Int}{P:DK}(ha:0<=a/\a<r.length)(h:P (.int (r.getD a.toNat 0))):asO (atI (r.map D.int) a) P:=(yq (K1 ha.1 ha.2)).mpr h
theorem bK{t:aaa}{a:Int}{P:DK}(ha:0<=a/\a<t.length)(h:P (dI (rowAt t a.toNat))):asO (atI (t.map dI) a) P:=(yq (IV ha.1 ha.2)).mpr h
theorem zL{n:Nat}{x:Int}:vo [D.int x] n=(List.replicate n x).map D.int:=by
 unfold vo
 induction n with
 |zero=>rfl
 |succ n ih=>rw[M8,Oz,ih,M8];rfl
theorem AQ{c:Type}{as:List c}{f:c->aab}:as.map (fun a=>dI (f a))=(as.map f).map dI:=by rw[Mz];rfl
theorem km{c:Type}{as:List c}{f:c->Int}:as.map (fun a=>D.int (f a))=(as.map f).map D.int:=by rw[Mz];rfl
theorem aA{K:aad}{c:aac}{g:TE}{j:DE}{f:TA}{i:DA}(ha:EM K c [] g j)(hr:AM K c [] f i):AM K c [] (cY g f) (rV j i):=gY ha hr (fun _ h=>(nomatch h)) (fun _ h=>(nomatch h))
theorem nK{f:DI}{i:D->Dl->(Dl->Prop)->Prop}{c:DT}{j:DE}{k:Nat}{idx:aac}{δ:Dl}{P:DK}{t:aaa}(m:∀R:List D->Prop,R (t.map dI)->f δ R)(hl:t.length<=1000)
  (hb:∀r∈t,∀R:List D->Prop,R [dI r]->kC i c j (eQ k idx δ) (dI r) R) (h:P (dT t)):pK f i c j k idx δ P:=lB (g:=dI) m hl hb h
theorem KY{a b:aab}:a.map D.int++b.map D.int=(a++b).map D.int:=Mf.symm
def gj(t:aaa)(j:Nat):aab:=t.map fun r=>r.getD j 0
theorem lL{t:aaa}{j:Nat}:(gj t j).length=t.length:=by unfold gj;rw[mo]
end L3
namespace L3
open PySem
open L2 hiding D Rf Rfs Rp dI dT
def F2(ns:aab)(δ:Dl)(P:List D->Prop):Prop:=P (ns.map D.int)
theorem rL{K:aad}{c:aac}:∀{ns:aab},AM K c [] (FG ns) (F2 ns)
 |[]=>⟨fun _ _ _ k h=>k _ h,fun {_ _ _ _ H _} o q=>q [] H [] (Same.refl H) ⟨rfl,rfl⟩ Nw.nil⟩
 |n::ns=>⟨fun _ _ _ k h=>k _ h,fun {B0 fps δ f H Q} o q=>(rL (ns:=ns)).run o fun vs H' fp s r nw=>q (.int n::vs) H' fp s ⟨.int n,vs,[],fp,rfl,rfl,⟨rfl,rfl⟩,r⟩ nw⟩
end L3
namespace L3
open PySem
open L2 hiding D Rf Rfs Rp dI dT
theorem FW{a:D}{ds:List D}:atI (a::ds) 0=some a:=by
 unfold atI;rw[c0 (by omega) (by rw[L8];omega)];rfl
theorem EC{a b:D}{ds:List D}:atI (a::b::ds) 1=some b:=by
 unfold atI;rw[c0 (by omega) (by rw[L8,L8];omega)];rfl
theorem E8{a b c:D}{ds:List D}:atI (a::b::c::ds) 2=some c:=by
 unfold atI;rw[c0 (by omega) (by rw[L8,L8,L8];omega)];rfl
theorem Em{a b c d:D}{ds:List D}:atI (a::b::c::d::ds) 3=some d:=by
 unfold atI;rw[c0 (by omega) (by rw[L8,L8,L8,L8];omega)];rfl
end L3
namespace L2
open PySem PySem.Spec PyProof.Rows
section
variable {prog:Program}{w:World}{A:Around}{E:Value->Shared->Prop}{s:Shared}
theorem wB{it t:Addr}{items:Array Value}(h:t≠it):∀(n i:Nat) (s:Shared) (Q:List Value->Shared->Prop),s.heap.IsListIter it t i->s.heap.IsList t items->i+n<=items.size ->
  (∀h',h'.IsListIter it t (i+n)->Heap.SameBut it s.heap h'->Q ((items.toList.drop i).take n) { s with heap:=h' })->wpAny (model prog w) A (draw (.ref it) n) Q E s
 |0,i,s,Q,f,_,_,c=>by
  show wpAny _ _ (pure []) Q E s
  exact wpAny_pure (by simpa using c s.heap f (Heap.SameBut.refl ..))
 |n+1,i,s,Q,f,ht,y,c=>by
  have j:i<items.size:=by omega
  show wpAny _ _ (pyNext (.ref it) >>= _) Q E s
  refine wpAny_bind (wpAny_pyNext_list_item f ht (x:=items[i]) (by simp [j]) fun v u g=>?_)
  have q:v.IsList t items:=ht.at fun o e=>(g.2 t h).trans e
  refine wpAny_bind (wpAny_holding (wB h n (i+1) _ _ u q (by omega) fun r p m=>wpAny_pure ?_))
  have hd:items.toList.drop i=items[i]::items.toList.drop (i+1):=by simp [MO,j]
  have:=c r (by rw[show i+(n+1)=i+1+n by omega];exact p) (g.trans m)
  rw[hd,OY] at this
  exact this
theorem qW{t:Addr}{items:Array Value}{Q:List Value->Shared->Prop}(h:A.handled=none)(ht:s.heap.IsList t items)
  (i:∀h',Heap.ExtBut s.heap.objs.size s.heap h'->Q items.toList { s with heap:=h' }):wpAny (model prog w) A (unpackItems (.ref t) items.size none) Q E s:=by
 have f:t≠s.heap.objs.size:=by obtain ⟨o,g,_⟩:=ht;exact Mr (Heap.lt_size g)
 unfold unpackItems
 refine wpAny_bind ?_
 .unfold notIterableAtAll
  refine wpAny_bind (wpAny_specialOf ht.typeIs PySem.F.slot_list_iter.lookup ?_)
  refine wpAny_pure ?_
  simp only[Nc,if_false]
  refine wpAny_bind (wpAny_holding (wpAny_pyIter_list ht ?_))
  refine wpAny_bind (wpAny_holding (wB f items.size 0 _ _ ⟨_,Heap.get?_push_size _ rfl,rfl,rfl⟩ (ht.push _) (by omega) fun q p c=>?_))
  have r:List.take items.size (List.drop 0 items.toList)=items.toList:=by
   rw[N2];exact Ni (by simp)
  rw[r]
  rw[if_neg (by simp)]
  have m:q.IsList t items:=(ht.push _).at fun o e=>(c.2 t f).trans e
  refine wpAny_bind (wpAny_holding (wpAny_pyNext_list_end h p m (by simp) fun n j=>?_))
  simp only[Option.isSome_none,Nc,if_false]
  refine wpAny_pure (i n fun b o hb e=>j b o hb ((c.2 b hb).trans (Heap.get?_push_of_some _ e)))
theorem ph{env:Env}{c:List Expr}{x1}{pos:Pos}{t:Addr}{items:Array Value}{Q:Unit->Shared->Prop}(f:A.handled=none)(ht:s.heap.IsList t items)
  (hn:(assignEach c env).length=items.size) (g:(assignEach c env).findIdx? (·.1)=none)
  (h:∀h',Heap.ExtBut s.heap.objs.size s.heap h'->wpAny (model prog w) A (assignInOrder ((assignEach c env).map (·.2)) items.toList) Q E { s with heap:=h' }) :
  wpAny (model prog w) A (assign (.Tuple c x1 pos) env (.ref t)) Q E s:=by
 rw[assign_Tuple]
 refine wpAny_bind (wpAny_standAt ?_)
 unfold unpack
 rw[hn,g]
 exact wpAny_bind (wpAny_holding (qW f ht h))
end
section
variable {X:Cx}{K:aad}
def Lr(K:aad)(n:Nat)(t:TGs):TG:=fun v c H Q=>∃a xs,v=.ref a/\SqL K H a xs/\xs.length=n/\t xs c H Q
theorem xf{es:List Expr}{k:Nat}{t:TGs}{n:Nat}{pos:Pos}(p:X.K=K)(m:X.calm=true)(h:PGs X es t)
  (hn:(assignEach es X.env).length=n:=by rfl) (q:(assignEach es X.env).findIdx? (·.1)=none:=by rfl):PG X (.Tuple es k pos) (Lr K n t):=by
 subst p
 intro c s f H v u Q I r hw
 obtain ⟨a,xs,e1,j,hl,hw⟩:=hw
 subst e1
 cases r
 obtain ⟨z,g,ht,y⟩:=I.list j
 refine ph (I.ok.hd m) ht.isList (by simp [hn,<- hl,g.length]) q fun h' i=>?_
 have x:Inv X c f H { s with heap:=h' }:=I.kept (t':=s.toks) fun b o e=>i b o (Mr (Heap.lt_size e)) e
 exact h c _ f H xs _ Q x (by simpa using g) hw
def qq(k:Nat)(g:TGs):Prop:=∀x c H Q,g x c H Q->g x c H fun f h=>Q f h/\f.length=c.length/\∀j,k<=j->f[j]?=c[j]?
theorem qq.nil{k:Nat}:qq k JB:=fun x c H Q q=>⟨q.1,q.2,rfl,fun _ _=>rfl⟩
end
end L2
namespace Maj
open L2 (tM il rG rQ)
def gZ(xs:aab)(k:Nat):Int:=((tM xs).take k).sum
def lz:List Bool->aab->Int
 |true::m,x::xs=>x+lz m xs
 |false::m,_::xs=>lz m xs
 |_,_=>0
def cnt:List Bool->Nat
 |true::m=>cnt m+1
 |false::m=>cnt m
 |[]=>0
theorem uR:∀{k:Nat}{y:Int}{ys:aab},(y::ys).Pairwise (·>=·)->k<=ys.length->(ys.take k).sum<=((y::ys).take k).sum
 |0,y,ys,_,_=>by simp
 |k+1,y,[],_,h=>by simp at h
 |k+1,y,z::i,c,h=>by
  rw[OY,OY,MD,MD]
  obtain ⟨g,f⟩:=List.pairwise_cons.mp c
  have:=uR (k:=k) f (by simpa using h)
  have:=g z ox
  omega
theorem ni:∀{ys:aab}{m:List Bool},ys.Pairwise (·>=·)->m.length=ys.length->lz m ys<=(ys.take (cnt m)).sum
 |[],[],_,_=>by simp [lz,cnt]
 |[],_::_,_,h=>by simp at h
 |_::_,[],_,h=>by simp at h
 |y::ys,true::m,c,h=>by
  have:=ni (List.pairwise_cons.mp c).2 (show m.length=ys.length by simpa using h)
  rw[lz,cnt,OY,MD];omega
 |y::ys,false::m,c,h=>by
  have hl:m.length=ys.length:=by simpa using h
  have g:=ni (List.pairwise_cons.mp c).2 hl
  have f:cnt m<=ys.length:=by
   have:∀m:List Bool,cnt m<=m.length:=fun m=>by
    induction m with
    |nil=>simp [cnt]
    |cons b m ih=>cases b<;>simp [cnt]<;>omega
   rw[<- hl];exact this m
  have:=uR c f
  rw[lz,cnt];omega
theorem DM{xs ys:aab}(h:xs.Perm ys):∀m:List Bool,m.length=xs.length->∃f:List Bool,f.length=ys.length/\cnt f=cnt m/\lz f ys=lz m xs:=by
 induction h with
 |nil=>exact fun m h=>⟨m,h,rfl,rfl⟩
 |cons x _ ih =>
  intro m h
  cases m with
  |nil=>simp at h
  |cons b m =>
   obtain ⟨f,o,n,j⟩:=ih m (by simpa using h)
   refine⟨b::f,by simp [o],?_,?_⟩
   .cases b<;>simp [cnt,n]
   .cases b<;>simp [lz,j]
 |swap x y l =>
  intro m h
  match m,h with
  |b::c::m,h =>
   refine⟨c::b::m,by simpa using h,?_,?_⟩
   .cases b<;>cases c<;>simp [cnt]
   .cases b<;>cases c<;>simp [lz]<;>omega
  |[_],h=>simp at h
  |[],h=>simp at h
 |trans _ _ t u =>
  intro m h
  obtain ⟨i,a1,a2,s⟩:=t m h
  obtain ⟨g,r,q,p⟩:=u i a1
  exact⟨g,r,q.trans a2,p.trans s⟩
theorem IP{xs:aab}{m:List Bool}(h:m.length=xs.length):lz m xs<=gZ xs (cnt m):=by
 obtain ⟨i,g,f,c⟩:=DM (il xs).symm m h
 rw[<- c,<- f]
 exact ni (rG xs) g
def above(one c:aab):aac:=(List.range one.length).filter fun p=>decide (gZ c (p+1)<gZ one (p+1))
end Maj
namespace L3
open PySem
open L2 hiding D Rf Rfs Rp dI dT
section
variable {K:aad}{Γ:aac}
def E5(n:Nat)(c:List D->Dl->(Dl->Prop)->Prop)(x:D)(δ:Dl)(P:Dl->Prop):Prop:=asL x fun ds=>ds.length=n/\c ds δ P
theorem Bz{n:Nat}{g:TGs}{c:List D->Dl->(Dl->Prop)->Prop}(h:GTs K Γ g c):GT K Γ (Lr K n g) (E5 n c) :=
 ⟨fun x δ P t k q=>by obtain ⟨ds,e,z⟩:=bH q;exact gg e ⟨z.1,h.mono _ _ _ _ k z.2⟩,
 fun {B0 fps δ p H x v fp Q} o r f q=>by
  obtain ⟨ds,e,z⟩:=bH q
  obtain ⟨a,xs,s,rfl,i,hr,m⟩:=r.seq e
  exact⟨a,xs,rfl,i,hr.length.trans z.1,h.run o hr (fun j hj b hb=>f j hj b (m b hb)) z.2⟩⟩
end
end L3
namespace L3
open PySem L2
section
variable {K:aad}
def Gu(xs:List D)(P:Int->Prop):Prop:=match xs with|[.int j]=>P j|[.bl b]=>P (if b then 1 else 0)|_=>False
theorem yS{i:Int}{P:Int->Prop}:Gu [.int i] P↔P i:=MX
theorem BW{b:Bool}{P:Int->Prop}:Gu [.bl b] P↔P (if b then 1 else 0):=MX
theorem yE{xs:List D}{P:Int->Prop}(h:Gu xs P):(∃i,xs=[.int i]/\P i)\/∃b,xs=[.bl b]/\P (if b then 1 else 0):=by
 unfold Gu at h;split at h
 .exact .inl ⟨_,rfl,h⟩
 .exact .inr ⟨_,rfl,h⟩
 .exact h.elim
def FH(xs:List D)(P:DK):Prop:=Gu xs fun i=>P (.int i)
theorem Ly:n0 K (fun xs H Q=>(∃i,xs=[.int i]/\Q (.int i) H)\/∃k,xs=[.bl k]/\Q (.int (if k then 1 else 0)) H) FH :=
 ⟨fun xs P g k h=>by
  rcases yE h with ⟨i,rfl,z⟩|⟨b,rfl,z⟩
  .exact k _ z
  .exact k _ z,
 fun {H xs vs Q} r h=>by
  rcases yE h with ⟨i,rfl,z⟩|⟨b,rfl,z⟩
  .exact .inl ⟨i,r.ints1,z _ H [] (Same.refl H) ⟨rfl,rfl⟩ Nw.nil⟩
  .refine .inr ⟨b,?_,z _ H [] (Same.refl H) ⟨rfl,rfl⟩ Nw.nil⟩
   obtain ⟨fp,x,r,f,c,rfl,_,⟨rfl,_⟩,⟨rfl,_⟩⟩:=r
   rfl⟩
end
end L3
namespace L3
open PySem
open L2 hiding D Rf Rfs Rp dI dT
end L3
namespace L3
open PySem L2
structure AOk(K:aad)(B0:Hp)(Γ:aac)(i j m:Nat)(a0:Addr)(fps:Nat->List Addr)(δ:Dl)(σ:St)(H:Hp):Prop where
 ok:Ok K B0 Γ fps (δ.set j none) σ H
 hi:i∈Γ
 hj:j∉Γ
 al:∃ds es xs b,δ[i]?=some (some (.lst ds))/\ds[m]?=some (.lst es)/\δ[j]?=some (some (.lst es))/\σ[i]?=some (some (.ref a0))/\H a0=some (.lst xs)/\xs[m]?=some (.ref b)/\σ[j]?=some (some (.ref b))
section
variable {K:aad}{ρ:Bool}{Γr Γl Γ:aac}{B0:Hp}{i j m:Nat}{a0:Addr}{fps:Nat->List Addr}{δ:Dl}{σ:St}{H H':Hp}{t u:TS}{d e:Nat->DS}{te tx t1:TE}{de dx d1:DE}
theorem AOk.ne(o:AOk K B0 Γ i j m a0 fps δ σ H):i≠j:=fun z=>o.hj (z▸o.hi)
theorem AOk.same(o:AOk K B0 Γ i j m a0 fps δ σ H)(s:Same H H'):AOk K B0 Γ i j m a0 fps δ σ H':=by
 obtain ⟨ds,es,xs,b,q,p,n,h,g,f,c⟩:=o.al
 exact⟨o.ok.same s,o.hi,o.hj,ds,es,xs,b,q,p,n,h,s.st _ _ g trivial,f,c⟩
theorem AOk.rd(o:AOk K B0 Γ i j m a0 fps δ σ H):∃f,Ok K B0 (minus Γ [i]) f δ σ H:=by
 obtain ⟨ds,es,xs,b,B,y,n,x,v,u,t⟩:=o.al
 have e1:(δ.set j none)[i]?=some (some (.lst ds)):=by rw[L5 (MF o.ne)];exact B
 obtain ⟨a,E,C,ys,q,g,q2,q3,q4,q5,q6,q7,q8,q9,q10,_⟩:=mX (es':=[]) o.ok o.hi e1 y
 rw[x] at g;cases g
 rw[v] at q2;cases q2
 rw[u] at q4;cases q4
 refine⟨fun l=>if l=j then b::q else fps l,by have:=o.ok.len;simpa using this,o.ok.b0,fun l d e=>?_,fun l h=>?_,fun l hl=>?_,fun l hl k s a ha=>?_⟩
 .by_cases hl:l=j
  .subst hl
   rw[n] at e;cases e
   rw[if_pos rfl]
   exact⟨.ref b,t,b,ys,q,rfl,q5,rfl,q6⟩
  .rw[if_neg hl]
   exact o.ok.val l d (by rw[L5 (MF hl)];exact e)
 .by_cases hl:l=j
  .subst hl;exact absurd n (h _)
  .rw[if_neg hl]
   exact o.ok.non l fun d z=>h d (by rw[L5 (MF hl)] at z;exact z)
 .obtain ⟨c,p⟩:=bT.mp hl
  have:l≠j:=fun z=>o.hj (z▸c)
  rw[if_neg this]
  exact o.ok.own l c
 .obtain ⟨c,p⟩:=bT.mp hl
  have n1:l≠j:=fun z=>o.hj (z▸c)
  have n2:i≠l:=fun z=>p (Gc.mpr z.symm)
  rw[if_neg n1] at ha
  by_cases r:k=j
  .rw[if_pos r]
   intro z
   rcases L6.mp z with z|z
   .exact o.ok.dj l c i n2 a ha (by rw[z];exact q10)
   .exact o.ok.dj l c i n2 a ha (q9 a z)
  .rw[if_neg r]
   exact o.ok.dj l c k s a ha
theorem AOk.write(o:AOk K B0 Γ i j m a0 fps δ σ H){ds es:List D}(q:δ[i]?=some (some (.lst ds)))(n:ds[m]?=some (.lst es)){es':List D} :
  ∃b ys g,σ[j]?=some (some (.ref b))/\H b=some (.lst ys)/\Rfs K H es ys g/\g.Nodup/\b∉g/\(∀c∈g,Mu H c)/\∀{x:List V}{p:List Addr},Rfs K H es' x p->p.Nodup->(∀c∈p,c∈g) ->
   ∃f,AOk K B0 Γ i j m a0 f ((δ.set i (some (.lst (ds.set m (.lst es'))))).set j (some (.lst es'))) σ (upd H b (.lst x)):=by
 obtain ⟨ds0,W4,xs,b,I,G,P,u,t,s,F⟩:=o.al
 rw[q] at I;cases I
 rw[n] at G;cases G
 have e1:(δ.set j none)[i]?=some (some (.lst ds)):=by rw[L5 (MF o.ne)];exact q
 obtain ⟨a,Yp,Z,ys,g,E,q2,q3,q4,q5,q6,q7,q8,q9,q10,KK⟩:=mX (es':=es') o.ok o.hi e1 n
 rw[u] at E;cases E
 rw[t] at q2;cases q2
 rw[s] at q4;cases q4
 have X:a0≠b:=fun z=>by
  obtain ⟨a3,J,Q,C,B,O,M⟩:=o.ok.yN e1
  rw[u] at C;cases C
  have v:=(o.ok.own i o.hi).1
  rw[O] at v
  obtain ⟨Y,_,_,y,_,_,L,_⟩:=M.inner (Mi.mp v).2 n
  rw[t] at B;cases B
  rw[s] at y;cases y
  exact (Mi.mp v).1 (by rw[z];exact L)
 refine⟨b,ys,g,F,q5,q6,q7,q8,fun c h=>((o.ok.own i o.hi).2 c (q9 c h)).2,fun {x p} r nd sub=>?_⟩
 obtain ⟨f,S⟩:=KK r nd (fun z=>q8 (sub b z)) (fun c h=>((o.ok.own i o.hi).2 c (q9 c (sub c h))).2) (fun c h=>.inl (sub c h))
 have U:i<δ.length:=(KE.mp q).1
 have R:j<δ.length:=(KE.mp P).1
 have T:m<ds.length:=(KE.mp n).1
 refine⟨f,?_,o.hi,o.hj,ds.set m (.lst es'),es',xs,b,?_,?_,?_,u,by rw[aG X];exact t,s,F⟩
 .rw[List.set_set,List.set_comm _ _ o.ne];exact S
 .rw[L5 (MF o.ne),Ms U]
 .rw[Ms T]
 .rw[Ms (by rw[MM];exact R)]
def STA(K:aad)(i j:Nat)(t:TS)(c:aac)(d:Nat->DS):Prop :=
 ∀⦃B0:Hp⦄ ⦃Dn:Ends⦄ ⦃E:bB⦄ ⦃m:Nat⦄ ⦃a0:Addr⦄ ⦃fps:Nat->List Addr⦄ ⦃δ:Dl⦄ ⦃σ:St⦄ ⦃H:Hp⦄,(∀{fps δ σ H},AOk K B0 c i j m a0 fps δ σ H->E.nx δ->Dn.nx σ H)->AOk K B0 c i j m a0 fps δ σ H->d m E δ->t Dn σ H
theorem Iq(f:STA K i j t Γ d)(c:STA K i j u Γ e):STA K i j (zV t u) Γ (fun m=>AZ (d m) (e m)) :=
 fun {B0 Dn E m a0 fps δ σ H} k o h=>f (Dn:={ Dn with nx:=u Dn }) (E:={ E with nx:=e m E }) (fun o h=>c k o h) o h
theorem IC(a:Nat)(g:ER K (minus Γ [i]) te de)(ha:a∉Γ:=by decide)(c:a≠j:=by decide)(p:a≠i:=by decide):STA K i j (lN te (gn a)) Γ (fun _=>HB a (Ci de)) :=
 fun {B0 Dn E m a0 fps δ σ H} k o h=>by
  obtain ⟨n,t⟩:=o.rd
  refine g.run t (g.mono _ _ _ (fun x z v H' s r=>?_) h)
  obtain ⟨fp,r⟩:=r
  obtain ⟨_,rfl⟩:=r.aQ z.1
  have f:=(o.ok.zi a s r (fun _ _ _ w=>(nomatch w))).sub (Γ':=Γ) fun l hl=>bT.mpr ⟨hl,fun q=>ha (by rw[<- Gc.mp q];exact hl)⟩
  rw[List.set_comm _ _ (MF c)] at f
  obtain ⟨ds,es,xs,b,I,G,F,C,B,y,u⟩:=o.al
  refine k ⟨f,o.hi,o.hj,ds,es,xs,b,?_,G,?_,?_,s.st _ _ B trivial,y,?_⟩ z.2
  .rw[L5 p];exact I
  .rw[L5 c];exact F
  .rw[L5 p];exact C
  .rw[L5 c];exact u
def Kw(i j:Nat)(c dx:DE)(m:Nat)(E:bB)(δ:Dl):Prop:=c δ fun x=>x.aQ=true/\dx δ fun k=>asI [k] fun q=>j3 δ i fun ds=>j3 δ j fun es=>match ixN es.length q with
 |some p=>E.nx ((δ.set i (some (.lst (ds.set m (.lst (es.set p x)))))).set j (some (.lst (es.set p x))))
 |none=>False
theorem HY(B:ER K (minus Γ [i]) te de)(u:ER K (minus Γ [i]) tx dx):STA K i j (lN te (Eb (eT j) tx wk)) Γ (fun m=>Kw i j de dx m) :=
 fun {B0 Dn E m a0 fps δ σ H} k o h=>by
  obtain ⟨G,S⟩:=o.rd
  refine B.run S (B.mono _ _ _ (fun x z v H1 t r=>?_) h)
  obtain ⟨J,z⟩:=z
  obtain ⟨fp,r⟩:=r
  obtain ⟨_,rfl⟩:=r.aQ J
  obtain ⟨Qs,R⟩:=(o.same t).rd
  obtain ⟨ds0,I,xs,b,F,X,U,g4,g5,g6,C⟩:=o.al
  refine⟨.ref b,C,u.run R (u.mono _ _ _ (fun y z w H2 s O=>?_) z)⟩
  obtain ⟨q,Y,z⟩:=bP z
  subst Y
  obtain ⟨ds,e1,z⟩:=gk z
  obtain ⟨es,e2,z⟩:=gk z
  rw[F] at e1;cases e1
  rw[U] at e2;cases e2
  cases ep:ixN I.length q with
  |none=>rw[ep] at z;exact z.elim
  |some p =>
   rw[ep] at z
   obtain ⟨b',ys,fe,n,M,g,L,w5,w6,KK⟩:=((o.same t).same s).write (es':=I.set p x) F X
   rw[C] at n;cases n
   obtain ⟨PJ,P,Rn,T⟩:=Rfs.set (r.same s) Na g L (fun c f=>(nomatch f)) (Eo ep)
   obtain ⟨Z,Q⟩:=KK P Rn fun c f=>(T c f).elim id fun w=>(nomatch w)
   exact⟨b,ys,q,p,rfl,O.int,M,by rw[g.length];exact ep,k Q z⟩
def Bm(i j:Nat)(f:DE)(d:Nat->DS)(E:bB)(δ:Dl):Prop:=j3 δ i fun ds=>f δ fun k=>asI [k] fun m=>(0<=m/\j<δ.length)/\pA (ds[m.toNat]?) fun es =>
 d m.toNat { E with nx:=fun c=>E.nx (c.set j none) } (δ.set j (some (.lst es)))
theorem F4(i j:Nat)(g:ER K Γ t1 d1)(hb:STA K i j t Γ d)(hi:i∈Γ:=by decide)(hj:j∉Γ:=by decide)(r:i≠j:=by decide) :
  ST K ρ Γr Γl (zV (lN (tOp (xE K) (eT i) t1) (gn j)) t) Γ Γ (Bm i j d1 d):=by
 intro B0 Dn E fps δ σ H k o h
 refine uO (k:=k) g hi hj r o ?_
 obtain ⟨ds,e,h⟩:=gk h
 refine F5 e (g.mono _ _ _ (fun x z=>?_) h)
 obtain ⟨m,em,f⟩:=bP z
 subst em
 refine⟨f.1,?_⟩
 obtain ⟨es,p,s⟩:=lK f.2
 refine pB p fun a0 b xs σ' H' n u q G C B y v=>?_
 refine hb (E:={ E with nx:=fun c=>E.nx (c.set j none) }) (fun F z=>k.nx F.ok z) ⟨by rw[List.set_set];exact u,hi,hj,ds,es,xs,b,?_,p,?_,C,B,y,v⟩ s
 .rw[L5 (MF r)] at q ⊢;exact q
 .rw[Ms f.1.2]
end
end L3
namespace L3
open PySem
open L2 hiding D Rf Rfs Rp dI dT
section
variable {δ:Dl}{i j:Nat}{t:aaa}{a b v:Int}{d1 de dx:DE}{d:Nat->DS}{E:bB}
theorem Dx(f:δ[i]?=some (some (dT t)))(g:∀R:DK,R (.int a)->d1 δ R)(hj:j<δ.length)(ha:0<=a/\a<t.length)
  (h:d a.toNat { E with nx:=fun c=>E.nx (c.set j none) } (δ.set j (some (dI (rowAt t a.toNat))))):Bm i j d1 d E δ:=by
 unfold Bm
 refine (qp f).mpr (g _ ⟨⟨ha.1,hj⟩,?_⟩)
 exact pB (GG (by omega)) h
theorem HK{r:aab}{m:Nat}(c:δ[i]?=some (some (dT t)))(hr:δ[j]?=some (some (dI r)))(f:∀R:DK,R (.int v)->de δ R)(g:∀R:DK,R (.int b)->dx δ R)(hb:0<=b/\b<r.length)
  (h:E.nx ((δ.set i (some (dT (t.set m (r.set b.toNat v))))).set j (some (dI (r.set b.toNat v))))):Kw i j de dx m E δ:=by
 unfold Kw
 refine f _ ⟨rfl,g _ ((qp c).mpr ((qp hr).mpr ?_))⟩
 show match ixN (r.map D.int).length b with|some p=>E.nx ((δ.set i (some (.lst ((t.map dI).set m (.lst ((r.map D.int).set p (.int v))))))).set j (some (.lst ((r.map D.int).set p (.int v)))))|none=>False
 rw[c0 hb.1 (by rw[mo];exact hb.2)]
 show E.nx ((δ.set i (some (.lst ((t.map dI).set m (.lst ((r.map D.int).set b.toNat (.int v))))))).set j (some (.lst ((r.map D.int).set b.toNat (.int v)))))
 rw[uI,Fx];exact h
end
end L3
namespace L3
open PySem L2
def D.flat:D->Bool
 |.tup ds=>ds.all D.aQ
 |d=>d.aQ
theorem Rf.flat{K:aad}{H:Hp}{d:D}{v:V}{fp:List Addr}(h:Rf K H d v fp)(s:d.flat=true):fp=[]:=by
 cases d with
 |tup ds =>
  obtain ⟨a,xs,rfl,f,c⟩:=h
  exact (c.jb s).2
 |_=>first|exact (h.aQ s).2|cases s
theorem zA{i:Int}:(D.int i).flat=true:=rfl
theorem CF{b:Bool}:(D.bl b).flat=true:=rfl
theorem vN{a b c d:Int}:(D.tup [.int a,.int b,.int c,.int d]).flat=true:=rfl
theorem vS{a b c:Int}:(D.tup [.int a,.int b,.int c]).flat=true:=rfl
theorem wy{a b:Int}:(D.tup [.int a,.int b]).flat=true:=rfl
def FF(d:DE)(δ:Dl)(P:DK):Prop:=d δ fun x=>x.flat=true/\P x
theorem ER.flat{K:aad}{c:aac}{t:TE}{d:DE}(h:ER K c t d):EM K c [] t (FF d):=⟨fun δ P f k q=>h.mono _ _ _ (fun x z=>⟨z.1,k x z.2⟩) q,fun o q=>h.run o (h.mono _ _ _ (fun x z v H' s r=>by
 obtain ⟨fp,r⟩:=r
 have e:=r.flat z.1
 subst e
 exact z.2 v H' [] s r Nw.nil) q)⟩
end L3
namespace L3
open PySem
open L2 hiding D Rf Rfs Rp dI dT
theorem fk{t:aaa}{n m:Nat}{a b:Int}{R:DK}(c:bc n m t)(ha:0<=a/\a<n)(hb:0<=b/\b<m)(h:R (.int (cellAt t a.toNat b.toNat))):asO (atI (t.map dI) a) fun z=>uH z (.int b) R:=by
 have f:=c.row (i:=a.toNat) (by omega)
 have hl:=c.1
 refine bK (by omega) ?_
 rw[t5]
 exact aP (by omega) h
theorem cP{t:aaa}{n m a b c d:Nat}{v:Int}(g:bc n m t)(ha:a<n)(hb:b<m):cellAt (setCell t a b v) c d=if a=c/\b=d then v else cellAt t c d:=by
 have hl:=g.1
 have hr:=g.row ha
 unfold setCell cellAt
 by_cases h:a=c
 .subst h
  rw[dz (l:=t.set a _),Ms (by omega),M3]
  by_cases f:b=d
  .subst f
   rw[if_pos ⟨rfl,rfl⟩,dz,Ms (by rw[show (t.getD a []).length=m from hr];exact hb),M3]
  .rw[if_neg (fun z=>f z.2),dz,L5 f,<- dz]
 .rw[if_neg (fun z=>h z.1),dz (l:=t.set a _),L5 h,<- dz]
def ig(n m:Nat)(t:aaa):Prop:=bc n m t/\∀r∈t,∀x∈r,x=0\/x=1
theorem ig.cell{n m a b:Nat}{t:aaa}(h:ig n m t)(ha:a<n)(hb:b<m):cellAt t a b=0\/cellAt t a b=1:=by
 have hl:=h.1.1
 have hr:=h.1.row ha
 refine h.2 (rowAt t a) (rD (by omega)) _ ?_
 show (rowAt t a).getD b 0∈rowAt t a
 rw[dz,gV (by omega)]
 exact MK _
theorem ig.set{n m a b:Nat}{t:aaa}{v:Int}(h:ig n m t)(ha:a<n)(f:v=0\/v=1):ig n m (setCell t a b v):=by
 refine⟨h.1.setCell ha,fun r hr x c=>?_⟩
 have hl:=h.1.1
 rcases Oa hr with z|z
 .exact h.2 r z x c
 .rw[z] at c
  rcases Oa c with w|w
  .exact h.2 _ (rD (by omega)) x w
  .rw[w];exact f
def cQ(n m:Nat)(t:aaa)(i j k l:Int):Prop:=(0<=i/\i<n)/\(0<=k/\k<n)/\(0<=j/\j<m)/\(0<=l/\l<m)/\cellAt t i.toNat j.toNat=1/\cellAt t i.toNat l.toNat=0/\cellAt t k.toNat j.toNat=0/\cellAt t k.toNat l.toNat=1
instance {n m:Nat}{t:aaa}{i j k l:Int}:Decidable (cQ n m t i j k l):=by unfold cQ;infer_instance
def c5(t:aaa)(i j k l:Nat):aaa:=setCell (setCell (setCell (setCell t i j 0) i l 1) k j 1) k l 0
theorem yd{n m i j k l:Nat}{t:aaa}(h:ig n m t)(hi:i<n)(c:k<n):ig n m (c5 t i j k l) :=
 (((h.set hi (.inl rfl)).set hi (.inr rfl)).set c (.inr rfl)).set c (.inl rfl)
theorem xj{n m i j k l a b:Nat}{t:aaa}(h:bc n m t)(hi:i<n)(c:k<n)(hj:j<m)(hl:l<m) :
  cellAt (c5 t i j k l) a b=if k=a/\l=b then 0 else if k=a/\j=b then 1 else if i=a/\l=b then 1 else if i=a/\j=b then 0 else cellAt t a b:=by
 unfold c5
 rw[cP (((h.setCell hi).setCell hi).setCell c) c hl,cP ((h.setCell hi).setCell hi) c hj,cP (h.setCell hi) hi hl,cP h hi hj]
end L3
namespace L2
open PySem PySem.Spec PyProof.Rows
section
variable {κ:Type}[DecidableEq κ]
def jJ(kvs:List (κ × V))(k:κ):Option V:=(kvs.find? fun c=>decide (c.1=k)).map (·.2)
def putK(kvs:List (κ × V))(k:κ)(v:V):List (κ × V) :=
 if (kvs.any fun c=>decide (c.1=k))=true then kvs.map (fun c=>if c.1=k then (c.1,v) else c) else kvs++[(k,v)]
theorem mV{p:κ × V}{r:List (κ × V)}{k:κ}(e:p.1=k):jJ (p::r) k=some p.2:=by simp [jJ,Ol,e]
theorem kW{p:κ × V}{r:List (κ × V)}{k:κ}(e:¬ p.1=k):jJ (p::r) k=jJ r k:=by simp [jJ,Ol,e]
theorem uG(k:κ):∀kvs:List (κ × V),(kvs.any fun c=>decide (c.1=k))=(jJ kvs k).isSome
 |[]=>rfl
 |p::r=>by
  rw[List.any_cons]
  by_cases e:p.1=k
  .simp only[mV e,decide_eq_true e,Bool.true_or,Option.isSome_some]
  .rw[kW e,decide_eq_false e,Bool.false_or];exact uG k r
theorem rX(kvs:List (κ × V))(k:κ)(v:V):(putK kvs k v).length<=kvs.length+1:=by
 unfold putK
 split
 .rw[mo];omega
 .rw[Mg,L8,NR];omega
theorem FY{kvs:List (κ × V)}{k:κ}(v:V)(h:jJ kvs k=none):putK kvs k v=kvs++[(k,v)]:=by
 unfold putK
 rw[uG,h]
 exact if_neg (by decide)
theorem nQ.rC{o:Option V}{u:Option Value}(r:nQ o u):o.isSome=u.isSome:=by
 cases o with
 |none=>cases u with
  |none=>rfl
  |some _=>exact (show False from r).elim
 |some _=>cases u with
  |none=>exact (show False from r).elim
  |some _=>rfl
theorem KV.val{kvs:List (κ × V)}{vs:List (κ × Value)}(r:KV kvs vs)(k:κ):nQ (jJ kvs k) (valueAt vs k):=by
 unfold KV at r
 induction r with
 |nil=>exact True.intro
 |@cons p q ps c h t ih =>
  obtain ⟨g,i⟩:=h
  by_cases e:p.1=k
  .have f:q.1=k:=g.symm.trans e
   have b:valueAt (q::c) k=some q.2:=by simp [valueAt,Ol,f]
   rw[mV e,b];exact i
  .have f:¬ q.1=k:=fun z=>e (g.trans z)
   have b:valueAt (q::c) k=valueAt c k:=by simp [valueAt,Ol,f]
   rw[kW e,b];exact ih
theorem KV.any{kvs:List (κ × V)}{vs:List (κ × Value)}(r:KV kvs vs)(k:κ):(kvs.any fun c=>decide (c.1=k))=vs.any fun c=>decide (c.1=k):=by
 unfold KV at r
 induction r with
 |nil=>rfl
 |cons h t ih=>rw[List.any_cons,List.any_cons,ih,h.1]
theorem KV.Kn{kvs:List (κ × V)}{vs:List (κ × Value)}(r:KV kvs vs)(k:κ){y:V}{u:Value}(g:RelV y u) :
  KV (kvs.map fun c=>if c.1=k then (c.1,y) else c) (vs.map fun c=>if c.1=k then (c.1,u) else c):=by
 unfold KV at r ⊢
 induction r with
 |nil=>exact .nil
 |@cons p q ps j h t ih =>
  rw[Mc,Mc]
  refine .cons ?_ ih
  obtain ⟨f,i⟩:=h
  by_cases e:p.1=k
  .rw[if_pos e,if_pos (f.symm.trans e)];exact⟨f,g⟩
  .rw[if_neg e,if_neg (fun z=>e (f.trans z))];exact⟨f,i⟩
theorem KV.put{kvs:List (κ × V)}{vs:List (κ × Value)}(r:KV kvs vs)(k:κ){y:V}{u:Value}(c:RelV y u):KV (putK kvs k y) (stored vs k u):=by
 unfold putK stored
 rw[r.any k]
 by_cases e:(vs.any fun f=>decide (f.1=k))=true
 .rw[if_pos e,if_pos e];exact r.Kn k c
 .rw[if_neg e,if_neg e];exact Paired.snoc r ⟨rfl,c⟩
theorem KV.keys{kvs:List (κ × V)}{vs:List (κ × Value)}(r:KV kvs vs):kvs.map (·.1)=vs.map (·.1):=by
 unfold KV at r
 induction r with
 |nil=>rfl
 |cons h t ih=>rw[Mc,Mc,ih,h.1]
theorem KV.length{kvs:List (κ × V)}{vs:List (κ × Value)}(r:KV kvs vs):kvs.length=vs.length:=Paired.length r
end
theorem Dd{P:Program}{w:World}{k:Key}{u:Value}(r:RelV (kV k) u):(cZ P w).is k u=true:=by
 cases k with
 |inl i=>obtain ⟨t,e⟩:=(show ∃t,u=Value.int i t from r);subst e;exact Ao P w i t
 |inr x=>obtain ⟨t,e⟩:=(show ∃t,u=Value.str x t from r);subst e;exact zu P w x t
theorem w8{P:Program}{w:World}:∀{ks:List Key}{us:List Value},Vals (ks.map kV) us->ItemsAre (cZ P w) ks us
 |[],_,r=>by rw[N8] at r;cases r;exact .nil
 |k::ks,_,r=>by
  rw[Mc] at r
  cases r with
  |cons h t=>exact .cons (Dd h) (w8 t)
abbrev KT(H:Hp):List (List Key × V)->List (List Key × Addr × Value)->Prop:=Paired fun p q=>p.1=q.1/\H q.2.1=some (.tup (p.1.map kV))/\RelV p.2 q.2.2
theorem KT.val{H:Hp}{kvs:List (List Key × V)}{xs:List (List Key × Addr × Value)}(r:KT H kvs xs)(k:List Key):nQ (jJ kvs k) ((atKey xs k).map (·.2)):=by
 induction r with
 |nil=>exact True.intro
 |@cons p q ps c h t ih =>
  obtain ⟨g,_,i⟩:=h
  by_cases e:p.1=k
  .have f:q.1=k:=g.symm.trans e
   have b:atKey (q::c) k=some q.2:=by simp [atKey,Ol,f]
   rw[mV e,b];exact i
  .have f:¬ q.1=k:=fun z=>e (g.trans z)
   have b:atKey (q::c) k=atKey c k:=by simp [atKey,Ol,f]
   rw[kW e,b];exact ih
theorem KT.Kn{H:Hp}{kvs:List (List Key × V)}{xs:List (List Key × Addr × Value)}(r:KT H kvs xs)(k:List Key){y:V}{u:Value}(i:RelV y u) :
  KT H (kvs.map fun f=>if f.1=k then (f.1,y) else f) (xs.map (putAt k u)):=by
 induction r with
 |nil=>exact .nil
 |@cons p q ps m h t ih =>
  rw[Mc,Mc]
  refine .cons ?_ ih
  obtain ⟨c,g,j⟩:=h
  unfold putAt
  by_cases e:p.1=k
  .rw[if_pos e,if_pos (c.symm.trans e)];exact⟨c,g,i⟩
  .rw[if_neg e,if_neg (fun z=>e (c.trans z))];exact⟨c,g,j⟩
theorem KT.put{H:Hp}{kvs:List (List Key × V)}{xs:List (List Key × Addr × Value)}(r:KT H kvs xs)(k:List Key){b:Addr}{y:V}{u:Value}(hb:H b=some (.tup (k.map kV)))(c:RelV y u) :
  KT H (putK kvs k y) (storedH xs k b u):=by
 have e:(kvs.any fun f=>decide (f.1=k))=(atKey xs k).isSome:=by
  rw[uG,(r.val k).rC,Option.isSome_map]
 unfold putK storedH
 rw[e]
 by_cases q:(atKey xs k).isSome=true
 .rw[if_pos q,if_pos q];exact r.Kn k c
 .rw[if_neg q,if_neg q];exact Paired.snoc r ⟨rfl,hb,c⟩
theorem KT.keeps{H H':Hp}{kvs:List (List Key × V)}{xs:List (List Key × Addr × Value)}(r:KT H kvs xs)(ht:∀b ys,H b=some (.tup ys)->H' b=some (.tup ys)):KT H' kvs xs :=
 Paired.KL r fun _ _ z=>⟨z.1,ht _ _ z.2.1,z.2.2⟩
section
variable {P:Program}{w:World}{H:Hp}{h:Heap}{a:Addr}
theorem Js{u:HO}(ok:HOk P w H h)(e:Rd H a u):cD P w H h a u:=e.ok ok
theorem De{kvs:List (Key × V)}(ok:HOk P w H h)(e:Rd H a (.dK kvs)):kvs.length<=sizeLine/\(a == sysModules)=false/\∃vs,KV kvs vs/\h.DictOf (cZ P w) a vs :=
 show cD P w H h a (.dK kvs) from Js ok e
theorem Jk{kvs:List (Key × V)}(ok:HOk P w H h)(e:H a=some (.dK kvs)):kvs.length<=sizeLine/\(a == sysModules)=false/\∃vs,KV kvs vs/\h.DictOf (cZ P w) a vs:=De ok (.inl e)
theorem xK{ks:List Key}(ok:HOk P w H h)(e:H a=some (.tup (ks.map kV))):(tupleKind (cZ P w)).is h ks a:=by
 obtain ⟨_,i,r,o,g,f,n,c⟩:=(show cD P w H h a (.tup (ks.map kV)) from ok a _ e)
 exact⟨o,i.toArray,n,g,f,c,by simpa using w8 r⟩
theorem BV{kvs:List (List Key × V)}(ok:HOk P w H h)(e:Rd H a (.dT kvs)):kvs.length<=sizeLine/\(a == sysModules)=false /\
  ∃xs,KT H kvs xs/\h.DictOfH (tupleKind (cZ P w)) a xs:=by
 obtain ⟨z,y,xs,r,o,es,ep,s,n,j,i,g⟩:=(show cD P w H h a (.dT kvs) from Js ok e)
 refine⟨z,y,xs,r,o,es,ep,s,n,j,i,fun x c=>?_,g⟩
 have all:∀{l:List (List Key × V)}{m:List (List Key × Addr × Value)},KT H l m->∀x∈m,(tupleKind (cZ P w)).is h x.1 x.2.1:=by
  intro l m q
  induction q with
  |nil=>intro x c;exact nomatch c
  |@cons p q ps u f t ih =>
   intro x c
   rcases L6.mp c with e|c
   .subst e
    exact xK ok (by rw[<- f.1];exact f.2.1)
   .exact ih x c
 exact all r x c
theorem Lj{kvs:List (List Key × V)}(ok:HOk P w H h)(e:H a=some (.dT kvs)):kvs.length<=sizeLine/\(a == sysModules)=false /\
  ∃xs,KT H kvs xs/\h.DictOfH (tupleKind (cZ P w)) a xs:=BV ok (.inl e)
end
def yn(H:Hp)(a:Addr)(y:V)(r:Option V):Prop :=
 (∃kvs k,Rd H a (.dK kvs)/\y=kV k/\r=jJ kvs k)\/∃kvs k b,Rd H a (.dT kvs)/\y=.ref b/\H b=some (.tup (k.map kV))/\r=jJ kvs k
def DZ(H:Hp)(a:Addr)(y v:V)(H':Hp):Prop :=
 (∃kvs k,H a=some (.dK kvs)/\y=kV k/\kvs.length<sizeLine/\H'=upd H a (.dK (putK kvs k v))) \/
 ∃kvs k b,H a=some (.dT kvs)/\y=.ref b/\H b=some (.tup (k.map kV))/\kvs.length<sizeLine/\H'=upd H a (.dT (putK kvs k v))
theorem yn.k{H:Hp}{a:Addr}{kvs:List (Key × V)}{k:Key}(e:H a=some (.dK kvs)):yn H a (kV k) (jJ kvs k):=.inl ⟨kvs,k,.inl e,rfl,rfl⟩
theorem DZ.k{H:Hp}{a:Addr}{kvs:List (Key × V)}{k:Key}{v:V}(e:H a=some (.dK kvs))(hl:kvs.length<sizeLine):DZ H a (kV k) v (upd H a (.dK (putK kvs k v))):=.inl ⟨kvs,k,e,rfl,hl,rfl⟩
section
variable {X:Cx}{pins:List (Addr × Obj)}{σ:St}{H:Hp}{s:Shared}{a:Addr}{y v:V}{u r:Value}{o:Option V}{A:Around}{E:Value->Shared->Prop}
theorem Inv.big(I:Inv X pins σ H s):sysModules<s.heap.objs.size:=by
 have h:mainGlobals<s.heap.objs.size:=(I.mod.glob.keeps I.bk).lt
 exact Nat.lt_trans (by decide) h
theorem D9{Q:Value->Shared->Prop}(n:A.units+1<cLine)(I:Inv X pins σ H s)(g:yn H a y (some v))(m:RelV y u)(h:∀c s',Inv X pins σ H s'->RelV v c->Q c s') :
  wpAny (model X.prog X.w) A (getItem (.ref a) u) Q E s:=by
 rcases g with ⟨kvs,k,e,f,l⟩|⟨kvs,k,b,e,f,r,l⟩
 .subst f
  obtain ⟨z,hd,vs,i,dd⟩:=De I.hok e
  obtain ⟨c,hw,j⟩:=nQ.some_of (v:=v) (o:=valueAt vs k) (by rw[l];exact i.val k)
  exact wpAny_getItem_of (Dd m) dd.mapOf hw (h c _ (I.tok _) j)
 .subst f
  cases (show u=Value.ref b from m)
  obtain ⟨z,hd,xs,i,dd⟩:=BV I.hok e
  obtain ⟨c,hw,j⟩:=nQ.some_of (v:=v) (o:=(atKey xs k).map (·.2)) (by rw[l];exact i.val k)
  obtain ⟨p,q,t⟩:=Option.map_eq_some_iff.mp hw
  refine wpAny_getItem_heap (tupleKind_room_in1 n) (xK I.hok r) dd q ?_
  rw[t]
  exact h c _ (I.tok _) j
theorem HD{Q:Value->Shared->Prop}(j:A.units+1<cLine)(I:Inv X pins σ H s)(g:yn H a y o)(i:RelV y u)(h:∀s',Inv X pins σ H s'->Q (.bool (!o.isSome)) s') :
  wpAny (model X.prog X.w) A (compareOp .NotIn u (.ref a)) Q E s:=by
 rcases g with ⟨kvs,k,e,c,l⟩|⟨kvs,k,b,e,c,m,l⟩
 .subst c
  obtain ⟨z,hd,vs,f,dd⟩:=De I.hok e
  refine wpAny_notIn_of (Dd i) hd dd.mapOf ?_
  rw[<- (f.val k).rC,<- l]
  exact h _ (I.tok _)
 .subst c
  cases (show u=Value.ref b from i)
  obtain ⟨z,hd,xs,f,dd⟩:=BV I.hok e
  refine wpAny_notIn_heap (tupleKind_room_in1 j) (xK I.hok m) hd dd ?_
  have q:=(f.val k).rC
  rw[Option.isSome_map] at q
  rw[<- q,<- l]
  exact h _ (I.tok _)
theorem BN{h':Heap}{t':Nat}{ob:HO}(I:Inv X pins σ H s)(mu:Mut (H a))(c:Heap.SameBut a s.heap h')(f:∃q,h'.get? a=some q)(g:cD X.prog X.w (upd H a ob) h' a ob) :
  Inv X pins σ (upd H a ob) { s with heap:=h',toks:=t' } :=
 I.write (x:=a) (e:=a) mu (.inl rfl) (fun b q hb z=>(c.2 b hb).trans z) f g
theorem JX{P:Program}{w:World}{H':Hp}{h':Heap}{kvs:List (Key × V)}{vs:List (Key × Value)}(z:kvs.length<=sizeLine)(hd:(a == sysModules)=false)(c:KV kvs vs)(dd:h'.DictOf (cZ P w) a vs) :
  cD P w H' h' a (.dK kvs):=⟨z,hd,vs,c,dd⟩
theorem DU{H':Hp}{Q:Unit->Shared->Prop}(F:A.units+1<cLine)(I:Inv X pins σ H s)(g:DZ H a y v H')(t:RelV y u)(x:RelV v r)(h:∀s',Inv X pins σ H' s'->Q () s') :
  wpAny (model X.prog X.w) A (setItem (.ref a) u r) Q E s:=by
 rcases g with ⟨kvs,k,e,o,l,p⟩|⟨kvs,k,b,e,o,C,l,p⟩
 .subst o p
  obtain ⟨z,hd,vs,f,dd⟩:=Jk I.hok e
  have m:vs.length<=sizeLine:=by rw[<- f.length];exact z
  have hl:(putK kvs k v).length<=sizeLine:=by have:=rX kvs k v;omega
  refine wpAny_setItem_pairs (hsz:=m) (Dd t) dd fun h' j n=>h _ ?_
  have G:∃q,h'.get? a=some q:=let ⟨q,_,_,i,_⟩:=j;⟨q,i⟩
  exact BN I (by rw[e];exact True.intro) n G (JX hl hd (f.put k x) j)
 .subst o p
  cases (show u=Value.ref b from t)
  obtain ⟨z,hd,xs,f,dd⟩:=Lj I.hok e
  have m:xs.length<=sizeLine:=by rw[<- Paired.length f];exact z
  have hl:(putK kvs k v).length<=sizeLine:=by have:=rX kvs k v;omega
  refine wpAny_setItem_heap (hsz:=m) (tupleKind_room_in1 F) (xK I.hok C) dd fun h' j n=>h _ ?_
  obtain ⟨q,es,ep,i,O,M,L,_,J⟩:=j
  refine BN I (by rw[e];exact True.intro) n ⟨q,i⟩ ⟨hl,hd,_,(f.put k C x).keeps fun c ys B=>?_,q,es,ep,i,O,M,L,J⟩
  rw[aG (LB B e (fun z=>nomatch z))]
  exact B
end
section
end
def LM(i:Expr):Prop:=∀c f,subscripted i false c f=operate [c,f] (getItem c f)
theorem Ic{prog:Program}{w:World}{A:Around}{E:Value->Shared->Prop}{s:Shared}{env:Env}{n c:Expr}{pos:Pos}{T id:String}{Q:Value->Shared->Prop}
  (hl:typeLookup (.type T) "__getitem__" = pure (some (.builtin id))) (t:LM c)
  (h:wpAny (model prog w) A (eval n env) (fun o f=>wpAny (model prog w) A (eval c env) (fun i g=>g.TypeIs o T/\wpAny (model prog w) A (getItem o i) Q E g) E f) E s) :
  wpAny (model prog w) A (eval (.Subscript n c pos) env) Q E s:=by
 refine Subscript_ (wpAny_mono h (fun o f v=>wpAny_mono v (fun i g j=>?_) fun _ _ x=>x) fun _ _ x=>x)
 obtain ⟨p,j⟩:=j
 unfold subscriptTail
 refine wpAny_bind ?_
 rw[getitemInPython_of_ne p.not_modules]
 refine wpAny_bind (wpAny_specialOf p hl ?_)
 have m:wpAny (model prog w) A (subscripted c false o i) (fun r q=>wpAny (model prog w) A (letTemporaryGo n o r >>= fun _=>pure r) Q E q) E g:=by
  rw[t o i]
  exact wpAny_operating (wpAny_mono j (fun r q u=>wpAny_bind (wpAny_letTemporaryGo (wpAny_pure u))) fun _ _ x=>x)
 first
  |exact wpAny_pure (wpAny_bind m)
  |exact wpAny_bind (wpAny_pure (wpAny_bind m))
  |exact wpAny_bind m
theorem Aq{X:Cx}{c:List (Addr × Obj)}{f:St}{H:Hp}{s:Shared}{a:Addr}{y:V}{o:Option V}(I:Inv X c f H s)(g:yn H a y o):s.TypeIs (.ref a) "dict":=by
 rcases g with ⟨kvs,k,e,_,_⟩|⟨kvs,k,b,e,_,_,_⟩
 .obtain ⟨_,_,vs,_,dd⟩:=De I.hok e
  exact dd.typeIs
 .obtain ⟨_,_,xs,_,dd⟩:=BV I.hok e
  exact dd.typeIs
def Jh(g ty:TE):TE:=fun c H Q=>g c H fun x h=>ty c h fun y f=>∃a v,x=.ref a/\yn f a y (some v)/\Q v f
def B8(ty g:TE):TE:=fun c H Q=>ty c H fun y h=>g c h fun x f=>∃a o,x=.ref a/\yn f a y o/\Q (.bl (!o.isSome)) f
def FQ(g ty tv:TE):TS:=fun D c H=>tv c H fun v j=>g c j fun x i=>ty c i fun y h=>∃a f,x=.ref a/\DZ h a y v f/\D.nx c f
section
variable {X:Cx}{o i NV:Expr}{pos OP:Pos}{td ty tv:TE}
theorem Cq(r:X.A.units+1<cLine)(z:PE X o td)(hi:PE X i ty)(t:LM i):PE X (.Subscript o i pos) (Jh td ty):=by
 intro c s f H Q I h
 refine Ic PySem.F.slot_dict_getitem.lookup t (thn (z c s f H _ I h) fun u m ⟨x,G,E,p,q⟩=>thn (hi c m f G _ E q) fun O M ⟨y,F,j,n,a,v,ex,g,q2⟩=>?_)
 subst ex
 obtain rfl:u=Value.ref a:=p
 exact⟨Aq j g,D9 r j g n fun J L C B=>⟨v,F,C,B,q2⟩⟩
theorem DL(r:X.A.units+1<cLine)(hi:PE X i ty)(t:PE X o td):PC X .NotIn i o (B8 ty td):=by
 intro c s f H Q I h
 refine thn (hi c s f H _ I h) fun J j ⟨y,E,B,m,p⟩=>thn (t c j f E _ B p) fun u G ⟨x,C,z,n,a,q,ex,g,q2⟩=>?_
 subst ex
 obtain rfl:u=Value.ref a:=n
 exact HD r z g m fun F v=>⟨.bl (!q.isSome),C,v,rfl,q2⟩
theorem CI(B:X.A.units+1<cLine)(E:PE X o td)(hi:PE X i ty)(z:PE X NV tv)(C:swapsWith NV (some (.Subscript o i OP)) pos.line X.env=pure false) :
  PS X (.Assign [.Subscript o i OP] NV pos) (FQ td ty tv):=by
 intro c s f H D I h
 refine wpAny_Assign_Subscript (thn (z c s f H _ I h) fun r m ⟨v,P,L,q,t⟩=>thn (E c m f P _ L t) fun u j ⟨x,O,J,p,q2⟩=>thn (hi c j f O _ J q2) fun S R ⟨y,T,G,n,a,M,ex,g,q3⟩=>?_) C
 subst ex
 obtain rfl:u=Value.ref a:=p
 exact DU B G g n q fun Q F=>⟨f,M,F,q3⟩
end
theorem GQ{P:Program}{w:World}{H:Hp}(h:Heap)(hb:sysModules<h.objs.size):cD P w H (h.push { cls:=.type "dict",data:=.dict #[] }) h.objs.size (.dK []) :=
 ⟨Nx _,beq_eq_false_iff_ne.mpr (MF (Mr hb)),[],.nil,Heap.DictOf.new h⟩
def Fy:TE:=fun _ H Q=>∀p,H p=none->Q (.ref p) (upd H p (.dK []))
section
variable {X:Cx}{pos:Pos}
theorem z6:PE X (.Dict [] [] pos) Fy:=fun c s f H Q I h =>
 wpAny_Dict_empty ⟨.ref s.heap.objs.size,_,I.laid (a:=s.heap.objs.size) (o:=.dK []) (t':=s.toks) (fun _ _ q=>Heap.get?_push_of_some _ q) (Md _) (GQ s.heap I.big),rfl,h _ (I.hok.fresh (Md _))⟩
end
section
end
section
end
section
end
section
end
end L2
namespace L3
open PySem L2
def ST0(K:aad)(t:TS)(f Γn:aac)(d:DS):Prop :=
 ∀⦃B0:Hp⦄ ⦃Dn:Ends⦄ ⦃E:bB⦄ ⦃fps:Nat->List Addr⦄ ⦃δ:Dl⦄ ⦃c:St⦄ ⦃H:Hp⦄,(∀{fps δ H},Ok K B0 Γn fps δ c H->E.nx δ->Dn.nx c H)->Ok K B0 f fps δ c H->d E δ->t Dn c H
section
variable {K:aad}{ρ:Bool}{Γr Γl Γ Γn:aac}{t u:TS}{tb:TE}{dx:DE}{d e:DS}
variable {B0:Hp}{fps:Nat->List Addr}{δ:Dl}{σ:St}{H H':Hp}
theorem ST0.st(h:ST0 K t Γ Γn d):ST K ρ Γr Γl t Γ Γn d:=fun _ _ _ _ _ _ _ k o q=>h (fun c z=>k.nx c z) o q
def lp(δ:Dl)(i:Nat)(P:Addr->D->Prop):Prop:=match δ[i]? with|some (some (.pin a d))=>P a d|_=>False
theorem ju{i:Nat}{P:Addr->D->Prop}(h:lp δ i P):∃a d,δ[i]?=some (some (.pin a d))/\P a d:=by
 unfold lp at h;split at h
 .exact⟨_,_,by assumption,h⟩
 .exact h.elim
theorem GI{i:Nat}{P:Addr->D->Prop}{a:Addr}{x:D}(e:δ[i]?=some (some (.pin a x)))(h:P a x):lp δ i P:=by unfold lp;rw[e];exact h
theorem Ok.A2(o:Ok K B0 Γ fps δ σ H){i:Nat}{x y:D}(e:δ[i]?=some (some x))(h:∀v,σ[i]?=some (some v)->Rf K H x v (fps i)->Rf K H y v (fps i)):Ok K B0 Γ fps (δ.set i (some y)) σ H:=by
 have hl:i<δ.length:=(KE.mp e).1
 refine⟨by rw[MM];exact o.len,o.b0,fun j d q=>?_,fun j q=>?_,o.own,o.dj⟩
 .by_cases hj:j=i
  .subst hj
   rw[Ms hl] at q;cases q
   obtain ⟨v,c,f⟩:=o.val j x e
   exact⟨v,c,h v c f⟩
  .rw[L5 (MF hj)] at q
   exact o.val j d q
 .by_cases hj:j=i
  .subst hj
   exact absurd (Ms hl) (q y)
  .exact o.non j fun d z=>q d (by rw[L5 (MF hj)];exact z)
def IG(i:Nat)(d:DS)(E:bB)(δ:Dl):Prop:=lp δ i fun a x=>d { E with nx:=fun c=>mx i c fun f=>E.nx (c.set i (some (.pin a f))) } (δ.set i (some x))
theorem HH(i:Nat)(h:ST0 K t Γ Γn d):ST0 K t Γ Γn (IG i d):=by
 intro B0 Dn E fps δ σ H k o q
 obtain ⟨a,x,e,q⟩:=ju q
 obtain ⟨v,p,n⟩:=o.val i _ e
 obtain rfl:v=.ref a:=n.1
 have m:Ok K B0 Γ fps (δ.set i (some x)) σ H:=o.A2 e fun _ _ z=>z.2
 refine h (E:={ E with nx:=fun c=>mx i c fun f=>E.nx (c.set i (some (.pin a f))) }) (fun {u s B} j z=>?_) m q
 obtain ⟨f,e2,z⟩:=jv z
 exact k (j.A2 (y:=.pin a f) e2 fun v g r=>⟨by rw[p] at g;cases g;rfl,r⟩) z
theorem Kd(i:Nat)(h:ST0 K t Γ Γn d):ST K ρ Γr Γl t Γ Γn (IG i d):=(HH i h).st
def FI(i:Nat)(δ:Dl)(P:DK):Prop:=lp δ i fun _ x=>P x
theorem pf(i:Nat):ER K Γ (eT i) (FI i):=⟨fun δ P c k h=>by obtain ⟨a,x,e,z⟩:=ju h;exact GI e (k _ z),fun {B0 fps δ σ H Q} o q=>by
 obtain ⟨a,x,e,q⟩:=ju q
 obtain ⟨v,e1,r⟩:=o.val i _ e
 exact⟨v,e1,q v H (Same.refl H) ⟨_,r.2⟩⟩⟩
def D.isRef:D->Bool|.lst _=>true|.dic _=>true|.pin _ _=>true|.ins _ _ _=>true|_=>false
theorem Rf.isRef{x:D}{v:V}{fp:List Addr}(h:Rf K H x v fp)(e:x.isRef=true):∃a,v=.ref a:=by
 cases x with
 |lst ds=>obtain ⟨a,xs,c,rfl,_⟩:=h;exact⟨a,rfl⟩
 |dic ds=>obtain ⟨a,rfl,_⟩:=h;exact⟨a,rfl⟩
 |pin a d=>exact⟨a,h.1⟩
 |ins C ns ds=>obtain ⟨a,dx,xs,c,rfl,_⟩:=h;exact⟨a,rfl⟩
 |_=>cases e
abbrev DSI:=List D->(D->D->Prop)->Prop
def Ep(S:DSI):Prop:=∀xs (P c:D->D->Prop),(∀r x,P r x->c r x)->S xs P->S xs c
def EL(K:aad)(p:Nat)(vs:List V)(B:Hp)(Q:VK)(r c:D):Prop :=
 ∀w H' fp' fpw v,Same B H'->vs[p]?=some v->Rf K H' c v fp'->fp'.Nodup->(∀b∈fp',B b=none/\Mu H' b)->Rf K H' r w fpw->fpw.Nodup->(∀b∈fpw,B b=none/\Mu H' b/\b∉fp')->Q w H'
def spI(K:aad)(p:Nat)(S:DSI):Sp:=fun vs H Q _=>∃B c ds,Ok K B [p] c (ds.map some) (vs.map some) H/\(∃a,vs[p]?=some (.ref a))/\S ds (EL K p vs B Q)
theorem Ip{p:Nat}{S:DSI}{n:Nat}(c:∀ds P,S ds P->ds.length=n){vs:List V}{H:Hp}{Q:VK}{E:XK}(h:spI K p S vs H Q E):vs.length=n:=by
 obtain ⟨B,f,ds,o,_,h⟩:=h
 have:=o.len
 rw[mo,mo] at this
 rw[this];exact c _ _ h
abbrev Jq(p:Nat)(a:Addr)(P:D->D->Prop):bB:=⟨fun δ=>lp δ p fun c x=>c=a/\P .non x,fun r δ=>lp δ p fun c x=>c=a/\P r x,fun _=>False,fun _=>False⟩
theorem Dh{p:Nat}{N:List Str}{ds:List D}{vs:List V}{f:Nat->List Addr}{a:Addr}(o:Ok K B0 [p] f (ds.map some) (vs.map some) H)(ha:vs[p]?=some (.ref a)){x:D}(g:ds[p]?=some x) :
  Ok K B0 [p] f (aL N (ds.set p (.pin a x))) (L2.start N vs) H:=by
 have hl:vs.length=ds.length:=by have:=o.len;rwa [mo,mo] at this
 have m:p<ds.length:=(KE.mp g).1
 have c:Ok K B0 [p] f ((ds.map some).set p (some (.pin a x))) (vs.map some) H:=o.A2 (x:=x) (by rw[L4,g];rfl) fun v h r=>⟨by rw[L4,ha] at h;cases h;rfl,r⟩
 have e:(ds.map some).set p (some (.pin a x))=(ds.set p (.pin a x)).map some:=by rw[O2]
 rw[e] at c
 have j:(ds.set p (.pin a x)).length=ds.length:=MM
 generalize ds.set p (.pin a x)=ds1 at *
 unfold aL L2.start
 refine⟨by rw[Mg,Mg,mo,mo,Mt,Mt];omega,c.b0,fun i d q=>?_,fun i q=>?_,c.own,c.dj⟩
 .by_cases hi:i<ds1.length
  .rw[Mn (by simpa using hi)] at q
   rw[Mn (by rw[mo];omega)]
   exact c.val i d q
  .rw[MA (by simpa using hi),MQ] at q
   split at q<;>cases q
 .refine c.non i fun d z=>q d ?_
  have:i<ds1.length:=by simpa using (KE.mp z).1
  rw[Mn (by simpa using this)]
  exact z
theorem IK{N:List Str}{p:Nat}{S:DSI}(u:ST K true [p] [] t [p] Γn d)(hd:∀ds P a x,S ds P->ds[p]?=some x->d (Jq p a P) (aL N (ds.set p (.pin a x))))(F:p∈Γn:=by decide)(y:∀ds P,S ds P->p<ds.length) :
  ∀{vs H Q E},spI K p S vs H Q E->t { nx:=fun _ H'=>Q .non H',rt:=Q } (L2.start N vs) H:=by
 rintro vs H Q E ⟨B,L,ds,o,⟨a,ha⟩,h⟩
 have G:=y _ _ h
 obtain ⟨x,g⟩:∃x,ds[p]?=some x:=⟨_,gV G⟩
 have n:∀{Γ' fps δ σ H' r w fpw},p∈Γ'->Ok K B Γ' fps δ σ H'->Rf K H' r w fpw->fpw.Nodup->(∀b∈fpw,B b=none/\Mu H' b/\b∉fps p)->(lp δ p fun f x=>f=a/\EL K p vs B Q r x)->Q w H':=by
  intro Γ' fps δ σ H' r w fpw j c s nd fr z
  obtain ⟨f,I,e,C,q⟩:=ju z
  subst C
  obtain ⟨v,J,m⟩:=c.val p _ e
  obtain rfl:v=.ref f:=m.1
  exact q w H' (fps p) fpw (.ref f) c.b0 ha m.2 (c.own p j).1 (fun b hb=>(c.own p j).2 b hb) s nd fr
 refine u (E:=Jq p a (EL K p vs B Q)) ⟨fun c z=>?_,fun _ (z:False)=>z.elim,fun _ (z:False)=>z.elim,fun c r i z=>?_⟩ (Dh o ha g) (hd ds _ a x h g)
 .exact n (r:=.non) (w:=.non) (fpw:=[]) F c ⟨rfl,rfl⟩ Na (fun b hb=>(nomatch hb)) z
 .exact n (Gc.mpr rfl) c r (i rfl).nd (fun b hb=>⟨(i rfl).nw b hb,(i rfl).mu b hb,(i rfl).dj p (Gc.mpr rfl) b hb⟩) z
theorem Ok.less(o:Ok K B0 Γ fps δ σ H){i:Nat}(hi:i∈Γ):Same B0 (fun b=>if b∈fps i then none else H b)/\Same (fun b=>if b∈fps i then none else H b) H:=by
 have key:∀b u,B0 b=some u->b∉fps i:=fun b u e hb=>by
  have:=((o.own i hi).2 b hb).1
  rw[e] at this;cases this
 refine⟨⟨fun b u e n=>?_,fun b ps e=>?_,fun P t=>?_⟩,Same.all fun b u e=>?_⟩
 .show (if _ then _ else _)=_
  rw[if_neg (key b u e)]
  exact o.b0.st b u e n
 .obtain ⟨f,z⟩:=o.b0.tb b ps e
  refine⟨f,?_⟩
  show (if _ then _ else _)=_
  rw[if_neg (key b _ e)];exact z
 .obtain ⟨s,q,_⟩:=id t
  obtain ⟨ps,e,p,m⟩:=o.b0.ti P t
  refine⟨ps,?_,p,fun pos r z=>?_⟩
  .show (if _ then _ else _)=_
   rw[if_neg (key P _ q)];exact e
  .obtain ⟨c,h,g⟩:=m pos r z
   refine⟨c,h,?_⟩
   show (if _ then _ else _)=_
   rw[if_neg (fun j=>yo g ((o.own i hi).2 c j).2)];exact g
 .by_cases z:b∈fps i
  .simp only[if_pos z] at e;cases e
  .simp only[if_neg z] at e;exact e
end
end L3
namespace L2
open PySem PySem.Spec PyProof.Rows
section
variable {X:Cx}
def E7(K:aad):V->List V->Hp->VK->Prop:=fun x vs H Q=>∃(l:Addr) (xs:List V) (y:V) (j:Nat),x=.ref l/\vs=[y]/\H l=some (.lst xs)/\ib y=true/\xs.all ib=true/\(∃z,xs[j]?=some z/\eqV z y=true)/\(∀m z,m<j->xs[m]?=some z->eqV z y=false)/\Q (.int j) H
theorem zB:MtM X "list.index" (E7 X.K):=by
 intro g s P H x vs v us Q I p t h
 obtain ⟨l,xs,y,j,rfl,rfl,C,E,fs,⟨z,i,J⟩,hb,q⟩:=h
 cases p
 obtain ⟨u,rfl,B⟩:=vals1 t
 obtain ⟨R,f,n,r,hl,e⟩:=I.Bh C
 have hj:j<xs.length:=(KE.mp i).1
 have key:∀m (hm:m<f.toArray.size) w,xs[m]?=some w->eqU y f.toArray[m]=eqV w y:=fun m hm w hw=>by
  obtain ⟨o,M,O⟩:=r.get hw
  have G:ib w=true:=ML.mp fs w (MJ hw)
  have:f.toArray[m]=o:=by
   have:=(KE.mp M).2
   simpa using this
  rw[this]
  exact Bi O G
 have hsz:f.toArray.size=xs.length:=by simp [hl]
 refine call_meets F.slot_list_index ⟨_,e,rfl⟩ F.entry_list_index (F.args_list_index_2 _ _) (SeqAt.list_indexAt l f.toArray n none #[] u (eqU y) j (by omega) ?_ ?_ (fun m hm L=>?_)) ⟨e,fun w hw=>lO B E r fs w (by simpa using hw),?_⟩
 .have:sizeLine<2 ^ 63 - 1:=by decide
  omega
 .rw[key j (by omega) z i];exact J
 .have c:m<xs.length:=by omega
  rw[key m hm _ (gV c)]
  exact hb m _ L (gV c)
 .exact⟨.int j,H,I.tok _,⟨_,rfl⟩,q⟩
end
end L2
namespace L2
open PySem PySem.Spec PyProof.Rows
section
variable {X:Cx}{K:aad}
theorem xS(p:X.K=K):je X (.builtin "sorted") (fun xs H Q=>∃(a:Addr) (ns:aab),xs=[.ref a]/\SqL K H a (ns.map V.int)/\ns.length<64 /\
  ∀(l:Addr) (c:aab),H l=none->c.Perm ns->c.Pairwise (·<=·)->Q (.ref l) (upd H l (.lst (c.map V.int)))):=by
 subst p
 intro g s x H xs us Q I r h
 obtain ⟨a,ns,rfl,m,y,q⟩:=h
 obtain ⟨u,rfl,i⟩:=vals1 r
 obtain rfl:u=Value.ref a:=i
 obtain ⟨v,f,pl,_⟩:=I.list m
 have hl:=f.length
 rw[mo] at hl
 refine sorted_ints pl.isList (lC f) (by omega) fun out c a1 a2 t=>?_
 obtain ⟨n,j⟩:=sortedAll_at s.heap v out
 have hn:H (s.heap.objs.size+1)=none:=I.hok.fresh (Nd _)
 have z:=a2.length_eq
 refine⟨.ref (s.heap.objs.size+1),_,I.laid (t':=s.toks) (o:=.lst (c.map V.int)) (fun b o e=>sortedAll_old e) (Nd _) ⟨?_,out.toList,n,gU a1,?_⟩,rfl,q _ c hn a2 t⟩
 .rw[mo];exact small (by omega)
 .exact j
end
end L2
namespace L2
open PySem PySem.Spec PyProof.Rows
end L2
namespace L3
open PySem L2
section
variable {K:aad}{Γ:aac}{u:TS}{ta td ty tv:TE}{da dd dk dv:DE}{d e:DS}
def ofV:V->D|.non=>.non|.bl b=>.bl b|.int i=>.int i|.str x=>.str x|_=>.non
theorem Rf.ofV{H:Hp}{v:V}(h:ib v=true):Rf K H (ofV v) v []:=by
 cases v<;>first|exact⟨rfl,rfl⟩|cases h
theorem C9:EM K Γ [] Fy (vC (.dic [])):=⟨fun _ _ _ k h=>k _ h,fun {B0 fps δ f H Q} o q p c=>q (.ref p) _ [p] (Same.kj c) ⟨p,rfl,az,fun _ h=>(nomatch h),rfl⟩
 ⟨by simp,fun a ha=>by cases Gc.mp ha;exact .inr (.inl ⟨_,az⟩),fun a ha=>by cases Gc.mp ha;exact .inl c⟩⟩
def uY(x:D)(P:List (Key × V)->Prop):Prop:=match x with|.dic kvs=>P kvs|_=>False
theorem ie{x:D}{P:List (Key × V)->Prop}(h:uY x P):∃kvs,x=.dic kvs/\P kvs:=by
 unfold uY at h;split at h
 .exact⟨_,rfl,h⟩
 .exact h.elim
theorem v8{kvs:List (Key × V)}{P:List (Key × V)->Prop}:uY (.dic kvs) P↔P kvs:=MX
def asV(o:Option V)(P:V->Prop):Prop:=match o with|some v=>P v|none=>False
theorem Cu{o:Option V}{P:V->Prop}(h:asV o P):∃v,o=some v/\P v:=by
 unfold asV at h;split at h
 .exact⟨_,rfl,h⟩
 .exact h.elim
theorem xO{o:Option V}{v:V}{P:V->Prop}(e:o=some v)(h:P v):asV o P:=by rw[e];exact h
def EH(dd c:DE)(δ:Dl)(P:DK):Prop:=dd δ fun x=>c δ fun y=>asI [y] fun n=>uY x fun kvs=>asV (jJ kvs (.inl n)) fun v=>P (ofV v)
theorem Ej{kvs:List (Key × V)}{k:Key}{v:V}(h:jJ kvs k=some v):∃p∈kvs,p.2=v:=by
 unfold jJ at h
 cases q:kvs.find? fun c=>decide (c.1=k) with
 |none=>rw[q] at h;cases h
 |some p=>rw[q] at h;cases h;exact⟨p,List.mem_of_find?_eq_some q,rfl⟩
theorem Cn(hd:ER K Γ td dd)(c:ER K Γ ty dk):ER K Γ (Jh td ty) (EH dd dk) :=
 ⟨fun δ P t k h=>hd.mono _ _ _ (fun x z=>c.mono _ _ _ (fun y z=>by
   obtain ⟨n,rfl,z⟩:=bP z
   obtain ⟨kvs,rfl,z⟩:=ie z
   obtain ⟨v,e,z⟩:=Cu z
   exact xO e (k _ z)) z) h,
 fun {B0 fps δ s H Q} o h=>hd.run o (hd.mono _ _ _ (fun x z v B g j=>c.run (o.same g) (c.mono _ _ _ (fun y z w r f i=>by
   obtain ⟨n,rfl,z⟩:=bP z
   obtain ⟨kvs,rfl,z⟩:=ie z
   obtain ⟨u,e,z⟩:=Cu z
   obtain ⟨fp,a,rfl,ha,q,_⟩:=j
   obtain ⟨p,m,rfl⟩:=Ej e
   refine⟨a,p.2,rfl,?_,z _ r (g.trans f) ⟨[],Rf.ofV (q p m)⟩⟩
   rw[i.int]
   have:=yn.k (k:=Sum.inl n) (f.st _ _ ha trivial)
   rw[e] at this
   exact this) z)) h)⟩
def KC(f:Bool)(c dd:DE)(δ:Dl)(P:DK):Prop:=c δ fun y=>dd δ fun x=>asI [y] fun n=>uY x fun kvs=>P (.bl (if f then !(jJ kvs (.inl n)).isSome else (jJ kvs (.inl n)).isSome))
theorem Dz(c:ER K Γ ty dk)(hd:ER K Γ td dd):EM K Γ [] (B8 ty td) (KC true dk dd) :=
 ⟨fun δ P r k h=>c.mono _ _ _ (fun x z=>hd.mono _ _ _ (fun y z=>by
   obtain ⟨n,rfl,z⟩:=bP z
   obtain ⟨kvs,rfl,z⟩:=ie z
   exact k _ z) z) h,
 fun {B0 fps δ p H Q} o h=>c.run o (c.mono _ _ _ (fun x z v s f j=>hd.run (o.same f) (hd.mono _ _ _ (fun y z w m g i=>by
   obtain ⟨n,rfl,z⟩:=bP z
   obtain ⟨kvs,rfl,z⟩:=ie z
   obtain ⟨fp,a,rfl,ha,q,_⟩:=i
   rw[j.int]
   exact⟨a,_,rfl,yn.k (k:=Sum.inl n) ha,z _ m [] (f.trans g) ⟨rfl,rfl⟩ Nw.nil⟩) z)) h)⟩
theorem wN{kvs:List (Key × V)}{k:Key}{v:V}(h:∀p∈kvs,ib p.2=true)(f:ib v=true):∀p∈putK kvs k v,ib p.2=true:=by
 intro p c
 unfold putK at c
 split at c
 .obtain ⟨q,g,rfl⟩:=Mb.mp c
  split
  .exact f
  .exact h q g
 .rcases Ma.mp c with z|z
  .exact h p z
  .cases Gc.mp z;exact f
def FC(δ:Dl)(i:Nat)(P:List (Key × V)->Prop):Prop:=mx i δ fun x=>uY x P
def En(i:Nat)(f c:DE)(E:bB)(δ:Dl):Prop:=c δ fun x=>x.aQ=true/\FC δ i fun kvs=>f δ fun y=>asI [y] fun n=>kvs.length<1000/\E.nx (δ.set i (some (.dic (putK kvs (.inl n) x.toV))))
theorem E4(i:Nat)(m:ER K Γ ty dk)(j:ER K Γ tv dv)(hi:i∈Γ:=by decide):ST0 K (FQ (eT i) ty tv) Γ Γ (En i dk dv):=by
 intro B0 Dn E fps δ G H k o h
 refine j.run o (j.mono _ _ _ (fun x z v I s r=>?_) h)
 obtain ⟨f,z⟩:=z
 obtain ⟨fp,r⟩:=r
 obtain ⟨rfl,rfl⟩:=r.aQ f
 obtain ⟨d,e,z⟩:=jv z
 obtain ⟨kvs,rfl,z⟩:=ie z
 have c:=o.same s
 obtain ⟨v,p,C⟩:=c.val i _ e
 obtain ⟨a,rfl,ha,B,q⟩:=id C
 refine⟨.ref a,p,m.run c (m.mono _ _ _ (fun y z w F g t=>?_) z)⟩
 obtain ⟨n,rfl,z⟩:=bP z
 have u:=c.same g
 refine⟨a,upd F a (.dK (putK kvs (.inl n) x.toV)),rfl,?_,k (u.write hi (d':=.dic (putK kvs (.inl n) x.toV)) (fp':=[a]) p ⟨a,rfl,az,wN B (jr f),rfl⟩ (by simp) (fun b hb=>?_) (fun b hb=>?_) ?_) z.2⟩
 .rw[t.int]
  exact DZ.k (k:=Sum.inl n) (g.st _ _ ha trivial) (rF (N7 z.1))
 .cases Gc.mp hb;exact .inr (.inl ⟨_,az⟩)
 .cases Gc.mp hb;rw[q];exact .inl (Gc.mpr rfl)
 .rw[q];exact tq (Gc.mpr rfl)
def AH(f c:DE)(δ:Dl)(P:DK):Prop:=f δ fun x=>pA (some x) fun ds=>ds.all D.aQ=true/\c δ fun y=>y.aQ=true/\∃j:Nat,(∃z,ds[j]?=some z/\eqV z.toV y.toV=true)/\(∀m z,m<j->ds[m]?=some z->eqV z.toV y.toV=false)/\P (.int j)
theorem zC(ha:ER K Γ ta da)(p:ER K Γ ty dk):EM K Γ [] (tBM K "list" (E7 K) ta (cY ty kP)) (AH da dk) :=
 ⟨fun δ P O k h=>ha.mono _ _ _ (fun x z=>by
   obtain ⟨ds,e,c,z⟩:=lK z
   refine pB e ⟨c,p.mono _ _ _ (fun y z=>?_) z⟩
   obtain ⟨f,j,t,i,g⟩:=z
   exact⟨f,j,t,i,k _ g⟩) h,
 fun {B0 fps δ L H Q} o h=>by
  refine ha.run o (ha.mono _ _ _ (fun x z v R s C=>?_) h)
  obtain ⟨ds,e,c,B⟩:=lK z
  clear z
  cases e
  obtain ⟨fp,a,xs,M,rfl,hl,_,rs⟩:=C
  obtain ⟨rfl,_⟩:=rs.jb c
  refine⟨.inl ⟨rfl,_,.inl (.inl hl)⟩,p.run (o.same s) (p.mono _ _ _ (fun y z w J r n=>?_) B)⟩
  obtain ⟨f,j,⟨u,F,I⟩,i,g⟩:=z
  obtain ⟨G,n⟩:=n
  obtain ⟨rfl,_⟩:=n.aQ f
  refine⟨a,_,_,j,rfl,rfl,r.st _ _ hl trivial,jr f,?_,⟨u.toV,by rw[L4,F];rfl,I⟩,fun m w hm hw=>?_,g _ J [] (s.trans r) ⟨rfl,rfl⟩ Nw.nil⟩
  .rw[NL,ML]
   rw[ML] at c
   exact fun y E=>jr (c y E)
  .rw[L4] at hw
   cases q:ds[m]? with
   |none=>rw[q] at hw;cases hw
   |some d=>rw[q] at hw;cases hw;exact i m d hm q⟩
def Cp(xs:List D)(P:DK):Prop:=match xs with|[x]=>Ak x fun ns=>ns.length<64/\∀c:aab,c.Perm ns->c.Pairwise (·<=·)->P (dI c)|_=>False
theorem uf{ns:aab}{P:DK}:Cp [dI ns] P↔ns.length<64/\∀c:aab,c.Perm ns->c.Pairwise (·<=·)->P (dI c):=jn
theorem J2:n0 K (fun xs H Q=>∃(a:Addr) (ns:aab),xs=[.ref a]/\SqL K H a (ns.map V.int)/\ns.length<64/\∀(l:Addr) (c:aab),H l=none->c.Perm ns->c.Pairwise (·<=·)->Q (.ref l) (upd H l (.lst (c.map V.int)))) Cp :=
 ⟨fun xs P n k h=>by
  unfold Cp at h ⊢
  revert h
  split
  .exact fun h=>by obtain ⟨ns,e,z⟩:=fO h;exact qx e ⟨z.1,fun c a b=>k _ (z.2 c a b)⟩
  .exact id,
 fun {H xs vs Q} r h=>by
  unfold Cp at h
  split at h
  .obtain ⟨v,rfl,g⟩:=r.one
   obtain ⟨ns,e,z⟩:=fO h
   obtain ⟨a,ys,m,rfl,f,hr⟩:=g.seq e
   rw[hr.wm] at f
   exact⟨a,ns,rfl,f,z.1,fun l c hl i j=>z.2 c i j _ _ [l] (Same.kj hl) (Rf.ofInts az) (Nw.one hl az).any⟩
  .exact h.elim⟩
theorem wa{ds:List D}:(D.lst ds).isRef=true:=rfl
theorem wD{ds:List (Key × V)}:(D.dic ds).isRef=true:=rfl
theorem CU{i:Int}:ofV (.int i)=.int i:=rfl
theorem F6{b:Bool}:ofV (.bl b)=.bl b:=rfl
theorem BO:ofV .non=.non:=rfl
def Lh(xs:List D)(P:DK):Prop:=match xs with|[.dic kvs]=>P (.int kvs.length)|_=>False
theorem wX{kvs:List (Key × V)}{P:DK}:Lh [.dic kvs] P↔P (.int kvs.length):=MX
end
end L3
namespace Mat
theorem wC:∀{l l':aac},l.Nodup->(∀x∈l,x∈l')->l.length<=l'.length
 |[],_,_,_=>Nx _
 |x::l,l',h,s=>by
  obtain ⟨i,g⟩:=Mi.mp h
  have f:=s x ox
  have:=wC (l':=l'.erase x) g fun y c=>(List.mem_erase_of_ne (fun z=>i (by rw[<- z];exact c))).mpr (s y (Fk _ c))
  rw[List.length_erase_of_mem f] at this
  have:0<l'.length:=List.length_pos_of_mem f
  rw[L8];omega
theorem tO{l:aac}{n:Nat}(h:l.Nodup)(hl:∀x∈l,x<n):l.length<=n:=by
 have:=wC h (l':=List.range n) fun x c=>Mh.mpr (hl x c)
 rwa [L9] at this
end Mat
namespace Mat
end Mat
namespace Mat
end Mat
namespace L2
open PySem PySem.Spec PyProof.Rows
theorem qq.cons{i k:Nat}{u:TGs}(h:i<k)(m:qq k u):qq k (F3 (gn i) u):=fun x f H Q ⟨v,r,e,q⟩=>⟨v,r,e,by
 have q2:=m r (f.set i (some v)) H Q q
 have e1:(fun (c:St) (g:Hp)=>Q c g/\c.length=(f.set i (some v)).length/\∀j,k<=j->c[j]?=(f.set i (some v))[j]?)=fun c g=>Q c g/\c.length=f.length/\∀j,k<=j->c[j]?=f[j]?:=by
  funext c g
  refine propext ⟨fun z=>⟨z.1,by rw[z.2.1,MM],fun j hj=>by rw[z.2.2 j hj,L5 (by omega)]⟩,fun z=>⟨z.1,by rw[z.2.1,MM],fun j hj=>by rw[z.2.2 j hj,L5 (by omega)]⟩⟩
 rw[e1] at q2
 exact q2⟩
theorem ma.tup{K:aad}{k n:Nat}{u:TGs}(f:qq k u):ma k (HF K n u):=fun x c H Q ⟨a,xs,e,g,hl,q⟩=>⟨a,xs,e,g,hl,f xs c H Q q⟩
end L2
namespace L3
open PySem L2
section
variable {K:aad}{Γ:aac}{d e:DS}
theorem Ok.K0{B0:Hp}{fps:Nat->List Addr}{δ:Dl}{c σ':St}{H:Hp}(o:Ok K B0 Γ fps δ c H)(j:Nat)(hj:j∉Γ)(hl:σ'.length=c.length)(f:∀l,l≠j->σ'[l]?=c[l]?):Ok K B0 Γ (fun i=>if i=j then [] else fps i) (δ.set j none) σ' H:=by
 refine⟨by simp [o.len,hl],o.b0,fun i d e=>?_,fun i h=>?_,fun i hi=>?_,fun i hi k g a ha=>?_⟩
 .by_cases h:i=j
  .subst h
   rw[MR] at e
   by_cases hl:i<δ.length
   .simp [hl] at e
   .simp [hl] at e
  .rw[L5 (MF h)] at e
   rw[f i h,if_neg h]
   exact o.val i d e
 .by_cases h':i=j
  .rw[if_pos h']
  .rw[if_neg h'];exact o.non i fun d z=>h d (by rw[L5 (MF h')];exact z)
 .have h:i≠j:=fun z=>hj (by rw[<- z];exact hi)
  rw[if_neg h];exact o.own i hi
 .have h:i≠j:=fun z=>hj (by rw[<- z];exact hi)
  rw[if_neg h] at ha
  split
  .exact Mo
  .exact o.dj i hi k g a ha
end
end L3
namespace L3
open PySem L2
end L3
namespace Bir
section
variable {κ:Type}[DecidableEq κ]
end
end Bir
namespace Bir
open L3
end Bir
namespace L2
open PySem
end L2
namespace L3
open PySem L2
section
variable {K:aad}{Γ:aac}{u:TS}{ta ti:TE}{da di:DE}{d e:DS}
theorem Rfs.IE{H:Hp}:∀{ds:List D}{vs:List V}{fp:List Addr}{i:Nat}{d:D},Rfs K H ds vs fp->fp.Nodup->ds[i]?=some d->∃v f,vs[i]?=some v/\Rf K H d v f/\(∀a∈f,a∈fp)/\f.Nodup
 |[],_,_,_,_,_,_,e=>by simp at e
 |d::ds,vs,fp,0,d',h,n,e=>by
  obtain ⟨x,r,j,p,rfl,rfl,g,c⟩:=h
  simp at e;subst e
  exact⟨x,j,rfl,g,fun a ha=>Me _ ha,(Mm.mp n).1⟩
 |d::ds,vs,fp,i+1,d',h,n,e=>by
  obtain ⟨x,r,j,p,rfl,rfl,g,c⟩:=h
  obtain ⟨v,f,e1,o,k,m⟩:=Rfs.IE (i:=i) c (Mm.mp n).2.1 (by simpa using e)
  exact⟨v,f,by simpa using e1,o,fun a ha=>L1 _ (k a ha),m⟩
theorem Fe{x y:D}{P:DK}(h:rq x y P):∃ds i d,x=.tup ds/\y=.int i/\atI ds i=some d/\P d:=by
 unfold rq at h
 split at h
 .split at h
  .exact⟨_,_,_,rfl,rfl,by assumption,h⟩
  .exact h.elim
 .exact h.elim
theorem JT{ds:List D}{i:Int}{d:D}{P:DK}(e:atI ds i=some d)(h:P d):rq (.tup ds) (.int i) P:=by
 show (match atI ds i with|some d=>P d|none=>False)
 rw[e];exact h
theorem Fp(ha:EM K Γ [] ta da)(hi:ER K Γ ti di):EM K Γ [] (tOp (yb K) ta ti) (vOp rq da di) :=
 ⟨fun δ P J k h=>ha.mono _ _ _ (fun x z=>hi.mono _ _ _ (fun y z=>by
   obtain ⟨ds,i,d,rfl,rfl,e,m⟩:=Fe z
   exact JT e (k _ m)) z) h,
 fun {B0 fps δ I H Q} o h=>ha.run o (ha.mono _ _ _ (fun x z v L fp p B n1=>hi.run (o.same p) (hi.mono _ _ _ (fun y z w G g t=>by
   obtain ⟨ds,i,d,rfl,rfl,c,m⟩:=Fe z
   obtain ⟨a,xs,rfl,ha,hr⟩:=B
   have F:∃j,ixN ds.length i=some j/\ds[j]?=some d:=by
    unfold atI at c
    cases q:ixN ds.length i with
    |none=>rw[q] at c;cases c
    |some j=>rw[q] at c;exact⟨j,rfl,c⟩
   obtain ⟨j,E,n⟩:=F
   obtain ⟨u,f,C,s,r,hn⟩:=hr.IE n1.nd n
   exact⟨a,xs,i,u,rfl,t.int,.inl (.inl (g.st _ _ ha trivial)),by unfold atI;rw[hr.length,E];exact C,m u G f (p.trans g) (s.same g) ⟨hn,fun b hb=>(n1.mu b (r b hb)).same g,fun b hb=>n1.src b (r b hb)⟩⟩) z)) h)⟩
def J9(xs:List D)(P:DK):Prop:=match xs with|[x]=>asL x fun ds=>ds.all D.aQ=true/\P (.tup ds)|_=>False
theorem tP{ds:List D}{P:DK}:J9 [.lst ds] P↔ds.all D.aQ=true/\P (.tup ds):=MX
def Lo(x:D)(P:aab->Prop):Prop:=match x with|.tup ds=>(match iZ ds with|some ns=>P ns|none=>False)|_=>False
theorem Cm{ns:aab}{P:aab->Prop}:Lo (.tup (ns.map D.int)) P↔P ns:=by
 unfold Lo
 show (match iZ (ns.map D.int) with|some ns=>P ns|none=>False)↔P ns
 rw[jP]
def K2(x:D)(P:List (List Key × V)->Prop):Prop:=match x with|.dit kvs=>P kvs|_=>False
theorem wM{kvs:List (List Key × V)}{P:List (List Key × V)->Prop}:K2 (.dit kvs) P↔P kvs:=MX
end
end L3
namespace L3
open PySem L2
section
def K4(xs:List D)(P:DK):Prop:=match xs with|[x]=>asL x fun ds=>P (.tup ds)|_=>False
theorem vM{ds:List D}{P:DK}:K4 [.lst ds] P↔P (.tup ds):=MX
end
end L3
namespace L3
open PySem L2
section
end
end L3
namespace L2
open PySem PySem.Spec PyProof.Rows
theorem aX{X:Cx}{K:aad}{e:Expr}{f:Str}{pos:Pos}{c:TE}(h:X.K=K)(g:PE X e c)(hb:attributeBase e f X.env (eval e X.env)=eval e X.env):PE X (.Attribute e f pos) (xu K c f):=h▸J6 g hb
theorem ji{X:Cx}{K:aad}{o c:Expr}{f:Str}{pos h:Pos}{g tv:TE}(m:X.K=K)(ha:PE X o g)(i:PE X c tv)(j:swapsWith c (some (.Attribute o f h)) pos.line X.env=pure false):PS X (.Assign [.Attribute o f h] c pos) (Az K g tv f):=m▸KU ha i j
structure qR(K:aad)(C:Addr)(x qual:Str)(st:Stmt)(ps:List Str)(f:Addr)(fd:FuncData):Prop where
 fn:Fun K x qual st f fd
 mt:Meth K C x f
 bd:Binds K fd ps []
structure Bg(K:aad)(mg:Str->Option Value)(n:Str)(C:Addr)(qual:Str)(st:Stmt)(ps:List Str)(f:Addr)(fd:FuncData):Prop where
 fn:Fun K "__init__" qual st f fd
 mkk:Mk K C f
 bd:Binds K fd ps []
 mg:mg n=some (.ref C)
structure Hj(K:aad)(C:Addr):Prop where
 cl:Cls K C
 ha:PySem.W.findIn K (.ref C) "__class__" = some (some (.builtin "object.__class__"))
 hn:PySem.W.specialIn K (.builtin "object.__class__") "__get__" = some (some (.builtin "getset_descriptor.__get__"))
 ht:PySem.W.takesIn K (.builtin "object.__class__")=some true
 hm:PySem.W.mroIn K C (.type "object")=some true
theorem bz{f:Str}{v:V}:∀{ns:List Str}{xs:List V}{i:Nat},ns.Nodup->ns[i]?=some f->xs[i]?=some v->(ns.zip xs).lookup f=some v
 |[],_,i,_,e,_=>by simp at e
 |_::_,[],i,_,_,e=>by simp at e
 |n::ns,x::xs,0,_,e1,e2=>by
  simp at e1 e2
  subst e1;subst e2
  simp
 |n::ns,x::xs,i+1,hd,e1,e2=>by
  obtain ⟨g,c⟩:=Mi.mp hd
  simp only[List.getElem?_cons_succ] at e1 e2
  have h:f≠n:=fun z=>g (z▸MJ e1)
  rw[Oo,N9,beq_eq_false_iff_ne.mpr h]
  exact bz c e1 e2
theorem fP{f:Str}:∀{ns:List Str}{xs:List V},f∉ns->(ns.zip xs).lookup f=none
 |[],_,_=>by simp
 |_::_,[],_=>by simp
 |n::ns,x::xs,h=>by
  have c:f≠n:=fun z=>h (z▸ox)
  rw[Oo,N9,beq_eq_false_iff_ne.mpr c]
  exact fP fun z=>h (Fk _ z)
theorem yH{f:Str}{v:V}:∀{ns:List Str}{xs:List V},f∉ns->ns.length=xs.length->kN f v (ns.zip xs)=(ns++[f]).zip (xs++[v])
 |[],[],_,_=>rfl
 |[],_::_,_,h=>by simp at h
 |_::_,[],_,h=>by simp at h
 |n::ns,x::xs,h,hl=>by
  have c:n≠f:=fun z=>h (z▸ox)
  rw[Oo,kN,if_neg c,yH (fun z=>h (Fk _ z)) (by simpa using hl)]
  rfl
end L2
namespace L3
open PySem L2
section
variable {K:aad}{Γ:aac}{t u ta:TE}{d e da:DE}{C:Addr}{ns:List Str}{f:Str}
def asF(C:Addr)(ns:List Str)(i:Nat)(x:D)(P:DK):Prop:=match x with|.ins f c ds=>(f=C/\c=ns)/\asO (ds[i]?) P|_=>False
theorem xF{ds:List D}{i:Nat}{P:DK}:asF C ns i (.ins C ns ds) P=asO (ds[i]?) P:=by
 unfold asF
 simp
theorem xY{x:D}{i:Nat}{P:DK}(h:asF C ns i x P):∃ds y,x=.ins C ns ds/\ds[i]?=some y/\P y:=by
 cases x with
 |ins f c ds =>
  obtain ⟨⟨rfl,rfl⟩,h⟩:=h
  obtain ⟨y,e,h⟩:=IL h
  exact⟨ds,y,rfl,e,h⟩
 |_=>exact h.elim
theorem Ap{x:D}{i:Nat}{P c:DK}(k:∀z,P z->c z)(h:asF C ns i x P):asF C ns i x c:=by
 obtain ⟨ds,y,rfl,e,h⟩:=xY h
 rw[xF,e]
 exact k _ h
def HU(C:Addr)(ns:List Str)(i:Nat)(c:DE)(δ:Dl)(P:DK):Prop:=c δ fun x=>asF C ns i x P
theorem Ka(ns:List Str)(i:Nat)(m:Cls K C)(hn:bW K C f)(ha:ER K Γ ta da)(hi:ns[i]?=some f:=by rfl)(hd:ns.Nodup:=by decide +kernel):ER K Γ (xu K ta f) (HU C ns i da) :=
 ⟨fun δ P t k h=>ha.mono _ _ _ (fun x z=>Ap k z) h,
 fun o q=>ha.run o (ha.mono _ _ _ (fun x z v r c j=>by
  obtain ⟨ds,y,rfl,e,z⟩:=xY z
  obtain ⟨fp,a,dx,xs,s,rfl,n,_,hr⟩:=j
  obtain ⟨w,p,e1,g,_⟩:=hr.get e
  exact⟨a,C,dx,_,w,rfl,n,m,hn,bz hd hi e1,z w r c ⟨p,g⟩⟩) q)⟩
theorem cf(ns:List Str)(i:Nat)(n:Cls K C)(hn:bW K C f)(ha:ES K Γ ta da)(hi:ns[i]?=some f:=by rfl)(hd:ns.Nodup:=by decide +kernel):ES K Γ (xu K ta f) (HU C ns i da) :=
 ⟨fun δ P u k h=>ha.mono _ _ _ (fun x z=>Ap k z) h,
 fun o q=>ha.run o (ha.mono _ _ _ (fun x z v s fp c m n1=>by
  obtain ⟨ds,y,rfl,e,z⟩:=xY z
  obtain ⟨a,dx,xs,t,rfl,p,rfl,hr⟩:=m
  obtain ⟨w,r,e1,g,k⟩:=hr.get e
  exact⟨a,C,dx,_,w,rfl,p,n,hn,bz hd hi e1,z w s r c g fun j hj b hb=>n1 j hj b (Fk _ (k b hb))⟩) q)⟩
def isI(C:Addr)(ns:List Str)(x:D):Prop:=match x with|.ins f c _=>f=C/\c=ns|_=>False
theorem CH{ds:List D}:isI C ns (.ins C ns ds)=True:=by
 unfold isI
 simp
theorem IA{x:D}(h:isI C ns x):∃ds,x=.ins C ns ds:=by
 cases x with
 |ins f c ds=>obtain ⟨rfl,rfl⟩:=h;exact⟨ds,rfl⟩
 |_=>exact h.elim
def GD(C:Addr)(ns:List Str)(S:DSp)(f:DE)(c:DA)(δ:Dl)(P:DK):Prop:=f δ fun x=>isI C ns x/\c δ fun xs=>S (x::xs) P
theorem CV{m:Str}{S:DSp}{E:XK}{w:TA}{t:DA}(ns:List Str)(i:bt S)(ha:ER K Γ ta da)(hr:AR K Γ w t)(hm:m∉ns:=by decide +kernel):EM K Γ [] (yU C m (spP K S) [] E ta w) (GD C ns S da t) :=
 ⟨fun δ P U k h=>ha.mono _ _ _ (fun x z=>⟨z.1,hr.mono _ _ _ (fun y z=>i _ _ _ k z) z.2⟩) h,
 fun {B0 fps δ O H Q} o q=>ha.run o (ha.mono _ _ _ (fun x z v Y f g=>by
  obtain ⟨F,B⟩:=z
  obtain ⟨ds,rfl⟩:=IA F
  obtain ⟨fp,a,dx,xs,T,rfl,J,e,R⟩:=id g
  refine⟨a,dx,_,rfl,J,fP hm,hr.run (o.same f) (hr.mono _ _ _ (fun ys z vs X c I=>?_) B)⟩
  obtain ⟨p,M⟩:=g.same c
  obtain ⟨j,L⟩:=I
  exact⟨.ins C ns ds::ys,⟨p++j,_,_,p,j,by rw[MV],rfl,M,L⟩,(o.b0.trans (f.trans c)).now,i _ _ _ (fun u z G H' fp s r n=>z G H' fp ((f.trans c).trans s) r (n.any.later (f.trans c))) z⟩) q)⟩
def spN(K:aad)(C:Addr)(S:DSp):Sp:=fun vs H Q _=>∃(x dx:Addr) (ws:List V) (ds:List D) (B0:Hp),vs=.ref x::ws/\B0 x=none/\H=upd B0 x (.ins C dx [])/\Rps K B0 ds ws/\gB K B0 /\
 S ds fun d=>∀ns xs dd c H',d=.ins C ns dd->Same B0 H'->H' x=some (.ins C dx (ns.zip xs))->Rfs K H' dd xs c->c.Nodup->(∀a∈c,B0 a=none/\a≠x/\Mu H' a)->Q .non H'
theorem Hg{S:DSp}{n:Nat}(h:∀ds P,S ds P->ds.length=n){vs:List V}{H:Hp}{Q:VK}{E:XK}(k:spN K C S vs H Q E):vs.length=n+1:=by
 obtain ⟨x,dx,ws,ds,B0,rfl,_,_,r,_,c⟩:=k
 obtain ⟨fp,r⟩:=r
 rw[L8,r.length,h _ _ c]
structure INI(K:aad)(C:Addr)(t:TS)(ns:List Str)(d:DA):Prop where
 mono:∀δ (P P':List D->Prop),(∀x,P x->P' x)->d δ P->d δ P'
 run:∀{B0 fps δ σ H x dx ns0 xs0 ds0 fq0 Dn},Ok K B0 [] fps δ σ H->σ[0]?=some (some (.ref x))->H x=some (.ins C dx (ns0.zip xs0))->B0 x=none->ns0.length=xs0.length->Rfs K H ds0 xs0 fq0->fq0.Nodup ->
  (∀a∈fq0,B0 a=none/\a≠x/\Mu H a)->(∀i,x∉fps i)->(∀n∈ns,n∉ns0)->(ns0++ns).Nodup->(ns0++ns).length<=100 ->
  d δ (fun ds=>∀H' xs fq,Same B0 H'->H' x=some (.ins C dx ((ns0++ns).zip xs))->Rfs K H' (ds0++ds) xs fq->fq.Nodup->(∀a∈fq,B0 a=none/\a≠x/\Mu H' a)->Dn.nx σ H')->t Dn σ H
theorem Rfs.snoc{H:Hp}:∀{ds:List D}{xs:List V}{c:List Addr}{d:D}{v:V}{fp:List Addr},Rfs K H ds xs c->Rf K H d v fp->Rfs K H (ds++[d]) (xs++[v]) (c++fp)
 |[],xs,c,d,v,fp,h,r=>by
  obtain ⟨rfl,rfl⟩:=h
  exact⟨v,[],fp,[],rfl,by simp,r,rfl,rfl⟩
 |n::ds,xs,c,d,v,fp,h,r=>by
  obtain ⟨x,f,m,j,rfl,rfl,i,g⟩:=h
  exact⟨x,f++[v],m,j++fp,rfl,by simp,i,g.snoc r⟩
theorem tK{f:Str}(P:Cls K C)(hn:bW K C f)(I:EM K [] [] ta da){B0:Hp}{fps:Nat->List Addr}{δ:Dl}{j:St}{H:Hp}{x dx:Addr}{ns0:List Str}{xs0:List V}{ds0:List D}{fq0:List Addr}{Dn:Ends}
  (o:Ok K B0 [] fps δ j H) (Q:j[0]?=some (some (.ref x))) (G:H x=some (.ins C dx (ns0.zip xs0))) (hb:B0 x=none) (hl:ns0.length=xs0.length) (hr:Rfs K H ds0 xs0 fq0) (S:fq0.Nodup)
  (c:∀a∈fq0,B0 a=none/\a≠x/\Mu H a) (R:∀i,x∉fps i) (O:f∉ns0) (T:ns0.length<100)
  (q:da δ fun y=>∀H' v t,Ok K B0 [] fps δ j H'->H' x=some (.ins C dx ((ns0++[f]).zip (xs0++[v])))->Rfs K H' (ds0++[y]) (xs0++[v]) t->t.Nodup->(∀a∈t,B0 a=none/\a≠x/\Mu H' a)->Dn.nx j H'):Az K (eT 0) ta f Dn j H:=by
 refine I.run o (I.mono _ _ _ (fun y z v g fp n M n1=>?_) q)
 have B:=n.st _ _ G trivial
 refine⟨.ref x,Q,x,C,dx,_,rfl,B,P,hn,by rw[List.length_zip];omega,?_⟩
 rw[yH O hl]
 have E:x∉fp:=fun h=>by have:=n1.fresh x h;rw[G] at this;cases this
 have keep:∀a,a≠x->upd g x (.ins C dx ((ns0++[f]).zip (xs0++[v]))) a=g a:=fun a ha=>aG ha
 have F:∀a w,g a=some w->Im w->upd g x (.ins C dx ((ns0++[f]).zip (xs0++[v]))) a=some w:=fun a w e hi=>by
  have:a≠x:=fun z=>by
   subst z
   rw[B] at e
   cases e
   rcases hi with ⟨_,z⟩|⟨_,_,z⟩|⟨_,_,z⟩<;>cases z
  rw[keep a this];exact e
 have J:∀a,a≠x->Mu g a->Mu (upd g x (.ins C dx ((ns0++[f]).zip (xs0++[v])))) a:=fun a ha m=>m.upd (.inr (.inr (.inr ⟨_,_,_,rfl⟩)))
 have p:=o.same n
 refine z _ v (fq0++fp) ⟨p.len,p.b0.keep (fp:=[x]) (fun a ha=>by cases Gc.mp ha;exact⟨hb,.inr (.inr (.inr ⟨_,_,_,B⟩))⟩) (fun a u hn e=>by rw[keep a (fun z=>hn (z▸Gc.mpr rfl))];exact e),fun i dd e=>?_,p.non,fun _ h=>(nomatch h),fun _ h=>(nomatch h)⟩ az (Rfs.snoc ((hr.same n).mono (fun a ha w e=>by rw[keep a (c a ha).2.1];exact e) F) (M.mono (fun a ha w e=>by rw[keep a (fun z=>E (z▸ha))];exact e) F)) ?_ fun a ha=>?_
 .obtain ⟨L,s,r⟩:=p.val i dd e
  exact⟨L,s,r.mono (fun a ha w e=>by rw[keep a (fun z=>R i (z▸ha))];exact e) F⟩
 .refine Mm.mpr ⟨S,n1.nd,fun a s b r e=>?_⟩
  subst e
  exact (c a s).2.2.some (n1.fresh a r)
 .rcases Ma.mp ha with h|h
  .exact⟨(c a h).1,(c a h).2.1,J a (c a h).2.1 ((c a h).2.2.same n)⟩
  .exact⟨o.b0.free (n1.fresh a h),fun z=>E (z▸h),J a (fun z=>E (z▸h)) (n1.mu a h)⟩
theorem Hm{f:Str}(n:Cls K C)(hn:bW K C f)(c:EM K [] [] ta da):INI K C (Az K (eT 0) ta f) [f] (rV da Dg) :=
 ⟨fun δ P L k h=>c.mono _ _ _ (fun x z=>k _ z) h,fun {B0 fps δ I H x dx ns0 xs0 ds0 fq0 Dn} o p i hb hl hr G j E m J F q =>
  tK n hn c o p i hb hl hr G j E (m f ox) (by simp at F;omega) (c.mono _ _ _ (fun y z H' v B g u t s r=>z H' _ B g.b0.toSame u t s r) q)⟩
theorem oR{f:Str}{t:TS}{ns:List Str}{m:DA}(J:Cls K C)(hn:bW K C f)(c:EM K [] [] ta da)(hr:INI K C t ns m):INI K C (zV (Az K (eT 0) ta f) t) (f::ns) (rV da m) :=
 ⟨fun δ P Y k h=>c.mono _ _ _ (fun x z=>hr.mono _ _ _ (fun y z=>k _ z) z) h,fun {B0 fps δ X H x dx ns0 xs0 ds0 fq0 Dn} o i F hb hl L T G p I g r q =>
  tK J hn c o i F hb hl L T G p (I f ox) (by simp at r;omega) (c.mono _ _ _ (fun y z H' v j B R Q O M=>by
   have e1:ns0++f::ns=(ns0++[f])++ns:=by simp
   refine hr.run B i R hb (by simp [hl]) Q O M p (fun n S s=>?_) (by rw[<- e1];exact g) (by rw[<- e1];exact r) (hr.mono _ _ _ (fun ds z U xs j u k1 k2 k3 E=>?_) z)
   .rw[e1] at g
    exact (Mm.mp g).2.2 n s n S rfl
   .refine z U xs j u (by rw[e1];exact k1) ?_ k3 E
    rw[MW] at k2
    exact k2) q)⟩
theorem KI{N:List Str}{S:DSp}{t:TS}{ns:List Str}{d:DA}(f:INI K C t ns d)(hd:∀ds P,S ds P->d (none::(aL (N.drop 1) ds)) fun dd=>P (.ins C ns dd))(u:1<=N.length)(q:ns.Nodup:=by decide +kernel)(s:ns.length<=100:=by decide) :
  ∀{vs H Q E},spN K C S vs H Q E->t { nx:=fun _ H'=>Q .non H',rt:=Q } (L2.start N vs) H:=by
 rintro vs H Q E ⟨x,dx,ws,ds,B0,rfl,hb,rfl,r,tv,h⟩
 obtain ⟨fps,o⟩:=lq (N:=N.drop 1) r tv
 have sx:Same B0 (upd B0 x (.ins C dx [])):=Same.kj hb
 have c:=o.same sx
 have p:L2.start N (.ref x::ws)=some (.ref x)::L2.start (N.drop 1) ws:=by
  unfold L2.start
  rw[Mc,List.cons_append,L8,MZ,show N.length - (ws.length+1)=N.length - 1 - ws.length by omega]
 rw[p]
 refine f.run (B0:=B0) (fps:=fun i=>match i with|0=>[]|j+1=>fps j) (δ:=none::aL (N.drop 1) ds) (x:=x) (dx:=dx) (ns0:=[]) (xs0:=[]) (ds0:=[]) (fq0:=[]) ⟨by rw[L8,L8,c.len],⟨sx,tv⟩,fun i dd e=>?_,fun i e=>?_,fun _ h=>(nomatch h),fun _ h=>(nomatch h)⟩ rfl az hb rfl ⟨rfl,rfl⟩ Na (fun _ h=>(nomatch h)) (fun i=>?_) (fun _ _ h=>(nomatch h)) q s (f.mono _ _ _ (fun dd z H' xs n g k1 k2 k3 m=>?_) (hd ds _ h))
 .cases i with
  |zero=>simp at e
  |succ j=>exact c.val j dd (by simpa using e)
 .cases i with
  |zero=>rfl
  |succ j=>exact c.non j fun dd z=>e dd (by simpa using z)
 .cases i with
  |zero=>exact fun h=>(nomatch h)
  |succ j=>exact fun h=>o.dom h hb
 .exact z ns xs dd n H' rfl g k1 k2 k3 m
end
end L3
namespace L2
open PySem PySem.Spec PyProof.Rows
section
end
section
end
end L2
namespace L2
open PySem PySem.Spec PyProof.Rows
section
end
end L2
namespace L3
open PySem L2
section
end
end L3
namespace L2
open PySem PySem.Spec PyProof.Rows
theorem cD.there{P:Program}{w:World}{H:Hp}{h:Heap}{a:Addr}{o:HO}(x:cD P w H h a o):∃ob,h.get? a=some ob:=by
 cases o with
 |lst xs=>obtain ⟨_,_,_,_,e⟩:=x;exact⟨_,e⟩
 |tup xs=>obtain ⟨_,_,_,ob,e,_⟩:=x;exact⟨_,e⟩
 |dK kvs=>obtain ⟨_,_,_,_,o,_,_,e,_⟩:=x;exact⟨_,e⟩
 |dT kvs=>obtain ⟨_,_,_,_,o,_,_,e,_⟩:=x;exact⟨_,e⟩
 |set S n=>obtain ⟨o,_,_,_,e,_⟩:=x;exact⟨_,e⟩
 |ins C dx fs=>obtain ⟨_,_,_,e,_⟩:=x;exact⟨_,e⟩
 |own y=>exact x
 |xd fs=>obtain ⟨_,⟨_,_,_,e,_⟩,_⟩:=x;exact⟨_,e⟩
 |rng lo hi=>obtain ⟨_,_,_,e⟩:=x;exact⟨_,e⟩
 |frz ob u=>obtain ⟨e,_⟩:=x;exact⟨_,e⟩
 |tbl ps=>exact⟨_,(show h.get? a=some _ from x)⟩
 |met f y=>exact⟨_,(show h.get? a=some _ from x)⟩
 |ext c=>obtain ⟨_,e,_⟩:=x;exact e
 |memo c ks=>obtain ⟨_,_,_,_,_,_,_,e,_⟩:=x;exact⟨_,e⟩
def Fly(h:Heap)(H:Hp)(lo:Heap)(a:Addr)(C:Value):Prop :=
 (H a=none/\lo.get? a=none)/\∃c vs a0 T g f,h.get? a=some c/\(c.cls=C/\vs[0]?=some a0)/\c.data=.fields vs/\vs[1]?=some (.ref T)/\T≠a/\h.get? T=some g/\g.data=.fields f/\f[3]?=some .none/\H T=none/\lo.get? T=none
def LX(h:Heap)(H:Hp)(lo:Heap)(a:Addr)(C:Value):Prop :=
 (H a=none/\lo.get? a=none)/\∃c vs a0,h.get? a=some c/\(c.cls=C/\vs[0]?=some a0)/\c.data=.fields vs/\vs[1]?=some .none
def CXR(P:Program)(w:World):CXT:=fun outer H s E e s'=>∃(a C:Addr) (H':Hp),e=.ref a/\s'.os=s.os/\AllBare s'.gens/\Un (frs outer) [] H H' s.heap s'.heap/\HOk P w H' s'.heap /\
 Fly s'.heap H' s.heap a (.ref C)/\E (.ref C) none H'
section
variable {P:Program}{w:World}{K:aad}{mg:Str->Option Value}{base:Heap}{N:List Str}{qual:Str}{scope:Scope}{f:Addr}{cd:Value}{A:Around}{outer:List Env}{s0:Shared}{H0:Hp}{E:XK}
variable {pins:List (Addr × Obj)}{σ:St}{H':Hp}{s':Shared}{a C:Addr}{h2:Heap}
theorem wc{as:List Addr}{a0:Value}(J:Inv (qr (CXR P w) P w K mg base N qual scope f cd A outer s0 H0 E) pins σ H' s')
  (has:∀b∈as,b∈frs (envOfC qual scope s0.heap.objs.size f cd::outer)\/(H' b=none/\s0.heap.get? b=none))
  (L:Heap.LeftW (PySem.W.hideAll s'.heap as) (envOfC qual scope s0.heap.objs.size f cd::outer) a (.ref C) a0 s'.heap h2) (ha:H' a=none/\s0.heap.get? a=none) (q:E (.ref C) none H') :
  CXR P w outer H0 s0 E (.ref a) { s' with heap:=h2 }:=by
 obtain ⟨k1,k2,k3,v⟩:=L
 have bs:Un (frs outer) [] H0 H' s0.heap s'.heap:=J.base
 have m:∀b o,s'.heap.get? b=some o->b∉as->h2.get? b=some o:=fun b o e n=>k1 b o (OX _ e n)
 have U:∀b∈frs (envOfC qual scope s0.heap.objs.size f cd::outer),H' b=none:=J.xM
 have X:∀b∈frs (envOfC qual scope s0.heap.objs.size f cd::outer),b∈s0.heap.objs.size::frs outer:=J.uC
 have trk:∀b u,H' b=some u->b∉as:=fun b u e z=>by
  rcases has b z with z|⟨z,_⟩
  .rw[U b z] at e;cases e
  .rw[z] at e;cases e
 have Y:∀b∈frs (envOfC qual scope s0.heap.objs.size f cd::outer),∃o,s'.heap.get? b=some o/\∀vs,o.data≠.fields vs:=fun b hb=>(J.stack.mem hb).2
 refine⟨a,C,H',rfl,J.os,J.bare,⟨fun b o e n hb h=>?_,fun b o e n hb h=>?_,bs.free,fun b o e h=>?_,bs.tups,bs.frzs,bs.tbls⟩,fun c o e=>?_,⟨ha,?_⟩,q⟩
 .refine m b o (bs.keep b o e n hb h) fun z=>?_
  rcases has b z with z|⟨_,z⟩
  .rcases L6.mp (X b z) with z|z
   .rw[z] at e;exact absurd (Heap.lt_size e) (MT _)
   .exact hb z
  .rw[z] at e;cases e
 .obtain ⟨s,e1⟩:=bs.slot b o e n hb h
  obtain ⟨_,g,j,nf⟩:=J.ok.qJ.mem hb
  have j:s0.heap.get? b=some g:=j
  rw[e] at j;cases j
  obtain ⟨S,e2⟩:=v b { o with slots:=s } e1 nf
  exact⟨S,e2⟩
 .obtain ⟨g,e1⟩:=bs.there b o e h
  by_cases z:b∈as
  .rcases has b z with z|⟨_,z⟩
   .obtain ⟨t,e2,nf⟩:=Y b z
    obtain ⟨s,R⟩:=v b t e2 nf
    exact⟨_,R⟩
   .rw[z] at e;cases e
  .exact⟨g,m b g e1 z⟩
 .refine (J.hok c o e).pF (fun b u hb q=>m b u q ?_) (fun _ q=>q) fun _ _ q=>q
  rcases hb with rfl|hb
  .exact trk _ _ e
  .exact trk _ _ hb
 .obtain ⟨B,vs,T,F,p,Q,O,M,I,i,H,y,x,G⟩:=k3
  refine⟨B,vs,a0,T,F,p,Q,O,M,I,H,y,x,G,?_,?_⟩
  .cases r:H' T with
   |none=>rfl
   |some u =>
    obtain ⟨ob,e⟩:=(J.hok T u r).there
    rw[OX as e (trk T u r)] at i
    cases i
  .cases r:s0.heap.get? T with
   |none=>rfl
   |some u =>
    obtain ⟨g,e1⟩:=bs.there T u r (fun z=>(nomatch z))
    by_cases z:T∈as
    .rcases has T z with z|⟨_,z⟩
     .obtain ⟨_,t,e2,nf⟩:=k2.mem z
      rw[y] at e2;cases e2
      exact absurd x (nf p)
     .rw[z] at r;cases r
    .rw[OX as e1 z] at i;cases i
theorem B5{H:Hp}{s:Shared}(I:Inv (qr (CXR P w) P w K mg base N qual scope f cd A outer s0 H0 E) pins σ H s)(os:s'.os=s.os)(bare:AllBare s'.gens)
  (U:Un (frs (envOfC qual scope s0.heap.objs.size f cd::outer)) [] H H' s.heap s'.heap) (ok:HOk P w H' s'.heap) (Q:LX s'.heap H' s.heap a (.ref C)\/Fly s'.heap H' s.heap a (.ref C)) (q:E (.ref C) none H') :
  (qr (CXR P w) P w K mg base N qual scope f cd A outer s0 H0 E).xe (.ref a) s':=by
 have J:Inv (qr (CXR P w) P w K mg base N qual scope f cd A outer s0 H0 E) pins σ H' s':=I.Jg os U ok bare fun b hb=>(nomatch hb)
 have up:∀b,s.heap.get? b=none->s0.heap.get? b=none:=fun b n=>by
  cases r:s0.heap.get? b with
  |none=>rfl
  |some u =>
   obtain ⟨S,e1⟩:=I.base.there b u r (fun z=>(nomatch z))
   rw[n] at e1;cases e1
 have t:(A.deeper (envOfC qual scope s0.heap.objs.size f cd)).frames=some (envOfC qual scope s0.heap.objs.size f cd::outer):=J.ok.frames
 have v:s'.heap.FunFrames base (envOfC qual scope s0.heap.objs.size f cd::outer):=J.stack
 have p:∀env∈(envOfC qual scope s0.heap.objs.size f cd::outer),∀b,env.frame=some b->b∈frs (envOfC qual scope s0.heap.objs.size f cd::outer):=fun env c b hb=>O8.mpr ⟨env,c,hb⟩
 show wpAny _ _ _ _ _ _
 rcases Q with ⟨⟨na,g⟩,m,vs,a0,ge,⟨i,O⟩,h,j⟩|⟨⟨na,g⟩,m,vs,a0,T,y,x,ge,i,h,j,M,G,F,B,nT,R⟩
 .refine wpAny_leaving_firstW (base:=PySem.W.hideAll s'.heap (a::frs (envOfC qual scope s0.heap.objs.size f cd::outer))) t
   (PySem.W.funFrames_hide v fun env c b hb=>Fk _ (p env c b hb)) rfl ge (fun b o e=>PySem.W.of_hideAll _ e) (OO _ (ox ..)) h j O fun h2 L=>?_
  rw[i] at L
  refine wc J (fun b hb=>?_) L ⟨na,up a g⟩ q
  rcases L6.mp hb with rfl|hb
  .exact .inr ⟨na,up _ g⟩
  .exact .inl hb
 .refine wpAny_leaving_nextW (a0:=a0) (base:=PySem.W.hideAll s'.heap (a::T::frs (envOfC qual scope s0.heap.objs.size f cd::outer))) (cls:=.ref C) t
   (PySem.W.funFrames_hide v fun env c b hb=>Fk _ (Fk _ (p env c b hb))) rfl
   ⟨m,vs,T,y,x,ge,i,h,j,OO _ (Fk _ (ox ..)),M,G,F,B⟩ (fun b o e=>PySem.W.of_hideAll _ e) (OO _ (ox ..)) fun h2 L=>?_
  refine wc J (fun b hb=>?_) L ⟨na,up a g⟩ q
  rcases L6.mp hb with rfl|hb
  .exact .inr ⟨na,up _ g⟩
  .rcases L6.mp hb with rfl|hb
   .exact .inr ⟨nT,up _ R⟩
   .exact .inl hb
theorem xi:Passes (CXR P w) (qr (CXR P w) P w K mg base N qual scope f cd A outer s0 H0 E) E:=fun pins σ H s e s' I h=>by
 obtain ⟨a,C,H',rfl,os,bare,U,ok,c,q⟩:=h
 exact B5 I os bare U ok (.inr c) q
end
def Gw(C:Addr)(E:XK)(f:TA):TS:=fun _ c H=>f c H fun vs g=>vs.length<=1000/\E (.ref C) none g
def Raises(X:Cx)(C:Addr)(E:XK):Prop:=∀(c:List (Addr × Obj)) (f:St) (H:Hp) (s:Shared) (h':Heap) (a:Addr) (us:List Value),Inv X c f H s->Heap.MadeExcOf s.heap h' a (.ref C) us->E (.ref C) none H->X.xe (.ref a) { s with heap:=h' }
theorem oQ{P:Program}{w:World}{K:aad}{mg:Str->Option Value}{base:Heap}{N:List Str}{qual:Str}{scope:Scope}{f:Addr}{cd:Value}{A:Around}{outer:List Env}{h:Shared}{i:Hp}{E:XK}{C:Addr} :
  Raises (qr (CXR P w) P w K mg base N qual scope f cd A outer h i E) C E:=fun g j H s h' a us I c q=>by
 obtain ⟨t,ht,_,_⟩:=c.there
 refine B5 (s':={ s with heap:=h' }) I rfl I.bare (Un.kept c.keeps) (I.hok.kept c.keeps) (.inl ⟨⟨?_,c.new⟩,_,_,_,ht,⟨rfl,rfl⟩,rfl,rfl⟩) q
 cases r:H a with
 |none=>rfl
 |some u =>
  obtain ⟨ob,e⟩:=(I.hok a u r).there
  rw[c.new] at e;cases e
section
variable {X:Cx}{x:Str}{C:Addr}{X9:List Value}{B Ss SJ:String}{E:XK}{e:Expr}{es:List Expr}{ta:TA}{np PL pos:Pos}
theorem mO(O:OwnCls x C X9 Ss X.mg X.base)(FB:ExcBaseFacts B Ss SJ X9)(u:X.calm=true)(t:Gl X x)(z:Raises X C E)(ha:PA X (e::es) ta)(G:(x == ("__debug__" : Str))=false:=by decide)
  (i:starEach (e::es) X.env=(false,eval e X.env)::starEach es X.env:=by rfl) (J:(backTo PL (starEach es X.env)).any (·.1)=false:=by rfl) :
  PS X (.Raise (some (.Call (.Name x np) (e::es) [] PL)) none pos) (Gw C E ta):=by
 intro c s g H D I h
 obtain ⟨m,N,nm,q,bs,hdct,sn,sub,ab,col,dd,k0,k1,k2,k3,k5,mN,y,v,F,T⟩:=O.obj
 refine wpAny_Raise_call_subT (C:=C) (nm:=nm) (q:=q) (N:=N) (bs:=bs) (bm:=m) (hdct:=hdct) (sn:=sn) (sub:=sub) (ab:=ab) (col:=col) (dd:=dd) (k0:=k0) (k1:=k1) (k2:=k2) (k3:=k3) (k5:=k5)
  FB (mN:=mN) (T.hasType FB.hasBase) (I.ok.hd u) (by rw[i];show (false || (backTo PL (starEach es X.env)).any (·.1))=false;rw[J];rfl) F (yv I t O.bound ⟨rfl,?_⟩ G)
 have j:=ha PL c s g H _ I h
 rw[i] at j ⊢
 refine Calls.evalArgs_plain (thn j fun us n ⟨vs,L,f,r,o,q2⟩=>?_)
 exact⟨rfl,by show us.length<=_;rw[<- r.length];exact N7 (rF o),f.bk _ _ y,v.keeps f.bk,T.keeps f.bk,fun h' a p=>z c g L n h' a us f p q2⟩
end
end L2
namespace L2
open PySem PySem.Spec PyProof.Rows
abbrev VB:List Value:=[.type "ValueError",.type "Exception",.type "BaseException",.type "object"]
def gi(h:Heap)(C:Addr)(ups:List Addr):Prop:=∃N nm q bs hdct sn sub ab col dd k0 k1 k2 k3 k5 mN,
 h.get? C=some (excClassObj nm q C N bs (ups.map Value.ref++VB) hdct sn sub ab col dd k0 k1 k2 k3 k5 "ValueError.__new__")/\h.Ns N mN/\mN "__init__" = none/\OwnTail h VB (ups.map Value.ref++VB)
theorem gi.own{h:Heap}{C:Addr}{ups:List Addr}{mg:Str->Option Value}{x:Str}(O:gi h C ups)(hm:mg x=some (.ref C)):OwnCls x C VB "ValueError.__new__" mg h:=by
 obtain ⟨N,nm,q,bs,hdct,sn,sub,ab,col,dd,k0,k1,k2,k3,k5,mN,f,c,g,T⟩:=O
 exact⟨hm,_,N,nm,q,bs,hdct,sn,sub,ab,col,dd,k0,k1,k2,k3,k5,mN,f,c,g,T⟩
section
end
end L2
namespace L2
open PySem PySem.Spec PyProof.Rows
section
end
section
end
end L2
namespace L3
open PySem L2
abbrev DSX:=List D->DK->(Addr->Prop)->Prop
def iX(S:DSX):Prop:=∀xs (P f:DK) (R c:Addr->Prop),(∀z,P z->f z)->(∀C,R C->c C)->S xs P R->S xs f c
def spX(K:aad)(S:DSX):Sp:=fun vs H Q E=>∃ds,Rps K H ds vs/\gB K H/\S ds (fun x=>∀v H' fp,Same H H'->Rf K H' x v fp->Nw H H' nf [] fp->Q v H') (fun C=>∀H',Same H H'->E (.ref C) none H')
def SX(K:aad)(h:Bool)(c f:aac)(R:Addr->Prop)(t:XK->TS)(i Γn:aac)(d:DS):Prop :=
 ∀⦃B0:Hp⦄ ⦃Dn:Ends⦄ ⦃E:bB⦄ ⦃Ex:XK⦄ ⦃fps:Nat->List Addr⦄ ⦃δ:Dl⦄ ⦃g:St⦄ ⦃H:Hp⦄,(∀C H',Same B0 H'->R C->Ex (.ref C) none H')->EOk K h c f Γn B0 Dn E->Ok K B0 i fps δ g H->d E δ->t Ex Dn g H
section
variable {K:aad}{ρ:Bool}{Γr Γl Γ Γ1 TH Γn M:aac}{R:Addr->Prop}{t u:XK->TS}{t0:TS}{d e:DS}{C:Addr}{S:DSX}{ta:TA}{da:DA}
theorem ST.sx(h:ST K ρ Γr Γl t0 Γ Γn d):SX K ρ Γr Γl R (fun _=>t0) Γ Γn d:=fun _ _ _ _ _ _ _ _ _ k o q=>h k o q
theorem iT(f:SX K ρ Γr Γl R t Γ Γ1 d)(c:SX K ρ Γr Γl R u Γ1 TH e):SX K ρ Γr Γl R (fun Ex=>zV (t Ex) (u Ex)) Γ TH (AZ d e) :=
 fun {B0 Dn E Ex fps δ g H} x k o h=>f (Dn:={ Dn with nx:=u Ex Dn }) (E:={ E with nx:=e E }) x ⟨fun o h=>c x k o h,k.bk,k.ct,k.rt⟩ o h
theorem Ai{c:TT}{g:DT}(f:TR K Γ c g)(j:SX K ρ Γr Γl R t Γ Γn d)(i:SX K ρ Γr Γl R u Γ Γn e):SX K ρ Γr Γl R (fun Ex=>Kx c (t Ex) (u Ex)) Γ Γn (HZ g d e) :=
 fun _ _ _ _ _ _ _ _ x k o h=>f.run o (f.mono _ _ _ (fun b z H' s=>dy (fun z=>j x k (o.same s) z) (fun z=>i x k (o.same s) z) z) h)
def Bo(C:Addr)(R:Addr->Prop)(c:DA)(_:bB)(δ:Dl):Prop:=c δ fun xs=>xs.length<=1000/\R C
theorem mZ(ha:AR K Γ ta da):SX K ρ Γr Γl R (fun Ex=>Gw C Ex ta) Γ Γn (Bo C R da) :=
 fun {B0 Dn E Ex fps δ c H} x k o h=>ha.run o (ha.mono _ _ _ (fun xs z vs H' s r=>by
  obtain ⟨fp,r⟩:=r
  exact⟨by rw[r.length];exact z.1,x C H' (o.b0.trans s) z.2⟩) h)
def AX(S:DSX)(R:Addr->Prop)(c:DA)(E:bB)(δ:Dl):Prop:=c δ fun xs=>S xs (fun _=>E.nx δ) R
theorem Hq(g:iX S)(ha:AR K Γ ta da):SX K ρ Γr Γl R (fun Ex=>Am (pk (spX K S) [] Ex ta)) Γ Γ (AX S R da) :=
 fun {B0 Dn E Ex fps δ i H} x k o h=>ha.run o (ha.mono _ _ _ (fun xs z vs H' s r=>⟨xs,by rw[MV];exact r,(o.b0.trans s).now,
  g _ _ _ _ _ (fun _ z v f fp c _ _=>k.nx (o.same (s.trans c)) z) (fun C z f c=>x C f (o.b0.trans (s.trans c)) z) z⟩) h)
def FT(S:DSX)(R:Addr->Prop)(i:Nat)(c:DA)(E:bB)(δ:Dl):Prop:=c δ fun xs=>S xs (fun x=>E.nx (δ.set i (some x))) R
theorem Af{Ex:XK}{B0:Hp}{fps:Nat->List Addr}{δ:Dl}{f:St}{H:Hp}{Q:VK}(m:iX S)(ha:AR K Γ ta da)(x:∀C H',Same B0 H'->R C->Ex (.ref C) none H')(o:Ok K B0 Γ fps δ f H)
  (h:da δ fun xs=>S xs (fun z=>∀v H' fp,Same H H'->Rf K H' z v fp->Nw H H' fps [] fp->Q v H') R):pk (spX K S) [] Ex ta f H Q :=
 ha.run o (ha.mono _ _ _ (fun xs z vs q c j=>⟨xs,by rw[MV];exact j,(o.b0.trans c).now,m _ _ _ _ _ (fun u z g H' fp s r n=>z g H' fp (c.trans s) r (n.any.later c)) (fun C z p i=>x C p (o.b0.trans (c.trans i)) z) z⟩) h)
theorem A4(i:Nat)(c:iX S)(ha:AR K Γ ta da):SX K ρ Γr Γl R (fun Ex=>lN (pk (spX K S) [] Ex ta) (gn i)) Γ (i::minus (minus Γ []) [i]) (FT S R i da) :=
 fun {B0 Dn E Ex fps δ f H} x k o h=>Af c ha x o (ha.mono _ _ _ (fun xs z=>c _ _ _ _ _ (fun y z v H' fp s r n=>k.nx (o.Jt (M:=[]) i (fun _ h=>(nomatch h)) s r n) z) (fun _ z=>z) z) h)
theorem qm{N:List Str}{c:(Addr->Prop)->DS}(f:∀R,SX K true [] [] R t [] Γn (c R))(hd:∀ds P R,S ds P R->c R (nZ P) (aL N ds)) :
  ∀{vs H Q E},spX K S vs H Q E->t E { nx:=fun _ H'=>Q .non H',rt:=Q } (L2.start N vs) H:=by
 rintro vs H Q E ⟨ds,r,tv,h⟩
 obtain ⟨fps,o⟩:=lq (N:=N) r tv
 refine f _ (E:=nZ _) (Ex:=E) (fun C H' s z=>z H' s) ⟨fun {fps δ g H'} o z=>?_,fun o (z:False)=>z.elim,fun o (z:False)=>z.elim,fun o r i z=>?_⟩ o (hd ds _ _ h)
 .exact z _ H' [] o.b0 ⟨rfl,rfl⟩ Nw.nil
 .exact z _ _ _ o.b0 r ⟨(i rfl).nd,(i rfl).mu,fun a ha=>.inl ((i rfl).nw a ha)⟩
def noX(S:DSX):DSp:=fun ds P=>S ds P fun _=>False
theorem zx(c:iX S):bt (noX S):=fun xs P f k h=>c _ _ _ _ _ k (fun _ z=>z) h
theorem AW{Ex:XK}(c:iX S)(ha:AR K Γ ta da):EM K Γ [] (pk (spX K S) [] Ex ta) (rY (noX S) da) :=
 ⟨fun δ P g k h=>ha.mono _ _ _ (fun y z=>zx c _ _ _ k z) h,fun {B0 fps δ f H Q} o q=>Af (R:=fun _=>False) c ha (fun _ _ _ z=>z.elim) o q⟩
end
end L3
namespace PySem.W
open PySem PySem.Spec PySem.Calls PyProof.Rows
section
variable {K:Frag}{C:Addr}
structure DR(K:Frag)(C:Addr):Prop where
 ga:findIn K (.ref C) "__getattribute__" = some (some (.builtin "BaseException.__getattribute__"))
 ge:findIn K (.ref C) "__getattr__" = some none
 cl:findIn K (.ref C) "__class__" = some (some (.builtin "object.__class__"))
 ob:mroIn K C (.type "object")=some true
 be:mroIn K C (.type "BaseException")=some true
 is:(clsIn K C).isSome=true
end
end PySem.W
namespace L2
open PySem PySem.Spec PyProof.Rows
section
end
end L2
namespace L2
open PySem PySem.Spec PyProof.Rows
section
end
section
variable {P:Program}{w:World}{K:aad}{mg:Str->Option Value}{base:Heap}
theorem Fun.okX{x qual:Str}{st:Stmt}{f:Addr}{g:FuncData}{N ps:List Str}{k:Nat}{sp:Sp}(F:Fun K x qual st f g)(S:aH N ps (av st))(len:∀vs H Q E,sp vs H Q E->vs.length=ps.length)
  (n:∀(c:Value) (A:Around) (outer:List Env) (s:Shared) (H:Hp) (vs:List V) (Q:VK) (E:XK),hV k (A.deeper (envOfC qual (av st) s.heap.objs.size f c))->sp vs H Q E ->
   ∃t,PSs (qr (CXR P w) P w K mg base N qual (av st) f c A outer s H E) (dZ st) t/\t { nx:=fun _ H'=>Q .non H',rt:=Q } (start N vs) H):bE P w K mg base (CXR P w) (k+1) f g ps sp:=by
 obtain ⟨q,p,kV,i,o,r,c,ct,h,rfl,lk,m⟩:=F.ex
 exact FD lk m S len fun A outer s H vs Q E hr j=>n c A outer s H vs Q E hr j
end
theorem gi.of_lookup{K:aad}{h:Heap}{C:Addr}{ups:List Addr}{f:List Value}{dd:Option Addr}{nm c:Str}{bs:List Value}{ns:Addr}{hd:Bool}{sn:List Str}{sub:List Value}{ab:Bool}{col:Option Bool}{k0 k1 k2 k3 k5:Option Value}(X:K.In h)
  (u:K.lookup C=some ⟨.type "type",dd,.cls ⟨nm,bs,f,ns,c,hd,sn,sub,ab,col,false⟩,#[k0,k1,k2,k3,some (.builtin "ValueError.__new__"),k5]⟩) (hm:f=.ref C::(ups.map Value.ref++VB)) (v:PySem.W.excIn K C VB "ValueError.__new__" = true):gi h C ups:=by
 subst hm
 unfold PySem.W.excIn at v
 rw[u] at v
 simp only[M5,beq_iff_eq,Bool.not_eq_true'] at v
 obtain ⟨⟨⟨_,ht⟩,hok⟩,g⟩:=v
 exact⟨ns,nm,c,bs,hd,sn,sub,ab,col,dd,k0,k1,k2,k3,k5,_,X _ _ u,.of_isNs (PySem.W.isNs_of_in X hok),PySem.W.nsMap_none_of_in X hok g,PySem.W.tail_of_in X ht⟩
theorem BU{X:Cx}{P:Program}{w:World}:Passes (CXR P w) X E0:=fun _ _ _ _ _ _ _ h=>by
 obtain ⟨_,_,_,_,_,_,_,_,_,q⟩:=h
 exact q.elim
end L2
namespace L3
open PySem L2
section
end
theorem pH{K:aad}{S:DSX}{n:Nat}(c:∀ds P R,S ds P R->ds.length=n){vs:List V}{H:Hp}{Q:VK}{E:XK}(h:spX K S vs H Q E):vs.length=n:=by
 obtain ⟨ds,⟨fp,r⟩,_,h⟩:=h
 rw[r.length];exact c _ _ _ h
end L3
namespace L2
open PySem
theorem PA.nox{X:Cx}{es:List Expr}{t:TA}(h:PA X.nox es t):PA X es t:=fun pos c s f H Q I hw =>
 wpAny_mono (h pos c s f H Q (I.rE _) hw) (fun _ _ ⟨v,H',g,r,q⟩=>⟨v,H',g.jI,r,q⟩) fun _ _ z=>False.elim z
theorem PS.nox{X:Cx}{st:Stmt}{t:TS}(h:PS X.nox st t):PS X st t:=fun c s f H D I hw =>
 wpAny_mono (h c s f H D (I.rE _) hw) (fun _ _ q=>q.jI) fun _ _ z=>False.elim z
end L2
namespace L2
open PySem PySem.Spec PyProof.Rows
section
end
end L2
namespace L3
open PySem L2
section
end
end L3
namespace L2
open PySem PySem.Spec PyProof.Rows
section
section
end
end
section
end
section
end
end L2
namespace L3
open PySem L2
section
end
end L3
namespace L2
open PySem PySem.Spec PySem.Calls PyProof.Rows
abbrev lJ(n:Nat):aab:=(List.range n).map fun (k:Nat)=>(k:Int)
theorem C8:∀{vs:List Value}{ns:aab},vs.length=ns.length->(∀(j:Nat) v,vs[j]?=some v->∃z t,ns[j]?=some z/\v=.int z t)->IntsAre vs ns
 |[],[],_,_=>.nil
 |v::vs,n::ns,hl,h=>by
  obtain ⟨z,t,e1,rfl⟩:=h 0 v rfl
  cases e1
  exact .cons _ _ (C8 (by simpa using hl) fun j v c=>h (j+1) v (by rw[List.getElem?_cons_succ];exact c))
 |[],_::_,hl,_=>by simp at hl
 |_::_,[],hl,_=>by simp at hl
section
variable {prog:Program}{w:World}{A:Around}{E:Value->Shared->Prop}{s:Shared}
theorem zz{R:List Value->Shared->Prop}{r:Addr}{n:Nat}{t u v:Tok}(F:A.handled=none)(hr:IsRange s.heap r 0 (n:Int) 1 t u v)(M:n<=2 ^ 24)
  (h:∀(h':Heap) (c:Nat) (vs:List Value),(∀b o,s.heap.get? b=some o->h'.get? b=some o)->s.heap.objs.size<h'.objs.size->IntsAre vs (lJ n)->R vs { s with heap:=h',toks:=c }) :
  wpAny (model prog w) A (collect (.ref r)) R E s:=by
 have hsz:Builtin.Range.rangeSize 0 (n:Int) 1=n:=by unfold Builtin.Range.rangeSize;rw[if_pos (by decide)];split<;>omega
 have I:Builtin.Range.small 0 (n:Int) 1=true:=small_one (by decide) (by decide) (by omega) (by omega)
 have items:∀{acc:Array Value},ItemsOf (fun i v=>∃t,v=.int (0+i*1) t) acc n->IntsAre acc.toList (lJ n):=fun {acc} g=>by
  refine C8 (by rw[MU,g.1,mo,L9]) fun j v C=>?_
  have hj:j<n:=by rw[<- g.1,<- MU];exact (KE.mp C).1
  obtain ⟨t,rfl⟩:=g.2 j v (by simpa using C)
  exact⟨j,t,by rw[L4,MI hj];rfl,by simp⟩
 unfold collect
 refine wpAny_bind (wpAny_runValue (codeAny_builtin entry_proto_collect' ?_))
 rw[Around.under_plainId PySem.F.plain_proto_collect _]
 show wpAny _ A.in1 (newList [] >>= fun l=>again (.builtin "list.__iadd__" ⟨[l,.ref r],[]⟩)) _ _ s
 refine wpAny_bind (wpAny_newObj_type ?_)
 refine wpAny_pure ⟨plainId_quiet PySem.F.plain_list_iadd _,codeAny_builtin entry_list_iadd' ?_⟩
 rw[Around.under_plainId PySem.F.plain_list_iadd _]
 have J:(s.heap.push { cls:=.type "list",data:=.seq ([]:List Value).toArray }).get? s.heap.objs.size=some { cls:=.type "list",data:=.seq #[] }:=Heap.get?_push_size _ rfl
 show wpAny _ A.in1 (Builtin.List.listExtendWith (.ref s.heap.objs.size) (.ref r) (.ref s.heap.objs.size)) _ _ _
 have key:=wpAny_extend_range (A:=A) (prog:=prog) (w:=w) (s:={ s with heap:=s.heap.push { cls:=.type "list",data:=.seq ([]:List Value).toArray } })
  (R:=fun (q:Result) (s':Shared)=>∃(h':Heap) (c:Nat) (m:Array Value) (B:Nat),q=.ok (.ret (.ref s.heap.objs.size))/\s'={ s with heap:=h',toks:=c } /\
   (∀b o,s.heap.get? b=some o->h'.get? b=some o)/\h'.get? s.heap.objs.size=some { cls:=.type "list",dict:=none,data:=.seq m B,slots:=#[] }/\IntsAre m.toList (lJ n))
  F (Heap.get?_push_of_some _ hr) I hsz M s.heap.objs.size (.ref s.heap.objs.size) 0 J
  (fun h' c m B z p g=>⟨h',c,m,B,rfl,rfl,fun b o e=>z b o (Mr (Heap.lt_size e)) (Heap.get?_push_of_some _ e),p,items g⟩)
 refine wpAny_mono key (fun L s' x=>?_) fun e s' x=>?_
 .cases L with
  |done f =>
   obtain ⟨h',c,m,B,e,rfl,z,p,g⟩:=x
   cases e
   show wpAny _ A (load s.heap.objs.size >>= _) _ _ _
   refine wpAny_bind (wpAny_load p ?_)
   exact wpAny_pure (h h' c m.toList z (Heap.lt_size p) g)
  |again H =>
   refine⟨x.1,codeAny_mono x.2 fun q O y=>?_⟩
   obtain ⟨h',c,m,B,rfl,rfl,z,p,g⟩:=y
   show wpAny _ A (load s.heap.objs.size >>= _) _ _ _
   refine wpAny_bind (wpAny_load p ?_)
   exact wpAny_pure (h h' c m.toList z (Heap.lt_size p) g)
 .obtain ⟨_,_,_,_,G,_⟩:=x
  cases G
def A5(h:Heap)(L:Addr):List (Addr × Obj):=(List.range h.objs.size).filterMap fun a=>if a=L then none else (h.get? a).map fun o=>(a,o)
theorem oM{h:Heap}{L a:Addr}{o:Obj}:(a,o)∈A5 h L↔a≠L/\h.get? a=some o:=by
 unfold A5
 rw[O8]
 constructor
 .rintro ⟨b,_,e⟩
  by_cases hb:b=L
  .rw[if_pos hb] at e;cases e
  .rw[if_neg hb] at e
   cases q:h.get? b with
   |none=>rw[q] at e;cases e
   |some g=>rw[q] at e;cases e;exact⟨hb,q⟩
 .rintro ⟨f,c⟩
  exact⟨a,Mh.mpr (Heap.lt_size c),by rw[if_neg f,c];rfl⟩
def intOf:Value->Int
 |.int z _=>z
 |_=>0
theorem xW:∀{vs:List Value}{ns:aab},IntsAre vs ns->∀(j:Nat) v,vs[j]?=some v->∃z t,ns[j]?=some z/\v=.int z t
 |_,_,.nil,j,v,h=>by simp at h
 |_,_,.cons n t hr,0,v,h=>by cases h;exact⟨n,t,rfl,rfl⟩
 |_,_,.cons n t hr,j+1,v,h=>by
  rw[List.getElem?_cons_succ] at h ⊢
  exact xW hr j v h
theorem intsAre_map:∀{vs:List Value},(∀v∈vs,∃t,v=.int (intOf v) t)->IntsAre vs (vs.map intOf)
 |[],_=>.nil
 |v::vs,h=>by
  obtain ⟨t,e⟩:=h v ox
  rw[Mc,e]
  exact .cons _ _ (intsAre_map fun x c=>h x (Fk _ c))
theorem yO:∀{vs:List Value}{ns:aab},IntsAre vs ns->vs.map intOf=ns
 |_,_,.nil=>rfl
 |_,_,.cons n t hr=>by rw[Mc,yO hr];rfl
theorem Bj{Q:Value->Shared->Prop}{r f L:Addr}{n:Nat}{t u v:Tok}{m:Str->Option Value}{key:Nat->Int}(hh:A.handled=none)(hr:IsRange s.heap r 0 (n:Int) 1 t u v)(RV:n<64)(T:s.heap.Ns L m)
  (turn:∀(j:Nat) (y:Tok) (h:Heap) (x:Nat),j<n->(∀b o,b≠L->s.heap.get? b=some o->h.get? b=some o)->h.Ns L m ->
   wpAny (model prog w) A.in1.in1 (call (.ref f) [.int (j:Int) y]) (fun v R=>∃h' P t',R={ s with heap:=h',toks:=P }/\v=.int (key j) t'/\(∀b o,b≠L->h.get? b=some o->h'.get? b=some o)/\h'.Ns L m) (fun _ _=>False) { s with heap:=h,toks:=x })
  (hQ:∀(h':Heap) (x:Nat) (D:Addr) (out:Array Value) (c:Nat) (I:aab),(∀b o,b≠L->s.heap.get? b=some o->h'.get? b=some o)->h'.Ns L m->h'.get? D=some (seqObj "list" out c)->s.heap.objs.size<=D ->
   IntsAre out.toList I->I.Perm (lJ n)->I.Pairwise (fun a b=>key a.toNat<=key b.toNat)->Q (.ref D) { s with heap:=h',toks:=x }) :
  wpAny (model prog w) A (call (.builtin "sorted") [.ref r] [(Str.ofString "key",.ref f)]) Q E s:=by
 refine call_function_entry_kw kind_sorted plain_sorted entry_sorted (ksk_s1 _ _) ?_
 unfold Builtin.«sorted»
 refine wpAny_bind (m:=checkCount "sorted" 1 1 _) (wpAny_pure ?_)
 refine wpAny_bind (zz (A:=A.in1) hh hr (by omega) fun g Y vs k1 Wn G=>?_)
 have C:vs.length=n:=by rw[G.length,mo,L9]
 refine wpAny_bind (wpAny_newList ?_ (by rw[sizeLine_eq];omega))
 have Z:(g.push (seqObj "list" vs.toArray 0)).get? g.objs.size=some (seqObj "list" vs.toArray 0):=Heap.get?_push_size _ rfl
 have k2:∀b o,s.heap.get? b=some o->(g.push (seqObj "list" vs.toArray 0)).get? b=some o:=fun b o e=>Heap.get?_push_of_some _ (k1 b o e)
 have H:s.heap.objs.size<=g.objs.size:=N7 Wn
 show wpAny _ _ _ _ _ { s with heap:=g.push (seqObj "list" vs.toArray 0),toks:=Y }
 refine wpAny_bind (wpAny_holding (wpAny_call_entry_kw slot_list_sort ⟨_,Z,rfl⟩ entry_list_sort ?Pg (ksk_l1 _ _)))
 show wpAny (model prog w) A.in1.in1 (Builtin.«list.sort» ⟨[.ref g.objs.size],[(Str.ofString "key",.ref f)]⟩) _ _ _
 rw[ksk_t1]
 have M:(g.push (seqObj "list" vs.toArray 0)).Ns L m:=by
  obtain ⟨o,es,ep,e1,e2⟩:=T
  exact⟨o,es,ep,k2 L o e1,e2⟩
 have WS:L<s.heap.objs.size:=T.lt
 have WR:g.objs.size≠L:=O0 (Ml WS H)
 refine ksk_sort (kz:=(List.range n).map key) (h₀:=⟨#[],{}⟩) (L:=L) (m:=m) (news:=(A5 (g.push (seqObj "list" vs.toArray 0)) L).filter fun p=>decide (p.1≠g.objs.size)) (s:={ s with heap:=g.push (seqObj "list" vs.toArray 0),toks:=Y })
  ⟨M,fun b o e=>by simp [Heap.get?] at e,Nx _⟩ (fun p q=>?_) Z WR (by simp [Heap.get?]) (fun p q=>of_decide_eq_true (MP.mp q).2) (by rw[mo,L9,C]) (by omega) ?_ ?_
 .obtain ⟨q1,q2⟩:=oM.mp (MP.mp q).1
  exact⟨q2,q1,by simp [Heap.get?]⟩
 .intro i v k B S h x own F N
  obtain ⟨z,y,e1,rfl⟩:=xW G i v B
  have hi:i<n:=by rw[<- C];exact (KE.mp B).1
  rw[L4,MI hi] at e1 S
  cases e1
  cases S
  have kh:∀b o,b≠L->s.heap.get? b=some o->h.get? b=some o:=fun b o hb e =>
   (N (b,o) (Me _ (MP.mpr ⟨oM.mpr ⟨hb,k2 b o e⟩,decide_eq_true (Mr (Ml (Heap.lt_size e) H))⟩))).1
  refine wpAny_mono (turn i y h x hi kh F.ns) (fun v R ⟨h',P,t',e1,e2,kk,nn⟩=>?_) fun _ _ z=>z
  exact⟨h',P,t',e1,e2,⟨nn,fun b o e=>by simp [Heap.get?] at e,Nx _⟩,fun p q=>⟨kk _ _ (N p q).2.1 (N p q).1,(N p q).2⟩⟩
 .intro h' x out c F N ⟨ps,q,ho,hs⟩
  refine⟨_,rfl,wpAny_pure ⟨_,rfl,?_⟩⟩
  have J:∀p∈ps,(∃t,p.2=.int (intOf p.2) t)/\p.1=key (intOf p.2).toNat:=fun p O=>by
   obtain ⟨j,hj⟩:=List.mem_iff_getElem?.mp (q.mem_iff.mp O)
   obtain ⟨X,U⟩:=List.getElem?_zip_eq_some.mp hj
   obtain ⟨z,y,e1,e2⟩:=xW G j _ U
   have ZO:j<n:=by rw[<- C];exact (KE.mp U).1
   rw[L4,MI ZO] at e1 X
   cases e1
   refine⟨⟨y,by rw[e2];rfl⟩,?_⟩
   rw[e2]
   show p.1=key (j:Int).toNat
   rw[L7]
   exact (MB X).symm
  refine hQ h' x g.objs.size out c (ps.map fun p=>intOf p.2) (fun b o hb e=>?_) F.ns (N _ ox).1 H ?_ ?_ ?_
  .exact (N (b,o) (Fk _ (MP.mpr ⟨oM.mpr ⟨hb,k2 b o e⟩,decide_eq_true (Mr (Ml (Heap.lt_size e) H))⟩))).1
  .rw[ho,show (ps.map fun p=>intOf p.2)=(ps.map Prod.snd).map intOf by rw[Mz];rfl]
   refine intsAre_map fun v B=>?_
   obtain ⟨p,O,rfl⟩:=Mb.mp B
   exact (J p O).1
  .refine (q.map fun p=>intOf p.2).trans ?_
   rw[show (((List.range n).map key).zip vs).map (fun p=>intOf p.2)=(((List.range n).map key).zip vs |>.map Prod.snd).map intOf by rw[Mz];rfl,List.map_snd_zip (by rw[mo,L9,C];exact Md _),yO G]
  .rw[List.pairwise_map]
   refine hs.imp_of_mem fun {a b} ha hb h=>?_
   rw[<- (J a ha).2,<- (J b hb).2]
   exact h
end
end L2
namespace L2
open PySem PySem.Spec PySem.Calls PyProof.Rows
abbrev sG(x y:Str)(h g f c:Pos):Expr:=.UnaryOp .USub (.Subscript (.Name x h) (.Name y g) f) c
section
variable {prog:Program}{w:World}{A:Around}{E:Value->Shared->Prop}{s:Shared}
theorem G1{Q:Value->Shared->Prop}{f i cr a:Addr}{q x y:Str}{I:Arguments}{scope:Scope}{C B u t:Pos}{r H:Value}{g tz:Tok}{j:Nat}{z:Int}{items:Array Value}
  (O:s.heap.get? f=some (PySem.W.kla_obj "<lambda>" q I (sG x y C B u t) scope [(x,cr)] r i H)) (Pq:s.heap.CodeRec (.ref i) q) (RK:A.depth<recursionLimit) (R:s.heap.NoLimit)
  (Qj:s.heap.IsCell cr (some (.ref a))) (hl:s.heap.IsList a items) (L:items[j]?=some (.int z tz)) (hj:j<2 ^ 62)
  (hb:∀v:Value,bindArgs (PySem.W.kla_fn "<lambda>" q I (sG x y C B u t) scope [(x,cr)] r (.ref i) H) ⟨[v],[]⟩=pure [(y,v)])
  (F:scope.names.lookup y=some .local) (X:scope.names.lookup x=some .free) (Y:∀n∈scope.names,n.2≠.cell) (h:scope.kind=.function) (T:scope.isCoroutine=false) (S4:scope.isGenerator=false)
  (Z:(x == ("__debug__" : Str))=false) (S:(y == ("__debug__" : Str))=false) (U:(x == ("__classdict__" : Str))=false)
  (P:∀(h':Heap) (J:Nat) (t':Tok),(∀b o,s.heap.get? b=some o->h'.get? b=some o)->Q (.int (-z) t') { s with heap:=h',toks:=J }) :
  wpAny (model prog w) A (call (.ref f) [.int (j:Int) g]) Q E s:=by
 refine wpAny_call (PySem.W.kla_callFunE RK O rfl T S4 rfl Pq ?_)
 rw[hb]
 refine wpAny_pure (wpAny_newFunctionEnv Y (fun p M=>?_) (fun PH Qd G=>⟨R.fresh _ G,?_⟩) h)
 .rw[Gc.mp M];exact F
 have m:∀b o,s.heap.get? b=some o->PH.get? b=some o:=fun b o e=>G.extBut b o (Mr (Heap.lt_size e)) (Heap.get?_push_of_some _ e)
 refine PySem.W.kla_codeExpr ?_
 refine UnaryOp_ (Subscript_ ?_)
 refine wpAny_Name (wpAny_loadName_free (c:=cr) (v:=.ref a) h X ?_ (let ⟨o,e,d⟩:=Qj;⟨o,m _ o e,d⟩) ?_ U) Z
 .show List.lookup x [(x,cr)]=some cr
  rw[List.lookup_cons_self]
 refine wpAny_Name (wpAny_loadName_local (v:=.int (j:Int) g) h F Qd ?_ ?_) S
 .show List.lookup y [(y,Value.int (j:Int) g)]=_
  rw[List.lookup_cons_self]
 refine item_listR (hl.at fun o e=>m _ o e) (by omega) (by omega) (by rw[L7];exact L) ?_
 exact neg_int (P _ _ _ m)
end
end L2
namespace L3
open PySem L2 PySem.Calls PyProof.Rows
def LK(g:TE):TE:=fun f H Q=>g f H fun x c=>∃n:Nat,x=.int (n:Int)/\∀r,c r=none->Q (.ref r) (upd c r (.rng 0 n))
section
variable {X:Cx}
theorem JK{e:Expr}{f:TE}{p pos:Pos}(u:Gl X "range")(hm:X.mg "range" = none)(y:PE X e f)(i:starEach [e] X.env=[(false,eval e X.env)]:=by rfl) :
  PE X (.Call (.Name "range" p) [e] [] pos) (LK f):=by
 intro c s m H Q I h
 refine wpAny_Call_Name_kw (gP I u hm boot_range ?_)
 refine MG ?_ i rfl
 rw[i]
 refine Calls.spliced_cons (thn (y c s m H _ I h) fun v g ⟨x,z,j,r,n,ex,q⟩=>?_)
 subst ex
 obtain ⟨t,rfl⟩:=r
 refine Calls.spliced_nil (call_range_1 ?_)
 have hn:z g.heap.objs.size=none:=j.hok.fresh (Md _)
 exact⟨.ref g.heap.objs.size,_,j.laid (o:=.rng 0 (n:Int)) (fun b o e=>Heap.get?_push_of_some _ e) (Md _) ⟨_,_,_,Heap.get?_push_size _ rfl⟩,rfl,q _ hn⟩
end
theorem oZ{a b:Int}{t u:Tok}{c:Value}:∀{l:List Value},TriplesOk l->TriplesOk (l++[.int a t,.int b u,c])
 |[],_=>trivial
 |.int _ _::.int _ _::_::rest,h=>oZ (l:=rest) h
theorem ug{pos:Pos}{a b:Int}{t u:Tok}{c f:Value}:∀{l:List Value},TriplesOk l->codeAmong pos (l++[.int a t,.int b u,c])=some f->codeAmong pos l=some f\/f=c
 |[],_,h=>by
  simp only[List.nil_append,codeAmong] at h
  split at h
  .exact .inr (MB h).symm
  .cases h
 |.int l1 i::.int c1 g::x::rest,ht,h=>by
  simp only[List.cons_append,codeAmong] at h ⊢
  split at h
  .rename_i e
   rw[if_pos e];exact .inl h
  .rename_i e
   rw[if_neg e]
   exact ug (l:=rest) ht h
section
variable {X:Cx}{x y:Str}{M6:Arguments}{scope:Scope}{pos p1 p2 p3 p4:Pos}{cr c P:Addr}
def xG(x y:Str)(p:Arguments)(scope:Scope)(m j i g:Pos)(cr:Addr)(c:Value)(f n:Addr):HO :=
 .ext fun h=>∃o,h.get? f=some (PySem.W.kla_obj "<lambda>" yy p (sG x y m j i g) scope [(x,cr)] c n o)
def BMd(base:Heap)(mg:Str->Option Value):Prop:=∃bm ob,mg "__builtins__" = some (.ref bm)/\bm≠builtinsNs/\base.get? bm=some ob/\ob.cls=.type "module"/\ob.dict=some builtinsNs/\ob.data=.plain
theorem ID{h:Heap}{f:Addr}{P:Program}{w:World}{H:Hp}(hr:h.CodeRec (.ref f) yy):cD P w H h f (vH f):=by
 refine⟨hr,?_,fun j i ⟨c,o,vs,t,e1,e2,g⟩ k=>?_⟩
 .obtain ⟨c,o,vs,t,e1,e2,g⟩:=hr
  cases e1
  exact⟨o,e2⟩
 .cases e1
  exact⟨_,o,vs,t,rfl,k o e2,g⟩
theorem C4{h:Heap}{f j:Addr}{P:Program}{w:World}{H:Hp}{g c:Value}(i:h.get? f=some (PySem.W.kla_obj "<lambda>" yy M6 (sG x y p1 p2 p3 p4) scope [(x,cr)] g j c)) :
  cD P w H h f (xG x y M6 scope p1 p2 p3 p4 cr g f j):=⟨⟨c,i⟩,⟨_,i⟩,fun n m ⟨c,e⟩ k=>⟨c,k _ e⟩⟩
def LI(P:Addr)(F:Addr->Addr->HO):TE:=fun g H Q=>TabAt P H/\∀f c H',Same H H'->H f=none->H' f=some (F f c)->H' c=some (vH c)->Q (.ref f) H'
theorem Kk(Se:closureFor scope X.env=pure [(x,cr)])(Rk:X.env.code=.ref c)(Pq:PySem.W.codeHdIn X.K c P=true)(hq:X.env.qual++"<lambda>" = yy)(S6:defaultsOf M6 X.env=([],[]))(Sf:BMd X.base X.mg) :
  PE X (.Lambda M6 (sG x y p1 p2 p3 p4) scope pos) (LI P (xG x y M6 scope p1 p2 p3 p4 cr ((X.mg "__name__").getD .none))):=by
 intro pins s σ H Q I h
 obtain ⟨⟨ps,g,ht,Tz⟩,q⟩:=h
 have G:s.heap.get? P=some (PySem.W.tabObj ps):=I.hok P _ g
 have KX:X.K.In s.heap:=I.mod.kin.keeps I.bk
 have C:=PySem.W.codeHd_of_K KX Pq
 have J:s.heap.Ns mainGlobals X.mg:=I.mod.glob.keeps I.bk
 have ZV:mainGlobals≠P:=fun e=>by
  obtain ⟨o,es,ep,e1,e2,_⟩:=J
  rw[e,G] at e1;cases e1;cases e2
 obtain ⟨bm,ob,b1,b2,b3,Y,b5,U⟩:=Sf
 have E:=I.bk _ _ b3
 have XI:bm≠mainGlobals:=fun e=>by
  obtain ⟨o,es,ep,e1,e2,_⟩:=J
  rw[<- e,E] at e1;cases e1;rw[U] at e2;cases e2
 have Vg:bm≠P:=fun e=>by rw[e,G] at E;cases E;cases Y
 refine PySem.W.kla_eval S6 ?_
 rw[hq]
 cases hf:codeAmong pos ps.toList with
 |none =>
  refine PySem.W.kla_makeFunction (mg:=X.mg) Se I.ok.glob J Rk C G ht hf ZV ⟨bm,ob,b1,b2,XI,Vg,E,Y,b5,U⟩ fun f Q2 h' O hx Rj NO V3 V1=>?_
  have XG:s.heap.objs.size<=h'.objs.size:=Mx Rj (N7 NO)
  have Z:H h'.objs.size=none:=I.hok.fresh XG
  have Tr:H f=none:=I.hok.fresh Rj
  have YZ:P≠f:=aS g Tr
  have YY:P≠h'.objs.size:=aS g Z
  have YV:f≠h'.objs.size:=Mr NO
  generalize Ug:ps++#[rawInt pos.line,rawInt pos.col,.ref f]=ps' at V1
  have Qr:ps'.toList=ps.toList++[rawInt pos.line,rawInt pos.col,.ref f]:=by rw[<- Ug,Array.toList_append]
  have i:∀b u,b≠P->H b=some u->upd (upd (upd H P (.tbl ps')) f (vH f)) h'.objs.size (xG x y M6 scope p1 p2 p3 p4 cr ((X.mg "__name__").getD .none) h'.objs.size f) b=some u:=fun b u hb e=>by
   rw[aG (aS e Z),aG (aS e Tr),aG hb];exact e
  have W9:upd (upd (upd H P (.tbl ps')) f (vH f)) h'.objs.size (xG x y M6 scope p1 p2 p3 p4 cr ((X.mg "__name__").getD .none) h'.objs.size f) P=some (.tbl ps'):=by
   rw[aG YY,aG YZ,az]
  have Yc:upd (upd (upd H P (.tbl ps')) f (vH f)) h'.objs.size (xG x y M6 scope p1 p2 p3 p4 cr ((X.mg "__name__").getD .none) h'.objs.size f) f=some (vH f):=by
   rw[aG YV,az]
  have R:∀{b u},H b=some u->NT u->b≠P:=fun {b u} e n z=>by
   subst z;rw[g] at e;cases e;exact n
  have p:Same H (upd (upd (upd H P (.tbl ps')) f (vH f)) h'.objs.size (xG x y M6 scope p1 p2 p3 p4 cr ((X.mg "__name__").getD .none) h'.objs.size f)):=by
   refine⟨fun b u e n=>i b u (R e n) e,fun b F e=>?_,fun P' ⟨F,e,T,g2⟩=>?_⟩
   .by_cases z:b=P
    .subst z;exact⟨_,W9⟩
    .exact⟨F,i b _ z e⟩
   .by_cases z:P'=P
    .subst z
     rw[g] at e;cases e
     refine⟨ps',W9,by rw[Qr];exact oZ T,fun OP v z=>?_⟩
     rw[Qr] at z
     rcases ug T z with z|z
     .obtain ⟨B,M,j⟩:=g2 OP v z
      exact⟨B,M,i B _ (R j trivial) j⟩
     .exact⟨f,z,Yc⟩
    .exact⟨F,i P' _ z e,T,fun OP v z=>let ⟨B,M,j⟩:=g2 OP v z;⟨B,M,i B _ (R j trivial) j⟩⟩
  have up:∀b o,b≠P->s.heap.get? b=some o->(h'.push (PySem.W.kla_obj "<lambda>" yy M6 (sG x y p1 p2 p3 p4) scope [(x,cr)] ((X.mg "__name__").getD .none) f Q2)).get? b=some o:=fun b o hb e=>Heap.get?_push_of_some _ (hx b o hb e)
  have nL:X.env.locals≠P:=fun e=>by
   have:=I.free
   rw[e,g] at this;cases this
  have S:∀{b:Addr},H b=none->b≠P:=fun {b} e z=>by subst z;rw[g] at e;cases e
  refine⟨.ref h'.objs.size,_,?_,rfl,q h'.objs.size f _ p Z az Yc⟩
  refine I.step (g':=s.gens) (d':=s.drawn) (t':=O) (ch:=[]) (fun _ z=>nomatch z) (fun b o _ _ _ e n=>up b o (S n) e) (fun b o _ _ _ e n=>⟨o.slots,up b o (S n) e⟩) (fun b o _ e n=>?_) (fun b o _ e=>?_)
   (fun b xs e=>p.st b _ e trivial) (fun b o u e=>p.st b _ e trivial) (fun b F e=>?_) (fun m hm=>?_) (fun b o e=>?_) I.bare
  .have hb:=Heap.lt_size e
   rw[aG (Mr (Ml hb XG)),aG (Mr (Ml hb Rj)),aG (S n)];exact n
  .by_cases z:b=P
   .subst z;exact⟨_,Heap.get?_push_of_some _ V1⟩
   .exact⟨o,up b o z e⟩
  .by_cases z:b=P
   .subst z
    rw[g] at e;cases e
    exact⟨#[rawInt pos.line,rawInt pos.col,.ref f],by rw[Ug];exact W9⟩
   .exact⟨#[],by rw[i b _ z e];simp⟩
  .obtain ⟨o,es,ep,ho,r⟩:=hm
   exact⟨o,es,ep,up _ o nL ho,r⟩
  .by_cases zf:b=h'.objs.size
   .subst zf
    rw[az] at e;cases e
    exact C4 (Heap.get?_push_size _ rfl)
   rw[aG zf] at e
   by_cases zc:b=f
   .subst zc
    rw[az] at e;cases e
    exact ID (let ⟨cc,o,vs,t,e1,e2,e3⟩:=V3;⟨cc,o,vs,t,e1,Heap.get?_push_of_some _ e2,e3⟩)
   rw[aG zc] at e
   by_cases L:b=P
   .subst L
    rw[az] at e;cases e
    exact Heap.get?_push_of_some _ V1
   rw[aG L] at e
   refine (I.hok b o e).pF (fun d w' hd z=>up d w' (fun y=>?_) z) (fun d z=>p.st d _ z trivial) fun d xs z=>p.st d _ z trivial
   subst y
   rcases hd with hd|hd
   .exact L hd.symm
   .rw[g] at hd;cases hd
 |some v =>
  obtain ⟨f,rfl,Rw⟩:=Tz pos v hf
  refine PySem.W.kla_makeFunctionHit (mg:=X.mg) Se I.ok.glob J Rk C G ht hf ⟨bm,ob,b1,b2,XI,Vg,E,Y,b5,U⟩ fun Q2 h' O hk hsz=>?_
  have hn:H h'.objs.size=none:=I.hok.fresh hsz
  have hcf:f≠h'.objs.size:=aS Rw hn
  exact⟨.ref h'.objs.size,_,I.laid (a:=h'.objs.size) (t':=O) (o:=xG x y M6 scope p1 p2 p3 p4 cr ((X.mg "__name__").getD .none) h'.objs.size f) (fun b o e=>Heap.get?_push_of_some _ (hk b o e)) hsz (C4 (Heap.get?_push_size _ rfl)),rfl,
   q _ f _ (Same.kj hn) hn az (by rw[aG hcf];exact Rw)⟩
end
end L3
namespace L3
open PySem L2 PySem.Calls PyProof.Rows
theorem JS{h:Heap}{L:Addr}{m c:Str->Option Value}(a:h.Ns L m)(b:h.Ns L c):m=c:=by
 obtain ⟨o,es,ep,e1,e2,_,j⟩:=a
 obtain ⟨n,es',p,g,f,_,i⟩:=b
 rw[e1] at g;cases g
 rw[e2] at f;cases f
 funext x
 rw[<- j x,<- i x]
def Ag(K:aad)(P:Addr)(i:Nat):TE:=fun f H Q=>∃(a:Addr) (ns:aab),f[i]?=some (some (.ref a))/\SqL K H a (ns.map V.int)/\ns.length<64/\TabAt P H /\
 ∀(l:Addr) (H':Hp) (c:aab),Same H H'->H l=none->H' l=some (.lst (c.map V.int))->c.Perm (lJ ns.length)->c.Pairwise (fun a b=>-(ns.getD a.toNat 0)<=-(ns.getD b.toNat 0))->Q (.ref l) H'
section
variable {X:Cx}{K:aad}{x y:Str}{M6:Arguments}{scope:Scope}{pos p1 p2 p3 p4:Pos}{cr c P:Addr}{i:Nat}{el:Expr}{tl:TE}{ps pr q2 q3 QV:Pos}
theorem BF(hK:X.K=K)(hc:X.calm=true)(hg:Gl X "sorted")(hm:X.mg "sorted" = none)(Uq:Gl X "range")(Uj:X.mg "range" = none)(hl:PE X el tl)
  (Zl:∀F H Q a xs,F[i]?=some (some (.ref a))->SqL X.K H a xs->Q (.int (xs.length:Int)) H->tl F H Q)
  (hN:X.N[i]?=some x) (hv:Vis X.env.scope x) (ZM:X.env.kindOf x=some .cell) (Z3:X.env.cells.lookup x=some cr) (RK:X.A.in1.in1.depth<recursionLimit)
  (Se:closureFor scope X.env=pure [(x,cr)]) (Rk:X.env.code=.ref c) (Pq:PySem.W.codeHdIn X.K c P=true) (hq:X.env.qual++"<lambda>" = yy) (S6:defaultsOf M6 X.env=([],[])) (Sf:BMd X.base X.mg)
  (hb:∀(v pm Q2:Value) (C:Addr),bindArgs (PySem.W.kla_fn "<lambda>" yy M6 (sG x y p1 p2 p3 p4) scope [(x,cr)] pm (.ref C) Q2) ⟨[v],[]⟩=pure [(y,v)])
  (hy:scope.names.lookup y=some .local) (VX:scope.names.lookup x=some .free) (Tr:∀n∈scope.names,n.2≠.cell) (hk:scope.kind=.function) (WD:scope.isCoroutine=false) (S4:scope.isGenerator=false)
  (Sd:(x == ("__debug__" : Str))=false) (Wx:(y == ("__debug__" : Str))=false) (WB:(x == ("__classdict__" : Str))=false)
  (he:backTo q3 (starEach [Expr.Call (.Name "range" pr) [el] [] q2] X.env)=(false,eval (.Call (.Name "range" pr) [el] [] q2) X.env)::backTo q3 (starEach [] X.env):=by rfl)
  (hs:starEach [el] X.env=[(false,eval el X.env)]:=by rfl)
  (PR:(backTo q3 (starEach [Expr.Call (.Name "range" pr) [el] [] q2] X.env)).any (·.1)=false:=by rfl)
  (OS:(backToKw q3 (keywordEach [⟨some "key",.Lambda M6 (sG x y p1 p2 p3 p4) scope pos,QV⟩] X.env)).all (·.1.isSome)=true:=by rfl)
  (Wj:(backToKw q3 (keywordEach [⟨some "key",.Lambda M6 (sG x y p1 p2 p3 p4) scope pos,QV⟩] X.env)).any (·.1.isNone)=false:=by rfl)
  (Wh:(backToKw q3 (keywordEach [⟨some "key",.Lambda M6 (sG x y p1 p2 p3 p4) scope pos,QV⟩] X.env)).filterMap (·.1)=[("key" : Str)]:=by rfl) :
  PE X (.Call (.Name "sorted" ps) [.Call (.Name "range" pr) [el] [] q2] [⟨some "key",.Lambda M6 (sG x y p1 p2 p3 p4) scope pos,QV⟩] q3) (Ag K P i):=by
 subst hK
 intro E s F H Q I h
 obtain ⟨a,ns,U3,hS,RV,hT,q⟩:=h
 have Zx:PA X [Expr.Call (.Name "range" pr) [el] [] q2] (cY (LK tl) kP):=af (JK Uq Uj hl hs) ak
 have Zw:PK X [⟨some "key",.Lambda M6 (sG x y p1 p2 p3 p4) scope pos,QV⟩] (cY (LI P (xG x y M6 scope p1 p2 p3 p4 cr ((X.mg "__name__").getD .none))) kP):=Ca (Kk Se Rk Pq hq S6 Sf) FO
 refine wpAny_Call_Name_kw (gP I hg hm boot_sorted ?_)
 refine callWith_kw (thn (Zx q3 E s F H (fun vs H1=>∃r:Addr,vs=[V.ref r]/\H r=none/\H1=upd H r (.rng 0 (ns.length:Int))) I (Zl F H _ a _ U3 hS ⟨ns.length,by rw[mo],fun r hr=>⟨r,rfl,hr,rfl⟩⟩)) fun us s1 ⟨vs,H1,I1,r1,r,e1,hr,e2⟩=>?_) he PR OS Wj
 subst e1 e2
 obtain ⟨u1,rfl,ru⟩:=vals1 r1
 obtain rfl:u1=Value.ref r:=ru
 have Xj:Same H (upd H r (.rng 0 (ns.length:Int))):=Same.kj hr
 refine thn (Zw q3 E s1 F _ (fun zs p=>∃f C:Addr,zs=[V.ref f]/\Same (upd H r (.rng 0 (ns.length:Int))) p/\p f=some (xG x y M6 scope p1 p2 p3 p4 cr ((X.mg "__name__").getD .none) f C)/\p C=some (vH C)) I1 ⟨Xj.ti _ hT,fun f C p sm _ S T=>⟨f,C,rfl,sm,S,T⟩⟩) fun ws G ⟨zs,p,g,rz,f,C,e1,Xi,S,T⟩=>?_
 subst e1
 obtain ⟨u2,rfl,Vx⟩:=vals1 rz
 obtain rfl:u2=Value.ref f:=Vx
 rw[Wh]
 have Vv:=Xj.trans Xi
 have UD:=Vv.seq hS
 obtain ⟨m,hn,Sb⟩:=g.loc
 obtain ⟨u,rr,look⟩:=Sb i x (.ref a) hN U3 hv
 obtain rfl:u=Value.ref a:=rr
 have Qj:G.heap.IsCell cr (some (.ref a)):=by
  rcases look with ⟨z,_⟩|⟨_,c2,z1,z2⟩
  .rw[ZM] at z;cases z
  .rw[Z3] at z1;cases z1;exact z2
 have SO:=g.hok r _ (Xi.st r _ az trivial)
 obtain ⟨t1,t2,t3,SO⟩:=SO
 obtain ⟨⟨Q2,ZX⟩,_⟩:=g.hok f _ S
 obtain ⟨WC,_⟩:=g.hok C _ T
 obtain ⟨ME,rv,pl,hz⟩:=g.list UD
 obtain ⟨oL,esL,epL,X4,Z,eL3⟩:=id hn
 have nl:∀{b:Addr}{o:Obj},G.heap.get? b=some o->(∀es ep,o.data≠.dict es ep)->b≠X.env.locals:=fun {b o} e d z=>by
  subst z;rw[e] at X4;cases X4;exact d _ _ Z
 have O:∀{b:Addr}{o:HO},p b=some o->b≠X.env.locals:=fun {b o} e z=>by
  subst z;have:=g.free;rw[e] at this;cases this
 refine Bj (n:=ns.length) (L:=X.env.locals) (m:=m) (key:=fun j=>-(ns.getD j 0)) (I.ok.hd hc) SO RV hn (fun j t0 hh U hj B M=>?_) fun h' U D out cp R B M hD Rj hi hp hw=>?_
 .obtain ⟨oc,ec,dc⟩:=id Qj
  obtain ⟨w1,Zg,YD⟩:=rv.get (show (ns.map V.int)[j]?=some (.int (ns.getD j 0)) by rw[L4,dz,gV hj];rfl)
  obtain ⟨tz,rfl⟩:=YD
  obtain ⟨oa,ea,ca,na,da⟩:=id pl.isList
  refine G1 (s:={ G with heap:=hh,toks:=U }) (cr:=cr) (a:=a) (items:=ME.toArray) (z:=ns.getD j 0) (tz:=tz) (B _ _ (O S) ZX) ?_ RK ?_ ⟨oc,B _ _ (nl ec (fun es ep z=>by rw[dc] at z;cases z)) ec,dc⟩ (pl.isList.at fun o e=>B _ o (nl ea (fun es ep z=>by rw[da] at z;cases z)) e) (by simpa using Zg) (by omega) (fun v=>hb v _ _ _) hy VX Tr hk WD S4 Sd Wx WB fun h' TJ t' kk=>⟨h',TJ,t',rfl,rfl,fun b o _ e=>kk b o e,?_⟩
  .obtain ⟨cc,o,vs,t,e1,e2,e3⟩:=WC
   cases e1
   exact⟨_,o,vs,t,rfl,B _ _ (O T) e2,e3⟩
  .exact g.mod.nolimit.keeps fun b o e=>B b o (fun z=>MT b (by
    have h1:=Heap.lt_size e
    have h2:=g.ok.bsz
    have h3:=g.ok.above
    rw[<- z] at h3
    exact Ml h1 (Mx h2 h3))) (g.bk b o e)
  .obtain ⟨o,es,ep,e1,e2⟩:=M
   exact⟨o,es,ep,kk _ _ e1,e2⟩
 .have Wc:p D=none:=g.hok.fresh Rj
  have sD:Same p (upd p D (.lst (R.map V.int))):=Same.kj Wc
  refine⟨.ref D,upd p D (.lst (R.map V.int)),?_,rfl,q D _ R (Vv.trans sD) (Vv.free Wc) az hp hw⟩
  have J:∀b u,p b=some u->upd p D (.lst (R.map V.int)) b=some u:=fun b u e=>by rw[aG (aS e Wc)];exact e
  refine g.step (g':=G.gens) (d':=G.drawn) (t':=U) (ch:=[]) (fun _ z=>nomatch z) (fun b o hb _ _ e n=>B b o hb e) (fun b o hb _ _ e n=>⟨o.slots,B b o hb e⟩) (fun b o _ e n=>?_) (fun b o _ e=>?_)
   (fun b xs e=>J b _ e) (fun b o u e=>J b _ e) (fun b qs e=>⟨#[],by rw[J b _ e];simp⟩) (fun m' Y=>?_) (fun b o e=>?_) g.bare
  .rw[aG (Mr (Ml (Heap.lt_size e) Rj))];exact n
  .by_cases z:b=X.env.locals
   .subst z
    obtain ⟨o',es,ep,e1,_⟩:=M
    exact⟨o',e1⟩
   .exact⟨o,B b o z e⟩
  .rw[JS Y hn];exact M
  .by_cases zD:b=D
   .subst zD
    rw[az] at e;cases e
    have ZE:=hp.length_eq
    rw[mo,L9] at ZE
    refine⟨by rw[mo,sizeLine_eq];omega,out.toList,cp,gU hi,?_⟩
    rw[hD]
   .rw[aG zD] at e
    refine (g.hok b o e).pF (fun d w' hd z=>B d w' ?_ z) (fun d z=>J d _ z) fun d xs z=>J d _ z
    rcases hd with rfl|hd
    .exact O e
    .exact O hd
end
end L3
namespace L3
open PySem L2 PySem.Spec PyProof.Rows
def xa(P:Addr)(H:Hp):Prop:=(∀b,H b=none\/b=P\/∃o xs,H b=some (.frz o (.lst xs)))/\H P=some (.tbl #[])
theorem xa.tab{P:Addr}{H:Hp}(h:xa P H):TabAt P H:=⟨#[],h.2,trivial,fun pos c e=>by simp [codeAmong] at e⟩
theorem Eg{B:Program}{w:World}{K:aad}{mg G:Str->Option Value}{CX:CXT}{k:Nat}{L a c P:Addr}{R:FuncData}{x:Str}{sp:Sp}{f:Shared}{vs:List Value}{ns:aab}
  (O:K.In f.heap) (Z:f.heap.Ns mainGlobals mg) (hb:f.heap.Ns builtinsNs G) (Z9:∀x:Str,x≠"__name__"->G x=bootBuiltins x) (Wf:f.heap.NoLimit) (hg:f.gens=#[])
  (ha:f.heap.get? a=some { cls:=.type "list",data:=.seq vs.toArray }) (hi:IntsAre vs ns) (hl:ns.length<=sizeLine) (hr:hV k callerA) (n:f.heap.get? P=some (PySem.W.tabObj #[])) (UH:K.lookup P=none) (Pq:PySem.W.codeHdIn K c P=true)
  (Sf:BMd f.heap mg) (F:∀base:Heap,K.In base->base.Ns mainGlobals mg->BMd base mg->bE B w K mg base CX k L R [x] sp) (Ux:∀(s:Shared) (u:Value),BindsTo s R ⟨[u],[]⟩ [(x,u)])
  (RA:∀H:Hp,xa P H->SqL K H a (ns.map V.int)->sp [.ref a] H (fun v _=>v=.bl true) fun _ _ _=>False)
  (WT:∀H e s',CX [] H f (fun _ _ _=>False) e s'->False) :
  codeAny (model B w) callerA (.call (.ref L) ⟨[.ref a],[]⟩) (fun r s'=>r=.ok (.ret (.bool true))/\OldK f.heap s'.heap/\s'.os=f.os/\AllBare s'.gens) f:=by
 have Q:=xb hi
 have VP:=hi.length
 have C:=PySem.W.codeHd_of_K O Pq
 have U:a≠P:=fun z=>by rw[z,n] at ha;cases ha
 have Y:∀H:Hp,xa P H->SqL K H a (ns.map V.int)->HOk B w H f.heap->(∀b,H b≠none->b=a\/b=P)->(H a≠none->K.lookup a=none) ->
   codeAny (model B w) callerA (.call (.ref L) ⟨[.ref a],[]⟩) (fun r s'=>r=.ok (.ret (.bool true))/\OldK f.heap s'.heap/\s'.os=f.os/\AllBare s'.gens) f:=by
  intro H I hS hok J hK
  have TX:∀{b:Addr}{o:Obj}{es:Array DictEntry}{ep:Nat},f.heap.get? b=some o->o.data=.dict es ep->H b=none:=fun {b o es ep} e d=>by
   cases q:H b with
   |none=>rfl
   |some u =>
    rcases J b (by rw[q];simp) with z|z
    .subst z
     rw[ha] at e;cases e
     have d':Data.seq vs.toArray _=Data.dict es ep:=d
     cases d'
    .subst z
     rw[n] at e;cases e
     have d':Data.fields #[]=Data.dict es ep:=d
     cases d'
  have E:∀{b:Addr}{m:Str->Option Value},f.heap.Ns b m->(xV f.heap H).Ns b m:=fun {b m} ⟨o,es,ep,e,d,r⟩=>⟨o,es,ep,vd e (TX e d),d,r⟩
  have S:K.In (xV f.heap H):=fun b o e=>vd (O b o e) (by
   cases q:H b with
   |none=>rfl
   |some u =>
    rcases J b (by rw[q];simp) with z|z
    .subst z
     rw[hK (by rw[q];simp)] at e;cases e
    .subst z
     rw[UH] at e;cases e)
  have hM:Mod K mg (xV f.heap H):=⟨S,E Z,⟨G,E hb,Z9⟩,let ⟨mc,h1,h2⟩:=Wf;⟨mc,E h1,h2⟩⟩
  have e0:BG B w K mg (xV f.heap H) callerA [] f H:=⟨rfl,hM,fun b o e=>Hk e,Nat.le_of_eq (DP _ _),trivial,fun b hb=>absurd (show b∈([]:List Addr) from hb) (by simp),hok,.of_eq hg⟩
  have WK:BMd (xV f.heap H) mg:=by
   obtain ⟨bm,ob,b1,b2,t,M,b5,b6⟩:=Sf
   refine⟨bm,ob,b1,b2,vd t ?_,M,b5,b6⟩
   cases q:H bm with
   |none=>rfl
   |some u =>
    rcases J bm (by rw[q];simp) with z|z
    .subst z;rw[ha] at t;cases t
     exact absurd (show Value.type "list" = Value.type "module" from M) (by decide)
    .subst z;rw[n] at t;cases t;cases M
  refine codeAny_mono ((F _ S (E Z) WK).run callerA [] f H ⟨[.ref a],[]⟩ [.ref a] [.ref a] _ _ hr e0 (Ux f (.ref a)) (.cons rfl .nil) (RA H I hS)) fun r s' h=>?_
  cases r with
  |error e=>exact (WT H e s' h).elim
  |ok fl =>
   cases fl with
   |next=>exact False.elim h
   |brk=>exact False.elim h
   |cont=>exact False.elim h
   |ret u =>
    obtain ⟨v,H',os,bare,un,X,r',q⟩:=h
    have q':v=.bl true:=q
    subst q'
    obtain rfl:u=Value.bool true:=r'
    have keep:∀b o,b≠P->f.heap.get? b=some o->s'.heap.get? b=some o:=fun b o Vg e=>by
     cases q:H b with
     |none=>exact un.keep b o e q (by intro z;exact absurd (show b∈([]:List Addr) from z) (by simp)) (by simp)
     |some u =>
      rcases I.1 b with z|z|⟨ob,xs,z⟩
      .rw[q] at z;cases z
      .exact absurd z Vg
      .have p:=un.frzs b ob _ z
       obtain ⟨e1,_⟩:=hok b _ z
       obtain ⟨e2,_⟩:=X b _ p
       rw[e] at e1;cases e1
       exact e2
    obtain ⟨j,hm⟩:=un.tbls P #[] I.2
    have T:s'.heap.get? P=some { cls:=.none,data:=.fields (#[]++j) }:=X P _ hm
    refine⟨rfl,⟨fun b o e=>?_,fun b o e=>?_⟩,os,bare⟩
    .by_cases z:b=P
     .subst z
      rw[n] at e;cases e
      exact .inr (.inl ⟨(C.tab n).isCodeTable,rfl,#[],j,rfl,T⟩)
     .exact .inl (keep b o z e)
    .by_cases z:b=P
     .subst z;exact⟨_,T⟩
     .exact⟨o,keep b o z e⟩
 cases hk:K.lookup a with
 |some o =>
  have e:=O a o hk
  rw[ha] at e
  cases e
  refine Y (fun b=>if b=P then some (.tbl #[]) else none) ⟨fun b=>?_,if_pos rfl⟩ (.inr ⟨_,vs.toArray,_,hk,rfl,rfl,rfl,by rw[Mq,VP];exact hl,by simpa using Q⟩) (fun b u z=>?_) (fun b z=>?_) fun z=>absurd (if_neg U) z
  .by_cases z:b=P
   .exact .inr (.inl z)
   .exact .inl (if_neg z)
  .by_cases y:b=P
   .have i:=(if_pos y).symm.trans z
    cases i
    subst y
    exact n
   .have i:=(if_neg y).symm.trans z
    cases i
  .by_cases y:b=P
   .exact .inr y
   .exact absurd (if_neg y) z
 |none =>
  refine Y (fun b=>if b=a then some (.frz { cls:=.type "list",data:=.seq vs.toArray } (.lst (ns.map V.int))) else if b=P then some (.tbl #[]) else none) ⟨fun b=>?_,by show (if _ then _ else _)=_;rw[if_neg (MF U),if_pos rfl]⟩ (.inl (.inr ⟨{ cls:=.type "list",data:=.seq vs.toArray },if_pos rfl⟩)) (fun b u z=>?_) (fun b z=>?_) fun _=>hk
  .by_cases y:b=a
   .exact .inr (.inr ⟨_,_,if_pos y⟩)
   .by_cases g:b=P
    .exact .inr (.inl g)
    .exact .inl (by show (if _ then _ else _)=_;rw[if_neg y,if_neg g])
  .by_cases y:b=a
   .have i:=(if_pos y).symm.trans z
    cases i
    subst y
    exact⟨ha,by rw[mo];exact hl,vs,_,Q,ha⟩
   .have i:=(if_neg y).symm.trans z
    by_cases g:b=P
    .have p:=(if_pos g).symm.trans i
     cases p
     subst g
     exact n
    .have p:=(if_neg g).symm.trans i
     cases p
  .by_cases y:b=a
   .exact .inl y
   .by_cases g:b=P
    .exact .inr g
    .exact absurd (by show (if _ then _ else _)=_;rw[if_neg y,if_neg g]) z
theorem G0{l:PySem.W.OpenLaw}{n k:Nat}{q:Program}{X:List Str}{J:(Str->Option Value)->Heap->Prop}{m:World->Heap->Prop}{d:DefRec}{K:Params->aad}{CX:World->CXT}{sp:World->Sp}{x:Str}{c P:Addr}
  (hn:l.most=some n) (S:n<=sizeLine) (M:d.params.defaults=[]) (hr:hV k callerA)
  (y:∀(w:World) (h:Heap),m w h->(K w.params).In h) (z:∀(w:World) (h:Heap),m w h->h.get? P=some (PySem.W.tabObj #[])) (O:∀w:World,(K w.params).lookup P=none) (Z:∀w:World,PySem.W.codeHdIn (K w.params) c P=true)
  (F:∀(w:World) (mg:Str->Option Value) (i:Addr) (h:Heap),(K w.params).In h->h.Ns mainGlobals mg->mg d.name=some (.ref i) ->
   ∃j:FuncData,(∀(s:Shared) (u:Value),BindsTo s j ⟨[u],[]⟩ [(x,u)]) /\
    ∀base:Heap,(K w.params).In base->base.Ns mainGlobals mg->BMd base mg->bE l.prog w (K w.params) mg base (CX w) k i j [x] (sp w))
  (U:∀(w:World) (H:Hp) (a:Addr) (ns:aab),ns.length<=n->xa P H->SqL (K w.params) H a (ns.map V.int)->sp w [.ref a] H (fun v _=>v=.bl true) fun _ _ _=>False)
  (L:∀(w:World) (H:Hp) (s:Shared) (e:Value) (s':Shared),CX w [] H s (fun _ _ _=>False) e s'->False) :
  PySem.W.WalkO q X J m l.row.toRowW d [] (fun f vs=>PySem.call f vs):=by
 refine Att.yR hn M fun w s₀ g mg mb i o pm cd I a vs ns G Y ho hd Z6 Q R T p t=>?_
 have r:=y w _ Y
 obtain ⟨j,hb,E⟩:=F w mg i _ r G.T.g Q
 exact Eg r G.T.g G.T.b G.T.builtins G.T.nolimit t R T (Mx p S) hr (z w _ Y) (O w) (Z w) (let ⟨bm,ob,b1,b2,b3,b4,b5,b6⟩:=G.T.bmain;⟨bm,ob,b1,b2,b3,b4,b5,b6⟩) E hb (fun H C B=>U w H a ns p C B) fun H e s'=>L w H g e s'
end L3
namespace L3
open PySem L2 PyProof.Rows
section
variable {P:Program}{w:World}{K:aad}{mg:Str->Option Value}{base:Heap}
theorem Kl{H:Hp}{a:Addr}{xs:List V}(c:xa vq H)(h:SqL K H a xs):Sc K H a xs:=by
 rcases h with (h|⟨o,h⟩)|h
 .rcases c.1 a with z|z|⟨o,ys,z⟩
  .rw[h] at z;cases z
  .subst z
   have:=c.2
   rw[h] at this;cases this
  .rw[h] at z;cases z
 .exact .inl ⟨o,h⟩
 .exact .inr h
def EB(K:aad)(mg:Str->Option Value)(base:Heap):Prop:=∃f g c,mg "falling_places" = some (.ref f)/\(∃j i h,K.lookup f=some ⟨j,i,.func g,h⟩)/\g.code=.ref c/\PySem.W.codeHdIn K c vq=true/\BMd base mg
theorem Fun.okL{x qual:Str}{st:Stmt}{f c:Addr}{g:FuncData}{N ps:List Str}{k:Nat}{sp:Sp}(F:Fun K x qual st f g)(n:g.code=.ref c)(S:aH N ps (av st))(len:∀vs H Q E,sp vs H Q E->vs.length=ps.length)
  (r:∀(A:Around) (outer:List Env) (s:Shared) (H:Hp) (vs:List V) (Q:VK) (E:XK),hV k (A.deeper (envOfC qual (av st) s.heap.objs.size f (.ref c)))->sp vs H Q E ->
   ∃t,PSs (qr CX0 P w K mg base N qual (av st) f (.ref c) A outer s H E).nox (dZ st) t/\t { nx:=fun _ H'=>Q .non H',rt:=Q } (L2.start N vs) H):bE P w K mg base CX0 (k+1) f g ps sp:=by
 obtain ⟨y,v,kV,m,u,z,i,ct,j,rfl,lk,p⟩:=F.ex
 obtain rfl:i=.ref c:=n
 refine FD lk p S len fun A outer s H vs Q E hr o=>?_
 obtain ⟨t,h,q⟩:=r A outer s H vs Q E hr o
 exact⟨t,h.nox,q⟩
theorem EB.of{f:Addr}{g:FuncData}{st:Stmt}{ps:List Str}(T:EB K mg base)(F:FnAt K mg "falling_places" st ps f g):∃c,g.code=.ref c/\PySem.W.codeHdIn K c vq=true/\BMd base mg:=by
 obtain ⟨s,i,c,n,⟨r,q,p,lk⟩,j,o,m⟩:=T
 have e1:=n.symm.trans F.mg
 cases e1
 obtain ⟨_,_,_,_,_,_,_,_,_,rfl,h,_⟩:=F.fn.ex
 rw[lk] at h
 cases h
 exact⟨c,j,o,m⟩
end
section
variable {K:aad}{Γ:aac}{i:Nat}
theorem JG{δ:Dl}{i:Nat}{x:D}{P:DK}(e:δ[i]?=some (some x))(h:P x):mx i δ P:=by
 unfold mx
 rw[e]
 exact h
def Ew(i:Nat):DE:=fun δ P=>mx i δ fun x=>asL x fun ds=>∃ns:aab,ds=ns.map D.int/\ns.length<64/\∀c:aab,c.Perm (lJ ns.length)->c.Pairwise (fun a b=>ns.getD b.toNat 0<=ns.getD a.toNat 0)->P (dI c)
theorem Bk(i:Nat):EM K Γ [] (Ag K vq i) (Ew i) :=
 ⟨fun δ P B k h=>by
  obtain ⟨x,e,z⟩:=jv h
  obtain ⟨ds,e2,ns,t,f,z⟩:=bH z
  exact JG e (gg e2 ⟨ns,t,f,fun c s q=>k _ (z c s q)⟩),
 fun {B0 fps δ u H Q} o h=>by
  obtain ⟨x,e,z⟩:=jv h
  obtain ⟨ds,e2,ns,rfl,f,z⟩:=bH z
  obtain ⟨v,n,r⟩:=o.val i _ e
  obtain ⟨a,xs,y,rfl,g,hr,_⟩:=r.seq e2
  obtain ⟨rfl,_⟩:=hr.jb bN
  refine⟨a,ns,n,by rw[Mz] at g;exact g,f,o.b0.now,fun l H' c m hl j p hw=>?_⟩
  exact z c p (hw.imp fun h=>by omega) _ _ [l] m (Rf.ofInts j) ⟨by simp,fun b hb=>by cases Gc.mp hb;exact .inl ⟨_,j⟩,fun b hb=>by cases Gc.mp hb;exact .inl hl⟩⟩
end
end L3
namespace L3
open PySem L2
section
end
end L3
namespace L2
open PySem PySem.Spec PyProof.Rows SeqAt MeetsSeq
section
end
end L2
namespace L3
open PySem
open L2 hiding D Rf Rfs Rp dI dT
section
variable {K:aad}
def pL:D->Bool
 |.tup ds=>ds.all D.aQ
 |d=>D.aQ d
theorem Rf.qe{H:Hp}{d:D}{v:V}{fp:List Addr}(h:Rf K H d v fp)(f:pL d=true):fp=[]:=by
 cases d with
 |tup ds =>
  obtain ⟨a,xs,e1,e2,h⟩:=h
  exact (h.jb f).2
 |scr _ =>
  obtain ⟨a,e1,e2,c⟩:=h
  exact c
 |_=>first|exact h.2|cases f
theorem Rfs.qe{H:Hp}:∀{ds:List D}{vs:List V}{fp:List Addr},Rfs K H ds vs fp->ds.all pL=true->fp=[]
 |[],_,_,h,_=>h.2
 |d::ds,vs,fp,h,f=>by
  obtain ⟨x,r,j,i,e1,e2,g,c⟩:=h
  rw[Of,M5] at f
  rw[e2,g.qe f.1,c.qe f.2];rfl
def Ae(x:D)(y:D)(P:DK):Prop:=match x,y with|.lst a,.lst b=>(a.all pL=true/\b.all pL=true/\a.length+b.length<=1000)/\P (.lst (a++b))|_,_=>False
theorem Kt:OpV K JV Ae:=⟨fun x y P s k h=>by unfold Ae at h ⊢;revert h;split<;>first|exact fun h=>⟨h.1,k _ h.2⟩|exact id,fun {H x y v w Q} n m h=>by
 unfold Ae at h
 split at h
 .rename_i a b
  obtain ⟨⟨j,i,hl⟩,h⟩:=h
  obtain ⟨r,l1,xs,o,rfl,e1,_,g⟩:=n
  obtain ⟨q,l2,ys,q2,rfl,e2,_,f⟩:=m
  obtain rfl:=g.qe j
  obtain rfl:=f.qe i
  refine⟨l1,l2,_,_,rfl,rfl,e1,e2,by rw[g.length,f.length];exact l6 hl,fun p c=>?_⟩
  exact h _ _ [p] (Same.kj c) ⟨p,_,[],rfl,az,rfl,(g.append f).same (Same.kj c)⟩ ⟨by simp,fun b hb=>by cases Gc.mp hb;exact .inl ⟨_,az⟩,fun b hb=>by cases Gc.mp hb;exact .inl c⟩
 .exact h.elim⟩
end
end L3
namespace L2
open PySem PySem.Spec PyProof.Rows
section
end
end L2
namespace L3
open PySem L2
section
end
end L3
namespace L2
open PySem PySem.Spec PyProof.Rows
section
end
end L2
namespace L3
open PySem L2
section
variable {K:aad}{ρ:Bool}{Γr Γl Γ Γ1 Γn:aac}{R:Addr->Prop}{t u:TS}{tb:TE}{db:DE}{d e:DS}
variable {B0:Hp}{fps:Nat->List Addr}{δ:Dl}{σ:St}{H H':Hp}
theorem SX.post{t:XK->TS}(h:SX K ρ Γr Γl R t Γ Γ1 d)(s:∀i∈Γn,i∈Γ1:=by decide):SX K ρ Γr Γl R t Γ Γn d:=fun _ _ _ _ _ _ _ _ x k o q=>h x ⟨fun o h=>k.nx (o.sub s) h,k.bk,k.ct,k.rt⟩ o q
theorem JJ{L:TI}{P:DI}{g:TG}{r:D->Dl->(Dl->Prop)->Prop}{tb:XK->TS}{t:DS}(hi:IT K Γ L P)(M:GT K Γ g r)(hb:SX K ρ Γr Γ R tb Γ Γ t):SX K ρ Γr Γl R (fun Ex=>Hi L g (tb Ex)) Γ Γ (HC P r t):=by
 intro B0 Dn E Ex fps δ σ H x k o h
 refine hi.run o (hi.mono _ _ _ (fun ds z J H1 fq X n1 PQ=>?_) h)
 obtain ⟨I,p,F,Q⟩:=(o.same X).rebase
 have G:F9 K J I ds:=PQ I F.b0 (fun a ha=>Q a fun j hj=>n1 j hj a ha) fun a u e im=>by
  rw[Q a fun j hj ha=>((F.own j hj).2 a ha).2.nu u e im];exact e
 refine⟨fun i m σ H=>m=ds.length - i/\i<=ds.length/\∃fps δ,Ok K I Γ fps δ σ H/\lE r t E (ds.drop i) δ,⟨ds.length,by omega,Nx _,fps,δ,F,by rw[N2];exact z⟩,?_⟩
 rintro i m O3 H2 ⟨rfl,XF,Qs,RE,n,B⟩
 by_cases v:i<ds.length
 .refine .inr ⟨G.go n.b0 v,_,fun σ' H' q=>q,fun x3 H3 hy=>?_⟩
  obtain ⟨U,fp,Z,n3⟩:=G.yld n.b0 hy (gV v)
  rw[MO v] at B
  refine M.run (n.same U) Z (fun j hj a ha hz=>n3 a ha ((n.own j hj).2 a hz).1) (M.mono _ _ _ _ (fun S T O σ' o' e'=>?_) B)
  exact hb (E:={ nx:=lE r t E (ds.drop (i+1)),ct:=lE r t E (ds.drop (i+1)),bk:=E.nx,rt:=E.rt }) (fun C H' s z=>x C H' (p.trans s) z) ⟨fun f c=>⟨ds.length - (i+1),by omega,rfl,v,_,_,f,c⟩,fun f c=>k.nx (f.base p o.b0.tv) c,fun f c=>⟨ds.length - (i+1),by omega,rfl,v,_,_,f,c⟩,fun f Y i4 c=>k.rt (f.base p o.b0.tv) Y (fun y=>(i4 y).base p o.b0.tv) c⟩ o' T
 .have e:i=ds.length:=by omega
  subst e
  rw[NG] at B
  exact .inl ⟨G.stop n.b0 (Md _),k.nx (n.base p o.b0.tv) B⟩
def Ib(K:aad)(S:DSX):Sp:=fun vs H Q E=>∃ds,Rps K H ds vs/\gB K H/\S ds (fun x=>∀v H',Same H H'->Rp K H' x v->Q v H') (fun C=>∀H',Same H H'->E (.ref C) none H')
theorem Gy{S:DSX}{n:Nat}(c:∀ds P R,S ds P R->ds.length=n){vs:List V}{H:Hp}{Q:VK}{E:XK}(h:Ib K S vs H Q E):vs.length=n:=by
 obtain ⟨ds,⟨fp,r⟩,_,h⟩:=h
 rw[r.length];exact c _ _ _ h
theorem FE{S:DSX}{t:XK->TS}{N:List Str}{c:(Addr->Prop)->DS}(f:∀R,SX K false [] [] R t [] Γn (c R))(hd:∀ds P R,S ds P R->c R (nZ P) (aL N ds)) :
  ∀{vs H Q E},Ib K S vs H Q E->t E { nx:=fun _ H'=>Q .non H',rt:=Q } (L2.start N vs) H:=by
 rintro vs H Q E ⟨ds,r,tv,h⟩
 obtain ⟨fps,o⟩:=lq (N:=N) r tv
 refine f _ (E:=nZ _) (Ex:=E) (fun C H' s z=>z H' s) ⟨fun {fps δ σ H'} o z=>?_,fun o (z:False)=>z.elim,fun o (z:False)=>z.elim,fun o r i z=>?_⟩ o (hd ds _ _ h)
 .exact z _ H' o.b0 ⟨[],rfl,rfl⟩
 .exact z _ _ o.b0 ⟨_,r⟩
end
end L3
namespace L2
open PySem PySem.Spec PyProof.Rows
section
end
end L2
namespace L3
open PySem L2
section
variable {K:aad}{Γ:aac}{d e:DS}
variable {B0:Hp}{fps:Nat->List Addr}{δ:Dl}{σ:St}{H:Hp}
theorem Rfs.LP{ds es:List D}{vs ws:List V}(h:Rfs K H ds vs [])(r:Rfs K H es ws []):Rfs K H (ds++es) (vs++ws) []:=h.append r
theorem AL(o:Ok K B0 Γ fps δ σ H){i:Nat}(hi:i∈Γ){ds:List D}(e:δ[i]?=some (some (.lst ds)))(p:ds.all pL=true) :
  ∃a xs,σ[i]?=some (some (.ref a))/\H a=some (.lst xs)/\Rfs K H ds xs []/\∀{c:List D}{f:List V},Rfs K H c f []->Ok K B0 Γ (fun j=>if j=i then [a] else fps j) (δ.set i (some (.lst c))) σ (upd H a (.lst f)):=by
 obtain ⟨a,xs,s,m,q,g,h⟩:=o.yN e
 obtain rfl:=h.qe p
 have n:=o.own i hi
 rw[g] at n
 have nt:=(n.2 a ox).2.nu
 refine⟨a,xs,m,q,h,fun {c f} r=>o.write hi (d':=.lst c) (fp':=[a]) m ⟨a,f,[],rfl,az,rfl,r.upd (fun z=>(nomatch z)) nt⟩ (by simp) (fun b hb=>?_) (fun b hb=>?_) ?_⟩
 .cases Gc.mp hb;exact .inl ⟨_,az⟩
 .cases Gc.mp hb;rw[g];exact .inl ox
 .rw[g];exact tq ox
end
end L3
namespace L2
open PySem PySem.Spec PyProof.Rows PySem.Builtin PySem.Builtin.Str
section
end
end L2
namespace L2
open PySem PySem.Spec PyProof.Rows PySem.Builtin PySem.Builtin.Str
section
end
end L2
namespace L3
open PySem L2 PySem.Builtin PySem.Builtin.Str
section
end
end L3
namespace L3
open PySem PySem.Builtin PySem.Builtin.Str
end L3
namespace L3
open PySem L2 PySem.Builtin PySem.Builtin.Str
end L3
namespace L2
open PySem PySem.Spec PyProof.Rows PySem.Builtin PySem.Builtin.Str
section
end
section
end
section
end
end L2
namespace L3
open PySem L2 PySem.Builtin PySem.Builtin.Str
section
end
end L3
namespace L3
open PySem L2 PySem.Builtin PySem.Builtin.Str
end L3
namespace L2
open PySem PySem.Spec PyProof.Rows PySem.Builtin PySem.Builtin.Str
section
end
end L2
namespace L3
open PySem L2 PySem.Builtin PySem.Builtin.Str
section
end
end L3
namespace L3
open PySem L2 PySem.Builtin PySem.Builtin.Str
end L3
namespace L3
open PySem L2 PySem.Builtin PySem.Builtin.Str
end L3
namespace L3
open PySem L2 PySem.Builtin PySem.Builtin.Str
end L3
namespace L2
open PySem PySem.Spec PyProof.Rows
section
end
end L2
namespace L3
open PySem L2
section
end
end L3
namespace L3
open PySem L2
section
end
end L3
namespace Tal
def lines:Nat->aaa
 |0=>[[]]
 |w+1=>(lines w).map (fun l=>0::l)++(lines w).map (fun l=>1::l)
def Be(x:Int)(w:Nat):aaa:=(lines w).filter fun r=>decide (r.sum=x)
def sub:aab->aab->aab
 |a::as,b::bs=>(a - b)::sub as bs
 |[],_=>[]
 |_::_,[]=>[]
theorem sub_len:∀{a b:aab},b.length=a.length->(sub a b).length=a.length
 |[],_,_=>rfl
 |a::as,[],h=>by simp at h
 |a::as,b::bs,h=>by show (sub as bs).length+1=as.length+1;rw[sub_len (by simpa using h)]
theorem pX:∀{a b:aab}{i:Nat},b.length=a.length->(sub a b).getD i 0=a.getD i 0 - b.getD i 0
 |[],[],i,_=>by simp [sub]
 |[],b::bs,_,h=>by simp at h
 |a::as,[],_,h=>by simp at h
 |a::as,b::bs,0,h=>by simp [sub]
 |a::as,b::bs,i+1,h=>by
  have:=pX (a:=as) (b:=bs) (i:=i) (by simpa using h)
  simpa [sub] using this
theorem nA:∀{w:Nat}{l:aab},l∈lines w->l.length=w/\∀z∈l,z=0\/z=1
 |0,l,h=>by
  rw[lines,Gc] at h
  subst h
  exact⟨rfl,fun z c=>absurd c Mo⟩
 |w+1,l,h=>by
  rw[lines,Ma,Mb,Mb] at h
  rcases h with ⟨m,hm,rfl⟩|⟨m,hm,rfl⟩
  all_goals
   have:=nA hm
   refine⟨by rw[L8,this.1],fun z c=>?_⟩
   rcases L6.mp c with e|e
   .subst e;simp
   .exact this.2 z e
theorem qO:∀{l:aab},(∀z∈l,z=0\/z=1)->l∈lines l.length
 |[],_=>by simp [lines]
 |x::l,h=>by
  have:=qO (l:=l) (fun z c=>h z (Fk _ c))
  rw[L8,lines,Ma,Mb,Mb]
  rcases h x ox with e|e
  .exact .inl ⟨l,this,by rw[e]⟩
  .exact .inr ⟨l,this,by rw[e]⟩
theorem lP{x:Int}{w:Nat}{l:aab}:l∈Be x w↔l∈lines w/\l.sum=x:=by
 rw[Be,MP,decide_eq_true_eq]
end Tal
namespace Tal
def Ok:aab->aab->aaa->Prop
 |[],left,[]=>∀x∈left,x=0
 |r::rs,left,t::c=>t∈Be r left.length/\Ok rs (sub left t) c
 |_,_,_=>False
theorem EZ:∀{R left:aab}{T:aaa},Ok R left T->T.length=R.length
 |[],left,[],h=>rfl
 |[],left,_::_,h=>h.elim
 |_::_,left,[],h=>h.elim
 |r::rs,left,t::c,h=>by rw[L8,L8,EZ h.2]
def cols(w:Nat)(T:aaa):aab:=(List.range w).map fun k=>(T.map fun r=>r.getD k 0).sum
theorem eO{w:Nat}{T:aaa}:(cols w T).length=w:=by rw[cols,mo,L9]
theorem jF{w k:Nat}{T:aaa}(h:k<w):(cols w T).getD k 0=(T.map fun r=>r.getD k 0).sum:=by
 rw[cols,dz,L4,MI h];rfl
theorem mR{a b:aab}(h:a.length=b.length)(k:∀i,i<a.length->a.getD i 0=b.getD i 0):a=b:=by
 refine Nf h fun i c f=>?_
 have:=k i c
 rw[dz,dz,gV c,gV f] at this
 exact this
theorem Gj{w:Nat}{t:aab}{T:aaa}(ht:t.length=w):sub (cols w (t::T)) t=cols w T:=by
 refine mR (by rw[sub_len (by rw[eO,ht]),eO,eO]) fun i hi=>?_
 rw[sub_len (by rw[eO,ht]),eO] at hi
 rw[pX (by rw[eO,ht]),jF hi,jF hi,Mc,MD]
 omega
theorem GP{w:Nat}:∀{T:aaa},(∀t∈T,t.length=w/\∀z∈t,z=0\/z=1)->Ok (T.map List.sum) (cols w T) T
 |[],_=>by
  show ∀x∈cols w [],x=0
  intro x c
  rw[cols,Mb] at c
  obtain ⟨k,_,rfl⟩:=c
  rfl
 |t::T,h=>by
  have ht:=h t ox
  refine⟨lP.mpr ⟨?_,rfl⟩,?_⟩
  .rw[eO,<- ht.1];exact qO ht.2
  .rw[Gj ht.1];exact GP fun u f=>h u (Fk _ f)
theorem Bw:∀{R left:aab}{T:aaa},Ok R left T->R=T.map List.sum/\left=cols left.length T/\∀t∈T,t.length=left.length/\∀z∈t,z=0\/z=1
 |[],left,[],h=>by
  refine⟨rfl,?_,fun _ h=>absurd h Mo⟩
  refine mR (by rw[eO]) fun i hi=>?_
  rw[jF hi,h (left.getD i 0) (by rw[dz,gV hi];exact MK hi)]
  rfl
 |[],left,_::_,h=>h.elim
 |_::_,left,[],h=>h.elim
 |r::rs,left,t::g,h=>by
  have m:=lP.mp h.1
  have c:=nA m.1
  have ih:=Bw h.2
  rw[sub_len c.1] at ih
  refine⟨by rw[Mc,m.2,<- ih.1],?_,fun u f=>?_⟩
  .refine mR (by rw[eO]) fun i hi=>?_
   have e:=congrArg (fun l=>l.getD i 0) ih.2.1
   rw[pX c.1,jF hi] at e
   rw[jF hi,Mc,MD]
   omega
  .rcases L6.mp f with e|e
   .rw[e];exact c
   .exact ih.2.2 u e
end Tal
namespace PySem.SeqAt
open PySem PyProof.Rows
open PySem.AutoSeq1 (wpAny_loadPart')
open MeetsSeq MeetsSeq2 MeetsSeq3
end PySem.SeqAt
namespace L2
open PySem PySem.Spec PyProof.Rows
open PySem.SeqAt
section
end
section
end
end L2
namespace L3
open PySem L2
section
end
end L3
namespace Tal
theorem uO{w k:Nat}{l:aab}(h:l∈lines w):l.getD k 0=0\/l.getD k 0=1:=by
 rw[dz]
 cases e:l[k]? with
 |none=>exact .inl rfl
 |some x=>exact (nA h).2 x (MJ e)
end Tal
namespace L3
open PySem L2
section
end
end L3
namespace L3
open PySem L2
section
variable {K:aad}{Γ:aac}{H:Hp}
def BD(d:DE)(δ:Dl)(P:DK):Prop:=d δ fun x=>∃a y,x=.pin a y/\P (.raw (.ref a))
theorem ER.rawOf{t:TE}{d:DE}(h:ER K Γ t d):EM K Γ [] t (BD d) :=
 ⟨fun δ P j k q=>h.mono _ _ _ (fun x ⟨a,y,e,z⟩=>⟨a,y,e,k _ z⟩) q,fun {B0 fps δ i H Q} o q=>h.run o (h.mono _ _ _ (fun x z v g c f=>by
  obtain ⟨a,y,rfl,z⟩:=z
  obtain ⟨fp,e,_⟩:=f
  exact z v g [] c ⟨e,rfl⟩ Nw.nil) q)⟩
end
end L3
namespace L2
open PySem PySem.Spec PyProof.Rows
section
end
end L2
namespace L3
open PySem L2
section
end
end L3
namespace L3
open PySem
open L2 hiding D Rf Rfs Rp dI dT
theorem uD:∀{l:aab}{b:Nat}{v:Int},b<l.length->(l.set b v).sum=l.sum+(v - l.getD b 0)
 |[],b,v,h=>by simp at h
 |x::l,0,v,h=>by simp;omega
 |x::l,b+1,v,h=>by
  have:=uD (l:=l) (b:=b) (v:=v) (by simpa using h)
  simp only[List.set_cons_succ,MD,this,List.getD_cons_succ]
  omega
def du(t:aaa)(a:Nat):Int:=(rowAt t a).sum
def ee(t:aaa)(c:Nat):Int:=(t.map fun r=>r.getD c 0).sum
theorem m6{t:aaa}{n m a b c:Nat}{v:Int}(f:bc n m t)(ha:a<n)(hb:b<m):du (setCell t a b v) c=du t c + if a=c then v - cellAt t a b else 0:=by
 have hl:=f.1
 have hr:=f.row ha
 unfold du rowAt setCell cellAt
 by_cases h:a=c
 .subst h
  rw[if_pos rfl,dz (l:=t.set a _),Ms (by omega),M3,uD (by rw[show (t.getD a []).length=m from hr];exact hb)]
 .rw[if_neg h,dz (l:=t.set a _),L5 h,<- dz];omega
theorem mw{t:aaa}{n m a b c:Nat}{v:Int}(f:bc n m t)(ha:a<n)(hb:b<m):ee (setCell t a b v) c=ee t c+if b=c then v - cellAt t a b else 0:=by
 have hl:=f.1
 have hr:=f.row ha
 unfold ee setCell cellAt
 rw[O2,uD (by rw[mo];omega)]
 have e:(t.map fun r=>r.getD c 0).getD a 0=(t.getD a []).getD c 0:=by
  rw[dz,L4,gV (by omega),dz (l:=t),gV (by omega)]
  rfl
 rw[e]
 have g:(t.getD a []).length=m:=hr
 by_cases h:b=c
 .subst h
  rw[if_pos rfl,dz (l:=List.set _ _ _),Ms (by omega),M3]
 .rw[if_neg h,dz (l:=List.set _ _ _),L5 h,<- dz];omega
theorem Dy{t u:aaa}(hl:t.length=u.length)(h:∀a,a<t.length->du t a=du u a):t.map List.sum=u.map List.sum:=by
 refine Nf (by rw[mo,mo];exact hl) fun a c f=>?_
 rw[mo] at c f
 have:=h a c
 unfold du rowAt at this
 rw[dz,dz,gV c,gV f] at this
 rw[M0,M0]
 exact this
theorem zb{t:aaa}{n m i j k l:Nat}(g:bc n m t)(hi:i<n)(f:k<n)(hj:j<m)(hl:l<m)(q:cellAt t i j=1)(C:cellAt t i l=0)(B:cellAt t k j=0)(y:cellAt t k l=1) :
  (∀a,du (c5 t i j k l) a=du t a)/\∀c,ee (c5 t i j k l) c=ee t c:=by
 have s:j≠l:=fun z=>by rw[z] at q;omega
 have p:i≠k:=fun z=>by rw[z] at q;omega
 have h:=g.setCell (i:=i) (j:=j) (v:=0) hi
 have o:=h.setCell (i:=i) (j:=l) (v:=1) hi
 have r:=o.setCell (i:=k) (j:=j) (v:=1) f
 have e2:cellAt (setCell t i j 0) i l=0:=by rw[cP g hi hj,if_neg (fun z=>s z.2)];exact C
 have x:cellAt (setCell (setCell t i j 0) i l 1) k j=0:=by rw[cP h hi hl,if_neg (fun z=>p z.1),cP g hi hj,if_neg (fun z=>p z.1)];exact B
 have u:cellAt (setCell (setCell (setCell t i j 0) i l 1) k j 1) k l=1:=by rw[cP o f hj,if_neg (fun z=>s z.2),cP h hi hl,if_neg (fun z=>p z.1),cP g hi hj,if_neg (fun z=>p z.1)];exact y
 refine⟨fun a=>?_,fun c=>?_⟩
 .unfold c5
  rw[m6 r f hl,m6 o f hj,m6 h hi hl,m6 g hi hj,e2,x,u,q]
  split<;>split<;>omega
 .unfold c5
  rw[mw r f hl,mw o f hj,mw h hi hl,mw g hi hj,e2,x,u,q]
  split<;>split<;>omega
end L3
namespace L3
namespace Fl
def sN(n:Nat)(f:Nat->Int):Int:=((List.range n).map f).sum
theorem CB{f:Nat->Int}:sN 0 f=0:=rfl
theorem bU{n:Nat}{f:Nat->Int}:sN (n+1) f=sN n f+f n:=by
 unfold sN;rw[Nq,Mf,List.sum_append];simp
theorem aF{n:Nat}{f g:Nat->Int}(h:∀i,i<n->f i=g i):sN n f=sN n g:=by
 unfold sN;congr 1;exact Ob fun i hi=>h i (Mh.mp hi)
theorem i7{f g:Nat->Int}:∀{n:Nat},sN n (fun i=>f i+g i)=sN n f+sN n g
 |0=>rfl
 |n+1=>by rw[bU,bU,bU,i7];omega
theorem jO{f g:Nat->Int}:∀{n:Nat},sN n (fun i=>f i - g i)=sN n f - sN n g
 |0=>rfl
 |n+1=>by rw[bU,bU,bU,jO];omega
theorem bu:∀{n:Nat},sN n (fun _=>0)=0
 |0=>rfl
 |n+1=>by rw[bU,bu];rfl
theorem nF{m:Nat}{f:Nat->Nat->Int}:∀{n:Nat},sN n (fun i=>sN m fun j=>f i j)=sN m fun j=>sN n fun i=>f i j
 |0=>(bu (n:=m)).symm
 |n+1=>by
  rw[bU,nF,<- i7]
  exact aF fun j _=>bU.symm
theorem js{f:Nat->Int}:∀{n:Nat},(∀i,i<n->0<=f i)->0<=sN n f
 |0,_=>Ov _
 |n+1,h=>by
  rw[bU]
  have:=js (f:=f) (n:=n) fun i hi=>h i (by omega)
  have:=h n (by omega)
  omega
theorem qQ{f:Nat->Int}{k:Nat}:∀{n:Nat},(∀i,i<n->0<=f i)->k<n->0<f k->0<sN n f
 |0,_,h,_=>by omega
 |n+1,h,g,c=>by
  rw[bU]
  have a:=js (f:=f) (n:=n) fun i hi=>h i (by omega)
  have b:=h n (by omega)
  rcases N6 k n with z|z
  .have:=qQ (fun i hi=>h i (by omega)) z c
   omega
  .have e:k=n:=by omega
   subst e;omega
theorem tJ{l:aab}:l.sum=sN l.length fun i=>l.getD i 0:=by
 unfold sN
 congr 1
 refine Nf (by simp) fun i c f=>?_
 rw[M0,Nn,dz,gV c];rfl
theorem qu{t:aaa}{n m a:Nat}(h:bc n m t)(ha:a<n):du t a=sN m fun j=>cellAt t a j:=by
 unfold du;rw[tJ,show (rowAt t a).length=m from h.row ha]
theorem nJ{t:aaa}{n m b:Nat}(h:bc n m t):ee t b=sN n fun i=>cellAt t i b:=by
 unfold ee;rw[tJ,mo,h.1]
 refine aF fun i hi=>?_
 have c:i<t.length:=by rw[h.1];exact hi
 unfold cellAt
 rw[dz,L4,gV c,dz (l:=t),gV c]
 rfl
theorem xN{f:Nat->Int}:∀{n:Nat}{R:aac},R.Nodup->(∀r∈R,r<n)->(R.map f).sum=sN n fun i=>if i∈R then f i else 0
 |n,[],_,_=>by simp [bu]
 |n,r::R,nd,h=>by
  obtain ⟨n1,n2⟩:=Mi.mp nd
  rw[Mc,MD,xN n2 fun x m=>h x (Fk _ m)]
  have hr:=h r ox
  have e:sN n (fun i=>if i∈r::R then f i else 0)=sN n (fun i=>(if i=r then f i else 0)+if i∈R then f i else 0):=aF fun i _=>by
   by_cases j:i=r
   .subst j
    rw[if_pos ox,if_pos rfl,if_neg n1];omega
   .rw[if_neg j]
    by_cases c:i∈R
    .rw[if_pos (Fk _ c),if_pos c];omega
    .rw[if_neg (fun z=>by rcases L6.mp z with z|z;exact j z;exact c z),if_neg c];omega
  rw[e,i7]
  congr 1
  have one:∀n:Nat,r<n->sN n (fun i=>if i=r then f i else 0)=f r:=by
   intro n
   induction n with
   |zero=>intro z;omega
   |succ k ih =>
    intro o
    rw[bU]
    rcases N6 r k with z|z
    .rw[ih z,if_neg (by omega)];omega
    .have e:k=r:=by omega
     subst e
     rw[if_pos rfl]
     have:sN k (fun i=>if i=k then f i else 0)=0:=by
      rw[aF (g:=fun _=>0) fun i hi=>if_neg (by omega)];exact bu
     rw[this];omega
  exact (one n hr).symm
def Cut(n m:Nat)(c cols:aab)(low high:aaa)(R C:aac):Prop :=
 sN m (fun j=>if j∈C then cols.getD j 0 else 0)+sN n (fun i=>sN m fun j=>(if i∈R/\j∉C then cellAt high i j else 0) - (if i∉R/\j∈C then cellAt low i j else 0))<sN n fun i=>if i∈R then c.getD i 0 else 0
structure St(n m:Nat)(rows cols:aab)(low high:aaa)(t:aaa)(w r:aab):Prop where
 rt:bc n m t
 wl:w.length=n
 rl:r.length=m
 bd:∀i j,i<n->j<m->cellAt low i j<=cellAt t i j/\cellAt t i j<=cellAt high i j
 rs:∀i,i<n->rows.getD i 0=w.getD i 0+du t i
 cs:∀j,j<m->cols.getD j 0=r.getD j 0+ee t j
 rp:∀j,j<m->0<=r.getD j 0
 ng:∀i,i<n->w.getD i 0<0->∀j,j<m->cellAt t i j=cellAt low i j
theorem JY{n m:Nat}{h cols:aab}{low high t:aaa}{w r:aab}{R C:aac}(s:St n m h cols low high t w r)
  (E:∀i,i<n->0<w.getD i 0->i∈R) (B:∀i∈R,i<n/\(0<w.getD i 0\/∃j,j<m/\cellAt low i j<cellAt t i j)) (x:∀i∈R,∀j,j<m->cellAt t i j<cellAt high i j->j∈C) (v:∀j∈C,r.getD j 0<=0)
  (u:∀j∈C,∀i,i<n->cellAt low i j<cellAt t i j->i∈R) (k:Nat) (o:k<n) (hw:0<w.getD k 0):Cut n m h cols low high R C:=by
 unfold Cut
 have e1:sN n (fun i=>if i∈R then h.getD i 0 else 0)=sN n (fun i=>if i∈R then w.getD i 0 else 0)+sN n fun i=>sN m fun j=>if i∈R then cellAt t i j else 0:=by
  rw[<- i7]
  refine aF fun i hi=>?_
  by_cases z:i∈R
  .rw[if_pos z,if_pos z,s.rs i hi,qu s.rt hi]
   congr 1
   exact aF fun j _=>(if_pos z).symm
  .rw[if_neg z,if_neg z,aF (g:=fun _=>0) fun j _=>if_neg z,bu];rfl
 have e2:sN m (fun j=>if j∈C then cols.getD j 0 else 0)=sN m (fun j=>if j∈C then r.getD j 0 else 0)+sN n fun i=>sN m fun j=>if j∈C then cellAt t i j else 0:=by
  rw[nF,<- i7]
  refine aF fun j hj=>?_
  by_cases z:j∈C
  .rw[if_pos z,if_pos z,s.cs j hj,nJ s.rt]
   congr 1
   exact aF fun i _=>(if_pos z).symm
  .rw[if_neg z,if_neg z,aF (g:=fun _=>0) fun i _=>if_neg z,bu];rfl
 have F:sN n (fun i=>sN m fun j=>if i∈R then cellAt t i j else 0)=sN n (fun i=>sN m fun j=>if j∈C then cellAt t i j else 0)+sN n (fun i=>sN m fun j=>(if i∈R/\j∉C then cellAt high i j else 0) - (if i∉R/\j∈C then cellAt low i j else 0)):=by
  rw[<- i7]
  refine aF fun i hi=>?_
  rw[<- i7]
  refine aF fun j hj=>?_
  have b:=s.bd i j hi hj
  by_cases f:i∈R<;>by_cases c:j∈C
  .rw[if_pos f,if_pos c,if_neg (fun q=>q.2 c),if_neg (fun q=>q.1 f)];omega
  .rw[if_pos f,if_neg c,if_pos ⟨f,c⟩,if_neg (fun q=>q.1 f)]
   have:¬ cellAt t i j<cellAt high i j:=fun q=>c (x i f j hj q)
   omega
  .rw[if_neg f,if_pos c,if_neg (fun q=>q.2 c),if_pos ⟨f,c⟩]
   have:¬ cellAt low i j<cellAt t i j:=fun q=>f (u j c i hi q)
   omega
  .rw[if_neg f,if_neg c,if_neg (fun q=>f q.1),if_neg (fun q=>c q.2)];omega
 have G:0<sN n fun i=>if i∈R then w.getD i 0 else 0:=by
  refine qQ (k:=k) (fun i hi=>?_) o ?_
  .by_cases z:i∈R
   .rw[if_pos z]
    rcases (B i z).2 with q|⟨j,hj,q⟩
    .omega
    .rcases Int.lt_or_le (w.getD i 0) 0 with y|y
     .have:=s.ng i hi y j hj;omega
     .exact y
   .rw[if_neg z];exact Ov _
  .rw[if_pos (E k o hw)];exact hw
 have p:sN m (fun j=>if j∈C then r.getD j 0 else 0)=0:=by
  rw[aF (g:=fun _=>0) fun j hj=>?_,bu]
  by_cases z:j∈C
  .rw[if_pos z]
   have:=v j z
   have:=s.rp j hj
   omega
  .rw[if_neg z]
 rw[e1,e2,F,p]
 omega
theorem filled{n m:Nat}{c cols:aab}{low high t:aaa}{w r:aab}(s:St n m c cols low high t w r)(hr:c.length=n)(g:cols.length=m)(o:c.sum=cols.sum)(h:∀i,i<n->w.getD i 0<=0) :
  (∀i,i<n->du t i=c.getD i 0)/\∀j,j<m->ee t j=cols.getD j 0:=by
 have e1:c.sum=sN n (fun i=>w.getD i 0)+sN n fun i=>sN m fun j=>cellAt t i j:=by
  rw[tJ,hr,<- i7]
  exact aF fun i hi=>by rw[s.rs i hi,qu s.rt hi]
 have e2:cols.sum=sN m (fun j=>r.getD j 0)+sN n fun i=>sN m fun j=>cellAt t i j:=by
  rw[tJ,g,nF,<- i7]
  exact aF fun j hj=>by rw[s.cs j hj,nJ s.rt]
 have a1:=js (f:=fun j=>r.getD j 0) (n:=m) s.rp
 have a2:0<=sN n (fun i=>0 - w.getD i 0):=js fun i hi=>by have:=h i hi;omega
 rw[jO,bu] at a2
 refine⟨fun i hi=>?_,fun j hj=>?_⟩
 .have:=s.rs i hi
  have hw:=h i hi
  rcases Int.lt_or_le (w.getD i 0) 0 with z|z
  .have p:0<sN n (fun i=>0 - w.getD i 0):=qQ (k:=i) (fun i hi=>by have:=h i hi;omega) hi (by omega)
   rw[jO,bu] at p
   omega
  .omega
 .have:=s.cs j hj
  have hr:=s.rp j hj
  rcases Int.lt_or_le 0 (r.getD j 0) with z|z
  .have p:=qQ (f:=fun j=>r.getD j 0) (k:=j) s.rp hj z
   omega
  .omega
def cellsOf:List (Nat × Nat)->List (Nat × Nat)
 |[]=>[]
 |[p]=>[p]
 |p::q::r=>p::(p.1,q.2)::cellsOf (q::r)
def lj:List (Nat × Nat)->Nat->List (Nat × Nat)
 |[],_=>[]
 |[p],c=>[p,(p.1,c)]
 |p::q::r,c=>p::(p.1,q.2)::lj (q::r) c
theorem tN{s c:Nat}:∀{ps:List (Nat × Nat)},cellsOf (ps++[(s,c)])=lj ps c++[(s,c)]
 |[]=>rfl
 |[p]=>rfl
 |p::q::r=>by
  show p::(p.1,q.2)::cellsOf (q::r++[(s,c)])=p::(p.1,q.2)::lj (q::r) c++[(s,c)]
  rw[tN];rfl
theorem wI{s c f:Nat}:∀{ps:List (Nat × Nat)},lj (ps++[(s,c)]) f=lj ps c++[(s,c),(s,f)]
 |[]=>rfl
 |[p]=>rfl
 |p::q::r=>by
  show p::(p.1,q.2)::lj (q::r++[(s,c)]) f=p::(p.1,q.2)::lj (q::r) c++[(s,c),(s,f)]
  rw[wI];rfl
def Lk(L:Nat->Nat->Prop):List (Nat × Nat)->Prop
 |p::q::r=>L p.1 q.2/\Lk L (q::r)
 |_=>True
theorem Ck{L:Nat->Nat->Prop}{s c:Nat}:∀{ps:List (Nat × Nat)},Lk L ps->(∀p,ps.getLast?=some p->L p.1 c)->Lk L (ps++[(s,c)])
 |[],_,_=>trivial
 |[p],_,h=>⟨h p rfl,trivial⟩
 |p::q::r,h,k=>⟨h.1,Ck (ps:=q::r) h.2 fun z e=>k z (by rw[Np];exact e)⟩
def ap:Int->List (Nat × Nat)->aaa->aaa
 |_,[],t=>t
 |x,p::r,t=>ap (-x) r (setCell t p.1 p.2 (cellAt t p.1 p.2+x))
def dl:Int->List (Nat × Nat)->Nat->Nat->Int
 |_,[],_,_=>0
 |x,p::r,a,b=>(if p.1=a/\p.2=b then x else 0)+dl (-x) r a b
def dlr:Int->List (Nat × Nat)->Nat->Int
 |_,[],_=>0
 |x,p::r,a=>(if p.1=a then x else 0)+dlr (-x) r a
def dlc:Int->List (Nat × Nat)->Nat->Int
 |_,[],_=>0
 |x,p::r,b=>(if p.2=b then x else 0)+dlc (-x) r b
theorem Jf{n m:Nat}:∀{ps:List (Nat × Nat)}{x:Int}{t:aaa},bc n m t->(∀p∈ps,p.1<n/\p.2<m)->bc n m (ap x ps t)/\(∀a b,cellAt (ap x ps t) a b=cellAt t a b+dl x ps a b)/\(∀a,du (ap x ps t) a=du t a+dlr x ps a)/\∀b,ee (ap x ps t) b=ee t b+dlc x ps b
 |[],x,t,h,_=>⟨h,fun a b=>by simp [ap,dl],fun a=>by simp [ap,dlr],fun b=>by simp [ap,dlc]⟩
 |p::ps,x,t,h,g=>by
  obtain ⟨c,f⟩:=g p ox
  have o:bc n m (setCell t p.1 p.2 (cellAt t p.1 p.2+x)):=h.setCell c
  obtain ⟨k1,k2,k3,i⟩:=Jf (ps:=ps) (x:=-x) o fun q j=>g q (Fk _ j)
  refine⟨k1,fun a b=>?_,fun a=>?_,fun b=>?_⟩
  .show cellAt (ap (-x) ps _) a b=_
   rw[k2,cP h c f]
   show _=cellAt t a b+((if p.1=a/\p.2=b then x else 0)+dl (-x) ps a b)
   by_cases z:p.1=a/\p.2=b
   .rw[if_pos z,if_pos z]
    obtain ⟨rfl,rfl⟩:=z
    omega
   .rw[if_neg z,if_neg z];omega
  .show du (ap (-x) ps _) a=_
   rw[k3,m6 h c f]
   show _=du t a+((if p.1=a then x else 0)+dlr (-x) ps a)
   by_cases z:p.1=a
   .rw[if_pos z,if_pos z];omega
   .rw[if_neg z,if_neg z];omega
  .show ee (ap (-x) ps _) b=_
   rw[i,mw h c f]
   show _=ee t b+((if p.2=b then x else 0)+dlc (-x) ps b)
   by_cases z:p.2=b
   .rw[if_pos z,if_pos z];omega
   .rw[if_neg z,if_neg z];omega
theorem Ce{x:Int}{a:Nat}:∀{ps:List (Nat × Nat)}{p:Nat × Nat},ps.getLast?=some p->dlr x (cellsOf ps) a=if p.1=a then x else 0
 |[],p,e=>by simp at e
 |[q],p,e=>by
  obtain rfl:q=p:=by simpa using e
  show (if q.1=a then x else 0)+0=_
  omega
 |q::q2::r,p,e=>by
  show (if q.1=a then x else 0)+((if q.1=a then -x else 0)+dlr (- -x) (cellsOf (q2::r)) a)=_
  rw[Int.neg_neg,Ce (ps:=q2::r) (p:=p) (by rw[Np] at e;exact e)]
  by_cases z:q.1=a
  .rw[if_pos z,if_pos z];omega
  .rw[if_neg z,if_neg z];omega
theorem Cc{x:Int}{b:Nat}:∀{ps:List (Nat × Nat)}{p:Nat × Nat},dlc x (cellsOf (p::ps)) b=if p.2=b then x else 0
 |[],p=>by
  show (if p.2=b then x else 0)+0=_
  omega
 |q::r,p=>by
  show (if p.2=b then x else 0)+((if q.2=b then -x else 0)+dlc (- -x) (cellsOf (q::r)) b)=_
  rw[Int.neg_neg,Cc (ps:=r) (p:=q)]
  by_cases z:q.2=b
  .rw[if_pos z,if_pos z];omega
  .rw[if_neg z,if_neg z];omega
theorem Ba{x:Int}{a b:Nat}:∀{ps:List (Nat × Nat)},(∀p∈ps,p.1≠a)->dl x (cellsOf ps) a b=0
 |[],_=>rfl
 |[p],h=>by
  show (if p.1=a/\p.2=b then x else 0)+0=0
  rw[if_neg (fun z=>h p ox z.1)];rfl
 |p::q::r,h=>by
  show (if p.1=a/\p.2=b then x else 0)+((if p.1=a/\q.2=b then -x else 0)+dl (- -x) (cellsOf (q::r)) a b)=0
  rw[if_neg (fun z=>h p ox z.1),if_neg (fun z=>h p ox z.1),Int.neg_neg,Ba (ps:=q::r) fun z c=>h z (Fk _ c)];rfl
theorem Gr{x:Int}{a b:Nat}{L:Nat->Nat->Prop}:∀{ps:List (Nat × Nat)},(ps.map Prod.fst).Nodup->(ps.map Prod.snd).Nodup->Lk L ps->dl x (cellsOf ps) a b=0\/(dl x (cellsOf ps) a b=x/\(a,b)∈ps)\/(dl x (cellsOf ps) a b=-x/\L a b/\∃p∈ps,p.1=a)
 |[],_,_,_=>.inl rfl
 |[p],_,_,_=>by
  show (if p.1=a/\p.2=b then x else 0)+0=0\/((if p.1=a/\p.2=b then x else 0)+0=x/\_)\/_
  by_cases z:p.1=a/\p.2=b
  .right;left
   rw[if_pos z]
   refine⟨by omega,?_⟩
   rw[<- z.1,<- z.2];exact ox
  .left;rw[if_neg z];rfl
 |p::q::r,n1,n2,hl=>by
  have e:dl x (cellsOf (p::q::r)) a b=(if p.1=a/\p.2=b then x else 0)+((if p.1=a/\q.2=b then -x else 0)+dl (- -x) (cellsOf (q::r)) a b):=rfl
  rw[e,Int.neg_neg]
  rw[Mc] at n1 n2
  obtain ⟨o,t⟩:=Mi.mp n1
  obtain ⟨n,s⟩:=Mi.mp n2
  by_cases z:p.1=a
  .have h:dl x (cellsOf (q::r)) a b=0:=Ba fun y g w=>o (by rw[z,<- w];exact Mb.mpr ⟨y,g,rfl⟩)
   rw[h]
   by_cases f:p.2=b
   .have c:q.2≠b:=fun w=>n (by rw[f,<- w];exact Mb.mpr ⟨q,ox,rfl⟩)
    right;left
    rw[if_pos ⟨z,f⟩,if_neg (fun w=>c w.2)]
    refine⟨by omega,?_⟩
    rw[<- z,<- f];exact ox
   .rw[if_neg (fun w=>f w.2)]
    by_cases c:q.2=b
    .right;right
     rw[if_pos ⟨z,c⟩]
     refine⟨by omega,?_,p,ox,z⟩
     rw[<- z,<- c];exact hl.1
    .left;rw[if_neg (fun w=>c w.2)];rfl
  .rw[if_neg (fun w=>z w.1),if_neg (fun w=>z w.1),MS,MS]
   rcases Gr (x:=x) (a:=a) (b:=b) t s hl.2 with w|w|w
   .exact .inl w
   .exact .inr (.inl ⟨w.1,Fk _ w.2⟩)
   .obtain ⟨m,j,y,g,i⟩:=w
    exact .inr (.inr ⟨m,j,y,Fk _ g,i⟩)
def Al(Q0 Q1:Nat × Nat->Prop):List (Nat × Nat)->Prop
 |[]=>True
 |p::r=>Q0 p/\Al Q1 Q0 r
theorem IY{Q0 Q1:Nat × Nat->Prop}:∀{cs:List (Nat × Nat)},(∀(j:Nat) p,cs[j]?=some p->if j % 2=0 then Q0 p else Q1 p)->Al Q0 Q1 cs
 |[],_=>trivial
 |p::r,h=>by
  refine⟨by have:=h 0 p rfl;simpa using this,IY fun j q e=>?_⟩
  have:=h (j+1) q (by simpa using e)
  by_cases z:j % 2=0
  .rw[if_pos z];rw[if_neg (by omega)] at this;exact this
  .rw[if_neg z];rw[if_pos (by omega)] at this;exact this
theorem Jm{Q0 Q1:Nat × Nat->Prop}:∀{cs:List (Nat × Nat)},Al Q0 Q1 cs->∀(j:Nat) p,cs[j]?=some p->if j % 2=0 then Q0 p else Q1 p
 |[],_,j,p,e=>by simp at e
 |q::r,h,0,p,e=>by
  obtain rfl:q=p:=by simpa using e
  exact h.1
 |q::r,h,j+1,p,e=>by
  have:=Jm h.2 j p (by simpa using e)
  by_cases z:j % 2=0
  .rw[if_pos z] at this;rw[if_neg (by omega)];exact this
  .rw[if_neg z] at this;rw[if_pos (by omega)];exact this
theorem Bx{Q0 Q1:Nat × Nat->Prop}:∀{ps:List (Nat × Nat)},Al Q0 Q1 (cellsOf ps)↔(∀p∈ps,Q0 p)/\Lk (fun a b=>Q1 (a,b)) ps
 |[]=>⟨fun _=>⟨fun p h=>(nomatch h),trivial⟩,fun _=>trivial⟩
 |[p]=>⟨fun h=>⟨fun q f=>by cases Gc.mp f;exact h.1,trivial⟩,fun h=>⟨h.1 p ox,trivial⟩⟩
 |p::q::r=>by
  have ih:=Bx (Q0:=Q0) (Q1:=Q1) (ps:=q::r)
  refine⟨fun h=>?_,fun h=>?_⟩
  .obtain ⟨j,i,g⟩:Q0 p/\Q1 (p.1,q.2)/\Al Q0 Q1 (cellsOf (q::r)):=h
   obtain ⟨k1,k2⟩:=ih.mp g
   exact⟨fun z c=>by rcases L6.mp c with y|y;rw[y];exact j;exact k1 z y,i,k2⟩
  .exact⟨h.1 p ox,h.2.1,ih.mpr ⟨fun z c=>h.1 z (Fk _ c),h.2.2⟩⟩
end Fl
end L3
namespace L3
open PySem L2
section
end
section
end
section
end
end L3
namespace L2
open PySem PySem.Spec PyProof.Rows PySem.Calls
theorem uK:∀{us:List Value}{ns:aab},us.length=ns.length->(∀(j:Nat) (v:Value),us[j]?=some v->∃i t,ns[j]?=some i/\v=Value.int i t)->IntsAre us ns
 |[],[],_,_=>.nil
 |[],_::_,h,_=>by simp at h
 |_::_,[],h,_=>by simp at h
 |u::us,n::ns,h,k=>by
  obtain ⟨i,t,e1,rfl⟩:=k 0 u rfl
  obtain rfl:n=i:=by simpa using e1
  exact .cons n t (uK (by simpa using h) fun j v e=>k (j+1) v (by simpa using e))
section
variable {prog:Program}{w:World}{A:Around}{E:Value->Shared->Prop}{s:Shared}
theorem xq{d:Addr}{kvs:List (Key × Value)}{ns:aab}{Q:Value->Shared->Prop}(hd:s.heap.DictOf (cZ prog w) d kvs)(lo:(d == sysModules)=false)(H:A.handled=none)(B:kvs.map (·.1)=ns.map Sum.inl)(P:ns.length<64)
  (h:∀(h':Heap) (n:Nat) (a:Addr) (e:Nat) (out:Array Value) (g:aab),(∀b u,s.heap.get? b=some u->h'.get? b=some u)->s.heap.get? a=none->(∃c:Heap,(∀b u,s.heap.get? b=some u->c.get? b=some u)/\a=c.objs.size)->h'.get? a=some (seqObj "list" out e)->IntsAre out.toList g->g.Perm ns->g.Pairwise (·<=·)->Q (.ref a) { s with heap:=h',toks:=n }) :
  wpAny (model prog w) A (call (.builtin "sorted") [.ref d]) Q E s:=by
 obtain ⟨ep,o⟩:=hd.dictAt
 have M:kvs.length=ns.length:=by have:=congrArg List.length B;simpa using this
 have F:kvs.length<=sizeLine:=by rw[sizeLine_eq];omega
 refine Calls.call_function_entry kind_sorted plain_sorted entry_sorted (args_sorted1 _) ?_
 unfold Builtin.«sorted»
 refine wpAny_bind (m:=checkCount "sorted" 1 1 _) (wpAny_pure ?_)
 refine wpAny_bind (PySem.W.kdu_collect (A:=A.in1) (PySem.W.kdl_dict (knd:=cZ prog w) (kvs:=kvs) (ep:=ep) lo) H o F fun h' n acc q G=>?_)
 have hl:acc.toList.length=kvs.length:=by rw[MU];exact G.1
 have J:IntsAre acc.toList ns:=uK (by rw[hl,M]) fun j v e=>by
  obtain ⟨k,x,e1,e2⟩:=G.2 j v (by rw[<- Array.getElem?_toList];exact e)
  have f:(kvs.map (·.1))[j]?=some k:=by rw[L4,e1];rfl
  rw[B,L4] at f
  cases e4:ns[j]? with
  |none=>rw[e4] at f;cases f
  |some i =>
   rw[e4] at f
   obtain rfl:Sum.inl i=k:=MB f
   rw[AU] at e2
   rcases cy e2 with ⟨O,t,p,C⟩|⟨y,t,p,C⟩
   .cases p
    exact⟨i,t,rfl,C⟩
   .cases p
 refine wpAny_bind (wpAny_newList ?_ (by rw[hl];exact F))
 have r:(h'.push (seqObj "list" acc.toList.toArray 0)).get? h'.objs.size=some (seqObj "list" acc.toList.toArray 0):=Heap.get?_push_size _ rfl
 show wpAny _ _ _ _ _ { s with heap:=h'.push (seqObj "list" acc.toList.toArray 0),toks:=n }
 refine wpAny_bind (wpAny_holding (wpAny_call_entry slot_list_sort ⟨_,r,rfl⟩ entry_list_sort (list_sort_tree r J (by rw[hl];omega) fun out g a1 a2 L=>⟨_,rfl,?_⟩) (args_list_sort _)))
 obtain ⟨e,I⟩:=sortedHeap_at (out:=out) r
 refine wpAny_pure ⟨_,rfl,h _ n h'.objs.size e out g (fun b u hb=>?_) ?_ ⟨h',q,rfl⟩ I a1 a2 L⟩
 .have c:=q b u hb
  have z:=Heap.lt_size c
  rw[sortedHeap_old (Mr z) (by rw[size_push'];exact Nat.lt_succ_of_lt z),Heap.get?_push_ne _ _ _ (Mr z)]
  exact c
 .cases e0:s.heap.get? h'.objs.size with
  |none=>rfl
  |some u=>exact absurd (Heap.lt_size (q _ u e0)) (MT _)
end
section
variable {X:Cx}{pins:List (Addr × Obj)}{σ:St}{H:Hp}{s:Shared}
theorem Ea{h':Heap}{a:Addr}{o:HO}{t':Nat}(I:Inv X pins σ H s)(k:∀b u,s.heap.get? b=some u->h'.get? b=some u)(f:s.heap.get? a=none)(hn:H a=none)(g:cD X.prog X.w (upd H a o) h' a o) :
  Inv X pins σ (upd H a o) { s with heap:=h',toks:=t' } :=
 I.un { keep := fun b u q _ _ _ => k b u q
        slot:=fun b u q _ _ _=>⟨u.slots,k b u q⟩
        free:=fun b u q n _=>by rw[aG (fun z=>by subst z;rw[f] at q;cases q)];exact n
        there:=fun b u q _=>⟨u,k b u q⟩
        tups:=fun b xs q=>by rw[aG (aS q hn)];exact q
        frzs:=fun b u xs q=>by rw[aG (aS q hn)];exact q
        tbls:=fun b ps q=>⟨#[],by rw[aG (aS q hn),q];simp⟩ }
  fun b u e=>by
   by_cases hb:b=a
   .subst hb;rw[az] at e;cases e;exact g
   .rw[aG hb] at e
    exact (I.hok b u e).pF (fun c v _ q=>k c v q) (fun c q=>by rw[aG (aS q hn)];exact q) fun c xs q=>by rw[aG (aS q hn)];exact q
theorem pN(t:X.calm=true):je X (.builtin "sorted") (fun xs H Q=>∃(a:Addr) (kvs:List (Key × V)) (ns:aab),xs=[.ref a]/\H a=some (.dK kvs)/\kvs.map (·.1)=ns.map Sum.inl/\ns.length<64 /\
  ∀(l:Addr) (c:aab),H l=none->c.Perm ns->c.Pairwise (·<=·)->Q (.ref l) (upd H l (.lst (c.map V.int)))):=by
 intro pins s σ H xs us Q I r h
 obtain ⟨a,kvs,ns,rfl,v,p,n,q⟩:=h
 obtain ⟨u,rfl,g⟩:=vals1 r
 obtain rfl:u=Value.ref a:=g
 obtain ⟨_,lo,vs,m,hd⟩:=Jk I.hok v
 refine xq hd lo (I.ok.hd t) (by rw[<- m.keys];exact p) n fun h' f b e out c k1 k2 j k3 a1 a2 x=>?_
 obtain ⟨y,i,q2⟩:=j
 have hn:H b=none:=(I.hok.kept i).fresh (Nat.le_of_eq q2.symm)
 have z:=a2.length_eq
 refine⟨.ref b,_,Ea (t':=f) (o:=.lst (c.map V.int)) I k1 k2 hn ⟨?_,out.toList,e,gU a1,?_⟩,rfl,q _ c hn a2 x⟩
 .rw[mo];exact small (by omega)
 .exact k3
theorem D3{f:List Stmt}{t:TS}(G:aac)(p:∀i∈G,∀x,X.N[i]?=some x->X.env.scope.names.lookup x=none)(h:PSs X f t) :
  PSs X f (fun Dn c H=>∃σ':St,σ'.length=c.length/\(∀i,i∉G->σ'[i]?=c[i]?)/\t Dn σ' H):=by
 intro pins s c H D I q
 obtain ⟨σ',hl,o,q⟩:=q
 obtain ⟨m,hm,lk⟩:=I.loc
 refine h pins s σ' H D ⟨I.ok,I.os,I.bare,I.base,⟨m,hm,fun i x v g j n=>?_⟩,I.cell,I.free,I.freeC,I.pin,I.hok,by rw[hl];exact I.len⟩ q
 by_cases hi:i∈G
 .have e:=p i hi x g
  rcases n with z|z|z<;>rw[e] at z<;>cases z
 .rw[o i hi] at j
  exact lk i x v g j n
end
end L2
namespace L3
open PySem L2
section
variable {K:aad}{ρ:Bool}{Γr Γl Γ:aac}{te tx:TE}{de dx:DE}
variable {B0:Hp}{fps:Nat->List Addr}{δ:Dl}{σ:St}{H:Hp}{C:Addr}{f:Str}
theorem Ok.lend(o:Ok K B0 Γ fps δ σ H){i:Nat}{y:D}{v:V}{fp:List Addr}(hl:i<δ.length)(c:σ[i]?=some (some v))(r:Rf K H y v fp) :
  Ok K H [] (fun j=>if j=i then fp else fps j) (δ.set i (some y)) σ H:=by
 refine⟨by rw[MM];exact o.len,SB.refl o.b0.now,fun j d e=>?_,fun j q=>?_,fun _ h=>(nomatch h),fun _ h=>(nomatch h)⟩
 .by_cases hj:j=i
  .subst hj
   rw[Ms hl] at e;cases e
   exact⟨v,c,by show Rf K H y v (if j=j then fp else fps j);rw[if_pos rfl];exact r⟩
  .rw[L5 (MF hj)] at e
   show ∃v,_/\Rf K H d v (if j=i then fp else fps j)
   rw[if_neg hj]
   exact o.val j d e
 .by_cases hj:j=i
  .subst hj;exact absurd (Ms hl) (q y)
  .show (if j=i then fp else fps j)=[]
   rw[if_neg hj]
   exact o.non j fun d z=>q d (by rw[L5 (MF hj)];exact z)
def Fu(i f c:Nat)(δ:Dl)(P:D->Prop):Prop:=∃(s C:Addr) (ns:List Str) (a1 a2:Addr) (e1 e2:D) (rest:List D),δ[i]?=some (some (.pin s (.ins C ns (.raw (.ref a1)::.raw (.ref a2)::rest))))/\δ[f]?=some (some (.pin a1 e1))/\δ[c]?=some (some (.pin a2 e2))/\P (.ins C ns (e1::e2::rest))
theorem Fu.mono{i f c:Nat}{P g:D->Prop}(h:Fu i f c δ P)(k:∀y,P y->g y):Fu i f c δ g :=
 let ⟨s,C,ns,a1,a2,e1,e2,rest,h0,h1,h2,p⟩:=h;⟨s,C,ns,a1,a2,e1,e2,rest,h0,h1,h2,k _ p⟩
theorem Fu.out{i g f:Nat}{P:D->Prop}(h:Fu i g f δ P)(o:Ok K B0 Γ fps δ σ H):∃y v fp,P y/\i<δ.length/\σ[i]?=some (some v)/\Rf K H y v fp:=by
 obtain ⟨s,C,ns,a1,a2,e1,e2,rest,c,u,t,p⟩:=h
 obtain ⟨v,n,e,a,dx,xs,I,x,q,_,r⟩:=o.val i _ c
 obtain ⟨E,z,O,M,rfl,_,⟨rfl,_⟩,r⟩:=r
 obtain ⟨B,j,L,J,rfl,_,⟨rfl,_⟩,r⟩:=r
 obtain ⟨G,_,rfl,m⟩:=o.val g _ u
 obtain ⟨F,_,rfl,q2⟩:=o.val f _ t
 exact⟨_,v,_,p,(KE.mp c).1,n,a,dx,_,_,x,q,rfl,.ref a1,_,_,_,rfl,rfl,m,.ref a2,_,_,_,rfl,rfl,q2,r⟩
def Ji(i f c:Nat)(d:DE)(δ:Dl)(P:DK):Prop:=Fu i f c δ fun y=>d (δ.set i (some y)) P
theorem xk(i m j:Nat)(h:EM K [] [] te de):EM K Γ [] te (Ji i m j de) :=
 ⟨fun δ P t k q=>q.mono fun y z=>h.mono _ _ _ k z,fun o q=>by
  obtain ⟨y,v,fp,p,hl,g,r⟩:=q.out o
  exact h.run (o.lend hl g r) (h.mono _ _ _ (fun x z c H' fp' s f n=>z c H' fp' s f n.any) p)⟩
theorem tw(i g f:Nat)(h:ER K [] te de):ER K Γ te (Ji i g f de) :=
 ⟨fun δ P j k q=>q.mono fun y z=>h.mono _ _ _ k z,fun o q=>by
  obtain ⟨y,v,fp,p,hl,c,r⟩:=q.out o
  exact h.run (o.lend hl c r) p⟩
def Kq(i f c:Nat)(d:DT)(δ:Dl)(P:Bool->Prop):Prop:=Fu i f c δ fun y=>d (δ.set i (some y)) P
theorem CW(i m j:Nat){c:TT}{f:DT}(h:TR K [] c f):TR K Γ c (Kq i m j f) :=
 ⟨fun δ P n k q=>q.mono fun y z=>h.mono _ _ _ k z,fun o q=>by
  obtain ⟨y,v,fp,p,hl,g,r⟩:=q.out o
  exact h.run (o.lend hl g r) p⟩
def La(i:Nat)(C:Addr)(ns:List Str)(k:Nat)(δ:Dl)(P:DK):Prop:=∃s ds y,δ[i]?=some (some (.pin s (.ins C ns ds)))/\ds[k]?=some y/\P y
theorem II(i:Nat)(ns:List Str)(k:Nat)(t:Cls K C)(hn:bW K C f)(hi:ns[k]?=some f:=by rfl)(hd:ns.Nodup:=by decide +kernel)(h:i∈Γ:=by decide):EM K Γ [i] (xu K (eT i) f) (La i C ns k) :=
 ⟨fun δ P G n ⟨s,ds,y,e,c,q⟩=>⟨s,ds,y,e,c,n _ q⟩,fun {B0 fps δ σ H Q} o q=>by
  obtain ⟨s,ds,y,e,c,q⟩:=q
  obtain ⟨v,p,rfl,a,dx,xs,F,z,u,j,r⟩:=o.val i _ e
  cases z
  have nd:=(o.own i h).1
  rw[j] at nd
  obtain ⟨w,g,x,E,sub,B⟩:=r.IE (Mi.mp nd).2 c
  have m:∀b∈g,b∈fps i:=fun b hb=>by rw[j];exact Fk _ (sub b hb)
  exact⟨.ref s,p,s,C,dx,_,w,rfl,u,t,hn,bz hd hi x,q w H g (Same.refl H) E ⟨B,fun b hb=>((o.own i h).2 b (m b hb)).2,fun b hb=>.inr ⟨i,Gc.mpr rfl,m b hb⟩⟩⟩⟩
theorem Rfs.setM{H:Hp}:∀{ds:List D}{xs:List V}{f:List Addr}{m:Nat}{d:D},Rfs K H ds xs f->f.Nodup->ds[m]?=some d ->
  ∃x g,xs[m]?=some x/\Rf K H d x g/\g.Nodup/\(∀a∈g,a∈f)/\∀(b:Addr) (H':Hp) (d':D),b∈g->(∀u,H b=some u->¬ Im u)->(∀a u,a≠b->H a=some u->H' a=some u)->Rf K H' d' x g->Rfs K H' (ds.set m d') xs f
 |[],_,_,_,_,_,_,e=>by simp at e
 |d::ds,xs,f,0,d',h,nd,e=>by
  obtain ⟨x,r,i,q,rfl,rfl,p,o⟩:=h
  obtain ⟨n1,n2,j⟩:=Mm.mp nd
  obtain rfl:d=d':=by simpa using e
  refine⟨x,i,rfl,p,n1,fun a ha=>Me _ ha,fun b H' d' hb hm c hr=>⟨x,r,i,q,rfl,rfl,hr,o.mono (fun a ha u e=>c a u (fun z=>j b hb a ha z.symm) e) fun a u e n=>c a u (fun z=>hm u (z▸e) n) e⟩⟩
 |d::ds,xs,f,m+1,d',h,nd,e=>by
  obtain ⟨x,r,i,q,rfl,rfl,p,o⟩:=h
  obtain ⟨n1,n2,j⟩:=Mm.mp nd
  obtain ⟨y,g,e1,t,s,sub,k⟩:=Rfs.setM (m:=m) o n2 (by simpa using e)
  exact⟨y,g,by simpa using e1,t,s,fun a ha=>L1 _ (sub a ha),fun b H' d' hb hm c hr=>⟨x,r,i,q,rfl,rfl,p.mono (fun a ha u e=>c a u (fun z=>j a ha b (sub b hb) z) e) (fun a u e n=>c a u (fun z=>hm u (z▸e) n) e),k b H' d' hb hm c hr⟩⟩
theorem Ok.fld(o:Ok K B0 Γ fps δ σ H){i k:Nat}{s C:Addr}{ns:List Str}{ds:List D}{d:D}(hi:i∈Γ)(e:δ[i]?=some (some (.pin s (.ins C ns ds))))(E:ds[k]?=some d) :
  ∃dx xs x g,σ[i]?=some (some (.ref s))/\H s=some (.ins C dx (ns.zip xs))/\xs[k]?=some x/\Rf K H d x g/\g.Nodup/\(∀a∈g,a∈fps i/\a≠s) /\
   ∀(b:Addr) (H':Hp) (d':D),b∈g->(∀a u,a≠b->H a=some u->H' a=some u)->Mu H' b->Rf K H' d' x g->Ok K B0 Γ (fun j=>if j=i then fps i else fps j) (δ.set i (some (.pin s (.ins C ns (ds.set k d'))))) σ H':=by
 obtain ⟨v,p,rfl,a,dx,xs,B,F,q,h,r⟩:=o.val i _ e
 cases F
 have own:=o.own i hi
 rw[h] at own
 obtain ⟨nd,mu⟩:=own
 obtain ⟨n1,n2⟩:=Mi.mp nd
 obtain ⟨x,g,ex,rg,ng,sub,M⟩:=r.setM n2 E
 refine⟨dx,xs,x,g,p,q,ex,rg,ng,fun a ha=>⟨by rw[h];exact Fk _ (sub a ha),fun z=>n1 (z▸sub a ha)⟩,fun b H' d' hb f J hr=>?_⟩
 have bs:s≠b:=fun z=>n1 (by rw[z];exact sub b hb)
 have I:∀u,H b=some u->¬ Im u:=(mu b (Fk _ (sub b hb))).2.nu
 have G:∀c∈fps i,Mu H' c:=fun c n=>by
  by_cases m:c=b
  .rw[m];exact J
  .rcases (mu c (by rw[<- h];exact n)).2 with ⟨y,z⟩|⟨y,z⟩|⟨y,z⟩|⟨O,L,fs,z⟩
   .exact .inl ⟨y,f _ _ m z⟩
   .exact .inr (.inl ⟨y,f _ _ m z⟩)
   .exact .inr (.inr (.inl ⟨y,f _ _ m z⟩))
   .exact .inr (.inr (.inr ⟨O,L,fs,f _ _ m z⟩))
 refine o.write hi (d':=.pin s (.ins C ns (ds.set k d'))) (fp':=fps i) p ⟨rfl,s,dx,xs,B,rfl,f _ _ bs q,h,M b H' d' hb I f hr⟩ (by rw[h];exact nd) G (fun a ha=>.inl ha) fun c u n t=>f c u (fun z=>n (by rw[z,h];exact Fk _ (sub b hb))) t
theorem Im.nt{u:HO}(c:Im u):NT u:=by rcases c with ⟨_,rfl⟩|⟨_,_,rfl⟩|⟨_,_,rfl⟩<;>trivial
theorem Rfs.Jl{H:Hp}:∀{ds:List D}{xs:List V}{f:List Addr}{m:Nat}{d:D},Rfs K H ds xs f->f.Nodup->ds[m]?=some d ->
  ∃x g,xs[m]?=some x/\Rf K H d x g/\g.Nodup/\(∀a∈g,a∈f)/\∀(b:Addr) (H':Hp) (d':D),b∈g->(∀u,H b=some u->¬ Im u)->(∀a u,a≠b->H a=some u->NT u->H' a=some u)->Rf K H' d' x g->Rfs K H' (ds.set m d') xs f
 |[],_,_,_,_,_,_,e=>by simp at e
 |d::ds,xs,f,0,d',h,nd,e=>by
  obtain ⟨x,r,j,s,rfl,rfl,q,p⟩:=h
  obtain ⟨n1,n2,o⟩:=Mm.mp nd
  obtain rfl:d=d':=by simpa using e
  refine⟨x,j,rfl,q,n1,fun a ha=>Me _ ha,fun b H' d' hb hm c hr=>⟨x,r,j,s,rfl,rfl,hr,p.mn (fun a ha u e n=>c a u (fun z=>o b hb a ha z.symm) e n) fun a u e i=>c a u (fun z=>hm u (z▸e) i) e i.nt⟩⟩
 |d::ds,xs,f,m+1,d',h,nd,e=>by
  obtain ⟨x,r,j,s,rfl,rfl,q,p⟩:=h
  obtain ⟨n1,n2,o⟩:=Mm.mp nd
  obtain ⟨y,g,e1,v,t,sub,k⟩:=Rfs.Jl (m:=m) p n2 (by simpa using e)
  exact⟨y,g,by simpa using e1,v,t,fun a ha=>L1 _ (sub a ha),fun b H' d' hb hm c hr=>⟨x,r,j,s,rfl,rfl,q.mn (fun a ha u e n=>c a u (fun z=>o a ha b (sub b hb) z) e n) (fun a u e i=>c a u (fun z=>hm u (z▸e) i) e i.nt),k b H' d' hb hm c hr⟩⟩
theorem Ok.LZ(o:Ok K B0 Γ fps δ σ H){i k:Nat}{s C:Addr}{ns:List Str}{ds:List D}{d:D}(hi:i∈Γ)(e:δ[i]?=some (some (.pin s (.ins C ns ds))))(G:ds[k]?=some d) :
  ∃dx xs x g,σ[i]?=some (some (.ref s))/\H s=some (.ins C dx (ns.zip xs))/\xs[k]?=some x/\Rf K H d x g/\g.Nodup/\(∀a∈g,a∈fps i/\a≠s) /\
   ∀(b:Addr) (H':Hp) (d':D),b∈g->SB K B0 H'->(∀a u,a≠b->H a=some u->NT u->H' a=some u)->Mu H' b->Rf K H' d' x g->Ok K B0 Γ (fun j=>if j=i then fps i else fps j) (δ.set i (some (.pin s (.ins C ns (ds.set k d'))))) σ H':=by
 obtain ⟨v,q,rfl,a,dx,xs,F,I,t,h,r⟩:=o.val i _ e
 cases I
 have own:=o.own i hi
 rw[h] at own
 obtain ⟨nd,mu⟩:=own
 obtain ⟨n1,n2⟩:=Mi.mp nd
 obtain ⟨x,g,ex,rg,ng,sub,P⟩:=r.Jl n2 G
 refine⟨dx,xs,x,g,q,t,ex,rg,ng,fun a ha=>⟨by rw[h];exact Fk _ (sub a ha),fun z=>n1 (z▸sub a ha)⟩,fun b H' d' hb B f M hr=>?_⟩
 have bs:s≠b:=fun z=>n1 (by rw[z];exact sub b hb)
 have L:∀u,H b=some u->¬ Im u:=(mu b (Fk _ (sub b hb))).2.nu
 have J:∀c∈fps i,Mu H' c:=fun c p=>by
  by_cases m:c=b
  .rw[m];exact M
  .rcases (mu c (by rw[<- h];exact p)).2 with ⟨y,z⟩|⟨y,z⟩|⟨y,z⟩|⟨Q,O,fs,z⟩
   .exact .inl ⟨y,f _ _ m z trivial⟩
   .exact .inr (.inl ⟨y,f _ _ m z trivial⟩)
   .exact .inr (.inr (.inl ⟨y,f _ _ m z trivial⟩))
   .exact .inr (.inr (.inr ⟨Q,O,fs,f _ _ m z trivial⟩))
 refine o.AA hi (d':=.pin s (.ins C ns (ds.set k d'))) (fp':=fps i) q ⟨rfl,s,dx,xs,F,rfl,f _ _ bs t trivial,h,P b H' d' hb L f hr⟩ (by rw[h];exact nd) J (fun a ha=>.inl ha) B fun c u p E n=>f c u (fun z=>p (by rw[z,h];exact Fk _ (sub b hb))) E n
theorem Ok.Fg(o:Ok K B0 Γ fps δ σ H){i:Nat}(hi:i∈Γ){b:Addr}(hb:b∈fps i):Same B0 (fun a=>if a=b then none else H a)/\Same (fun a=>if a=b then none else H a) H:=by
 have key:∀a u,B0 a=some u->a≠b:=fun a u e z=>by
  have:=((o.own i hi).2 b hb).1
  rw[z,this] at e;cases e
 refine⟨⟨fun b u e n=>?_,fun b ps e=>?_,fun P t=>?_⟩,Same.all fun c u e=>?_⟩
 .show (if _ then _ else _)=_
  rw[if_neg (key b u e)]
  exact o.b0.st b u e n
 .obtain ⟨f,z⟩:=o.b0.tb b ps e
  refine⟨f,?_⟩
  show (if _ then _ else _)=_
  rw[if_neg (key b _ e)];exact z
 .obtain ⟨s,q,_⟩:=id t
  obtain ⟨ps,e,p,m⟩:=o.b0.ti P t
  refine⟨ps,?_,p,fun pos r z=>?_⟩
  .show (if _ then _ else _)=_
   rw[if_neg (key P _ q)];exact e
  .obtain ⟨c,h,g⟩:=m pos r z
   refine⟨c,h,?_⟩
   show (if _ then _ else _)=_
   rw[if_neg (fun j=>yo g (by rw[j];exact ((o.own i hi).2 b hb).2))];exact g
 .by_cases z:c=b
  .simp only[if_pos z] at e;cases e
  .simp only[if_neg z] at e;exact e
theorem C7{es:List D}{j:Nat}{x:D}:(es.set j x).map D.toV=(es.map D.toV).set j x.toV:=O2
theorem C1{es:List D}{j:Nat}{x:D}(h:es.all D.aQ=true)(f:x.aQ=true):(es.set j x).all D.aQ=true:=by
 rw[ML] at h ⊢
 intro y c
 rcases Oa c with z|z
 .exact h y z
 .rw[z];exact f
def LN(i:Nat)(C:Addr)(ns:List Str)(k:Nat)(c dx:DE)(E:bB)(δ:Dl):Prop:=∃s ds es,δ[i]?=some (some (.pin s (.ins C ns ds)))/\ds[k]?=some (.lst es)/\es.all D.aQ=true /\
 c δ fun x=>x.aQ=true/\dx δ fun y=>asI [y] fun m=>∃j,ixN es.length m=some j/\E.nx (δ.set i (some (.pin s (.ins C ns (ds.set k (.lst (es.set j x)))))))
theorem C2(i:Nat)(ns:List Str)(k:Nat)(S:Cls K C)(hn:bW K C f)(F:ER K Γ te de)(t:ER K Γ tx dx)(p:ns[k]?=some f:=by rfl)(hd:ns.Nodup:=by decide +kernel)(hi:i∈Γ:=by decide) :
  ST K ρ Γr Γl (lN te (Eb (xu K (eT i) f) tx wk)) Γ Γ (LN i C ns k de dx):=by
 intro B0 Dn E fps δ σ H P o h
 obtain ⟨s,ds,es,e,I,B,h⟩:=h
 refine F.run o (F.mono _ _ _ (fun x z v H1 c n=>?_) h)
 obtain ⟨q,z⟩:=z
 obtain ⟨X0,n⟩:=n
 obtain ⟨rfl,_⟩:=n.aQ q
 obtain ⟨Qt,xs,w,g,Q,G,hw,_⟩:=(o.same c).fld hi e I
 refine⟨.ref s,Q,s,C,Qt,_,w,rfl,G,S,hn,bz hd p hw,t.run (o.same c) (t.mono _ _ _ (fun y z u H2 r M=>?_) z)⟩
 obtain ⟨m,rfl,j,X,z⟩:=bP z
 have O:=(o.same c).same r
 obtain ⟨X5,Z,J,g2,U5,TC,Y,rg,ng,Vk,KK⟩:=O.fld hi e I
 have T:ns.zip xs=ns.zip Z:=by
  have:=(r.st _ _ G trivial).symm.trans TC
  injection this with this
  injection this
 have U:w=J:=by
  have l1:=bz hd p hw
  have l2:=bz hd p Y
  rw[T,l2] at l1
  exact (MB l1).symm
 subst U
 obtain ⟨b,ys,fq,rfl,hb,rfl,L⟩:=id rg
 obtain ⟨rfl,rfl⟩:=L.jb B
 refine⟨b,_,m,j,rfl,M.int,hb,by rw[mo];exact X,?_⟩
 rw[<- C7]
 exact P.nx (KK b _ (.lst (es.set j x)) ox (fun a u ha R=>by rw[aG ha];exact R) (.inl ⟨_,az⟩) ⟨b,_,[],rfl,az,rfl,Rfs.oY (C1 B q)⟩) z
def KQ(i:Nat)(C:Addr)(ns:List Str)(k:Nat)(dx c:DE)(E:bB)(δ:Dl):Prop:=∃s ds kvs,δ[i]?=some (some (.pin s (.ins C ns ds)))/\ds[k]?=some (.dic kvs) /\
 c δ fun x=>x.aQ=true/\dx δ fun y=>asI [y] fun n=>kvs.length<1000/\E.nx (δ.set i (some (.pin s (.ins C ns (ds.set k (.dic (putK kvs (.inl n) x.toV)))))))
theorem Fh(i:Nat)(ns:List Str)(k:Nat)(P:Cls K C)(hn:bW K C f)(r:ER K Γ tx dx)(t:ER K Γ te de)(m:ns[k]?=some f:=by rfl)(hd:ns.Nodup:=by decide +kernel)(hi:i∈Γ:=by decide) :
  ST K ρ Γr Γl (FQ (xu K (eT i) f) tx te) Γ Γ (KQ i C ns k dx de):=by
 intro B0 Dn E fps δ σ H L o h
 obtain ⟨s,ds,kvs,e,F,h⟩:=h
 refine t.run o (t.mono _ _ _ (fun x z v H1 c j=>?_) h)
 obtain ⟨p,z⟩:=z
 obtain ⟨X0,j⟩:=j
 obtain ⟨rfl,_⟩:=j.aQ p
 obtain ⟨Y,xs,w,g,M,B,hw,_⟩:=(o.same c).fld hi e F
 refine⟨.ref s,M,s,C,Y,_,w,rfl,B,P,hn,bz hd m hw,r.run (o.same c) (r.mono _ _ _ (fun y z u Z q I=>?_) z)⟩
 obtain ⟨n,rfl,hl,z⟩:=bP z
 have J:=(o.same c).same q
 obtain ⟨X5,U,G,g2,U5,X,T,rg,ng,Vk,KK⟩:=J.fld hi e F
 have Q:ns.zip xs=ns.zip U:=by
  have:=(q.st _ _ B trivial).symm.trans X
  injection this with this
  injection this
 have R:w=G:=by
  have l1:=bz hd m hw
  have l2:=bz hd m T
  rw[Q,l2] at l1
  exact (MB l1).symm
 subst R
 obtain ⟨b,rfl,hb,S,rfl⟩:=id rg
 refine⟨b,upd Z b (.dK (putK kvs (.inl n) x.toV)),rfl,?_,L.nx (KK b _ (.dic (putK kvs (.inl n) x.toV)) ox (fun a u ha O=>by rw[aG ha];exact O) (.inr (.inl ⟨_,az⟩)) ⟨b,rfl,az,wN S (jr p),rfl⟩) z⟩
 rw[I.int]
 exact DZ.k (k:=Sum.inl n) hb (rF (N7 hl))
theorem zJ{v:V}:∀{ns:List Str}{xs:List V}{k:Nat}{f:Str},ns.Nodup->ns[k]?=some f->k<xs.length->kN f v (ns.zip xs)=ns.zip (xs.set k v)
 |[],_,k,f,_,e,_=>by simp at e
 |_::_,[],k,f,_,_,h=>by simp at h
 |n::ns,x::xs,0,f,hd,e,h=>by
  obtain rfl:n=f:=by simpa using e
  rw[Oo,kN,if_pos rfl];rfl
 |n::ns,x::xs,k+1,f,hd,e,h=>by
  obtain ⟨i,g⟩:=Mi.mp hd
  have c:ns[k]?=some f:=by simpa using e
  have j:n≠f:=fun z=>i (by rw[z];exact MJ c)
  rw[Oo,kN,if_neg j,zJ g c (by simpa using h)];rfl
def Lc(i:Nat)(C:Addr)(ns:List Str)(k:Nat)(c:DE)(E:bB)(δ:Dl):Prop:=∃s ds y,δ[i]?=some (some (.pin s (.ins C ns ds)))/\ds[k]?=some y/\y.aQ=true /\
 c δ fun x=>x.aQ=true/\E.nx (δ.set i (some (.pin s (.ins C ns (ds.set k x)))))
theorem Rfs.LO{H H':Hp}{x:D}(m:x.aQ=true):∀{ds:List D}{xs:List V}{c:List Addr}{k:Nat}{y:D},Rfs K H ds xs c->ds[k]?=some y->y.aQ=true->(∀a∈c,∀o,H a=some o->H' a=some o)->(∀a o,H a=some o->Im o->H' a=some o)->Rfs K H' (ds.set k x) (xs.set k x.toV) c
 |[],_,_,_,_,_,e,_,_,_=>by simp at e
 |d::ds,xs,c,0,y,h,e,f,k1,k2=>by
  obtain ⟨w,r,n,j,rfl,rfl,i,g⟩:=h
  obtain rfl:d=y:=by simpa using e
  obtain ⟨_,rfl⟩:=i.aQ f
  exact⟨x.toV,r,[],j,rfl,rfl,Rf.xJ m,g.mono (fun a ha=>k1 a (by simpa using ha)) k2⟩
 |d::ds,xs,c,k+1,y,h,e,f,k1,k2=>by
  obtain ⟨w,r,n,j,rfl,rfl,i,g⟩:=h
  exact⟨w,r.set k x.toV,n,j,rfl,rfl,i.mono (fun a ha=>k1 a (Me _ ha)) k2,Rfs.LO m g (by simpa using e) f (fun a ha=>k1 a (L1 _ ha)) k2⟩
theorem Hr(i:Nat)(ns:List Str)(k:Nat)(g:Cls K C)(hn:bW K C f)(B:ER K Γ te de)(P:ns[k]?=some f:=by rfl)(hd:ns.Nodup:=by decide +kernel)(hl:ns.length<=100:=by decide)(hi:i∈Γ:=by decide) :
  ST K ρ Γr Γl (Az K (eT i) te f) Γ Γ (Lc i C ns k de):=by
 intro B0 Dn E fps δ σ H J o h
 obtain ⟨s,ds,y,e,F,M,h⟩:=h
 refine B.run o (B.mono _ _ _ (fun x z v G I n=>?_) h)
 obtain ⟨q,z⟩:=z
 obtain ⟨U,n⟩:=n
 obtain ⟨rfl,_⟩:=n.aQ q
 have p:=o.same I
 obtain ⟨v,t,rfl,a,dx,xs,R,S,Q,m,r⟩:=p.val i _ e
 cases S
 have own:=p.own i hi
 rw[m] at own
 obtain ⟨nd,mu⟩:=own
 obtain ⟨n1,n2⟩:=Mi.mp nd
 have O:k<xs.length:=by rw[r.length];exact (KE.mp F).1
 refine⟨.ref s,t,s,C,dx,_,rfl,Q,g,hn,by rw[List.length_zip];omega,?_⟩
 rw[zJ hd P O]
 have keep:∀c u,c≠s->G c=some u->upd G s (.ins C dx (ns.zip (xs.set k x.toV))) c=some u:=fun c u g j=>by rw[aG g];exact j
 have T:=(mu s ox).2.nu
 refine J.nx (p.write hi (d':=.pin s (.ins C ns (ds.set k x))) (fp':=fps i) t ⟨rfl,s,dx,_,R,rfl,az,m,r.LO q F M (fun c g u j=>keep c u (fun z=>n1 (z▸g)) j) fun c u j L=>keep c u (fun z=>T u (z▸j) L) j⟩ (by rw[m];exact nd) (fun c g=>?_) (fun c g=>.inl g) fun c u g j=>keep c u (fun z=>g (by rw[z,m];exact ox)) j) z
 exact (mu c (by rw[<- m];exact g)).2.upd (.inr (.inr (.inr ⟨_,_,_,rfl⟩)))
end
end L3
namespace L3
open PySem L2
section
variable {K:aad}{ρ:Bool}{Γr Γl Γ Γn:aac}{te ta t1 t2:TE}{de da dx d1 d2:DE}
variable {B0:Hp}{fps:Nat->List Addr}{δ:Dl}{σ:St}{H:Hp}{C:Addr}{f:Str}
def LA(i h g j:Nat)(C:Addr)(ns:List Str)(k:Nat)(p n o:DE)(E:bB)(δ:Dl):Prop:=∃s ds c,δ[i]?=some (some (.pin s (.ins C ns ds)))/\ds[k]?=some (.lst c)/\j<δ.length /\
 Fu i h g δ fun y=>p (δ.set i (some y)) fun z=>asI [z] fun m=>∃r es,ixN c.length m=some r/\c[r]?=some (.lst es)/\es.all D.aQ=true /\
  n ((δ.set i (some y)).set j (some (.lst es))) fun x=>x.aQ=true/\o ((δ.set i (some y)).set j (some (.lst es))) fun z=>asI [z] fun f=>∃q,ixN es.length f=some q /\
   E.nx ((δ.set j none).set i (some (.pin s (.ins C ns (ds.set k (.lst (c.set r (.lst (es.set q x)))))))))
theorem Ok.look(o:Ok K B0 Γ fps δ σ H){j:Nat}{y:D}{v:V}{fp:List Addr}(hl:j<δ.length)(r:Rf K H y v fp) :
  Ok K H [] (fun l=>if l=j then fp else fps l) (δ.set j (some y)) (σ.set j (some v)) H:=by
 refine⟨by rw[MM,MM];exact o.len,SB.refl o.b0.now,fun l d e=>?_,fun l q=>?_,fun _ h=>(nomatch h),fun _ h=>(nomatch h)⟩
 .by_cases hj:l=j
  .subst hj
   rw[Ms hl] at e;cases e
   exact⟨v,Ms (by rw[o.len];exact hl),by show Rf K H y v (if l=l then fp else fps l);rw[if_pos rfl];exact r⟩
  .rw[L5 (MF hj)] at e
   rw[L5 (MF hj)]
   show ∃v,_/\Rf K H d v (if l=j then fp else fps l)
   rw[if_neg hj]
   exact o.val l d e
 .by_cases hj:l=j
  .subst hj;exact absurd (Ms hl) (q y)
  .show (if l=j then fp else fps l)=[]
   rw[if_neg hj]
   exact o.non l fun d z=>q d (by rw[L5 (MF hj)];exact z)
theorem IB(i g1 g2 j:Nat)(ns:List Str)(k:Nat)(hc:Cls K C)(hn:bW K C f)(h1:ER K [] t1 d1)(he:ER K [] te de)(h2:ER K [] t2 d2)(p:ns[k]?=some f:=by rfl)(hd:ns.Nodup:=by decide +kernel)(hi:i∈Γ:=by decide)(hj:j∉Γ:=by decide)(S3:i≠j:=by decide) :
  ST K ρ Γr Γl (zV (lN (tOp (xE K) (xu K (eT i) f) t1) (gn j)) (lN te (Eb (eT j) t2 wk))) Γ Γ (LA i g1 g2 j C ns k d1 de d2):=by
 intro B0 Dn E fps δ σ H kk o h
 obtain ⟨s,ds,n,e,Q,Vd,h⟩:=h
 obtain ⟨y,vy,fy,h,S2,Xy,X⟩:=h.out o
 obtain ⟨Qt,xs,w,g,hv,hH,hw,_⟩:=o.fld hi e Q
 refine⟨.ref s,hv,s,C,Qt,_,w,rfl,hH,hc,hn,bz hd p hw,h1.run (o.lend S2 Xy X) (h1.mono _ _ _ (fun z q u H2 F r2=>?_) h)⟩
 obtain ⟨m,rfl,r,es,er,X3,J,q⟩:=bP q
 have I:=o.same F
 obtain ⟨X5,Te,w2,g2,U5,TC,Tj,rg,ng,Vk,KK⟩:=I.fld hi e Q
 have ez:ns.zip xs=ns.zip Te:=by
  have:=(F.st _ _ hH trivial).symm.trans TC
  injection this with this
  injection this
 have ew:w=w2:=by
  have l1:=bz hd p hw
  have l2:=bz hd p Tj
  rw[ez,l2] at l1
  exact (MB l1).symm
 subst ew
 obtain ⟨b,ys,fq,rfl,hb,rfl,Z⟩:=id rg
 obtain ⟨nb,nq⟩:=Mi.mp ng
 obtain ⟨x,gx,ex,Y,nx,sub,KK2⟩:=Z.setM nq X3
 obtain ⟨c,zs,fz,rfl,hcH,rfl,rz⟩:=id Y
 obtain ⟨rfl,rfl⟩:=rz.jb J
 refine⟨b,ys,m,.ref c,rfl,r2.int,.inl (.inl hb),by unfold atI;rw[Z.length,er];exact ex,?_⟩
 have oL:=(I.lend S2 Xy (X.same F)).look (j:=j) (by rw[MM];exact Vd) Y
 show lN te (Eb (eT j) t2 wk) Dn (σ.set j (some (.ref c))) H2
 refine he.run oL (he.mono _ _ _ (fun x z v H3 U G=>?_) q)
 obtain ⟨Pc,z⟩:=z
 obtain ⟨fp3,G⟩:=G
 obtain ⟨rfl,_⟩:=G.aQ Pc
 have Wl:j<σ.length:=by rw[o.len];exact Vd
 refine⟨.ref c,Ms Wl,h2.run (oL.same U |>.sub fun _ h=>h) (h2.mono _ _ _ (fun y2 z u2 T s4 r4=>?_) z)⟩
 obtain ⟨m2,rfl,q,eq,z⟩:=bP z
 have B:=U.trans s4
 have o4:=I.same B
 have o5:=o4.K0 (σ':=σ.set j (some (.ref c))) j hj (by rw[MM]) (fun l hl=>L5 (MF hl))
 have P:(δ.set j none)[i]?=some (some (.pin s (.ins C ns ds))):=by rw[L5 (MF S3)];exact e
 obtain ⟨dx5,Yo,w5,g5,hv5,L,Zf,YH,YT,aao,S⟩:=o5.fld hi P Q
 have M:ns.zip Te=ns.zip Yo:=by
  have:=(B.st _ _ TC trivial).symm.trans L
  injection this with this
  injection this
 have O:V.ref b=w5:=by
  have l1:=bz hd p Tj
  have l2:=bz hd p Zf
  rw[M,l2] at l1
  exact (MB l1).symm
 subst O
 obtain ⟨b',ys5,XZ,eb,XJ,rfl,YF⟩:=id YH
 cases eb
 rw[B.st _ _ hb trivial] at XJ;cases XJ
 obtain ⟨YW,YS⟩:=Mi.mp YT
 obtain ⟨x5,gx5,X1,YC,nx5,Vp,R⟩:=YF.setM YS X3
 rw[ex] at X1;cases X1
 obtain ⟨c',zs5,fz5,ec,XH,rfl,YB⟩:=id YC
 cases ec
 obtain ⟨rfl,rfl⟩:=YB.jb J
 refine⟨c,_,m2,q,rfl,r4.int,XH,by rw[mo];exact eq,?_⟩
 rw[<- C7]
 have X7:c∈XZ:=Vp c ox
 have cb:b≠c:=fun z=>YW (by rw[z];exact X7)
 have keep:∀a u,a≠c->T a=some u->upd T c (.lst ((es.set q x).map D.toV)) a=some u:=fun a u ha t=>by rw[aG ha];exact t
 have SI:∀u,T c=some u->¬ Im u:=fun u t im=>by rw[XH] at t;cases t;rcases im with ⟨_,z⟩|⟨_,_,z⟩|⟨_,_,z⟩<;>cases z
 refine kk.nx (S c _ (.lst (n.set r (.lst (es.set q x)))) (Fk _ X7) keep (.inl ⟨_,az⟩) ⟨b,ys,XZ,rfl,keep _ _ cb (B.st _ _ hb trivial),rfl,R c _ _ ox SI keep ⟨c,_,[],rfl,az,rfl,Rfs.oY (C1 J Pc)⟩⟩) z
def Jy(j i n m:Nat)(C:Addr)(ns:List Str)(k:Nat)(S:DSI)(E:bB)(δ:Dl):Prop:=∃s ds kvs f c,δ[i]?=some (some (.pin s (.ins C ns ds)))/\ds[k]?=some (.dic kvs)/\δ[n]?=some (some f)/\δ[m]?=some (some c) /\
 S [f,c,.dic kvs] fun r h=>∃g,h=.dic g/\E.nx ((δ.set i (some (.pin s (.ins C ns (ds.set k (.dic g)))))).set j (some r))
theorem zg{S:DSI}{Ex:XK}(j i m c:Nat)(ns:List Str)(k:Nat)(Z:Ep S)(Y:Cls K C)(hn:bW K C f)(X:ns[k]?=some f:=by rfl)(hd:ns.Nodup:=by decide +kernel)(hi:i∈Γ:=by decide)(hj:j∉Γ:=by decide)(h1:m≠i:=by decide)(h2:c≠i:=by decide) :
  ST K ρ Γr Γl (lN (pk (spI K 2 S) [] Ex (cY (eT m) (cY (eT c) (cY (xu K (eT i) f) kP)))) (gn j)) Γ Γ (Jy j i m c C ns k S):=by
 intro B0 Dn E fps δ σ H R o h
 obtain ⟨s,ds,kvs,I,G,e,ek,e1,e2,h⟩:=h
 obtain ⟨v1,Zi,M⟩:=o.val m _ e1
 obtain ⟨x,U5,L⟩:=o.val c _ e2
 obtain ⟨Qt,xs,w,g,T,hH,hw,rg,ng,Vk,KK⟩:=o.LZ hi e ek
 obtain ⟨b,rfl,hb,RB,rfl⟩:=id rg
 have p:=(Vk b ox).1
 have Y3:=((o.own i hi).2 b p).2
 have d1:b∉fps m:=o.dj i hi m h1 b p
 have d2:b∉fps c:=o.dj i hi c h2 b p
 refine⟨v1,Zi,x,U5,.ref s,T,s,C,Qt,_,.ref b,rfl,hH,Y,hn,bz hd X hw,?_⟩
 refine⟨fun a=>if a=b then none else H a,(fun l=>match l with|0=>fps m|1=>fps c|2=>[b]|_=>[]),[I,G,.dic kvs],⟨rfl,⟨(o.Fg hi p).2,o.b0.tv.same (o.Fg hi p).1⟩,fun l d q=>?_,fun l q=>?_,fun l hl=>?_,fun l hl l' Ts a ha=>?_⟩,⟨b,rfl⟩,Z _ _ _ (fun r x' z=>?_) h⟩
 .match l,q with
  |0,q=>cases q;exact⟨v1,rfl,M⟩
  |1,q=>cases q;exact⟨x,rfl,L⟩
  |2,q=>cases q;exact⟨_,rfl,rg⟩
  |l+3,q=>simp at q
 .match l,q with
  |0,q=>exact absurd rfl (q _)
  |1,q=>exact absurd rfl (q _)
  |2,q=>exact absurd rfl (q _)
  |l+3,q=>rfl
 .cases Gc.mp hl
  refine⟨by simp,fun a ha=>?_⟩
  cases Gc.mp ha
  exact⟨if_pos rfl,Y3⟩
 .cases Gc.mp hl
  cases Gc.mp ha
  match l',Ts with
  |0,_=>exact d1
  |1,_=>exact d2
  |2,z=>exact absurd rfl z
  |l+3,_=>exact Mo
 .obtain ⟨R6,rfl,z⟩:=z
  intro w H' fp' fpw v y Zh J nb fb QC nw fw
  cases Zh
  obtain ⟨b',eb,F,Wq,rfl⟩:=id J
  cases eb
  have keep:∀a u,a≠b->H a=some u->NT u->H' a=some u:=fun a u ha U n=>y.st a u (by show (if a=b then none else H a)=_;rw[if_neg ha];exact U) n
  have Q:=KK b H' (.dic R6) ox ⟨(o.Fg hi p).1.trans y,o.b0.tv⟩ keep (.inr (.inl ⟨_,F⟩)) ⟨b,rfl,F,Wq,rfl⟩
  refine R.nx ((Q.zi j (Same.refl H') QC fun l hl a ha q=>?_).sub fun l hl=>bT.mpr ⟨hl,fun z=>hj (by rw[<- Gc.mp z];exact hl)⟩) z
  obtain ⟨O,q2,q3⟩:=fw a ha
  have Pb:a≠b:=fun z=>q3 (by rw[z];exact ox)
  have B:(if a=b then none else H a)=none:=O
  rw[if_neg Pb] at B
  have P:a∈fps l:=by
   have:a∈(if l=i then fps i else fps l):=q
   by_cases t:l=i
   .rw[if_pos t] at this;rw[t];exact this
   .rw[if_neg t] at this;exact this
  exact o.dom P B
abbrev DSG:=D->List D->Addr × D->Addr × D->(D->Prop)->Prop
def Fj(S:DSG):Prop:=∀x ds g1 g2 (P c:D->Prop),(∀z,P z->c z)->S x ds g1 g2 P->S x ds g1 g2 c
def spG(K:aad)(S:DSG):Sp:=fun vs H Q _=>∃(B:Hp) (s:Addr) (x:D) (g:List Addr) (ws:List V) (ds:List D) (f c:Addr × D),vs=.ref s::ws/\SB K B H/\Rf K H x (.ref s) g/\g.Nodup/\(∀a∈g,B a=none/\Mu H a)/\Rps K B ds ws/\Rp K B f.2 (.ref f.1)/\Rp K B c.2 (.ref c.1) /\
 S x ds f c fun h=>∀H' fp',Same B H'->Rf K H' h (.ref s) fp'->fp'.Nodup->(∀b∈fp',B b=none/\Mu H' b)->Q .non H'
theorem Hs{S:DSG}{n:Nat}(h:∀x ds f c P,S x ds f c P->ds.length+1=n){vs:List V}{H:Hp}{Q:VK}{E:XK}(k:spG K S vs H Q E):vs.length=n:=by
 obtain ⟨B,s,x,i,ws,ds,f,c,rfl,_,_,_,_,⟨fp,r⟩,_,_,g⟩:=k
 rw[L8,r.length,h _ _ _ _ _ g]
def K3(i g f:Nat)(C:Addr)(m:Str)(S:DSG)(h:DA)(E:bB)(δ:Dl):Prop:=∃s ns ds a1 a2 e1 e2,δ[i]?=some (some (.pin s (.ins C ns ds)))/\δ[g]?=some (some (.pin a1 e1))/\δ[f]?=some (some (.pin a2 e2))/\m∉ns /\
 h δ fun xs=>S (.ins C ns ds) xs (a1,e1) (a2,e2) fun c=>E.nx (δ.set i (some (.pin s c)))
theorem Hf{S:DSG}{Ex:XK}{w:TA}{L:DA}{m:Str}(i x t:Nat)(hS:Fj S)(hr:AS K Γ w L)(hi:i∈Γ:=by decide)(n1:x≠i:=by decide)(n2:t≠i:=by decide) :
  ST K ρ Γr Γl (Am (yU C m (spG K S) [] Ex (eT i) w)) Γ Γ (K3 i x t C m S L):=by
 intro B0 Dn E fps δ σ H Y o h
 obtain ⟨s,ns,ds,a1,a2,e1,e2,e,G,F,hm,h⟩:=h
 obtain ⟨v,B,rfl,a,dx,xs,fq,ea,hH,ef,r⟩:=o.val i _ e
 cases ea
 refine⟨.ref s,B,s,dx,_,rfl,hH,fP hm,hr.run o (hr.mono _ _ _ (fun ys z vs p fp R U Y1=>?_) h)⟩
 have c:=o.same R
 obtain ⟨v',P,X⟩:=c.val i _ e
 rw[B] at P;cases P
 obtain ⟨w1,_,rfl,k1⟩:=c.val x _ G
 obtain ⟨w2,_,rfl,k2⟩:=c.val t _ F
 have own:=c.own i hi
 have M:∀{d:D}{v:V}{g:List Addr},Rf K p d v g->(∀a∈g,a∉fps i)->Rf K (fun a=>if a∈fps i then none else p a) d v g:=fun hr hd=>hr.mono (fun a ha u f=>by rw[if_neg (hd a ha)];exact f) fun a u f y=>by
  rw[if_neg (fun z=>(own.2 a z).2.nu u f y)];exact f
 have Vo:Rfs K (fun a=>if a∈fps i then none else p a) ys vs fp:=U.mono (fun a ha u f=>by rw[if_neg (Y1 i hi a ha)];exact f) fun a u f y=>by
  rw[if_neg (fun z=>(own.2 a z).2.nu u f y)];exact f
 refine⟨fun a=>if a∈fps i then none else p a,s,.ins C ns ds,fps i,vs,ys,(a1,e1),(a2,e2),by rw[MV],⟨(c.less hi).2,c.b0.tv.same (c.less hi).1⟩,X.2,own.1,fun a ha=>⟨if_pos ha,(own.2 a ha).2⟩,⟨fp,Vo⟩,⟨_,M k1 fun a ha=>fun z=>c.dj i hi x n1 a z ha⟩,⟨_,M k2 fun a ha=>fun z=>c.dj i hi t n2 a z ha⟩,hS _ _ _ _ _ _ (fun Q z H' fp' I T nx J=>?_) z⟩
 .refine Y.nx (c.AA hi (d':=.pin s Q) (fp':=fp') B ⟨rfl,T⟩ nx (fun a ha=>(J a ha).2) (fun a ha=>?_) ⟨(c.less hi).1.trans I,c.b0.tv⟩ fun b u hb f n=>I.st b u (by show (if b∈fps i then none else p b)=_;rw[if_neg hb];exact f) n) z
  have:=(J a ha).1
  by_cases O:a∈fps i
  .exact .inl O
  .have q:(if a∈fps i then none else p a)=none:=this
   rw[if_neg O] at q
   exact .inr ⟨c.b0.free q,fun j Z=>c.dom Z q⟩
theorem Ok.IW{B:Hp}(o:Ok K B [] fps δ σ B){a:Addr}{e:D}(r:Rp K B e (.ref a)):∃c,Ok K B [] c (δ++[some (.pin a e)]) (σ++[some (.ref a)]) B:=by
 obtain ⟨fp,r⟩:=r
 refine⟨fun j=>if j=δ.length then fp else fps j,by rw[Mg,Mg,o.len];rfl,o.b0,fun j d q=>?_,fun j q=>?_,fun _ h=>(nomatch h),fun _ h=>(nomatch h)⟩
 .by_cases hj:j=δ.length
  .subst hj
   rw[MA (Md _),Nat.sub_self] at q
   cases q
   refine⟨.ref a,?_,rfl,?_⟩
   .rw[MA (Nat.le_of_eq o.len),o.len,Nat.sub_self];rfl
   .show Rf K B e (.ref a) (if δ.length=δ.length then fp else fps δ.length)
    rw[if_pos rfl];exact r
  .have hl:j<δ.length:=by
    have:=(KE.mp q).1
    rw[Mg,NU] at this;omega
   rw[Mn hl] at q
   obtain ⟨v,g,f⟩:=o.val j d q
   refine⟨v,?_,?_⟩
   .rw[Mn (by rw[o.len];exact hl)];exact g
   .show Rf K B d v (if j=δ.length then fp else fps j)
    rw[if_neg hj];exact f
 .by_cases hj:j=δ.length
  .subst hj
   exact absurd (by rw[MA (Md _),Nat.sub_self];rfl) (q (.pin a e))
  .show (if j=δ.length then fp else fps j)=[]
   rw[if_neg hj]
   refine o.non j fun d z=>q d ?_
   rw[Mn (KE.mp z).1];exact z
theorem Ok.LL{B:Hp}(o:Ok K B [] fps δ σ B)(h:SB K B H){s:Addr}{x:D}{f:List Addr}(r:Rf K H x (.ref s) f)(nd:f.Nodup)(g:∀a∈f,B a=none/\Mu H a):∃c,Ok K B [0] c (some (.pin s x)::δ) (some (.ref s)::σ) H:=by
 have i:=o.same h.toSame
 refine⟨fun j=>match j with|0=>f|l+1=>fps l,by rw[L8,L8,o.len],h,fun j d q=>?_,fun j q=>?_,fun j hj=>?_,fun j hj l hl a ha=>?_⟩
 .match j,q with
  |0,q=>cases q;exact⟨_,rfl,rfl,r⟩
  |l+1,q=>exact i.val l d (by simpa using q)
 .match j,q with
  |0,q=>exact absurd rfl (q _)
  |l+1,q=>exact o.non l fun d z=>q d (by simpa using z)
 .cases Gc.mp hj
  exact⟨nd,g⟩
 .cases Gc.mp hj
  match l,hl with
  |0,z=>exact absurd rfl z
  |l+1,_=>exact fun z=>o.dom z (g a ha).1
abbrev uF(n:Nat)(s:Addr)(x:D)(ds:List D)(f c:Addr × D):Dl:=some (.pin s x)::(((ds.map some++List.replicate n none)++[some (.pin f.1 f.2)])++[some (.pin c.1 c.2)])
theorem wY{B:Hp}{n:Nat}{s:Addr}{x:D}{h:List Addr}{ws:List V}{ds:List D}{g f:Addr × D}(j:SB K B H)(r:Rf K H x (.ref s) h)(nd:h.Nodup)(p:∀a∈h,B a=none/\Mu H a)(hr:Rps K B ds ws)(u:Rp K B g.2 (.ref g.1))(t:Rp K B f.2 (.ref f.1)) :
  ∃c,Ok K B [0] c (uF n s x ds g f) (some (.ref s)::(((ws.map some++List.replicate n none)++[some (.ref g.1)])++[some (.ref f.1)])) H:=by
 have hl:ws.length=ds.length:=let ⟨_,q⟩:=hr;q.length
 obtain ⟨v,i⟩:=lq (N:=List.replicate (ds.length+n) "") hr j.tv
 have e1:aL (List.replicate (ds.length+n) "") ds=ds.map some++List.replicate n none:=by
  unfold aL;rw[Mt,Nat.add_sub_cancel_left]
 have e2:L2.start (List.replicate (ds.length+n) "") ws=ws.map some++List.replicate n none:=by
  unfold L2.start;rw[Mt,hl,Nat.add_sub_cancel_left]
 rw[e1,e2] at i
 obtain ⟨y,o⟩:=i.IW u
 obtain ⟨z,m⟩:=o.IW t
 exact m.LL j r nd p
abbrev Jp(s:Addr)(P:D->Prop):bB:=⟨fun δ=>lp δ 0 fun a x=>a=s/\P x,fun _ _=>False,fun _=>False,fun _=>False⟩
def xh(G:aac)(t:TS):TS:=fun Dn σ H=>∃σ':St,σ'.length=σ.length/\(∀i,i∉G->σ'[i]?=σ[i]?)/\t Dn σ' H
theorem r8{N:List Str}{m n:Nat}{s:Addr}{ws:List V}{a1 a2:Addr}(hw:ws.length=m)(f:N.length=m+n+3){G:aac}(g:G=[m+n+1,m+n+2]) :
  (some (V.ref s)::(((ws.map some++List.replicate n none)++[some (.ref a1)])++[some (.ref a2)])).length=(L2.start N (.ref s::ws)).length/\∀i,i∉G->(some (V.ref s)::(((ws.map some++List.replicate n none)++[some (.ref a1)])++[some (.ref a2)]))[i]?=(L2.start N (.ref s::ws))[i]?:=by
 subst g
 unfold L2.start
 have c:N.length - (V.ref s::ws).length=n+2:=by rw[L8,f,hw];omega
 rw[c]
 refine⟨by simp [hw],fun i hi=>?_⟩
 simp only[L6,Mo,or_false,not_or] at hi
 cases i with
 |zero=>rfl
 |succ i =>
  show ((ws.map some++List.replicate n none)++[some (.ref a1)]++[some (.ref a2)])[i]?=(ws.map some++List.replicate (n+2) none)[i]?
  by_cases j:i<m
  .rw[MW,MW,Mn (by rw[mo];omega),Mn (by rw[mo];omega)]
  .by_cases h:i<m+n
   .rw[MW,Mn (by rw[Mg,mo,Mt];omega),MA (by rw[mo];omega),MA (by rw[mo];omega),MQ,MQ,if_pos (by rw[mo];omega),if_pos (by rw[mo];omega)]
   .rw[List.getElem?_eq_none (by simp [hw];omega),List.getElem?_eq_none (by simp [hw];omega)]
theorem Iz{N:List Str}{S:DSG}{t:TS}{d:DS}{G:aac}(m n:Nat)(C:ST K true [0] [] t [0] [0] d)(F:N.length=m+n+3)(I:G=[m+n+1,m+n+2])(hd:∀s x ds f c P,S x ds f c P->ds.length=m/\d (Jp s P) (uF n s x ds f c)) :
  ∀{vs H Q E},spG K S vs H Q E->xh G t { nx:=fun _ H'=>Q .non H',rt:=Q } (L2.start N vs) H:=by
 rintro vs H Q E ⟨B,s,x,T,ws,ds,f,c,rfl,p,u,nx,M,hr,L,J,h⟩
 obtain ⟨hl,q⟩:=hd s x ds f c _ h
 obtain ⟨j,o⟩:=wY (n:=n) p u nx M hr L J
 have hw:ws.length=m:=by obtain ⟨_,r⟩:=hr;rw[r.length];exact hl
 obtain ⟨e1,e2⟩:=r8 (s:=s) (a1:=f.1) (a2:=c.1) hw F I
 refine⟨_,e1,e2,C (E:=Jp s _) ⟨fun {X U Y H'} g z=>?_,fun o (z:False)=>z.elim,fun o (z:False)=>z.elim,fun o r i (z:False)=>z.elim⟩ o q⟩
 obtain ⟨a,O,e,rfl,z⟩:=ju z
 obtain ⟨v,R,rfl,y⟩:=g.val 0 _ e
 have own:=g.own 0 (Gc.mpr rfl)
 exact z H' _ g.b0.toSame y own.1 own.2
abbrev DSO:=D->Addr × D->Addr × D->DK->Prop
def Gd(S:DSO):Prop:=∀x g1 g2 (P c:DK),(∀z,P z->c z)->S x g1 g2 P->S x g1 g2 c
def spO(K:aad)(S:DSO):Sp:=fun vs H Q _=>∃(B:Hp) (s:Addr) (x:D) (g:List Addr) (f c:Addr × D),vs=[.ref s]/\SB K B H/\Rf K H x (.ref s) g/\g.Nodup/\(∀a∈g,B a=none/\Mu H a)/\Rp K B f.2 (.ref f.1)/\Rp K B c.2 (.ref c.1) /\
 S x f c fun r=>∀w H' fpw,Same B H'->Rf K H' r w fpw->fpw.Nodup->(∀a∈fpw,B a=none/\Mu H' a)->Q w H'
theorem Io{S:DSO}{vs:List V}{H:Hp}{Q:VK}{E:XK}(k:spO K S vs H Q E):vs.length=1:=by
 obtain ⟨B,s,x,g,f,c,rfl,_⟩:=k;rfl
theorem Ha{N:List Str}{S:DSO}{t:TS}{d:DS}{G:aac}(n:Nat)(u:ST K true [] [] t [0] Γn d)(I:N.length=n+3)(v:G=[n+1,n+2])(hd:∀s x f c P,S x f c P->d (nZ P) (uF n s x [] f c)) :
  ∀{vs H Q E},spO K S vs H Q E->xh G t { nx:=fun _ H'=>Q .non H',rt:=Q } (L2.start N vs) H:=by
 rintro vs H Q E ⟨B,s,x,J,f,c,rfl,j,p,nx,F,C,y,h⟩
 have q:=hd s x f c _ h
 obtain ⟨g,o⟩:=wY (n:=n) (ds:=[]) (ws:=[]) j p nx F ⟨[],rfl,rfl⟩ C y
 obtain ⟨e1,e2⟩:=r8 (m:=0) (n:=n) (N:=N) (s:=s) (a1:=f.1) (a2:=c.1) (ws:=[]) rfl (by omega) (G:=G) (by rw[v];simp)
 refine⟨_,e1,e2,u (E:=nZ _) ⟨fun {fps δ σ H'} o z=>z _ H' [] o.b0.toSame ⟨rfl,rfl⟩ Na fun _ h=>(nomatch h),fun o (z:False)=>z.elim,fun o (z:False)=>z.elim,fun o r i z=>z _ _ _ o.b0.toSame r (i rfl).nd fun a ha=>⟨(i rfl).nw a ha,(i rfl).mu a ha⟩⟩ o q⟩
def Ln(C:Addr)(m:Str)(n:DSp)(j:DSO)(δ:Dl)(P:DK):Prop:=∃h g f c,δ[0]?=some (some h)/\δ[1]?=some (some g)/\δ[2]?=some (some f)/\δ[3]?=some (some c)/\f.isRef=true/\c.isRef=true /\
 ∀a2 i,n [h,g,.pin a2 f,.pin i c] fun x=>(∃ns dd,x=.ins C ns dd/\m∉ns)/\j x (a2,f) (i,c) P
theorem G9{y:DSp}{v:DSO}{E E':XK}{m:Str}(I:bt y)(J:Gd v):EM K Γ [] (yU C m (spO K v) [] E (Gp C (spN K C y) [] E' (cY (eT 0) (cY (eT 1) (cY (eT 2) (cY (eT 3) kP))))) kP) (Ln C m y v) :=
 ⟨fun δ P P' k ⟨p,n,j,i,u,e1,e2,t,g,f,h⟩=>⟨p,n,j,i,u,e1,e2,t,g,f,fun a2 c=>I _ _ _ (fun x z=>⟨z.1,J _ _ _ _ _ k z.2⟩) (h a2 c)⟩,fun {B0 fps δ σ H Q} o h=>by
  obtain ⟨p,n,j,i,u,e1,e2,t,Z,Y,h⟩:=h
  obtain ⟨q,S,X⟩:=o.val 0 _ u
  obtain ⟨v1,R,U⟩:=o.val 1 _ e1
  obtain ⟨v2,O,g⟩:=o.val 2 _ e2
  obtain ⟨v3,M,f⟩:=o.val 3 _ t
  obtain ⟨a2,rfl⟩:=g.isRef Z
  obtain ⟨c,rfl⟩:=f.isRef Y
  refine⟨q,S,v1,R,.ref a2,O,.ref c,M,fun x dx hx Sd Pp=>?_⟩
  have sx:Same H (upd H dx (.own x)):=Same.kj Sd
  have G:(upd H dx (.own x)) x=none:=by rw[aG (MF Pp)];exact hx
  refine⟨x,dx,[q,v1,.ref a2,.ref c],[p,n,.pin a2 j,.pin c i],upd H dx (.own x),rfl,G,rfl,⟨_,q,_,_,_,rfl,rfl,X.same sx,v1,_,_,_,rfl,rfl,U.same sx,.ref a2,_,_,_,rfl,rfl,⟨rfl,g.same sx⟩,.ref c,_,_,[],rfl,rfl,⟨rfl,f.same sx⟩,rfl,rfl⟩,(o.b0.trans sx).now,I _ _ _ ?_ (h a2 c)⟩
  rintro d ⟨⟨ns,dd,rfl,hm⟩,z⟩ Rm xs TF F H' e L s hq QI B
  cases e
  refine⟨rfl,x,dx,_,rfl,s,fP hm,upd H dx (.own x),x,.ins C ns dd,x::F,(a2,j),(c,i),rfl,⟨L,(o.b0.trans sx).now⟩,⟨x,dx,xs,F,rfl,s,rfl,hq⟩,Mi.mpr ⟨fun h=>(B x h).2.1 rfl,QI⟩,fun a ha=>?_,⟨_,g.same sx⟩,⟨_,f.same sx⟩,J _ _ _ _ _ (fun r z w H3 fpw YA T nd fr=>?_) z⟩
  .rcases L6.mp ha with e|h
   .rw[e];exact⟨G,.inr (.inr (.inr ⟨_,_,_,s⟩))⟩
   .exact⟨(B a h).1,(B a h).2.2⟩
  .exact z w H3 fpw (sx.trans YA) T ⟨nd,fun a ha=>(fr a ha).2,fun a ha=>.inl (sx.free (fr a ha).1)⟩⟩
abbrev endsN(C s:Addr)(P:D->Prop):bB:=⟨fun δ=>lp δ 0 fun a x=>a=s/\(∃ns dd,x=.ins C ns dd)/\P x,fun _ _=>False,fun _=>False,fun _=>False⟩
def Hx(K:aad)(C:Addr)(S:DSp):Sp:=fun vs H Q _=>∃(x dx:Addr) (ws:List V) (ds:List D) (B0:Hp),vs=.ref x::ws/\B0 x=none/\H=upd B0 x (.ins C dx [])/\Rps K B0 ds ws/\gB K B0 /\
 S ds fun d=>∀(ns:List Str) (xs:List V) (dd:List D) (c:List Addr) (f:Addr) (H':Hp),d=.ins C ns dd->Same B0 H'->H' x=some (.ins C f (ns.zip xs))->Rfs K H' dd xs c->c.Nodup->(∀a∈c,B0 a=none/\a≠x/\Mu H' a)->Q .non H'
theorem Fc{S:DSp}{n:Nat}(h:∀ds P,S ds P->ds.length=n){vs:List V}{H:Hp}{Q:VK}{E:XK}(k:Hx K C S vs H Q E):vs.length=n+1:=by
 obtain ⟨x,dx,ws,ds,B0,rfl,_,_,r,_,c⟩:=k
 obtain ⟨fp,r⟩:=r
 rw[L8,r.length,h _ _ c]
theorem Fi{S:DSp}{E:XK}{w:TA}{p:DA}(j:bt S)(hi:∀ds P,S ds P->S ds fun d=>(∃ns dd,d=.ins C ns dd)/\P d)(hr:AR K Γ w p):EM K Γ [] (Gp C (Hx K C S) [] E w) (rY S p) :=
 ⟨fun δ P J k h=>hr.mono _ _ _ (fun y z=>j _ _ _ k z) h,
 fun {B0 fps δ σ H Q} o q=>hr.run o (hr.mono _ _ _ (fun ys z vs g c s=>by
  intro x dx i u F
  have sx:Same g (upd g dx (.own x)):=Same.kj u
  refine⟨x,dx,vs,ys,upd g dx (.own x),by rw[MV],by rw[aG (MF F)];exact i,rfl,s.same sx,(o.b0.trans (c.trans sx)).now,j _ _ _ ?_ (hi _ _ z)⟩
  rintro d ⟨⟨ns,dd,rfl⟩,z⟩ I xs G n v H' e r m t B f
  cases e
  refine⟨rfl,z (.ref x) H' (x::n) (c.trans (sx.trans r)) ⟨x,v,xs,n,rfl,m,rfl,t⟩ ⟨Mi.mpr ⟨fun h=>(f x h).2.1 rfl,B⟩,fun a ha=>?_,fun a ha=>?_⟩⟩
  .rcases L6.mp ha with e|h
   .rw[e];exact .inr (.inr (.inr ⟨_,_,_,m⟩))
   .exact (f a h).2.2
  .rcases L6.mp ha with e|h
   .rw[e];exact .inl (c.free i)
   .exact .inl (c.free (sx.free (f a h).1))) q)⟩
def INB(K:aad)(C:Addr)(ns0:List Str)(t:TS)(d:List D->Dl->DK->Prop):Prop :=
 ∀⦃B0:Hp⦄ ⦃fps:Nat->List Addr⦄ ⦃δ:Dl⦄ ⦃σ:St⦄ ⦃H:Hp⦄ ⦃x dx:Addr⦄ ⦃xs0:List V⦄ ⦃ds0:List D⦄ ⦃fq0:List Addr⦄ ⦃R:Hp->Prop⦄ ⦃W:VK⦄,Ok K B0 [] fps (none::δ) σ H->σ[0]?=some (some (.ref x))->H x=some (.ins C dx (ns0.zip xs0))->B0 x=none->ns0.length=xs0.length->Rfs K H ds0 xs0 fq0->fq0.Nodup ->
  (∀a∈fq0,B0 a=none/\a≠x/\Mu H a)->(∀i,∀a∈fps i,B0 a≠none) ->
  d ds0 δ (fun y=>∀(ns:List Str) (xs:List V) (dd:List D) (c:List Addr) (f:Addr) (H':Hp),y=.ins C ns dd->Same B0 H'->H' x=some (.ins C f (ns.zip xs))->Rfs K H' dd xs c->c.Nodup->(∀a∈c,B0 a=none/\a≠x/\Mu H' a)->R H')->t { nx:=fun _ H'=>R H',rt:=W } σ H
theorem tV{ns0:List Str}{t:TS}{d:List D->Dl->DK->Prop}(u:Cls K C)(hn:bW K C f)(c:EM K [] [] ta da)(s:f∉ns0:=by decide +kernel)(hl:ns0.length<100:=by decide)(h:INB K C (ns0++[f]) t d) :
  INB K C ns0 (zV (Az K (eT 0) ta f) t) (fun ds0 δ P=>da (none::δ) fun y=>d (ds0++[y]) δ P):=by
 intro B0 fps δ σ H x dx xs0 ds0 fq0 R W o g p hb m hr I r j q
 refine tK (Dn:={ nx:=t { nx:=fun _ H'=>R H',rt:=W },rt:=W }) u hn c o g p hb m hr I r (fun i z=>j i x z hb) s hl (c.mono _ _ _ (fun y z H' v J n G F E B=>?_) q)
 exact h n g G hb (by simp [m]) F E B j z
theorem Gb{ns0:List Str}{t:TS}{d:DS}(B:ST K true [0] [] t [0] [0] d):INB K C ns0 t (fun ds0 δ P=>∀s,d (endsN C s P) (some (.pin s (.ins C ns0 ds0))::δ)):=by
 intro B0 fps δ σ H x dx xs0 ds0 fq0 R W o G m hb Y hr O f n q
 have u:Ok K B0 [0] (fun j=>match j with|0=>x::fq0|l+1=>fps (l+1)) (some (.pin x (.ins C ns0 ds0))::δ) σ H:=by
  refine⟨o.len,o.b0,fun j d e=>?_,fun j e=>?_,fun j hj=>?_,fun j hj l hl a ha=>?_⟩
  .match j,e with
   |0,e=>cases e;exact⟨.ref x,G,rfl,x,dx,xs0,fq0,rfl,m,rfl,hr⟩
   |l+1,e=>exact o.val (l+1) d (by simpa using e)
  .match j,e with
   |0,e=>exact absurd rfl (e _)
   |l+1,e=>exact o.non (l+1) fun d z=>e d (by simpa using z)
  .cases Gc.mp hj
   refine⟨Mi.mpr ⟨fun z=>(f x z).2.1 rfl,O⟩,fun a ha=>?_⟩
   rcases L6.mp ha with z|z
   .rw[z];exact⟨hb,.inr (.inr (.inr ⟨_,_,_,m⟩))⟩
   .exact⟨(f a z).1,(f a z).2.2⟩
  .cases Gc.mp hj
   match l,hl with
   |0,z=>exact absurd rfl z
   |l+1,_ =>
    intro z
    rcases L6.mp ha with y|y
    .exact n (l+1) a z (by rw[y];exact hb)
    .exact n (l+1) a z (f a y).1
 refine B (E:=endsN C x _) ⟨fun {U T X Q} g z=>?_,fun o (z:False)=>z.elim,fun o (z:False)=>z.elim,fun o r i (z:False)=>z.elim⟩ u (q x)
 obtain ⟨a,y,e,rfl,⟨ns,dd,rfl⟩,z⟩:=ju z
 obtain ⟨v,S,rfl,b,M,xs,I,L,F,J,p⟩:=g.val 0 _ e
 cases L
 have own:=g.own 0 (Gc.mpr rfl)
 rw[J] at own
 obtain ⟨n1,n2⟩:=Mi.mp own.1
 exact z ns xs dd I M Q rfl g.b0.toSame F p n2 fun c h=>⟨(own.2 c (Fk _ h)).1,fun z=>n1 (z▸h),(own.2 c (Fk _ h)).2⟩
theorem IF{N:List Str}{S:DSp}{t:TS}{d:List D->Dl->DK->Prop}(f:INB K C [] t d)(hd:∀ds P,S ds P->d [] (aL (N.drop 1) ds) P)(m:1<=N.length) :
  ∀{vs H Q E},Hx K C S vs H Q E->t { nx:=fun _ H'=>Q .non H',rt:=Q } (L2.start N vs) H:=by
 rintro vs H Q E ⟨x,dx,ws,ds,B0,rfl,hb,rfl,r,tv,h⟩
 obtain ⟨fps,o⟩:=lq (N:=N.drop 1) r tv
 have sx:Same B0 (upd B0 x (.ins C dx [])):=Same.kj hb
 have c:=o.same sx
 have g:L2.start N (.ref x::ws)=some (.ref x)::L2.start (N.drop 1) ws:=by
  unfold L2.start
  rw[Mc,List.cons_append,L8,MZ,show N.length - (ws.length+1)=N.length - 1 - ws.length by omega]
 rw[g]
 refine f (B0:=B0) (fps:=fun i=>match i with|0=>[]|j+1=>fps j) (δ:=aL (N.drop 1) ds) (x:=x) (dx:=dx) (xs0:=[]) (ds0:=[]) (fq0:=[]) (R:=fun H'=>Q .non H') ⟨by rw[L8,L8,c.len],⟨sx,tv⟩,fun i dd e=>?_,fun i e=>?_,fun _ h=>(nomatch h),fun _ h=>(nomatch h)⟩ rfl az hb rfl ⟨rfl,rfl⟩ Na (fun _ h=>(nomatch h)) (fun i a ha=>?_) (hd ds _ h)
 .cases i with
  |zero=>simp at e
  |succ j=>exact c.val j dd (by simpa using e)
 .cases i with
  |zero=>rfl
  |succ j=>exact c.non j fun dd z=>e dd (by simpa using z)
 .cases i with
  |zero=>nomatch ha
  |succ j=>exact o.dom ha
def yf(xs:List D)(P:DK):Prop:=match xs with|[x]=>uY x fun kvs=>∃ns:aab,kvs.map (·.1)=ns.map Sum.inl/\ns.length<64/\∀c:aab,c.Perm ns->c.Pairwise (·<=·)->P (dI c)|_=>False
theorem tR{kvs:List (Key × V)}{P:DK}:yf [.dic kvs] P↔∃ns:aab,kvs.map (·.1)=ns.map Sum.inl/\ns.length<64/\∀c:aab,c.Perm ns->c.Pairwise (·<=·)->P (dI c):=MX
theorem CO:n0 K (fun xs H Q=>∃(a:Addr) (kvs:List (Key × V)) (ns:aab),xs=[.ref a]/\H a=some (.dK kvs)/\kvs.map (·.1)=ns.map Sum.inl/\ns.length<64/\∀(l:Addr) (c:aab),H l=none->c.Perm ns->c.Pairwise (·<=·)->Q (.ref l) (upd H l (.lst (c.map V.int)))) yf :=
 ⟨fun xs P j k h=>by
  unfold yf at h ⊢
  revert h
  split
  .exact fun h=>by obtain ⟨kvs,rfl,ns,e,z⟩:=ie h;exact⟨ns,e,z.1,fun c a b=>k _ (z.2 c a b)⟩
  .exact id,
 fun {H xs vs Q} r h=>by
  unfold yf at h
  split at h
  .obtain ⟨v,rfl,f⟩:=r.one
   obtain ⟨kvs,rfl,ns,e,z⟩:=ie h
   obtain ⟨fp,a,rfl,ha,_,_⟩:=f
   exact⟨a,kvs,ns,rfl,ha,e,z.1,fun l c hl g i=>z.2 c g i _ _ [l] (Same.kj hl) (Rf.ofInts az) (Nw.one hl az).any⟩
  .exact h.elim⟩
end
end L3
namespace L3
open PySem L2
theorem rR{X:Cx}{c:List Stmt}{t:TS}(G:aac)(f:∀i∈G,∀x,X.N[i]?=some x->X.env.scope.names.lookup x=none)(h:PSs X c t):PSs X c (xh G t):=D3 G f h
end L3
namespace L3
namespace Fl
open PySem L2
theorem nE{l:aab}{i j:Nat}{v:Int}(h:i<l.length):(l.set i v).getD j 0=if i=j then v else l.getD j 0:=by
 rw[dz,MR,dz]
 by_cases e:i=j
 .rw[if_pos e,if_pos e,if_pos h];rfl
 .rw[if_neg e,if_neg e]
structure Wy(n m:Nat)(low high t:aaa)(w:aab)(g:Nat)(ps:List (Nat × Nat)):Prop where
 hd:∃p r,ps=p::r/\p.2=g
 rg:∀p∈ps,p.1<n/\p.2<m
 n1:(ps.map Prod.fst).Nodup
 n2:(ps.map Prod.snd).Nodup
 up:∀p∈ps,cellAt t p.1 p.2<cellAt high p.1 p.2
 lk:Lk (fun a b=>cellAt low a b<cellAt t a b) ps
 ls:∃p,ps.getLast?=some p/\0<w.getD p.1 0
theorem uT{n m:Nat}:∀{ps:List (Nat × Nat)},(∀p∈ps,p.1<n/\p.2<m)->∀p∈cellsOf ps,p.1<n/\p.2<m
 |[],_,p,h=>nomatch h
 |[q],k,p,h=>by cases Gc.mp h;exact k q ox
 |q::q2::r,k,p,h=>by
  rcases L6.mp h with e|h
  .rw[e];exact k q ox
  .rcases L6.mp h with e|h
   .rw[e];exact⟨(k q ox).1,(k q2 (Fk _ ox)).2⟩
   .exact uT (ps:=q2::r) (fun z c=>k z (Fk _ c)) p h
theorem GK{L c:Nat->Nat->Prop}:∀{ps:List (Nat × Nat)},Lk L ps->Lk c ps->Lk (fun a b=>L a b/\c a b) ps
 |[],_,_=>trivial
 |[_],_,_=>trivial
 |p::q::r,h,k=>⟨⟨h.1,k.1⟩,GK (ps:=q::r) h.2 k.2⟩
theorem Ij{n m:Nat}{f cols:aab}{low high t:aaa}{w r:aab}{g:Nat}{ps:List (Nat × Nat)}{p:Nat × Nat}{x:Int}(s:St n m f cols low high t w r)(hw:Wy n m low high t w g ps)(B:ps.getLast?=some p)(T:1<=x)
  (R:x<=w.getD p.1 0) (S:x<=r.getD g 0) (al:Al (fun c=>x<=cellAt high c.1 c.2 - cellAt t c.1 c.2) (fun c=>x<=cellAt t c.1 c.2 - cellAt low c.1 c.2) (cellsOf ps)) :
  St n m f cols low high (ap x (cellsOf ps) t) (w.set p.1 (w.getD p.1 0 - x)) (r.set g (r.getD g 0 - x))/\p.1<n/\g<m:=by
 have Q:p∈ps:=List.mem_of_getLast? B
 obtain ⟨pn,U⟩:=hw.rg p Q
 obtain ⟨q,rest,I,F⟩:=hw.hd
 have E:g<m:=by rw[<- F];exact (hw.rg q (by rw[I];exact ox)).2
 obtain ⟨a1,a2⟩:=Bx.mp al
 obtain ⟨k1,k2,k3,L⟩:=Jf (x:=x) s.rt (uT hw.rg)
 have P:=GK hw.lk a2
 refine⟨⟨k1,by rw[MM];exact s.wl,by rw[MM];exact s.rl,fun i j hi hj=>?_,fun i hi=>?_,fun j hj=>?_,fun j hj=>?_,fun i hi hn j hj=>?_⟩,pn,E⟩
 .have b:=s.bd i j hi hj
  rw[k2]
  rcases Gr (x:=x) (a:=i) (b:=j) hw.n1 hw.n2 P with z|⟨z,O⟩|⟨z,J,_⟩
  .rw[z];omega
  .have:=a1 (i,j) O
   dsimp only at this
   rw[z];omega
  .dsimp only at J
   rw[z];omega
 .rw[k3,Ce B,nE (by rw[s.wl];exact pn),s.rs i hi]
  by_cases z:p.1=i
  .rw[if_pos z,if_pos z,<- z];omega
  .rw[if_neg z,if_neg z];omega
 .rw[L,I,Cc,nE (by rw[s.rl];exact E),s.cs j hj,F]
  by_cases z:g=j
  .rw[if_pos z,if_pos z,<- z];omega
  .rw[if_neg z,if_neg z];omega
 .rw[nE (by rw[s.rl];exact E)]
  by_cases z:g=j
  .rw[if_pos z];omega
  .rw[if_neg z];exact s.rp j hj
 .rw[nE (by rw[s.wl];exact pn)] at hn
  by_cases z:p.1=i
  .rw[if_pos z] at hn;omega
  .rw[if_neg z] at hn
   rw[k2]
   have e:dl x (cellsOf ps) i j=0:=by
    have st:∀y∈ps,y.1=i->∃b,b<m/\cellAt low i b<cellAt t i b\/0<w.getD i 0:=by
     intro y v e
     have:∀{o:List (Nat × Nat)},Lk (fun a b=>cellAt low a b<cellAt t a b) o->(∀z∈o,z.1<n/\z.2<m)->y∈o->o.getLast?=some p->y=p\/∃b,b<m/\cellAt low y.1 b<cellAt t y.1 b:=by
      intro o
      induction o with
      |nil=>intro _ _ h;nomatch h
      |cons a l ih =>
       intro H G u C
       cases l with
       |nil =>
        cases Gc.mp u
        left;simpa using C
       |cons b l =>
        rcases L6.mp u with e|u
        .right
         rw[e]
         exact⟨b.2,(G b (Fk _ ox)).2,H.1⟩
        .exact ih H.2 (fun z M=>G z (Fk _ M)) u (by rw[Np] at C;exact C)
     rcases this hw.lk hw.rg v B with q|⟨b,hb,q⟩
     .exact absurd (by rw[<- q];exact e) z
     .exact⟨b,.inl ⟨hb,by rw[<- e];exact q⟩⟩
    refine Ba fun y v e=>?_
    obtain ⟨b,q⟩:=st y v e
    rcases q with ⟨hb,q⟩|q
    .have:=s.ng i hi hn b hb;omega
    .omega
   rw[e,s.ng i hi hn j hj];omega
def oV:Option Nat->V|none=>.non|some c=>.int (c:Int)
def oD:Option Nat->D|none=>.non|some g=>.int (g:Int)
def kA(as:List (Nat × Option Nat)):List (Key × V):=as.map fun p=>(Sum.inl (p.1:Int),oV p.2)
abbrev kys(as:List (Nat × Option Nat)):aac:=as.map Prod.fst
theorem BK{as:List (Nat × Option Nat)}:(kA as).map (·.1)=((kys as).map fun (c:Nat)=>(c:Int)).map Sum.inl:=by
 unfold kA;rw[Mz,Mz,Mz];rfl
theorem yp:∀{as:List (Nat × Option Nat)}{c:Nat},c∉kys as->jJ (kA as) (.inl (c:Int))=none
 |[],c,_=>rfl
 |p::as,c,h=>by
  rw[kys,Mc,L6,not_or] at h
  show jJ ((Sum.inl (p.1:Int),oV p.2)::kA as) _=none
  rw[kW (fun z=>h.1 (by have:=Sum.inl.inj z;omega)),yp h.2]
theorem tm:∀{as:List (Nat × Option Nat)}{c:Nat}{o:Option Nat},(kys as).Nodup->(c,o)∈as->jJ (kA as) (.inl (c:Int))=some (oV o)
 |[],c,o,_,h=>nomatch h
 |p::as,c,o,nd,h=>by
  rw[kys,Mc] at nd
  obtain ⟨n1,n2⟩:=Mi.mp nd
  show jJ ((Sum.inl (p.1:Int),oV p.2)::kA as) _=_
  rcases L6.mp h with e|h
  .subst e;exact mV rfl
  .rw [kW (fun z => n1 (by have : p.1 = c := by have := Sum.inl.inj z; omega
                           rw[this];exact Mb.mpr ⟨_,h,rfl⟩)),tm n2 h]
theorem Li{as:List (Nat × Option Nat)}{c:Nat}:(jJ (kA as) (.inl (c:Int))).isSome=decide (c∈kys as):=by
 by_cases h:c∈kys as
 .rw[decide_eq_true h]
  induction as with
  |nil=>nomatch h
  |cons p as ih =>
   show (jJ ((Sum.inl (p.1:Int),oV p.2)::kA as) _).isSome=_
   by_cases e:p.1=c
   .rw[mV (by rw[e])];rfl
   .rw[kW (fun z=>e (by have:=Sum.inl.inj z;omega))]
    rw[kys,Mc] at h
    rcases L6.mp h with z|z
    .exact absurd z.symm e
    .exact ih z
 .rw[decide_eq_false h,yp h];rfl
theorem GF{as:List (Nat × Option Nat)}{c:Nat}{o:Option Nat}(h:c∉kys as):putK (kA as) (.inl (c:Int)) (oV o)=kA (as++[(c,o)]):=by
 rw[FY _ (yp h)]
 unfold kA;rw[Mf];rfl
theorem jR{B:Nat}{l:aac}(nd:l.Nodup)(h:∀a∈l,a<B):l.length<=B:=Mat.tO nd h
structure Rc(n m:Nat)(low high t:aaa)(w:aab)(as bs:List (Nat × Option Nat))(rk ck:Nat->Nat)(D:Nat):Prop where
 na:(kys as).Nodup
 nb:(kys bs).Nodup
 la:∀i∈kys as,i<n/\rk i<=D
 lb:∀j∈kys bs,j<m/\ck j<=D
 pa:∀i o,(i,o)∈as->(o=none/\0<w.getD i 0)\/∃c,o=some c/\c∈kys bs/\ck c<rk i/\cellAt low i c<cellAt t i c
 pb:∀j o,(j,o)∈bs->∃s,o=some s/\s∈kys as/\rk s<ck j/\cellAt t s j<cellAt high s j
 st:∀i,i<n->0<w.getD i 0->i∈kys as
abbrev nw(c:List (Nat × Nat)):List (Nat × Option Nat):=c.map fun p=>(p.1,some p.2)
theorem fX{c:List (Nat × Nat)}:kys (nw c)=c.map Prod.fst:=by unfold kys nw;rw[Mz];rfl
theorem cI{as bs:List (Nat × Option Nat)}:kys (as++bs)=kys as++kys bs:=Mf
variable {n m:Nat}{low high t:aaa}{w r:aab}{as bs:List (Nat × Option Nat)}{rk ck:Nat->Nat}{D:Nat}
theorem Rc.up(h:Rc n m low high t w as bs rk ck D){f:List (Nat × Nat)}(nd:(kys bs++f.map Prod.fst).Nodup)(hn:∀p∈f,p.2∈kys as/\p.1<m/\cellAt t p.2 p.1<cellAt high p.2 p.1) :
  Rc n m low high t w as (bs++nw f) rk (fun c=>if c∈f.map Prod.fst then D+1 else ck c) (D+1):=by
 obtain ⟨C,B,y⟩:=Mm.mp nd
 have old:∀c∈kys bs,c∉f.map Prod.fst:=fun c x z=>y c x c z rfl
 refine⟨h.na,by rw[cI,fX];exact nd,fun i hi=>⟨(h.la i hi).1,by have:=(h.la i hi).2;omega⟩,fun j hj=>?_,fun i o e=>?_,fun j o e=>?_,h.st⟩
 .rw[cI,fX] at hj
  rcases Ma.mp hj with z|z
  .show j<m/\(if j∈f.map Prod.fst then D+1 else ck j)<=D+1
   rw[if_neg (old j z)]
   have:=h.lb j z;omega
  .obtain ⟨p,g,rfl⟩:=Mb.mp z
   show p.1<m/\(if p.1∈f.map Prod.fst then D+1 else ck p.1)<=D+1
   rw[if_pos z]
   exact⟨(hn p g).2.1,Md _⟩
 .rcases h.pa i o e with z|⟨c,e1,e2,u,r⟩
  .exact .inl z
  .refine .inr ⟨c,e1,by rw[cI];exact Me _ e2,?_,r⟩
   show (if c∈f.map Prod.fst then D+1 else ck c)<rk i
   rw[if_neg (old c e2)];exact u
 .rcases Ma.mp e with z|z
  .obtain ⟨s,e1,e2,u,r⟩:=h.pb j o z
   refine⟨s,e1,e2,?_,r⟩
   show rk s<if j∈f.map Prod.fst then D+1 else ck j
   rw[if_neg (old j (Mb.mpr ⟨_,z,rfl⟩))];exact u
  .obtain ⟨p,g,q⟩:=Mb.mp z
   cases q
   obtain ⟨v,q2,q3⟩:=hn p g
   refine⟨p.2,rfl,v,?_,q3⟩
   show rk p.2<if p.1∈f.map Prod.fst then D+1 else ck p.1
   rw[if_pos (Mb.mpr ⟨p,g,rfl⟩)]
   have:=(h.la p.2 v).2;omega
theorem Rc.down(h:Rc n m low high t w as bs rk ck D){f:List (Nat × Nat)}(nd:(kys as++f.map Prod.fst).Nodup)(hn:∀p∈f,p.2∈kys bs/\p.1<n/\cellAt low p.1 p.2<cellAt t p.1 p.2) :
  Rc n m low high t w (as++nw f) bs (fun i=>if i∈f.map Prod.fst then D+1 else rk i) ck (D+1):=by
 obtain ⟨C,B,y⟩:=Mm.mp nd
 have old:∀c∈kys as,c∉f.map Prod.fst:=fun c x z=>y c x c z rfl
 refine⟨by rw[cI,fX];exact nd,h.nb,fun j hj=>?_,fun i hi=>⟨(h.lb i hi).1,by have:=(h.lb i hi).2;omega⟩,fun j o e=>?_,fun i o e=>?_,fun i hi hw=>by rw[cI];exact Me _ (h.st i hi hw)⟩
 .rw[cI,fX] at hj
  rcases Ma.mp hj with z|z
  .show j<n/\(if j∈f.map Prod.fst then D+1 else rk j)<=D+1
   rw[if_neg (old j z)]
   have:=h.la j z;omega
  .obtain ⟨p,g,rfl⟩:=Mb.mp z
   show p.1<n/\(if p.1∈f.map Prod.fst then D+1 else rk p.1)<=D+1
   rw[if_pos z]
   exact⟨(hn p g).2.1,Md _⟩
 .rcases Ma.mp e with z|z
  .rcases h.pa j o z with q|⟨c,e1,e2,u,r⟩
   .exact .inl q
   .refine .inr ⟨c,e1,e2,?_,r⟩
    show ck c<if j∈f.map Prod.fst then D+1 else rk j
    rw[if_neg (old j (Mb.mpr ⟨_,z,rfl⟩))];exact u
  .obtain ⟨p,g,q⟩:=Mb.mp z
   cases q
   obtain ⟨v,q2,q3⟩:=hn p g
   refine .inr ⟨p.2,rfl,v,?_,q3⟩
   show ck p.2<if p.1∈f.map Prod.fst then D+1 else rk p.1
   rw[if_pos (Mb.mpr ⟨p,g,rfl⟩)]
   have:=(h.lb p.2 v).2;omega
 .obtain ⟨s,e1,e2,u,r⟩:=h.pb i o e
  refine⟨s,e1,by rw[cI];exact Me _ e2,?_,r⟩
  show (if s∈f.map Prod.fst then D+1 else rk s)<ck i
  rw[if_neg (old s e2)];exact u
structure Cl(n m:Nat)(low high t:aaa)(r:aab)(layer:aac)(as bs:List (Nat × Option Nat))(goal:Option Nat):Prop where
 ly:∀l∈layer,l∈kys as
 cr:∀i∈kys as,i∉layer->∀j,j<m->cellAt t i j<cellAt high i j->j∈kys bs
 cc:∀j∈kys bs,∀i,i<n->cellAt low i j<cellAt t i j->i∈kys as
 gl:match goal with|none=>∀c∈kys bs,r.getD c 0<=0|some g=>g∈kys bs/\0<r.getD g 0
structure Wp(n m:Nat)(low high t:aaa)(bs:List (Nat × Option Nat))(rk ck:Nat->Nat)(g:Nat)(ps:List (Nat × Nat))(c:Nat):Prop where
 hd:(ps=[]/\c=g)\/∃p l,ps=p::l/\p.2=g
 ci:c∈kys bs
 rg:∀p∈ps,p.1<n/\p.2<m
 rk:∀p∈ps,ck c<rk p.1/\ck c<ck p.2
 n1:(ps.map Prod.fst).Nodup
 n2:(ps.map Prod.snd).Nodup
 up:∀p∈ps,cellAt t p.1 p.2<cellAt high p.1 p.2
 lk:Lk (fun a b=>cellAt low a b<cellAt t a b) ps
 ls:∀p,ps.getLast?=some p->cellAt low p.1 c<cellAt t p.1 c
theorem Wp.step(h:Rc n m low high t w as bs rk ck D){g c s:Nat}{ps:List (Nat × Nat)}(q:Wp n m low high t bs rk ck g ps c)(e:(c,some s)∈bs) :
  s∈kys as/\((s,none)∈as->Wy n m low high t w g (ps++[(s,c)]))/\∀i,(s,some i)∈as->Wp n m low high t bs rk ck g (ps++[(s,c)]) i/\ck i<ck c:=by
 obtain ⟨s',e1,e2,F,C⟩:=h.pb c (some s) e
 cases e1
 have x:=(h.la s e2).1
 have B:=(h.lb c q.ci).1
 have rg:∀p∈ps++[(s,c)],p.1<n/\p.2<m:=fun p f=>by
  rcases Ma.mp f with z|z
  .exact q.rg p z
  .cases Gc.mp z;exact⟨x,B⟩
 have n1:((ps++[(s,c)]).map Prod.fst).Nodup:=by
  rw[Mf]
  refine Mm.mpr ⟨q.n1,by simp,fun a ha b hb z=>?_⟩
  obtain ⟨p,f,rfl⟩:=Mb.mp ha
  have:b=s:=by simpa using hb
  have:=(q.rk p f).1
  rw[z,‹b=s›] at this;omega
 have n2:((ps++[(s,c)]).map Prod.snd).Nodup:=by
  rw[Mf]
  refine Mm.mpr ⟨q.n2,by simp,fun a ha b hb z=>?_⟩
  obtain ⟨p,f,rfl⟩:=Mb.mp ha
  have:b=c:=by simpa using hb
  have:=(q.rk p f).2
  rw[z,‹b=c›] at this;omega
 have up:∀p∈ps++[(s,c)],cellAt t p.1 p.2<cellAt high p.1 p.2:=fun p f=>by
  rcases Ma.mp f with z|z
  .exact q.up p z
  .cases Gc.mp z;exact C
 have lk:=Ck (s:=s) q.lk q.ls
 have hd:∃p l,ps++[(s,c)]=p::l/\p.2=g:=by
  rcases q.hd with ⟨o,j⟩|⟨p,l,o,j⟩
  .subst o;exact⟨(s,c),[],rfl,j⟩
  .subst o;exact⟨p,l++[(s,c)],rfl,j⟩
 refine⟨e2,fun z=>⟨hd,rg,n1,n2,up,lk,(s,c),by simp,?_⟩,fun i z=>?_⟩
 .rcases h.pa s none z with ⟨_,y⟩|⟨_,y,_⟩
  .exact y
  .cases y
 .rcases h.pa s (some i) z with ⟨y,_⟩|⟨G,y,u,E,r⟩
  .cases y
  .cases y
   refine⟨⟨.inr hd,u,rg,fun p f=>?_,n1,n2,up,lk,fun p f=>?_⟩,by omega⟩
   .rcases Ma.mp f with v|v
    .have:=q.rk p v;omega
    .cases Gc.mp v
     show ck i<rk s/\ck i<ck c
     omega
   .have:p=(s,c):=by simpa using f.symm
    rw[this];exact r
end Fl
end L3
namespace L3
open PySem L2
section
end
end L3
namespace L3.Fl
theorem KN{n m:Nat}{c cols:aab}{low high t:aaa}{R C:aac}(ht:bc n m t)(bd:∀i j,i<n->j<m->cellAt low i j<=cellAt t i j/\cellAt t i j<=cellAt high i j)(rs:∀i,i<n->du t i=c.getD i 0)(cs:∀j,j<m->ee t j=cols.getD j 0):¬ Cut n m c cols low high R C:=by
 unfold Cut
 have e1:sN n (fun i=>if i∈R then c.getD i 0 else 0)=sN n fun i=>sN m fun j=>if i∈R then cellAt t i j else 0:=aF fun i hi=>by
  by_cases z:i∈R
  .rw[if_pos z,<- rs i hi,qu ht hi]
   exact aF fun j _=>(if_pos z).symm
  .rw[if_neg z,aF (g:=fun _=>0) fun j _=>if_neg z,bu]
 have e2:sN m (fun j=>if j∈C then cols.getD j 0 else 0)=sN n fun i=>sN m fun j=>if j∈C then cellAt t i j else 0:=by
  rw[nF]
  refine aF fun j hj=>?_
  by_cases z:j∈C
  .rw[if_pos z,<- cs j hj,nJ ht]
   exact aF fun i _=>(if_pos z).symm
  .rw[if_neg z,aF (g:=fun _=>0) fun i _=>if_neg z,bu]
 rw[e1,e2,<- i7]
 refine Int.not_lt.mpr ?_
 have le:∀(n:Nat) (f g:Nat->Int),(∀i,i<n->f i<=g i)->sN n f<=sN n g:=by
  intro n
  induction n with
  |zero=>intro f g _;exact Ov _
  |succ k ih =>
   intro f g h
   rw[bU,bU]
   have:=ih f g fun i hi=>h i (by omega)
   have:=h k (by omega)
   omega
 refine le _ _ _ fun i hi=>?_
 rw[<- i7]
 refine le _ _ _ fun j hj=>?_
 have b:=bd i j hi hj
 by_cases p:i∈R<;>by_cases o:j∈C
 .rw[if_pos p,if_pos o,if_neg (fun q=>q.2 o),if_neg (fun q=>q.1 p)];omega
 .rw[if_pos p,if_neg o,if_pos ⟨p,o⟩,if_neg (fun q=>q.1 p)];omega
 .rw[if_neg p,if_pos o,if_neg (fun q=>q.2 o),if_pos ⟨p,o⟩];omega
 .rw[if_neg p,if_neg o,if_neg (fun q=>p q.1),if_neg (fun q=>o q.2)];omega
end L3.Fl
namespace L2
open PySem PySem.Spec PyProof.Rows
open Sem (wp)
section
end
section
end
end L2
namespace L2
open PySem PySem.Spec PyProof.Rows
section
end
end L2
namespace L3
open PySem L2
section
end
end L3
namespace L3
open PySem L2
section
variable {K:aad}{Γ:aac}
theorem EM.free{c:TE}{f:DE}(h:EM K [] [] c f):EM K Γ [] c f:=⟨h.mono,fun o z=>h.run (o.sub fun _ h=>(nomatch h)) z⟩
end
end L3
namespace L2
open PySem
end L2
namespace L3
open PySem L2
section
end
end L3
namespace L3
namespace Rg
open Fl
abbrev Q4:=Int × Int × Int × Int
def goT(n m:Nat):aaa->List Q4->Option aaa
 |t,[]=>some t
 |t,(i,j,k,l)::r=>if cQ n m t i j k l then goT n m (c5 t i.toNat j.toNat k.toNat l.toNat) r else none
theorem oK{n m:Nat}{t:aaa}{i j k l:Int}{r:List Q4}(h:cQ n m t i j k l):goT n m t ((i,j,k,l)::r)=goT n m (c5 t i.toNat j.toNat k.toNat l.toNat) r:=by rw[goT,if_pos h]
theorem xy{n m:Nat}{t:aaa}{i j k l:Int}{r:List Q4}(h:¬ cQ n m t i j k l):goT n m t ((i,j,k,l)::r)=none:=by rw[goT,if_neg h]
theorem nN{n m:Nat}{ys:List Q4}:∀{xs:List Q4}{t u:aaa},goT n m t xs=some u->goT n m t (xs++ys)=goT n m u ys
 |[],t,u,h=>by cases h;rfl
 |(i,j,k,l)::xs,t,u,h=>by
  by_cases c:cQ n m t i j k l
  .rw[oK c] at h
   rw[List.cons_append,oK c]
   exact nN h
  .rw[xy c] at h;cases h
theorem qf{n m:Nat}{t:aaa}{i j k l:Int}(c:bc n m t)(h:cQ n m t i j k l):bc n m (c5 t i.toNat j.toNat k.toNat l.toNat):=by
 obtain ⟨hi,f,hj,hl,_⟩:=h
 exact (((c.setCell (by omega)).setCell (by omega)).setCell (by omega)).setCell (by omega)
structure Kp(n m:Nat)(t u:aaa):Prop where
 on:ig n m u
 rs:∀a,du u a=du t a
 cs:∀b,ee u b=ee t b
theorem uj{n m:Nat}:∀{xs:List Q4}{t u:aaa},ig n m t->goT n m t xs=some u->Kp n m t u
 |[],t,u,h,e=>by cases e;exact⟨h,fun _=>rfl,fun _=>rfl⟩
 |(i,j,k,l)::xs,t,u,h,e=>by
  by_cases c:cQ n m t i j k l
  .rw[oK c] at e
   obtain ⟨hi,p,hj,hl,c1,o,g,f⟩:=c
   have q:=uj (yd h (by omega) (by omega)) e
   have s:=zb h.1 (i:=i.toNat) (j:=j.toNat) (k:=k.toNat) (l:=l.toNat) (by omega) (by omega) (by omega) (by omega) c1 o g f
   exact⟨q.on,fun a=>(q.rs a).trans (s.1 a),fun b=>(q.cs b).trans (s.2 b)⟩
  .rw[xy c] at e;cases e
theorem pP{f:Nat->Int}{c:Nat}:∀{m:Nat},c<m->sN m (fun j=>if j=c then f j else 0)=f c
 |0,h=>by omega
 |m+1,h=>by
  rw[bU]
  rcases N6 c m with z|z
  .rw[pP z,if_neg (by omega)];omega
  .have e:c=m:=by omega
   subst e
   rw[if_pos rfl,aF (g:=fun _=>0) (fun i hi=>if_neg (by omega)),bu];omega
theorem EU{f:Nat->Int}:∀{m:Nat},sN m (fun q=>f q - f (q+1))=f 0 - f m
 |0=>by rw[CB];omega
 |m+1=>by rw[bU,EU];omega
def ii(p:Prop)[Decidable p]:Int:=if p then 1 else 0
structure Ring(n m L:Nat)(T:Nat->Nat->Int)(r c:Nat->Nat):Prop where
 two:2<=L
 ri:∀p q,p<L->q<L->r p=r q->p=q
 ci:∀p q,p<L->q<L->c p=c q->p=q
 rn:∀p,p<L->r p<n
 cm:∀p,p<L->c p<m
 a:∀p,p<L->T (r p) (c p)=0
 b:∀p,p+1<L->T (r (p+1)) (c p)=1
 e:T (r 0) (c (L - 1))=1
def dl(L:Nat)(r c:Nat->Nat)(p a b:Nat):Int:=(ii (a=r p) - ii (a=r (p+1)))*(ii (b=c p) - ii (b=c (L - 1)))
def St(n m L:Nat)(T:Nat->Nat->Int)(r c:Nat->Nat)(S:Nat->Bool)(U:aaa):Prop:=bc n m U/\∀a b,a<n->b<m->cellAt U a b=T a b+sN (L - 1) fun q=>if S q then dl L r c q a b else 0
def q4(L:Nat)(r c:Nat->Nat)(p:Nat):Q4:=((r p:Int),(c (L - 1):Int),(r (p+1):Int),(c p:Int))
section
variable {n m L:Nat}{T:Nat->Nat->Int}{r c:Nat->Nat}{S:Nat->Bool}{U:aaa}
theorem mq{p:Prop}[Decidable p](h:p):ii p=1:=if_pos h
theorem hZ{p:Prop}[Decidable p](h:¬ p):ii p=0:=if_neg h
theorem Ring.inn(h:Ring n m L T r c){p:Nat}(j:p+1<L):sN (L - 1) (fun q=>if S q then dl L r c q (r p) (c p) else 0)=if S p then 1 else 0:=by
 have:=h.two
 rw[aF (g:=fun q=>if q=p then (if S q then 1 else 0) else 0) fun q i=>?_,pP (f:=fun q=>if S q then 1 else 0) (show p<L - 1 by omega)]
 by_cases z:q=p
 .subst z
  rw[if_pos rfl]
  unfold dl
  rw[mq rfl,hZ (fun z=>by have:=h.ri _ _ (by omega) (by omega) z;omega),mq rfl,hZ (fun z=>by have:=h.ci _ _ (by omega) (by omega) z;omega)]
  rfl
 .rw[if_neg z]
  unfold dl
  rw[hZ (p:=c p=c q) (fun y=>z (h.ci _ _ (by omega) (by omega) y).symm),hZ (p:=c p=c (L - 1)) (fun z=>by have:=h.ci _ _ (by omega) (by omega) z;omega),Int.sub_self,NM]
  split<;>rfl
theorem Ring.out(h:Ring n m L T r c){p:Nat}(j:p+1<L):sN (L - 1) (fun q=>if S q then dl L r c q (r (p+1)) (c p) else 0)=if S p then -1 else 0:=by
 have:=h.two
 rw[aF (g:=fun q=>if q=p then (if S q then -1 else 0) else 0) fun q i=>?_,pP (f:=fun q=>if S q then -1 else 0) (show p<L - 1 by omega)]
 by_cases z:q=p
 .subst z
  rw[if_pos rfl]
  unfold dl
  rw[hZ (fun z=>by have:=h.ri _ _ (by omega) (by omega) z;omega),mq rfl,mq rfl,hZ (fun z=>by have:=h.ci _ _ (by omega) (by omega) z;omega)]
  rfl
 .rw[if_neg z]
  unfold dl
  rw[hZ (p:=c p=c q) (fun y=>z (h.ci _ _ (by omega) (by omega) y).symm),hZ (p:=c p=c (L - 1)) (fun z=>by have:=h.ci _ _ (by omega) (by omega) z;omega),Int.sub_self,NM]
  split<;>rfl
theorem Ring.las(h:Ring n m L T r c){p:Nat}(t:p<L):sN (L - 1) (fun q=>if S q then dl L r c q (r p) (c (L - 1)) else 0)=(if 1<=p/\S (p - 1) then 1 else 0) - (if p+1<L/\S p then 1 else 0):=by
 have:=h.two
 rw[aF (g:=fun q=>(if q=p - 1 then (if 1<=p/\S q then 1 else 0) else 0) - (if q=p then (if S q then 1 else 0) else 0)) fun q o=>?_,jO]
 .congr 1
  .rw[pP (f:=fun q=>if 1<=p/\S q then 1 else 0) (show p - 1<L - 1 by omega)]
  .by_cases z:p+1<L
   .rw[pP (f:=fun q=>if S q then 1 else 0) (show p<L - 1 by omega)]
    simp [z]
   .rw[aF (g:=fun _=>0) (fun q o=>if_neg (by omega)),bu,if_neg (fun y=>z y.1)]
 .unfold dl
  rw[hZ (p:=c (L - 1)=c q) (fun y=>by have:=h.ci _ _ (by omega) (by omega) y;omega),mq (p:=c (L - 1)=c (L - 1)) rfl]
  by_cases i:q=p
  .subst i
   rw[mq rfl,hZ (p:=r q=r (q+1)) (fun y=>by have:=h.ri _ _ (by omega) (by omega) y;omega),if_pos rfl]
   rw[show (if q=q - 1 then (if 1<=q/\S q=true then (1:Int) else 0) else 0)=0 by
    split
    .rw[if_neg (by omega)]
    .rfl]
   split<;>rfl
  .rw[if_neg i,hZ (p:=r p=r q) (fun y=>i (h.ri _ _ (by omega) (by omega) y).symm)]
   by_cases j:q+1=p
   .rw[if_pos (c:=q=p - 1) (by omega),mq (p:=r p=r (q+1)) (by rw[j])]
    by_cases s:S q=true
    .rw[if_pos s,if_pos ⟨by omega,s⟩];rfl
    .rw[if_neg s,if_neg (fun y=>s y.2)];rfl
   .rw[hZ (p:=r p=r (q+1)) (fun y=>j (h.ri _ _ (by omega) (by omega) y).symm)]
    rw[show (if q=p - 1 then (if 1<=p/\S q=true then (1:Int) else 0) else 0)=0 by
     split
     .rw[if_neg (by omega)]
     .rfl]
    split<;>rfl
theorem Ring.step(h:Ring n m L T r c)(g:St n m L T r c S U){p:Nat}(o:p+1<L)(sp:S p=false)(c1:T (r p) (c (L - 1))+(if 1<=p/\S (p - 1) then 1 else 0)=1)(F:T (r (p+1)) (c (L - 1))=if p+1+1<L/\S (p+1) then 1 else 0){rest:List Q4} :
  ∃C,goT n m U (q4 L r c p::rest)=goT n m C rest/\St n m L T r c (fun q=>S q || decide (q=p)) C:=by
 have two:=h.two
 have rp:=h.rn p (by omega)
 have v:=h.rn (p+1) o
 have t:=h.cm p (by omega)
 have cl:=h.cm (L - 1) (by omega)
 have s:r p≠r (p+1):=fun z=>by have:=h.ri _ _ (by omega) (by omega) z;omega
 have x:c p≠c (L - 1):=fun z=>by have:=h.ci _ _ (by omega) (by omega) z;omega
 have e1:cellAt U (r p) (c (L - 1))=1:=by
  rw[g.2 _ _ rp cl,h.las (show p<L by omega),if_neg (c:=p+1<L/\S p=true) (fun z=>by rw[sp] at z;exact absurd z.2 Mj)]
  omega
 have e2:cellAt U (r p) (c p)=0:=by
  rw[g.2 _ _ rp t,h.inn o,h.a p (by omega),sp];rfl
 have B:cellAt U (r (p+1)) (c (L - 1))=0:=by
  rw[g.2 _ _ v cl,h.las o,if_neg (c:=1<=p+1/\S (p+1 - 1)=true) (fun z=>by rw[Om,sp] at z;exact absurd z.2 Mj),F]
  omega
 have y:cellAt U (r (p+1)) (c p)=1:=by
  rw[g.2 _ _ v t,h.out o,h.b p o,sp];rfl
 have E:cQ n m U (r p:Int) (c (L - 1):Int) (r (p+1):Int) (c p:Int):=⟨⟨by omega,by omega⟩,⟨by omega,by omega⟩,⟨by omega,by omega⟩,⟨by omega,by omega⟩,e1,e2,B,y⟩
 refine⟨_,oK E,qf g.1 E,fun a b ha hb=>?_⟩
 simp only[L7]
 rw[xj g.1 rp v cl t]
 have u:(sN (L - 1) fun q=>if (S q || decide (q=p))=true then dl L r c q a b else 0)=(sN (L - 1) fun q=>if S q then dl L r c q a b else 0)+dl L r c p a b:=by
  rw[<- pP (f:=fun q=>dl L r c q a b) (show p<L - 1 by omega),<- i7]
  refine aF fun q _=>?_
  by_cases z:q=p
  .subst z;simp [sp]
  .simp [z]
 rw[u,<- Int.add_assoc,<- g.2 a b ha hb]
 unfold dl
 by_cases a1:a=r p
 .subst a1
  rw[mq (p:=r p=r p) rfl,hZ (p:=r p=r (p+1)) s,if_neg (fun z=>s z.1.symm),if_neg (fun z=>s z.1.symm)]
  by_cases j:b=c p
  .subst j
   rw[if_pos ⟨rfl,rfl⟩,e2,mq rfl,hZ x];rfl
  .rw[if_neg (fun z=>j z.2.symm),hZ j]
   by_cases i:b=c (L - 1)
   .subst i
    rw[if_pos ⟨rfl,rfl⟩,e1,mq rfl];rfl
   .rw[if_neg (fun z=>i z.2.symm),hZ i,Int.sub_self,NM,Int.add_zero]
 .rw[hZ a1]
  by_cases a2:a=r (p+1)
  .subst a2
   rw[mq rfl]
   by_cases j:b=c p
   .subst j
    rw[if_pos ⟨rfl,rfl⟩,y,mq rfl,hZ x];rfl
   .rw[if_neg (fun z=>j z.2.symm),hZ j]
    by_cases i:b=c (L - 1)
    .subst i
     rw[if_pos ⟨rfl,rfl⟩,B,mq rfl];rfl
    .rw[if_neg (fun z=>i z.2.symm),if_neg (fun z=>a1 z.1.symm),if_neg (fun z=>a1 z.1.symm),hZ i,Int.sub_self,NM,Int.add_zero]
  .rw[hZ a2,if_neg (fun z=>a2 z.1.symm),if_neg (fun z=>a2 z.1.symm),if_neg (fun z=>a1 z.1.symm),if_neg (fun z=>a1 z.1.symm),Int.sub_self,Int.zero_mul,Int.add_zero]
theorem St.cg{f:Nat->Bool}(h:St n m L T r c S U)(e:∀q,q+1<L->S q=f q):St n m L T r c f U:=⟨h.1,fun a b ha hb=>by
 rw[h.2 a b ha hb,aF (n:=L - 1) fun q g=>by rw[e q (by omega)]]⟩
def ah(L:Nat)(T:Nat->Nat->Int)(r c:Nat->Nat)(p:Nat):Bool:=decide (T (r (p+1)) (c (L - 1))=0)
theorem Ring.first(h:Ring n m L T r c)(hb:∀p,p<L->T (r p) (c (L - 1))=0\/T (r p) (c (L - 1))=1){p:Nat}(f:p<L):T (r p) (c (L - 1))+(if 1<=p/\ah L T r c (p - 1)=true then 1 else 0)=1:=by
 rcases Nat.eq_zero_or_pos p with z|z
 .subst z
  rw[if_neg (by omega),h.e];rfl
 .have e:ah L T r c (p - 1)=decide (T (r p) (c (L - 1))=0):=by unfold ah;rw[show p - 1+1=p by omega]
  rw[e]
  rcases hb p f with y|y
  .rw[y,if_pos ⟨z,by simp⟩];rfl
  .rw[y,if_neg (fun w=>by simp at w)];rfl
theorem Ring.ahead(h:Ring n m L T r c)(hb:∀p,p<L->T (r p) (c (L - 1))=0\/T (r p) (c (L - 1))=1){t:aaa}(ht:St n m L T r c (fun _=>false) t):∀k,k+1<=L->∃U,goT n m t (((List.range k).filter (ah L T r c)).map (q4 L r c))=some U/\St n m L T r c (fun q=>decide (q<k) && ah L T r c q) U
 |0,_=>⟨t,rfl,ht.cg fun q _=>by simp⟩
 |k+1,s=>by
  obtain ⟨U,e,f⟩:=h.ahead hb ht k (by omega)
  rw[Nq,Oq,Mf,nN e]
  by_cases z:ah L T r c k=true
  .obtain ⟨j,i,o⟩:=h.step f (p:=k) (by omega) (by simp) (by
    refine Eq.trans (congrArg (T (r k) (c (L - 1))+·) ?_) (h.first hb (p:=k) (by omega))
    by_cases y:1<=k/\ah L T r c (k - 1)=true
    .rw[if_pos y,if_pos ⟨y.1,by simp [y.2];omega⟩]
    .rw[if_neg y,if_neg (fun w=>y ⟨w.1,by simp at w;exact w.2.2⟩)]) (by
    rw[if_neg (fun w=>by simp at w;omega)]
    exact of_decide_eq_true z) (rest:=[])
   refine⟨j,?_,o.cg fun q g=>?_⟩
   .rw[show (List.filter (ah L T r c) [k])=[k] by simp [z]]
    exact i
   .by_cases y:q=k
    .subst y;simp [z]
    .have:decide (q<k+1)=decide (q<k):=decide_eq_decide.mpr (by omega)
     simp [y,this]
  .refine⟨U,?_,f.cg fun q g=>?_⟩
   .rw[show (List.filter (ah L T r c) [k])=[] by simp [z]];rfl
   .by_cases y:q=k
    .subst y;simp [z]
    .have:decide (q<k+1)=decide (q<k):=decide_eq_decide.mpr (by omega)
     simp [this]
theorem Ring.behind(h:Ring n m L T r c)(hb:∀p,p<L->T (r p) (c (L - 1))=0\/T (r p) (c (L - 1))=1):∀M,M+1<=L->∀U,St n m L T r c (fun q=>ah L T r c q || decide (M<=q)) U->∃g,goT n m U ((((List.range M).filter fun q=>!ah L T r c q).reverse).map (q4 L r c))=some g/\St n m L T r c (fun _=>true) g
 |0,_,U,f=>⟨U,rfl,f.cg fun q _=>by simp⟩
 |M+1,x,U,f=>by
  rw[Nq,Oq,List.reverse_append,Mf]
  by_cases z:ah L T r c M=true
  .rw[show (List.filter (fun q=>!ah L T r c q) [M])=[] by simp [z]]
   refine h.behind hb M (by omega) U (f.cg fun q j=>?_)
   by_cases y:q=M
   .subst y;simp [z]
   .have:decide (M+1<=q)=decide (M<=q):=decide_eq_decide.mpr (by omega)
    rw[this]
  .have i:ah L T r c M=false:=by simpa using z
   have one:T (r (M+1)) (c (L - 1))=1:=by
    rcases hb (M+1) (by omega) with y|y
    .exact absurd (show ah L T r c M=true from decide_eq_true y) z
    .exact y
   have lt:M+1+1<L:=by
    rcases N6 (M+1+1) L with y|y
    .exact y
    .have e:L - 1=M+1:=by omega
     have:=h.a (M+1) (by omega)
     rw[e] at one
     omega
   rw[show (List.filter (fun q=>!ah L T r c q) [M])=[M] by simp [z]]
   obtain ⟨g,o,v⟩:=h.step f (p:=M) (by omega) (by simp [i]) (by
    refine Eq.trans (congrArg (T (r M) (c (L - 1))+·) ?_) (h.first hb (p:=M) (by omega))
    by_cases y:1<=M/\ah L T r c (M - 1)=true
    .rw[if_pos y,if_pos ⟨y.1,by simp [y.2]⟩]
    .rw[if_neg y,if_neg (fun w=>y ⟨w.1,by
      have:=w.2
      rw[Bool.or_eq_true] at this
      rcases this with u|u
      .exact u
      .have:=of_decide_eq_true u;omega⟩)]) (by
    rw[one,if_pos ⟨lt,by simp⟩]) (rest:=(((List.range M).filter fun q=>!ah L T r c q).reverse).map (q4 L r c))
   obtain ⟨t,e2,s⟩:=h.behind hb M (by omega) g (v.cg fun q j=>by
    by_cases y:q=M
    .subst y;simp
    .have:decide (M+1<=q)=decide (M<=q):=decide_eq_decide.mpr (by omega)
     rw[this];simp [y])
   exact⟨t,o.trans e2,s⟩
def rsw(L:Nat)(T:Nat->Nat->Int)(r c:Nat->Nat):aac:=(List.range (L - 1)).filter (ah L T r c)++((List.range (L - 1)).filter fun q=>!ah L T r c q).reverse
theorem IH:(rsw L T r c).length=L - 1:=by
 unfold rsw
 rw[Mg,List.length_reverse]
 have:=List.length_eq_countP_add_countP (ah L T r c) (l:=List.range (L - 1))
 rw[L9,List.countP_eq_length_filter,List.countP_eq_length_filter] at this
 have e:(fun q=>!ah L T r c q)=fun a=>decide ¬ ah L T r c a=true:=by
  funext q;cases ah L T r c q<;>rfl
 rw[e]
 omega
theorem Ring.all(h:Ring n m L T r c)(hb:∀p,p<L->T (r p) (c (L - 1))=0\/T (r p) (c (L - 1))=1){t:aaa}(i:bc n m t)(ht:∀a b,a<n->b<m->cellAt t a b=T a b):∃U,goT n m t ((rsw L T r c).map (q4 L r c))=some U/\St n m L T r c (fun _=>true) U:=by
 have:=h.two
 obtain ⟨U,e,f⟩:=h.ahead hb (t:=t) ⟨i,fun a b ha hb=>by
  have z:(sN (L - 1) fun q=>if (fun _:Nat=>false) q=true then dl L r c q a b else 0)=0:=(aF (g:=fun _=>0) (fun q _=>rfl)).trans bu
  rw[ht a b ha hb,z,Int.add_zero]⟩ (L - 1) (by omega)
 obtain ⟨o,e2,j⟩:=h.behind hb (L - 1) (by omega) U (f.cg fun q s=>by
  have e1:decide (q<L - 1)=true:=decide_eq_true (by omega)
  have e2:decide (L - 1<=q)=false:=decide_eq_false (by omega)
  rw[e1,e2];simp)
 refine⟨o,?_,j⟩
 unfold rsw
 rw[Mf,nN e]
 exact e2
def nx(L p:Nat):Nat:=if p+1<L then p+1 else 0
theorem Ring.sum(h:Ring n m L T r c){a b:Nat}:sN (L - 1) (fun q=>dl L r c q a b)=sN L fun p=>(ii (a=r p) - ii (a=r (nx L p)))*ii (b=c p):=by
 have two:=h.two
 obtain ⟨K,rfl⟩:∃K,L=K+1:=⟨L - 1,by omega⟩
 have o:∀q,q<K->nx (K+1) q=q+1:=fun q i=>if_pos (by omega)
 have j:nx (K+1) K=0:=if_neg (by omega)
 rw[Om,bU,j,aF (n:=K) (g:=fun q=>(ii (a=r q) - ii (a=r (q+1)))*ii (b=c q) - (ii (a=r q) - ii (a=r (q+1)))*ii (b=c K)) fun q i=>?_,jO]
 .rw[aF (n:=K) (f:=fun p=>(ii (a=r p) - ii (a=r (nx (K+1) p)))*ii (b=c p)) (g:=fun q=>(ii (a=r q) - ii (a=r (q+1)))*ii (b=c q)) fun q i=>by rw[o q i]]
  have s:(sN K fun q=>(ii (a=r q) - ii (a=r (q+1)))*ii (b=c K))=(ii (a=r 0) - ii (a=r K))*ii (b=c K):=by
   rw[<- EU (f:=fun q=>ii (a=r q))]
   by_cases z:b=c K
   .rw[mq z,Int.mul_one]
    exact aF fun q _=>Int.mul_one _
   .rw[hZ z,NM,aF (g:=fun _=>0) (fun q _=>NM _),bu]
  rw[s,Int.sub_mul,Int.sub_mul]
  omega
 .unfold dl
  rw[Om,Int.mul_sub]
def pos(x y:Int):Int:=if y<x then 1 else 0
def apart(n m:Nat)(t o:aaa):Int:=sN n fun a=>sN m fun b=>pos (cellAt t a b) (cellAt o a b)
theorem pQ{t o:aaa}:0<=apart n m t o:=js fun a _=>js fun b _=>by unfold pos;split<;>omega
structure zq(n m L:Nat)(t o:aaa)(r c:Nat->Nat):Prop extends Ring n m L (cellAt t) r c where
 oa:∀p,p<L->cellAt o (r p) (c p)=1
 ob:∀p,p<L->cellAt t (r (nx L p)) (c p)=1/\cellAt o (r (nx L p)) (c p)=0
theorem zq.less{t o:aaa}(h:zq n m L t o r c){U:aaa}(u:St n m L (cellAt t) r c (fun _=>true) U):apart n m U o=apart n m t o - L:=by
 have two:=h.two
 have s:∀p,p<L->nx L p<L:=fun p i=>by unfold nx;split<;>omega
 have v:∀p,p<L->nx L p≠p:=fun p i=>by unfold nx;split<;>omega
 have pt:∀a b,a<n->b<m->pos (cellAt U a b) (cellAt o a b)=pos (cellAt t a b) (cellAt o a b) - sN L fun p=>ii (a=r (nx L p))*ii (b=c p):=fun a b ha hb=>by
  rw[u.2 a b ha hb,aF (n:=L - 1) (g:=fun q=>dl L r c q a b) (fun q _=>if_pos rfl),h.toRing.sum]
  by_cases z:∃p,p<L/\b=c p
  .obtain ⟨p,i,rfl⟩:=z
   have one:∀f:Nat->Int,(sN L fun q=>f q*ii (c p=c q))=f p:=fun f=>by
    rw[<- pP (f:=f) i]
    refine aF fun q j=>?_
    by_cases y:q=p
    .subst y;rw[if_pos rfl,mq rfl,Int.mul_one]
    .rw[if_neg y,hZ (fun w=>y (h.ci _ _ i j w).symm),NM]
   rw[one (fun q=>ii (a=r q) - ii (a=r (nx L q))),one fun q=>ii (a=r (nx L q))]
   by_cases a1:a=r p
   .subst a1
    rw[mq rfl,hZ (fun w=>v p i (h.ri _ _ i (s p i) w).symm),h.a p i,h.oa p i];rfl
   .rw[hZ a1]
    by_cases a2:a=r (nx L p)
    .subst a2
     rw[mq rfl,(h.ob p i).1,(h.ob p i).2];rfl
    .rw[hZ a2];simp
  .have nil:∀f:Nat->Int,(sN L fun q=>f q*ii (b=c q))=0:=fun f=>by
    rw[aF (g:=fun _=>0) (fun q j=>by rw[hZ (fun w=>z ⟨q,j,w⟩),NM]),bu]
   rw[nil,nil,Int.add_zero,Int.sub_zero]
 unfold apart
 rw[aF (n:=n) (g:=fun a=>(sN m fun b=>pos (cellAt t a b) (cellAt o a b)) - sN m fun b=>sN L fun p=>ii (a=r (nx L p))*ii (b=c p)) (fun a ha=>by rw[<- jO];exact aF fun b hb=>pt a b ha hb),jO]
 congr 1
 rw[aF (n:=n) (g:=fun a=>sN L fun p=>ii (a=r (nx L p))) fun a _=>?_,nF,aF (n:=L) (g:=fun _=>1) fun p i=>?_]
 .have:∀k:Nat,sN k (fun _=>(1:Int))=k:=fun k=>by
   induction k with
   |zero=>rfl
   |succ k ih=>rw[bU,ih];omega
  exact this L
 .exact pP (f:=fun _=>1) (h.rn _ (s p i))
 .rw[nF]
  refine aF fun p i=>?_
  refine Eq.trans (aF fun b _=>?_) (pP (f:=fun _=>ii (a=r (nx L p))) (h.cm p i))
  by_cases y:b=c p
  .rw[if_pos y,mq y,Int.mul_one]
  .rw[if_neg y,hZ y,NM]
end
end Rg
end L3
namespace L3
open PySem L2
section
variable {K:aad}{Γ:aac}{te:TE}{de:DE}
def Fb(i:Nat)(c:DE)(E:bB)(δ:Dl):Prop:=j3 δ i fun ds=>c δ fun x=>∃es,x=D.lst es/\ds.all pL=true/\es.all pL=true/\ds.length+es.length<=1000/\E.nx (δ.set i (some (.lst (ds++es))))
theorem GX(i:Nat)(c:ER K Γ te de)(hi:i∈Γ:=by decide):ST0 K (Am (tBM K "list" Cb (eT i) (cY te kP))) Γ Γ (Fb i de):=by
 intro B0 Dn E fps δ B H k o h
 obtain ⟨ds,e,h⟩:=gk h
 obtain ⟨a0,xs0,G,j,y,F,C⟩:=o.yN e
 refine⟨.ref a0,j,.inl ⟨rfl,xs0,.inl (.inl y)⟩,c.run o (c.mono _ _ _ (fun x z v J s r=>?_) h)⟩
 obtain ⟨es,rfl,q,p,n,z⟩:=z
 obtain ⟨fp,b,m,I,rfl,hb,rfl,r⟩:=r
 obtain rfl:=r.qe p
 obtain ⟨a,xs,g,u,f,t⟩:=AL (o.same s) hi e q
 rw[j] at g;cases g
 exact⟨a0,b,xs,m,rfl,rfl,u,hb,by rw[f.length,r.length];exact l6 n,k (t (Rfs.LP f r)) z⟩
end
end L3
namespace L3
namespace Rg
open Fl
section
variable {n m:Nat}{t o:aaa}
theorem FZ(h:bc n m t)(i:bc n m o){a b:Nat}(ha:a<n)(hb:b<m)(j:du t a=du o a)(hd:cellAt t a b≠cellAt o a b):∃c,c<m/\cellAt t a c<cellAt o a c:=by
 refine M7 fun z=>?_
 have ge:∀c,c<m->0<=cellAt t a c - cellAt o a c:=fun c g=>by
  rcases Int.lt_or_le (cellAt t a c) (cellAt o a c) with y|y
  .exact absurd ⟨c,g,y⟩ z
  .omega
 have p:=qQ (f:=fun c=>cellAt t a c - cellAt o a c) ge hb (by have:=ge b hb;omega)
 rw[jO,<- qu h ha,<- qu i ha] at p
 omega
theorem EG(h:bc n m t)(i:bc n m o){a b:Nat}(ha:a<n)(j:ee t b=ee o b)(hd:cellAt t a b<cellAt o a b):∃c,c<n/\cellAt o c b<cellAt t c b:=by
 refine M7 fun z=>?_
 have ge:∀c,c<n->0<=cellAt o c b - cellAt t c b:=fun c g=>by
  rcases Int.lt_or_le (cellAt o c b) (cellAt t c b) with y|y
  .exact absurd ⟨c,g,y⟩ z
  .omega
 have p:=qQ (f:=fun c=>cellAt o c b - cellAt t c b) ge ha (by omega)
 rw[jO,<- nJ h,<- nJ i] at p
 omega
structure Pt(n m:Nat)(t o:aaa)(f:Nat->Nat)(row:Nat)(rs cs:aac):Prop where
 len:cs.length=rs.length
 nd:rs.Nodup
 rn:∀x∈rs,x<n
 cm:∀x∈cs,x<m
 a:∀p,p<rs.length->cellAt t (rs.getD p 0) (cs.getD p 0)=0/\cellAt o (rs.getD p 0) (cs.getD p 0)=1
 b:∀p,p+1<rs.length->rs.getD (p+1) 0=f (cs.getD p 0)
 l:1<=rs.length->row=f (cs.getD (rs.length - 1) 0)
 fb:∀p,p<rs.length->cellAt t (f (cs.getD p 0)) (cs.getD p 0)=1/\cellAt o (f (cs.getD p 0)) (cs.getD p 0)=0
 hr:row<n/\∃b,b<m/\cellAt t row b≠cellAt o row b
theorem gA{xs:aac}{x p:Nat}(h:p<xs.length):(xs++[x]).getD p 0=xs.getD p 0:=by
 rw[dz,Mn h,<- dz]
theorem gL{xs:aac}{x:Nat}:(xs++[x]).getD xs.length 0=x:=by
 rw[dz,MA (Md _),Nat.sub_self];rfl
theorem Pt.step{f:Nat->Nat}{row c:Nat}{rs cs:aac}(h:Pt n m t o f row rs cs)(hn:row∉rs)(q:c<m)(c1:cellAt t row c=0)(v:cellAt o row c=1)(fn:f c<n)(u:cellAt t (f c) c=1)(s:cellAt o (f c) c=0):Pt n m t o f (f c) (rs++[row]) (cs++[c]):=by
 have e:=h.len
 have g:(rs++[row]).length=rs.length+1:=by rw[Mg];rfl
 have gl:(cs++[c]).getD rs.length 0=c:=by rw[<- e];exact gL
 refine⟨by rw[g,Mg,e];rfl,?_,?_,?_,?_,?_,?_,?_,fn,c,q,by omega⟩
 .rw[Mm]
  exact⟨h.nd,by simp,fun x i y r z=>hn (by rw[Gc.mp r] at z;rw[<- z];exact i)⟩
 .intro x i
  rcases Ma.mp i with y|y
  .exact h.rn x y
  .rw[Gc.mp y];exact h.hr.1
 .intro x i
  rcases Ma.mp i with y|y
  .exact h.cm x y
  .rw[Gc.mp y];exact q
 .intro p j
  rw[g] at j
  rcases N6 p rs.length with y|y
  .rw[gA y,gA (by omega)];exact h.a p y
  .have:p=rs.length:=by omega
   subst this
   rw[gL,gl];exact⟨c1,v⟩
 .intro p j
  rw[g] at j
  rw[gA (xs:=cs) (by omega)]
  rcases N6 (p+1) rs.length with y|y
  .rw[gA y];exact h.b p y
  .have:rs.length=p+1:=by omega
   rw[<- this,gL,h.l (by omega),this,Om]
 .intro _
  rw[g,Om,gl]
 .intro p j
  rw[g] at j
  rcases N6 p rs.length with y|y
  .rw[gA (by omega)];exact h.fb p y
  .have:p=rs.length:=by omega
   subst this
   rw[gl];exact⟨u,s⟩
theorem gD{xs:aac}{s p:Nat}:(xs.drop s).getD p 0=xs.getD (s+p) 0:=by
 rw[dz,List.getElem?_drop,<- dz]
theorem Pt.ring{f:Nat->Nat}{row s:Nat}{rs cs:aac}(h:Pt n m t o f row rs cs)(x:rs[s]?=some row):zq n m (rs.drop s).length t o (fun p=>(rs.drop s).getD p 0) (fun p=>(cs.drop s).getD p 0):=by
 obtain ⟨v,G⟩:=KE.mp x
 have e:=h.len
 have C:(rs.drop s).length=rs.length - s:=MZ
 have r:rs.getD s 0=row:=by rw[dz,x];rfl
 have mem:∀p,p<rs.length->rs.getD p 0∈rs:=fun p c=>by rw[dz,gV c];exact MK c
 have F:∀p,p<rs.length->cs.getD p 0∈cs:=fun p c=>by rw[dz,gV (by omega)];exact MK _
 have inj:∀p q,p<rs.length->q<rs.length->rs.getD p 0=rs.getD q 0->p=q:=fun p q c g z=>by
  rw[dz,gV c,dz,gV g] at z
  exact (List.getElem_inj h.nd).mp z
 have u:∀p,p<rs.length - s->rs.getD (s+nx (rs.length - s) p) 0=f (cs.getD (s+p) 0):=fun p c=>by
  unfold nx
  by_cases y:p+1<rs.length - s
  .rw[if_pos y,<- Nat.add_assoc,h.b (s+p) (by omega)]
  .rw[if_neg y,Nat.add_zero,r,h.l (by omega),show rs.length - 1=s+p by omega]
 have two:2<=rs.length - s:=by
  rcases N6 (rs.length - s) 2 with y|y
  .have e1:rs.length - 1=s:=by omega
   have j:=h.l (by omega)
   have i:=(h.fb s v).1
   have E:=(h.a s v).1
   rw[e1] at j
   rw[<- j] at i
   rw[r] at E
   omega
  .exact y
 have B:∀p,p<rs.length - s->nx (rs.length - s) p<rs.length - s:=fun p c=>by unfold nx;split<;>omega
 rw[C]
 refine⟨⟨two,fun p q c g z=>?_,fun p q c g z=>?_,fun p c=>?_,fun p c=>?_,fun p c=>?_,fun p c=>?_,?_⟩,fun p c=>?_,fun p c=>?_⟩
 .rw[gD,gD] at z
  have:=inj _ _ (by omega) (by omega) z
  omega
 .rw[gD,gD] at z
  have j:=u p c
  rw[z,<- u q g] at j
  have l1:=B p c
  have l2:=B q g
  have i:=inj _ _ (by omega) (by omega) j
  unfold nx at i
  split at i<;>split at i<;>omega
 .show (rs.drop s).getD p 0<n
  rw[gD];exact h.rn _ (mem _ (by omega))
 .show (cs.drop s).getD p 0<m
  rw[gD];exact h.cm _ (F _ (by omega))
 .show cellAt t ((rs.drop s).getD p 0) ((cs.drop s).getD p 0)=0
  rw[gD,gD];exact (h.a _ (by omega)).1
 .show cellAt t ((rs.drop s).getD (p+1) 0) ((cs.drop s).getD p 0)=1
  rw[gD,gD,<- Nat.add_assoc,h.b (s+p) (by omega)]
  exact (h.fb _ (by omega)).1
 .show cellAt t ((rs.drop s).getD 0 0) ((cs.drop s).getD (rs.length - s - 1) 0)=1
  rw[gD,gD,Nat.add_zero,r,show s+(rs.length - s - 1)=rs.length - 1 by omega,h.l (by omega)]
  exact (h.fb _ (by omega)).1
 .show cellAt o ((rs.drop s).getD p 0) ((cs.drop s).getD p 0)=1
  rw[gD,gD];exact (h.a _ (by omega)).2
 .show cellAt t ((rs.drop s).getD (nx (rs.length - s) p) 0) ((cs.drop s).getD p 0)=1/\cellAt o ((rs.drop s).getD (nx (rs.length - s) p) 0) ((cs.drop s).getD p 0)=0
  rw[gD,gD,u p c]
  exact h.fb _ (by omega)
end
end Rg
end L3
namespace L3
open PySem L2
section
variable {K:aad}{ρ:Bool}{Γr Γl Γ:aac}{te:TE}{de:DE}{H:Hp}
def Lu:D->Bool|.tup _=>true|_=>false
theorem Cf:∀{u:aaa}{ys:List V}{f:List Addr},Rfs K H (u.map dI) ys f->∀c∈f,∃r∈u,H c=some (.lst (r.map V.int))
 |[],ys,f,h,c,g=>by obtain ⟨_,rfl⟩:=h;nomatch g
 |r::u,ys,f,h,c,g=>by
  obtain ⟨x,q,p,o,rfl,rfl,m,j⟩:=h
  obtain ⟨a,xs,n,rfl,ha,rfl,hr⟩:=m
  have e1:=hr.wm
  have e2:n=[]:=hr.qe (by rw[NL];exact ML.mpr fun _ _=>rfl)
  subst e1;subst e2
  rcases Ma.mp g with z|z
  .rw[Gc.mp z];exact⟨r,ox,ha⟩
  .obtain ⟨i,hm,e⟩:=Cf j c z
   exact⟨i,Fk _ hm,e⟩
theorem Ik{S:DSX}{Ex:XK}{c:TA}{i:DA}(g:iX S)(ha:AR K Γ c i):ER K Γ (pk (Ib K S) [] Ex c) (rY (noX S) i) :=
 ⟨fun δ P p k h=>ha.mono _ _ _ (fun y z=>zx g _ _ _ k z) h,
 fun {B0 fps δ n H Q} o q=>ha.run o (ha.mono _ _ _ (fun xs z vs t f m=>⟨xs,by rw[MV];exact m,(o.b0.trans f).now,g _ _ _ _ _ (fun u z j H' s r=>z j H' (f.trans s) r) (fun C z=>z.elim) z⟩) q)⟩
def AF(i a:Nat)(c:DE)(E:bB)(δ:Dl):Prop:=j3 δ i fun es=>es.all pL=true/\es.all Lu=true/\c δ fun x=>∃u:aaa,x=dT u/\u≠[]/\(∀r∈u,r≠[])/\E.nx (δ.set a (some x))
theorem Gh(i a:Nat)(C:ER K [i] te de)(T:i≠a:=by decide):ST K ρ Γr Γl (lN te (gn a)) [i] [i] (AF i a de):=by
 intro B0 Dn E fps δ X H k o h
 obtain ⟨es,e,I,t,h⟩:=gk h
 refine C.run o (C.mono _ _ _ (fun x z v H' s r=>?_) h)
 obtain ⟨u,rfl,L,J,M⟩:=z
 obtain ⟨fp,r⟩:=r
 obtain ⟨a0,xs,fq,g1,F,P,n⟩:=(o.same s).yN e
 obtain rfl:=n.qe I
 obtain ⟨b,ys,p,rfl,hb,rfl,hr⟩:=r
 have B:∀x G,xs=x::G->∃c f,x=.ref c/\H' c=some (.tup f):=fun x G ex=>by
  subst ex
  cases es with
  |nil=>exact absurd n.length (by simp)
  |cons d es =>
   obtain ⟨Z,q',R,Q,e1,e2,m,O⟩:=n
   cases e1
   rw[Of,M5] at t
   cases d with
   |tup ds=>obtain ⟨c,f,S,g,_⟩:=m;exact⟨c,f,S,g⟩
   |_=>exact absurd t.1 Mj
 have no:∀c∈b::p,c≠a0:=fun c g y=>by
  subst y
  rcases L6.mp g with w|w
  .subst w
   rw[F] at hb;cases hb
   cases u with
   |nil=>exact L rfl
   |cons r u =>
    obtain ⟨x,q,R,Q,rfl,_,m,O⟩:=hr
    obtain ⟨c,f,rfl,U⟩:=B x q rfl
    obtain ⟨c2,Y,fz,e1,e2,_⟩:=m
    cases e1
    rw[U] at e2;cases e2
  .obtain ⟨r,hm,e1⟩:=Cf hr c w
   rw[F] at e1;cases e1
   cases r with
   |nil=>exact J _ hm rfl
   |cons i0 r =>
    obtain ⟨c,f,ex,_⟩:=B _ _ rfl
    cases ex
 have ok:=o.zi a s (x:=dT u) (v:=.ref b) (fp:=b::p) ⟨b,ys,p,rfl,hb,rfl,hr⟩ (fun j hj c g=>by
  rw[Gc.mp hj,P]
  exact fun y=>no c g (Gc.mp y))
 exact k.nx (ok.sub fun j hj=>bT.mpr ⟨hj,fun y=>by rw[Gc] at y hj;exact T (hj.symm.trans y)⟩) M
end
end L3
namespace L3
open PySem L2
section
end
end L3
namespace L3
open PySem L2
section
end
end L3
namespace L3
open PySem
open L2 hiding D Rf Rfs Rp dI dT
section
variable {K:aad}{Γ:aac}
def Ll(i k:Nat)(δ:Dl)(P:DK):Prop:=∃ds y,δ[i]?=some (some (.tup ds))/\ds[k]?=some y/\P y
theorem xP{c:Type}{xs:List c}{k:Nat}{w:c}(h:xs[k]?=some w):atI xs (k:Int)=some w:=by
 have hl:k<xs.length:=(KE.mp h).1
 unfold atI
 rw[c0 (by omega) (by omega)]
 simpa using h
theorem Cg(i k:Nat)(h:i∈Γ:=by decide):EM K Γ [i] (tOp (yb K) (eT i) (tC (.int (k:Int)))) (Ll i k) :=
 ⟨fun δ P t f ⟨ds,y,e,c,q⟩=>⟨ds,y,e,c,f _ q⟩,fun {B0 fps δ s H Q} o q=>by
  obtain ⟨ds,y,e,c,q⟩:=q
  obtain ⟨v,g,a,xs,rfl,ha,r⟩:=o.val i _ e
  obtain ⟨w,j,m,p,sub,n⟩:=r.IE (o.own i h).1 c
  exact⟨.ref a,g,a,xs,k,w,rfl,rfl,by first|exact .inl ha|exact .inl (.inl ha)|exact ha,xP m,q w H j (Same.refl H) p ⟨n,fun b hb=>((o.own i h).2 b (sub b hb)).2,fun b hb=>.inr ⟨i,Gc.mpr rfl,sub b hb⟩⟩⟩⟩
def KJ(i:Nat)(δ:Dl)(P:List D->Prop):Prop:=∃x y z,δ[i]?=some (some (.tup [x,y,z]))/\P [y,z]
theorem yD(i:Nat)(h:i∈Γ:=by decide):AM K Γ [i] (cY (tOp (yb K) (eT i) (tC (.int 1))) (cY (tOp (yb K) (eT i) (tC (.int 2))) kP)) (KJ i) :=
 ⟨fun δ P M s ⟨x,y,z,e,q⟩=>⟨x,y,z,e,s _ q⟩,fun {B0 fps δ B H Q} o q=>by
  obtain ⟨x,y,z,e,q⟩:=q
  obtain ⟨v,g,a,xs,rfl,ha,r⟩:=o.val i _ e
  have own:=o.own i h
  obtain ⟨n,F,L,J,rfl,m,q0,r⟩:=r
  obtain ⟨v1,E,t,I,rfl,rfl,p,r⟩:=r
  obtain ⟨c,C,j,G,rfl,rfl,q2,r⟩:=r
  obtain ⟨rfl,rfl⟩:=r
  rw[m] at own
  obtain ⟨nd,mu⟩:=own
  have u:=(Mm.mp nd).2.1
  have f:SqT K H a [n,v1,c]:=by first|exact .inl ha|exact .inl (.inl ha)|exact ha
  refine⟨.ref a,g,a,_,1,v1,rfl,rfl,f,xP (k:=1) rfl,.ref a,g,a,_,2,c,rfl,rfl,f,xP (k:=2) rfl,q _ H _ (Same.refl H) ⟨v1,_,t,j++[],rfl,rfl,p,c,_,j,[],rfl,rfl,q2,rfl,rfl⟩ ⟨u,fun b hb=>(mu b (L1 _ hb)).2,fun b hb=>.inr ⟨i,Gc.mpr rfl,?_⟩⟩⟩
  rw[m];exact L1 _ hb⟩
end
end L3
namespace L3
open PySem L2
section
end
end L3
namespace L3
open PySem L2
section
end
end L3
namespace L2
open PySem PySem.Spec PyProof.Rows
def ItE(K:aad)(a:Addr):It :=
 ⟨fun i H=>∃xs x,SqL K H a xs/\xs[i]?=some x,
 fun i H v H'=>∃p x,v=.ref p/\H p=none/\H'=upd H p (.tup [.int i,x])/\∀xs,SqL K H a xs->xs[i]?=some x,
 fun i H=>∃xs,SqL K H a xs/\xs.length<=i⟩
def FN(a e it:Addr)(i:Nat)(h:Heap):Prop:=(∃old,IsEnum h e it i old)/\h.IsListIter it a i
theorem Dq{P:Program}{w:World}{K:aad}{O5:List Expr}{x1:Nat}{pos:Pos}(a e it:Addr):Turn P w K (.Tuple O5 x1 pos) (ItE K a) [e,it] e (FN a e it) where
 mem:=by simp
 obj:=fun i h st c f=>by
  obtain ⟨⟨old,g⟩,⟨o1,e1,c1,q1⟩⟩:=st
  simp only[L6,Mo,or_false] at f
  rcases f with rfl|rfl
  .exact⟨_,g,fun v z=>by cases z⟩
  .exact⟨_,e1,fun v z=>by rw[q1] at z;cases z⟩
 keep:=fun i h h' st k=>by
  obtain ⟨⟨old,g⟩,j⟩:=st
  exact⟨⟨old,k _ (by simp) _ g⟩,j.at fun o e=>k _ (by simp) o e⟩
 item:=by
  intro X M hw O f i p s Y H E I m st L
  subst M hw O
  obtain ⟨xs,x,y,R⟩:=L
  obtain ⟨RI,Q,G,T6⟩:=I.list y
  obtain ⟨u,hu,ru⟩:=Q.get R
  obtain ⟨⟨old,g⟩,j⟩:=st
  obtain ⟨oi,T,ci,_⟩:=id j
  have ne:e≠it:=c6 g T rfl ci (by decide)
  refine wpAny_pyNext_enum_item g j G.isList (x:=u) (by simpa using hu) ne fun S z1 t1 pr hsz J=>?_
  refine⟨.ref s.heap.objs.size,rfl,wpAny_letOwnedTupleGo_enum z1 fun h2 Z F=>?_⟩
  have U:e<s.heap.objs.size:=Heap.lt_size g
  have Zd:it<s.heap.objs.size:=Heap.lt_size T
  have pz:s.heap.objs.size≠e:=O0 U
  have hn:H s.heap.objs.size=none:=I.hok.fresh (Md _)
  have k2:∀c o,c∉[e,it]->s.heap.get? c=some o->h2.get? c=some o:=fun c o f q=>by
   simp only[L6,Mo,or_false,not_or] at f
   exact F.extBut c o f.1 (J c o f.1 f.2 q)
  have C:Same H (upd H s.heap.objs.size (.tup [.int i,x])):=fun c o q=>by rw[aG (aS q hn)];exact q
  refine⟨.ref s.heap.objs.size,upd H s.heap.objs.size (.tup [.int i,x]),?_,rfl,⟨s.heap.objs.size,x,rfl,hn,rfl,fun zs hz=>by rw[I.pw hz y];exact R⟩,⟨⟨_,Z⟩,t1.at fun o q=>F.extBut _ _ ne.symm q⟩,fun c f=>?_⟩
  .refine I.tf (t':=s.toks+1) m k2 (fun c o q n=>by rw[aG (Mr (Heap.lt_size q))];exact n) C fun c o q=>?_
   by_cases t:c=s.heap.objs.size
   .subst t
    rw[az] at q
    cases q
    exact⟨by simp only[L8,NR];rw[sizeLine_eq];decide,[.int i s.toks,u],.cons ⟨_,rfl⟩ (.cons ru .nil),⟨_,F.extBut _ _ pz pr,rfl,0,rfl⟩⟩
   .rw[aG t] at q
    refine (I.hok c o q).pF (fun d B hd q=>k2 d B (fun hm=>?_) q) (fun d q=>C d _ q) fun d ds q=>C d _ q
    have r:=(m d hm).1
    rcases hd with rfl|hd
    .rw[r] at q;cases q
    .rw[r] at hd;cases hd
  .have:=(m c f).1
   have t:c≠s.heap.objs.size:=by
    simp only[L6,Mo,or_false] at f
    rcases f with rfl|rfl
    .exact Mr U
    .exact Mr Zd
   rw[aG t];exact this
 done:=by
  intro X M hw O f i p s Y H E I m st L
  subst M hw O
  obtain ⟨xs,y,QR⟩:=L
  obtain ⟨RI,Q,G,T6⟩:=I.list y
  have l1:=Q.length
  obtain ⟨⟨old,g⟩,j⟩:=st
  refine wpAny_pyNext_enum_end (I.ok.hd f) g j G.isList (by simp;omega) fun S J=>⟨rfl,?_⟩
  have k2:∀c o,c∉[e,it]->s.heap.get? c=some o->S.get? c=some o:=fun c o f q=>by
   simp only[L6,Mo,or_false,not_or] at f
   exact J c o f.2 q
  refine I.tf (t':=s.toks) m k2 (fun _ _ _ n=>n) (Same.refl H) fun c o q=>?_
  refine (I.hok c o q).pF (fun d B hd q=>k2 d B (fun hm=>?_) q) (fun d q=>q) fun d ds q=>q
  have r:=(m d hm).1
  rcases hd with rfl|hd
  .rw[r] at q;cases q
  .rw[r] at hd;cases hd
 self:=fun _ _ _ _ _ st h=>let ⟨⟨_,z⟩,_⟩:=st;wpAny_pyIter_enum z h
section
variable {X:Cx}
def Gg(K:aad)(g:TA):TI:=fun f H R=>g f H fun vs c=>∃a,vs=[.ref a]/\(∃xs,SqL K c a xs)/\R (ItE K a) c
theorem Ia{U:List Expr}{v:Nat}{x:Pos}{a:Expr}{n:TA}{p pos:Pos}(L:Gl X "enumerate")(hm:X.mg "enumerate" = none)(ha:PA X [a] n)(J:starEach [a] X.env=[(false,eval a X.env)]:=by rfl) :
  PI X (.Tuple U v x) (.Call (.Name "enumerate" p) [a] [] pos) (Gg X.K n):=by
 intro f s m H R I h
 refine Call_ (gP I L hm boot_enumerate (MG (thn (ha pos f s m H _ I h) fun us g ⟨vs,j,i,B,C⟩=>?_) (by rw[J];rfl) (by rfl)))
 obtain ⟨l1,rfl,⟨xs,G⟩,q⟩:=C
 cases B with
 |cons z r =>
 cases r
 obtain rfl:_=Value.ref l1:=z
 obtain ⟨RI,R4,E,Z⟩:=i.list G
 refine call_enumerate_list E.isList fun h' o y hsz F=>?_
 have Y:Inv X f m j { g with heap:=h' }:=i.kept (t':=g.toks) F
 refine wpAny_pyIter_enum o ⟨_,_,FN l1 (g.heap.objs.size+1) g.heap.objs.size,ItE X.K l1,j,rfl,Y,Dq _ _ _,⟨⟨_,o⟩,y⟩,fun c t=>?_,q⟩
 simp only[L6,Mo,or_false] at t
 have u:g.heap.objs.size<=c:=by rcases t with rfl|rfl<;>first|exact Nat.le_add_right _ _|exact Md _
 obtain ⟨T,S,Q,P,O,M⟩:=i.Ie (H':=j) u (i.hok.fresh u)
 exact⟨T,S,Q,P,O,M⟩
theorem EY{K:aad}{m:List Expr}{f:Nat}{g:Pos}{a:Expr}{c:TA}{p pos:Pos}(h:X.K=K)(j:Gl X "enumerate")(hm:X.mg "enumerate" = none)(ha:PA X [a] c)(i:starEach [a] X.env=[(false,eval a X.env)]:=by rfl) :
  PI X (.Tuple m f g) (.Call (.Name "enumerate" p) [a] [] pos) (Gg K c):=by subst h;exact Ia j hm ha i
end
end L2
namespace L3
open PySem L2
section
variable {K:aad}{Γ:aac}{ta:TE}{da:DE}
def GU(c:DE)(δ:Dl)(P:List D->Prop):Prop:=c δ fun x=>asL x fun xs=>P (xs.mapIdx fun i d=>.tup [.int i,d])
theorem HE(ha:ES K Γ ta da):IT K Γ (Gg K (cY ta kP)) (GU da) :=
 ⟨fun δ P P' k h=>ha.mono _ _ _ (fun x z=>by
   obtain ⟨xs,e1,z⟩:=bH z;exact gg e1 (k _ z)) h,
 fun {B0 fps δ σ H R} o h=>ha.run o (ha.mono _ _ _ (fun x z v H1 F J E n1=>by
  obtain ⟨xs,ex,z⟩:=bH z
  obtain ⟨a,as,fa,rfl,Z,Zu,Wm⟩:=E.seq ex
  refine⟨a,rfl,⟨as,Z⟩,z (ItE K a) H1 F J n1 fun B sB X M=>?_⟩
  have Y:Rf K B x (.ref a) F:=E.mono (fun p q u e=>by rw[X p q];exact e) M
  obtain ⟨a',j,U,e1,s,G,_⟩:=Y.seq ex
  cases e1
  have n:∀{c:Addr}{t:List V}{g:Hp},SqL K B c t->Same B g->SqL K g c t:=fun h f=>f.seq h
  have la:=G.length
  have I:(xs.mapIdx fun i d=>D.tup [.int i,d]).length=xs.length:=List.length_mapIdx
  refine⟨fun {i g} f hi=>?_,fun {i g u H4 d} f O hd=>?_,fun {i g} f hi=>?_⟩
  .rw[I] at hi
   exact⟨j,j[i]'(by omega),n s f,gV _⟩
  .obtain ⟨p,m,rfl,q,rfl,T⟩:=O
   have L:=T j (n s f)
   obtain ⟨d1,r,e1,y,_⟩:=G.get' L
   rw[List.getElem?_mapIdx,e1] at hd
   cases hd
   have C:Same g (upd g p (.tup [.int i,m])):=Same.kj q
   refine⟨C,r,⟨p,_,rfl,az,.int i,[m],[],r,rfl,rfl,⟨rfl,rfl⟩,m,[],r,[],rfl,(MV _).symm,(y.same f).same C,rfl,rfl⟩,fun c S=>?_⟩
   obtain ⟨u,Q,_⟩:=y.dom c S;rw[Q];intro z;cases z
  .rw[I] at hi
   exact⟨j,n s f,by omega⟩) h)⟩
end
end L3
namespace L2
open PySem PySem.Spec PyProof.Rows
section
end
end L2
namespace L3
open PySem L2
section
end
end L3
namespace Tal
end Tal
namespace L2
open PySem PySem.Spec PyProof.Rows
section
variable {X:Cx}{k k':Nat}{f:Addr}{fd:FuncData}{ps:List Str}{sp:Sp}{x:Str}{st:Stmt}{e a b Pf iter:Expr}{es:List Expr}{t:TA}{te ta tb:TE}{p pos OP tp:Pos}{wi:TI}{scope:Scope}
theorem wcl(F:bE X.prog X.w X.K X.mg X.base CX0 k f fd ps sp)(hr:hV k' X.A)(E:FnAt X.K X.mg x st ps f fd)(ha:PA X (e::es) t)(c:k<=k':=by decide)(g:Gl X x:=by exact rfl)
  (i:(x == ("__debug__" : Str))=false:=by decide) (h:starEach (e::es) X.env=(false,eval e X.env)::starEach es X.env:=by rfl) (j:(backTo pos (starEach es X.env)).any (·.1)=false:=by rfl):PE X (.Call (.Name x p) (e::es) [] pos) (pk sp [] E0 t) :=
 jg F (hr.mono c) g E.mg E.fn.kp E.bd .nil tQ ha i h j
theorem wst(i:Nat)(j:X.N.Nodup)(h:PE X e te)(hi:X.N[i]?=some x:=by exact rfl)(c:Loc X.env.scope x:=by first|exact Or.inl rfl|exact Or.inr rfl)(f:swapsWith e (some (.Name x OP)) pos.line X.env=pure false:=by rfl)
  (g:X.fn x=true\/X.env.scope.names.lookup x=some .local:=by first|exact .inl rfl|exact .inr rfl|assumption):PS X (.Assign [.Name x OP] e pos) (lN te (gn i)):=ym j hi c h f g
theorem wpg(i:Nat)(g:X.N.Nodup)(hi:X.N[i]?=some x:=by exact rfl)(c:Loc X.env.scope x:=by first|exact Or.inl rfl|exact Or.inr rfl)
  (f:X.fn x=true\/X.env.scope.names.lookup x=some .local:=by first|exact .inl rfl|exact .inr rfl|assumption):PG X (.Name x pos) (gn i):=fU g hi c f
theorem wix(K:aad)(ha:PE X a ta)(hb:PE X b tb)(h:X.K=K:=by exact rfl)(c:yj b:=by exact fun _ _=>rfl):PE X (.Subscript a b pos) (tOp (xE K) ta tb):=IZ (FX h) ha hb c
theorem wit(K:aad)(ha:PE X a ta)(hb:PE X b tb)(h:X.K=K:=by exact rfl)(c:yj b:=by exact fun _ _=>rfl):PE X (.Subscript a b pos) (tOp (yb K) ta tb):=IZ (Hu h) ha hb c
theorem wil{c:Expr}(K:aad)(ha:PE X a ta)(h:X.K=K:=by exact rfl):PI X c a (C0 K ta):=FL h ha
theorem wln(K:aad)(hm:X.mg "len" = none)(ha:PE X a ta)(h:X.K=K:=by exact rfl)(f:Gl X "len":=by rfl)(c:starEach [a] X.env=(false,eval a X.env)::starEach [] X.env:=by rfl)(g:(backTo pos (starEach [] X.env)).any (·.1)=false:=by rfl) :
  PE X (.Call (.Name "len" p) [a] [] pos) (tCB (fun xs H Q=>∃p ys,xs=[.ref p]/\(SqL K H p ys\/SqT K H p ys)/\Q (.int ys.length) H) (cY ta kP)):=bF (Ec h) f hm PySem.boot_len (af ha ak c) (by decide) (by decide) c g
theorem wfo{f:List Stmt}{g:TG}{tb:TS}{c:Expr}(hi:PI X c iter wi)(j:PG X c g)(hb:PSs X f tb)(i:PassesOwn (model X.prog X.w) X.A X.env X.xe:=by exact PassesOwn.never)(m:X.calm=true:=by exact rfl)(h:∀x,foldedSetIterable iter X.env x=pure x:=by intro _;rfl):PS X (.For c iter f [] pos) (Hi wi g tb):=Fd i m hi j hb h
theorem wco(sc0:Scope)(x:Str)(cap:List Str)(idx:aac)(hi:PI X (.Name x tp) iter wi)(j:∀cs C fp s₀ H₀,PE (cxC X ([x]++cap) scope cs C fp s₀ H₀) Pf te)(h:Aw sc0 scope [x] cap=true:=by decide +kernel)(e:X.env.scope=sc0:=by exact rfl)(ci:idx.map (fun i=>X.N[i]?)=cap.map some:=by exact rfl)(nd:qZ ([x]++cap)=true:=by decide +kernel)
  (c:∀cs C fp s₀ H₀,Loc (cxC X ([x]++cap) scope cs C fp s₀ H₀).env.scope x:=by exact fun _ _ _ _ _=>by first|exact Or.inl rfl|exact Or.inr rfl)
  (g:∀cs C fp s₀ H₀,(cxC X ([x]++cap) scope cs C fp s₀ H₀).fn x=true\/(cxC X ([x]++cap) scope cs C fp s₀ H₀).env.scope.names.lookup x=some .local:=by exact fun _ _ _ _ _=>by first|exact .inl rfl|exact .inr rfl)
  (m:X.calm=true:=by rfl) (f:∀x,foldedSetIterable iter X.env x=pure x:=by intro _;rfl):PE X (.ListComp Pf [⟨.Name x tp,iter,[],0⟩] scope pos) (rJ wi (gn 0) te [x].length idx) :=
 An (tn:=[x]) (br.of h e ci) hi (ma.name (Nat.zero_lt_one)) (fun cs C fp s₀ H₀=>fU (i:=0) (bM nd) rfl (c cs C fp s₀ H₀) (g cs C fp s₀ H₀)) j m f
end
end L2
namespace L3
open PySem L2
def FK(d:DE)(δ:Dl)(P:DK):Prop:=d δ fun x=>(∃ns,x=.scr ns)/\P x
theorem ER.LS{K:aad}{c:aac}{t:TE}{d:DE}(h:ER K c t d):EM K c [] t (FK d):=⟨fun δ P f k q=>h.mono _ _ _ (fun x z=>⟨z.1,k x z.2⟩) q,fun o q=>h.run o (h.mono _ _ _ (fun x z v H' s r=>by
 obtain ⟨⟨ns,rfl⟩,z⟩:=z
 obtain ⟨fp,a,e1,e2,rfl⟩:=r
 exact z v H' [] s ⟨a,e1,e2,rfl⟩ Nw.nil) q)⟩
end L3
namespace L3
open PySem L2
section
variable {K:aad}{h:Heap}{mg:Str->Option Value}{x m q:Str}{st:Stmt}{ps:List Str}{f C M:Addr}{oc:Value}{od an:Option Addr}{osl:Array (Option Value)}{kV doc pm cdv ct:Value}
abbrev E2(x q:Str)(st:Stmt)(ps:List Str):Prop:=∀(kV doc pm:Value) (an:Option Addr) (cdv ct:Value) (us:List Value),us.length=ps.length->bindArgs (PySem.W.fnOf x q (gW st) (dZ st) (av st) .none kV doc pm an cdv ct) ⟨us,[]⟩=pure (ps.zip us)
theorem fnA(X:K.In h)(G:h.Ns mainGlobals mg)(a:PySem.W.nsIn K mainGlobals x=some (some (.ref f)))(l:K.lookup f=some ⟨oc,od,.func (PySem.W.fnOf x x (gW st) (dZ st) (av st) .none kV doc pm an cdv ct),osl⟩)(c:PySem.W.codeIn K cdv x=true)(k:PySem.W.keepIn K (.ref f)=true)(b:E2 x x st ps):∃f g,FnAt K mg x st ps f g :=
 ⟨f,_,mI l c k,MY X G a,(mI l c k).binds b⟩
theorem mtA(a:PySem.W.findIn K (.ref C) m=some (some (.ref f)))(i:PySem.W.isFn K (.ref f)=true)(l:K.lookup f=some ⟨oc,od,.func (PySem.W.fnOf m q (gW st) (dZ st) (av st) .none kV doc pm an cdv ct),osl⟩)(c:PySem.W.codeIn K cdv q=true)(k:PySem.W.keepIn K (.ref f)=true)(b:E2 m q st ps):∃f g,qR K C m q st ps f g :=
 ⟨f,_,mI l c k,⟨a,i,k⟩,(mI l c k).binds b⟩
theorem mkA(X:K.In h)(G:h.Ns mainGlobals mg)(e:PySem.W.nsIn K mainGlobals x=some (some (.ref C)))(g:PySem.W.makesIn K C=true)(a:PySem.W.findIn K (.ref C) "__init__" = some (some (.ref f)))(i:PySem.W.isFn K (.ref f)=true)(j:PySem.W.keepIn K (.ref C)=true)(l:K.lookup f=some ⟨oc,od,.func (PySem.W.fnOf "__init__" q (gW st) (dZ st) (av st) .none kV doc pm an cdv ct),osl⟩)(c:PySem.W.codeIn K cdv q=true)(k:PySem.W.keepIn K (.ref f)=true)(b:E2 "__init__" q st ps):∃f m,Bg K mg x C q st ps f m :=
 ⟨f,_,mI l c k,⟨g,a,i,j⟩,(mI l c k).binds b,MY X G e⟩
structure XC(K:aad)(C M:Addr):Prop where
 obj:∀base,K.In base->gi base C [M]
 exk:PySem.W.DR K C
variable {dd:Option Addr}{nm qn:Str}{bs:List Value}{ns:Addr}{hd:Bool}{sn:List Str}{sub:List Value}{ab:Bool}{col:Option Bool}{k0 k1 k2 k3 k5:Option Value}
theorem xoA(u:K.lookup C=some ⟨.type "type",dd,.cls ⟨nm,bs,.ref C::VB,ns,qn,hd,sn,sub,ab,col,false⟩,#[k0,k1,k2,k3,some (.builtin "ValueError.__new__"),k5]⟩)(v:PySem.W.excIn K C VB "ValueError.__new__" = true):∀base,K.In base->gi base C []:=fun _ hb=>gi.of_lookup (ups:=[]) hb u rfl v
theorem xcA(u:K.lookup C=some ⟨.type "type",dd,.cls ⟨nm,bs,.ref C::.ref M::VB,ns,qn,hd,sn,sub,ab,col,false⟩,#[k0,k1,k2,k3,some (.builtin "ValueError.__new__"),k5]⟩)(v:PySem.W.excIn K C VB "ValueError.__new__" = true)(ga:PySem.W.findIn K (.ref C) "__getattribute__" = some (some (.builtin "BaseException.__getattribute__")))(ge:PySem.W.findIn K (.ref C) "__getattr__" = some none)(cl:PySem.W.findIn K (.ref C) "__class__" = some (some (.builtin "object.__class__")))(ob:PySem.W.mroIn K C (.type "object")=some true)(be:PySem.W.mroIn K C (.type "BaseException")=some true):XC K C M :=
 ⟨fun _ hb=>gi.of_lookup (ups:=[M]) hb u rfl v,⟨ga,ge,cl,ob,be,by unfold PySem.W.clsIn;rw[u];rfl⟩⟩
end
end L3
namespace Mine
open PySem L3
open L2 hiding D Rf Rfs Rp dI dT
open PyProof.Rows hiding St
open L3.Fl hiding St
open L3.Rg hiding St
local macro_rules | `(tactic| walk_at "o") => `(tactic| first | exact Or.inl rfl | exact Or.inr rfl)
local macro_rules | `(tactic| walk_at "s") => `(tactic| exact ⟨rfl, rfl, rfl, by decide +kernel, rfl, by decide +kernel, by decide +kernel⟩)
local macro_rules | `(tactic| walk_at "v1") => `(tactic| simp only [HU,xF,GD,CH,BD,tR,oD,GU,AF,Fb,Ae,E9,AZ,FU,HB,Hb,HZ,JQ,Av,EA,zk,B9,HC,vIf,mx,vC,vOp,vUn,BX,EV,GW,yT,GL,Km,vOr,Kg,GZ,Bv,Dg,rV,F2,KO,JI,rY,JN,FV,Fn,BJ,zM,BS,CM,t5,yF,Ar,xg,EN,tF,zG,zo,j3,xl,vIs,BP,Ez,Cy,BM,Cr,CJ,GO,E3,EE,GH,El,Fm,Et,F7,F8,zZ,D.uZ,Ci,D.aQ,FF,zA,CF,wy,vS,vN,FH,yS,BW,Iw,yL,zr,vQ,v5,we,jn,ny,vSl,wA,wQ,uW,Fv,uM,ux,oE,tS,uq,IG,lp,FI,EH,KC,En,FC,v8,AH,uf,wX,tP,vM,Cm,wM,wa,wD,CU,F6,BO,D.toV,Option.some.injEq,forall_eq',C6,zU,E5,Bo,AX,FT,noX,FW,EC,E8,Em,zW,kill,List.foldl_nil,List.foldl_cons,List.set_cons_zero,List.set_cons_succ,List.getElem?_cons_zero,List.getElem?_cons_succ,List.getElem?_nil,nZ,zI,Bool.false_eq_true,Bool.not_false,Bool.not_true,if_true,if_false,ite_true,ite_false,true_and,and_true,List.length_cons,List.length_nil,decide_eq_true_eq,Bool.not_eq_true',decide_eq_false_iff_not,List.length_map,Bool.true_eq_false,eq_self,not_true_eq_false,not_false_eq_true,Int.reduceToNat,Int.reduceEq,Int.reduceLT,Int.reduceLE,Int.reducePow,Int.reduceAdd,Int.reduceMul,Int.reduceSub,Int.reduceNeg,Int.toNat_natCast])
local macro_rules | `(tactic| walk_at "vb1") => `(tactic| simp only [HU,xF,GD,CH,BD,tR,oD,GU,AF,Fb,Ae,E9,AZ,FU,HB,Hb,HZ,JQ,Av,EA,zk,B9,HC,vIf,mx,vC,vOp,vUn,BX,EV,GW,yT,GL,Km,vOr,Kg,GZ,Bv,Dg,rV,F2,KO,JI,rY,JN,FV,Fn,BJ,zM,BS,CM,t5,yF,Ar,xg,EN,tF,zG,zo,j3,xl,vIs,BP,Ez,Cy,BM,Cr,CJ,GO,E3,EE,GH,El,Fm,Et,F7,F8,zZ,D.uZ,Ci,D.aQ,FF,zA,CF,wy,vS,vN,FH,yS,BW,Iw,yL,zr,vQ,v5,we,jn,ny,vSl,wA,wQ,uW,Fv,uM,ux,oE,tS,uq,IG,lp,FI,EH,KC,En,FC,v8,AH,uf,wX,tP,vM,Cm,wM,wa,wD,CU,F6,BO,D.toV,Option.some.injEq,forall_eq',C6,zU,E5,Bo,AX,FT,noX,FW,EC,E8,Em,zW,kill,List.foldl_nil,List.foldl_cons,List.set_cons_zero,List.set_cons_succ,List.getElem?_cons_zero,List.getElem?_cons_succ,List.getElem?_nil,nZ,zI,Bool.false_eq_true,Bool.not_false,Bool.not_true,if_true,if_false,ite_true,ite_false,true_and,and_true,List.length_cons,List.length_nil,decide_eq_true_eq,Bool.not_eq_true',decide_eq_false_iff_not,List.length_map,Bool.true_eq_false,eq_self,not_true_eq_false,not_false_eq_true,Int.reduceToNat,Int.reduceEq,Int.reduceLT,Int.reduceLE,Int.reducePow,Int.reduceAdd,Int.reduceMul,Int.reduceSub,Int.reduceNeg,Int.toNat_natCast,kC,eQ,List.reduceReplicate,List.replicate_succ,List.replicate_zero,List.map_cons,List.map_nil,Option.getD_some,List.cons_append,List.nil_append,Nat.reduceAdd])
local macro_rules | `(tactic| walk_at "v") => `(tactic| try (walk_at "v1"))
local macro_rules | `(tactic| walk_at "vb") => `(tactic| try (walk_at "vb1"))
local macro_rules | `(tactic| walk_at "cd") => `(tactic| first | exact ⟨by decide,100,by decide,by decide⟩ | exact ⟨by omega,100,by omega,by decide⟩ | omega | decide | rfl | exact ⟨by decide,by decide,by decide⟩ | exact ⟨64,64,by omega,by omega,by decide⟩ | exact ⟨200,200,by omega,by omega,by decide⟩ | exact bN)
local macro_rules | `(tactic| walk_at "go") => `(tactic| repeat (first | (walk_at "v1") | ((with_reducible refine And.intro ?k1 ?_); (case k1 => walk_at "cd"))))
local macro_rules | `(tactic| walk_at "gb") => `(tactic| repeat (first | (walk_at "vb1") | ((with_reducible refine And.intro ?k1 ?_); (case k1 => walk_at "cd"))))
def top (i:Nat):Stmt:=PySem.Challenge.pw_evenmix_k45_whole_fates_and_swaps.main.body.getD i (.Pass ⟨0,0,0,0⟩)
def DF(i j:Nat):Stmt:=(match top i with|.ClassDef _ _ _ b _ _ _ _ _ _ _=>b|_=>[]).getD j (.Pass ⟨0,0,0,0⟩)
abbrev nI:Stmt:=top 8
abbrev qL:List Str:=["row"]
abbrev lg:List Str:=["row"]
theorem A7:aH qL lg (av nI):=by walk_at "s"
abbrev bG:Stmt:=top 9
abbrev iA:List Str:=["row"]
abbrev cA:List Str:=["row"]
theorem p8:aH iA cA (av bG):=by walk_at "s"
abbrev ff:Stmt:=top 10
abbrev j5:List Str:=["one","other"]
abbrev eS:List Str:=["one","other"]
theorem sT:aH j5 eS (av ff):=by walk_at "s"
abbrev jw:Stmt:=top 11
abbrev oP:List Str:=["one","other"]
abbrev j9:List Str:=["one","other"]
theorem yW:aH oP j9 (av jw):=by walk_at "s"
abbrev l7:Stmt:=top 12
abbrev ow:List Str:=["row","heads","head","number"]
abbrev jM:List Str:=["row"]
theorem iP:aH ow jM (av l7):=by walk_at "s"
abbrev dA:Stmt:=top 13
abbrev fW:List Str:=["one","other","above"]
abbrev cE:List Str:=["one","other"]
theorem jd:aH fW cE (av dA):=by walk_at "s"
abbrev lY:Stmt:=top 15
abbrev oI:List Str:=["number","many"]
abbrev j4:List Str:=["number","many"]
theorem z5:aH oI j4 (av lY):=by walk_at "s"
abbrev eJ:Stmt:=top 16
abbrev jD:List Str:=["table"]
abbrev eC:List Str:=["table"]
theorem sv:aH jD eC (av eJ):=by walk_at "s"
abbrev eN:Stmt:=top 17
abbrev jx:List Str:=["table"]
abbrev eA:List Str:=["table"]
theorem sR:aH jx eA (av eN):=by walk_at "s"
abbrev d8:Stmt:=top 18
abbrev gy:List Str:=["table"]
abbrev cR:List Str:=["table"]
theorem oF:aH gy cR (av d8):=by walk_at "s"
abbrev fg:Stmt:=top 19
abbrev ke:List Str:=["table"]
abbrev eL:List Str:=["table"]
theorem su:aH ke eL (av fg):=by walk_at "s"
abbrev iL:Stmt:=top 20
abbrev mS:List Str:=["table","place"]
abbrev iM:List Str:=["table","place"]
theorem xt:aH mS iM (av iL):=by walk_at "s"
abbrev fQ:Stmt:=top 22
abbrev i6:List Str:=["rows","columns","low","high"]
abbrev dC:List Str:=["rows","columns","low","high"]
theorem rM:aH i6 dC (av fQ):=by walk_at "s"
abbrev eI:Stmt:=top 23
abbrev kg:List Str:=["low","high"]
abbrev fm:List Str:=["low","high"]
theorem sP:aH kg fm (av eI):=by walk_at "s"
abbrev gQ:Stmt:=DF 24 0
abbrev j8:List Str:=["self","rows","columns","low","high"]
abbrev eh:List Str:=["self","rows","columns","low","high"]
theorem sS:aH j8 eh (av gQ):=by walk_at "s"
abbrev d7:Stmt:=DF 24 1
abbrev kF:List Str:=["self","reach","low#","high#"]
abbrev cN:List Str:=["self"]
theorem jT:aH kF cN (av d7):=by walk_at "s"
abbrev eE:Stmt:=DF 24 2
abbrev nj:List Str:=["self","way","goal","start","amount","step","row","low#","high#"]
abbrev eX:List Str:=["self","way"]
theorem cM:aH nj eX (av eE):=by walk_at "s"
abbrev fV:Stmt:=DF 24 3
abbrev iU:List Str:=["self","way","step","row","column"]
abbrev dB:List Str:=["self","way","step"]
theorem iy:aH iU dB (av fV):=by walk_at "s"
abbrev jk:Stmt:=DF 25 0
abbrev l5:List Str:=["self","filling","raising","lowering","layer","row","fresh"]
abbrev gu:List Str:=["self","filling"]
theorem cW:aH l5 gu (av jk):=by walk_at "s"
abbrev ku:Stmt:=DF 25 1
abbrev mz:List Str:=["self","cells","column","row"]
abbrev iH:List Str:=["self"]
theorem gC:aH mz iH (av ku):=by walk_at "s"
abbrev lM:Stmt:=top 26
abbrev qF:List Str:=["lesser","greater"]
abbrev lx:List Str:=["lesser","greater"]
theorem Bd:aH qF lx (av lM):=by walk_at "s"
abbrev p6:Stmt:=top 27
abbrev uy:List Str:=["layer","ways","reached","fresh","source","place"]
abbrev mJ:List Str:=["layer","ways","reached"]
theorem nO:aH uy mJ (av p6):=by walk_at "s"
abbrev cV:Stmt:=top 28
abbrev gw:List Str:=["columns","rooms","free"]
abbrev cT:List Str:=["columns","rooms"]
theorem jY:aH gw cT (av cV):=by walk_at "s"
abbrev k9:Stmt:=top 30
abbrev rm:List Str:=["sums","many"]
abbrev kZ:List Str:=["sums","many"]
theorem AG:aH rm kZ (av k9):=by walk_at "s"
abbrev c7:Stmt:=top 31
abbrev ir:List Str:=["sums","level"]
abbrev dm:List Str:=["sums","level"]
theorem oS:aH ir dm (av c7):=by walk_at "s"
abbrev kl:Stmt:=top 32
abbrev nh:List Str:=["rows","columns","many"]
abbrev iN:List Str:=["rows","columns"]
theorem pq:aH nh iN (av kl):=by walk_at "s"
abbrev gM:Stmt:=top 33
abbrev jG:List Str:=["rows","columns","left","table","number","row"]
abbrev eF:List Str:=["rows","columns"]
theorem cL:aH jG eF (av gM):=by walk_at "s"
abbrev fH:Stmt:=top 34
abbrev kL:List Str:=["places","many"]
abbrev fG:List Str:=["places","many"]
theorem uJ:aH kL fG (av fH):=by walk_at "s"
abbrev nM:Stmt:=top 36
abbrev qE:List Str:=["rows","columns","cell","noughts","ones","without","having"]
abbrev kX:List Str:=["rows","columns","cell"]
theorem jB:aH qE kX (av nM):=by walk_at "s"
abbrev gF:Stmt:=top 37
abbrev lR:List Str:=["rows","columns","number"]
abbrev gK:List Str:=["rows","columns","number"]
theorem vz:aH lR gK (av gF):=by walk_at "s"
abbrev iD:Stmt:=top 38
abbrev kT:List Str:=["table","cell","turned"]
abbrev fJ:List Str:=["table","cell"]
theorem mF:aH kT fJ (av iD):=by walk_at "s"
abbrev lT:Stmt:=top 40
abbrev om:List Str:=["table","swap","first","second"]
abbrev jS:List Str:=["table","swap"]
theorem mQ:aH om jS (av lT):=by walk_at "s"
abbrev kD:Stmt:=top 41
abbrev nk:List Str:=["table","swap","made"]
abbrev iI:List Str:=["table","swap"]
theorem qg:aH nk iI (av kD):=by walk_at "s"
abbrev fR:Stmt:=top 42
abbrev i8:List Str:=["one","other","table","swaps","ring","some"]
abbrev dF:List Str:=["one","other"]
theorem cz:aH i8 dF (av fR):=by walk_at "s"
abbrev gz:Stmt:=top 43
abbrev jy:List Str:=["table","swaps","swap"]
abbrev fh:List Str:=["table","swaps"]
theorem iY:aH jy fh (av gz):=by walk_at "s"
abbrev gv:Stmt:=top 44
abbrev kf:List Str:=["table","other","row","rows","columns","column","start"]
abbrev eU:List Str:=["table","other"]
theorem b8:aH kf eU (av gv):=by walk_at "s"
abbrev eW:Stmt:=top 45
abbrev j7:List Str:=["table","other"]
abbrev eR:List Str:=["table","other"]
theorem sr:aH j7 eR (av eW):=by walk_at "s"
abbrev jh:Stmt:=top 46
abbrev lZ:List Str:=["table","rows","columns","ahead","behind","last","place","swap"]
abbrev gT:List Str:=["table","rows","columns"]
theorem dJ:aH lZ gT (av jh):=by walk_at "s"
abbrev Aj:Stmt:=top 48
abbrev zX:List Str:=["_law_found"]
abbrev zT:List Str:=["_law_found"]
theorem HL:aH zX zT (av Aj):=by walk_at "s"
abbrev mf:Stmt:=top 49
abbrev ot:List Str:=["_law_script","_law_many","_law_found","_law_number","_law_cell","_law_k"]
abbrev jC:List Str:=["_law_script","_law_many"]
theorem eZ:aH ot jC (av mf):=by walk_at "s"
abbrev kq:Stmt:=top 50
abbrev mC:List Str:=["_law_cell"]
abbrev iE:List Str:=["_law_cell"]
theorem yl:aH mC iE (av kq):=by walk_at "s"
abbrev fZ:Stmt:=top 51
abbrev oj:List Str:=["_law_script","_law_deck_here","_law_high","_law_wide","_law_kind","_law_found","_law_k","_law_cell","_law_many","_law_at","_law_line","_law_spot"]
abbrev jL:List Str:=["_law_script","_law_deck_here"]
theorem bO:aH oj jL (av fZ):=by walk_at "s"
abbrev iw:Stmt:=top 52
abbrev oJ:List Str:=["_law_table","_law_columns","_law_j"]
abbrev jU:List Str:=["_law_table"]
theorem m7:aH oJ jU (av iw):=by walk_at "s"
abbrev nD:Stmt:=top 53
abbrev qK:List Str:=["_law_table","_law_swap","_law_i","_law_j","_law_k","_law_l"]
abbrev lA:List Str:=["_law_table","_law_swap"]
theorem jH:aH qK lA (av nD):=by walk_at "s"
abbrev fM:Stmt:=top 54
abbrev kO:List Str:=["_law_table","_law_swap","_law_found","_law_i","_law_j","_law_k","_law_l"]
abbrev fK:List Str:=["_law_table","_law_swap"]
theorem c9:aH kO fK (av fM):=by walk_at "s"
abbrev dw:Stmt:=top 55
abbrev l4:List Str:=["_law_one","_law_other","_law_swaps","_law_many","_law_mine","_law_theirs","_law_swap"]
abbrev gO:List Str:=["_law_one","_law_other"]
theorem cx:aH l4 gO (av dw):=by walk_at "s"
abbrev lX:Stmt:=top 56
abbrev oC:List Str:=["_law_told","_law_table","_law_row","_law_column","_law_kind"]
abbrev jA:List Str:=["_law_told","_law_table"]
theorem ko:aH oC jA (av lX):=by walk_at "s"
abbrev eB:Stmt:=top 57
abbrev mE:List Str:=["_law_script","_law_high","_law_wide","_law_table","_law_deck_here"]
abbrev iG:List Str:=["_law_script"]
theorem gX:aH mE iG (av eB):=by walk_at "s"
abbrev mH:Stmt:=top 58
abbrev E6:List Str:=["_law_script","_law_table","_law_places","_law_cells","_law_rows","_law_columns","_law_told","_law_place","_law_cell","_law_found","_law_swap","_law_row","_law_column","_law_kind"]
abbrev uU:List Str:=["_law_script"]
theorem fD:aH E6 uU (av mH):=by walk_at "s"
structure Txt(K:aad)(mg:Str->Option Value)(base:Heap):Prop where
 len_:mg "len" = none
 isinstance_:mg "isinstance" = none
 int_:mg "int" = none
 bool_:mg "bool" = none
 list_:mg "list" = none
 range_:mg "range" = none
 min_:mg "min" = none
 max_:mg "max" = none
 sum_:mg "sum" = none
 sorted_:mg "sorted" = none
 tuple_:mg "tuple" = none
 zip_:mg "zip" = none
 any_:mg "any" = none
 str_:mg "str" = none
 ValueError_:mg "ValueError" = none
 reversed_:mg "reversed" = none
 enumerate_:mg "enumerate" = none
 lam_:L3.EB K mg base
structure Cs where
 (MixError NotAlike NoSwap NoBounds NoPlace NoSums Filling Reach:Addr)
structure Fns(K:aad)(mg:Str->Option Value)(c:Cs):Prop where
 h_falling:∃f fd,FnAt K mg "falling" nI lg f fd
 h_falling_places:∃f fd,FnAt K mg "falling_places" bG cA f fd
 h_places_below:∃f fd,FnAt K mg "places_below" ff eS f fd
 h_less_row:∃f fd,FnAt K mg "less_row" jw j9 f fd
 h_heads_of:∃f fd,FnAt K mg "heads_of" l7 jM f fd
 h_first_head_above:∃f fd,FnAt K mg "first_head_above" dA cE f fd
 h_is_place:∃f fd,FnAt K mg "is_place" lY j4 f fd
 h_copied_table:∃f fd,FnAt K mg "copied_table" eJ eC f fd
 h_sums_of_rows:∃f fd,FnAt K mg "sums_of_rows" eN eA f fd
 h_sums_of_columns:∃f fd,FnAt K mg "sums_of_columns" d8 cR f fd
 h_turned_table:∃f fd,FnAt K mg "turned_table" fg eL f fd
 h_column_of:∃f fd,FnAt K mg "column_of" iL iM f fd
 h_table_between:∃f fd,FnAt K mg "table_between" fQ dC f fd
 h_check_bounds:∃f fd,FnAt K mg "check_bounds" eI fm f fd
 h_Filling_init:∃f fd,Bg K mg "Filling" c.Filling "Filling.__init__" gQ eh f fd
 h_Filling_outcome:∃f fd,qR K c.Filling "outcome" "Filling.outcome" d7 cN f fd
 h_Filling_pour:∃f fd,qR K c.Filling "pour" "Filling.pour" eE eX f fd
 h_Filling_slack:∃f fd,qR K c.Filling "slack" "Filling.slack" fV dB f fd
 h_Reach_init:∃f fd,Bg K mg "Reach" c.Reach "Reach.__init__" jk gu f fd
 h_Reach_way:∃f fd,qR K c.Reach "way" "Reach.way" ku iH f fd
 h_ways_up:∃f fd,FnAt K mg "ways_up" lM lx f fd
 h_spread:∃f fd,FnAt K mg "spread" p6 mJ f fd
 h_first_with_room:∃f fd,FnAt K mg "first_with_room" cV cT f fd
 h_heap_of:∃f fd,FnAt K mg "heap_of" k9 kZ f fd
 h_how_many_reach:∃f fd,FnAt K mg "how_many_reach" c7 dm f fd
 h_ones_with:∃f fd,FnAt K mg "ones_with" kl iN f fd
 h_filled_table:∃f fd,FnAt K mg "filled_table" gM eF f fd
 h_row_of_ones:∃f fd,FnAt K mg "row_of_ones" fH fG f fd
 h_fate_of:∃f fd,FnAt K mg "fate_of" nM kX f fd
 h_full_table:∃f fd,FnAt K mg "full_table" gF gK f fd
 h_turned_cell:∃f fd,FnAt K mg "turned_cell" iD fJ f fd
 h_can_swap:∃f fd,FnAt K mg "can_swap" lT jS f fd
 h_swap_made:∃f fd,FnAt K mg "swap_made" kD iI f fd
 h_swaps_between:∃f fd,FnAt K mg "swaps_between" fR dF f fd
 h_table_behind:∃f fd,FnAt K mg "table_behind" gz fh f fd
 h_ring_between:∃f fd,FnAt K mg "ring_between" gv eU f fd
 h_first_unlike:∃f fd,FnAt K mg "first_unlike" eW eR f fd
 h_ring_swaps:∃f fd,FnAt K mg "ring_swaps" jh gT f fd
 h_law_deck:∃f fd,FnAt K mg "_law_deck" mf jC f fd
 h_law_shape:∃f fd,FnAt K mg "_law_shape" kq iE f fd
 h_law_ones:∃f fd,FnAt K mg "_law_ones" fZ jL f fd
 h_law_sums:∃f fd,FnAt K mg "_law_sums" iw jU f fd
 h_law_can:∃f fd,FnAt K mg "_law_can" nD lA f fd
 h_law_swapped:∃f fd,FnAt K mg "_law_swapped" fM fK f fd
 h_law_walked:∃f fd,FnAt K mg "_law_walked" dw gO f fd
 h_law_kept:∃f fd,FnAt K mg "_law_kept" lX jA f fd
 h_law_drawn:∃f fd,FnAt K mg "_law_drawn" eB iG f fd
 h_law:∃f fd,FnAt K mg "law" mH uU f fd
structure Exs(K:aad)(mg:Str->Option Value)(base:Heap)(c:Cs):Prop where
 m_MixError:mg "MixError" = some (.ref c.MixError)
 m_NotAlike:mg "NotAlike" = some (.ref c.NotAlike)
 m_NoSwap:mg "NoSwap" = some (.ref c.NoSwap)
 m_NoBounds:mg "NoBounds" = some (.ref c.NoBounds)
 m_NoPlace:mg "NoPlace" = some (.ref c.NoPlace)
 m_NoSums:mg "NoSums" = some (.ref c.NoSums)
 m_Filling:mg "Filling" = some (.ref c.Filling)
 m_Reach:mg "Reach" = some (.ref c.Reach)
 i_Filling:Hj K c.Filling
 n_Filling_low:bW K c.Filling "low"
 n_Filling_high:bW K c.Filling "high"
 n_Filling_table:bW K c.Filling "table"
 n_Filling_wants:bW K c.Filling "wants"
 n_Filling_rooms:bW K c.Filling "rooms"
 i_Reach:Hj K c.Reach
 n_Reach_rows:bW K c.Reach "rows"
 n_Reach_columns:bW K c.Reach "columns"
 n_Reach_goal:bW K c.Reach "goal"
 o_MixError:gi base c.MixError []
 o_NoBounds:gi base c.NoBounds [c.MixError]
 k_NoBounds:PySem.W.DR K c.NoBounds
 o_NoPlace:gi base c.NoPlace [c.MixError]
 k_NoPlace:PySem.W.DR K c.NoPlace
 o_NoSums:gi base c.NoSums [c.MixError]
 k_NoSums:PySem.W.DR K c.NoSums
 o_NoSwap:gi base c.NoSwap [c.MixError]
 k_NoSwap:PySem.W.DR K c.NoSwap
 o_NotAlike:gi base c.NotAlike [c.MixError]
 k_NotAlike:PySem.W.DR K c.NotAlike
section
variable {P:Program}{w:World}{K:aad}{mg:Str->Option Value}{base:Heap}
def lh:DSp:=fun ds P=>∃ns,ds=[dI ns]/\ns.length<64/\P (dI (tM ns))
theorem yt:bt lh:=by
 intro xs P c k h
 unfold lh at h ⊢
 grind
theorem zK:∀ds P,lh ds P->ds.length=1:=by
 intro ds P h
 obtain ⟨_,e,_⟩:=h
 rw[e];rfl
theorem BB{c:Cs}{f:Addr}{g:FuncData}(F:FnAt K mg "falling" nI lg f g)(q:Fns K mg c)(T:Txt K mg base)(xs:Exs K mg base c):bE P w K mg base CX0 1 f g lg (spP K lh):=by
 refine F.fn.ok A7 (fun vs H Q E h=>aU zK h) (fun o A outer s H vs Q E hr h=>?_)
 refine⟨_,(aw (aI (DC (sF (K:=K) rfl) (by rfl) T.sorted_ boot_sorted (af (pv 0) ak) (Ca lH FO)))),bh (Γn:=[]) (N:=qL) (aJ (M:=[]) (xH (ai (ES.er (aa 0)) aq))) (fun ds P m=>?_) h⟩
 obtain ⟨ns,rfl,hl,n⟩:=m
 rw[show aL qL [dI ns]=[some (dI ns)] from rfl]
 walk_at "v"
 refine⟨hl,fun p i j=>?_⟩
 rw[tj i j]
 exact n
def df:DSp:=fun ds P=>∃ns:aab,ds=[dI ns]/\ns.length<64/\∀c:aab,c.Perm (lJ ns.length)->c.Pairwise (fun a b=>ns.getD b.toNat 0<=ns.getD a.toNat 0)->P (dI c)
theorem ja:bt df:=by
 intro xs P j k h
 obtain ⟨ns,e,i,h⟩:=h
 exact⟨ns,e,i,fun c g f=>k _ (h c g f)⟩
theorem oN:∀ds P,df ds P->ds.length=1:=by
 intro ds P h
 obtain ⟨_,e,_⟩:=h
 rw[e];rfl
theorem kH{c:Cs}{f:Addr}{j:FuncData}(F:FnAt K mg "falling_places" bG cA f j)(t:Fns K mg c)(T:Txt K mg base)(xs:Exs K mg base c):bE P w K mg base CX0 1 f j cA (spP K df):=by
 obtain ⟨c_,n,o,p⟩:=T.lam_.of F
 refine L3.Fun.okL F.fn n p8 (fun vs H Q E h=>aU oN h) (fun A outer s H vs Q E hr h=>?_)
 refine⟨_,(aw (aI (BF (K:=K) (i:=0) (cr:=s.heap.objs.size+1) rfl rfl rfl T.sorted_ rfl T.range_ (wln K T.len_ (pv 0)) (fun r H Q a xs e g q=>⟨_,e,_,_,rfl,.inl g,q⟩) rfl (Or.inr (Or.inl rfl)) rfl rfl (by have:=hr.dp;show _<_;exact Nat.lt_of_le_of_lt (Mx (Nat.le_add_right _ _) (Nat.le_add_right _ _)) this) rfl rfl o rfl rfl p (fun _ _ _ _=>rfl) rfl rfl (by decide +kernel) rfl rfl rfl (by decide) (by decide) (by decide)))),bh (Γn:=[]) (N:=iA) (aJ (M:=[]) (Bk 0)) (fun ds P g=>?_) h⟩
 obtain ⟨ns,rfl,hl,m⟩:=g
 rw[show aL iA [dI ns]=[some (dI ns)] from rfl]
 walk_at "v"
 exact⟨ns,rfl,hl,m⟩
def bp(one c:aab):aac:=(List.range one.length).filter fun p=>decide (one.getD p 0<c.getD p 0)
def bA:DSp:=fun ds P=>∃one c,ds=[dI one,dI c]/\one.length<=1000/\one.length=c.length/\P (dI ((bp one c).map fun (p:Nat)=>(p:Int)))
theorem bY:bt bA:=by
 intro xs P c k h
 unfold bA at h ⊢
 grind
theorem qX:∀ds P,bA ds P->ds.length=2:=by
 intro ds P h
 obtain ⟨_,_,e,_⟩:=h
 rw[e];rfl
theorem dE{c:Cs}{f:Addr}{m:FuncData}(F:FnAt K mg "places_below" ff eS f m)(u:Fns K mg c)(T:Txt K mg base)(xs:Exs K mg base c):bE P w K mg base CX0 1 f m eS (spP K bA):=by
 refine F.fn.ok sT (fun vs H Q E h=>aU qX h) (fun r A outer s H vs Q E hr h=>?_)
 refine⟨_,(aw (aI (oW rfl (br.of (sc0:=(av ff)) (tn:=["place"]) (cap:=["one","other"]) (idx:=[0,1]) (by decide +kernel) rfl rfl) (bw rfl T.range_ (af (wln K T.len_ (pv 0)) ak)) (ma.name (by decide)) (fun _ _ _ _ _=>fU (i:=0) (bM (l:=["place","one","other"]) (by decide +kernel)) rfl (by walk_at "o") (by first|exact .inl rfl|exact .inr rfl)) (fun _ _ _ _ _=>pI (aO nY (wix K (pv 1) (pv 0)) (wix K (pv 2) (pv 0)) (aW _))) (fun _ _ _ _ _=>(pv 0)) (by intro _;rfl)))),bh (Γn:=[]) (N:=j5) (aJ (M:=[]) (nG (cn (ai (EM.er (aR bJ (ai (ES.er (aa 0)) aq))) aq)) (aB 0) (aM (EM.er (ay kS (ES.er (aD (aa 1) (ES.er (aa 0)))) (ES.er (aD (aa 2) (ES.er (aa 0))))))) (ER.aQ (ES.er (aa 0))))) (fun ds P o=>?_) h⟩
 obtain ⟨one,j,rfl,hl,t,q⟩:=o
 rw[show aL j5 [dI one,dI j]=[some (dI one),some (dI j)] from rfl]
 walk_at "v"
 refine rh (lo:=0) (n:=one.length) (p:=fun p=>decide (one.getD p 0<j.getD p 0)) (g:=fun (p:Nat)=>.int (p:Int)) (fun R h=>?_) hl (fun i hi R h=>?_) ?_
 .walk_at "go";exact h
 .walk_at "gb"
  rw[MS]
  refine aP (by omega) (aP (by omega) ?_)
  walk_at "gb"
  split
  .rename_i c
   rw[decide_eq_true c] at h
   exact h
  .rename_i c
   rw[decide_eq_false c] at h
   exact h
 .rw[km];exact q
def lV(ns:aab):aab:=(List.range ns.length).map fun (i:Nat)=>Maj.gZ ns (i+1)
theorem mh{ns:aab}:(lV ns).length=ns.length:=by unfold lV;rw[mo,L9]
theorem wO{ns:aab}{i:Nat}(h:i<ns.length):(lV ns).getD i 0=Maj.gZ ns (i+1):=by
 unfold lV
 rw[dz,L4,MI h];rfl
def ip:DSp:=fun ds P=>∃ns,ds=[dI ns]/\ns.length<64/\P (dI (lV ns))
theorem n6:bt ip:=by
 intro xs P c k h
 unfold ip at h ⊢
 grind
theorem xn:∀ds P,ip ds P->ds.length=1:=by
 intro ds P h
 obtain ⟨_,e,_⟩:=h
 rw[e];rfl
theorem zh{c:Cs}{f:Addr}{m:FuncData}(F:FnAt K mg "heads_of" l7 jM f m)(o:Fns K mg c)(T:Txt K mg base)(xs:Exs K mg base c):bE P w K mg base CX0 2 f m jM (spP K ip):=by
 obtain ⟨B,C,n⟩:=o.h_falling
 have v:=BB (P:=P) (w:=w) n o T xs
 refine F.fn.ok iP (fun vs H Q E h=>aU xn h) (fun u A outer s H vs Q E hr h=>?_)
 refine⟨_,(aj (wst 1 iP.nd (bD ak)) (aj (wst 2 iP.nd ar) (aj (wfo (wil K (wcl v hr n (af (pv 0) ak))) (wpg 3 iP.nd) (aj (wst 2 iP.nd (aK cK (pv 2) (pv 3))) (aw (cH (ia Mp Mw Mv bQ (pv 1) (af (pv 2) ak)))))) (aw (aI (pv 1)))))),bh (Γn:=[1]) (N:=ow) (ax (ST.post (Γn:=[1]) (bV (M:=[]) 1 (bC aV))) (ax (ST.post (Γn:=[1]) (aN 2 (EM.es au))) (ax (dQ (bI (EM.es (aE (S:=lh) yt (ai (ES.er (aa 0)) aq)))) (aB 3) (ax (ST.post (Γn:=[1]) (aN 2 (EM.es (ay cJ (ES.er (aa 2)) (ES.er (aa 3)))))) (ST.post (Γn:=[1]) (bR (M:=[]) 1 (ER.aQ (ES.er (aa 2))))))) (aJ (M:=[1]) (ix 1))))) (fun ds P p=>?_) h⟩
 obtain ⟨ns,rfl,hl,q⟩:=p
 rw[show aL ow [dI ns]=[some (dI ns),none,none,none] from rfl]
 walk_at "go"
 refine⟨ns,rfl,hl,?_⟩
 walk_at "v"
 have x:=rQ ns
 refine cO (as:=tM ns) (f:=L3.D.int) (fun i δ=>∃g:Option D,δ=[some (dI ns),some (dI ((List.range i).map fun (j:Nat)=>Maj.gZ ns (j+1))),some (.int (Maj.gZ ns i)),g]) ⟨none,rfl⟩ ?_ ?_
 .rintro i a δ N e ⟨g,rfl⟩ r
  obtain ⟨z,y⟩:=KE.mp e
  have t:Maj.gZ ns i+a=Maj.gZ ns (i+1):=by
   unfold Maj.gZ
   rw[List.take_add_one,e,List.sum_append];simp
  walk_at "go"
  rw[t,qh]
  have er:(List.range (i+1)).map (fun (j:Nat)=>Maj.gZ ns (j+1))=(List.range i).map (fun (j:Nat)=>Maj.gZ ns (j+1))++[Maj.gZ ns (i+1)]:=by rw[Nq,Mf];rfl
  exact⟨by rw[L9];omega,r _ ⟨some (.int a),by rw[er]⟩⟩
 .rintro δ ⟨g,rfl⟩
  walk_at "v"
  rw[x]
  exact q
def JP(one c:aab):D:=match Maj.above one c with|[]=>.non|p::_=>.int ((p:Int)+1)
theorem Ab{one c:aab}(h:one.length=c.length):bp (lV c) (lV one)=Maj.above one c:=by
 unfold bp Maj.above
 rw[mh,h]
 refine List.filter_congr fun p f=>?_
 have:=Mh.mp f
 rw[wO (by omega),wO (by omega)]
def cB:DSp:=fun ds P=>∃one c,ds=[dI one,dI c]/\one.length<64/\one.length=c.length/\P (JP one c)
theorem mr:bt cB:=by
 intro xs P c k h
 unfold cB at h ⊢
 grind
theorem mU:∀ds P,cB ds P->ds.length=2:=by
 intro ds P h
 obtain ⟨_,_,e,_⟩:=h
 rw[e];rfl
theorem nW{c:Cs}{f:Addr}{o:FuncData}(F:FnAt K mg "first_head_above" dA cE f o)(j:Fns K mg c)(T:Txt K mg base)(xs:Exs K mg base c):bE P w K mg base CX0 3 f o cE (spP K cB):=by
 obtain ⟨y,B,r⟩:=j.h_places_below
 have v:=dE (P:=P) (w:=w) r j T xs
 obtain ⟨x,z,m⟩:=j.h_heads_of
 have q:=zh (P:=P) (w:=w) m j T xs
 refine F.fn.ok jd (fun vs H Q E h=>aU mU h) (fun u A outer s H vs Q E hr h=>?_)
 refine⟨_,(aj (wst 2 jd.nd (wcl v hr r (af (wcl q hr m (af (pv 1) ak)) (af (wcl q hr m (af (pv 0) ak)) ak)))) (aj (bZ (aO (BH hr.units) (pv 2) (bD ak) (aW _)) (aw (aI lQ)) aY) (aw (aI (aK cK (wix K (pv 2) ar) ar))))),bh (Γn:=[]) (N:=fW) (ax (ST.post (Γn:=[]) (aN 2 (EM.es (aE (S:=bA) bY (ai (EM.er (aE (S:=ip) n6 (ai (ES.er (aa 1)) aq))) (ai (EM.er (aE (S:=ip) n6 (ai (ES.er (aa 0)) aq))) aq)))))) (ax (cS (aM (EM.er (ay G6 (ES.er (aa 2)) (EM.er (bC aV))))) (aJ (M:=[]) lS) aZ) (aJ (M:=[]) (ay cJ (ES.er (aD (aa 2) (EM.er au))) (EM.er au))))) (fun ds P t=>?_) h⟩
 obtain ⟨one,g,rfl,hl,n,i⟩:=t
 rw[show aL fW [dI one,dI g]=[some (dI one),some (dI g),none] from rfl]
 walk_at "v"
 refine⟨g,rfl,by omega,⟨one,rfl,hl,?_⟩⟩
 refine⟨lV g,lV one,rfl,by rw[mh];omega,by rw[mh,mh,n],?_⟩
 rw[Ab n]
 unfold JP at i
 walk_at "go"
 refine fB (ys:=[]) ?_
 walk_at "v"
 cases e:Maj.above one g with
 |nil =>
  rw[e] at i
  rw[if_pos (by rfl)]
  exact i
 |cons p ps =>
  rw[e] at i
  rw[if_neg (by simp)]
  walk_at "v"
  rw[Mc,Mc]
  walk_at "v"
  exact i
def fY:DSp:=fun ds P=>∃one c:aab,ds=[dI one,dI c]/\one.length=c.length/\one.length<=1000/\P (dI ((List.range one.length).map fun (i:Nat)=>one.getD i 0 - c.getD i 0))
theorem kK:bt fY:=by
 intro xs P c k h
 unfold fY at h ⊢
 grind
theorem xR:∀ds P,fY ds P->ds.length=2:=by
 intro ds P h
 obtain ⟨_,_,e,_⟩:=h
 rw[e];rfl
theorem rW{c:Cs}{f:Addr}{m:FuncData}(F:FnAt K mg "less_row" jw j9 f m)(t:Fns K mg c)(T:Txt K mg base)(xs:Exs K mg base c):bE P w K mg base CX0 1 f m j9 (spP K fY):=by
 refine F.fn.ok yW (fun vs H Q E h=>aU xR h) (fun q A outer s H vs Q E hr h=>?_)
 refine⟨_,(aw (aI (wco (av jw) "place" ["one","other"] [0,1] (bw rfl T.range_ (af (wln K T.len_ (pv 0)) ak)) (fun _ _ _ _ _=>(aK og (wix K (pv 1) (pv 0)) (wix K (pv 2) (pv 0))))))),bh (Γn:=[]) (N:=oP) (aJ (M:=[]) (bx (cn (ai (EM.er (aR bJ (ai (ES.er (aa 0)) aq))) aq)) (aB 0) (ay cJ (ES.er (aD (aa 1) (ES.er (aa 0)))) (ES.er (aD (aa 2) (ES.er (aa 0))))))) (fun ds P o=>?_) h⟩
 obtain ⟨one,j,rfl,r,hl,p⟩:=o
 rw[show aL oP [dI one,dI j]=[some (dI one),some (dI j)] from rfl]
 walk_at "v"
 refine eY (lo:=0) (n:=one.length) (g:=fun (i:Nat)=>.int (one.getD i 0 - j.getD i 0)) (fun R h=>?_) hl (fun i hi R h=>?_) ?_
 .walk_at "go";exact h
 .walk_at "gb"
  rw[MS]
  refine aP (by omega) (aP (by omega) ?_)
  walk_at "gb"
  exact h
 .rw[km];exact p
def cX:DSp:=fun ds P=>∃x m,ds=[.int x,.int m]/\P (.bl (decide (0<=x/\x<m)))
theorem dG:bt cX:=by
 intro xs P c k h
 unfold cX at h ⊢
 grind
theorem xp:∀ds P,cX ds P->ds.length=2:=by
 intro ds P h
 obtain ⟨_,_,e,_⟩:=h
 rw[e];rfl
theorem si{c:Cs}{f:Addr}{i:FuncData}(F:FnAt K mg "is_place" lY j4 f i)(o:Fns K mg c)(T:Txt K mg base)(xs:Exs K mg base c):bE P w K mg base CX0 1 f i j4 (spP K cX):=by
 refine F.fn.ok z5 (fun vs H Q E h=>aU xp h) (fun n A outer s H vs Q E hr h=>?_)
 refine⟨_,(aw (aI (tH Ac nY ar (pv 0) (pv 1)))),bh (Γn:=[]) (N:=oI) (aJ (M:=[]) (jV kS kS (EM.er au) (ES.er (aa 0)) (ES.er (aa 1)))) (fun ds P j=>?_) h⟩
 obtain ⟨x,m,rfl,g⟩:=j
 rw[show aL oI [.int x,.int m]=[some (.int x),some (.int m)] from rfl]
 walk_at "v"
 split
 .rename_i c
  have e:decide (0<=x/\x<m)=decide (x<m):=by rw[Nr,decide_eq_true_eq,decide_eq_true_eq];exact⟨fun z=>z.2,fun z=>⟨c,z⟩⟩
  rw[e] at g
  exact g
 .rename_i c
  rw[decide_eq_false (fun z=>c z.1)] at g
  exact g
def cF:DSp:=fun ds P=>∃t,ds=[dT t]/\t.length<=1000/\P (dT t)
theorem gH:bt cF:=by
 intro xs P c k h
 unfold cF at h ⊢
 grind
theorem qM:∀ds P,cF ds P->ds.length=1:=by
 intro ds P h
 obtain ⟨_,e,_⟩:=h
 rw[e];rfl
theorem i5{c:Cs}{f:Addr}{g:FuncData}(F:FnAt K mg "copied_table" eJ eC f g)(n:Fns K mg c)(T:Txt K mg base)(xs:Exs K mg base c):bE P w K mg base CX0 1 f g eC (spP K cF):=by
 refine F.fn.ok sv (fun vs H Q E h=>aU qM h) (fun m A outer s H vs Q E hr h=>?_)
 refine⟨_,(aw (aI (wco (av eJ) "row" [] [] (wil K (pv 0)) (fun _ _ _ _ _=>(fo (eD (K:=K) rfl) (by rfl) T.list_ boot_list (af (pv 0) ak)))))),bh (Γn:=[]) (N:=jD) (aJ (M:=[]) (bx (bI (aa 0)) (aB 0) (aR mK (ai (ES.er (aa 0)) aq)))) (fun ds P i=>?_) h⟩
 obtain ⟨t,rfl,hl,j⟩:=i
 rw[show aL jD [dT t]=[some (dT t)] from rfl]
 walk_at "v"
 refine nK (t:=t) (fun R h=>h) hl (fun r hr R h=>by walk_at "gb";exact h) ?_
 exact j
def bX:DSp:=fun ds P=>∃t,ds=[dT t]/\t.length<=1000/\P (dI (t.map List.sum))
theorem dY:bt bX:=by
 intro xs P c k h
 unfold bX at h ⊢
 grind
theorem qP:∀ds P,bX ds P->ds.length=1:=by
 intro ds P h
 obtain ⟨_,e,_⟩:=h
 rw[e];rfl
theorem iV{c:Cs}{f:Addr}{i:FuncData}(F:FnAt K mg "sums_of_rows" eN eA f i)(o:Fns K mg c)(T:Txt K mg base)(xs:Exs K mg base c):bE P w K mg base CX0 1 f i eA (spP K bX):=by
 refine F.fn.ok sR (fun vs H Q E h=>aU qP h) (fun n A outer s H vs Q E hr h=>?_)
 refine⟨_,(aw (aI (wco (av eN) "row" [] [] (wil K (pv 0)) (fun _ _ _ _ _=>(bF (ft (K:=K) rfl rfl) (by rfl) T.sum_ boot_sum (af (pv 0) ak)))))),bh (Γn:=[]) (N:=jx) (aJ (M:=[]) (bx (bI (aa 0)) (aB 0) (aR qd (ai (ES.er (aa 0)) aq)))) (fun ds P j=>?_) h⟩
 obtain ⟨t,rfl,hl,m⟩:=j
 rw[show aL jx [dT t]=[some (dT t)] from rfl]
 walk_at "v"
 refine lB (t:=t) (g:=fun r=>.int r.sum) (fun R h=>h) hl (fun r hr R h=>?_) ?_
 .walk_at "gb"
  exact h
 .rw[km];exact m
def fj:DSp:=fun ds P=>∃(t:aaa) (j:Nat),ds=[dT t,.int j]/\t.length<=1000/\(∀r∈t,j<r.length)/\P (dI (gj t j))
theorem ka:bt fj:=by
 intro xs P c k h
 unfold fj at h ⊢
 grind
theorem vD:∀ds P,fj ds P->ds.length=2:=by
 intro ds P h
 obtain ⟨_,_,e,_⟩:=h
 rw[e];rfl
theorem pW{c:Cs}{f:Addr}{i:FuncData}(F:FnAt K mg "column_of" iL iM f i)(p:Fns K mg c)(T:Txt K mg base)(xs:Exs K mg base c):bE P w K mg base CX0 1 f i iM (spP K fj):=by
 refine F.fn.ok xt (fun vs H Q E h=>aU vD h) (fun o A outer s H vs Q E hr h=>?_)
 refine⟨_,(aw (aI (wco (av iL) "row" ["place"] [1] (wil K (pv 0)) (fun _ _ _ _ _=>(wix K (pv 0) (pv 1)))))),bh (Γn:=[]) (N:=mS) (aJ (M:=[]) (bx (bI (aa 0)) (aB 0) (ER.aQ (ES.er (aD (aa 0) (ES.er (aa 1))))))) (fun ds P m=>?_) h⟩
 obtain ⟨t,j,rfl,hl,hj,n⟩:=m
 rw[show aL mS [dT t,.int j]=[some (dT t),some (.int j)] from rfl]
 walk_at "v"
 refine lB (t:=t) (g:=fun r=>.int (r.getD j 0)) (fun R h=>h) hl (fun r hr R h=>?_) ?_
 .walk_at "gb"
  have:=hj r hr
  refine aP (by omega) ?_
  rw[L7]
  exact⟨rfl,h⟩
 .rw[km];exact n
def turned(m:Nat)(t:aaa):aaa:=(List.range m).map fun (j:Nat)=>gj t j
def cG:DSp:=fun ds P=>∃(t:aaa) (n m:Nat),ds=[dT t]/\bc n m t/\1<=n/\n<=1000/\m<=1000/\P (dT (turned m t))
theorem gJ:bt cG:=by
 intro xs P c k h
 unfold cG at h ⊢
 grind
theorem qS:∀ds P,cG ds P->ds.length=1:=by
 intro ds P h
 obtain ⟨_,_,_,e,_⟩:=h
 rw[e];rfl
theorem mi{c:Cs}{f:Addr}{p:FuncData}(F:FnAt K mg "turned_table" fg eL f p)(u:Fns K mg c)(T:Txt K mg base)(xs:Exs K mg base c):bE P w K mg base CX0 2 f p eL (spP K cG):=by
 obtain ⟨C,G,q⟩:=u.h_column_of
 have B:=pW (P:=P) (w:=w) q u T xs
 refine F.fn.ok su (fun vs H Q E h=>aU qS h) (fun z A outer s H vs Q E hr h=>?_)
 refine⟨_,(aw (aI (wco (av fg) "place" ["table"] [0] (bw rfl T.range_ (af (wln K T.len_ (wix K (pv 0) ar)) ak)) (fun _ _ _ _ _=>(wcl B hr q (af (pv 1) (af (pv 0) ak))))))),bh (Γn:=[]) (N:=ke) (aJ (M:=[]) (bx (cn (ai (EM.er (aR bJ (ai (ES.er (aD (aa 0) (EM.er au))) aq))) aq)) (aB 0) (aE (S:=fj) ka (ai (ES.er (aa 1)) (ai (ES.er (aa 0)) aq))))) (fun ds P v=>?_) h⟩
 obtain ⟨t,n,m,rfl,o,hn,I,hm,x⟩:=v
 rw[show aL ke [dT t]=[some (dT t)] from rfl]
 have ht:=o.1
 have y:=o.row (i:=0) (by omega)
 walk_at "v"
 refine eY (lo:=0) (n:=m) (g:=fun (j:Nat)=>dI (gj t j)) (fun R h=>?_) hm (fun j hj R h=>?_) ?_
 .walk_at "v"
  refine bK (by omega) ?_
  walk_at "v"
  rw[y]
  exact⟨by omega,h⟩
 .walk_at "gb"
  rw[MS]
  exact⟨t,j,rfl,by omega,fun r hr=>by rw[o.2 r hr];exact hj,h⟩
 .rw[AQ];exact x
def bL:DSp:=fun ds P=>∃(t:aaa) (n m:Nat),ds=[dT t]/\bc n m t/\1<=n/\n<=1000/\m<=1000/\P (dI ((turned m t).map List.sum))
theorem fi:bt bL:=by
 intro xs P c k h
 unfold bL at h ⊢
 grind
theorem nR:∀ds P,bL ds P->ds.length=1:=by
 intro ds P h
 obtain ⟨_,_,_,e,_⟩:=h
 rw[e];rfl
theorem jN{c:Cs}{f:Addr}{i:FuncData}(F:FnAt K mg "sums_of_columns" d8 cR f i)(g:Fns K mg c)(T:Txt K mg base)(xs:Exs K mg base c):bE P w K mg base CX0 3 f i cR (spP K bL):=by
 obtain ⟨B,G,o⟩:=g.h_sums_of_rows
 have x:=iV (P:=P) (w:=w) o g T xs
 obtain ⟨z,C,j⟩:=g.h_turned_table
 have y:=mi (P:=P) (w:=w) j g T xs
 refine F.fn.ok oF (fun vs H Q E h=>aU nR h) (fun u A outer s H vs Q E hr h=>?_)
 refine⟨_,(aw (aI (wcl x hr o (af (wcl y hr j (af (pv 0) ak)) ak)))),bh (Γn:=[]) (N:=gy) (aJ (M:=[]) (aE (S:=bX) dY (ai (EM.er (aE (S:=cG) gJ (ai (ES.er (aa 0)) aq))) aq))) (fun ds P p=>?_) h⟩
 obtain ⟨t,n,m,rfl,q,hn,v,hm,r⟩:=p
 rw[show aL gy [dT t]=[some (dT t)] from rfl]
 walk_at "v"
 refine⟨t,n,m,rfl,q,hn,v,hm,?_⟩
 exact⟨turned m t,rfl,by unfold turned;rw[mo,L9];exact hm,r⟩
def Low(n m:Nat)(low high:aaa):Prop:=∀i j,i<n->j<m->cellAt low i j<=cellAt high i j
theorem wJ{a b:aab}:bp a b=[]↔∀j,j<a.length->b.getD j 0<=a.getD j 0:=by
 unfold bp
 rw[NK]
 refine⟨fun h j hj=>?_,fun h j hj=>?_⟩
 .have:=h j (Mh.mpr hj)
  simp at this
  exact this
 .have:=h j (Mh.mp hj)
  simp
  exact this
def jQ(c:Cs):DSX:=fun ds P R=>∃(low high:aaa) (n m:Nat),ds=[dT low,dT high]/\bc n m low/\bc n m high/\n<=50/\m<=50/\(Low n m low high->P .non)/\(¬ Low n m low high->R c.NoBounds)
theorem p5{c:Cs}:iX (jQ c):=by
 intro xs P s R r k f h
 obtain ⟨a,b,n,m,e,q,p,o,j,i,g⟩:=h
 exact⟨a,b,n,m,e,q,p,o,j,fun z=>k _ (i z),fun z=>f _ (g z)⟩
theorem rH{c:Cs}:∀ds P R,jQ c ds P R->ds.length=2:=by
 intro ds P R h
 obtain ⟨_,_,_,_,e,_⟩:=h
 rw[e];rfl
theorem sU{c:Cs}{f:Addr}{u:FuncData}(F:FnAt K mg "check_bounds" eI fm f u)(x:Fns K mg c)(T:Txt K mg base)(xs:Exs K mg base c):bE P w K mg base (CXR P w) 2 f u fm (spX K (jQ c)):=by
 obtain ⟨U,X,v⟩:=x.h_places_below
 have I:=dE (P:=P) (w:=w) v x T xs
 refine F.fn.okX sP (fun vs H Q E h=>pH rH h) (fun G A outer s H vs Q E hr h=>?_)
 refine⟨_,(aj (bZ (PT.nox (gR (bF (D4 (K:=K) rfl rfl) (by rfl) T.any_ boot_any (af (wco (av eI) "row" ["low","high"] [0,1] (bw rfl T.range_ (af (wln K T.len_ (pv 0)) ak)) (fun _ _ _ _ _=>(sZ (oG hr.units) (wcl I hr v (af (wix K (pv 2) (pv 0)) (af (wix K (pv 1) (pv 0)) ak))) (bD ak) (aW _)))) ak)))) (aw (mO (xs.o_NoBounds.own xs.m_NoBounds) Ny rfl rfl oQ (af cw ak))) aY)
   aY),qm (Γn:=[]) (N:=kg) (fun R=>(iT (Ai (oH (EM.er (aR Kr (ai (EM.er (bx (cn (ai (EM.er (aR bJ (ai (ES.er (aa 0)) aq))) aq)) (aB 0) (ay tG (EM.er (aE (S:=bA) bY (ai (ES.er (aD (aa 2) (ES.er (aa 0)))) (ai (ES.er (aD (aa 1) (ES.er (aa 0)))) aq)))) (EM.er (bC aV))))) aq)))) (mZ (ai (EM.er cj) aq)) (ST.sx aZ)) (ST.sx aZ))) (fun ds P R y=>?_) h⟩
 obtain ⟨low,high,n,m,rfl,t,r,M,O,C,B⟩:=y
 rw[show aL kg [dT low,dT high]=[some (dT low),some (dT high)] from rfl]
 have l1:=t.1
 have l2:=r.1
 walk_at "go"
 refine eY (lo:=0) (n:=n) (g:=fun (i:Nat)=>.bl (decide (bp (rowAt high i) (rowAt low i)≠[]))) (fun R h=>?_) (by omega) (fun i hi R h=>?_) ?_
 .walk_at "go"
  rw[l1]
  exact h
 .walk_at "gb"
  rw[MS]
  have L:=t.row hi
  have J:=r.row hi
  refine bK (by omega) (bK (by omega) ?_)
  rw[L7]
  refine⟨_,_,rfl,by omega,by omega,?_⟩
  walk_at "gb"
  refine fB (xs:=(bp (rowAt high i) (rowAt low i)).map fun (p:Nat)=>(p:Int)) (ys:=[]) ?_
  have e:decide ((bp (rowAt high i) (rowAt low i)).map (fun (p:Nat)=>(p:Int))=[])=decide (bp (rowAt high i) (rowAt low i)=[]):=by
   rw[Nr,decide_eq_true_eq,decide_eq_true_eq,List.map_eq_nil_iff]
  rw[decide_not] at h
  rw[e]
  exact h
 rw[show (List.range n).map (fun (i:Nat)=>L3.D.bl (decide (bp (rowAt high i) (rowAt low i)≠[])))=((List.range n).map fun (i:Nat)=>decide (bp (rowAt high i) (rowAt low i)≠[])).map L3.D.bl by rw[Mz];rfl]
 walk_at "go"
 have key:(((List.range n).map fun (i:Nat)=>decide (bp (rowAt high i) (rowAt low i)≠[])).any id=true)↔¬ Low n m low high:=by
  rw[List.any_eq_true]
  refine⟨fun ⟨b,hb,e⟩ o=>?_,fun h=>?_⟩
  .obtain ⟨i,hi,rfl⟩:=Mb.mp hb
   have hi:=Mh.mp hi
   have e:bp (rowAt high i) (rowAt low i)≠[]:=by simpa using e
   exact e (wJ.mpr fun j hj=>o i j hi (by rw[r.row hi] at hj;exact hj))
  .refine M7 fun hn=>h fun i j hi hj=>?_
   have:bp (rowAt high i) (rowAt low i)=[]:=M7 fun z=>hn ⟨true,Mb.mpr ⟨i,Mh.mpr hi,decide_eq_true z⟩,rfl⟩
   exact wJ.mp this j (by rw[r.row hi];exact hj)
 by_cases o:Low n m low high
 .have e:((List.range n).map fun (i:Nat)=>decide (bp (rowAt high i) (rowAt low i)≠[])).any id=false:=by
   cases q:((List.range n).map fun (i:Nat)=>decide (bp (rowAt high i) (rowAt low i)≠[])).any id with
   |false=>rfl
   |true=>exact absurd o (key.mp q)
  rw[e]
  walk_at "go"
  exact C o
 .rw[key.mpr o]
  walk_at "go"
  exact B o
abbrev dN(rs:aac):D:=dI (rs.map fun (r:Nat)=>(r:Int))
abbrev nT(ws:List aac):aaa:=ws.map fun l=>l.map fun (x:Nat)=>(x:Int)
def upL(n:Nat)(a b:aaa):List aac:=(List.range n).map fun p=>bp (rowAt a p) (rowAt b p)
def jq:DSp:=fun ds P=>∃(a b:aaa) (n m:Nat),ds=[dT a,dT b]/\bc n m a/\bc n m b/\n<=50/\m<=50/\P (dT (nT (upL n a b)))
theorem pD:bt jq:=by
 intro xs P c k h
 unfold jq at h ⊢
 grind
theorem yA:∀ds P,jq ds P->ds.length=2:=by
 intro ds P h
 obtain ⟨_,_,_,_,e,_⟩:=h
 rw[e];rfl
theorem AJ{c:Cs}{f:Addr}{r:FuncData}(F:FnAt K mg "ways_up" lM lx f r)(u:Fns K mg c)(T:Txt K mg base)(xs:Exs K mg base c):bE P w K mg base CX0 2 f r lx (spP K jq):=by
 obtain ⟨J,L,t⟩:=u.h_places_below
 have z:=dE (P:=P) (w:=w) t u T xs
 refine F.fn.ok Bd (fun vs H Q E h=>aU yA h) (fun y A outer s H vs Q E hr h=>?_)
 refine⟨_,(aw (aI (wco (av lM) "place" ["lesser","greater"] [0,1] (bw rfl T.range_ (af (wln K T.len_ (pv 0)) ak)) (fun _ _ _ _ _=>(wcl z hr t (af (wix K (pv 1) (pv 0)) (af (wix K (pv 2) (pv 0)) ak))))))),bh (Γn:=[]) (N:=qF) (aJ (M:=[]) (bx (cn (ai (EM.er (aR bJ (ai (ES.er (aa 0)) aq))) aq)) (aB 0) (aE (S:=bA) bY (ai (ES.er (aD (aa 1) (ES.er (aa 0)))) (ai (ES.er (aD (aa 2) (ES.er (aa 0)))) aq))))) (fun ds P v=>?_) h⟩
 obtain ⟨a,b,n,m,rfl,q,o,G,I,j⟩:=v
 rw[show aL qF [dT a,dT b]=[some (dT a),some (dT b)] from rfl]
 have l1:=q.1
 have l2:=o.1
 walk_at "go"
 refine eY (lo:=0) (n:=n) (g:=fun (i:Nat)=>dN (bp (rowAt a i) (rowAt b i))) (fun R h=>?_) (by omega) (fun i hi R h=>?_) ?_
 .walk_at "go"
  rw[l1]
  exact h
 .walk_at "gb"
  rw[MS]
  have C:=q.row hi
  have B:=o.row hi
  refine bK (by omega) (bK (by omega) ?_)
  rw[L7]
  exact⟨_,_,rfl,by omega,by omega,h⟩
 unfold nT upL at j
 rw[Mz,show (dT ((List.range n).map ((fun l=>l.map fun (x:Nat)=>(x:Int)) ∘ fun p=>bp (rowAt a p) (rowAt b p))))=L3.D.lst ((List.range n).map fun (i:Nat)=>dN (bp (rowAt a i) (rowAt b i))) by show L3.D.lst (List.map dI _)=_;rw[Mz];rfl] at j
 exact j
def d9:DSp:=fun ds P=>∃(cs:aac) (r:aab),ds=[dN cs,dI r]/\cs.length<=100/\(∀c∈cs,c<r.length)/\(∀c∈cs,0<r.getD c 0->P (.int (c:Int)))/\((∀c∈cs,¬ 0<r.getD c 0)->P .non)
theorem mB:bt d9:=by
 intro xs P m k h
 obtain ⟨a,b,e,j,i,g,f⟩:=h
 exact⟨a,b,e,j,i,fun c z y=>k _ (g c z y),fun z=>k _ (f z)⟩
theorem nS:∀ds P,d9 ds P->ds.length=2:=by
 intro ds P h
 obtain ⟨_,_,e,_⟩:=h
 rw[e];rfl
theorem oA{c:Cs}{f:Addr}{j:FuncData}(F:FnAt K mg "first_with_room" cV cT f j)(B:Fns K mg c)(T:Txt K mg base)(xs:Exs K mg base c):bE P w K mg base CX0 1 f j cT (spP K d9):=by
 refine F.fn.ok jY (fun vs H Q E h=>aU nS h) (fun y A outer s H vs Q E hr h=>?_)
 refine⟨_,(aj (BR rfl (br.of (sc0:=(av cV)) (tn:=["column"]) (cap:=["rooms"]) (idx:=[1]) (by decide +kernel) rfl rfl) jY.nd rfl (by walk_at "o") (wil K (pv 0)) (ma.name (by decide)) (fun _ _ _ _ _=>fU (i:=0) (bM (l:=["column","rooms"]) (by decide +kernel)) rfl (by walk_at "o") (by first|exact .inl rfl|exact .inr rfl)) (fun _ _ _ _ _=>pI (aO Co (wix K (pv 1) (pv 0)) ar (aW _))) (fun _ _ _ _ _=>(pv 0))) (aw (aI (uX (aO (oG hr.units) (pv 2) (bD ak) (aW _)) (wix K (pv 2) ar) lQ)))),bh (Γn:=[]) (N:=gw) (ax (ST.post (Γn:=[]) (aN 2 (EM.es (nG (bI (aa 0)) (aB 0) (aM (EM.er (ay kS (ES.er (aD (aa 1) (ES.er (aa 0)))) (EM.er au)))) (ER.aQ (ES.er (aa 0))))))) (aJ (M:=[]) (Fq (aM (EM.er (ay tG (ES.er (aa 2)) (EM.er (bC aV))))) (ER.aQ (ES.er (aD (aa 2) (EM.er au)))) lS))) (fun ds P o=>?_) h⟩
 obtain ⟨cs,r,rfl,hl,hr,t,u⟩:=o
 rw[show aL gw [dN cs,dI r]=[some (dN cs),some (dI r),none] from rfl]
 walk_at "go"
 refine oU (as:=cs) (f:=fun (c:Nat)=>.int (c:Int)) (p:=fun c=>decide (0<r.getD c 0)) (g:=fun (c:Nat)=>.int (c:Int)) (fun R h=>?_) (by omega) (fun i hi R h=>?_) ?_
 .walk_at "go"
  rw[Mz] at *
  exact h
 .walk_at "gb"
  have:=hr i hi
  refine aP (by omega) ?_
  rw[L7]
  walk_at "gb"
  by_cases z:0<r.getD i 0
  .rw[if_pos z]
   rw[decide_eq_true z] at h
   exact h
  .rw[if_neg z]
   rw[decide_eq_false z] at h
   exact h
 cases e:cs.filter (fun c=>decide (0<r.getD c 0)) with
 |nil =>
  walk_at "go"
  refine fB (xs:=[]) (ys:=[]) ?_
  walk_at "go"
  refine u fun c n z=>?_
  rw[NK] at e
  exact e c n (by simpa using z)
 |cons q l =>
  have m:q∈cs.filter (fun c=>decide (0<r.getD c 0)):=by rw[e];exact ox
  obtain ⟨x,v⟩:=MP.mp m
  rw[show L3.D.lst ((q::l).map fun (c:Nat)=>L3.D.int (c:Int))=dI ((q::l).map fun (c:Nat)=>(c:Int)) by show _=L3.D.lst (List.map L3.D.int _);rw[Mz];rfl]
  walk_at "go"
  refine fB (ys:=[]) ?_
  rw[decide_eq_false (by simp)]
  walk_at "go"
  refine aP (by simp only[Mc,L8];omega) ⟨rfl,?_⟩
  exact t q x (of_decide_eq_true v)
abbrev ki(p:Nat × Nat):D:=.tup [.int (p.1:Int),.int (p.2:Int)]
abbrev y7(c:Cs)(low high t:aaa)(w r:aab):D:=.ins c.Filling ["low","high","table","wants","rooms"] [dT low,dT high,dT t,dI w,dI r]
abbrev vx(c:Cs)(al ah:Addr)(t:aaa)(w r:aab):D:=.ins c.Filling ["low","high","table","wants","rooms"] [.raw (.ref al),.raw (.ref ah),dT t,dI w,dI r]
theorem md{ps:List (Nat × Nat)}{k:Nat}{p:Nat × Nat}{P:DK}(e:ps[k]?=some p)(h:P (ki p)):asO (atI (ps.map ki) (k:Int)) P:=by
 have hl:=(KE.mp e).1
 refine (yq ?_).mpr h
 unfold atI
 rw[c0 (by omega) (by rw[mo];omega),L7]
 show (ps.map ki)[k]?=_
 rw[L4,e];rfl
def iR(c:Cs):DSp:=fun ds P=>∃(low high t:aaa) (w r:aab) (n m k:Nat) (cs:List (Nat × Nat)) (p:Nat × Nat),ds=[y7 c low high t w r,.lst (cs.map ki),.int (k:Int)]/\bc n m low/\bc n m high/\bc n m t/\cs[k]?=some p/\p.1<n/\p.2<m/\P (.int (if k % 2=0 then cellAt high p.1 p.2 - cellAt t p.1 p.2 else cellAt t p.1 p.2 - cellAt low p.1 p.2))
theorem oq{c:Cs}:bt (iR c):=by
 intro xs P x k h
 obtain ⟨a1,a2,u,t,s,r,q,p,o,v,e,n,m,j,i,g,f,h⟩:=h
 exact⟨a1,a2,u,t,s,r,q,p,o,v,e,n,m,j,i,g,f,k _ h⟩
theorem pj{c:Cs}:∀ds P,iR c ds P->ds.length=3:=by
 intro ds P h
 obtain ⟨_,_,_,_,_,_,_,_,_,_,e,_⟩:=h
 rw[e];rfl
theorem qN{c:Cs}{f:Addr}{j:FuncData}(F:qR K c.Filling "slack" "Filling.slack" fV dB f j)(B:Fns K mg c)(T:Txt K mg base)(xs:Exs K mg base c):bE P w K mg base CX0 1 f j dB (spP K (iR c)):=by
 refine F.fn.ok iy (fun vs H Q E h=>aU pj h) (fun v A outer s H vs Q E hr h=>?_)
 refine⟨_,(aj (wst 3 iy.nd (wit K (wix K (pv 1) (pv 2)) ar)) (aj (wst 4 iy.nd (wit K (wix K (pv 1) (pv 2)) ar)) (aj (bZ (aO i9 (aK bS (pv 2) ar) ar (aW _)) (aw (aI (aK og (wix K (wix K (aX (K:=K) rfl (pv 0) rfl) (pv 3)) (pv 4)) (wix K (wix K (aX (K:=K) rfl (pv 0) rfl) (pv 3)) (pv 4))))) aY) (aw (aI (aK og (wix K (wix K (aX (K:=K) rfl (pv 0) rfl) (pv 3)) (pv 4)) (wix K (wix K (aX (K:=K) rfl (pv 0) rfl) (pv 3)) (pv 4)))))))),bh (Γn:=[]) (N:=iU) (ax (ST.post (Γn:=[]) (aN 3 (bb (aD (aa 1) (ES.er (aa 2))) (EM.er au)))) (ax (ST.post (Γn:=[]) (aN 4 (bb (aD (aa 1) (ES.er (aa 2))) (EM.er au)))) (ax (cS (aM (EM.er (ay nU (EM.er (ay aT (ES.er (aa 2)) (EM.er au))) (EM.er au)))) (aJ (M:=[]) (ay cJ (ES.er (aD (aD (cf ["low","high","table","wants","rooms"] 1 xs.i_Filling.cl xs.n_Filling_high (aa 0)) (ES.er (aa 3))) (ES.er (aa 4)))) (ES.er (aD (aD (cf ["low","high","table","wants","rooms"] 2 xs.i_Filling.cl xs.n_Filling_table (aa 0)) (ES.er (aa 3))) (ES.er (aa 4)))))) aZ) (aJ (M:=[]) (ay cJ (ES.er (aD (aD (cf ["low","high","table","wants","rooms"] 2 xs.i_Filling.cl xs.n_Filling_table (aa 0)) (ES.er (aa 3))) (ES.er (aa 4)))) (ES.er (aD (aD (cf ["low","high","table","wants","rooms"] 0 xs.i_Filling.cl xs.n_Filling_low (aa 0)) (ES.er (aa 3))) (ES.er (aa 4))))))))) (fun ds P o=>?_) h⟩
 obtain ⟨low,high,t,w,r,n,m,k,cs,p,rfl,q,u,i,e,y,x,g⟩:=o
 rw[show aL iU [y7 c low high t w r,.lst (cs.map ki),.int (k:Int)]=[some (y7 c low high t w r),some (.lst (cs.map ki)),some (.int (k:Int)),none,none] from rfl]
 walk_at "go"
 refine md e ?_
 walk_at "go"
 refine md e ?_
 walk_at "go"
 by_cases z:k % 2=0
 .rw[if_pos (by omega)]
  rw[if_pos z] at g
  refine fk u (by omega) (by omega) ?_
  rw[L7,L7]
  refine fk i (by omega) (by omega) ?_
  rw[L7,L7]
  exact g
 .rw[if_neg (by omega)]
  rw[if_neg z] at g
  refine fk i (by omega) (by omega) ?_
  rw[L7,L7]
  refine fk q (by omega) (by omega) ?_
  rw[L7,L7]
  exact g
open L3.Fl in
def t4:DSI:=fun ds P=>∃(ls:aac) (ws:List aac) (as:List (Nat × Option Nat)) (B:Nat),ds=[dN ls,dT (nT ws),.dic (kA as)]/\B<=50/\(∀l∈ls,l<ws.length)/\(∀v∈ws,v.length<=50/\∀p∈v,p<B)/\(kys as).Nodup/\(∀p∈kys as,p<B) /\
 ∀Nj:List (Nat × Nat),(kys as++Nj.map Prod.fst).Nodup->(∀p∈Nj,p.2∈ls/\p.1∈ws.getD p.2 [])->(∀s∈ls,∀p∈ws.getD s [],p∈kys as++Nj.map Prod.fst)->P (dN (Nj.map Prod.fst)) (.dic (kA (as++nw Nj)))
theorem rO:Ep t4:=by
 intro xs P s k h
 obtain ⟨a1,a2,q,p,e,o,n,m,j,i,h⟩:=h
 exact⟨a1,a2,q,p,e,o,n,m,j,i,fun r g f c=>k _ _ (h r g f c)⟩
theorem uv:∀ds P,t4 ds P->ds.length=3:=by
 intro ds P h
 obtain ⟨_,_,_,_,e,_⟩:=h
 rw[e];rfl
theorem DH{c:Cs}{f:Addr}{U:FuncData}(F:FnAt K mg "spread" p6 mJ f U)(A_:Fns K mg c)(T:Txt K mg base)(xs:Exs K mg base c):bE P w K mg base CX0 1 f U mJ (spI K 2 t4):=by
 refine F.fn.ok nO (fun vs H Q E h=>Ip uv h) (fun cdv A outer s H vs Q E hr h=>?_)
 refine⟨_,(aj (wst 3 nO.nd (bD ak)) (aj (wfo (wil K (pv 0)) (wpg 4 nO.nd) (aw (wfo (wil K (wix K (pv 1) (pv 4))) (wpg 5 nO.nd) (aw (bZ (KZ (DL (zQ hr) (pv 5) (pv 2)) (by with_unfolding_all rfl)) (aj (CI (zQ hr) (pv 2) (pv 5) (pv 4) rfl) (aw (cH (ia Mp Mw Mv bQ (pv 3) (af (pv 5) ak))))) aY))))) (aw (aI (pv 3))))),IK (Γn:=[3,2]) (N:=uy) (p:=2) (ax (ST.post (Γn:=[3,2]) (bV (M:=[]) 3 (bC aV))) (ax (dQ (bI (aa 0)) (aB 4) (dQ (bI (aD (aa 1) (ES.er (aa 4)))) (aB 5) (cS (oH (EM.er (Dz (ES.er (aa 5)) (pf 2)))) (ax (Kd 2 (E4 2 (ES.er (aa 5)) (ES.er (aa 4)))) (ST.post (Γn:=[3,2]) (bR (M:=[]) 3 (ER.aQ (ES.er (aa 5)))))) aZ))) (aJ (M:=[3]) (ix 3)))) (fun ds P a x hS u=>?_) (by decide) (fun ds P h=>by have:=uv ds P h;omega) h⟩
 obtain ⟨ls,ws,as,B,rfl,hB,hl,hw,na,ba,hP⟩:=hS
 cases u
 simp only[List.set_cons_zero,List.set_cons_succ]
 rw[show aL uy [dN ls,dT (nT ws),.pin a (.dic (L3.Fl.kA as))]=[some (dN ls),some (dT (nT ws)),some (.pin a (.dic (L3.Fl.kA as))),none,none,none] from rfl]
 walk_at "go"
 have lw:(nT ws).length=ws.length:=by unfold nT;rw[mo]
 have le:∀g:List (Nat × Nat),(kys as++g.map Prod.fst).Nodup->(∀p∈g,p.2∈ls/\p.1∈ws.getD p.2 [])->(kA (as++nw g)).length<=50/\g.length<=50:=fun g h1 h2=>by
  have:=jR (B:=B) h1 fun q j=>by
   rcases Ma.mp j with z|z
   .exact ba q z
   .obtain ⟨p,t,rfl⟩:=Mb.mp z
    obtain ⟨k1,k2⟩:=h2 p t
    have Z:=hl _ k1
    refine (hw (ws.getD p.2 []) ?_).2 _ k2
    rw[dz,gV Z]
    exact MK Z
  rw[Mg,mo,mo] at this
  refine⟨?_,by omega⟩
  unfold kA nw
  rw[mo,Mg,mo];omega
 rw[show List.map L3.D.int (List.map (fun (r:Nat)=>(r:Int)) ls)=ls.map (fun (r:Nat)=>L3.D.int (r:Int)) by rw[Mz];rfl]
 refine cO (as:=ls) (f:=fun (r:Nat)=>L3.D.int (r:Int)) (fun i δ=>∃(g:List (Nat × Nat)) (O m:Option D),δ=[some (dN ls),some (dT (nT ws)),some (L3.D.pin a (L3.D.dic (kA (as++nw g)))),some (dN (g.map Prod.fst)),O,m]/\(kys as++g.map Prod.fst).Nodup/\(∀p∈g,p.2∈ls/\p.1∈ws.getD p.2 [])/\∀s∈ls.take i,∀p∈ws.getD s [],p∈kys as++g.map Prod.fst) ⟨[],none,none,by simp [nw],by simpa using na,fun p h=>(nomatch h),fun s h=>by simp at h⟩ ?_ ?_
 .rintro i s δ N e ⟨g,O,m,rfl,nd,hn,n⟩ hN
  have G:s∈ls:=MJ e
  have J:=hl s G
  have ew:rowAt (nT ws) s=(ws.getD s []).map fun (x:Nat)=>(x:Int):=by
   unfold rowAt nT
   rw[dz,L4,gV J,dz,gV J];rfl
  obtain ⟨v,C⟩:∃v,ws.getD s []=v:=⟨_,rfl⟩
  have vin:v∈ws:=by rw[<- C,dz,gV J];exact MK J
  walk_at "go"
  refine bK (by omega) ?_
  rw[L7,ew,C]
  walk_at "go"
  rw[show List.map L3.D.int (List.map (fun (r:Nat)=>(r:Int)) v)=v.map (fun (r:Nat)=>L3.D.int (r:Int)) by rw[Mz];rfl]
  refine cO (as:=v) (f:=fun (r:Nat)=>L3.D.int (r:Int)) (fun k δ=>∃(g:List (Nat × Nat)) (m:Option D),δ=[some (dN ls),some (dT (nT ws)),some (L3.D.pin a (L3.D.dic (kA (as++nw g)))),some (dN (g.map Prod.fst)),some (.int (s:Int)),m]/\(kys as++g.map Prod.fst).Nodup/\(∀p∈g,p.2∈ls/\p.1∈ws.getD p.2 [])/\(∀s∈ls.take i,∀p∈ws.getD s [],p∈kys as++g.map Prod.fst)/\∀p∈v.take k,p∈kys as++g.map Prod.fst) ⟨g,m,rfl,nd,hn,n,fun p h=>by simp at h⟩ ?_ ?_
  .rintro k p δ N' X ⟨g,m,rfl,nd,hn,n,I⟩ Y
   have t:p∈v:=MJ X
   obtain ⟨l1,l2⟩:=le g nd hn
   have R:∀q,q∈v.take (k+1)->q∈v.take k\/q=p:=fun q j=>by
    rw[List.take_succ,X] at j
    rcases Ma.mp j with z|z
    .exact .inl z
    .exact .inr (by simpa using z)
   have S:kys (as++nw g)=kys as++g.map Prod.fst:=by rw[cI,fX]
   walk_at "go"
   rw[Li,S]
   by_cases hi:p∈kys as++g.map Prod.fst
   .rw[decide_eq_true hi]
    walk_at "go"
    refine Y _ ⟨g,_,rfl,nd,hn,n,fun q j=>?_⟩
    rcases R q j with z|z
    .exact I q z
    .rw[z];exact hi
   .rw[decide_eq_false hi]
    walk_at "go"
    have ep:putK (kA (as++nw g)) (.inl (p:Int)) (.int (s:Int))=kA (as++nw (g++[(p,s)])):=by
     have:=GF (as:=as++nw g) (c:=p) (o:=some s) (by rw[S];exact hi)
     rw[show oV (some s)=V.int (s:Int) from rfl] at this
     rw[this]
     unfold nw
     rw[Mf,<- MW];rfl
    rw[ep,qh]
    have ef:(g.map Prod.fst).map (fun (r:Nat)=>(r:Int))++[(p:Int)]=((g++[(p,s)]).map Prod.fst).map fun (r:Nat)=>(r:Int):=by
     rw[Mf,Mf];rfl
    rw[ef]
    refine Y _ ⟨g++[(p,s)],_,rfl,?_,fun q j=>?_,fun s' L q j=>?_,fun q j=>?_⟩
    .rw[Mf,<- MW]
     refine Mm.mpr ⟨nd,by simp,fun x u y hy z=>?_⟩
     have:y=p:=by simpa using hy
     rw[z,this] at u;exact hi u
    .rcases Ma.mp j with z|z
     .exact hn q z
     .cases Gc.mp z
      exact⟨G,by rw[C];exact t⟩
    .rw[Mf,<- MW]
     exact Me _ (n s' L q j)
    .rw[Mf,<- MW]
     rcases R q j with z|z
     .exact Me _ (I q z)
     .rw[z];exact L1 _ (by simp)
  .rintro δ ⟨g,m,rfl,nd,hn,n,I⟩
   refine hN _ ⟨g,_,_,rfl,nd,hn,fun s' L q j=>?_⟩
   rw[List.take_succ,e] at L
   rcases Ma.mp L with z|z
   .exact n s' z q j
   .have:s'=s:=by simpa using z
    rw[this,C] at j
    exact I q (by rw[OG];exact j)
 .rintro δ ⟨g,O,m,rfl,nd,hn,n⟩
  walk_at "go"
  exact hP g nd hn fun s G p t=>n s (by rw[OG];exact G) p t
abbrev zH(c:Cs)(as bs:List (Nat × Option Nat))(f:Option Nat):D:=.ins c.Reach ["rows","columns","goal"] [.dic (kA as),.dic (kA bs),oD f]
theorem AD{as:List (Nat × Option Nat)}{i:Nat}(h:i∈kys as):∃o,(i,o)∈as:=by
 obtain ⟨p,c,rfl⟩:=Mb.mp h
 exact⟨p.2,c⟩
theorem zp{c:Nat}:∀{ps:List (Nat × Nat)},(lj ps c).length=2*ps.length
 |[]=>rfl
 |[p]=>rfl
 |p::q::r=>by
  show (lj (q::r) c).length+1+1=_
  rw[zp];simp only[L8];omega
def m3(c:Cs):DSp:=fun ds P=>∃(low high t:aaa) (w:aab) (as bs:List (Nat × Option Nat)) (rk f:Nat->Nat) (n m B g:Nat),ds=[zH c as bs (some g)]/\Rc n m low high t w as bs rk f B/\g∈kys bs/\n<=50/\∀ps,Wy n m low high t w g ps->P (.lst ((cellsOf ps).map ki))
theorem va{c:Cs}:bt (m3 c):=by
 intro xs P v k h
 obtain ⟨a1,a2,r,q,p,o,n,m,j,u,s,t,e,i,g,f,h⟩:=h
 exact⟨a1,a2,r,q,p,o,n,m,j,u,s,t,e,i,g,f,fun ps z=>k _ (h ps z)⟩
theorem vi{c:Cs}:∀ds P,m3 c ds P->ds.length=1:=by
 intro ds P h
 obtain ⟨_,_,_,_,_,_,_,_,_,_,_,_,e,_⟩:=h
 rw[e];rfl
theorem ye{c:Cs}{f:Addr}{G:FuncData}(F:qR K c.Reach "way" "Reach.way" ku iH f G)(A_:Fns K mg c)(T:Txt K mg base)(xs:Exs K mg base c):bE P w K mg base CX0 1 f G iH (spP K (m3 c)):=by
 refine F.fn.ok gC (fun vs H Q E h=>aU vi h) (fun Y A outer s H vs Q E hr h=>?_)
 refine⟨_,(aj (wst 1 gC.nd (bD ak)) (aj (wst 2 gC.nd (aX (K:=K) rfl (pv 0) rfl)) (aj (mD PassesOwn.never (aO yg (pv 2) lQ (aW _)) (aj (wst 3 gC.nd (Cq (zQ hr) (aX (K:=K) rfl (pv 0) rfl) (pv 2) (fun _ _=>rfl))) (aj (cH (ia Mp Mw Mv bQ (pv 1) (af (dU (af (pv 3) (af (pv 2) ak))) ak))) (aj (wst 2 gC.nd (Cq (zQ hr) (aX (K:=K) rfl (pv 0) rfl) (pv 3) (fun _ _=>rfl))) (aw (bZ (aO yg (pv 2) lQ (aW _)) (aw (cH (ia Mp Mw Mv bQ (pv 1) (af (dU (af (pv 3) (af (pv 2) ak))) ak)))) aY)))))) (aw (aI (pv 1)))))),bh (Γn:=[1]) (N:=mz) (ax (ST.post (Γn:=[1]) (bV (M:=[]) 1 (bC aV))) (ax (ST.post (Γn:=[1]) (aN 2 (cf ["rows","columns","goal"] 2 xs.i_Reach.cl xs.n_Reach_goal (aa 0)))) (ax (mW (aM (EM.er (ay BA (ES.er (aa 2)) (EM.er lS)))) (ax (ST.post (Γn:=[1]) (aN 3 (EM.es (ER.flat (Cn (ES.er (cf ["rows","columns","goal"] 1 xs.i_Reach.cl xs.n_Reach_columns (aa 0))) (ES.er (aa 2))))))) (ax (ST.post (Γn:=[1]) (bR (M:=[]) 1 (dP (aA (ER.flat (ES.er (aa 3))) (aA (ER.flat (ES.er (aa 2))) aV))))) (ax (ST.post (Γn:=[1]) (aN 2 (EM.es (ER.flat (Cn (ES.er (cf ["rows","columns","goal"] 0 xs.i_Reach.cl xs.n_Reach_rows (aa 0))) (ES.er (aa 3))))))) (cS (aM (EM.er (ay BA (ES.er (aa 2)) (EM.er lS)))) (ST.post (Γn:=[1]) (bR (M:=[]) 1 (dP (aA (ER.flat (ES.er (aa 3))) (aA (ER.flat (ES.er (aa 2))) aV))))) aZ))))) (aJ (M:=[1]) (ix 1))))) (fun ds P S=>?_) h⟩
 obtain ⟨low,high,t,w,as,bs,rk,x,n,m,B,g,rfl,u,R,n5,U⟩:=S
 rw[show aL mz [zH c as bs (some g)]=[some (zH c as bs (some g)),none,none,none] from rfl]
 walk_at "go"
 refine⟨fun z δ=>(∃(ps:List (Nat × Nat)) (i:Nat) (r:Option D),z=x i + 1/\δ=[some (zH c as bs (some g)),some (.lst ((lj ps i).map ki)),some (.int (i:Int)),r]/\Wp n m low high t bs rk x g ps i)\/(∃(ps:List (Nat × Nat)) (r:Option D),z=0/\δ=[some (zH c as bs (some g)),some (.lst ((cellsOf ps).map ki)),some .non,r]/\Wy n m low high t w g ps),⟨x g+1,.inl ⟨[],g,none,rfl,rfl,⟨.inl ⟨rfl,rfl⟩,R,fun p h=>(nomatch h),fun p h=>(nomatch h),Na,Na,fun p h=>(nomatch h),trivial,fun p h=>by simp at h⟩⟩⟩,?_⟩
 rintro z δ (⟨ps,i,r,rfl,rfl,hw⟩|⟨ps,r,rfl,rfl,hw⟩)
 .obtain ⟨o,C⟩:=AD hw.ci
  obtain ⟨s,e1,_⟩:=u.pb i o C
  subst e1
  obtain ⟨J,Z,Vf⟩:=Wp.step u hw C
  obtain ⟨I,y⟩:=AD J
  have hl:=zp (c:=i) (ps:=ps)
  have Ug:ps.length<=50:=by
   have:=jR (B:=n) hw.n1 fun q L=>by
    obtain ⟨p,O,rfl⟩:=Mb.mp L
    exact (hw.rg p O).1
   rw[mo] at this;omega
  walk_at "go"
  refine xO (v:=.int (s:Int)) (tm u.nb C) ?_
  walk_at "go"
  cases I with
  |none =>
   refine xO (v:=.non) (tm u.na y) ?_
   walk_at "go"
   rw[show (lj ps i).map ki++[L3.D.tup [L3.D.int (s:Int),L3.D.int (i:Int)]]=(cellsOf (ps++[(s,i)])).map ki by rw[tN,Mf];rfl]
   exact⟨0,by omega,.inr ⟨ps++[(s,i)],_,rfl,rfl,Z y⟩⟩
  |some j =>
   obtain ⟨X,h2⟩:=Vf j y
   refine xO (v:=.int (j:Int)) (tm u.na y) ?_
   walk_at "go"
   refine⟨by rw[Mg,mo,NU];omega,?_⟩
   rw[show (lj ps i).map ki++[L3.D.tup [L3.D.int (s:Int),L3.D.int (i:Int)]]++[L3.D.tup [L3.D.int (s:Int),L3.D.int (j:Int)]]=(lj (ps++[(s,i)]) j).map ki by rw[wI,Mf,MW];rfl]
   exact⟨x j+1,by omega,.inl ⟨ps++[(s,i)],j,_,rfl,rfl,X⟩⟩
 .walk_at "go"
  exact U ps hw
theorem ll{a b:aab}{p:Nat}:p∈bp a b↔p<a.length/\a.getD p 0<b.getD p 0:=by
 unfold bp
 rw[MP,Mh,decide_eq_true_eq]
theorem vP{a b:aab}:(bp a b).length<=a.length:=by
 unfold bp
 exact Mx (List.length_filter_le _ _) (by rw[L9];exact Md _)
theorem z7{a b:aab}:(bp a b).Nodup:=List.nodup_range.filter _
theorem Ey{n s:Nat}{a b:aaa}(h:s<n):(upL n a b).getD s []=bp (rowAt a s) (rowAt b s):=by
 unfold upL
 rw[dz,L4,MI h];rfl
theorem u7{m s:Nat}{t:aaa}(h:s<m):rowAt (turned m t) s=gj t s:=by
 unfold rowAt turned
 rw[dz,L4,MI h];rfl
theorem BY{t:aaa}{s:Nat}:(gj t s).length=t.length:=by unfold gj;rw[mo]
theorem B7{t:aaa}{s p:Nat}(h:p<t.length):(gj t s).getD p 0=cellAt t p s:=by
 unfold gj cellAt
 rw[dz,L4,gV h,dz (l:=t),gV h];rfl
theorem rZ{n m:Nat}{t:aaa}(h:bc n m t):bc m n (turned m t):=⟨by unfold turned;rw[mo,L9],fun r hr=>by
 obtain ⟨j,_,rfl⟩:=Mb.mp hr
 rw[BY];exact h.1⟩
def fC(c:Cs):DSp:=fun ds P=>∃(low high t:aaa) (w r:aab) (n m:Nat),ds=[y7 c low high t w r]/\bc n m low/\bc n m high/\bc n m t/\w.length=n/\r.length=m/\1<=n/\n<=50/\1<=m/\m<=50 /\
 ∀(f:aac) (as bs:List (Nat × Option Nat)) (g:Option Nat) (rk h:Nat->Nat) (B:Nat),Rc n m low high t w as bs rk h B->Cl n m low high t r f as bs g->(g=none->f=[])->P (zH c as bs g)
theorem sQ{c:Cs}:bt (fC c):=by
 intro xs P E k h
 obtain ⟨a1,a2,C,B,z,y,x,e,v,u,t,s,r,q,p,o,n,h⟩:=h
 exact⟨a1,a2,C,B,z,y,x,e,v,u,t,s,r,q,p,o,n,fun a b c d e f g m j i=>k _ (h a b c d e f g m j i)⟩
theorem tW{c:Cs}:∀ds P,fC c ds P->ds.length=1:=by
 intro ds P h
 obtain ⟨_,_,_,_,_,_,_,e,_⟩:=h
 rw[e];rfl
theorem u0{c:Cs}:∀ds P,(fC c) ds P->(fC c) ds fun d=>(∃ns dd,d=.ins c.Reach ns dd)/\P d:=by
 intro ds P h
 unfold fC at h ⊢
 obtain ⟨a1,a2,C,B,z,y,x,e,v,u,t,s,r,q,p,o,n,h⟩:=h;exact⟨a1,a2,C,B,z,y,x,e,v,u,t,s,r,q,p,o,n,fun a b c d e f g m j i=>⟨⟨_,_,rfl⟩,h a b c d e f g m j i⟩⟩
theorem vp{c:Cs}{f:Addr}{fd:FuncData}(F:Bg K mg "Reach" c.Reach "Reach.__init__" jk gu f fd)(L:Fns K mg c)(T:Txt K mg base)(xs:Exs K mg base c):bE P w K mg base CX0 3 f fd gu (Hx K c.Reach (fC c)):=by
 obtain ⟨f0,d0,Py⟩:=L.h_ways_up
 have Qk:=AJ (P:=P) (w:=w) Py L T xs
 obtain ⟨f1,d1,MN⟩:=L.h_places_below
 have M1:=dE (P:=P) (w:=w) MN L T xs
 obtain ⟨f2,d2,Nu⟩:=L.h_turned_table
 have NW:=mi (P:=P) (w:=w) Nu L T xs
 obtain ⟨f3,d3,P7⟩:=L.h_spread
 have QL:=DH (P:=P) (w:=w) P7 L T xs
 obtain ⟨f4,d4,Oy⟩:=L.h_first_with_room
 have Pj:=oA (P:=P) (w:=w) Oy L T xs
 refine F.fn.ok cW (fun vs H Q E h=>Fc tW h) (fun cdv A outer s H vs Q E hr h=>?_)
 refine⟨_,(aj (ji (K:=K) rfl (pv 0) z6 rfl) (aj (ji (K:=K) rfl (pv 0) z6 rfl) (aj (ji (K:=K) rfl (pv 0) lQ rfl) (aj (wst 2 cW.nd (wcl Qk hr Py (af (aX (K:=K) rfl (pv 1) rfl) (af (aX (K:=K) rfl (pv 1) rfl) ak)))) (aj (wst 3 cW.nd (wcl Qk hr Py (af (wcl NW hr Nu (af (aX (K:=K) rfl (pv 1) rfl) ak)) (af (wcl NW hr Nu (af (aX (K:=K) rfl (pv 1) rfl) ak)) ak)))) (aj (wst 4 cW.nd (wcl M1 hr MN (af (aK Gx (bD (af ar ak)) (wln K T.len_ (aX (K:=K) rfl (pv 1) rfl))) (af (aX (K:=K) rfl (pv 1) rfl) ak)))) (aj (wfo (wil K (pv 4)) (wpg 5 cW.nd) (aw (CI (zQ hr) (aX (K:=K) rfl (pv 0) rfl) (pv 5) lQ rfl))) (aw (mD PassesOwn.never (PW.pt (t8 (aO (oG hr.units) (pv 4) (bD ak) (aW _)) (pE (aO Fz (aX (K:=K) rfl (pv 0) rfl) lQ (aW _))))) (aj (wst 6 cW.nd (wcl QL hr P7 (af (pv 4) (af (pv 2) (af (aX (K:=K) rfl (pv 0) rfl) ak))))) (aj (ji (K:=K) rfl (pv 0) (wcl Pj hr Oy (af (pv 6) (af (aX (K:=K) rfl (pv 1) rfl) ak))) rfl) (aw (wst 4 cW.nd (wcl QL hr P7 (af (pv 6) (af (pv 3) (af (aX (K:=K) rfl (pv 0) rfl) ak))))))))))))))))),IF (N:=l5) (tV xs.i_Reach.cl xs.n_Reach_rows C9 (h:=tV xs.i_Reach.cl xs.n_Reach_columns C9 (h:=tV xs.i_Reach.cl xs.n_Reach_goal lS (h:=Gb (ax (ST.post (Γn:=[0]) (aN 2 (EM.es (aE (S:=jq) pD (ai (ES.er (cf ["low","high","table","wants","rooms"] 2 xs.i_Filling.cl xs.n_Filling_table (aa 1))) (ai (ES.er (cf ["low","high","table","wants","rooms"] 1 xs.i_Filling.cl xs.n_Filling_high (aa 1))) aq)))))) (ax (ST.post (Γn:=[0]) (aN 3 (EM.es (aE (S:=jq) pD (ai (EM.er (aE (S:=cG) gJ (ai (ES.er (cf ["low","high","table","wants","rooms"] 0 xs.i_Filling.cl xs.n_Filling_low (aa 1))) aq))) (ai (EM.er (aE (S:=cG) gJ (ai (ES.er (cf ["low","high","table","wants","rooms"] 2 xs.i_Filling.cl xs.n_Filling_table (aa 1))) aq))) aq)))))) (ax (ST.post (Γn:=[0]) (aN 4 (EM.es (aE (S:=bA) bY (ai (EM.er (ay I0 (EM.er (bC (aA au aV))) (EM.er (aR bJ (ai (ES.er (cf ["low","high","table","wants","rooms"] 3 xs.i_Filling.cl xs.n_Filling_wants (aa 1))) aq))))) (ai (ES.er (cf ["low","high","table","wants","rooms"] 3 xs.i_Filling.cl xs.n_Filling_wants (aa 1))) aq)))))) (ax (dQ (bI (aa 4)) (aB 5) (Fh 0 ["rows","columns","goal"] 0 xs.i_Reach.cl xs.n_Reach_rows (ES.er (aa 5)) (EM.er lS))) (mW (tE (aM (EM.er (ay tG (ES.er (aa 4)) (EM.er (bC aV))))) (aM (EM.er (ay IX (Ka ["rows","columns","goal"] 2 xs.i_Reach.cl xs.n_Reach_goal (pf 0)) (EM.er lS))))) (ax (zg 6 0 4 2 ["rows","columns","goal"] 1 rO xs.i_Reach.cl xs.n_Reach_columns) (ax (Hr 0 ["rows","columns","goal"] 2 xs.i_Reach.cl xs.n_Reach_goal (EM.er (aE (S:=d9) mB (ai (ES.er (aa 6)) (ai (ES.er (cf ["low","high","table","wants","rooms"] 4 xs.i_Filling.cl xs.n_Filling_rooms (aa 1))) aq))))) (zg 4 0 6 3 ["rows","columns","goal"] 0 rO xs.i_Reach.cl xs.n_Reach_rows)))))))))))) (fun ds P hS=>?_) (by decide) h⟩
 obtain ⟨low,high,t,w,r,n,m,rfl,hL,hH,Z,lw,lr,n1,Y,m1,m5,hP⟩:=hS
 rw[show aL (l5.drop 1) [y7 c low high t w r]=[some (y7 c low high t w r),none,none,none,none,none] from rfl]
 have Vn:∀s,s<n->∀p,p∈(upL n t high).getD s []↔p<m/\cellAt t s p<cellAt high s p:=fun s I p=>by
  rw[Ey I,ll,show (rowAt t s).length=m from Z.row I]
 have W7:∀s,s<m->∀p,p∈(upL m (turned m low) (turned m t)).getD s []↔p<n/\cellAt low p s<cellAt t p s:=fun s I p=>by
  rw[Ey I,ll,u7 I,u7 I,BY,hL.1]
  refine and_congr_right fun y=>?_
  rw[B7 (by rw[hL.1];exact y),B7 (by rw[Z.1];exact y)]
 have Xl:bc m n (turned m low):=rZ hL
 have YE:bc m n (turned m t):=rZ Z
 have Xt:(upL n t high).length=n:=by unfold upL;rw[mo,L9]
 have ldn:(upL m (turned m low) (turned m t)).length=m:=by unfold upL;rw[mo,L9]
 have Xz:∀v∈upL n t high,v.length<=50/\∀p∈v,p<m:=fun v hv=>by
  obtain ⟨s,I,rfl⟩:=Mb.mp hv
  have I:=Mh.mp I
  have e:=Z.row I
  exact⟨Mx vP (by rw[e];exact m5),fun p y=>by have:=(ll.mp y).1;rw[e] at this;exact this⟩
 have Wz:∀v∈upL m (turned m low) (turned m t),v.length<=50/\∀p∈v,p<n:=fun v hv=>by
  obtain ⟨s,I,rfl⟩:=Mb.mp hv
  have I:=Mh.mp I
  have e:=Xl.row I
  exact⟨Mx vP (by rw[e];exact Y),fun p y=>by have:=(ll.mp y).1;rw[e] at this;exact this⟩
 generalize hup:upL n t high=upW at Vn Xt Xz
 generalize Ru:upL m (turned m low) (turned m t)=dnW at W7 ldn Wz
 walk_at "go"
 intro O
 walk_at "go"
 refine⟨t,high,n,m,rfl,Z,hH,Y,m5,?_⟩
 refine⟨low,n,m,rfl,hL,n1,by omega,by omega,?_⟩
 refine⟨t,n,m,rfl,Z,n1,by omega,by omega,?_⟩
 refine⟨turned m low,turned m t,m,n,rfl,Xl,YE,m5,Y,?_⟩
 rw[hup,Ru]
 refine⟨by decide,⟨rfl,by omega,by omega⟩,?_⟩
 rw[zL]
 refine⟨List.replicate w.length 0,w,rfl,by rw[Mt];omega,Mt,?_⟩
 have T2:∀p,p∈bp (List.replicate w.length 0) w↔p<n/\0<w.getD p 0:=fun p=>by
  rw[ll,Mt,lw]
  refine and_congr_right fun y=>?_
  rw[dz (l:=List.replicate n 0),MQ,if_pos (by omega)];rfl
 have Tg:(bp (List.replicate w.length 0) w).Nodup:=z7
 generalize bp (List.replicate w.length 0) w=ly at T2 Tg
 refine gg rfl ?_
 have XE:ly.length<=50:=Mx (jR Tg fun p y=>((T2 p).mp y).1) Y
 rw[show List.map L3.D.int (List.map (fun (r:Nat)=>(r:Int)) ly)=ly.map (fun (r:Nat)=>L3.D.int (r:Int)) by rw[Mz];rfl]
 refine cO (as:=ly) (f:=fun (r:Nat)=>L3.D.int (r:Int)) (fun i δ=>∃X:Option D,δ=[some (.pin O (zH c ((ly.take i).map fun p=>(p,none)) [] none)),some (y7 c low high t w r),some (dT (nT upW)),some (dT (nT dnW)),some (dN ly),X,none]) ⟨none,rfl⟩ ?_ ?_
 .rintro i p δ N e ⟨X,rfl⟩ hN
  have hi:=(KE.mp e).1
  have R:kys ((ly.take i).map fun p=>(p,(none:Option Nat)))=ly.take i:=by unfold kys;rw[Mz];exact List.map_id _
  have y:p∉ly.take i:=fun z=>by
   have:=Tg
   rw[<- Nl i ly] at this
   obtain ⟨_,_,h3⟩:=Mm.mp this
   refine h3 p z p ?_ rfl
   rw[MO hi]
   have:=(KE.mp e).2
   rw[this];exact ox
  refine⟨O,_,kA ((ly.take i).map fun p=>(p,none)),rfl,rfl,rfl,?_⟩
  have lk:(kA ((ly.take i).map fun p=>(p,(none:Option Nat)))).length<1000:=by
   unfold kA;rw[mo,mo,M4];omega
  refine⟨lk,?_⟩
  show N _
  have ep:putK (kA ((ly.take i).map fun p=>(p,(none:Option Nat)))) (.inl (p:Int)) (L3.D.toV L3.D.non)=kA ((ly.take (i+1)).map fun p=>(p,none)):=by
   rw[show L3.D.toV L3.D.non=oV none from rfl,GF (by rw[R];exact y),List.take_succ,e,Mf];rfl
  rw[ep]
  exact hN _ ⟨_,rfl⟩
 .rintro δ ⟨X,rfl⟩
  rw[OG]
  have R:kys (ly.map fun p=>(p,(none:Option Nat)))=ly:=by unfold kys;rw[Mz];exact List.map_id _
  have YI:Rc n m low high t w (ly.map fun p=>(p,none)) [] (fun _=>0) (fun _=>0) 0:=⟨by rw[R];exact Tg,Na,fun i hi=>⟨((T2 i).mp (by rw[R] at hi;exact hi)).1,Md _⟩,fun j hj=>(nomatch hj),fun i o e=>by
   obtain ⟨p,y,q⟩:=Mb.mp e
   cases q
   exact .inl ⟨rfl,((T2 _).mp y).2⟩,fun j o e=>(nomatch e),fun i hi hw=>by rw[R];exact (T2 i).mpr ⟨hi,hw⟩⟩
  have cl0:Cl n m low high t r ly (ly.map fun p=>(p,none)) [] none:=⟨fun l hl=>by rw[R];exact hl,fun i hi hn=>absurd (by rw[R] at hi;exact hi) hn,fun j hj=>(nomatch hj),fun c hc=>(nomatch hc)⟩
  refine⟨fun μ δ=>∃(u:aac) (as bs:List (Nat × Option Nat)) (G:Option Nat) (rk ck:Nat->Nat) (B:Nat) (X o6:Option D),μ=2*(m - bs.length)+(if u=[] then 0 else 1)/\δ=[some (.pin O (zH c as bs G)),some (y7 c low high t w r),some (dT (nT upW)),some (dT (nT dnW)),some (dN u),X,o6]/\Rc n m low high t w as bs rk ck B/\Cl n m low high t r u as bs G,⟨_,ly,_,[],none,_,_,0,_,none,rfl,rfl,YI,cl0⟩,?_⟩
  rintro μ δ ⟨u,as,bs,G,rk,ck,B,X,o6,rfl,rfl,M,U⟩
  walk_at "go"
  refine fB (xs:=u.map fun (r:Nat)=>(r:Int)) (ys:=[]) ?_
  walk_at "go"
  by_cases hl:u=[]
  .rw[if_neg (by rw[hl];simp)]
   exact⟨⟨_,_,rfl⟩,hP u as bs G rk ck B M U fun _=>hl⟩
  rw[if_pos (by rw[List.map_eq_nil_iff];exact hl)]
  cases G with
  |some g =>
   walk_at "go"
   exact⟨⟨_,_,rfl⟩,hP u as bs (some g) rk ck B M U fun z=>by cases z⟩
  |none =>
  walk_at "go"
  rw[if_neg hl]
  refine⟨O,_,kA bs,dN u,dT (nT upW),rfl,rfl,rfl,rfl,u,upW,bs,m,rfl,m5,fun l hl=>by rw[Xt];exact (M.la l (U.ly l hl)).1,Xz,M.nb,fun p y=>(M.lb p y).1,fun C nd hn hc=>⟨_,rfl,?_⟩⟩
  have up2:∀p∈C,p.2∈kys as/\p.1<m/\cellAt t p.2 p.1<cellAt high p.2 p.1:=fun p y=>by
   obtain ⟨q1,q2⟩:=hn p y
   have q3:=U.ly _ q1
   exact⟨q3,(Vn p.2 (M.la _ q3).1 p.1).mp q2⟩
  have J:=M.up nd up2
  generalize hck:(fun c=>if c∈C.map Prod.fst then B+1 else ck c)=ck2 at J
  have HS:bs.length+C.length<=m:=by
   have:=jR (B:=m) J.nb fun p y=>(J.lb p y).1
   rw[mo,Mg,mo] at this
   exact this
  have lt:∀x:List (Nat × Nat),(∀p∈x,p.2∈C.map Prod.fst)->2*(m - (bs++nw C).length)+(if x.map Prod.fst=[] then 0 else 1)<2*(m - bs.length)+1:=fun x h2=>by
   rw[Mg,mo]
   cases C with
   |nil =>
    cases x with
    |nil=>simp
    |cons q l=>exact absurd (h2 q ox) (by simp)
   |cons q l =>
    simp only[L8] at HS ⊢
    split<;>omega
  have SA:∀x:List (Nat × Nat),(∀p∈x,p.2∈C.map Prod.fst/\p.1∈dnW.getD p.2 [])->∀p∈x,p.2∈kys (bs++nw C)/\p.1<n/\cellAt low p.1 p.2<cellAt t p.1 p.2:=fun x h2 p y=>by
   obtain ⟨q1,q2⟩:=h2 p y
   have q3:p.2∈kys (bs++nw C):=by rw[cI,fX];exact L1 _ q1
   exact⟨q3,(W7 p.2 (J.lb _ q3).1 p.1).mp q2⟩
  have X6:∀x:List (Nat × Nat),∀i∈kys (as++nw x),i∉x.map Prod.fst->∀j,j<m->cellAt t i j<cellAt high i j->j∈kys (bs++nw C):=fun x i hi SU j hj NO=>by
   rw[cI,fX] at hi ⊢
   have Ve:i∈kys as:=(Ma.mp hi).resolve_right SU
   by_cases S2:i∈u
   .exact hc i S2 j ((Vn i (M.la i Ve).1 j).mpr ⟨hj,NO⟩)
   .exact Me _ (U.cr i Ve S2 j hj NO)
  have X8:∀x:List (Nat × Nat),(∀s∈C.map Prod.fst,∀p∈dnW.getD s [],p∈kys as++x.map Prod.fst)->∀j∈kys (bs++nw C),∀i,i<n->cellAt low i j<cellAt t i j->i∈kys (as++nw x):=fun x h2 j hj i hi NO=>by
   have ZP:=(J.lb j hj).1
   rw[cI,fX] at hj ⊢
   rcases Ma.mp hj with z|z
   .exact Me _ (U.cc j z i hi NO)
   .exact h2 j z i ((W7 j ZP i).mpr ⟨hi,NO⟩)
  refine⟨O,_,L3.D.non,rfl,rfl,rfl,?_⟩
  walk_at "go"
  have gl0:∀c∈kys bs,r.getD c 0<=0:=U.gl
  refine⟨C.map Prod.fst,r,rfl,by rw[mo];omega,fun q hq=>by rw[lr];exact (J.lb q (by rw[cI,fX];exact L1 _ hq)).1,fun g hg Wn=>?_,fun ZA=>?_⟩
  .refine⟨rfl,?_⟩
   refine⟨O,_,kA as,dN (C.map Prod.fst),dT (nT dnW),rfl,rfl,rfl,rfl,C.map Prod.fst,dnW,as,n,rfl,Y,fun l hl=>?_,Wz,J.na,fun p y=>(J.la p y).1,fun x R5 Ro WJ=>⟨_,rfl,?_⟩⟩
   .rw[ldn]
    exact (J.lb l (by rw[cI,fX];exact L1 _ hl)).1
   exact⟨_,lt x (fun p y=>(Ro p y).1),x.map Prod.fst,as++nw x,bs++nw C,some g,_,ck2,_,_,_,rfl,rfl,J.down R5 (SA x Ro),⟨fun l hl=>by rw[cI,fX];exact L1 _ hl,X6 x,X8 x WJ,⟨by rw[cI,fX];exact L1 _ hg,Wn⟩⟩⟩
  .refine⟨rfl,?_⟩
   refine⟨O,_,kA as,dN (C.map Prod.fst),dT (nT dnW),rfl,rfl,rfl,rfl,C.map Prod.fst,dnW,as,n,rfl,Y,fun l hl=>?_,Wz,J.na,fun p y=>(J.la p y).1,fun x R5 Ro WJ=>⟨_,rfl,?_⟩⟩
   .rw[ldn]
    exact (J.lb l (by rw[cI,fX];exact L1 _ hl)).1
   exact⟨_,lt x (fun p y=>(Ro p y).1),x.map Prod.fst,as++nw x,bs++nw C,none,_,ck2,_,_,_,rfl,rfl,J.down R5 (SA x Ro),⟨fun l hl=>by rw[cI,fX];exact L1 _ hl,X6 x,X8 x WJ,fun q hq=>by
    rw[cI,fX] at hq
    rcases Ma.mp hq with z|z
    .exact gl0 q z
    .have:=ZA q z;omega⟩⟩
theorem Au{p:Nat × Nat}:∀{l:List (Nat × Nat)},(cellsOf (p::l))[0]?=some p
 |[]=>rfl
 |_::_=>rfl
theorem uN:∀{ps:List (Nat × Nat)},(cellsOf ps).getLast?=ps.getLast?
 |[]=>rfl
 |[p]=>rfl
 |p::q::r=>by
  have ih:=uN (ps:=q::r)
  have:cellsOf (q::r)≠[]:=by cases r<;>exact List.cons_ne_nil _ _
  show (p::(p.1,q.2)::cellsOf (q::r)).getLast?=_
  cases e:cellsOf (q::r) with
  |nil=>exact absurd e this
  |cons a l=>rw[Np,Np,<- e,ih,Np]
theorem vW:∀{ps:List (Nat × Nat)},(cellsOf ps).length<=2*ps.length
 |[]=>Md _
 |[p]=>by show 1<=2*1;omega
 |p::q::r=>by
  have ih:=vW (ps:=q::r)
  show (cellsOf (q::r)).length+1+1<=_
  simp only[L8] at ih ⊢;omega
theorem HI{ps:List (Nat × Nat)}{p:Nat × Nat}{P:DK}(e:ps.getLast?=some p)(h:P (ki p)):asO (atI (ps.map ki) (-1)) P:=by
 have c:ps≠[]:=fun z=>by rw[z] at e;cases e
 have hl:0<ps.length:=List.length_pos_iff.mpr c
 refine (yq ?_).mpr h
 have:ixN (ps.map ki).length (-1)=some (ps.length - 1):=by
  unfold ixN
  rw[mo,if_neg (by omega),if_pos (by omega)]
  congr 1;omega
 unfold atI
 rw[this]
 show (ps.map ki)[ps.length - 1]?=_
 rw[L4,<- List.getLast?_eq_getElem?,e];rfl
def slA(low high t:aaa)(cs:List (Nat × Nat))(k:Nat):Int:=if k % 2=0 then cellAt high (cs.getD k (0,0)).1 (cs.getD k (0,0)).2 - cellAt t (cs.getD k (0,0)).1 (cs.getD k (0,0)).2 else cellAt t (cs.getD k (0,0)).1 (cs.getD k (0,0)).2 - cellAt low (cs.getD k (0,0)).1 (cs.getD k (0,0)).2
theorem Fo:∀{l:aab}{i:Nat}{v:Int},i<l.length->v<l.getD i 0->0<l.getD i 0->((l.set i v).map Int.toNat).sum<(l.map Int.toNat).sum
 |[],i,v,h,_,_=>by simp at h
 |x::l,0,v,_,f,c=>by
  replace f:v<x:=f
  replace c:0<x:=c
  simp only[List.set_cons_zero,Mc,MD]
  omega
 |x::l,i+1,v,h,f,c=>by
  have:=Fo (l:=l) (i:=i) (v:=v) (by simpa using h) f c
  simp only[List.set_cons_succ,Mc,MD]
  omega
def mu(w:aab):Nat:=(w.map Int.toNat).sum
def jK(c:Cs):DSG:=fun x ds o j P=>∃(low high t:aaa) (w r f cols:aab) (al ah:Addr) (g n m:Nat) (ps:List (Nat × Nat)),x=vx c al ah t w r/\ds=[.lst ((cellsOf ps).map ki)]/\o=(al,dT low)/\j=(ah,dT high)/\bc n m low/\bc n m high/\Fl.St n m f cols low high t w r/\Wy n m low high t w g ps/\0<r.getD g 0/\n<=50 /\
 ∀t' h i,Fl.St n m f cols low high t' h i->mu h < mu w->P (vx c al ah t' h i)
theorem pR{c:Cs}:Fj (jK c):=by
 intro x ds L J P M k h
 obtain ⟨a1,a2,F,E,C,B,z,y,v,I,G,H,f,e1,e2,u,t,s,r,q,p,o,n,h⟩:=h
 exact⟨a1,a2,F,E,C,B,z,y,v,I,G,H,f,e1,e2,u,t,s,r,q,p,o,n,fun t' j m i g=>k _ (h t' j m i g)⟩
theorem qA{c:Cs}:∀x ds g f P,jK c x ds g f P->ds.length+1=2:=by
 intro x ds g f P h
 obtain ⟨_,_,_,_,_,_,_,_,_,_,_,_,_,_,e,_⟩:=h
 rw[e];rfl
theorem sk{c:Cs}{f:Addr}{fd:FuncData}(F:qR K c.Filling "pour" "Filling.pour" eE eX f fd)(A_:Fns K mg c)(T:Txt K mg base)(xs:Exs K mg base c):bE P w K mg base CX0 2 f fd eX (spG K (jK c)):=by
 obtain ⟨f0,d0,Oe⟩:=A_.h_Filling_slack
 have PN:=qN (P:=P) (w:=w) Oe A_ T xs
 refine F.fn.ok cM (fun vs H Q E h=>Hs qA h) (fun cdv A outer s H vs Q E hr h=>?_)
 refine⟨_,rR [7,8] (fun i hi x hx=>by
  rcases (show i=7\/i=8 by simpa using hi) with rfl|rfl<;>(obtain rfl:=MB hx;rfl)) ((aj (wst 2 cM.nd (wit K (wix K (pv 1) ar) ar)) (aj (wst 3 cM.nd (wit K (wix K (pv 1) (GB Ay ar)) ar)) (aj (wst 4 cM.nd (bF (qI (K:=K) rfl rfl) (by rfl) T.min_ boot_min (af (aK AY (bD (af (wix K (aX (K:=K) rfl (pv 0) rfl) (pv 3)) (af (wix K (aX (K:=K) rfl (pv 0) rfl) (pv 2)) ak))) (wco (av eE) "step" ["self","way"] [0,1] (bw rfl T.range_ (af (wln K T.len_ (pv 1)) ak)) (fun _ _ _ _ _=>(B6 (pv 1) xs.i_Filling.cl Oe.mt PN (hr.mono (by decide)) Oe.bd .nil tQ (af (pv 2) (af (pv 0) ak)))))) ak))) (aj (wfo (bw rfl T.range_ (af (wln K T.len_ (pv 1)) ak)) (wpg 5 cM.nd) (aj (wst 6 cM.nd (wix K (aX (K:=K) rfl (pv 0) rfl) (wit K (wix K (pv 1) (pv 5)) ar))) (aw (dO (aK cK (wix K (pv 6) (wit K (wix K (pv 1) (pv 5)) ar)) (uX (aO i9 (aK bS (pv 5) ar) ar (aW _)) (pv 4) (GB Ay (pv 4)))) (iz (pv 6) (wit K (wix K (pv 1) (pv 5)) ar) set_list))))) (aj (dO (aK og (wix K (aX (K:=K) rfl (pv 0) rfl) (pv 3)) (pv 4)) (iz (aX (K:=K) rfl (pv 0) rfl) (pv 3) set_list)) (aw (dO (aK og (wix K (aX (K:=K) rfl (pv 0) rfl) (pv 2)) (pv 4)) (iz (aX (K:=K) rfl (pv 0) rfl) (pv 2) set_list))))))))),Iz (N:=nj) 1 5 (ax (ST.post (Γn:=[0]) (aN 2 (bb (aD (aa 1) (EM.er au)) (EM.er au)))) (ax (ST.post (Γn:=[0]) (aN 3 (bb (aD (aa 1) (EM.er (Gs GR (EM.er au)))) (EM.er au)))) (ax (ST.post (Γn:=[0]) (aN 4 (EM.es (xk 0 7 8 (aR AB (ai (EM.er (ay Jc (EM.er (bC (aA (ER.aQ (ES.er (aD (cf ["low","high","table","wants","rooms"] 3 xs.i_Filling.cl xs.n_Filling_wants (aa 0)) (ES.er (aa 3))))) (aA (ER.aQ (ES.er (aD (cf ["low","high","table","wants","rooms"] 4 xs.i_Filling.cl xs.n_Filling_rooms (aa 0)) (ES.er (aa 2))))) aV)))) (EM.er (bx (cn (ai (EM.er (aR bJ (ai (ES.er (aa 1)) aq))) aq)) (aB 0) (CV (C:=c.Filling) ["low","high","table","wants","rooms"] oq (ES.er (aa 1)) (ai (ES.er (aa 2)) (ai (ES.er (aa 0)) aq))))))) aq)))))) (ax (dQ (cn (ai (EM.er (aR bJ (ai (ES.er (aa 1)) aq))) aq)) (aB 5) (IB 0 7 8 6 ["low","high","table","wants","rooms"] 2 xs.i_Filling.cl xs.n_Filling_table (ES.er (bb (aD (aa 1) (ES.er (aa 5))) (EM.er au))) (EM.er (ay cJ (ES.er (aD (aa 6) (ES.er (bb (aD (aa 1) (ES.er (aa 5))) (EM.er au))))) (EM.er (Fq (aM (EM.er (ay nU (EM.er (ay aT (ES.er (aa 5)) (EM.er au))) (EM.er au)))) (ER.aQ (ES.er (aa 4))) (Gs GR (ES.er (aa 4))))))) (ES.er (bb (aD (aa 1) (ES.er (aa 5))) (EM.er au))))) (ax (C2 0 ["low","high","table","wants","rooms"] 3 xs.i_Filling.cl xs.n_Filling_wants (tw 0 7 8 (EM.er (ay cJ (ES.er (aD (cf ["low","high","table","wants","rooms"] 3 xs.i_Filling.cl xs.n_Filling_wants (aa 0)) (ES.er (aa 3)))) (ES.er (aa 4))))) (tw 0 7 8 (ES.er (aa 3)))) (C2 0 ["low","high","table","wants","rooms"] 4 xs.i_Filling.cl xs.n_Filling_rooms (tw 0 7 8 (EM.er (ay cJ (ES.er (aD (cf ["low","high","table","wants","rooms"] 4 xs.i_Filling.cl xs.n_Filling_rooms (aa 0)) (ES.er (aa 2)))) (ES.er (aa 4))))) (tw 0 7 8 (ES.er (aa 2))))))))) rfl rfl (fun u x ds g1 g2 P hS=>?_) h⟩
 obtain ⟨low,high,t,w,r,rows,cols,al,ah,g,n,m,ps,rfl,rfl,rfl,rfl,hL,hH,X,J,hg,n5,hP⟩:=hS
 refine⟨rfl,?_⟩
 rw[show uF 5 u (vx c al ah t w r) [L3.D.lst ((cellsOf ps).map ki)] (al,dT low) (ah,dT high)=[some (.pin u (vx c al ah t w r)),some (.lst ((cellsOf ps).map ki)),none,none,none,none,none,some (.pin al (dT low)),some (.pin ah (dT high))] from rfl]
 have Sz:∃S l0,ps=S::l0/\S.2=g:=J.hd
 obtain ⟨S,l0,X2,eg⟩:=Sz
 obtain ⟨pl,W5,Ys⟩:=J.ls
 have RS:(cellsOf ps)[0]?=some S:=by rw[X2];exact Au
 have Se:(cellsOf ps).getLast?=some pl:=by rw[uN];exact W5
 have SO:=uT J.rg
 have VD:pl∈ps:=List.mem_of_getLast? W5
 obtain ⟨pln,plm⟩:=J.rg pl VD
 have gm:g<m:=by rw[<- eg];exact (J.rg S (by rw[X2];exact ox)).2
 have Ug:ps.length<=50:=by
  have:=jR (B:=n) J.n1 fun q hq=>by
   obtain ⟨p,M,rfl⟩:=Mb.mp hq
   exact (J.rg p M).1
  rw[mo] at this;omega
 have Z4:(cellsOf ps).length<=100:=Mx vW (by omega)
 have Yg:Al (fun q=>cellAt t q.1 q.2<cellAt high q.1 q.2) (fun q=>cellAt low q.1 q.2<cellAt t q.1 q.2) (cellsOf ps):=Bx.mpr ⟨J.up,J.lk⟩
 have I:=fun x Y xw xr al=>Ij (x:=x) X J W5 Y xw xr al
 have lw:=X.wl
 have lr:=X.rl
 have hT:=X.rt
 generalize Sz:cellsOf ps=cs at RS Se SO Z4 Yg I
 walk_at "go"
 refine md (k:=0) RS ?_
 walk_at "go"
 refine HI Se ?_
 walk_at "go"
 rw[eg]
 refine⟨u,c.Filling,_,al,ah,dT low,dT high,[dT t,dI w,dI r],rfl,rfl,rfl,?_⟩
 walk_at "go"
 refine aP (by omega) ?_
 rw[L7]
 refine⟨rfl,?_⟩
 refine aP (by omega) ?_
 rw[L7]
 refine⟨rfl,by decide,?_⟩
 have Vs:∀k,k<cs.length->∃p,cs[k]?=some p/\slA low high t cs k=if k % 2=0 then cellAt high p.1 p.2 - cellAt t p.1 p.2 else cellAt t p.1 p.2 - cellAt low p.1 p.2:=fun k G=>⟨cs[k],gV G,by unfold slA;rw[dz,gV G];rfl⟩
 refine eY (lo:=0) (n:=cs.length) (g:=fun (k:Nat)=>.int (slA low high t cs k)) (fun R h=>?_) (by omega) (fun k G R h=>?_) ?_
 .walk_at "go"
  exact h
 .walk_at "gb"
  obtain ⟨p,ep,es⟩:=Vs k G
  have M:=SO p (MJ ep)
  rw[MS]
  rw[es] at h
  exact⟨low,high,t,w,r,n,m,k,cs,p,rfl,hL,hH,hT,ep,M.1,M.2,h⟩
 rw[show (List.range cs.length).map (fun (k:Nat)=>L3.D.int (slA low high t cs k))=((List.range cs.length).map fun k=>slA low high t cs k).map L3.D.int by rw[Mz];rfl]
 refine⟨⟨rfl,bN,by rw[mo,mo,L9];simp only[L8,NR];omega⟩,?_⟩
 rw[show L3.D.lst ([L3.D.int (w.getD pl.1 0),L3.D.int (r.getD g 0)]++((List.range cs.length).map fun k=>slA low high t cs k).map L3.D.int)=dI ([w.getD pl.1 0,r.getD g 0]++(List.range cs.length).map fun k=>slA low high t cs k) by show _=L3.D.lst (List.map L3.D.int _);rw[Mf];rfl]
 refine oE.mpr ⟨by simp,fun x hx QR=>?_⟩
 have x2:=QR (w.getD pl.1 0) (by simp)
 have x3:=QR (r.getD g 0) (by simp)
 have x4:∀k,k<cs.length->x<=slA low high t cs k:=fun k G=>QR _ (L1 _ (Mb.mpr ⟨k,Mh.mpr G,rfl⟩))
 have Y:1<=x:=by
  rcases Ma.mp hx with z|z
  .simp only[L6,Mo,or_false] at z
   omega
  .obtain ⟨k,G,rfl⟩:=Mb.mp z
   have G:=Mh.mp G
   obtain ⟨p,ep,es⟩:=Vs k G
   have q:=Jm Yg k p ep
   rw[es]
   by_cases y:k % 2=0
   .rw[if_pos y] at q ⊢;omega
   .rw[if_neg y] at q ⊢;omega
 obtain ⟨WN,_,_⟩:=I x Y x2 x3 (IY fun j p ep=>by
  have hj:=(KE.mp ep).1
  obtain ⟨p',Ta,es⟩:=Vs j hj
  rw[ep] at Ta;cases Ta
  have:=x4 j hj
  rw[es] at this
  by_cases y:j % 2=0
  .rw[if_pos y] at this ⊢;exact this
  .rw[if_neg y] at this ⊢;exact this)
 clear I
 refine⟨by omega,?_⟩
 refine lD (lo:=0) (n:=cs.length) (fun k δ=>∃(o:aaa) (Z:Option D),δ=[some (.pin u (vx c al ah o w r)),some (.lst (cs.map ki)),some (.int (g:Int)),some (.int (pl.1:Int)),some (.int x),Z,none,some (.pin al (dT low)),some (.pin ah (dT high))]/\bc n m o/\ap (if k % 2=0 then x else -x) (cs.drop k) o=ap x cs t) ⟨t,none,rfl,hT,rfl⟩ ?_ ?_
 .rintro k δ N G ⟨o,Z,rfl,U,L⟩ hN
  rw[MS]
  have O:cs[k]?=some cs[k]:=gV G
  obtain ⟨p,M⟩:∃p,cs[k]=p:=⟨_,rfl⟩
  rw[M] at O
  obtain ⟨pn,pm⟩:=SO p (MJ O)
  have hrl:=U.row pn
  have NO:=U.1
  rw[MO G,M] at L
  refine⟨u,_,o.map dI,rfl,rfl,by simp only[MM,L8,NR];omega,u,c.Filling,_,al,ah,dT low,dT high,[dT o,dI w,dI r],rfl,rfl,rfl,?_⟩
  walk_at "go"
  refine md O ?_
  walk_at "go"
  refine⟨p.1,(rowAt o p.1).map L3.D.int,by rw[c0 (by omega) (by omega),L7],?_,bN,?_⟩
  .rw[L4,show o[p.1]?=some (rowAt o p.1) by unfold rowAt;rw[dz,gV (by omega)];rfl];rfl
  walk_at "go"
  refine md O ?_
  walk_at "go"
  refine aP (by omega) ?_
  rw[L7]
  walk_at "go"
  have O4:∀v:Int,ap (if (k+1) % 2=0 then x else -x) (cs.drop (k+1)) (setCell o p.1 p.2 v)=ap x cs t->N [some (.pin u (L3.D.ins c.Filling ["low","high","table","wants","rooms"] [.raw (.ref al),.raw (.ref ah),.lst ((o.map dI).set p.1 (.lst (((rowAt o p.1).map L3.D.int).set p.2 (.int v)))),dI w,dI r])),some (.lst (cs.map ki)),some (.int (g:Int)),some (.int (pl.1:Int)),some (.int x),some (.int (k:Int)),none,some (.pin al (dT low)),some (.pin ah (dT high))]:=fun v hv=>by
   rw[uI,show L3.D.lst (((rowAt o p.1).set p.2 v).map L3.D.int)=dI ((rowAt o p.1).set p.2 v) from rfl,<- O2]
   exact hN _ ⟨setCell o p.1 p.2 v,_,rfl,U.setCell pn,hv⟩
  have Yf:∀y:Int,ap y (p::cs.drop (k+1)) o=ap (-y) (cs.drop (k+1)) (setCell o p.1 p.2 (cellAt o p.1 p.2+y)):=fun y=>rfl
  by_cases y:k % 2=0
  .rw[if_pos y,Yf] at L
   rw[if_pos (by omega)]
   refine md O ?_
   walk_at "go"
   exact⟨p.2,by rw[c0 (by omega) (by omega),L7],O4 _ (by rw[if_neg (by omega)];exact L)⟩
  .rw[if_neg y,Yf,Int.neg_neg] at L
   rw[if_neg (by omega)]
   refine md O ?_
   walk_at "go"
   exact⟨p.2,by rw[c0 (by omega) (by omega),L7],O4 _ (by rw[if_pos (by omega)];exact L)⟩
 .rintro δ ⟨o,Z,rfl,U,L⟩
  rw[NG] at L
  replace L:o=ap x cs t:=L
  subst L
  walk_at "go"
  refine⟨u,_,w.map L3.D.int,rfl,rfl,bN,u,c.Filling,_,al,ah,dT low,dT high,[dT (ap x cs t),dI w,dI r],rfl,rfl,rfl,?_⟩
  walk_at "go"
  refine aP (by omega) ?_
  rw[L7]
  refine⟨rfl,u,c.Filling,_,al,ah,dT low,dT high,[dT (ap x cs t),dI w,dI r],rfl,rfl,rfl,?_⟩
  walk_at "go"
  refine⟨pl.1,by rw[c0 (by omega) (by omega),L7],?_⟩
  rw[uI]
  refine⟨u,_,r.map L3.D.int,rfl,rfl,bN,u,c.Filling,_,al,ah,dT low,dT high,[dT (ap x cs t),dI (w.set pl.1 (w.getD pl.1 0 - x)),dI r],rfl,rfl,rfl,?_⟩
  walk_at "go"
  refine aP (by omega) ?_
  rw[L7]
  refine⟨rfl,u,c.Filling,_,al,ah,dT low,dT high,[dT (ap x cs t),dI (w.set pl.1 (w.getD pl.1 0 - x)),dI r],rfl,rfl,rfl,?_⟩
  walk_at "go"
  refine⟨g,by rw[c0 (by omega) (by omega),L7],?_⟩
  rw[uI]
  exact hP _ _ _ WN (Fo (by omega) (by omega) Ys)
def v7(a b:aab):aab:=(List.range a.length).map fun (i:Nat)=>a.getD i 0 - b.getD i 0
theorem zF{a b:aab}:(v7 a b).length=a.length:=by unfold v7;rw[mo,L9]
theorem less_get{a b:aab}{i:Nat}(h:i<a.length):(v7 a b).getD i 0=a.getD i 0 - b.getD i 0:=by
 unfold v7
 rw[dz,L4,MI h];rfl
def dq(c:Cs):DSp:=fun ds P=>∃(f cols:aab) (low:aaa) (al ah:Addr) (d:D) (n m:Nat),ds=[dI f,dI cols,.pin al (dT low),.pin ah d]/\bc n m low/\f.length=n/\cols.length=m/\1<=n/\n<=50/\m<=50/\P (vx c al ah low (v7 f (low.map List.sum)) (v7 cols ((turned m low).map List.sum)))
theorem qo{c:Cs}:bt (dq c):=by
 intro xs P u k h
 obtain ⟨a1,a2,t,s,r,q,p,o,e,n,m,j,i,g,f,h⟩:=h
 exact⟨a1,a2,t,s,r,q,p,o,e,n,m,j,i,g,f,k _ h⟩
theorem rK{c:Cs}:∀ds P,dq c ds P->ds.length=4:=by
 intro ds P h
 obtain ⟨_,_,_,_,_,_,_,_,e,_⟩:=h
 rw[e];rfl
theorem Ei{c:Cs}:∀ds P,(dq c) ds P->(dq c) ds fun d=>(∃ns dd,d=.ins c.Filling ns dd)/\P d:=by
 intro ds P h
 unfold dq at h ⊢
 obtain ⟨a1,a2,t,s,r,q,p,o,e,n,m,j,i,g,f,h⟩:=h;exact⟨a1,a2,t,s,r,q,p,o,e,n,m,j,i,g,f,⟨_,_,rfl⟩,h⟩
theorem sE{c:Cs}{f:Addr}{p:FuncData}(F:Bg K mg "Filling" c.Filling "Filling.__init__" gQ eh f p)(i:Fns K mg c)(T:Txt K mg base)(xs:Exs K mg base c):bE P w K mg base CX0 4 f p eh (spN K c.Filling (dq c)):=by
 obtain ⟨U,d0,t⟩:=i.h_copied_table
 have B:=i5 (P:=P) (w:=w) t i T xs
 obtain ⟨R,Z,j⟩:=i.h_less_row
 have q:=rW (P:=P) (w:=w) j i T xs
 obtain ⟨O,Y,u⟩:=i.h_sums_of_rows
 have z:=iV (P:=P) (w:=w) u i T xs
 obtain ⟨M,X,r⟩:=i.h_sums_of_columns
 have C:=jN (P:=P) (w:=w) r i T xs
 refine F.fn.ok sS (fun vs H Q E h=>Hg rK h) (fun y A outer s H vs Q E hr h=>?_)
 refine⟨_,(aj (ji (K:=K) rfl (pv 0) (pv 3) rfl) (aj (ji (K:=K) rfl (pv 0) (pv 4) rfl) (aj (ji (K:=K) rfl (pv 0) (wcl B hr t (af (pv 3) ak)) rfl) (aj (ji (K:=K) rfl (pv 0) (wcl q hr j (af (pv 1) (af (wcl z hr u (af (pv 3) ak)) ak))) rfl) (aw (ji (K:=K) rfl (pv 0) (wcl q hr j (af (pv 2) (af (wcl C hr r (af (pv 3) ak)) ak))) rfl)))))),KI (N:=j8) (oR xs.i_Filling.cl xs.n_Filling_low (ER.rawOf (ES.er (aa 3))) (oR xs.i_Filling.cl xs.n_Filling_high (ER.rawOf (ES.er (aa 4))) (oR xs.i_Filling.cl xs.n_Filling_table (aE (S:=cF) gH (ai (pf 3) aq)) (oR xs.i_Filling.cl xs.n_Filling_wants (aE (S:=fY) kK (ai (ES.er (aa 1)) (ai (EM.er (aE (S:=bX) dY (ai (pf 3) aq))) aq))) (Hm xs.i_Filling.cl xs.n_Filling_rooms (aE (S:=fY) kK (ai (ES.er (aa 2)) (ai (EM.er (aE (S:=bL) fi (ai (pf 3) aq))) aq)))))))) (fun ds P v=>?_) (by decide) (by decide +kernel) (by decide) h⟩
 obtain ⟨g,cols,low,al,ah,d,n,m,rfl,o,J,L,n1,G,I,x⟩:=v
 rw[show aL (j8.drop 1) [dI g,dI cols,.pin al (dT low),.pin ah d]=[some (dI g),some (dI cols),some (.pin al (dT low)),some (.pin ah d)] from rfl]
 have l1:=o.1
 walk_at "go"
 refine⟨al,_,rfl,?_⟩
 walk_at "go"
 refine⟨ah,_,rfl,?_⟩
 walk_at "go"
 refine⟨low,rfl,by omega,?_⟩
 walk_at "go"
 refine⟨low,rfl,by omega,?_⟩
 refine⟨g,_,rfl,by rw[mo];omega,by omega,?_⟩
 walk_at "go"
 refine⟨low,n,m,rfl,o,n1,by omega,by omega,?_⟩
 refine⟨cols,_,rfl,by unfold turned;rw[mo,mo,L9];omega,by omega,?_⟩
 exact x
theorem tY{c:aab}{l:aac}(p:c.Perm (l.map fun (x:Nat)=>(x:Int)))(o:c.Pairwise (·<=·))(nd:l.Nodup):∃R:aac,c=R.map (fun (x:Nat)=>(x:Int))/\R.Perm l/\R.Pairwise (· < ·):=by
 have pos:∀x∈c,0<=x:=fun x f=>by
  obtain ⟨y,_,rfl⟩:=Mb.mp (p.mem_iff.mp f)
  omega
 have e:(c.map Int.toNat).map (fun (x:Nat)=>(x:Int))=c:=by
  rw[Mz]
  conv=>rhs;rw[<- List.map_id c]
  exact Ob fun x f=>by show ((x.toNat:Nat):Int)=x;have:=pos x f;omega
 have g:(c.map Int.toNat).Perm l:=by
  have:=p.map Int.toNat
  rw[Mz] at this
  rw [show l.map (Int.toNat ∘ fun (x : Nat) => (x : Int)) = l by conv => rhs; rw [<- List.map_id l]
                                                                 exact Ob fun x _=>rfl] at this
  exact this
 refine⟨c.map Int.toNat,e.symm,g,?_⟩
 have j:(c.map Int.toNat).Nodup:=g.nodup_iff.mpr nd
 have i:(c.map Int.toNat).Pairwise (·<=·):=List.pairwise_map.mpr (o.imp fun {a b} h=>by omega)
 exact (i.and j).imp fun {a b} h=>by omega
theorem Dk{n m:Nat}{o cols:aab}{low high:aaa}{j:Nat}(p:bc n m low)(hj:j<m)(h:cols.getD j 0<ee low j):Cut n m o cols low high [] [j]:=by
 unfold Cut
 have e1:sN n (fun i=>if i∈([]:aac) then o.getD i 0 else 0)=0:=by
  rw[aF (g:=fun _=>0) fun i _=>if_neg Mo,bu]
 have e2:sN m (fun c=>if c∈[j] then cols.getD c 0 else 0)=cols.getD j 0:=by
  rw[<- xN (f:=fun c=>cols.getD c 0) (by simp) (by simpa using hj)];simp
 have q:sN n (fun i=>sN m fun c=>(if i∈([]:aac)/\c∉[j] then cellAt high i c else 0) - (if i∉([]:aac)/\c∈[j] then cellAt low i c else 0))=0 - ee low j:=by
  rw[nJ p]
  conv=>rhs;rw[<- bu (n:=n)]
  rw[<- jO]
  refine aF fun i _=>?_
  have:sN m (fun c=>(if i∈([]:aac)/\c∉[j] then cellAt high i c else 0) - (if i∉([]:aac)/\c∈[j] then cellAt low i c else 0))=sN m (fun _=>0) - sN m (fun c=>if c∈[j] then cellAt low i c else 0):=by
   rw[<- jO]
   refine aF fun c _=>?_
   rw[if_neg (fun z=>Mo z.1)]
   congr 1
   by_cases z:c∈[j]
   .rw[if_pos z,if_pos ⟨Mo,z⟩]
   .rw[if_neg z,if_neg (fun y=>z y.2)]
  rw[this,bu,<- xN (f:=fun c=>cellAt low i c) (by simp) (by simpa using hj)]
  simp
 rw[e1,e2,q];omega
theorem CN{a b:Int}:eqV (V.int a) (V.int b)=true↔a=b:=by
 show decide (a=b)=true↔_
 rw[decide_eq_true_eq]
theorem yZ{M:Int}:∀{l:aab},M∈l->∃j,j<l.length/\l.getD j 0=M/\∀k,k<j->l.getD k 0≠M
 |[],h=>nomatch h
 |x::l,h=>by
  by_cases e:x=M
  .exact⟨0,by simp,e,fun k c=>by omega⟩
  .obtain ⟨j,i,g,f⟩:=yZ (l:=l) ((L6.mp h).resolve_left (fun z=>e z.symm))
   refine⟨j+1,by simpa using i,g,fun k c=>?_⟩
   cases k with
   |zero=>exact e
   |succ k=>exact f k (by omega)
structure Bt(n m:Nat)(rows cols:aab)(low high t:aaa):Prop where
 rt:bc n m t
 bd:∀i j,i<n->j<m->cellAt low i j<=cellAt t i j/\cellAt t i j<=cellAt high i j
 rs:∀i,i<n->du t i=rows.getD i 0
 cs:∀j,j<m->ee t j=cols.getD j 0
structure Ct(n m:Nat)(rows cols:aab)(low high:aaa)(R Cs:aac):Prop where
 up1:R.Pairwise (· < ·)
 up2:Cs.Pairwise (· < ·)
 l1:∀i∈R,i<n
 l2:∀j∈Cs,j<m
 cut:Cut n m rows cols low high R Cs
def kB(c:Cs):DSO:=fun x h g P=>∃(low high:aaa) (w r f cols:aab) (al ah:Addr) (n m:Nat),x=vx c al ah low w r/\h=(al,dT low)/\g=(ah,dT high)/\bc n m low/\bc n m high/\Low n m low high/\1<=n/\n<=50/\1<=m/\m<=50/\f.length=n/\cols.length=m/\f.sum=cols.sum/\w.length=n/\r.length=m /\
 (∀i,i<n->f.getD i 0=w.getD i 0+du low i)/\(∀j,j<m->cols.getD j 0=r.getD j 0+ee low j) /\
 (∀t,Bt n m f cols low high t->P (.tup [.str "table",dT t]))/\∀R Cs,Ct n m f cols low high R Cs->P (.tup [.str "cut",dN R,dN Cs])
theorem mG{c:Cs}:Gd (kB c):=by
 intro x T S P U k h
 obtain ⟨a1,a2,J,I,H,G,F,E,B,Q,e1,e2,y,v,u,s,r,q,p,o,n,m,L,M,O,j,i,g,f⟩:=h
 exact⟨a1,a2,J,I,H,G,F,E,B,Q,e1,e2,y,v,u,s,r,q,p,o,n,m,L,M,O,j,i,fun t z=>k _ (g t z),fun R C z=>k _ (f R C z)⟩
theorem ok_Filling_outcome{c:Cs}{f:Addr}{fd:FuncData}(F:qR K c.Filling "outcome" "Filling.outcome" d7 cN f fd)(J:Fns K mg c)(T:Txt K mg base)(xs:Exs K mg base c):bE P w K mg base CX0 5 f fd cN (spO K (kB c)):=by
 obtain ⟨f0,d0,Z⟩:=J.h_Reach_init
 have Qx:=vp (P:=P) (w:=w) Z J T xs
 obtain ⟨f1,d1,Ou⟩:=J.h_Filling_pour
 have P5:=sk (P:=P) (w:=w) Ou J T xs
 obtain ⟨f2,d2,OW⟩:=J.h_Reach_way
 have QP:=ye (P:=P) (w:=w) OW J T xs
 refine F.fn.ok jT (fun vs H Q E h=>Io h) (fun cdv A outer s H vs Q E hr h=>?_)
 refine⟨_,rR [2,3] (fun i hi x hx=>by
  rcases (show i=2\/i=3 by simpa using hi) with rfl|rfl<;>(obtain rfl:=MB hx;rfl)) ((aj (bZ (aO nY (bF (qI (K:=K) rfl rfl) (by rfl) T.min_ boot_min (af (aX (K:=K) rfl (pv 0) rfl) ak)) ar (aW _)) (aw (aI (dU (af cw (af (bD ak) (af (bD (af (ia Mp PySem.F.slot_list_index PySem.F.type_list_index zB (aX (K:=K) rfl (pv 0) rfl) (af (bF (qI (K:=K) rfl rfl) (by rfl) T.min_ boot_min (af (aX (K:=K) rfl (pv 0) rfl) ak)) ak)) ak)) ak)))))) aY) (aj (mD PassesOwn.never (aO Co (bF (Ds (K:=K) rfl rfl) (by rfl) T.max_ boot_max (af (aX (K:=K) rfl (pv 0) rfl) ak)) ar (aW _)) (aj (wst 1 jT.nd (BQ Z.mkk Qx (hr.mono (by decide)) rfl Z.mg Z.bd .nil tQ (af (pv 0) ak))) (aj (bZ (aO Fz (aX (K:=K) rfl (pv 1) rfl) lQ (aW _)) (aw (aI (dU (af cw (af (bF (pN rfl) (by rfl) T.sorted_ boot_sorted (af (aX (K:=K) rfl (pv 1) rfl) ak)) (af (bF (pN rfl) (by rfl) T.sorted_ boot_sorted (af (aX (K:=K) rfl (pv 1) rfl) ak)) ak)))))) aY) (aw (cH (B6 (pv 0) xs.i_Filling.cl Ou.mt P5 (hr.mono (by decide)) Ou.bd .nil tQ (af (yM (pv 1) xs.i_Reach.cl OW.mt QP (hr.mono (by decide)) OW.bd .nil tQ) ak))))))) (aw (aI (dU (af cw (af (aX (K:=K) rfl (pv 0) rfl) ak)))))))),Ha (Γn:=[]) (N:=kF) 1 (ax (cS (CW 0 2 3 (aM (EM.er (ay kS (EM.er (aR AB (ai (ES.er (cf ["low","high","table","wants","rooms"] 4 xs.i_Filling.cl xs.n_Filling_rooms (aa 0))) aq))) (EM.er au))))) (aJ (M:=[]) (xk 0 2 3 (dP (aA cj (aA (bC aV) (aA (bC (aA (zC (ES.er (cf ["low","high","table","wants","rooms"] 4 xs.i_Filling.cl xs.n_Filling_rooms (aa 0))) (EM.er (aR AB (ai (ES.er (cf ["low","high","table","wants","rooms"] 4 xs.i_Filling.cl xs.n_Filling_rooms (aa 0))) aq)))) aV)) aV)))))) aZ) (ax (mW (CW 0 2 3 (aM (EM.er (ay kS (EM.er (aR J4 (ai (ES.er (cf ["low","high","table","wants","rooms"] 3 xs.i_Filling.cl xs.n_Filling_wants (aa 0))) aq))) (EM.er au))))) (ax (ST.post (Γn:=[0]) (aN 1 (EM.es (xk 0 2 3 (Fi sQ u0 (ai (ES.er (aa 0)) aq)))))) (ax (cS (aM (EM.er (ay IX (ES.er (cf ["rows","columns","goal"] 2 xs.i_Reach.cl xs.n_Reach_goal (aa 1))) (EM.er lS)))) (aJ (M:=[]) (dP (aA cj (aA (aR CO (ai (ES.er (cf ["rows","columns","goal"] 0 xs.i_Reach.cl xs.n_Reach_rows (aa 1))) aq)) (aA (aR CO (ai (ES.er (cf ["rows","columns","goal"] 1 xs.i_Reach.cl xs.n_Reach_columns (aa 1))) aq)) aV))))) aZ) (Hf 0 2 3 pR (Ii (EM.es (CV (C:=c.Reach) ["rows","columns","goal"] va (ES.er (aa 1)) aq)) Ke))))) (aJ (M:=[0]) (dP (gY cj (gY (II 0 ["low","high","table","wants","rooms"] 2 xs.i_Filling.cl xs.n_Filling_table) aV)))))) rfl rfl (fun y x g1 g2 P hS=>?_) h⟩
 obtain ⟨low,high,w,r,v,cols,al,ah,n,m,rfl,rfl,rfl,X,hH,SW,n1,U,m1,m5,lr,lc,Pr,lw,Xu,Zs,Sz,hT,XW⟩:=hS
 rw[show uF 1 y (vx c al ah low w r) [] (al,dT low) (ah,dT high)=[some (.pin y (vx c al ah low w r)),none,some (.pin al (dT low)),some (.pin ah (dT high))] from rfl]
 refine⟨y,c.Filling,_,al,ah,dT low,dT high,[dT low,dI w,dI r],rfl,rfl,rfl,?_⟩
 walk_at "go"
 intro M hM QR
 have YG:∀j,j<m->M<=r.getD j 0:=fun j hj=>QR _ (by rw[dz,gV (by omega)];exact MK _)
 by_cases S:M<0
 .rw[if_pos S]
  refine⟨y,c.Filling,_,al,ah,dT low,dT high,[dT low,dI w,dI r],rfl,rfl,rfl,?_⟩
  walk_at "go"
  refine pB rfl ⟨bN,by omega,fun M' XT Wg=>?_⟩
  obtain ⟨j,hj,ej,hf⟩:=yZ XT
  have hMM:=Wg M hM
  have at_:∀k,k<r.length->(r.map L3.D.int)[k]?=some (.int (r.getD k 0)):=fun k I=>by
   rw[L4,gV I,dz,gV I];rfl
  refine⟨j,⟨_,at_ j hj,?_⟩,fun k z I ez=>?_,by decide,by decide,?_⟩
  .rw[ej];exact CN.mpr rfl
  .rw[at_ k (by omega)] at ez
   cases ez
   exact Bool.eq_false_iff.mpr fun q=>hf k I (CN.mp q)
  .have:=Sz j (by omega)
   exact XW [] [j] ⟨.nil,List.pairwise_singleton _ _,fun i hi=>(nomatch hi),fun q hq=>by cases Gc.mp hq;omega,Dk X (by omega) (by omega)⟩
 rw[if_neg S]
 have Yw:Fl.St n m v cols low high low w r:=⟨X,lw,Xu,fun i j hi hj=>⟨Ov _,SW i j hi hj⟩,Zs,Sz,fun j hj=>by have:=YG j hj;omega,fun i hi _ j hj=>rfl⟩
 refine⟨fun μ δ=>∃(t:aaa) (w r:aab) (o1:Option D),μ=mu w/\δ=[some (.pin y (vx c al ah t w r)),o1,some (.pin al (dT low)),some (.pin ah (dT high))]/\Fl.St n m v cols low high t w r,⟨_,low,w,r,none,rfl,rfl,Yw⟩,?_⟩
 rintro μ δ ⟨t,w,r,o1,rfl,rfl,G⟩
 have lw:=G.wl
 refine⟨y,c.Filling,_,al,ah,dT low,dT high,[dT t,dI w,dI r],rfl,rfl,rfl,?_⟩
 walk_at "go"
 intro M hM Rj
 have Yr:∀i,i<n->w.getD i 0<=M:=fun i hi=>Rj _ (by rw[dz,gV (by omega)];exact MK _)
 by_cases S:0<M
 .rw[if_pos S]
  obtain ⟨k,I,ek⟩:∃k,k<n/\w.getD k 0=M:=by
   obtain ⟨k,I,e⟩:=Oc hM
   exact⟨k,by omega,by rw[dz,gV I];exact e⟩
  refine⟨y,c.Filling,_,al,ah,dT low,dT high,[dT t,dI w,dI r],rfl,rfl,rfl,?_⟩
  walk_at "go"
  refine⟨low,high,t,w,r,n,m,rfl,X,hH,G.rt,G.wl,G.rl,n1,U,m1,m5,fun layer as bs O rk ck B u L hg=>?_⟩
  cases O with
  |none =>
   have XE:=hg rfl
   walk_at "go"
   have la:(kys as).length<=50:=Mx (jR u.na fun p hp=>(u.la p hp).1) U
   have lb:(kys bs).length<=50:=Mx (jR u.nb fun p hp=>(u.lb p hp).1) m5
   refine⟨(kys as).map fun (p:Nat)=>(p:Int),BK,by rw[mo];omega,fun ms p1 p2=>?_⟩
   refine⟨(kys bs).map fun (p:Nat)=>(p:Int),BK,by rw[mo];omega,fun ms2 q1 q2=>?_⟩
   obtain ⟨R,rfl,rp,ru⟩:=tY p1 p2 u.na
   obtain ⟨Cs,rfl,Y,cu⟩:=tY q1 q2 u.nb
   walk_at "go"
   refine XW R Cs ⟨ru,cu,fun i hi=>(u.la i (rp.mem_iff.mp hi)).1,fun j hj=>(u.lb j (Y.mem_iff.mp hj)).1,JY G (fun i hi hw=>rp.mem_iff.mpr (u.st i hi hw)) (fun i hi=>?_) (fun i hi j hj NO=>Y.mem_iff.mpr (L.cr i (rp.mem_iff.mp hi) (by rw[XE];exact Mo) j hj NO)) (fun j hj=>L.gl j (Y.mem_iff.mp hj)) (fun j hj i hi NO=>rp.mem_iff.mpr (L.cc j (Y.mem_iff.mp hj) i hi NO)) k I (by omega)⟩
   have Qe:=rp.mem_iff.mp hi
   refine⟨(u.la i Qe).1,?_⟩
   obtain ⟨o,ho⟩:=AD Qe
   rcases u.pa i o ho with z|⟨c',_,z2,_,z4⟩
   .exact .inl z.2
   .exact .inr ⟨c',(u.lb c' z2).1,z4⟩
  |some g =>
   walk_at "go"
   refine⟨y,_,_,al,ah,dT low,dT high,rfl,rfl,rfl,by decide +kernel,?_⟩
   walk_at "go"
   refine⟨low,high,t,w,as,bs,rk,ck,n,m,B,g,rfl,u,L.gl.1,U,fun ps hW=>?_⟩
   refine⟨low,high,t,w,r,v,cols,al,ah,g,n,m,ps,rfl,rfl,rfl,rfl,X,hH,G,hW,L.gl.2,U,fun t' w' r' QA RM=>?_⟩
   exact⟨mu w',RM,t',w',r',_,rfl,rfl,QA⟩
 .rw[if_neg S]
  walk_at "go"
  refine⟨y,_,dT t,rfl,rfl,?_⟩
  walk_at "go"
  have fl:=filled G lr lc Pr fun i hi=>by have:=Yr i hi;omega
  exact hT t ⟨G.rt,G.bd,fl.1,fl.2⟩
def iS(c:Cs):DSX:=fun ds P R=>∃(f cols:aab) (low high:aaa) (n m:Nat),ds=[dI f,dI cols,dT low,dT high]/\bc n m low/\bc n m high/\1<=n/\n<=50/\1<=m/\m<=50/\f.length=n/\cols.length=m /\
 (¬ Low n m low high->R c.NoBounds)/\(Low n m low high->f.sum≠cols.sum->P (.tup [.str "unlike",.int f.sum,.int cols.sum])) /\
 (Low n m low high->f.sum=cols.sum->∀t,Bt n m f cols low high t->P (.tup [.str "table",dT t]))/\(Low n m low high->f.sum=cols.sum->∀U V,Ct n m f cols low high U V->P (.tup [.str "cut",dN U,dN V]))
theorem jX{c:Cs}:iX (iS c):=by
 intro xs P H R G k f h
 obtain ⟨a1,a2,B,x,v,u,e,s,r,p,o,n,m,j,i,g,C,E,F⟩:=h
 exact⟨a1,a2,B,x,v,u,e,s,r,p,o,n,m,j,i,fun z=>f _ (g z),fun z y=>k _ (C z y),fun z y t q=>k _ (E z y t q),fun z y U V q=>k _ (F z y U V q)⟩
theorem p9{c:Cs}:∀ds P R,iS c ds P R->ds.length=4:=by
 intro ds P R h
 obtain ⟨_,_,_,_,_,_,e,_⟩:=h
 rw[e];rfl
theorem ra{c:Cs}{f:Addr}{I:FuncData}(F:FnAt K mg "table_between" fQ dC f I)(p:Fns K mg c)(T:Txt K mg base)(xs:Exs K mg base c):bE P w K mg base (CXR P w) 6 f I dC (spX K (iS c)):=by
 obtain ⟨f0,d0,t⟩:=p.h_check_bounds
 have P4:=sU (P:=P) (w:=w) t p T xs
 obtain ⟨f1,d1,C⟩:=p.h_Filling_outcome
 have Pk:=ok_Filling_outcome (P:=P) (w:=w) C p T xs
 obtain ⟨f2,d2,u⟩:=p.h_Filling_init
 have P6:=sE (P:=P) (w:=w) u p T xs
 refine F.fn.okX rM (fun vs H Q E h=>pH p9 h) (fun Z A outer s H vs Q E hr h=>?_)
 refine⟨_,(aj (cH (jg P4 (hr.mono (by decide)) rfl t.mg t.fn.kp t.bd .nil xi (PA.nox (af (pv 2) (af (pv 3) ak))))) (PSs.nox (aj (bZ (aO uz (bF (ft (K:=K) rfl rfl) (by rfl) T.sum_ boot_sum (af (pv 0) ak)) (bF (ft (K:=K) rfl rfl) (by rfl) T.sum_ boot_sum (af (pv 1) ak)) (aW _)) (aw (aI (dU (af cw (af (bF (ft (K:=K) rfl rfl) (by rfl) T.sum_ boot_sum (af (pv 0) ak)) (af (bF (ft (K:=K) rfl rfl) (by rfl) T.sum_ boot_sum (af (pv 1) ak)) ak)))))) aY) (aw (aI (yM (BQ u.mkk P6 (hr.mono (by decide)) rfl u.mg u.bd .nil tQ (af (pv 0) (af (pv 1) (af (pv 2) (af (pv 3) ak))))) xs.i_Filling.cl C.mt Pk (hr.mono (by decide)) C.bd .nil tQ)))))),qm (Γn:=[]) (N:=i6) (fun R=>(iT (Hq p5 (ai (ES.er (aa 2)) (ai (ES.er (aa 3)) aq))) (ST.sx (ax (cS (aM (EM.er (ay BC (EM.er (aR qd (ai (ES.er (aa 0)) aq))) (EM.er (aR qd (ai (ES.er (aa 1)) aq)))))) (aJ (M:=[]) (dP (aA cj (aA (aR qd (ai (ES.er (aa 0)) aq)) (aA (aR qd (ai (ES.er (aa 1)) aq)) aV))))) aZ) (aJ (M:=[]) (G9 qo mG)))))) (fun ds P R U=>?_) h⟩
 obtain ⟨g,cols,low,high,n,m,rfl,q,G,n1,v,L,x,y,B,X,O,S,Y⟩:=U
 rw[show aL i6 [dI g,dI cols,dT low,dT high]=[some (dI g),some (dI cols),some (dT low),some (dT high)] from rfl]
 walk_at "go"
 refine⟨low,high,n,m,rfl,q,G,v,x,fun r=>?_,fun hb=>X hb⟩
 walk_at "go"
 by_cases o:g.sum=cols.sum
 .rw[if_neg (fun z=>z o)]
  refine⟨dI g,dI cols,dT low,dT high,rfl,rfl,rfl,rfl,rfl,rfl,fun a2 J=>?_⟩
  refine⟨g,cols,low,a2,J,dT high,n,m,rfl,q,y,B,n1,v,x,⟨_,_,rfl,by decide +kernel⟩,?_⟩
  have l1:=q.1
  refine⟨low,high,_,_,g,cols,a2,J,n,m,rfl,rfl,rfl,q,G,r,n1,v,L,x,y,B,o,by rw[zF];exact y,by rw[zF];exact B,fun i hi=>?_,fun j hj=>?_,S r o,Y r o⟩
  .rw[less_get (by omega)]
   have:(low.map List.sum).getD i 0=du low i:=by
    unfold du rowAt
    rw[dz,L4,gV (by omega),dz,gV (by omega)];rfl
   rw[this];omega
  .rw[less_get (by omega)]
   have:((turned m low).map List.sum).getD j 0=ee low j:=by
    unfold turned ee
    rw[dz,L4,L4,MI hj];rfl
   rw[this];omega
 .rw[if_pos o]
  walk_at "go"
  exact O r o
def reach(ns:aab)(m:Int):Int:=((ns.filter fun n=>decide (m<=n)).length:Nat)
def c8:DSp:=fun ds P=>∃ns m,ds=[dI ns,.int m]/\ns.length<=1000/\P (.int (reach ns m))
theorem nV:bt c8:=by
 intro xs P c k h
 unfold c8 at h ⊢
 grind
theorem oo:∀ds P,c8 ds P->ds.length=2:=by
 intro ds P h
 obtain ⟨_,_,e,_⟩:=h
 rw[e];rfl
theorem qb{c:Cs}{f:Addr}{j:FuncData}(F:FnAt K mg "how_many_reach" c7 dm f j)(t:Fns K mg c)(T:Txt K mg base)(xs:Exs K mg base c):bE P w K mg base CX0 1 f j dm (spP K c8):=by
 refine F.fn.ok oS (fun vs H Q E h=>aU oo h) (fun r A outer s H vs Q E hr h=>?_)
 refine⟨_,(aw (aI (wln K T.len_ (oW rfl (br.of (sc0:=(av c7)) (tn:=["number"]) (cap:=["level"]) (idx:=[1]) (by decide +kernel) rfl rfl) (wil K (pv 0)) (ma.name (by decide)) (fun _ _ _ _ _=>fU (i:=0) (bM (l:=["number","level"]) (by decide +kernel)) rfl (by walk_at "o") (by first|exact .inl rfl|exact .inr rfl)) (fun _ _ _ _ _=>pI (aO Jo (pv 0) (pv 1) (aW _))) (fun _ _ _ _ _=>(pv 0)) (by intro _;rfl))))),bh (Γn:=[]) (N:=ir) (aJ (M:=[]) (aR bJ (ai (EM.er (nG (bI (aa 0)) (aB 0) (aM (EM.er (ay kS (ES.er (aa 0)) (ES.er (aa 1))))) (ER.aQ (ES.er (aa 0))))) aq))) (fun ds P o=>?_) h⟩
 obtain ⟨ns,m,rfl,hl,q⟩:=o
 rw[show aL ir [dI ns,.int m]=[some (dI ns),some (.int m)] from rfl]
 walk_at "v"
 refine Bb (ns:=ns) (p:=fun n=>decide (m<=n)) (g:=L3.D.int) (fun R h=>h) hl (fun n hn R h=>?_) ?_
 .walk_at "vb"
  by_cases c:m<=n
  .rw[decide_eq_true c] at h;rw[if_pos c];exact h
  .rw[decide_eq_false c] at h;rw[if_neg c];exact h
 .rw[tF,mo];exact q
def gG(ns:aab)(m:Nat):aab:=(List.range m).map fun (k:Nat)=>reach ns (1+(k:Int))
def kY:DSp:=fun ds P=>∃(ns:aab) (m:Nat),ds=[dI ns,.int m]/\ns.length<=1000/\m<=8/\P (dI (gG ns m))
theorem xD:bt kY:=by
 intro xs P c k h
 unfold kY at h ⊢
 grind
theorem yQ:∀ds P,kY ds P->ds.length=2:=by
 intro ds P h
 obtain ⟨_,_,e,_⟩:=h
 rw[e];rfl
theorem AV{c:Cs}{f:Addr}{o:FuncData}(F:FnAt K mg "heap_of" k9 kZ f o)(q:Fns K mg c)(T:Txt K mg base)(xs:Exs K mg base c):bE P w K mg base CX0 2 f o kZ (spP K kY):=by
 obtain ⟨v,x,p⟩:=q.h_how_many_reach
 have u:=qb (P:=P) (w:=w) p q T xs
 refine F.fn.ok AG (fun vs H Q E h=>aU yQ h) (fun t A outer s H vs Q E hr h=>?_)
 refine⟨_,(aw (aI (wco (av k9) "level" ["sums"] [0] (DQ rfl T.range_ (af ar (af (aK cK (pv 1) ar) ak))) (fun _ _ _ _ _=>(wcl u hr p (af (pv 1) (af (pv 0) ak))))))),bh (Γn:=[]) (N:=rm) (aJ (M:=[]) (bx (Ho (ai (EM.er au) (ai (EM.er (ay cJ (ES.er (aa 1)) (EM.er au))) aq))) (aB 0) (aE (S:=c8) nV (ai (ES.er (aa 1)) (ai (ES.er (aa 0)) aq))))) (fun ds P r=>?_) h⟩
 obtain ⟨ns,m,rfl,hl,hm,j⟩:=r
 rw[show aL rm [dI ns,.int m]=[some (dI ns),some (.int m)] from rfl]
 walk_at "v"
 have e:(((m:Int)+1) - 1).toNat=m:=by omega
 refine eY (lo:=1) (n:=m) (g:=fun (k:Nat)=>.int (reach ns (1+(k:Int)))) (fun R h=>?_) (by omega) (fun i hi R h=>?_) ?_
 .walk_at "v"
  rw[e]
  exact⟨by omega,h⟩
 .walk_at "vb"
  exact⟨ns,_,rfl,hl,h⟩
 .unfold gG at j;rw[dI,Mz] at j;exact j
def Sg(m:Nat)(f:Nat->Int):Int:=((List.range m).map f).sum
theorem yu{f:Nat->Int}:Sg 0 f=0:=rfl
theorem dX{m:Nat}{f:Nat->Int}:Sg (m+1) f=Sg m f+f m:=by
 unfold Sg
 rw[Nq,Mf,List.sum_append]
 simp
theorem dD{m:Nat}{f g:Nat->Int}(h:∀j,j<m->f j=g j):Sg m f=Sg m g:=by
 unfold Sg
 exact congrArg List.sum (Ob fun j hj=>h j (Mh.mp hj))
theorem kJ{f g:Nat->Int}:∀{m:Nat},Sg m (fun j=>f j+g j)=Sg m f+Sg m g
 |0=>rfl
 |m+1=>by rw[dX,dX,dX,kJ];omega
theorem qc{f g:Nat->Int}:∀{m:Nat},(∀j,j<m->f j<=g j)->Sg m f<=Sg m g
 |0,_=>Ov _
 |m+1,h=>by
  rw[dX,dX]
  have:=qc (m:=m) fun j hj=>h j (by omega)
  have:=h m (by omega)
  omega
theorem fu:∀{m:Nat},Sg m (fun _=>0)=0
 |0=>rfl
 |m+1=>by rw[dX,fu];rfl
theorem oy{f:Nat->Int}{p:Nat}{v:Int}:∀{m:Nat},p<m->Sg m (fun j=>if j=p then v else f j)=Sg m f+v - f p
 |0,h=>by omega
 |m+1,h=>by
  rw[dX,dX]
  by_cases e:p=m
  .subst e
   rw[if_pos rfl,dD (g:=f) fun j hj=>if_neg (by omega)]
   omega
  .rw[if_neg (fun z=>e z.symm),oy (by omega)]
   omega
def b9(m:Nat):aab->(Nat->Int)->Prop
 |[],c=>∀j,j<m->c j=0
 |r::rs,c=>∃b:Nat->Int,(∀j,j<m->b j=0\/b j=1)/\Sg m b=r/\b9 m rs fun j=>c j - b j
theorem b9.congr{m:Nat}:∀{rs:aab}{c f:Nat->Int},b9 m rs c->(∀j,j<m->c j=f j)->b9 m rs f
 |[],c,f,h,e=>fun j hj=>by rw[<- e j hj];exact h j hj
 |r::rs,c,f,⟨b,n,i,g⟩,e=>⟨b,n,i,g.congr fun j hj=>by rw[e j hj]⟩
theorem b9.swap{m:Nat}{i h:Int}{rs:aab}{c:Nat->Int}:b9 m (i::h::rs) c->b9 m (h::i::rs) c
 |⟨g,r,q,f,p,o,n⟩=>⟨f,p,o,g,r,q,n.congr fun j _=>by show c j - g j - f j=c j - f j - g j;omega⟩
theorem b9.perm{m:Nat}{rs f:aab}(p:rs.Perm f):∀{c:Nat->Int},b9 m rs c->b9 m f c:=by
 induction p with
 |nil=>exact fun h=>h
 |cons x _ ih=>exact fun ⟨b,j,i,g⟩=>⟨b,j,i,ih g⟩
 |swap x y l=>exact fun h=>h.swap
 |trans _ _ n o=>exact fun h=>o (n h)
theorem b9.nonneg{m:Nat}:∀{rs:aab}{c:Nat->Int},b9 m rs c->∀j,j<m->0<=c j
 |[],c,h,j,hj=>by rw[h j hj];omega
 |r::rs,c,⟨b,g,i,f⟩,j,hj=>by
  have:=b9.nonneg f j hj
  rcases g j hj with e|e<;>omega
theorem b9.sums{m:Nat}:∀{rs:aab}{c:Nat->Int},b9 m rs c->rs.sum=Sg m c
 |[],c,h=>by rw[dD (g:=fun _=>0) h,fu];rfl
 |r::rs,c,⟨b,n,i,f⟩=>by
  rw[MD,f.sums,<- i,<- kJ]
  exact dD fun j _=>by omega
theorem b9.head{m:Nat}{ys:aab}:∀{xs:aab}{c:Nat->Int},b9 m (xs++ys) c->xs.sum<=Sg m fun j=>min (c j) (xs.length:Int)
 |[],c,h=>by
  have:Sg m (fun _=>0)<=Sg m fun j=>min (c j) (([]:aab).length:Int):=qc fun j hj=>by
   have:=h.nonneg j hj
   simp only[NR]
   omega
  rw[fu] at this
  exact this
 |r::xs,c,⟨b,i,g,f⟩=>by
  have ih:=b9.head (xs:=xs) f
  rw[MD,<- g]
  refine Int.le_trans (Int.add_le_add_left ih _) ?_
  rw[<- kJ]
  refine qc fun j hj=>?_
  rw[L8]
  rcases i j hj with e|e<;>rw[e]<;>omega
theorem b9.move{m p q:Nat}(g:p<m)(f:q<m)(t:p≠q):∀{rs:aab}{c:Nat->Int},b9 m rs c->c q<c p->b9 m rs fun j=>if j=p then c p - 1 else if j=q then c q+1 else c j
 |[],c,h,v=>by have:=h p g;have:=h q f;omega
 |r::rs,c,⟨b,i,o,n⟩,v=>by
  by_cases hb:b p=1/\b q=0
  .refine⟨fun j=>if j=p then 0 else if j=q then 1 else b j,fun j hj=>?_,?_,n.congr fun j hj=>?_⟩
   .by_cases e1:j=p
    .simp only[if_pos e1];exact .inl trivial
    by_cases e2:j=q
    .simp only[if_neg e1,if_pos e2];exact .inr trivial
    .simp only[if_neg e1,if_neg e2];exact i j hj
   .rw[oy g,oy f,o,if_neg t]
    omega
   .by_cases e1:j=p
    .subst e1
     simp only[if_true];omega
    by_cases e2:j=q
    .subst e2
     simp only[if_neg e1,if_true];omega
    .simp only[if_neg e1,if_neg e2]
  .have u:c q - b q<c p - b p:=by
    rcases i p g with e|e<;>rcases i q f with s|s<;>first|omega|exact absurd ⟨e,s⟩ hb
   refine⟨b,i,o,(b9.move g f t n u).congr fun j hj=>?_⟩
   by_cases e1:j=p
   .subst e1
    simp only[if_true];omega
   by_cases e2:j=q
   .subst e2
    simp only[if_neg e1,if_true];omega
   .simp only[if_neg e1,if_neg e2]
def ind(T:Nat->Bool)(j:Nat):Int:=if T j=true then 1 else 0
theorem Jb{T:Nat->Bool}{j:Nat}:ind T j=0\/ind T j=1:=by unfold ind;split<;>simp
theorem b9.Kf{m:Nat}{rs:aab}{c:Nat->Int}{r:Int}{T:Nat->Bool}(J:Sg m (ind T)=r)(I:∀j k,j<m->k<m->T j=true->T k=false->c k<=c j):∀(d:Nat) (b:Nat->Int),(∀j,j<m->b j=0\/b j=1)->Sg m b=r->b9 m rs (fun j=>c j - b j) ->
  Sg m (fun j=>if T j=true/\b j=0 then 1 else 0)=(d:Int)->b9 m rs fun j=>c j - ind T j:=by
 have C:∀{f:Nat->Int}{m:Nat},(∀j,j<m->0<=f j)->0<Sg m f->∃j,j<m/\0<f j:=by
  intro f m
  induction m with
  |zero=>intro _ h;exact absurd h (by rw[yu];omega)
  |succ m ih =>
   intro t h
   by_cases e:0<f m
   .exact⟨m,by omega,e⟩
   .rw[dX] at h
    obtain ⟨j,n,i⟩:=ih (fun j hj=>t j (by omega)) (by omega)
    exact⟨j,by omega,i⟩
 have E:∀{f:Nat->Int}{m:Nat},(∀j,j<m->0<=f j)->Sg m f=0->∀j,j<m->f j=0:=by
  intro f m
  induction m with
  |zero=>intro _ _ j hj;omega
  |succ m ih =>
   intro t h j hj
   rw[dX] at h
   have n:0<=Sg m f:=by
    have:=qc (m:=m) (f:=fun _=>0) (g:=f) fun j hj=>t j (by omega)
    rw[fu] at this;exact this
   have i:=t m (by omega)
   by_cases e:j=m
   .subst e;omega
   .exact ih (fun j hj=>t j (by omega)) (by omega) j (by omega)
 have y:∀b:Nat->Int,(∀j,j<m->b j=0\/b j=1)->Sg m b=r->Sg m (fun j=>if T j=true/\b j=0 then 1 else 0)=Sg m fun j=>if T j=false/\b j=1 then 1 else 0:=by
  intro b n i
  have e1:Sg m (fun j=>ind T j+if T j=false/\b j=1 then 1 else 0)=Sg m fun j=>b j+if T j=true/\b j=0 then 1 else 0:=dD fun j hj=>by
   unfold ind
   rcases n j hj with e|e<;>cases T j<;>simp [e]
  rw[kJ,kJ,J,i] at e1
  omega
 intro d
 induction d with
 |zero =>
  intro b n i x hd
  have G:=E (m:=m) (f:=fun j=>if T j=true/\b j=0 then 1 else 0) (fun j _=>by split<;>omega) hd
  have F:=E (m:=m) (f:=fun j=>if T j=false/\b j=1 then 1 else 0) (fun j _=>by split<;>omega) (by rw[<- y b n i];exact hd)
  refine x.congr fun j hj=>?_
  have o:=G j hj
  have s:=F j hj
  unfold ind
  rcases n j hj with e|e<;>cases hTj:T j<;>simp_all
 |succ d ih =>
  intro b n i x hd
  obtain ⟨p,u,H⟩:=C (m:=m) (f:=fun j=>if T j=true/\b j=0 then 1 else 0) (fun j _=>by split<;>omega) (by rw[hd];omega)
  obtain ⟨q,v,q2⟩:=C (m:=m) (f:=fun j=>if T j=false/\b j=1 then 1 else 0) (fun j _=>by split<;>omega) (by rw[<- y b n i,hd];omega)
  have o:T p=true/\b p=0:=by
   by_cases e:T p=true/\b p=0
   .exact e
   .rw[if_neg e] at H;omega
  have s:T q=false/\b q=1:=by
   by_cases e:T q=false/\b q=1
   .exact e
   .rw[if_neg e] at q2;omega
  have B:p≠q:=fun z=>by rw[z,s.1] at o;exact absurd o.1 (by simp)
  have M:=I p q u v o.1 s.1
  refine ih (fun j=>if j=p then 1 else if j=q then 0 else b j) (fun j hj=>?_) ?_ ((x.move u v B (by omega)).congr fun j hj=>?_) ?_
  .by_cases e1:j=p
   .simp only[if_pos e1];exact .inr trivial
   by_cases e2:j=q
   .simp only[if_neg e1,if_pos e2];exact .inl trivial
   .simp only[if_neg e1,if_neg e2];exact n j hj
  .rw[oy u,oy v,i,if_neg B,o.2,s.2]
   omega
  .by_cases e1:j=p
   .subst e1
    simp only[if_true];omega
   by_cases e2:j=q
   .subst e2
    simp only[if_neg e1,if_true];omega
   .simp only[if_neg e1,if_neg e2]
  .have L:Sg m (fun j=>if T j=true/\(if j=p then 1 else if j=q then 0 else b j)=0 then (1:Int) else 0)=Sg m fun j=>if j=p then 0 else if T j=true/\b j=0 then 1 else 0:=dD fun j hj=>by
    by_cases e1:j=p
    .simp [e1]
    by_cases e2:j=q
    .subst e2
     simp [e1,s.1]
    .simp only[if_neg e1,if_neg e2]
   rw[L,oy u,hd,if_pos o]
   omega
theorem b9.next{m:Nat}{rs:aab}{c:Nat->Int}{r:Int}{T:Nat->Bool}(h:b9 m (r::rs) c)(n:Sg m (ind T)=r)(i:∀j k,j<m->k<m->T j=true->T k=false->c k<=c j):b9 m rs fun j=>c j - ind T j:=by
 obtain ⟨b,q,p,o⟩:=h
 have s:0<=Sg m fun j=>if T j=true/\b j=0 then (1:Int) else 0:=by
  have:=qc (m:=m) (f:=fun _=>0) (g:=fun j=>if T j=true/\b j=0 then (1:Int) else 0) fun j _=>by split<;>omega
  rw[fu] at this;exact this
 exact b9.Kf n i _ b q p o (Od s).symm
theorem b9.bound{m:Nat}{rs:aab}{c:Nat->Int}{r:Int}(h:b9 m (r::rs) c):0<=r/\r<=m:=by
 obtain ⟨b,f,n,i⟩:=h
 have e1:Sg m (fun _=>0)<=Sg m b:=qc fun j hj=>by rcases f j hj with e|e<;>omega
 have e2:Sg m b<=Sg m fun _=>1:=qc fun j hj=>by rcases f j hj with e|e<;>omega
 have g:∀m:Nat,Sg m (fun _=>1)=(m:Int):=fun m=>by
  induction m with
  |zero=>rfl
  |succ m ih=>rw[dX,ih];omega
 rw[fu] at e1
 rw[g] at e2
 omega
theorem oh{c m:Int}{ns:aab}:reach (c::ns) m=(if m<=c then 1 else 0)+reach ns m:=by
 unfold reach
 rw[List.filter_cons]
 by_cases h:m<=c
 .rw[if_pos (by simpa using h),if_pos h,L8];omega
 .rw[if_neg (by simpa using h),if_neg h];omega
theorem uS{a b:Int}(h:a<=b):∀{ns:aab},reach ns b<=reach ns a
 |[]=>by simp [reach]
 |c::ns=>by
  have:=uS h (ns:=ns)
  rw[oh,oh]
  by_cases f:b<=c
  .rw[if_pos f,if_pos (by omega)];omega
  .rw[if_neg f];split<;>omega
theorem vX{ns:aab}{m:Nat}:(gG ns m).Pairwise (·>=·):=by
 unfold gG
 rw[List.pairwise_map]
 exact (List.pairwise_lt_range (n:=m)).imp fun h=>uS (by omega)
theorem CT{c:Int}(f:0<=c):∀(k:Nat),Sg k (fun l=>if 1+(l:Int)<=c then 1 else 0)=min c k
 |0=>by rw[yu];omega
 |k+1=>by
  rw[dX,CT f k]
  split<;>omega
theorem zR{k:Nat}:∀{ns:aab},(∀c∈ns,0<=c)->Sg k (fun l=>reach ns (1+(l:Int)))=(ns.map fun c=>min c (k:Int)).sum
 |[],_=>by
  rw[N8,dD (g:=fun _=>0) (fun j _=>by simp [reach]),fu];rfl
 |c::ns,h=>by
  rw[Mc,MD,<- zR fun x f=>h x (Fk _ f),<- CT (h c ox),<- kJ]
  exact dD fun j _=>oh
theorem qw{f:Int->Int}{ns:aab}:Sg ns.length (fun j=>f (ns.getD j 0))=(ns.map f).sum:=by
 unfold Sg
 congr 1
 refine Nf (by simp) fun i g c=>?_
 rw[mo] at c
 rw[M0,M0,Nn,dz,gV c,M3]
theorem vY{ns:aab}{m k:Nat}(h:∀c∈ns,0<=c)(f:k<=m):((gG ns m).take k).sum=(ns.map fun c=>min c (k:Int)).sum:=by
 rw[<- zR h]
 unfold gG Sg
 rw[<- List.map_take,List.take_range,NQ f]
theorem b9.heads{f cols fs:aab}(h:b9 cols.length f fun j=>cols.getD j 0)(g:fs.Perm f){k:Nat}(i:k<=f.length):(fs.take k).sum<=((gG cols f.length).take k).sum:=by
 have o:∀c∈cols,0<=c:=fun c m=>by
  obtain ⟨j,hj,rfl⟩:=Oc m
  have:=h.nonneg j hj
  rwa [dz,gV hj,M3] at this
 have n:b9 cols.length (fs.take k++fs.drop k) fun j=>cols.getD j 0:=by rw[Nl];exact h.perm g.symm
 have:=n.head
 rw[M4,g.length_eq,NQ i] at this
 rw[vY o i,<- qw]
 exact this
theorem b9.HQ{m:Nat}:∀{t:aaa},(∀r∈t,r.length=m)->(∀r∈t,∀v∈r,v=0\/v=1)->b9 m (t.map List.sum) fun j=>(t.map fun r=>r.getD j 0).sum
 |[],_,_=>fun j _=>rfl
 |r::t,h,g=>by
  have hl:=h r ox
  refine⟨fun j=>r.getD j 0,fun j hj=>?_,?_,(b9.HQ (fun x c=>h x (Fk _ c)) fun x c=>g x (Fk _ c)).congr fun j hj=>?_⟩
  .refine g r ox _ ?_
   show r.getD j 0∈r
   rw[dz,gV (by omega),M3]
   exact MK _
  .rw[<- hl,qw (f:=fun x=>x),List.map_id']
  .show _=(List.map _ (r::t)).sum - r.getD j 0
   rw[Mc,MD];omega
def iK(ps:aab)(m:Nat):aab:=(List.range m).map fun (j:Nat)=>if (j:Int)∈ps then 1 else 0
theorem yr{ps:aab}{m:Nat}:(iK ps m).length=m:=by unfold iK;rw[mo,L9]
theorem Es{ps:aab}{m j:Nat}(hj:j<m):(iK ps m).getD j 0=ind (fun (j:Nat)=>decide ((j:Int)∈ps)) j:=by
 unfold iK ind
 rw[dz,L4,MI hj]
 simp
theorem vL{ps:aab}{m:Nat}(nd:ps.Nodup)(hm:∀x∈ps,0<=x/\x<m):(iK ps m).sum=ps.length:=by
 have e:((List.range m).filter fun (j:Nat)=>decide ((j:Int)∈ps)).length=ps.length:=by
  have:(((List.range m).filter fun (j:Nat)=>decide ((j:Int)∈ps)).map fun (j:Nat)=>(j:Int)).Perm ps:=by
   refine (List.perm_ext_iff_of_nodup (OA _ (fun a b f=>by show (a:Int)≠b;omega) (List.nodup_range.filter _)) nd).mpr fun x=>?_
   constructor
   .intro c
    obtain ⟨i,hi,rfl⟩:=Mb.mp c
    exact of_decide_eq_true (MP.mp hi).2
   .intro c
    have:=hm x c
    exact Mb.mpr ⟨x.toNat,MP.mpr ⟨Mh.mpr (by omega),decide_eq_true (by rw[Od this.1];exact c)⟩,Od this.1⟩
  have:=this.length_eq
  rwa [mo] at this
 rw[<- e]
 unfold iK
 clear e
 induction List.range m with
 |nil=>rfl
 |cons j l ih =>
  rw[Mc,MD,ih,List.filter_cons]
  by_cases h:(j:Int)∈ps
  .rw[if_pos h,if_pos (by simpa using h),L8];omega
  .rw[if_neg h,if_neg (by simpa using h)];omega
theorem b9.turn{m k:Nat}{rs:aab}{r:Int}{left fp:aab}(h:b9 m (r::rs) fun j=>left.getD j 0)(p:r=(k:Int))(v:k<=m)(f:fp.Perm (lJ m))(o:fp.Pairwise fun a b=>left.getD b.toNat 0<=left.getD a.toNat 0) :
  (iK (fp.take k) m).sum=r/\b9 m rs fun j=>left.getD j 0 - (iK (fp.take k) m).getD j 0:=by
 have nd:fp.Nodup:=f.nodup_iff.mpr (OA _ (fun a b C=>by show (a:Int)≠b;omega) List.nodup_range)
 have c:∀x∈fp,0<=x/\x<m:=fun x g=>by
  obtain ⟨i,hi,rfl⟩:=Mb.mp (f.mem_iff.mp g)
  have:=Mh.mp hi
  omega
 have B:fp.length=m:=by rw[f.length_eq,mo,L9]
 have n:(iK (fp.take k) m).sum=r:=by
  rw[vL (nd.sublist (List.take_sublist ..)) fun x g=>c x (N1 g),M4,p,B,NQ v]
 refine⟨n,(h.next (T:=fun (j:Nat)=>decide ((j:Int)∈fp.take k)) ?_ fun a b ha hb s q=>?_).congr fun j hj=>?_⟩
 .rw[<- n]
  unfold iK Sg ind
  simp only[decide_eq_true_eq]
 .have t:=of_decide_eq_true s
  have u:=of_decide_eq_false q
  have y:(b:Int)∈fp.drop k:=by
   have:(b:Int)∈fp:=f.mem_iff.mpr (Mb.mpr ⟨b,Mh.mpr hb,rfl⟩)
   rw[<- Nl k fp] at this
   rcases Ma.mp this with z|z
   .exact absurd z u
   .exact z
  rw[<- Nl k fp] at o
  exact (List.pairwise_append.mp o).2.2 _ t _ y
 .rw[Es hj]
theorem LH{ns:aab}{x:Int}:inD (.int x) (ns.map L3.D.int)=decide (x∈ns):=by
 have:inD (.int x) (ns.map L3.D.int)=true↔x∈ns:=by
  unfold inD inV
  rw[List.any_eq_true]
  constructor
  .rintro ⟨v,f,e⟩
   obtain ⟨d,hd,rfl⟩:=Mb.mp f
   obtain ⟨z,c,rfl⟩:=Mb.mp hd
   have g:(z == x)=true:=e
   rw[<- eq_of_beq g];exact c
  .intro h
   exact⟨.int x,Mb.mpr ⟨.int x,Mb.mpr ⟨x,h,rfl⟩,rfl⟩,by show (x == x)=true;exact beq_self_eq_true _⟩
 by_cases h:x∈ns
 .rw[decide_eq_true h];exact this.mpr h
 .rw[decide_eq_false h]
  cases e:inD (.int x) (ns.map L3.D.int) with
  |false=>rfl
  |true=>exact absurd (this.mp e) h
theorem IU{c:Bool}{x:Int}{ns:aab}{P:DK}(h:P (.bl (if c then !decide (x∈ns) else decide (x∈ns)))):vIn c (.int x) (dI ns) P:=by
 refine⟨rfl,bN,?_⟩
 rw[LH]
 exact h
def fL:DSp:=fun ds P=>∃(ps:aab) (n:Nat),ds=[dI ps,.int n]/\n<=1000/\P (dI (iK ps n))
theorem qy:bt fL:=by
 intro xs P c k h
 unfold fL at h ⊢
 grind
theorem sA:∀ds P,fL ds P->ds.length=2:=by
 intro ds P h
 obtain ⟨_,_,e,_⟩:=h
 rw[e];rfl
theorem ve{c:Cs}{f:Addr}{j:FuncData}(F:FnAt K mg "row_of_ones" fH fG f j)(q:Fns K mg c)(T:Txt K mg base)(xs:Exs K mg base c):bE P w K mg base CX0 1 f j fG (spP K fL):=by
 refine F.fn.ok uJ (fun vs H Q E h=>aU sA h) (fun p A outer s H vs Q E hr h=>?_)
 refine⟨_,(aw (aI (wco (av fH) "place" ["places"] [0] (bw rfl T.range_ (af (pv 1) ak)) (fun _ _ _ _ _=>(uX (aO (J3 (K:=K) rfl) (pv 0) (pv 1) (by with_unfolding_all rfl)) ar ar))))),bh (Γn:=[]) (N:=kL) (aJ (M:=[]) (bx (cn (ai (ES.er (aa 1)) aq)) (aB 0) (Fq (aM (EM.er (ay Kz (ES.er (aa 0)) (ES.er (aa 1))))) au au))) (fun ds P m=>?_) h⟩
 obtain ⟨ps,n,rfl,hn,o⟩:=m
 rw[show aL kL [dI ps,.int n]=[some (dI ps),some (.int n)] from rfl]
 walk_at "v"
 refine eY (lo:=0) (n:=n) (g:=fun (i:Nat)=>.int (if (i:Int)∈ps then 1 else 0)) (fun R h=>?_) hn (fun i hi R h=>?_) ?_
 .walk_at "go";exact h
 .walk_at "gb"
  rw[MS]
  refine IU ?_
  simp only[Nc,if_false]
  walk_at "gb"
  by_cases h':(i:Int)∈ps
  .rw[if_pos h'] at h ⊢
   exact h
  .rw[if_neg h'] at h ⊢
   exact h
 .rw[km];exact o
def Ja(c cols:aab)(t:aaa):Prop:=bc c.length cols.length t/\(∀r∈t,∀v∈r,v=0\/v=1)/\t.map List.sum=c/\∀j,j<cols.length->(t.map fun r=>r.getD j 0).sum=cols.getD j 0
def gI:DSp:=fun ds P=>∃c cols:aab,ds=[dI c,dI cols]/\cols.length<64/\c.length<=100/\b9 cols.length c (fun j=>cols.getD j 0)/\∀t,Ja c cols t->P (dT t)
theorem A8{ns:aab}{k:Nat}:L3.cutD (ns.map L3.D.int) none (some (k:Int))=(ns.take k).map L3.D.int:=by
 unfold L3.cutD
 rw[mo,HT.uQ,HT.xB,N2,Nat.sub_zero,List.map_take]
 rcases Nat.le_total k ns.length with h|h
 .rw[NQ h]
 .rw[Nat.min_eq_right h,Ni (by rw[mo];exact Md _),Ni (by rw[mo];exact h)]
theorem As{f:Nat->Int}{m j:Nat}(h:j<m):((List.range m).map f).getD j 0=f j:=by
 rw[dz,L4,MI h];rfl
theorem pM:bt gI:=by
 intro xs P j k h
 obtain ⟨c,cols,e,i,g,f,h⟩:=h
 exact⟨c,cols,e,i,g,f,fun t ht=>k _ (h t ht)⟩
theorem rA:∀ds P,gI ds P->ds.length=2:=by
 intro ds P h
 obtain ⟨_,_,e,_⟩:=h
 rw[e];rfl
theorem sJ{c:Cs}{f:Addr}{O:FuncData}(F:FnAt K mg "filled_table" gM eF f O)(o:Fns K mg c)(T:Txt K mg base)(xs:Exs K mg base c):bE P w K mg base CX0 2 f O eF (spP K gI):=by
 obtain ⟨f0,d0,R⟩:=o.h_row_of_ones
 have Qg:=ve (P:=P) (w:=w) R o T xs
 obtain ⟨f1,d1,X⟩:=o.h_less_row
 have OH:=rW (P:=P) (w:=w) X o T xs
 obtain ⟨f2,d2,U⟩:=o.h_falling_places
 have N3:=kH (P:=P) (w:=w) U o T xs
 refine F.fn.ok cL (fun vs H Q E h=>aU rA h) (fun cdv A outer s H vs Q E hr h=>?_)
 refine⟨_,(aj (wst 2 cL.nd (pv 1)) (aj (wst 3 cL.nd (bD ak)) (aj (wfo (wil K (pv 0)) (wpg 4 cL.nd) (aj (wst 5 cL.nd (wcl Qg hr R (af (iQ (iJ (K:=K) rfl) (wcl N3 hr U (af (pv 2) ak)) me (jf (pv 4))) (af (wln K T.len_ (pv 2)) ak)))) (aj (wst 2 cL.nd (wcl OH hr X (af (pv 2) (af (pv 5) ak)))) (aw (cH (ia Mp Mw Mv bQ (pv 3) (af (pv 5) ak))))))) (aw (aI (pv 3)))))),bh (Γn:=[3]) (N:=jG) (ax (ST.post (Γn:=[]) (aN 2 (aa 1))) (ax (ST.post (Γn:=[3]) (bV (M:=[]) 3 (bC aV))) (ax (dQ (bI (aa 0)) (aB 4) (ax (ST.post (Γn:=[5,3]) (bV (M:=[]) 5 (aE (S:=fL) qy (ai (EM.er (sf (EM.er (aE (S:=df) ja (ai (ES.er (aa 2)) aq))) or_none (or_some (ES.er (aa 4))))) (ai (EM.er (aR bJ (ai (ES.er (aa 2)) aq))) aq))))) (ax (ST.post (Γn:=[5,3]) (aN 2 (EM.es (aE (S:=fY) kK (ai (ES.er (aa 2)) (ai (gh 5) aq)))))) (ST.post (Γn:=[3]) (bR (M:=[5]) 3 (ix 5)))))) (aJ (M:=[3]) (ix 3))))) (fun ds P Z=>?_) h⟩
 obtain ⟨g,cols,rfl,RV,QJ,UE,hP⟩:=Z
 rw[show aL jG [dI g,dI cols]=[some (dI g),some (dI cols),none,none,none,none] from rfl]
 walk_at "go"
 refine cO (as:=g) (f:=L3.D.int) (fun i δ=>∃(left:aab) (t:aaa) (B z:Option D),δ=[some (dI g),some (dI cols),some (dI left),some (dT t),B,z]/\left.length=cols.length/\bc i cols.length t/\(∀r∈t,∀v∈r,v=0\/v=1)/\t.map List.sum=g.take i/\(∀j,j<cols.length->left.getD j 0+(t.map fun r=>r.getD j 0).sum=cols.getD j 0)/\b9 cols.length (g.drop i) (fun j=>left.getD j 0))
  ⟨cols,[],none,none,rfl,rfl,⟨rfl,fun _ h=>(nomatch h)⟩,fun _ h=>(nomatch h),rfl,fun j _=>by simp,by rw[N2];exact UE⟩ ?_ ?_
 .rintro i r δ N e ⟨left,t,B,z,rfl,hl,p,G,y,I,n⟩ hN
  obtain ⟨hi,Zt⟩:=KE.mp e
  rw[MO hi,Zt] at n
  have hb:=n.bound
  obtain ⟨k,rfl⟩:∃k:Nat,r=(k:Int):=⟨r.toNat,by omega⟩
  have S0:k<=cols.length:=by omega
  walk_at "go"
  refine⟨left,rfl,by omega,fun fp L hw=>?_⟩
  rw[hl] at L
  walk_at "go"
  have J:=n.turn rfl S0 L hw
  rw[A8]
  try refine⟨bN,?_⟩
  refine⟨fp.take k,cols.length,by rw[hl],by omega,?_⟩
  have Y:=yr (ps:=fp.take k) (m:=cols.length)
  refine⟨left,iK (fp.take k) cols.length,rfl,by omega,by omega,?_⟩
  walk_at "go"
  try refine⟨by have:=p.1;omega,?_⟩
  rw[show List.map dI t++[dI (iK (fp.take k) cols.length)]=(t++[iK (fp.take k) cols.length]).map dI by rw[Mf];rfl]
  refine hN _ ⟨_,_,_,_,rfl,by rw[mo,L9];exact hl,⟨by rw[Mg,p.1];rfl,fun x C=>?_⟩,fun x C v u=>?_,?_,fun j hj=>?_,J.2.congr fun j hj=>?_⟩
  .rcases Ma.mp C with q|q
   .exact p.2 x q
   .rw[Gc.mp q];exact Y
  .rcases Ma.mp C with q|q
   .exact G x q v u
   .rw[Gc.mp q] at u
    unfold iK at u
    obtain ⟨j,_,rfl⟩:=Mb.mp u
    split
    .exact .inr rfl
    .exact .inl rfl
  .rw[Mf,y,List.take_add_one,e]
   show g.take i++[(iK (fp.take k) cols.length).sum]=g.take i++[(k:Int)]
   rw[J.1]
  .rw[hl,As hj,Mf,List.sum_append,<- I j hj]
   simp
   omega
  .rw[hl,As hj]
 .rintro δ ⟨left,t,B,z,rfl,hl,p,G,y,I,n⟩
  rw[NG] at n
  rw[OG] at y
  walk_at "v"
  refine hP t ⟨p,G,y,fun j hj=>?_⟩
  have:=I j hj
  have h0:left.getD j 0=0:=n j hj
  omega
def Fits(m:Nat)(f:aab)(c:Nat->Int):Prop:=∀k:List Bool,k.length=f.length->Maj.lz k f<=Sg m fun j=>min (c j) (Maj.cnt k:Int)
theorem DY{m:Nat}{T:Nat->Bool}{c:Nat->Int}{k:Int}:Sg m (fun j=>min (c j - ind T j) k)=Sg m (fun j=>min (c j) k) - Sg m fun j=>if T j=true/\c j<=k then 1 else 0:=by
 have:Sg m (fun j=>min (c j) k)=Sg m (fun j=>min (c j - ind T j) k+if T j=true/\c j<=k then 1 else 0):=dD fun j _=>by
  unfold ind
  cases T j
  .simp
  .by_cases h:c j<=k
   .simp only[if_true,h,and_self];omega
   .simp only[if_true,h,and_false,if_false];omega
 rw[this,kJ];omega
theorem Lp{m:Nat}{c:Nat->Int}{k:Int}:Sg m (fun j=>min (c j) (k+1))=Sg m (fun j=>min (c j) k)+Sg m fun j=>if k<c j then 1 else 0:=by
 rw[<- kJ]
 refine dD fun j _=>?_
 split<;>omega
theorem Fits.next{m:Nat}{r:Int}{rest:aab}{c:Nat->Int}{T:Nat->Bool}(h:Fits m (r::rest) c)(t:Sg m (ind T)=r)(s:∀j k,j<m->k<m->T j=true->T k=false->c k<=c j):Fits m rest fun j=>c j - ind T j:=by
 intro k f
 rw[DY]
 generalize p:(Maj.cnt k:Int)=q
 have v:=h (false::k) (by simp [f])
 have u:=h (true::k) (by simp [f])
 have e1:Maj.lz (false::k) (r::rest)=Maj.lz k rest:=rfl
 have e2:Maj.lz (true::k) (r::rest)=r+Maj.lz k rest:=rfl
 have y:(Maj.cnt (false::k):Int)=q:=p
 have x:(Maj.cnt (true::k):Int)=q+1:=by show ((Maj.cnt k+1:Nat):Int)=q+1;omega
 rw[e1,y] at v
 rw[e2,x,Lp] at u
 by_cases i:∃j,j<m/\T j=true/\c j<=q
 .obtain ⟨o,B,n,C⟩:=i
  have:Sg m (fun j=>if T j=true/\c j<=q then (1:Int) else 0)+Sg m (fun j=>if q<c j then (1:Int) else 0)=Sg m (ind T):=by
   rw[<- kJ]
   refine dD fun j hj=>?_
   unfold ind
   cases ht:T j
   .have:=s o j B hj n ht
    simp
    omega
   .by_cases h:c j<=q
    .simp [h]<;>omega
    .simp [h]<;>omega
  rw[t] at this
  omega
 .have:Sg m (fun j=>if T j=true/\c j<=q then (1:Int) else 0)=0:=by
   rw[dD (g:=fun _=>0) fun j hj=>if_neg fun z=>i ⟨j,hj,z⟩,fu]
  omega
theorem J0{m:Nat}(c:Nat->Int):∃fp:aab,fp.Perm ((List.range m).map fun (k:Nat)=>(k:Int))/\fp.Pairwise fun a b=>c b.toNat<=c a.toNat:=by
 refine⟨((List.range m).map fun (k:Nat)=>(k:Int)).mergeSort fun a b=>decide (c b.toNat<=c a.toNat),List.mergeSort_perm _ _,?_⟩
 have:=List.pairwise_mergeSort (le:=fun a b:Int=>decide (c b.toNat<=c a.toNat)) (fun a b d g f=>by simp only[decide_eq_true_eq] at *;omega) (fun a b=>by simp only[Bool.or_eq_true,decide_eq_true_eq];omega) ((List.range m).map fun (k:Nat)=>(k:Int))
 exact this.imp fun h=>by simpa using h
theorem Ir{m k:Nat}{c:Nat->Int}{fp:aab}(s:k<=m)(g:fp.Perm ((List.range m).map fun (k:Nat)=>(k:Int)))(n:fp.Pairwise fun a b=>c b.toNat<=c a.toNat) :
  Sg m (ind fun (j:Nat)=>decide ((j:Int)∈fp.take k))=(k:Int)/\∀a b:Nat,a<m->b<m->decide ((a:Int)∈fp.take k)=true->decide ((b:Int)∈fp.take k)=false->c b<=c a:=by
 have nd:fp.Nodup:=g.nodup_iff.mpr (OA _ (fun a b v=>by show (a:Int)≠b;omega) List.nodup_range)
 have f:∀x∈fp,0<=x/\x<m:=fun x h=>by
  obtain ⟨i,hi,rfl⟩:=Mb.mp (g.mem_iff.mp h)
  have:=Mh.mp hi
  omega
 have u:fp.length=m:=by rw[g.length_eq,mo,L9]
 constructor
 .have:=vL (ps:=fp.take k) (m:=m) (nd.sublist (List.take_sublist ..)) fun x h=>f x (N1 h)
  rw[M4,u,NQ s] at this
  rw[<- this]
  unfold iK Sg ind
  simp only[decide_eq_true_eq]
 .intro a b ha hb p o
  have q:=of_decide_eq_true p
  have r:=of_decide_eq_false o
  have t:(b:Int)∈fp.drop k:=by
   have:(b:Int)∈fp:=g.mem_iff.mpr (Mb.mpr ⟨b,Mh.mpr hb,rfl⟩)
   rw[<- Nl k fp] at this
   rcases Ma.mp this with z|z
   .exact absurd z r
   .exact z
  rw[<- Nl k fp] at n
  exact (List.pairwise_append.mp n).2.2 _ q _ t
theorem vc{f:Nat->Int}:∀{m:Nat},(∀j,j<m->0<=f j)->Sg m f=0->∀j,j<m->f j=0
 |0,_,_,j,hj=>by omega
 |m+1,c,h,j,hj=>by
  rw[dX] at h
  have n:0<=Sg m f:=by
   have:=qc (m:=m) (f:=fun _=>0) (g:=f) fun j hj=>c j (by omega)
   rw[fu] at this;exact this
  have i:=c m (by omega)
  by_cases e:j=m
  .subst e;omega
  .exact vc (f:=f) (m:=m) (fun j hj=>c j (by omega)) (by omega) j (by omega)
theorem Hv{m:Nat}{c:Nat->Int}:Sg m (fun j=>min (c j) 1)<=m:=by
 have:∀m:Nat,Sg m (fun j=>min (c j) 1)<=(m:Int):=fun m=>by
  induction m with
  |zero=>rw[yu];omega
  |succ m ih=>rw[dX];omega
 exact this m
theorem uA:∀{xs:aab},Maj.lz (List.replicate xs.length false) xs=0
 |[]=>rfl
 |x::xs=>by rw[L8,M8,Maj.lz,uA]
theorem vK:∀{n:Nat},Maj.cnt (List.replicate n false)=0
 |0=>rfl
 |n+1=>by rw[M8,Maj.cnt,vK]
theorem b9.GY{m:Nat}:∀{f:aab}{c:Nat->Int},(∀r∈f,0<=r)->(∀j,j<m->0<=c j)->f.sum=Sg m c->Fits m f c->b9 m f c
 |[],c,_,n,h,_=>vc n h.symm
 |r::rest,c,hr,n,h,p=>by
  have E:=hr r ox
  have v:=p (true::List.replicate rest.length false) (by simp)
  have e1:Maj.lz (true::List.replicate rest.length false) (r::rest)=r:=by rw[Maj.lz,uA];simp
  have e2:(Maj.cnt (true::List.replicate rest.length false):Int)=1:=by rw[Maj.cnt,vK];simp
  rw[e1,e2] at v
  obtain ⟨k,rfl⟩:∃k:Nat,r=(k:Int):=⟨r.toNat,by omega⟩
  have B:k<=m:=by have:=Hv (m:=m) (c:=c);omega
  obtain ⟨fp,t,u⟩:=J0 (m:=m) c
  obtain ⟨g,q2⟩:=Ir B t u
  refine⟨ind fun (j:Nat)=>decide ((j:Int)∈fp.take k),fun j _=>Jb,g,b9.GY (fun x s=>hr x (Fk _ s)) (fun j hj=>?_) ?_ (p.next g q2)⟩
  .-- a column taken from has one
   show 0<=c j - ind _ j
   by_cases q:c j=0
   .-- then SF top k would have a nought: k is more than those that have one
    by_cases ht:decide ((j:Int)∈fp.take k)=true
    .exfalso
     have z:Sg m (fun i=>min (c i) 1)<Sg m (ind fun (j:Nat)=>decide ((j:Int)∈fp.take k)):=by
      have C:∀i,i<m->min (c i) 1<=ind (fun (j:Nat)=>decide ((j:Int)∈fp.take k)) i:=fun i hi=>by
       unfold ind
       by_cases o:decide ((i:Int)∈fp.take k)=true
       .rw[if_pos o];omega
       .rw[if_neg o]
        have:=q2 j i hj hi ht (by simpa using o)
        omega
      have y:Sg m (fun i=>min (c i) 1)<=Sg m (fun i=>if i=j then 0 else ind (fun (j:Nat)=>decide ((j:Int)∈fp.take k)) i):=qc fun i hi=>by
       by_cases e:i=j
       .rw[if_pos e,e,q];omega
       .rw[if_neg e];exact C i hi
      rw[oy hj] at y
      have:ind (fun (j:Nat)=>decide ((j:Int)∈fp.take k)) j=1:=by unfold ind;rw[if_pos ht]
      omega
     rw[g] at z
     omega
    .unfold ind;rw[if_neg ht];have:=n j hj;omega
   .have:=n j hj
    rcases Jb (T:=fun (j:Nat)=>decide ((j:Int)∈fp.take k)) (j:=j) with e|e<;>rw[e]<;>omega
  .rw[MD] at h
   have:Sg m c=Sg m (fun j=>(c j - ind (fun (j:Nat)=>decide ((j:Int)∈fp.take k)) j)+ind (fun (j:Nat)=>decide ((j:Int)∈fp.take k)) j):=dD fun j _=>by omega
   rw[this,kJ,g] at h
   omega
def px(c cols:aab):Prop:=b9 cols.length c (fun j=>cols.getD j 0)
def Wit(f cols ps:aab):Prop:=ps.Pairwise (· < ·)/\(∀p∈ps,0<=p/\p<f.length)/\(cols.map fun c=>min c (ps.length:Int)).sum<(ps.map fun p=>f.getD p.toNat 0).sum/\ps.length<=f.length
theorem wj{a b:aab}(h:a.Perm b):a.sum=b.sum:=by
 induction h with
 |nil=>rfl
 |cons x _ ih=>rw[MD,MD,ih]
 |swap x y l=>rw[MD,MD,MD,MD];omega
 |trans _ _ f c=>exact f.trans c
theorem B3{m:Nat}:(lJ m).Pairwise (· < ·):=by
 unfold lJ
 exact OA _ (fun a b h=>by show (a:Int)<b;omega) List.pairwise_lt_range
theorem zm{m:Nat}{x:Int}(h:x∈lJ m):0<=x/\x<m:=by
 unfold lJ at h
 obtain ⟨i,hi,rfl⟩:=Mb.mp h
 have:=Mh.mp hi
 omega
theorem Cd{ns:aab}:((lJ ns.length).map fun p=>ns.getD p.toNat 0)=ns:=by
 unfold lJ
 rw[Mz]
 refine Nf (by rw[mo,L9]) fun j f c=>?_
 rw[M0,Nn]
 show ns.getD ((j:Int).toNat) 0=_
 rw[L7,dz,gV c];rfl
theorem oO{k:Int}:∀{ns:aab},(ns.map fun c=>min c k).sum<=ns.sum
 |[]=>Ov _
 |n::ns=>by
  rw[Mc,MD,MD]
  have:=oO (k:=k) (ns:=ns)
  omega
theorem yG{c cols:aab}(h:px c cols):c.sum=cols.sum:=by
 have h':b9 cols.length c (fun j=>cols.getD j 0):=h
 rw[h'.sums]
 have:=qw (f:=fun x:Int=>x) (ns:=cols)
 rw[List.map_id'] at this
 exact this
theorem Iy{c cols:aab}(h:c.sum<cols.sum):Wit cols c (lJ cols.length):=by
 refine⟨B3,fun p f=>zm f,?_,by unfold lJ;rw[mo,L9];exact Md _⟩
 rw[Cd]
 exact Int.lt_of_le_of_lt oO h
theorem He{c fp:aab}(f:fp.Perm (lJ c.length))(g:fp.Pairwise fun a b=>c.getD b.toNat 0<=c.getD a.toNat 0):tM c=fp.map fun p=>c.getD p.toNat 0:=by
 refine (tj ?_ ?_).symm
 .have:=f.map fun p=>c.getD p.toNat 0
  rw[Cd] at this
  exact this
 .exact OA _ (fun a b h=>h) g
theorem y9{f cols:aab}(h:∀c∈cols,0<=c){k:Nat}(g:k<=f.length):Maj.gZ (gG cols f.length) k=(cols.map fun c=>min c (k:Int)).sum:=by
 have i:tM (gG cols f.length)=gG cols f.length:=(tj (List.Perm.refl _) vX).symm
 unfold Maj.gZ
 rw[i,vY h g]
theorem HJ{f cols fp ps:aab}{k:Nat}(o:∀c∈cols,0<=c)(n:k<=f.length)(i:fp.Perm (lJ f.length))(m:fp.Pairwise fun a b=>f.getD b.toNat 0<=f.getD a.toNat 0)
  (r:Maj.gZ (gG cols f.length) k<Maj.gZ f k) (g:ps.Perm (fp.take k)) (j:ps.Pairwise (·<=·)):Wit f cols ps:=by
 have nd:fp.Nodup:=i.nodup_iff.mpr (B3.imp fun h=>by omega)
 have q:ps.Nodup:=g.nodup_iff.mpr (nd.sublist (List.take_sublist ..))
 have s:fp.length=f.length:=by rw[i.length_eq];unfold lJ;rw[mo,L9]
 have pl:ps.length=k:=by rw[g.length_eq,M4];omega
 refine⟨(List.pairwise_and_iff.mpr ⟨j,q⟩).imp fun h=>by have:=h.1;have:=h.2;omega,fun p h=>zm (i.mem_iff.mp (N1 (g.mem_iff.mp h))),?_,by omega⟩
 rw[pl,<- y9 o n]
 have e:Maj.gZ f k=(ps.map fun p=>f.getD p.toNat 0).sum:=by
  unfold Maj.gZ
  rw[He i m,<- List.map_take]
  exact (wj (g.map fun p=>f.getD p.toNat 0)).symm
 rw[<- e]
 exact r
theorem BE:∀{m:List Bool},Maj.cnt m<=m.length
 |[]=>Md _
 |true::m=>by have:=BE (m:=m);show Maj.cnt m+1<=m.length+1;omega
 |false::m=>by have:=BE (m:=m);show Maj.cnt m<=m.length+1;omega
theorem DN{one c:aab}(h:Maj.above one c=[]){p:Nat}(f:p<one.length):Maj.gZ one (p+1)<=Maj.gZ c (p+1):=by
 unfold Maj.above at h
 rw[NK] at h
 have:=h p (Mh.mpr f)
 rw[decide_eq_true_eq] at this
 omega
theorem EJ{one c:aab}{p:Nat}{l:aac}(h:Maj.above one c=p::l):p<one.length/\Maj.gZ c (p+1)<Maj.gZ one (p+1):=by
 have:p∈Maj.above one c:=by rw[h];exact ox
 unfold Maj.above at this
 have:=MP.mp this
 exact⟨Mh.mp this.1,of_decide_eq_true this.2⟩
theorem Ig{g cols:aab}(hr:∀r∈g,0<=r)(n:∀c∈cols,0<=c)(h:Maj.above g (gG cols g.length)=[])(s:¬ g.sum<cols.sum):px g cols:=by
 have key:∀k:Nat,k<=g.length->Maj.gZ g k<=(cols.map fun c=>min c (k:Int)).sum:=fun k i=>by
  rw[<- y9 n i]
  cases k with
  |zero=>unfold Maj.gZ;rw[List.take_zero,List.take_zero];exact Ov _
  |succ p=>exact DN h (by omega)
 have o:∀j,j<cols.length->0<=cols.getD j 0:=fun j hj=>by
  rw[dz,gV hj];exact n _ (MK _)
 have q:g.sum=cols.sum:=by
  have v:=key g.length (Md _)
  have u:Maj.gZ g g.length=g.sum:=by
   unfold Maj.gZ
   rw[Ni (by rw[(il g).length_eq];exact Md _)]
   exact wj (il g)
  have t:=oO (k:=(g.length:Int)) (ns:=cols)
  omega
 refine b9.GY hr o ?_ fun k i=>?_
 .have:=qw (f:=fun x:Int=>x) (ns:=cols)
  rw[List.map_id'] at this
  rw[this,q]
 .have:=qw (f:=fun x:Int=>min x (Maj.cnt k:Int)) (ns:=cols)
  rw[this]
  exact Int.le_trans (Maj.IP i) (key _ (by have:=BE (m:=k);omega))
theorem wK{ns:aab}{m:Nat}:(gG ns m).length=m:=by unfold gG;rw[mo,L9]
theorem Jx{c cols:aab}(h:b9 cols.length c (fun j=>cols.getD j 0)):Maj.above c (gG cols c.length)=[]:=by
 unfold Maj.above
 rw[NK]
 intro p f
 have i:=Mh.mp f
 try rw[wK] at i
 rw[decide_eq_true_eq]
 have:=h.heads (il c) (k:=p+1) (by omega)
 have g:tM (gG cols c.length)=gG cols c.length:=(tj (List.Perm.refl _) vX).symm
 unfold Maj.gZ
 rw[g]
 omega
def kI:DSp:=fun ds P=>∃f cols:aab,ds=[dI f,dI cols]/\f.length<=8/\cols.length<=8/\(∀r∈f,0<=r)/\(∀c∈cols,0<=c)/\(px f cols->∀t,Ja f cols t->P (.tup [.str "table",dT t]))/\(¬ px f cols->(∀ps,Wit f cols ps->P (.tup [.str "rows",dI ps]))/\∀ps,Wit cols f ps->P (.tup [.str "columns",dI ps]))
theorem tT:bt kI:=by
 intro xs P p k h
 obtain ⟨c,cols,e,o,n,m,j,i,g⟩:=h
 exact⟨c,cols,e,o,n,m,j,fun r t ht=>k _ (i r t ht),fun r=>⟨fun ps f=>k _ ((g r).1 ps f),fun ps f=>k _ ((g r).2 ps f)⟩⟩
theorem vg:∀ds P,kI ds P->ds.length=2:=by
 intro ds P h
 obtain ⟨_,_,e,_⟩:=h
 rw[e];rfl
theorem yh{c:Cs}{f:Addr}{q:FuncData}(F:FnAt K mg "ones_with" kl iN f q)(i:Fns K mg c)(T:Txt K mg base)(xs:Exs K mg base c):bE P w K mg base CX0 4 f q iN (spP K kI):=by
 obtain ⟨f0,d0,v⟩:=i.h_first_head_above
 have X:=nW (P:=P) (w:=w) v i T xs
 obtain ⟨f1,d1,u⟩:=i.h_heap_of
 have R:=AV (P:=P) (w:=w) u i T xs
 obtain ⟨f2,d2,x⟩:=i.h_filled_table
 have U:=sJ (P:=P) (w:=w) x i T xs
 obtain ⟨f3,d3,y⟩:=i.h_falling_places
 have Z:=kH (P:=P) (w:=w) y i T xs
 refine F.fn.ok pq (fun vs H Q E h=>aU vg h) (fun J A outer s H vs Q E hr h=>?_)
 refine⟨_,(aj (bZ (aO nY (bF (ft (K:=K) rfl rfl) (by rfl) T.sum_ boot_sum (af (pv 0) ak)) (bF (ft (K:=K) rfl rfl) (by rfl) T.sum_ boot_sum (af (pv 1) ak)) (aW _)) (aw (aI (dU (af cw (af (zN rfl rfl T.list_ rfl T.range_ (wln K T.len_ (pv 1))) ak))))) aY) (aj (wst 2 pq.nd (wcl X hr v (af (pv 0) (af (wcl R hr u (af (pv 1) (af (wln K T.len_ (pv 0)) ak))) ak)))) (aj (bZ (aO yg (pv 2) lQ (aW _)) (aw (aI (dU (af cw (af (bF (xS (K:=K) rfl) (by rfl) T.sorted_ boot_sorted (af (iQ (iJ (K:=K) rfl) (wcl Z hr y (af (pv 0) ak)) me (jf (pv 2))) ak)) ak))))) aY) (aw (aI (dU (af cw (af (wcl U hr x (af (pv 0) (af (pv 1) ak))) ak)))))))),bh (Γn:=[]) (N:=nh) (ax (cS (aM (EM.er (ay kS (EM.er (aR qd (ai (ES.er (aa 0)) aq))) (EM.er (aR qd (ai (ES.er (aa 1)) aq)))))) (aJ (M:=[]) (dP (aA cj (aA (Bc (EM.er (aR bJ (ai (ES.er (aa 1)) aq)))) aV)))) aZ) (ax (ST.post (Γn:=[]) (aN 2 (EM.es (aE (S:=cB) mr (ai (ES.er (aa 0)) (ai (EM.er (aE (S:=kY) xD (ai (ES.er (aa 1)) (ai (EM.er (aR bJ (ai (ES.er (aa 0)) aq))) aq)))) aq)))))) (ax (cS (aM (EM.er (ay BA (ES.er (aa 2)) (EM.er lS)))) (aJ (M:=[]) (dP (aA cj (aA (aR J2 (ai (EM.er (sf (EM.er (aE (S:=df) ja (ai (ES.er (aa 0)) aq))) or_none (or_some (ES.er (aa 2))))) aq)) aV)))) aZ) (aJ (M:=[]) (dP (aA cj (aA (aE (S:=gI) pM (ai (ES.er (aa 0)) (ai (ES.er (aa 1)) aq))) aV))))))) (fun ds P G=>?_) h⟩
 obtain ⟨g,cols,rfl,L,C,O,r,I,o⟩:=G
 rw[show aL nh [dI g,dI cols]=[some (dI g),some (dI cols),none] from rfl]
 walk_at "go"
 by_cases j:g.sum<cols.sum
 .rw[if_pos j]
  have hn:¬ px g cols:=fun h=>by have:=yG h;omega
  walk_at "go"
  exact (o hn).2 _ (Iy j)
 rw[if_neg j]
 walk_at "go"
 refine⟨cols,g.length,rfl,by omega,L,?_⟩
 refine⟨g,gG cols g.length,rfl,by omega,wK.symm,?_⟩
 unfold JP
 cases Pb:Maj.above g (gG cols g.length) with
 |nil =>
  have n:=Ig O r Pb j
  walk_at "go"
  refine⟨g,cols,rfl,by omega,by omega,n,fun t ht=>?_⟩
  walk_at "go"
  exact I n t ht
 |cons p l =>
  have hn:¬ px g cols:=fun h=>by rw[Jx h] at Pb;cases Pb
  obtain ⟨hp,Y⟩:=EJ Pb
  walk_at "go"
  refine⟨g,rfl,by omega,fun fp m q2=>?_⟩
  walk_at "go"
  rw[show ((p:Int)+1)=((p+1:Nat):Int) by omega,A8]
  have fl:fp.length=g.length:=by rw[m.length_eq];unfold lJ;rw[mo,L9]
  refine jn.mpr ⟨by rw[M4];omega,fun ps B z=>⟨by omega,?_⟩⟩
  exact (o hn).1 _ (HJ r (by omega) m q2 Y B z)
def b7(n m:Nat)(x:Int):aaa:=List.replicate n (List.replicate m x)
theorem qD{n m:Nat}{x:Int}:bc n m (b7 n m x):=⟨by unfold b7;rw[Mt],fun r hr=>by rw[List.eq_of_mem_replicate hr,Mt]⟩
def fA:DSp:=fun ds P=>∃(c cols:aab) (x:Int),ds=[dI c,dI cols,.int x]/\c.length<=8/\cols.length<=8/\P (dT (b7 c.length cols.length x))
theorem mj:bt fA:=by
 intro xs P c k h
 unfold fA at h ⊢
 grind
theorem uE:∀ds P,fA ds P->ds.length=3:=by
 intro ds P h
 obtain ⟨_,_,_,e,_⟩:=h
 rw[e];rfl
theorem vB{c:Cs}{f:Addr}{j:FuncData}(F:FnAt K mg "full_table" gF gK f j)(u:Fns K mg c)(T:Txt K mg base)(xs:Exs K mg base c):bE P w K mg base CX0 1 f j gK (spP K fA):=by
 refine F.fn.ok vz (fun vs H Q E h=>aU uE h) (fun o A outer s H vs Q E hr h=>?_)
 refine⟨_,(aw (aI (wco (av gF) "row" ["columns","number"] [1,2] (wil K (pv 0)) (fun _ _ _ _ _=>(aK Gx (bD (af (pv 2) ak)) (wln K T.len_ (pv 1))))))),bh (Γn:=[]) (N:=lR) (aJ (M:=[]) (bx (bI (aa 0)) (aB 0) (ay I0 (EM.er (bC (aA (ER.aQ (ES.er (aa 2))) aV))) (EM.er (aR bJ (ai (ES.er (aa 1)) aq)))))) (fun ds P m=>?_) h⟩
 obtain ⟨i,cols,x,rfl,q,p,n⟩:=m
 rw[show aL lR [dI i,dI cols,.int x]=[some (dI i),some (dI cols),some (.int x)] from rfl]
 walk_at "go"
 refine my (as:=i) (f:=L3.D.int) (g:=fun _=>dI (List.replicate cols.length x)) (fun R h=>h) (by omega) (fun r t R h=>?_) ?_
 .walk_at "gb"
  refine⟨⟨rfl,by omega,by simp;omega⟩,?_⟩
  rw[zL]
  exact h
 .rw[show i.map (fun _=>dI (List.replicate cols.length x))=(b7 i.length cols.length x).map dI by unfold b7;rw[List.map_replicate];exact List.map_const ..]
  exact n
def jc(t:aaa)(i j:Nat):aaa:=setCell t i j (1 - cellAt t i j)
def dH:DSp:=fun ds P=>∃(t:aaa) (i j n m:Nat),ds=[dT t,.tup [.int i,.int j]]/\bc n m t/\1<=n/\n<=8/\m<=8/\i<n/\j<m/\P (dT (jc t i j))
theorem k8:bt dH:=by
 intro xs P c k h
 unfold dH at h ⊢
 grind
theorem sV:∀ds P,dH ds P->ds.length=2:=by
 intro ds P h
 obtain ⟨_,_,_,_,_,e,_⟩:=h
 rw[e];rfl
theorem uc{c:Cs}{f:Addr}{o:FuncData}(F:FnAt K mg "turned_cell" iD fJ f o)(q:Fns K mg c)(T:Txt K mg base)(xs:Exs K mg base c):bE P w K mg base CX0 2 f o fJ (spP K dH):=by
 obtain ⟨G,I,p⟩:=q.h_copied_table
 have z:=i5 (P:=P) (w:=w) p q T xs
 refine F.fn.ok mF (fun vs H Q E h=>aU sV h) (fun y A outer s H vs Q E hr h=>?_)
 refine⟨_,(aj (wst 2 mF.nd (wcl z hr p (af (pv 0) ak))) (aj (dO (aK og ar (wix K (wix K (pv 2) (wit K (pv 1) ar)) (wit K (pv 1) ar))) (iz (wix K (pv 2) (wit K (pv 1) ar)) (wit K (pv 1) ar) set_list)) (aw (aI (pv 2))))),bh (Γn:=[2]) (N:=kT) (ax (ST.post (Γn:=[2]) (bV (M:=[]) 2 (aE (S:=cF) gH (ai (ES.er (aa 0)) aq)))) (ax (cU 2 (ay cJ (EM.er au) (Gk (Gk (gh 2) (ES.er (bb (aa 1) (EM.er au)))) (ES.er (bb (aa 1) (EM.er au))))) (ES.er (bb (aa 1) (EM.er au))) (ES.er (bb (aa 1) (EM.er au)))) (aJ (M:=[2]) (ix 2)))) (fun ds P u=>?_) h⟩
 obtain ⟨t,i,j,n,m,rfl,g,n1,B,C,hi,hj,x⟩:=u
 rw[show aL kT [dT t,.tup [.int i,.int j]]=[some (dT t),some (.tup [.int i,.int j]),none] from rfl]
 have lt:=g.1
 have r:=g.row hi
 walk_at "go"
 refine⟨t,rfl,by omega,?_⟩
 refine cq (t:=t) (a:=i) (b:=j) (v:=1 - cellAt t i j) rfl (fun R h=>?_) (fun R h=>?_) (fun R h=>?_) (by omega) (by rw[L7,r];omega) ?_
 .walk_at "go"
  refine fk g (by omega) (by omega) ?_
  walk_at "go"
  exact h
 .walk_at "go"
  exact h
 .walk_at "go"
  exact h
 walk_at "go"
 exact x
theorem bq{n m i j:Nat}{x:Int}(hi:i<n)(hj:j<m):cellAt (b7 n m x) i j=x:=by
 unfold cellAt b7
 rw[dz,dz,MQ,if_pos hi,M3,MQ,if_pos hj];rfl
def nz(c:Cs):DSX:=fun ds P R=>∃(f cols:aab) (x y:Int),ds=[dI f,dI cols,.tup [.int x,.int y]]/\1<=f.length/\f.length<=8/\1<=cols.length/\cols.length<=8/\(∀r∈f,0<=r)/\(∀c∈cols,0<=c) /\
 (¬ ((0<=x/\x<f.length)/\0<=y/\y<cols.length)->R c.NoPlace)/\(((0<=x/\x<f.length)/\0<=y/\y<cols.length)->¬ px f cols->R c.NoSums) /\
 (((0<=x/\x<f.length)/\0<=y/\y<cols.length)->px f cols->∀i j:Nat,x=i->y=j ->
  (∀U V,Ct f.length cols.length f cols (b7 f.length cols.length 0) (jc (b7 f.length cols.length 1) i j) U V->P (.tup [.str "one",dN U,dN V])) /\
  (∀t U V,Bt f.length cols.length f cols (b7 f.length cols.length 0) (jc (b7 f.length cols.length 1) i j) t->Ct f.length cols.length f cols (jc (b7 f.length cols.length 0) i j) (b7 f.length cols.length 1) U V->P (.tup [.str "zero",dN U,dN V])) /\
  ∀t t',Bt f.length cols.length f cols (b7 f.length cols.length 0) (jc (b7 f.length cols.length 1) i j) t->Bt f.length cols.length f cols (jc (b7 f.length cols.length 0) i j) (b7 f.length cols.length 1) t'->P (.tup [.str "free",dT t,dT t']))
theorem pJ{c:Cs}:iX (nz c):=by
 intro xs P E R C k m h
 obtain ⟨a1,a2,B,y,e,x,v,u,s,r,p,o,n,g⟩:=h
 exact⟨a1,a2,B,y,e,x,v,u,s,r,p,fun z=>m _ (o z),fun z q=>m _ (n z q),fun z q i j e1 e2=>⟨fun U V w=>k _ ((g z q i j e1 e2).1 U V w),fun t U V w f=>k _ ((g z q i j e1 e2).2.1 t U V w f),fun t t' w f=>k _ ((g z q i j e1 e2).2.2 t t' w f)⟩⟩
theorem ze{c:Cs}:∀ds P R,nz c ds P R->ds.length=3:=by
 intro ds P R h
 obtain ⟨_,_,_,_,e,_⟩:=h
 rw[e];rfl
theorem AK{c:Cs}{f:Addr}{fd:FuncData}(F:FnAt K mg "fate_of" nM kX f fd)(o:Fns K mg c)(T:Txt K mg base)(xs:Exs K mg base c):bE P w K mg base (CXR P w) 7 f fd kX (spX K (nz c)):=by
 obtain ⟨C,d0,J⟩:=o.h_full_table
 have Ph:=vB (P:=P) (w:=w) J o T xs
 obtain ⟨B,d1,q⟩:=o.h_table_between
 have ON:=ra (P:=P) (w:=w) q o T xs
 obtain ⟨f2,d2,L⟩:=o.h_turned_cell
 have O6:=uc (P:=P) (w:=w) L o T xs
 obtain ⟨f3,d3,O⟩:=o.h_is_place
 have NN:=si (P:=P) (w:=w) O o T xs
 obtain ⟨f4,d4,Pz⟩:=o.h_ones_with
 have QM:=yh (P:=P) (w:=w) Pz o T xs
 refine F.fn.okX jB (fun vs H Q E h=>pH ze h) (fun cdv A outer s H vs Q E hr h=>?_)
 refine⟨_,(aj (bZ (PT.nox (PW.pt (mY (fF (gR (wcl NN hr O (af (wit K (pv 2) ar) (af (wln K T.len_ (pv 0)) ak))))) (mT (fF (gR (wcl NN hr O (af (wit K (pv 2) ar) (af (wln K T.len_ (pv 1)) ak))))))))) (aw (mO (xs.o_NoPlace.own xs.m_NoPlace) Ny rfl rfl oQ (af cw ak))) aY) (aj (bZ (PT.nox (aO uz (wit K (wcl QM hr Pz (af (pv 0) (af (pv 1) ak))) ar) cw (aW _))) (aw (mO (xs.o_NoSums.own xs.m_NoSums) Ny rfl rfl oQ (af cw ak))) aY) (aj (PS.nox (wst 3 jB.nd (wcl Ph hr J (af (pv 0) (af (pv 1) (af ar ak)))))) (aj (PS.nox (wst 4 jB.nd (wcl Ph hr J (af (pv 0) (af (pv 1) (af ar ak)))))) (aj (ym (i:=5) jB.nd rfl (by walk_at "o") (jg ON (hr.mono (by decide)) rfl q.mg q.fn.kp q.bd .nil xi (PA.nox (af (pv 0) (af (pv 1) (af (pv 3) (af (wcl O6 hr L (af (pv 4) (af (pv 2) ak))) ak))))))) (aj (PS.nox (bZ (aO i9 (wit K (pv 5) ar) cw (aW _)) (aw (aI (dU (af cw (af (wit K (pv 5) ar) (af (wit K (pv 5) ar) ak)))))) aY)) (aj (ym (i:=6) jB.nd rfl (by walk_at "o") (jg ON (hr.mono (by decide)) rfl q.mg q.fn.kp q.bd .nil xi (PA.nox (af (pv 0) (af (pv 1) (af (wcl O6 hr L (af (pv 3) (af (pv 2) ak))) (af (pv 4) ak))))))) (PSs.nox (aj (bZ (aO i9 (wit K (pv 6) ar) cw (aW _)) (aw (aI (dU (af cw (af (wit K (pv 6) ar) (af (wit K (pv 6) ar) ak)))))) aY) (aw (aI (dU (af cw (af (wit K (pv 5) ar) (af (wit K (pv 6) ar) ak))))))))))))))),qm (Γn:=[6,5,4,3]) (N:=qE) (fun R=>(iT (Ai (mL (fE (oH (EM.er (aE (S:=cX) dG (ai (ES.er (bb (aa 2) (EM.er au))) (ai (EM.er (aR bJ (ai (ES.er (aa 0)) aq))) aq)))))) (fE (oH (EM.er (aE (S:=cX) dG (ai (ES.er (bb (aa 2) (EM.er au))) (ai (EM.er (aR bJ (ai (ES.er (aa 1)) aq))) aq))))))) (mZ (ai (EM.er cj) aq)) (ST.sx aZ)) (iT (Ai (aM (EM.er (ay BC (EM.er (Fp (aE (S:=kI) tT (ai (ES.er (aa 0)) (ai (ES.er (aa 1)) aq))) (EM.er au))) (EM.er cj)))) (mZ (ai (EM.er cj) aq)) (ST.sx aZ)) (iT (ST.sx (ST.post (Γn:=[3]) (bV (M:=[]) 3 (aE (S:=fA) mj (ai (ES.er (aa 0)) (ai (ES.er (aa 1)) (ai (EM.er au) aq))))))) (iT (ST.sx (ST.post (Γn:=[4,3]) (bV (M:=[]) 4 (aE (S:=fA) mj (ai (ES.er (aa 0)) (ai (ES.er (aa 1)) (ai (EM.er au) aq))))))) (iT (A4 5 jX (ai (ES.er (aa 0)) (ai (ES.er (aa 1)) (ai (gh 3) (ai (EM.er (aE (S:=dH) k8 (ai (gh 4) (ai (ES.er (aa 2)) aq)))) aq))))) (iT (ST.sx (cS (aM (EM.er (ay nU (G7 (gh 5) (EM.er au)) (EM.er cj)))) (aJ (M:=[5]) (dP (gY cj (yD 5)))) aZ)) (iT (A4 6 jX (ai (ES.er (aa 0)) (ai (ES.er (aa 1)) (ai (EM.er (aE (S:=dH) k8 (ai (gh 3) (ai (ES.er (aa 2)) aq)))) (ai (gh 4) aq))))) (ST.sx (ax (cS (aM (EM.er (ay nU (G7 (gh 6) (EM.er au)) (EM.er cj)))) (aJ (M:=[6]) (dP (gY cj (yD 6)))) aZ) (aJ (M:=[5,6]) (dP (gY cj (gY (Cg 5 1) (gY (Cg 6 1) aV))))))))))))))) (fun ds P R hS=>?_) h⟩
 obtain ⟨g,cols,x,y,rfl,n1,u,Z,v,Uc,RS,hN,Pu,hP⟩:=hS
 rw[show aL qE [dI g,dI cols,.tup [.int x,.int y]]=[some (dI g),some (dI cols),some (.tup [.int x,.int y]),none,none,none,none] from rfl]
 walk_at "go"
 refine⟨x,_,rfl,?_⟩
 walk_at "go"
 by_cases p:0<=x/\x<g.length
 .by_cases r:0<=y/\y<cols.length
  .rw[if_neg (by simp [p])]
   refine⟨y,_,rfl,?_⟩
   walk_at "go"
   rw[if_neg (by simp [r])]
   refine⟨g,cols,rfl,u,v,Uc,RS,fun hR t ht=>?_,fun hn=>⟨fun ps _=>?_,fun ps _=>?_⟩⟩
   .walk_at "go"
    obtain ⟨i,rfl⟩:∃i:Nat,x=i:=⟨x.toNat,by omega⟩
    obtain ⟨j,rfl⟩:∃j:Nat,y=j:=⟨y.toNat,by omega⟩
    obtain ⟨p1,p2,p3⟩:=hP ⟨p,r⟩ hR i j rfl rfl
    have hi:i<g.length:=by omega
    have hj:j<cols.length:=by omega
    have Y:g.sum=cols.sum:=yG hR
    have C:=qD (n:=g.length) (m:=cols.length) (x:=0)
    have B:=qD (n:=g.length) (m:=cols.length) (x:=1)
    have w1:Low g.length cols.length (b7 g.length cols.length 0) (jc (b7 g.length cols.length 1) i j):=fun a b ha hb=>by
     unfold jc
     rw[cP B hi hj,bq ha hb,bq ha hb,bq hi hj];split<;>omega
    have w2:Low g.length cols.length (jc (b7 g.length cols.length 0) i j) (b7 g.length cols.length 1):=fun a b ha hb=>by
     unfold jc
     rw[cP C hi hj,bq ha hb,bq ha hb,bq hi hj];split<;>omega
    refine⟨g,cols,0,rfl,u,v,?_⟩
    refine⟨g,cols,1,rfl,u,v,?_⟩
    refine⟨_,i,j,_,_,rfl,B,n1,u,v,hi,hj,?_⟩
    refine⟨g,cols,_,_,_,_,rfl,C,B.setCell hi,n1,by omega,Z,by omega,rfl,rfl,fun z=>absurd w1 z,fun _ z=>absurd Y z,fun _ _ X G=>?_,fun _ _ U V G=>?_⟩
    .walk_at "go"
     rw[if_neg (by decide)]
     refine⟨_,i,j,_,_,rfl,C,n1,u,v,hi,hj,?_⟩
     refine⟨g,cols,_,_,_,_,rfl,C.setCell hi,B,n1,by omega,Z,by omega,rfl,rfl,fun z=>absurd w2 z,fun _ z=>absurd Y z,fun _ _ t2 I=>?_,fun _ _ U V I=>?_⟩
     .walk_at "go"
      rw[if_neg (by decide)]
      exact⟨_,_,rfl,rfl,_,_,rfl,rfl,by decide,p3 X t2 G I⟩
     .walk_at "go"
      exact⟨_,_,_,rfl,by show 3<=1000;decide,p2 X U V G I⟩
    .walk_at "go"
     exact⟨_,_,_,rfl,by show 3<=1000;decide,p1 U V G⟩
   .walk_at "go"
    rw[if_pos (by decide)]
    exact⟨by decide,Pu ⟨p,r⟩ hn⟩
   .walk_at "go"
    rw[if_pos (by decide)]
    exact⟨by decide,Pu ⟨p,r⟩ hn⟩
  .rw[if_neg (by simp [p])]
   refine⟨y,_,rfl,?_⟩
   walk_at "go"
   rw[if_pos (by simpa using r)]
   exact⟨by decide,hN fun z=>r z.2⟩
 .rw[if_pos (by simpa using p)]
  exact⟨by decide,hN fun z=>p z.1⟩
def dW(i j k l:Int):D:=.tup [.int i,.int j,.int k,.int l]
def jz:DSp:=fun ds P=>∃(t:aaa) (n m:Nat) (i j k l:Int),ds=[dT t,dW i j k l]/\bc n m t/\1<=n/\P (.bl (decide (cQ n m t i j k l)))
theorem vm:bt jz:=by
 intro xs P c k h
 unfold jz at h ⊢
 grind
theorem yi:∀ds P,jz ds P->ds.length=2:=by
 intro ds P h
 obtain ⟨_,_,_,_,_,_,_,e,_⟩:=h
 rw[e];rfl
theorem yw{c:Cs}{f:Addr}{v:FuncData}(F:FnAt K mg "can_swap" lT jS f v)(x:Fns K mg c)(T:Txt K mg base)(xs:Exs K mg base c):bE P w K mg base CX0 2 f v jS (spP K jz):=by
 obtain ⟨G,I,o⟩:=x.h_is_place
 have q:=si (P:=P) (w:=w) o x T xs
 refine F.fn.ok mQ (fun vs H Q E h=>aU yi h) (fun B A outer s H vs Q E hr h=>?_)
 refine⟨_,(aj (bZ (PW.pt (mY (fF (gR (wcl q hr o (af (wit K (pv 1) ar) (af (wln K T.len_ (pv 0)) ak))))) (mT (fF (gR (wcl q hr o (af (wit K (pv 1) ar) (af (wln K T.len_ (pv 0)) ak)))))))) (aw (aI lH)) aY) (aj (wst 2 mQ.nd (wix K (pv 0) (wit K (pv 1) ar))) (aj (wst 3 mQ.nd (wix K (pv 0) (wit K (pv 1) ar))) (aj (bZ (PW.pt (mY (fF (gR (wcl q hr o (af (wit K (pv 1) ar) (af (wln K T.len_ (pv 2)) ak))))) (mT (fF (gR (wcl q hr o (af (wit K (pv 1) ar) (af (wln K T.len_ (pv 2)) ak)))))))) (aw (aI lH)) aY) (aw (aI (Ks (tH i9 i9 (wix K (pv 2) (wit K (pv 1) ar)) (wix K (pv 3) (wit K (pv 1) ar)) ar) (Ki (tH i9 i9 (wix K (pv 2) (wit K (pv 1) ar)) (wix K (pv 3) (wit K (pv 1) ar)) ar))))))))),bh (Γn:=[]) (N:=om) (ax (cS (mL (fE (oH (EM.er (aE (S:=cX) dG (ai (ES.er (bb (aa 1) (EM.er au))) (ai (EM.er (aR bJ (ai (ES.er (aa 0)) aq))) aq)))))) (fE (oH (EM.er (aE (S:=cX) dG (ai (ES.er (bb (aa 1) (EM.er au))) (ai (EM.er (aR bJ (ai (ES.er (aa 0)) aq))) aq))))))) (aJ (M:=[]) mm) aZ) (ax (ST.post (Γn:=[]) (aN 2 (aD (aa 0) (ES.er (bb (aa 1) (EM.er au)))))) (ax (ST.post (Γn:=[]) (aN 3 (aD (aa 0) (ES.er (bb (aa 1) (EM.er au)))))) (ax (cS (mL (fE (oH (EM.er (aE (S:=cX) dG (ai (ES.er (bb (aa 1) (EM.er au))) (ai (EM.er (aR bJ (ai (ES.er (aa 2)) aq))) aq)))))) (fE (oH (EM.er (aE (S:=cX) dG (ai (ES.er (bb (aa 1) (EM.er au))) (ai (EM.er (aR bJ (ai (ES.er (aa 2)) aq))) aq))))))) (aJ (M:=[]) mm) aZ) (aJ (M:=[]) (HW (EM.er (jV nU nU (ES.er (aD (aa 2) (ES.er (bb (aa 1) (EM.er au))))) (ES.er (aD (aa 3) (ES.er (bb (aa 1) (EM.er au))))) (EM.er au))) (jV nU nU (ES.er (aD (aa 2) (ES.er (bb (aa 1) (EM.er au))))) (ES.er (aD (aa 3) (ES.er (bb (aa 1) (EM.er au))))) (EM.er au)))))))) (fun ds P y=>?_) h⟩
 obtain ⟨t,n,m,i,j,k,l,rfl,r,hn,g⟩:=y
 rw[show aL om [dT t,dW i j k l]=[some (dT t),some (dW i j k l),none,none] from rfl]
 have C:=r.1
 unfold dW
 walk_at "v"
 rw[C]
 refine⟨_,_,rfl,?_⟩
 by_cases hi:0<=i/\i<(n:Int)
 .rw[decide_eq_true hi]
  walk_at "v"
  refine⟨_,_,rfl,?_⟩
  by_cases p:0<=k/\k<(n:Int)
  .rw[decide_eq_true p]
   walk_at "v"
   have ri:=r.row (i:=i.toNat) (by omega)
   have rk:=r.row (i:=k.toNat) (by omega)
   refine bK (by omega) ?_
   walk_at "v"
   refine bK (by omega) ?_
   walk_at "v"
   rw[ri]
   refine⟨_,_,rfl,?_⟩
   by_cases hj:0<=j/\j<(m:Int)
   .rw[decide_eq_true hj]
    walk_at "v"
    refine⟨_,_,rfl,?_⟩
    by_cases hl:0<=l/\l<(m:Int)
    .rw[decide_eq_true hl]
     walk_at "v"
     refine aP (by omega) (aP (by omega) ?_)
     walk_at "v"
     have key:∀b:Bool,(b=true↔cellAt t i.toNat j.toNat=1/\cellAt t i.toNat l.toNat=0/\cellAt t k.toNat j.toNat=0/\cellAt t k.toNat l.toNat=1)->P (.bl b):=fun b hb=>by
      have e:decide (cQ n m t i j k l)=b:=by
       rw[Nr,decide_eq_true_eq,hb]
       exact⟨fun z=>z.2.2.2.2,fun z=>⟨hi,p,hj,hl,z⟩⟩
      rw[e] at g;exact g
     split
     .rename_i a1
      by_cases a2:cellAt t k.toNat l.toNat=1
      .rw[if_pos (show (rowAt t k.toNat).getD l.toNat 0=1 from a2)]
       walk_at "v"
       refine aP (by omega) (aP (by omega) ?_)
       walk_at "v"
       split
       .rename_i u
        refine key _ ?_
        rw[decide_eq_true_eq]
        exact⟨fun z=>⟨Eq.trans a1 a2,Eq.trans u z,z,a2⟩,fun z=>z.2.2.1⟩
       .rename_i u
        refine key _ ⟨fun z=>(nomatch z),fun z=>?_⟩
        exact absurd (Eq.trans z.2.1 z.2.2.1.symm) u
      .rw[if_neg (show ¬ (rowAt t k.toNat).getD l.toNat 0=1 from a2)]
       walk_at "v"
       exact key _ ⟨fun z=>(nomatch z),fun z=>absurd z.2.2.2 a2⟩
     .rename_i a1
      refine key _ ⟨fun z=>(nomatch z),fun z=>?_⟩
      exact absurd (Eq.trans z.1 z.2.2.2.symm) a1
    .rw[decide_eq_false hl]
     walk_at "v"
     rw[decide_eq_false (fun z=>hl z.2.2.2.1)] at g;exact g
   .rw[decide_eq_false hj]
    walk_at "v"
    rw[decide_eq_false (fun z=>hj z.2.2.1)] at g;exact g
  .rw[decide_eq_false p]
   walk_at "v"
   rw[decide_eq_false (fun z=>p z.2.1)] at g;exact g
 .rw[decide_eq_false hi]
  walk_at "v"
  rw[decide_eq_false (fun z=>hi z.1)] at g;exact g
def mP(c:Cs):DSX:=fun ds P R=>∃(t:aaa) (n m:Nat) (i j k l:Int),ds=[dT t,dW i j k l]/\bc n m t/\1<=n/\n<=8/\(cQ n m t i j k l->P (dT (c5 t i.toNat j.toNat k.toNat l.toNat)))/\(¬ cQ n m t i j k l->R c.NoSwap)
theorem tZ{c:Cs}:iX (mP c):=by
 intro xs P v R u k f h
 obtain ⟨t,n,m,i,j,g,l,e,s,r,q,p,o⟩:=h
 exact⟨t,n,m,i,j,g,l,e,s,r,q,fun z=>k _ (p z),fun z=>f _ (o z)⟩
theorem vn{c:Cs}:∀ds P R,mP c ds P R->ds.length=2:=by
 intro ds P R h
 obtain ⟨t,n,m,i,j,f,l,e,g⟩:=h
 rw[e];rfl
theorem xT{c:Cs}{f:Addr}{x:FuncData}(F:FnAt K mg "swap_made" kD iI f x)(p:Fns K mg c)(T:Txt K mg base)(xs:Exs K mg base c):bE P w K mg base (CXR P w) 3 f x iI (spX K (mP c)):=by
 obtain ⟨f0,d0,B⟩:=p.h_copied_table
 have Y:=i5 (P:=P) (w:=w) B p T xs
 obtain ⟨f1,d1,z⟩:=p.h_can_swap
 have X:=yw (P:=P) (w:=w) z p T xs
 refine F.fn.okX qg (fun vs H Q E h=>pH vn h) (fun U A outer s H vs Q E hr h=>?_)
 refine⟨_,(aj (bZ (PT.nox (fF (gR (wcl X hr z (af (pv 0) (af (pv 1) ak)))))) (aw (mO (xs.o_NoSwap.own xs.m_NoSwap) Ny rfl rfl oQ (af cw ak))) aY) (PSs.nox (aj (wst 2 qg.nd (wcl Y hr B (af (pv 0) ak))) (aj (dO ar (iz (wix K (pv 2) (wit K (pv 1) ar)) (wit K (pv 1) ar) set_list)) (aj (dO ar (iz (wix K (pv 2) (wit K (pv 1) ar)) (wit K (pv 1) ar) set_list)) (aj (dO ar (iz (wix K (pv 2) (wit K (pv 1) ar)) (wit K (pv 1) ar) set_list)) (aj (dO ar (iz (wix K (pv 2) (wit K (pv 1) ar)) (wit K (pv 1) ar) set_list)) (aw (aI (pv 2)))))))))),qm (Γn:=[2]) (N:=nk) (fun R=>(iT (Ai (fE (oH (EM.er (aE (S:=jz) vm (ai (ES.er (aa 0)) (ai (ES.er (aa 1)) aq)))))) (mZ (ai (EM.er cj) aq)) (ST.sx aZ)) (ST.sx (ax (ST.post (Γn:=[2]) (bV (M:=[]) 2 (aE (S:=cF) gH (ai (ES.er (aa 0)) aq)))) (ax (cU 2 au (ES.er (bb (aa 1) (EM.er au))) (ES.er (bb (aa 1) (EM.er au)))) (ax (cU 2 au (ES.er (bb (aa 1) (EM.er au))) (ES.er (bb (aa 1) (EM.er au)))) (ax (cU 2 au (ES.er (bb (aa 1) (EM.er au))) (ES.er (bb (aa 1) (EM.er au)))) (ax (cU 2 au (ES.er (bb (aa 1) (EM.er au))) (ES.er (bb (aa 1) (EM.er au)))) (aJ (M:=[2]) (ix 2)))))))))) (fun ds P R O=>?_) h⟩
 obtain ⟨t,n,m,i,j,k,l,rfl,g,hn,L,o,q⟩:=O
 rw[show aL nk [dT t,dW i j k l]=[some (dT t),some (dW i j k l),none] from rfl]
 walk_at "v"
 refine⟨t,n,m,i,j,k,l,rfl,g,hn,?_⟩
 by_cases h:cQ n m t i j k l
 .rw[decide_eq_true h]
  obtain ⟨hi,hk,hj,hl,_⟩:=id h
  have o:=o h
  walk_at "go"
  have NB:=g.1
  refine⟨t,rfl,by omega,?_⟩
  have r:bc n m (setCell t i.toNat j.toNat 0):=g.setCell (by omega)
  have u:bc n m (setCell (setCell t i.toNat j.toNat 0) i.toNat l.toNat 1):=r.setCell (by omega)
  have y:bc n m (setCell (setCell (setCell t i.toNat j.toNat 0) i.toNat l.toNat 1) k.toNat j.toNat 1):=u.setCell (by omega)
  unfold c5 at o
  have J:=g.row (i:=i.toNat) (by omega)
  have I:=r.row (i:=i.toNat) (by omega)
  have G:=u.row (i:=k.toNat) (by omega)
  have C:=y.row (i:=k.toNat) (by omega)
  have l1:=r.1
  have l2:=u.1
  have Z:=y.1
  walk_at "v"
  refine cq (t:=t) (a:=i) (b:=j) (v:=0) rfl (fun R h=>h) (fun R h=>?_) (fun R h=>?_) (by omega) (by rw[J];omega) ?_
  .unfold dW;walk_at "v";exact h
  .unfold dW;walk_at "v";exact h
  walk_at "v"
  refine cq (t:=setCell t i.toNat j.toNat 0) (a:=i) (b:=l) (v:=1) rfl (fun R h=>h) (fun R h=>?_) (fun R h=>?_) (by omega) (by rw[I];omega) ?_
  .unfold dW;walk_at "v";exact h
  .unfold dW;walk_at "v";exact h
  walk_at "v"
  refine cq (t:=setCell (setCell t i.toNat j.toNat 0) i.toNat l.toNat 1) (a:=k) (b:=j) (v:=1) rfl (fun R h=>h) (fun R h=>?_) (fun R h=>?_) (by omega) (by rw[G];omega) ?_
  .unfold dW;walk_at "v";exact h
  .unfold dW;walk_at "v";exact h
  walk_at "v"
  refine cq (t:=setCell (setCell (setCell t i.toNat j.toNat 0) i.toNat l.toNat 1) k.toNat j.toNat 1) (a:=k) (b:=l) (v:=0) rfl (fun R h=>h) (fun R h=>?_) (fun R h=>?_) (by omega) (by rw[C];omega) ?_
  .unfold dW;walk_at "v";exact h
  .unfold dW;walk_at "v";exact h
  walk_at "v"
  exact o
 .rw[decide_eq_false h]
  walk_at "go"
  exact q h
def dS4(q:Q4):D:=dW q.1 q.2.1 q.2.2.1 q.2.2.2
theorem pO{c:List Q4}:(c.map dS4).all L3.pL=true:=by
 rw[NL,ML];exact fun _ _=>rfl
def gS(c:Cs):DSX:=fun ds P R=>∃(t:aaa) (n m:Nat) (f:List Q4),ds=[dT t,.lst (f.map dS4)]/\bc n m t/\1<=n/\n<=8/\(∀u,goT n m t f=some u->P (dT u))/\(goT n m t f=none->R c.NoSwap)
theorem oX{c:Cs}:iX (gS c):=by
 intro xs P p R o k g h
 obtain ⟨t,n,m,f,e,a,b,d,j,i⟩:=h
 exact⟨t,n,m,f,e,a,b,d,fun z y=>k _ (j z y),fun z=>g _ (i z)⟩
theorem qT{c:Cs}:∀ds P R,gS c ds P R->ds.length=2:=by
 intro ds P R h
 unfold gS at h
 grind
theorem sC{c:Cs}{f:Addr}{v:FuncData}(F:FnAt K mg "table_behind" gz fh f v)(x:Fns K mg c)(T:Txt K mg base)(xs:Exs K mg base c):bE P w K mg base (CXR P w) 4 f v fh (Ib K (gS c)):=by
 obtain ⟨S,U,p⟩:=x.h_swap_made
 have O:=xT (P:=P) (w:=w) p x T xs
 refine F.fn.okX iY (fun vs H Q E h=>Gy qT h) (fun M A outer s H vs Q E hr h=>?_)
 refine⟨_,(aj (Fd PassesOwn.leaving rfl (wil K (pv 1)) (wpg 2 iY.nd) (aw (ym (i:=0) iY.nd rfl (by walk_at "o") (jg O (hr.mono (by decide)) rfl p.mg p.fn.kp p.bd .nil xi (PA.nox (af (pv 0) (af (pv 2) ak))))))) (PSs.nox (aw (aI (pv 0))))),FE (Γn:=[]) (N:=jy) (fun R=>(iT (JJ (bI (aa 1)) (aB 2) (SX.post (Γn:=[]) (A4 0 tZ (ai (ES.er (aa 0)) (ai (ES.er (aa 2)) aq))))) (ST.sx (HG (ES.er (aa 0)))))) (fun ds P R B=>?_) h⟩
 obtain ⟨t,n,m,g,rfl,C,n1,y,G,z⟩:=B
 rw[show aL jy [dT t,.lst (g.map dS4)]=[some (dT t),some (.lst (g.map dS4)),none] from rfl]
 walk_at "go"
 refine cO (as:=g) (f:=dS4) (fun i δ=>∃(u:aaa) (q:Option D),δ=[some (dT u),some (.lst (g.map dS4)),q]/\bc n m u/\goT n m u (g.drop i)=goT n m t g) ⟨t,none,rfl,C,rfl⟩ ?_ ?_
 .rintro a ⟨i,j,k,l⟩ δ N e ⟨u,q,rfl,r,o⟩ I
  obtain ⟨L,J⟩:=KE.mp e
  rw[MO L,J] at o
  walk_at "go"
  refine⟨u,n,m,i,j,k,l,rfl,r,n1,y,fun h=>I _ ⟨_,_,rfl,qf r h,by rw[<- o,oK h]⟩,fun h=>z (by rw[<- o,xy h])⟩
 .rintro δ ⟨u,q,rfl,r,o⟩
  rw[NG] at o
  walk_at "go"
  exact G u o.symm
def eP:DSp:=fun ds P=>∃(t o:aaa) (n m:Nat),ds=[dT t,dT o]/\bc n m t/\bc n m o/\n<=8/\t≠o/\∀a:Nat,a<n->rowAt t a≠rowAt o a->P (.int (a:Int))
theorem pT:bt eP:=by
 intro xs P c k h
 unfold eP at h ⊢
 grind
theorem qV:∀ds P,eP ds P->ds.length=2:=by
 intro ds P h
 obtain ⟨_,_,_,_,e,_⟩:=h
 rw[e];rfl
theorem sW{c:Cs}{f:Addr}{j:FuncData}(F:FnAt K mg "first_unlike" eW eR f j)(I:Fns K mg c)(T:Txt K mg base)(xs:Exs K mg base c):bE P w K mg base CX0 1 f j eR (spP K eP):=by
 refine F.fn.ok sr (fun vs H Q E h=>aU qV h) (fun B A outer s H vs Q E hr h=>?_)
 refine⟨_,(aw (aI (wix K (oW rfl (br.of (sc0:=(av eW)) (tn:=["row"]) (cap:=["table","other"]) (idx:=[0,1]) (by decide +kernel) rfl rfl) (bw rfl T.range_ (af (wln K T.len_ (pv 0)) ak)) (ma.name (by decide)) (fun _ _ _ _ _=>fU (i:=0) (bM (l:=["row","table","other"]) (by decide +kernel)) rfl (by walk_at "o") (by first|exact .inl rfl|exact .inr rfl)) (fun _ _ _ _ _=>pI (aO (oG hr.units) (wix K (pv 1) (pv 0)) (wix K (pv 2) (pv 0)) (aW _))) (fun _ _ _ _ _=>(pv 0)) (by intro _;rfl)) ar))),bh (Γn:=[]) (N:=j7) (aJ (M:=[]) (ER.aQ (ES.er (aD (EM.es (nG (cn (ai (EM.er (aR bJ (ai (ES.er (aa 0)) aq))) aq)) (aB 0) (aM (EM.er (ay tG (ES.er (aD (aa 1) (ES.er (aa 0)))) (ES.er (aD (aa 2) (ES.er (aa 0))))))) (ER.aQ (ES.er (aa 0))))) (EM.er au))))) (fun ds P r=>?_) h⟩
 obtain ⟨t,o,n,m,rfl,q,v,G,C,u⟩:=r
 rw[show aL j7 [dT t,dT o]=[some (dT t),some (dT o)] from rfl]
 have lt:=q.1
 have lo:=v.1
 walk_at "go"
 refine rh (lo:=0) (n:=n) (p:=fun a=>decide (rowAt t a≠rowAt o a)) (g:=fun (a:Nat)=>.int (a:Int)) (fun R h=>?_) (by omega) (fun a ha R h=>?_) ?_
 .walk_at "go"
  rw[lt]
  exact h
 .walk_at "gb"
  rw[MS]
  refine bK (by omega) ?_
  rw[L7]
  walk_at "gb"
  refine bK (by omega) ?_
  rw[L7]
  walk_at "gb"
  refine fB ?_
  by_cases e:rowAt t a=rowAt o a
  .have h':R []:=by rw[decide_eq_false (show ¬ rowAt t a≠rowAt o a from fun y=>y e)] at h;exact h
   rw[if_pos rfl,decide_eq_true e]
   walk_at "gb"
   exact h'
  .have h':R [.int (a:Int)]:=by rw[decide_eq_true (show rowAt t a≠rowAt o a from e)] at h;exact h
   rw[if_pos rfl,decide_eq_false e]
   walk_at "gb"
   exact h'
 obtain ⟨a,l,hl⟩:∃a l,(List.range n).filter (fun a=>decide (rowAt t a≠rowAt o a))=a::l:=by
  cases e:(List.range n).filter (fun a=>decide (rowAt t a≠rowAt o a)) with
  |cons a l=>exact⟨a,l,rfl⟩
  |nil =>
   refine absurd (Nf (by omega) fun i z x=>?_) C
   have:=NK.mp e i (Mh.mpr (by omega))
   rw[decide_eq_true_eq,Classical.not_not] at this
   unfold rowAt at this
   rw[dz,gV z,dz,gV x] at this
   exact this
 have ha:a∈(List.range n).filter (fun a=>decide (rowAt t a≠rowAt o a)):=by rw[hl];exact ox
 have hm:=MP.mp ha
 rw[hl,Mc]
 walk_at "go"
 exact u a (Mh.mp hm.1) (of_decide_eq_true hm.2)
theorem LR{U:aac}{k:Nat}:((k:Int)∈U.map fun (r:Nat)=>(r:Int))↔k∈U:=by
 rw[Mb]
 exact ⟨fun ⟨a, ha, e⟩ => by have : a = k := by omega
                             rw[<- this];exact ha,fun h=>⟨k,h,rfl⟩⟩
theorem Lf{c:Bool}{k:Nat}{U:aac}{P:DK}(h:P (.bl (if c then !decide (k∈U) else decide (k∈U)))):vIn c (.int (k:Int)) (dN U) P:=by
 refine IU ?_
 rw[show decide ((k:Int)∈U.map fun (r:Nat)=>(r:Int))=decide (k∈U) from decide_eq_decide.mpr LR]
 exact h
theorem K8{rs:aac}{s:Nat}(h:s<=rs.length):L3.cutD ((rs.map fun (r:Nat)=>(r:Int)).map L3.D.int) (some (s:Int)) none=((rs.drop s).map fun (r:Nat)=>(r:Int)).map L3.D.int:=by
 unfold L3.cutD
 rw[mo,mo,HT.uQ,HT.xB,NQ h,Ni (by rw[MZ,mo,mo];exact Md _),List.map_drop,List.map_drop]
theorem BZ{rs:aac}{x:Nat}:dN (rs++[x])=L3.D.lst ((rs.map fun (p:Nat)=>(p:Int)).map L3.D.int++[L3.D.int (x:Int)]):=by
 show L3.D.lst _=_
 rw[Mf,Mf];rfl
theorem gN{rs:aac}{p:Nat}:(rs.map fun (r:Nat)=>(r:Int)).getD p 0=((rs.getD p 0:Nat):Int):=by
 rw[dz,L4,dz]
 cases rs[p]?<;>rfl
theorem ya{n m a b:Nat}{t:aaa}(c:bc n m t)(ha:a<n):(gj t b).getD a 0=cellAt t a b:=by
 have:=c.1
 unfold gj cellAt
 rw[dz,L4,gV (by omega),dz (l:=t),gV (by omega)];rfl
theorem DJ{a b:aab}{c:Nat}(h:c∈bp a b):c<a.length/\a.getD c 0<b.getD c 0:=by
 unfold bp at h
 have:=MP.mp h
 exact⟨Mh.mp this.1,of_decide_eq_true this.2⟩
theorem tI{a b:aab}{c:Nat}(f:c<a.length)(h:a.getD c 0<b.getD c 0):∃d l,bp a b=d::l/\d<a.length/\a.getD d 0<b.getD d 0:=by
 have m:c∈bp a b:=MP.mpr ⟨Mh.mpr f,decide_eq_true h⟩
 cases e:bp a b with
 |nil=>rw[e] at m;nomatch m
 |cons d l =>
  have:=DJ (a:=a) (b:=b) (c:=d) (by rw[e];exact ox)
  exact⟨d,l,rfl,this⟩
theorem J5{n m a:Nat}{t o:aaa}(f:bc n m t)(g:bc n m o)(ha:a<n)(h:rowAt t a≠rowAt o a):∃b,b<m/\cellAt t a b≠cellAt o a b:=by
 refine M7 fun z=>h (Nf (by rw[f.row ha,g.row ha]) fun i c j=>?_)
 refine M7 fun y=>z ⟨i,by rw[f.row ha] at c;exact c,fun w=>y ?_⟩
 have w:(rowAt t a).getD i 0=(rowAt o a).getD i 0:=w
 rw[dz,gV c,dz,gV j] at w
 exact w
def eM:DSp:=fun ds P=>∃(t o:aaa) (n m:Nat),ds=[dT t,dT o]/\ig n m t/\ig n m o/\1<=n/\n<=8/\1<=m/\m<=8/\(∀a,a<n->du t a=du o a)/\(∀b,b<m->ee t b=ee o b)/\t≠o/\∀rs cs:aac,cs.length=rs.length->rs.length<=8->Rg.zq n m rs.length t o (fun p=>rs.getD p 0) (fun p=>cs.getD p 0)->P (.tup [dN rs,dN cs])
theorem pZ:bt eM:=by
 intro xs P c k h
 unfold eM at h ⊢
 grind
theorem rj:∀ds P,eM ds P->ds.length=2:=by
 intro ds P h
 obtain ⟨_,_,_,_,e,_⟩:=h
 rw[e];rfl
theorem sj{c:Cs}{f:Addr}{Y:FuncData}(F:FnAt K mg "ring_between" gv eU f Y)(u:Fns K mg c)(T:Txt K mg base)(xs:Exs K mg base c):bE P w K mg base CX0 2 f Y eU (spP K eM):=by
 obtain ⟨f0,d0,OU⟩:=u.h_first_unlike
 have P1:=sW (P:=P) (w:=w) OU u T xs
 obtain ⟨f1,d1,R⟩:=u.h_places_below
 have M1:=dE (P:=P) (w:=w) R u T xs
 obtain ⟨f2,Z,O⟩:=u.h_column_of
 have Ow:=pW (P:=P) (w:=w) O u T xs
 refine F.fn.ok b8 (fun vs H Q E h=>aU rj h) (fun cdv A outer s H vs Q E hr h=>?_)
 refine⟨_,(aj (wst 2 b8.nd (wcl P1 hr OU (af (pv 0) (af (pv 1) ak)))) (aj (wst 3 b8.nd (bD ak)) (aj (wst 4 b8.nd (bD ak)) (aj (mD PassesOwn.never (aO (vV (K:=K) rfl) (pv 2) (pv 3) (by with_unfolding_all rfl)) (aj (wst 5 b8.nd (wix K (wcl M1 hr R (af (wix K (pv 0) (pv 2)) (af (wix K (pv 1) (pv 2)) ak))) ar)) (aj (cH (ia Mp Mw Mv bQ (pv 3) (af (pv 2) ak))) (aj (cH (ia Mp Mw Mv bQ (pv 4) (af (pv 5) ak))) (aw (wst 2 b8.nd (wix K (wcl M1 hr R (af (wcl Ow hr O (af (pv 1) (af (pv 5) ak))) (af (wcl Ow hr O (af (pv 0) (af (pv 5) ak))) ak))) ar))))))) (aj (wst 6 b8.nd (ia Mp PySem.F.slot_list_index PySem.F.type_list_index zB (pv 3) (af (pv 2) ak))) (aw (aI (dU (af (iQ (iJ (K:=K) rfl) (pv 3) (jf (pv 6)) me) (af (iQ (iJ (K:=K) rfl) (pv 4) (jf (pv 6)) me) ak)))))))))),bh (Γn:=[4,3]) (N:=kf) (ax (ST.post (Γn:=[]) (aN 2 (EM.es (aE (S:=eP) pT (ai (ES.er (aa 0)) (ai (ES.er (aa 1)) aq)))))) (ax (ST.post (Γn:=[3]) (bV (M:=[]) 3 (bC aV))) (ax (ST.post (Γn:=[4,3]) (bV (M:=[]) 4 (bC aV))) (ax (mW (aM (EM.er (ay Kz (ES.er (aa 2)) (gh 3)))) (ax (ST.post (Γn:=[4,3]) (aN 5 (aD (EM.es (aE (S:=bA) bY (ai (ES.er (aD (aa 0) (ES.er (aa 2)))) (ai (ES.er (aD (aa 1) (ES.er (aa 2)))) aq)))) (EM.er au)))) (ax (ST.post (Γn:=[4,3]) (bR (M:=[]) 3 (ER.aQ (ES.er (aa 2))))) (ax (ST.post (Γn:=[4,3]) (bR (M:=[]) 4 (ER.aQ (ES.er (aa 5))))) (ST.post (Γn:=[4,3]) (aN 2 (aD (EM.es (aE (S:=bA) bY (ai (EM.er (aE (S:=fj) ka (ai (ES.er (aa 1)) (ai (ES.er (aa 5)) aq)))) (ai (EM.er (aE (S:=fj) ka (ai (ES.er (aa 0)) (ai (ES.er (aa 5)) aq)))) aq)))) (EM.er au)))))))) (ax (ST.post (Γn:=[4,3]) (aN 6 (EM.es (zC (gh 3) (ES.er (aa 2)))))) (aJ (M:=[]) (dP (aA (sf (gh 3) (or_some (ES.er (aa 6))) or_none) (aA (sf (gh 4) (or_some (ES.er (aa 6))) or_none) aV))))))))) (fun ds P hS=>?_) h⟩
 obtain ⟨t,o,n,m,rfl,g,i,n1,n8,m1,m8,hr,RS,Pp,hP⟩:=hS
 rw[show aL kf [dT t,dT o]=[some (dT t),some (dT o),none,none,none,none,none] from rfl]
 walk_at "go"
 refine⟨t,o,n,m,rfl,g.1,i.1,n8,Pp,fun a ha hu=>?_⟩
 walk_at "go"
 obtain ⟨f,hf⟩:∃f:Nat->Nat,∀c,f c=(bp (gj o c) (gj t c)).getD 0 0:=⟨fun c=>(bp (gj o c) (gj t c)).getD 0 0,fun _=>rfl⟩
 have lt:=g.1.1
 have lo:=i.1.1
 have Ya:∀{x y:Int},(x=0\/x=1)->(y=0\/y=1)->x<y->x=0/\y=1:=fun h1 h2 h3=>by omega
 refine⟨fun k δ=>∃(row:Nat) (rs cs:aac) (U:Option D),δ=[some (dT t),some (dT o),some (.int (row:Int)),some (dN rs),some (dN cs),U,none]/\Rg.Pt n m t o f row rs cs/\k=n - rs.length,⟨_,a,[],[],none,rfl,⟨rfl,Na,fun x h=>(nomatch h),fun x h=>(nomatch h),fun p h=>absurd h (Nat.not_lt_zero _),fun p h=>absurd h (Nat.not_lt_zero _),fun h=>absurd h (by decide),fun p h=>absurd h (Nat.not_lt_zero _),ha,J5 g.1 i.1 ha hu⟩,rfl⟩,?_⟩
 rintro k δ ⟨row,rs,cs,U,rfl,j,rfl⟩
 have lrs:rs.length<=n:=Mat.tO j.nd j.rn
 have lcs:=j.len
 obtain ⟨q,b0,J,Uv⟩:=j.hr
 walk_at "go"
 refine Lf ?_
 by_cases B:row∈rs
 .simp only[if_true,decide_eq_true B,OL]
  walk_at "go"
  obtain ⟨s',L⟩:=List.getElem?_of_mem B
  obtain ⟨sl,se⟩:=KE.mp L
  unfold pA
  dsimp only
  refine⟨bN,s',⟨.int (row:Int),by rw[L4,L4,L];rfl,by show ((row:Int) == (row:Int))=true;exact beq_self_eq_true _⟩,fun G z hm X=>?_,bN,bN,by decide,?_⟩
  .rw[L4,L4,gV (show G < rs.length by omega)] at X
   cases X
   show (((rs[G]:Nat):Int) == (row:Int))=false
   refine beq_eq_false_iff_ne.mpr fun y=>?_
   have y:rs[G]=rs[s']:=by rw[se];omega
   have:=(List.getElem_inj j.nd).mp y
   omega
  .rw[K8 (by omega),K8 (by omega)]
   exact hP (rs.drop s') (cs.drop s') (by rw[MZ,MZ];omega) (by rw[MZ];omega) (j.ring L)
 .simp only[if_true,decide_eq_false B,Bool.not_false]
  walk_at "go"
  have lr1:=g.1.row q
  have Xu:=i.1.row q
  refine bK (by omega) ?_
  rw[L7]
  refine bK (by omega) ?_
  rw[L7]
  obtain ⟨c',Rw,SV⟩:=Rg.FZ g.1 i.1 q J (hr row q) Uv
  obtain ⟨c,l,hl,hc,NO⟩:=tI (a:=rowAt t row) (b:=rowAt o row) (c:=c') (by omega) SV
  refine⟨rowAt t row,rowAt o row,rfl,by omega,by omega,?_⟩
  rw[hl,Mc]
  walk_at "go"
  rw[Mc]
  walk_at "go"
  have cm:c<m:=by omega
  obtain ⟨c1,c2⟩:=Ya (g.cell q cm) (i.cell q cm) NO
  have lr:(rs++[row]).length<=n:=Mat.tO (n:=n) (by
   rw[Mm]
   exact⟨j.nd,by simp,fun x I y hy z=>B (by rw[Gc.mp hy] at z;rw[<- z];exact I)⟩) (fun x I=>by
   rcases Ma.mp I with y|y
   .exact j.rn x y
   .rw[Gc.mp y];exact q)
  rw[Mg,NU] at lr
  refine⟨o,c,rfl,by omega,fun r hr=>by rw[i.1.2 r hr];exact cm,?_⟩
  refine⟨t,c,rfl,by omega,fun r hr=>by rw[g.1.2 r hr];exact cm,?_⟩
  obtain ⟨d',Tx,We⟩:=Rg.EG g.1 i.1 q (RS c cm) (show cellAt t row c<cellAt o row c by omega)
  obtain ⟨d,l2,SY,Z1,Uk⟩:=tI (a:=gj o c) (b:=gj t c) (c:=d') (by rw[lL];omega) (by rw[ya i.1 Tx,ya g.1 Tx];exact We)
  rw[lL] at Z1
  have v:d<n:=by omega
  rw[ya i.1 v,ya g.1 v] at Uk
  obtain ⟨d1,Z⟩:=Ya (i.cell v cm) (g.cell v cm) Uk
  have C:f c=d:=by rw[hf,SY];rfl
  refine⟨gj o c,gj t c,rfl,by rw[lL];omega,by rw[lL,lL];omega,?_⟩
  rw[SY,Mc]
  walk_at "go"
  rw[Mc]
  walk_at "go"
  refine⟨n - (rs.length+1),by omega,d,rs++[row],cs++[c],some (.int (c:Int)),by rw[BZ,BZ],?_,by rw[Mg,NU]⟩
  rw[<- C]
  exact j.step B cm c1 c2 (by rw[C];exact v) (by rw[C];exact Z) (by rw[C];exact d1)
theorem Dt{ns:aab}{Q:DK}(h:0<ns.length)(k:Q (.int (ns.getD (ns.length - 1) 0))):asO (atI (ns.map L3.D.int) (-1)) Q:=by
 have:ixN (ns.map L3.D.int).length (-1)=some (ns.length - 1):=by
  unfold ixN
  rw[mo,if_neg (by omega),if_pos (by omega)]
  congr 1;omega
 unfold atI
 rw[this]
 show asO ((ns.map L3.D.int)[ns.length - 1]?) Q
 rw[L4,gV (by omega)]
 rw[dz,gV (by omega)] at k
 exact k
theorem fS{g:Nat->Bool}{p:Nat}(h:g p=true):(List.range (p+1)).filter g=(List.range p).filter g++[p]:=by
 rw[Nq,Oq];simp [h]
theorem fN{g:Nat->Bool}{p:Nat}(h:g p=false):(List.range (p+1)).filter g=(List.range p).filter g:=by
 rw[Nq,Oq];simp [h]
def gE:DSp:=fun ds P=>∃(t o:aaa) (n m:Nat) (rs cs:aac),ds=[dT t,dN rs,dN cs]/\ig n m t/\n<=8/\m<=8/\cs.length=rs.length/\rs.length<=8/\Rg.zq n m rs.length t o (fun p=>rs.getD p 0) (fun p=>cs.getD p 0)/\P (.lst (((Rg.rsw rs.length (cellAt t) (fun p=>rs.getD p 0) (fun p=>cs.getD p 0)).map (Rg.q4 rs.length (fun p=>rs.getD p 0) (fun p=>cs.getD p 0))).map dS4))
theorem so:bt gE:=by
 intro xs P c k h
 unfold gE at h ⊢
 grind
theorem uL:∀ds P,gE ds P->ds.length=3:=by
 intro ds P h
 obtain ⟨_,_,_,_,_,_,e,_⟩:=h
 rw[e];rfl
theorem vt{c:Cs}{f:Addr}{I:FuncData}(F:FnAt K mg "ring_swaps" jh gT f I)(A_:Fns K mg c)(T:Txt K mg base)(xs:Exs K mg base c):bE P w K mg base CX0 1 f I gT (spP K gE):=by
 refine F.fn.ok dJ (fun vs H Q E h=>aU uL h) (fun S A outer s H vs Q E hr h=>?_)
 refine⟨_,(aj (wst 3 dJ.nd (bD ak)) (aj (wst 4 dJ.nd (bD ak)) (aj (wst 5 dJ.nd (wix K (pv 2) (GB Ay ar))) (aj (wfo (bw rfl T.range_ (af (aK og (wln K T.len_ (pv 1)) ar) ak)) (wpg 6 dJ.nd) (aj (wst 7 dJ.nd (dU (af (wix K (pv 1) (pv 6)) (af (pv 5) (af (wix K (pv 1) (aK cK (pv 6) ar)) (af (wix K (pv 2) (pv 6)) ak)))))) (aw (bZ (aO i9 (wix K (wix K (pv 0) (wix K (pv 1) (aK cK (pv 6) ar))) (pv 5)) ar (aW _)) (aw (cH (ia Mp Mw Mv bQ (pv 3) (af (pv 7) ak)))) (aw (cH (ia Mp Mw Mv bQ (pv 4) (af (pv 7) ak)))))))) (aw (aI (aK AY (pv 3) (yI (K:=K) rfl rfl rfl T.list_ rfl T.reversed_ (pv 4))))))))),bh (Γn:=[4,3]) (N:=lZ) (ax (ST.post (Γn:=[3]) (bV (M:=[]) 3 (bC aV))) (ax (ST.post (Γn:=[4,3]) (bV (M:=[]) 4 (bC aV))) (ax (ST.post (Γn:=[4,3]) (aN 5 (aD (aa 2) (EM.er (Gs GR (EM.er au)))))) (ax (dQ (cn (ai (EM.er (ay cJ (EM.er (aR bJ (ai (ES.er (aa 1)) aq))) (EM.er au))) aq)) (aB 6) (ax (ST.post (Γn:=[4,3]) (aN 7 (EM.es (dP (aA (ER.flat (ES.er (aD (aa 1) (ES.er (aa 6))))) (aA (ER.flat (ES.er (aa 5))) (aA (ER.flat (ES.er (aD (aa 1) (EM.er (ay cJ (ES.er (aa 6)) (EM.er au)))))) (aA (ER.flat (ES.er (aD (aa 2) (ES.er (aa 6))))) aV)))))))) (cS (aM (EM.er (ay nU (ES.er (aD (aD (aa 0) (ES.er (aD (aa 1) (EM.er (ay cJ (ES.er (aa 6)) (EM.er au)))))) (ES.er (aa 5)))) (EM.er au)))) (ST.post (Γn:=[4,3]) (bR (M:=[]) 3 (ER.flat (ES.er (aa 7))))) (ST.post (Γn:=[4,3]) (bR (M:=[]) 4 (ER.flat (ES.er (aa 7)))))))) (aJ (M:=[]) (ay Kt (gh 3) (A6 (gh 4)))))))) (fun ds P R=>?_) h⟩
 obtain ⟨t,o,n,m,rs,cs,rfl,B,X,Y,O,Z,j,u⟩:=R
 rw[show aL lZ [dT t,dN rs,dN cs]=[some (dT t),some (dN rs),some (dN cs),none,none,none,none,none] from rfl]
 have two:=j.two
 have lt:=B.1.1
 have L:(rs.map fun (r:Nat)=>(r:Int)).length=rs.length:=mo ..
 have U:(cs.map fun (r:Nat)=>(r:Int)).length=cs.length:=mo ..
 obtain ⟨r,er⟩:∃r:Nat->Nat,(fun p=>rs.getD p 0)=r:=⟨_,rfl⟩
 obtain ⟨cc,J⟩:∃c:Nat->Nat,(fun p=>cs.getD p 0)=c:=⟨_,rfl⟩
 have y:∀p,rs.getD p 0=r p:=fun p=>by rw[<- er]
 have G:∀p,cs.getD p 0=cc p:=fun p=>by rw[<- J]
 rw[er,J] at j u
 walk_at "go"
 refine Dt (by omega) ?_
 rw[U,gN,G,O]
 walk_at "go"
 rw[show ((rs.length:Int) - 1).toNat=rs.length - 1 by omega]
 refine lD (lo:=0) (n:=rs.length - 1) (fun k δ=>∃(x v:Option D),δ=[some (dT t),some (dN rs),some (dN cs),some (.lst ((((List.range k).filter (Rg.ah rs.length (cellAt t) r cc)).map (Rg.q4 rs.length r cc)).map dS4)),some (.lst ((((List.range k).filter fun q=>!Rg.ah rs.length (cellAt t) r cc q).map (Rg.q4 rs.length r cc)).map dS4)),some (.int ((cc (rs.length - 1):Nat):Int)),x,v]) ⟨none,none,rfl⟩ ?_ ?_
 .rintro p δ N hp ⟨x,v,rfl⟩ C
  rw[MS]
  have l1:∀g:Nat->Bool,((((List.range p).filter g).map (Rg.q4 rs.length r cc)).map dS4).length<=p:=fun g=>by
   rw[mo,mo]
   exact Mx (List.length_filter_le ..) (by rw[L9];exact Md _)
  have rp:=j.rn (p+1) (by omega)
  have cl:=j.cm (rs.length - 1) (by omega)
  have Y7:=B.1.row rp
  walk_at "go"
  refine aP (by omega) ?_
  rw[L7,gN,y]
  walk_at "go"
  refine aP (by omega) ?_
  rw[show ((p:Int)+1).toNat=p+1 by omega,gN,y]
  walk_at "go"
  refine aP (by omega) ?_
  rw[L7,gN,G]
  walk_at "go"
  refine aP (by omega) ?_
  rw[show ((p:Int)+1).toNat=p+1 by omega,gN,y]
  walk_at "go"
  refine bK (by omega) ?_
  rw[L7]
  walk_at "go"
  refine aP (by omega) ?_
  rw[L7]
  walk_at "go"
  have z:=l1 (Rg.ah rs.length (cellAt t) r cc)
  have q2:=l1 fun q=>!Rg.ah rs.length (cellAt t) r cc q
  rw[mo,mo] at z q2
  by_cases e:(rowAt t (r (p+1))).getD (cc (rs.length - 1)) 0=0
  .have i:Rg.ah rs.length (cellAt t) r cc p=true:=decide_eq_true e
   rw[if_pos e]
   refine⟨by omega,C _ ⟨some (.int (p:Int)),some (dS4 (Rg.q4 rs.length r cc p)),?_⟩⟩
   rw[fS (g:=Rg.ah rs.length (cellAt t) r cc) i,fN (g:=fun q=>!Rg.ah rs.length (cellAt t) r cc q) (by simp [i]),Mf,Mf]
   rfl
  .have i:Rg.ah rs.length (cellAt t) r cc p=false:=decide_eq_false e
   rw[if_neg e]
   refine⟨by omega,C _ ⟨some (.int (p:Int)),some (dS4 (Rg.q4 rs.length r cc p)),?_⟩⟩
   rw[fN (g:=Rg.ah rs.length (cellAt t) r cc) i,fS (g:=fun q=>!Rg.ah rs.length (cellAt t) r cc q) (by simp [i]),Mf,Mf]
   rfl
 .rintro δ ⟨x,v,rfl⟩
  have l1:∀g:Nat->Bool,((List.range (rs.length - 1)).filter g).length<=rs.length - 1:=fun g=>Mx (List.length_filter_le ..) (by rw[L9];exact Md _)
  have z:=l1 (Rg.ah rs.length (cellAt t) r cc)
  have q2:=l1 fun q=>!Rg.ah rs.length (cellAt t) r cc q
  walk_at "go"
  refine⟨⟨pO,by rw[List.all_reverse];exact pO,by rw[List.length_reverse,mo,mo];omega⟩,?_⟩
  unfold Rg.rsw at u
  rw[Mf,Mf,List.map_reverse,List.map_reverse] at u
  exact u
theorem EO{B:Int}{f:Nat->Int}:∀{n:Nat},(∀i,i<n->f i<=B)->sN n f<=n*B
 |0,_=>by rw[CB];simp
 |n+1,h=>by
  rw[bU,show ((n+1:Nat):Int)*B=n*B+B by rw[Int.natCast_add,Int.add_mul];simp]
  have:=EO (n:=n) fun i hi=>h i (by omega)
  have:=h n (by omega)
  omega
theorem Gn{n m:Nat}{t o:aaa}(g:n<=8)(h:m<=8):Rg.apart n m t o<=64:=by
 unfold Rg.apart
 have c:∀a,a<n->(sN m fun b=>Rg.pos (cellAt t a b) (cellAt o a b))<=8:=fun a _=>by
  have:=EO (B:=1) (n:=m) (f:=fun b=>Rg.pos (cellAt t a b) (cellAt o a b)) fun b _=>by unfold Rg.pos;split<;>omega
  omega
 have:=EO c
 omega
theorem C5{n m f j:Nat}{t o:aaa}(c:bc n m t)(i:bc f j o):t.map List.sum=o.map List.sum↔n=f/\∀a,a<n->du t a=du o a:=by
 have g:∀{u:aaa}{a:Nat},(u.map List.sum).getD a 0=du u a:=fun {u a}=>by
  unfold du rowAt
  rw[dz,L4,dz]
  cases u[a]?<;>rfl
 constructor
 .intro e
  refine⟨?_,fun a _=>by rw[<- g,<- g,e]⟩
  have:=congrArg List.length e
  rw[mo,mo,c.1,i.1] at this
  exact this
 .rintro ⟨rfl,h⟩
  exact Dy (by rw[c.1,i.1]) fun a ha=>h a (by rw[<- c.1];exact ha)
theorem Cw{m c:Nat}{t o:aaa}:(turned m t).map List.sum=(turned c o).map List.sum↔m=c/\∀b,b<m->ee t b=ee o b:=by
 have e:∀{k:Nat}{u:aaa},(turned k u).map List.sum=(List.range k).map fun b=>ee u b:=fun {k u}=>by unfold turned;rw[Mz];rfl
 rw[e,e]
 constructor
 .intro z
  have hl:=congrArg List.length z
  rw[mo,mo,L9,L9] at hl
  subst hl
  refine⟨rfl,fun b hb=>?_⟩
  have:=congrArg (fun l=>l.getD b 0) z
  simp only[dz,L4,MI hb] at this
  exact this
 .rintro ⟨rfl,h⟩
  exact Ob fun b hb=>h b (Mh.mp hb)
theorem LJ{c:List Q4}:(c.map dS4).all L3.Lu=true:=by
 rw[NL,ML];exact fun _ _=>rfl
def iW(c:Cs):DSX:=fun ds P R=>∃(t o:aaa) (n m g h:Nat),ds=[dT t,dT o]/\ig n m t/\ig g h o/\1<=n/\n<=8/\1<=m/\m<=8/\1<=g/\g<=8/\1<=h/\h<=8 /\
 (∀f:List Rg.Q4,n=g->m=h->Rg.goT n m t f=some o->(f.length:Int)<=64->(t=o/\f=[]\/(f.length:Int)+1<=Rg.apart n m t o)->P (.lst (f.map dS4)))/\((¬ (n=g/\m=h/\(∀a,a<n->du t a=du o a)/\∀b,b<m->ee t b=ee o b))->R c.NotAlike)
theorem oz{c:Cs}:iX (iW c):=by
 intro xs P L R J k j h
 obtain ⟨t,o,n,m,g,i,e,a1,a2,H,G,F,E,C,B,y,I,q,p⟩:=h
 exact⟨t,o,n,m,g,i,e,a1,a2,H,G,F,E,C,B,y,I,fun f x v u s r=>k _ (q f x v u s r),fun z=>j _ (p z)⟩
theorem p7{c:Cs}:∀ds P R,iW c ds P R->ds.length=2:=by
 intro ds P R h
 obtain ⟨_,_,_,_,_,_,e,_⟩:=h
 rw[e];rfl
theorem qG{c:Cs}{f:Addr}{fd:FuncData}(F:FnAt K mg "swaps_between" fR dF f fd)(g:Fns K mg c)(T:Txt K mg base)(xs:Exs K mg base c):bE P w K mg base (CXR P w) 5 f fd dF (spX K (iW c)):=by
 obtain ⟨f0,d0,OT⟩:=g.h_ring_between
 have PY:=sj (P:=P) (w:=w) OT g T xs
 obtain ⟨f1,d1,Pl⟩:=g.h_ring_swaps
 have Qv:=vt (P:=P) (w:=w) Pl g T xs
 obtain ⟨f2,d2,G⟩:=g.h_table_behind
 have PX:=sC (P:=P) (w:=w) G g T xs
 obtain ⟨f3,d3,Y⟩:=g.h_sums_of_rows
 have Nt:=iV (P:=P) (w:=w) Y g T xs
 obtain ⟨f4,d4,X⟩:=g.h_sums_of_columns
 have NC:=jN (P:=P) (w:=w) X g T xs
 refine F.fn.okX cz (fun vs H Q E h=>pH p7 h) (fun cdv A outer s H vs Q E hr h=>?_)
 refine⟨_,(aj (bZ (PT.nox (PW.pt (mY (aO (oG hr.units) (wcl Nt hr Y (af (pv 0) ak)) (wcl Nt hr Y (af (pv 1) ak)) (aW _)) (mT (aO (oG hr.units) (wcl NC hr X (af (pv 0) ak)) (wcl NC hr X (af (pv 1) ak)) (aW _)))))) (aw (mO (xs.o_NotAlike.own xs.m_NotAlike) Ny rfl rfl oQ (af cw ak))) aY) (PSs.nox (aj (wst 2 cz.nd (pv 0)) (aj (wst 3 cz.nd (bD ak)) (aj (mD PassesOwn.never (aO (oG hr.units) (pv 2) (pv 1) (aW _)) (aj (wst 4 cz.nd (wcl PY hr OT (af (pv 2) (af (pv 1) ak)))) (aj (wst 5 cz.nd (wcl Qv hr Pl (af (pv 2) (af (wit K (pv 4) ar) (af (wit K (pv 4) ar) ak))))) (aj (wst 2 cz.nd (jg PX (hr.mono (by decide)) rfl G.mg G.fn.kp G.bd .nil BU (af (pv 2) (af (pv 5) ak)))) (aw (cH (ia Mp PySem.F.slot_list_extend PySem.F.type_list_extend D0 (pv 3) (af (pv 5) ak)))))))) (aw (aI (pv 3)))))))),qm (Γn:=[3]) (N:=i8) (fun R=>(iT (Ai (mL (aM (EM.er (ay tG (EM.er (aE (S:=bX) dY (ai (ES.er (aa 0)) aq))) (EM.er (aE (S:=bX) dY (ai (ES.er (aa 1)) aq)))))) (aM (EM.er (ay tG (EM.er (aE (S:=bL) fi (ai (ES.er (aa 0)) aq))) (EM.er (aE (S:=bL) fi (ai (ES.er (aa 1)) aq))))))) (mZ (ai (EM.er cj) aq)) (ST.sx aZ)) (ST.sx (ax (ST.post (Γn:=[]) (aN 2 (aa 0))) (ax (ST.post (Γn:=[3]) (bV (M:=[]) 3 (bC aV))) (ax (mW (aM (EM.er (ay tG (ES.er (aa 2)) (ES.er (aa 1))))) (ax (ST.post (Γn:=[3]) (aN 4 (EM.es (aE (S:=eM) pZ (ai (ES.er (aa 2)) (ai (ES.er (aa 1)) aq)))))) (ax (ST.post (Γn:=[3]) (aN 5 (EM.es (aE (S:=gE) so (ai (ES.er (aa 2)) (ai (ES.er (bb (aa 4) (EM.er au))) (ai (ES.er (bb (aa 4) (EM.er au))) aq))))))) (ax (Gh 3 2 (Ik oX (ai (ES.er (aa 2)) (ai (ES.er (aa 5)) aq))))
   (ST0.st (GX 3 (ES.er (aa 5)))))))) (aJ (M:=[3]) (ix 3)))))))) (fun ds P R hS=>?_) h⟩
 obtain ⟨t,o,n,m,n',m',rfl,x,y,n1,B,m1,I,Y2,n8',Xs,m8',hP,O⟩:=hS
 rw[show aL i8 [dT t,dT o]=[some (dT t),some (dT o),none,none,none,none] from rfl]
 have lt:=x.1.1
 have lo:=y.1.1
 walk_at "go"
 refine⟨t,rfl,by omega,o,rfl,by omega,?_⟩
 refine fB ?_
 by_cases e1:t.map List.sum=o.map List.sum
 .rw[if_pos rfl,decide_eq_true e1]
  walk_at "go"
  refine⟨t,n,m,rfl,x.1,n1,by omega,by omega,o,n',m',rfl,y.1,Y2,by omega,by omega,?_⟩
  refine fB ?_
  by_cases e2:(turned m t).map List.sum=(turned m' o).map List.sum
  .rw[if_pos rfl,decide_eq_true e2]
   walk_at "go"
   obtain ⟨en,hr⟩:=(C5 x.1 y.1).mp e1
   obtain ⟨em,Sz⟩:=Cw.mp e2
   subst en
   subst em
   clear e1 e2 O
   have a64:=Gn (n:=n) (m:=m) (t:=t) (o:=o) B I
   refine⟨fun k δ=>∃(u:aaa) (i:List Q4) (o4 Z:Option D),δ=[some (dT t),some (dT o),some (dT u),some (.lst (i.map dS4)),o4,Z]/\Rg.goT n m t i=some u/\((u=t/\i=[])\/(i.length:Int)+1+Rg.apart n m u o<=Rg.apart n m t o)/\k=(Rg.apart n m u o).toNat,⟨_,t,[],none,none,rfl,rfl,.inl ⟨rfl,rfl⟩,rfl⟩,?_⟩
   rintro k δ ⟨u,i,o4,Z,rfl,L,J,rfl⟩
   have kp:=Rg.uj x L
   have lu:=kp.on.1.1
   have a0:=Rg.pQ (n:=n) (m:=m) (t:=u) (o:=o)
   have sl:(i.length:Int)<=64:=by
    rcases J with ⟨_,rfl⟩|h
    .simp
    .omega
   walk_at "go"
   refine wu ?_
   by_cases C:u=o
   .rw[if_pos rfl,decide_eq_true C]
    walk_at "go"
    subst C
    refine hP i rfl rfl L sl ?_
    rcases J with ⟨h1,h2⟩|h
    .exact .inl ⟨h1.symm,h2⟩
    .exact .inr (by omega)
   .rw[if_pos rfl,decide_eq_false C]
    walk_at "go"
    refine⟨u,o,n,m,rfl,kp.on,y,n1,B,m1,I,fun a ha=>by rw[kp.rs a,hr a ha],fun b hb=>by rw[kp.cs b,Sz b hb],C,fun rs cs l1 l8 j=>?_⟩
    walk_at "go"
    refine⟨u,o,n,m,rs,cs,rfl,kp.on,B,I,l1,l8,j,?_⟩
    have two:=j.two
    obtain ⟨U,v,TB⟩:=j.toRing.all (fun p hp=>kp.on.cell (j.rn p hp) (j.cm _ (by omega))) kp.on.1 (fun a b _ _=>rfl)
    have less:=j.less TB
    have A0:=Rg.pQ (n:=n) (m:=m) (t:=U) (o:=o)
    obtain ⟨q,Tn⟩:∃q,(Rg.rsw rs.length (cellAt u) (fun p=>rs.getD p 0) (fun p=>cs.getD p 0)).map (Rg.q4 rs.length (fun p=>rs.getD p 0) (fun p=>cs.getD p 0))=q:=⟨_,rfl⟩
    have Y6:q.length=rs.length - 1:=by rw[<- Tn,mo,Rg.IH]
    rw[Tn] at v ⊢
    have kU:=Rg.uj kp.on v
    have lU:=kU.on.1.1
    walk_at "go"
    refine⟨pO,LJ,u,n,m,q,rfl,kp.on.1,n1,B,fun u' e=>?_,fun e=>by rw[v] at e;cases e⟩
    rw[v] at e
    cases e
    refine⟨U,rfl,fun z=>by rw[z] at lU;simp at lU;omega,fun r hr z=>by have:=kU.on.1.2 r hr;rw[z] at this;simp at this;omega,_,rfl,pO,pO,by rw[mo];omega,(Rg.apart n m U o).toNat,by omega,U,i++q,_,_,by rw[Mf],by rw[Rg.nN L];exact v,.inr ?_,rfl⟩
    rw[Mg,Y6,less]
    rcases J with ⟨rfl,rfl⟩|h
    .simp;omega
    .omega
  .rw[if_pos rfl,decide_eq_false e2]
   walk_at "go"
   exact O fun z=>e2 (Cw.mpr ⟨z.2.1,z.2.2.2⟩)
 .rw[if_pos rfl,decide_eq_false e1]
  walk_at "go"
  exact O fun z=>e1 ((C5 x.1 y.1).mpr ⟨z.1,z.2.2.1⟩)
def ij:DSp:=fun ds P=>∃(ns:aab) (k:Nat),ds=[.scr ns,.int (k:Int)]/\ns.length<=63/\k<=100/\∀c:aab,c.length=k->(∀x∈c,0<=x/\x<2 ^ 60)->P (dI c)
theorem vw:bt ij:=by
 intro xs P c k h
 unfold ij at h ⊢
 grind
theorem xZ:∀ds P,ij ds P->ds.length=2:=by
 intro ds P h
 obtain ⟨_,_,e,_⟩:=h
 rw[e];rfl
theorem zO{c:Cs}{f:Addr}{r:FuncData}(F:FnAt K mg "_law_deck" mf jC f r)(R:Fns K mg c)(T:Txt K mg base)(xs:Exs K mg base c):bE P w K mg base CX0 1 f r jC (spP K ij):=by
 refine F.fn.ok eZ (fun vs H Q E h=>aU xZ h) (fun J A outer s H vs Q E hr h=>?_)
 refine⟨_,(aj (wst 2 eZ.nd (bD ak)) (aj (wst 3 eZ.nd (aK cK ar (wln K T.len_ (pv 0)))) (aj (wfo (wil K (pv 0)) (wpg 4 eZ.nd) (aw (wst 3 eZ.nd (aK bS (aK cK (aK tu (pv 3) ar) (pv 4)) ar)))) (aj (wfo (bw rfl T.range_ (af (pv 1) ak)) (wpg 5 eZ.nd) (aj (wst 3 eZ.nd (aK bS (aK cK (aK cK (aK tu (pv 3) ar) ar) (pv 5)) ar)) (aw (bZ (aO nY (pv 5) (wln K T.len_ (pv 0)) (aW _)) (aw (cH (ia Mp Mw Mv bQ (pv 2) (af (aK bS (wix K (pv 0) (pv 5)) (aK Kh ar ar)) ak)))) (aw (cH (ia Mp Mw Mv bQ (pv 2) (af (pv 3) ak)))))))) (aw (aI (pv 2))))))),bh (Γn:=[2]) (N:=ot) (ax (ST.post (Γn:=[2]) (bV (M:=[]) 2 (bC aV))) (ax (ST.post (Γn:=[2]) (aN 3 (EM.es (ay cJ (EM.er au) (EM.er (aR bJ (ai (ES.er (aa 0)) aq))))))) (ax (dQ (bI (aa 0)) (aB 4) (ST.post (Γn:=[2]) (aN 3 (EM.es (ay aT (EM.er (ay cJ (EM.er (ay aT (ES.er (aa 3)) (EM.er au))) (ES.er (aa 4)))) (EM.er au)))))) (ax (dQ (cn (ai (ES.er (aa 1)) aq)) (aB 5) (ax (ST.post (Γn:=[2]) (aN 3 (EM.es (ay aT (EM.er (ay cJ (EM.er (ay cJ (EM.er (ay aT (ES.er (aa 3)) (EM.er au))) (EM.er au))) (ES.er (aa 5)))) (EM.er au))))) (cS (aM (EM.er (ay kS (ES.er (aa 5)) (EM.er (aR bJ (ai (ES.er (aa 0)) aq)))))) (ST.post (Γn:=[2]) (bR (M:=[]) 2 (ay aT (ES.er (aD (aa 0) (ES.er (aa 5)))) (EM.er (ay aT (EM.er au) (EM.er au)))))) (ST.post (Γn:=[2]) (bR (M:=[]) 2 (ER.aQ (ES.er (aa 3)))))))) (aJ (M:=[2]) (ix 2)))))) (fun ds P G=>?_) h⟩
 obtain ⟨ns,k,rfl,L,O,I⟩:=G
 rw[show aL ot [.scr ns,.int (k:Int)]=[some (.scr ns),some (.int (k:Int)),none,none,none,none] from rfl]
 walk_at "go"
 refine cO (as:=ns) (f:=L3.D.int) (fun i δ=>∃(y:Int) (j:Option D),δ=[some (.scr ns),some (.int (k:Int)),some (dI []),some (.int y),j,none]/\0<=y/\y<2 ^ 32) ⟨_,none,rfl,by omega,by omega⟩ ?_ ?_
 .rintro i a δ N e ⟨y,j,rfl,q,p⟩ o
  walk_at "go"
  have h:=emod_lt (x:=y*48271+a) (n:=2147483629) (by decide)
  exact o _ ⟨_,_,rfl,h.1,by have:=h.2;omega⟩
 .rintro δ ⟨y,j,rfl,q,p⟩
  walk_at "go"
  refine lD (lo:=0) (n:=k) (fun i δ=>∃(y:Int) (g:aab) (m:Option D),δ=[some (.scr ns),some (.int (k:Int)),some (dI g),some (.int y),j,m]/\0<=y/\y<2 ^ 32/\g.length=i/\∀x∈g,0<=x/\x<2 ^ 60) ⟨y,[],none,rfl,q,p,rfl,fun x h=>(nomatch h)⟩ ?_ ?_
  .rintro i δ N hi ⟨y,g,m,rfl,u,t,hl,hd⟩ o
   rw[MS]
   walk_at "go"
   have h:=emod_lt (x:=y*69621+7+i) (n:=2147483647) (by decide)
   have step:∀v:Int,0<=v->v<2 ^ 60->N [some (.scr ns),some (.int (k:Int)),some (dI (g++[v])),some (.int ((y*69621+7+i) % 2147483647)),j,some (.int (i:Int))]:=fun v B v1=>o _ ⟨_,_,_,rfl,h.1,by have:=h.2;omega,by rw[Mg,hl];rfl,fun x C=>by
    rcases Ma.mp C with z|z
    .exact hd x z
    .cases Gc.mp z;exact⟨B,v1⟩⟩
   split
   .rename_i c
    refine aP (by omega) ?_
    walk_at "go"
    have v:=emod_lt (x:=ns.getD i 0) (n:=1000000000000000000) (by decide)
    rw[qh]
    exact step _ v.1 (by have:=v.2;omega)
   .rw[qh]
    exact⟨by omega,step _ h.1 (by have:=h.2;omega)⟩
  .rintro δ ⟨y,g,m,rfl,u,t,hl,hd⟩
   walk_at "go"
   exact I g hl hd
def iF:DSp:=fun ds P=>∃x:Int,ds=[.int x]/\0<=x/\∀n m:Nat,1<=n->n<=8->1<=m->m<=8->P (dI [(n:Int),(m:Int)])
theorem ue:bt iF:=by
 intro xs P c k h
 unfold iF at h ⊢
 grind
theorem vE:∀ds P,iF ds P->ds.length=1:=by
 intro ds P h
 obtain ⟨_,e,_⟩:=h
 rw[e];rfl
theorem xQ{c:Cs}{f:Addr}{g:FuncData}(F:FnAt K mg "_law_shape" kq iE f g)(y:Fns K mg c)(T:Txt K mg base)(xs:Exs K mg base c):bE P w K mg base CX0 1 f g iE (spP K iF):=by
 refine F.fn.ok yl (fun vs H Q E h=>aU vE h) (fun o A outer s H vs Q E hr h=>?_)
 refine⟨_,(aj (bZ (aO i9 (aK bS (pv 0) ar) ar (aW _)) (aw (aI (bD (af (aK cK ar (aK bS (aK cC (pv 0) ar) ar)) (af (aK cK ar (aK bS (aK cC (pv 0) ar) ar)) ak))))) aY) (aw (aI (bD (af (aK cK ar (aK bS (aK cC (pv 0) ar) ar)) (af (aK cK ar (aK bS (aK cC (pv 0) ar) ar)) ak)))))),bh (Γn:=[]) (N:=mC) (ax (cS (aM (EM.er (ay nU (EM.er (ay aT (ES.er (aa 0)) (EM.er au))) (EM.er au)))) (aJ (M:=[]) (bC (aA (ay cJ (EM.er au) (EM.er (ay aT (EM.er (ay aT (ES.er (aa 0)) (EM.er au))) (EM.er au)))) (aA (ay cJ (EM.er au) (EM.er (ay aT (EM.er (ay aT (ES.er (aa 0)) (EM.er au))) (EM.er au)))) aV)))) aZ) (aJ (M:=[]) (bC (aA (ay cJ (EM.er au) (EM.er (ay aT (EM.er (ay aT (ES.er (aa 0)) (EM.er au))) (EM.er au)))) (aA (ay cJ (EM.er au) (EM.er (ay aT (EM.er (ay aT (ES.er (aa 0)) (EM.er au))) (EM.er au)))) aV))))) (fun ds P j=>?_) h⟩
 obtain ⟨x,rfl,t,m⟩:=j
 rw[show aL mC [.int x]=[some (.int x)] from rfl]
 have a1:=emod_lt (x:=x / 16) (n:=8) (by omega)
 have a2:=emod_lt (x:=x / 128) (n:=8) (by omega)
 have v:=emod_lt (x:=x / 16) (n:=5) (by omega)
 have u:=emod_lt (x:=x / 128) (n:=5) (by omega)
 have i:∀a b:Int,1<=a->a<=8->1<=b->b<=8->P (L3.D.lst [L3.D.int a,L3.D.int b]):=fun a b p q r s=>by
  have:=m a.toNat b.toNat (by omega) (by omega) (by omega) (by omega)
  rw[Od (by omega),Od (by omega)] at this
  exact this
 walk_at "go"
 split
 .walk_at "go"
  exact i _ _ (by omega) (by omega) (by omega) (by omega)
 .walk_at "go"
  exact i _ _ (by omega) (by omega) (by omega) (by omega)
def uw(m:Nat)(t:aaa):aab:=(List.range m).map fun (j:Nat)=>ee t j
def kd:DSp:=fun ds P=>∃(t:aaa) (n m:Nat),ds=[dT t]/\bc n m t/\1<=n/\n<=8/\1<=m/\m<=8/\P (.lst [dI (t.map List.sum),dI (uw m t)])
theorem vh:bt kd:=by
 intro xs P c k h
 unfold kd at h ⊢
 grind
theorem xx:∀ds P,kd ds P->ds.length=1:=by
 intro ds P h
 obtain ⟨_,_,_,e,_⟩:=h
 rw[e];rfl
theorem yC{c:Cs}{f:Addr}{q:FuncData}(F:FnAt K mg "_law_sums" iw jU f q)(L:Fns K mg c)(T:Txt K mg base)(xs:Exs K mg base c):bE P w K mg base CX0 1 f q jU (spP K kd):=by
 refine F.fn.ok m7 (fun vs H Q E h=>aU xx h) (fun z A outer s H vs Q E hr h=>?_)
 refine⟨_,(aj (wst 1 m7.nd (bD ak)) (aj (wfo (bw rfl T.range_ (af (wln K T.len_ (wix K (pv 0) ar)) ak)) (wpg 2 m7.nd) (aw (cH (ia Mp Mw Mv bQ (pv 1) (af (bF (ft (K:=K) rfl rfl) (by rfl) T.sum_ boot_sum (af (wco (av iw) "_law_line" ["_law_j"] [2] (wil K (pv 0)) (fun _ _ _ _ _=>(wix K (pv 0) (pv 1)))) ak)) ak))))) (aw (aI (bD (af (wco (av iw) "_law_line" [] [] (wil K (pv 0)) (fun _ _ _ _ _=>(bF (ft (K:=K) rfl rfl) (by rfl) T.sum_ boot_sum (af (pv 0) ak)))) (af (pv 1) ak))))))),bh (Γn:=[1]) (N:=oJ) (ax (ST.post (Γn:=[1]) (bV (M:=[]) 1 (bC aV))) (ax (dQ (cn (ai (EM.er (aR bJ (ai (ES.er (aD (aa 0) (EM.er au))) aq))) aq)) (aB 2) (ST.post (Γn:=[1]) (bR (M:=[]) 1 (aR qd (ai (EM.er (bx (bI (aa 0)) (aB 0) (ER.aQ (ES.er (aD (aa 0) (ES.er (aa 1))))))) aq))))) (aJ (M:=[1]) (bC (gY (bx (bI (aa 0)) (aB 0) (aR qd (ai (ES.er (aa 0)) aq))) (gY (ix 1) aV)))))) (fun ds P v=>?_) h⟩
 obtain ⟨t,n,m,rfl,p,n1,B,G,C,x⟩:=v
 rw[show aL oJ [dT t]=[some (dT t),none,none] from rfl]
 have lt:=p.1
 have u:=p.row (i:=0) (by omega)
 walk_at "go"
 refine bK (by omega) ?_
 walk_at "go"
 rw[show (rowAt t 0).length=m from u]
 refine lD (lo:=0) (n:=m) (fun j δ=>∃(o:Option D),δ=[some (dT t),some (dI (uw j t)),o]) ⟨none,rfl⟩ ?_ ?_
 .rintro j δ N hj ⟨o,rfl⟩ y
  have J:(uw j t).length=j:=by unfold uw;rw[mo,L9]
  rw[MS]
  walk_at "go"
  refine lB (t:=t) (g:=fun r=>.int (r.getD j 0)) (fun R h=>h) (by omega) (fun r hr R h=>?_) ?_
  .have I:=p.2 r hr
   walk_at "gb"
   refine aP (by omega) ?_
   rw[L7]
   exact⟨rfl,h⟩
  rw[show t.map (fun r=>L3.D.int (r.getD j 0))=(t.map fun r=>r.getD j 0).map L3.D.int by rw[Mz];rfl]
  walk_at "go"
  rw[qh,show uw j t++[(t.map fun r=>r.getD j 0).sum]=uw (j+1) t by unfold uw;rw[Nq,Mf];rfl]
  exact y _ ⟨_,rfl⟩
 .rintro δ ⟨o,rfl⟩
  walk_at "go"
  refine lB (t:=t) (g:=fun r=>.int r.sum) (fun R h=>h) (by omega) (fun r hr R h=>by walk_at "gb";exact h) ?_
  rw[show t.map (fun r=>L3.D.int r.sum)=(t.map List.sum).map L3.D.int by rw[Mz];rfl]
  walk_at "go"
  exact x
theorem Gv{ns:aab}{k:Nat}(h:k<=ns.length):L3.cutD (ns.map L3.D.int) (some (k:Int)) none=(ns.drop k).map L3.D.int:=by
 unfold L3.cutD
 rw[mo,HT.uQ,HT.xB,List.map_drop,NQ h,Ni (by rw[MZ,mo];exact Md _)]
theorem lG{A R:DS}{E:bB}{δ:Dl}(h:∀c,c=R->AZ A c E δ):AZ A R E δ:=h R rfl
theorem ED{t:aaa}:((t.map dI).mapIdx fun i d=>L3.D.tup [.int i,d])=(List.range t.length).map fun (i:Nat)=>L3.D.tup [.int (i:Int),dI (rowAt t i)]:=by
 refine Nf (by simp) fun i g f=>?_
 have c:i<t.length:=by simpa using f
 rw[List.getElem_mapIdx,M0,M0,Nn]
 unfold rowAt
 rw[dz,gV c];rfl
theorem D5{n m:Nat}{t:aaa}{r:aab}(h:ig n m t)(hl:r.length=m)(hr:∀x∈r,x=0\/x=1):ig (n+1) m (t++[r]) :=
 ⟨⟨by rw[Mg,h.1.1];rfl,fun x c=>by
  rcases Ma.mp c with z|z
  .exact h.1.2 x z
  .rw[Gc.mp z];exact hl⟩,fun x c=>by
  rcases Ma.mp c with z|z
  .exact h.2 x z
  .rw[Gc.mp z];exact hr⟩
theorem CQ{t:aaa}{r:aab}:L3.D.lst (t.map dI++[dI r])=dT (t++[r]):=by
 show _=L3.D.lst ((t++[r]).map dI)
 rw[Mf];rfl
def jW:DSp:=fun ds P=>∃(ns c:aab),ds=[.scr ns,dI c]/\ns.length<=63/\c.length=16/\(∀x∈c,0<=x/\x<2 ^ 60)/\∀(t:aaa) (n m:Nat),ig n m t->1<=n->n<=8->1<=m->m<=8->P (dT t)
theorem vj:bt jW:=by
 intro xs P q k h
 obtain ⟨ns,i,e,g,f,c,h⟩:=h
 exact⟨ns,i,e,g,f,c,fun t n m a1 a2 p o j=>k _ (h t n m a1 a2 p o j)⟩
theorem x9:∀ds P,jW ds P->ds.length=2:=by
 intro ds P h
 obtain ⟨_,_,e,_⟩:=h
 rw[e];rfl
theorem yY{c:Cs}{f:Addr}{fd:FuncData}(F:FnAt K mg "_law_ones" fZ jL f fd)(A_:Fns K mg c)(T:Txt K mg base)(xs:Exs K mg base c):bE P w K mg base CX0 2 f fd jL (spP K jW):=by
 obtain ⟨f0,d0,PB⟩:=A_.h_law_shape
 have QN:=xQ (P:=P) (w:=w) PB A_ T xs
 refine F.fn.ok bO (fun vs H Q E h=>aU x9 h) (fun cdv A outer s H vs Q E hr h=>?_)
 refine⟨_,(aj (dO (wcl QN hr PB (af (wix K (pv 1) ar) ak)) (xf (K:=K) rfl rfl (bg (wpg 2 bO.nd) (bg (wpg 3 bO.nd) jm)))) (aj (wst 4 bO.nd (aK bS (wix K (pv 1) ar) ar)) (aj (wst 5 bO.nd (bD ak)) (aj (wfo (bw rfl T.range_ (af (pv 2) ak)) (wpg 6 bO.nd) (aj (wst 7 bO.nd (wix K (pv 1) (aK cK ar (pv 6)))) (aj (wst 8 bO.nd (aK bS (pv 7) (aK cK (pv 3) ar))) (aw (bZ (aO i9 (pv 4) ar (aW _)) (aw (cH (ia Mp Mw Mv bQ (pv 5) (af (wco (av fZ) "_law_j" ["_law_cell"] [7] (bw rfl T.range_ (af (pv 3) ak)) (fun _ _ _ _ _=>(aK bS (aK cC (aK cC (pv 1) ar) (aK cK ar (aK tu ar (pv 0)))) ar))) ak)))) (aw (cH (ia Mp Mw Mv bQ (pv 5) (af (wco (av fZ) "_law_j" ["_law_many"] [8] (bw rfl T.range_ (af (pv 3) ak)) (fun _ _ _ _ _=>(fo Dm (by rfl) T.int_ boot_int (af (sZ nY (pv 0) (pv 1) (aW _)) ak)))) ak))))))))) (aj (bZ (aO i9 (pv 4) ar (aW _)) (aw (tL (i:=5) (br.of (sc0:=(av fZ)) (tn:=["_law_k","_law_line"]) (cap:=["_law_wide"]) (idx:=[3]) (by decide +kernel) rfl rfl) bO.nd rfl (by walk_at "o") (EY (K:=K) rfl rfl T.enumerate_ (af (pv 5) ak)) (ma.tup (qq.cons (by decide) (qq.cons (by decide) qq.nil))) (fun _ _ _ _ _=>nv (K:=K) (n:=2) rfl rfl (bg (fU (i:=0) (bM (l:=["_law_k","_law_line","_law_wide"]) (by decide +kernel)) rfl (by walk_at "o") (by first|exact .inl rfl|exact .inr rfl)) (bg (fU (i:=1) (bM (l:=["_law_k","_law_line","_law_wide"]) (by decide +kernel)) rfl (by walk_at "o") (by first|exact .inl rfl|exact .inr rfl)) jm))) (fun _ _ _ _ _=>(aK AY (iQ (iJ (K:=K) rfl) (pv 1) (jf (aK bS (pv 0) (pv 2))) me) (iQ (iJ (K:=K) rfl) (pv 1) me (jf (aK bS (pv 0) (pv 2)))))))) aY) (aj (bZ (aO uz (pv 4) ar (aW _)) (aw (wfo (bw rfl T.range_ (af (wln K T.len_ (pv 0)) ak)) (wpg 9 bO.nd) (aj (wst 10 bO.nd (wix K (pv 5) (aK bS (pv 9) (pv 2)))) (aj (wst 11 bO.nd (aK bS (aK cC (pv 9) (pv 2)) (pv 3))) (aw (dO (aK bS (aK cK (wix K (pv 10) (pv 11)) (aK cC (wix K (pv 0) (pv 9)) ar)) ar) (iz (pv 10) (pv 11) set_list))))))) aY) (aw (aI (pv 5))))))))),bh (Γn:=[5]) (N:=oj) (ax (qa (EM.es (aE (S:=iF) ue (ai (ES.er (aD (aa 1) (EM.er au))) aq))) (Bz (bf (aB 2) (bf (aB 3) jj)))) (ax (ST.post (Γn:=[]) (aN 4 (EM.es (ay aT (ES.er (aD (aa 1) (EM.er au))) (EM.er au))))) (ax (ST.post (Γn:=[5]) (bV (M:=[]) 5 (bC aV))) (ax (dQ (cn (ai (ES.er (aa 2)) aq)) (aB 6) (ax (ST.post (Γn:=[5]) (aN 7 (aD (aa 1) (EM.er (ay cJ (EM.er au) (ES.er (aa 6))))))) (ax (ST.post (Γn:=[5]) (aN 8 (EM.es (ay aT (ES.er (aa 7)) (EM.er (ay cJ (ES.er (aa 3)) (EM.er au))))))) (cS (aM (EM.er (ay nU (ES.er (aa 4)) (EM.er au)))) (ST.post (Γn:=[5]) (bR (M:=[]) 5 (bx (cn (ai (ES.er (aa 3)) aq)) (aB 0) (ay aT (EM.er (ay aT (EM.er (ay aT (ES.er (aa 1)) (EM.er au))) (EM.er (ay cJ (EM.er au) (EM.er (ay aT (EM.er au) (ES.er (aa 0)))))))) (EM.er au))))) (ST.post (Γn:=[5]) (bR (M:=[]) 5 (bx (cn (ai (ES.er (aa 3)) aq)) (aB 0) (aR Ly (ai (EM.er (ay kS (ES.er (aa 0)) (ES.er (aa 1)))) aq))))))))) (ax (cS (aM (EM.er (ay nU (ES.er (aa 4)) (EM.er au)))) (ST.post (Γn:=[5]) (bV (M:=[]) 5 (EM.free (bx (HE (aa 5)) (qH (bf (aB 0) (bf (aB 1) jj))) (ay Jc (EM.er (sf (ES.er (aa 1)) (or_some (EM.er (ay aT (ES.er (aa 0)) (ES.er (aa 2))))) or_none)) (EM.er (sf (ES.er (aa 1)) or_none (or_some (EM.er (ay aT (ES.er (aa 0)) (ES.er (aa 2)))))))))))) aZ) (ax (cS (aM (EM.er (ay BC (ES.er (aa 4)) (EM.er au)))) (dQ (cn (ai (EM.er (aR bJ (ai (ES.er (aa 0)) aq))) aq)) (aB 9) (F4 5 10 (EM.er (ay aT (ES.er (aa 9)) (ES.er (aa 2)))) (Iq (IC 11 (EM.er (ay aT (EM.er (ay aT (ES.er (aa 9)) (ES.er (aa 2)))) (ES.er (aa 3))))) (HY (EM.er (ay aT (EM.er (ay cJ (ES.er (aD (aa 10) (ES.er (aa 11)))) (EM.er (ay aT (ES.er (aD (aa 0) (ES.er (aa 9)))) (EM.er au))))) (EM.er au))) (ES.er (aa 11)))))) aZ) (aJ (M:=[5]) (ix 5)))))))) (fun ds P hS=>?_) h⟩
 obtain ⟨ns,o,rfl,hz,hl,hd,hP⟩:=hS
 rw[show aL oj [.scr ns,dI o]=[some (.scr ns),some (dI o),none,none,none,none,none,none,none,none,none,none] from rfl]
 have dg:∀k,0<=o.getD k 0/\o.getD k 0<2 ^ 60:=fun k=>by
  rw[dz]
  cases e:o[k]? with
  |none=>exact⟨Ov _,by decide⟩
  |some z=>exact hd z (MJ e)
 refine lG fun I e1=>?_
 walk_at "go"
 refine aP (by omega) ?_
 refine⟨_,rfl,(dg _).1,fun n m n1 Y m1 Z=>?_⟩
 walk_at "go"
 simp only[Mc,N8]
 walk_at "go"
 subst e1
 refine lG fun I e1=>?_
 walk_at "go"
 refine aP (by omega) ?_
 walk_at "go"
 have k0:=emod_lt (x:=o.getD 1 0) (n:=4) (by decide)
 generalize o.getD 1 0 % 4=q at k0 ⊢
 subst e1
 refine lG fun I e1=>?_
 walk_at "go"
 subst e1
 refine lG fun I e1=>?_
 walk_at "go"
 refine lD (lo:=0) (n:=n) (fun i δ=>∃(t:aaa) (C B y:Option D),δ=[some (.scr ns),some (dI o),some (.int (n:Int)),some (.int (m:Int)),some (.int q),some (dT t),C,B,y,none,none,none]/\ig i m t) ⟨[],none,none,none,rfl,⟨⟨rfl,fun r h=>(nomatch h)⟩,fun r h=>(nomatch h)⟩⟩ ?_ ?_
 .rintro i δ N hi ⟨t,C,B,y,rfl,p⟩ J
  rw[MS]
  have lt:=p.1.1
  walk_at "go"
  refine aP (by omega) ?_
  walk_at "go"
  have Ye:∀g:Nat->Int,(∀j,j<m->g j=0\/g j=1)->ig (i+1) m (t++[(List.range m).map g]):=fun g hg=>D5 p (by rw[mo,L9]) fun x O=>by
   obtain ⟨j,hj,rfl⟩:=Mb.mp O
   exact hg j (Mh.mp hj)
  by_cases h0:q=0
  .rw[if_pos h0]
   refine eY (lo:=0) (n:=m) (g:=fun (j:Nat)=>.int (o.getD (8+(i:Int)).toNat 0 / 16 / (1+3*(0+(j:Int))) % 2)) (fun R h=>?_) (by omega) (fun j hj R h=>?_) ?_
   .walk_at "go"
    exact h
   .walk_at "gb"
    exact h
   rw[km]
   refine⟨by omega,J _ ⟨_,_,_,_,by rw[CQ],Ye _ fun j hj=>by omega⟩⟩
  .rw[if_neg h0]
   refine eY (lo:=0) (n:=m) (g:=fun (j:Nat)=>.int (if (0+(j:Int))<o.getD (8+(i:Int)).toNat 0 % ((m:Int)+1) then 1 else 0)) (fun R h=>?_) (by omega) (fun j hj R h=>?_) ?_
   .walk_at "go"
    exact h
   .walk_at "gb"
    exact h
   rw[km]
   refine⟨by omega,J _ ⟨_,_,_,_,by rw[CQ],Ye _ fun j hj=>by split<;>omega⟩⟩
 rintro δ ⟨t,C,B,y,rfl,p⟩
 subst e1
 dsimp only
 refine lG fun I e1=>?_
 have lt:=p.1.1
 have rest:∀u:aaa,ig n m u->I { nx:=fun _=>P L3.D.non,rt:=fun x _=>P x,bk:=fun _=>False,ct:=fun _=>False } [some (.scr ns),some (dI o),some (.int (n:Int)),some (.int (m:Int)),some (.int q),some (dT u),C,B,y,none,none,none]:=fun u U=>by
  subst e1
  have lu:=U.1.1
  refine lG fun R2 e2=>?_
  walk_at "go"
  by_cases h1:q=1
  .rw[if_neg (fun z=>z h1)]
   subst e2
   walk_at "go"
   exact hP u n m U n1 Y m1 Z
  .rw[if_pos h1]
   refine⟨by omega,?_⟩
   refine lD (lo:=0) (n:=ns.length) (fun k δ=>∃(v:aaa) (L X:Option D),δ=[some (.scr ns),some (dI o),some (.int (n:Int)),some (.int (m:Int)),some (.int q),some (dT v),C,B,y,L,none,X]/\ig n m v) ⟨u,none,none,rfl,U⟩ ?_ ?_
   .rintro k δ N hk ⟨v,L,X,rfl,G⟩ J
    have lv:=G.1.1
    rw[MS]
    have a1:=emod_lt (x:=(k:Int)) (n:=(n:Int)) (by omega)
    have a2:=emod_lt (x:=(k:Int) / n) (n:=(m:Int)) (by omega)
    obtain ⟨a,ha⟩:∃a:Nat,(k:Int) % n=a:=⟨((k:Int) % n).toNat,by omega⟩
    obtain ⟨b,hb⟩:∃b:Nat,(k:Int) / n % m=b:=⟨((k:Int) / n % m).toNat,by omega⟩
    have lr:=G.1.row (i:=a) (by omega)
    walk_at "v"
    refine Dx (t:=v) (a:=a) rfl (fun R h=>?_) (by simp only[L8,NR,MM];omega) (by omega) ?_
    .walk_at "go"
     rw[ha]
     exact h
    rw[L7]
    walk_at "go"
    rw[hb]
    refine HK (t:=v) (r:=rowAt v a) (b:=b) (v:=(cellAt v a b+ns.getD k 0 / 5) % 2) rfl rfl (fun R h=>?_) (fun R h=>?_) (by omega) ?_
    .walk_at "go"
     refine aP (by omega) ?_
     rw[L7]
     refine aP (by omega) ?_
     rw[L7]
     walk_at "go"
     exact h
    .walk_at "go"
     exact h
    walk_at "go"
    exact J _ ⟨_,_,_,rfl,G.set (a:=a) (b:=b) (by omega) (by omega)⟩
   .rintro δ ⟨v,L,X,rfl,G⟩
    subst e2
    dsimp only
    walk_at "go"
    exact hP v n m G n1 Y m1 Z
 walk_at "go"
 by_cases h2:q=2
 .rw[if_pos h2]
  refine my (as:=List.range n) (f:=fun (i:Nat)=>L3.D.tup [.int (i:Int),dI (rowAt t i)]) (g:=fun (i:Nat)=>dI ((rowAt t i).drop ((i:Int) % m).toNat++(rowAt t i).take ((i:Int) % m).toNat)) (fun R h=>?_) (by rw[L9];omega) (fun i hi R h=>?_) ?_
  .walk_at "go"
   rw[ED,lt]
   exact h
  .have hi:=Mh.mp hi
   have lr:=p.1.row hi
   have a1:=emod_lt (x:=(i:Int)) (n:=(m:Int)) (by omega)
   obtain ⟨a,ha⟩:∃a:Nat,(i:Int) % m=a:=⟨((i:Int) % m).toNat,by omega⟩
   rw[ha,L7] at h
   walk_at "gb"
   rw[ha,A8,Gv (by omega),KY]
   exact⟨⟨bN,bN,by rw[mo,mo,MZ,M4];omega⟩,h⟩
  rw[AQ]
  refine rest _ ⟨⟨by rw[mo,L9],fun r hr=>?_⟩,fun r hr x O=>?_⟩
  .obtain ⟨i,hi,rfl⟩:=Mb.mp hr
   have lr:=p.1.row (Mh.mp hi)
   rw[Mg,MZ,M4]
   omega
  .obtain ⟨i,hi,rfl⟩:=Mb.mp hr
   have hi:=Mh.mp hi
   have hm:rowAt t i∈t:=by
    unfold rowAt
    rw[dz,gV (by omega)]
    exact MK _
   rcases Ma.mp O with z|z
   .exact p.2 _ hm x (List.mem_of_mem_drop z)
   .exact p.2 _ hm x (N1 z)
 .rw[if_neg h2]
  exact rest t p
def jo:DSp:=fun ds P=>∃(t:aaa) (n m:Nat) (i j k l:Int),ds=[dT t,dW i j k l]/\bc n m t/\1<=n/\n<=8/\1<=m/\m<=8/\(cQ n m t i j k l->P (.bl true))/\(¬ cQ n m t i j k l->P (.bl false))
theorem qv:bt jo:=by
 intro xs P c k h
 unfold jo at h ⊢
 grind
theorem yK:∀ds P,jo ds P->ds.length=2:=by
 intro ds P h
 obtain ⟨_,_,_,_,_,_,_,e,_⟩:=h
 rw[e];rfl
theorem tX{c:Cs}{f:Addr}{v:FuncData}(F:FnAt K mg "_law_can" nD lA f v)(L:Fns K mg c)(T:Txt K mg base)(xs:Exs K mg base c):bE P w K mg base CX0 1 f v lA (spP K jo):=by
 refine F.fn.ok jH (fun vs H Q E h=>aU yK h) (fun B A outer s H vs Q E hr h=>?_)
 refine⟨_,(aj (dO (pv 1) (nv (K:=K) rfl rfl (bg (wpg 2 jH.nd) (bg (wpg 3 jH.nd) (bg (wpg 4 jH.nd) (bg (wpg 5 jH.nd) jm)))))) (aj (bZ (PW.pt (mY (fF (pV Ac nY ar (pv 2) (wln K T.len_ (pv 0)))) (mY (fF (pV Ac nY ar (pv 4) (wln K T.len_ (pv 0)))) (mY (fF (pV Ac nY ar (pv 3) (wln K T.len_ (wix K (pv 0) ar)))) (mT (fF (pV Ac nY ar (pv 5) (wln K T.len_ (wix K (pv 0) ar))))))))) (aw (aI lH)) aY) (aw (aI (sZ (BH hr.units) (bD (af (wix K (wix K (pv 0) (pv 2)) (pv 3)) (af (wix K (wix K (pv 0) (pv 2)) (pv 5)) (af (wix K (wix K (pv 0) (pv 4)) (pv 3)) (af (wix K (wix K (pv 0) (pv 4)) (pv 5)) ak))))) (bD (wx (ns:=[1,0,0,1]) rfl)) (aW _)))))),bh (Γn:=[]) (N:=qK) (ax (qa (aa 1) (qH (bf (aB 2) (bf (aB 3) (bf (aB 4) (bf (aB 5) jj)))))) (ax (cS (mL (fE (aM (EM.er (jV kS kS (EM.er au) (ES.er (aa 2)) (EM.er (aR bJ (ai (ES.er (aa 0)) aq))))))) (mL (fE (aM (EM.er (jV kS kS (EM.er au) (ES.er (aa 4)) (EM.er (aR bJ (ai (ES.er (aa 0)) aq))))))) (mL (fE (aM (EM.er (jV kS kS (EM.er au) (ES.er (aa 3)) (EM.er (aR bJ (ai (ES.er (aD (aa 0) (EM.er au))) aq))))))) (fE (aM (EM.er (jV kS kS (EM.er au) (ES.er (aa 5)) (EM.er (aR bJ (ai (ES.er (aD (aa 0) (EM.er au))) aq)))))))))) (aJ (M:=[]) mm) aZ) (aJ (M:=[]) (ay G6 (EM.er (bC (aA (ER.aQ (ES.er (aD (aD (aa 0) (ES.er (aa 2))) (ES.er (aa 3))))) (aA (ER.aQ (ES.er (aD (aD (aa 0) (ES.er (aa 2))) (ES.er (aa 5))))) (aA (ER.aQ (ES.er (aD (aD (aa 0) (ES.er (aa 4))) (ES.er (aa 3))))) (aA (ER.aQ (ES.er (aD (aD (aa 0) (ES.er (aa 4))) (ES.er (aa 5))))) aV)))))) (EM.er (bC rL)))))) (fun ds P x=>?_) h⟩
 obtain ⟨t,n,m,i,j,k,l,rfl,o,n1,G,J,I,y,r⟩:=x
 rw[show aL qK [dT t,dW i j k l]=[some (dT t),some (dW i j k l),none,none,none,none] from rfl]
 have lt:=o.1
 have u:=o.row (i:=0) (by omega)
 unfold dW
 refine lG fun C e1=>?_
 walk_at "go"
 subst e1
 refine lG fun C e1=>?_
 walk_at "go"
 rw[lt]
 by_cases hi:0<=i/\i<n
 .rw[if_pos hi.1,if_neg (fun z=>z hi.2)]
  by_cases p:0<=k/\k<n
  .rw[if_pos p.1,if_neg (fun z=>z p.2)]
   by_cases hj:0<=j/\j<m
   .rw[if_pos hj.1]
    refine bK (by omega) ?_
    walk_at "go"
    rw[show (rowAt t 0).length=m from u,if_neg (fun z=>z hj.2)]
    by_cases hl:0<=l/\l<m
    .rw[if_pos hl.1]
     refine bK (by omega) ?_
     walk_at "go"
     rw[show (rowAt t 0).length=m from u,if_neg (fun z=>z hl.2)]
     subst e1
     walk_at "go"
     refine fk o (by omega) (by omega) ?_
     refine⟨rfl,fk o (by omega) (by omega) ?_⟩
     refine⟨rfl,fk o (by omega) (by omega) ?_⟩
     refine⟨rfl,fk o (by omega) (by omega) ?_⟩
     walk_at "go"
     refine fB (xs:=[cellAt t i.toNat j.toNat,cellAt t i.toNat l.toNat,cellAt t k.toNat j.toNat,cellAt t k.toNat l.toNat]) (ys:=[1,0,0,1]) ?_
     rw[if_neg (by decide)]
     by_cases q:[cellAt t i.toNat j.toNat,cellAt t i.toNat l.toNat,cellAt t k.toNat j.toNat,cellAt t k.toNat l.toNat]=[1,0,0,1]
     .rw[decide_eq_true q]
      simp only[List.cons.injEq,and_true] at q
      exact y ⟨hi,p,hj,hl,q⟩
     .rw[decide_eq_false q]
      exact r fun z=>q (by rw[z.2.2.2.2.1,z.2.2.2.2.2.1,z.2.2.2.2.2.2.1,z.2.2.2.2.2.2.2])
    .have no:=r fun z=>hl z.2.2.2.1
     by_cases g:0<=l
     .rw[if_pos g]
      refine bK (by omega) ?_
      walk_at "go"
      rw[show (rowAt t 0).length=m from u,if_pos (fun z=>hl ⟨g,z⟩)]
      exact no
     .rw[if_neg g]
      exact no
   .have no:=r fun z=>hj z.2.2.1
    by_cases g:0<=j
    .rw[if_pos g]
     refine bK (by omega) ?_
     walk_at "go"
     rw[show (rowAt t 0).length=m from u,if_pos (fun z=>hj ⟨g,z⟩)]
     exact no
    .rw[if_neg g]
     exact no
  .have no:=r fun z=>p z.2.1
   by_cases g:0<=k
   .rw[if_pos g,if_pos (fun z=>p ⟨g,z⟩)]
    exact no
   .rw[if_neg g]
    exact no
 .have no:=r fun z=>hi z.1
  by_cases g:0<=i
  .rw[if_pos g,if_pos (fun z=>hi ⟨g,z⟩)]
   exact no
  .rw[if_neg g]
   exact no
def dM:DSp:=fun ds P=>∃(t:aaa) (n m:Nat) (i j k l:Int),ds=[dT t,dW i j k l]/\bc n m t/\1<=n/\n<=8/\1<=m/\m<=8/\(0<=i/\i<n)/\(0<=k/\k<n)/\(0<=j/\j<m)/\(0<=l/\l<m)/\P (dT (c5 t i.toNat j.toNat k.toNat l.toNat))
theorem lI:bt dM:=by
 intro xs P c k h
 unfold dM at h ⊢
 grind
theorem sM:∀ds P,dM ds P->ds.length=2:=by
 intro ds P h
 obtain ⟨_,_,_,_,_,_,_,e,_⟩:=h
 rw[e];rfl
theorem m9{c:Cs}{f:Addr}{p:FuncData}(F:FnAt K mg "_law_swapped" fM fK f p)(S:Fns K mg c)(T:Txt K mg base)(xs:Exs K mg base c):bE P w K mg base CX0 1 f p fK (spP K dM):=by
 refine F.fn.ok c9 (fun vs H Q E h=>aU sM h) (fun y A outer s H vs Q E hr h=>?_)
 refine⟨_,(aj (tL (i:=2) (br.of (sc0:=(av fM)) (tn:=["_law_line"]) (cap:=[]) (idx:=[]) (by decide +kernel) rfl rfl) c9.nd rfl (by walk_at "o") (wil K (pv 0)) (ma.name (by decide)) (fun _ _ _ _ _=>fU (i:=0) (bM (l:=["_law_line"]) (by decide +kernel)) rfl (by walk_at "o") (by first|exact .inl rfl|exact .inr rfl)) (fun _ _ _ _ _=>(fo (eD (K:=K) rfl) (by rfl) T.list_ boot_list (af (pv 0) ak)))) (aj (dO (pv 1) (nv (K:=K) rfl rfl (bg (wpg 3 c9.nd) (bg (wpg 4 c9.nd) (bg (wpg 5 c9.nd) (bg (wpg 6 c9.nd) jm)))))) (aj (dO ar (iz (wix K (pv 2) (pv 3)) (pv 4) set_list)) (aj (dO ar (iz (wix K (pv 2) (pv 3)) (pv 6) set_list)) (aj (dO ar (iz (wix K (pv 2) (pv 5)) (pv 4) set_list)) (aj (dO ar (iz (wix K (pv 2) (pv 5)) (pv 6) set_list)) (aw (aI (pv 2))))))))),bh (Γn:=[2]) (N:=kO) (ax (ST.post (Γn:=[2]) (bV (M:=[]) 2 (bx (bI (aa 0)) (aB 0) (aR mK (ai (ES.er (aa 0)) aq))))) (ax (qa (aa 1) (qH (bf (aB 3) (bf (aB 4) (bf (aB 5) (bf (aB 6) jj)))))) (ax (cU 2 au (ES.er (aa 3)) (ES.er (aa 4))) (ax (cU 2 au (ES.er (aa 3)) (ES.er (aa 6))) (ax (cU 2 au (ES.er (aa 5)) (ES.er (aa 4))) (ax (cU 2 au (ES.er (aa 5)) (ES.er (aa 6))) (aJ (M:=[2]) (ix 2)))))))) (fun ds P u=>?_) h⟩
 obtain ⟨t,n,m,i,j,k,l,rfl,g,n1,I,L,J,hi,O,hj,hl,x⟩:=u
 rw[show aL kO [dT t,dW i j k l]=[some (dT t),some (dW i j k l),none,none,none,none,none] from rfl]
 have lt:=g.1
 unfold dW
 walk_at "go"
 refine nK (t:=t) (fun R h=>by walk_at "go";exact h) (by omega) (fun r hr R h=>by walk_at "gb";exact h) ?_
 walk_at "go"
 have o:=g.setCell (i:=i.toNat) (j:=j.toNat) (v:=0) (by omega)
 have R2:=o.setCell (i:=i.toNat) (j:=l.toNat) (v:=1) (by omega)
 have q:=R2.setCell (i:=k.toNat) (j:=j.toNat) (v:=1) (by omega)
 have q0:=g.row (i:=i.toNat) (by omega)
 have G:=o.row (i:=i.toNat) (by omega)
 have q2:=R2.row (i:=k.toNat) (by omega)
 have q3:=q.row (i:=k.toNat) (by omega)
 have C:=o.1
 have B:=R2.1
 have z:=q.1
 refine cq (t:=t) (a:=i) (b:=j) (v:=0) rfl (fun R h=>h) (fun R h=>h) (fun R h=>h) (by omega) (by omega) ?_
 walk_at "go"
 refine cq (t:=setCell t i.toNat j.toNat 0) (a:=i) (b:=l) (v:=1) rfl (fun R h=>h) (fun R h=>h) (fun R h=>h) (by omega) (by omega) ?_
 walk_at "go"
 refine cq (t:=setCell (setCell t i.toNat j.toNat 0) i.toNat l.toNat 1) (a:=k) (b:=j) (v:=1) rfl (fun R h=>h) (fun R h=>h) (fun R h=>h) (by omega) (by omega) ?_
 walk_at "go"
 refine cq (t:=setCell (setCell (setCell t i.toNat j.toNat 0) i.toNat l.toNat 1) k.toNat j.toNat 1) (a:=k) (b:=l) (v:=0) rfl (fun R h=>h) (fun R h=>h) (fun R h=>h) (by omega) (by omega) ?_
 walk_at "go"
 exact x
theorem zip_rows{t s:aaa}(h:t.length=s.length):(((t.map dI).zip (s.map dI)).map fun p=>L3.D.tup [p.1,p.2])=(List.range t.length).map fun i=>L3.D.tup [dI (rowAt t i),dI (rowAt s i)]:=by
 refine Nf (by simp [h]) fun i g f=>?_
 have c:i<t.length:=by simpa using f
 have q2:i<s.length:=by omega
 rw[M0,List.getElem_zip,M0,M0,M0,Nn]
 show L3.D.tup [dI t[i],dI s[i]]=L3.D.tup [dI (t.getD i []),dI (s.getD i [])]
 rw[dz,dz,gV c,gV q2];rfl
theorem K5{p:Nat->Bool}:∀{m:Nat},((((List.range m).filter p).length:Nat):Int)=sN m fun b=>if p b then 1 else 0
 |0=>rfl
 |m+1=>by
  rw[Nq,Oq,Mg,bU,<- K5,Int.natCast_add]
  congr 1
  cases h:p m<;>simp [h]
def gp:DSp:=fun ds P=>∃(t o:aaa) (n m:Nat),ds=[dT t,dT o]/\ig n m t/\ig n m o/\1<=n/\n<=8/\1<=m/\m<=8/\(∀a,a<n->du t a=du o a)/\(∀b,b<m->ee t b=ee o b)/\t≠o/\P (.bl true)
theorem sy:bt gp:=by
 intro xs P c k h
 unfold gp at h ⊢
 grind
theorem t9:∀ds P,gp ds P->ds.length=2:=by
 intro ds P h
 obtain ⟨_,_,_,_,e,_⟩:=h
 rw[e];rfl
theorem vk{c:Cs}{f:Addr}{fd:FuncData}(F:FnAt K mg "_law_walked" dw gO f fd)(L:Fns K mg c)(T:Txt K mg base)(xs:Exs K mg base c):bE P w K mg base CX0 6 f fd gO (spP K gp):=by
 obtain ⟨f0,d0,NJ⟩:=L.h_swaps_between
 have PM:=qG (P:=P) (w:=w) NJ L T xs
 obtain ⟨f1,d1,NI⟩:=L.h_law_swapped
 have OB:=m9 (P:=P) (w:=w) NI L T xs
 obtain ⟨f2,d2,OD⟩:=L.h_law_can
 have Pw:=tX (P:=P) (w:=w) OD L T xs
 refine F.fn.ok cx (fun vs H Q E h=>aU t9 h) (fun cdv A outer s H vs Q E hr h=>?_)
 refine⟨_,(aj (wst 2 cx.nd (jg PM (hr.mono (by decide)) rfl NJ.mg NJ.fn.kp NJ.bd .nil BU (af (wco (av dw) "_law_line" [] [] (wil K (pv 0)) (fun _ _ _ _ _=>(fo (eD (K:=K) rfl) (by rfl) T.list_ boot_list (af (pv 0) ak)))) (af (wco (av dw) "_law_line" [] [] (wil K (pv 1)) (fun _ _ _ _ _=>(fo (eD (K:=K) rfl) (by rfl) T.list_ boot_list (af (pv 0) ak)))) ak)))) (aj (wst 3 cx.nd ar) (aj (wfo (IM (K:=K) rfl rfl T.zip_ (af (pv 0) (af (pv 1) ak))) (nv (K:=K) rfl rfl (bg (wpg 4 cx.nd) (bg (wpg 5 cx.nd) jm))) (aw (wst 3 cx.nd (aK cK (pv 3) (wln K T.len_ (oW rfl (br.of (sc0:=(av dw)) (tn:=["_law_k"]) (cap:=["_law_mine","_law_theirs"]) (idx:=[4,5]) (by decide +kernel) rfl rfl) (bw rfl T.range_ (af (wln K T.len_ (pv 4)) ak)) (ma.name (by decide)) (fun _ _ _ _ _=>fU (i:=0) (bM (l:=["_law_k","_law_mine","_law_theirs"]) (by decide +kernel)) rfl (by walk_at "o") (by first|exact .inl rfl|exact .inr rfl)) (fun _ _ _ _ _=>pI (aO Co (wix K (pv 1) (pv 0)) (wix K (pv 2) (pv 0)) (aW _))) (fun _ _ _ _ _=>(pv 0)) (by intro _;rfl))))))) (aj (bZ (PW.pt (mY (fF (gR (bF (pY (K:=K) rfl) (by rfl) T.isinstance_ boot_isinstance (af (pv 2) (af (CA (v:=.ty "list") rfl T.list_ boot_list rfl) ak))))) (mT (aO Jo (wln K T.len_ (pv 2)) (pv 3) (aW _))))) (aw (aI lH)) aY) (aj (wfo (wil K (pv 2)) (wpg 6 cx.nd) (aj (bZ (PW.pt (mY (fF (gR (bF (pY (K:=K) rfl) (by rfl) T.isinstance_ boot_isinstance (af (pv 6) (af (CA (v:=.ty "tuple") rfl T.tuple_ boot_tuple rfl) ak))))) (mY (aO uz (wln K T.len_ (pv 6)) ar (aW _)) (mT (fF (gR (wcl Pw hr OD (af (pv 0) (af (pv 6) ak))))))))) (aw (aI lH)) aY) (aw (wst 0 cx.nd (wcl OB hr NI (af (pv 0) (af (pv 6) ak))))))) (aw (aI (sZ (BH hr.units) (pv 0) (pv 1) (aW _))))))))),bh (Γn:=[]) (N:=l4) (ax (ST.post (Γn:=[]) (aN 2 (EM.es (AW oz (ai (EM.er (bx (bI (aa 0)) (aB 0) (aR mK (ai (ES.er (aa 0)) aq)))) (ai (EM.er (bx (bI (aa 1)) (aB 0) (aR mK (ai (ES.er (aa 0)) aq)))) aq)))))) (ax (ST.post (Γn:=[]) (aN 3 (EM.es au))) (ax (dQ (JE (aa 0) (aa 1)) (qH (bf (aB 4) (bf (aB 5) jj))) (ST.post (Γn:=[]) (aN 3 (EM.es (ay cJ (ES.er (aa 3)) (EM.er (aR bJ (ai (EM.er (nG (cn (ai (EM.er (aR bJ (ai (ES.er (aa 4)) aq))) aq)) (aB 0) (aM (EM.er (ay kS (ES.er (aD (aa 1) (ES.er (aa 0)))) (ES.er (aD (aa 2) (ES.er (aa 0))))))) (ER.aQ (ES.er (aa 0))))) aq)))))))) (ax (cS (mL (fE (oH (EM.er (wb Ft (ES.er (aa 2)))))) (aM (EM.er (ay kS (EM.er (aR bJ (ai (ES.er (aa 2)) aq))) (ES.er (aa 3)))))) (aJ (M:=[]) mm) aZ) (ax (dQ (bI (aa 2)) (aB 6) (ax (cS (mL (fE (oH (EM.er (wb kit_tuple (ES.er (aa 6)))))) (mL (aM (EM.er (ay BC (EM.er (aR bJ (ai (ES.er (aa 6)) aq))) (EM.er au)))) (fE (oH (EM.er (aE (S:=jo) qv (ai (ES.er (aa 0)) (ai (ES.er (aa 6)) aq)))))))) (aJ (M:=[]) mm) aZ) (ST.post (Γn:=[]) (aN 0 (EM.es (aE (S:=dM) lI (ai (ES.er (aa 0)) (ai (ES.er (aa 6)) aq)))))))) (aJ (M:=[]) (ay G6 (ES.er (aa 0)) (ES.er (aa 1))))))))) (fun ds P hS=>?_) h⟩
 obtain ⟨t,o,n,m,rfl,Y,hO,n1,O,X,U,hr,hc,Pp,hP⟩:=hS
 rw[show aL l4 [dT t,dT o]=[some (dT t),some (dT o),none,none,none,none,none] from rfl]
 have lt:=Y.1.1
 have lo:=hO.1.1
 refine lG fun Z e1=>?_
 walk_at "go"
 refine nK (t:=t) (fun R h=>by walk_at "go";exact h) (by omega) (fun r hr R h=>by walk_at "gb";exact h) ?_
 refine nK (t:=o) (fun R h=>by walk_at "go";exact h) (by omega) (fun r hr R h=>by walk_at "gb";exact h) ?_
 refine⟨t,o,n,m,n,m,rfl,Y,hO,n1,O,X,U,n1,O,X,U,fun j _ _ hg RV Rx=>?_,fun z=>absurd ⟨rfl,rfl,hr,hc⟩ z⟩
 have Rx:(j.length:Int)+1<=Rg.apart n m t o:=Rx.elim (fun z=>absurd z.1 Pp) id
 walk_at "go"
 subst e1
 refine lG fun Z e1=>?_
 walk_at "go"
 subst e1
 refine lG fun Z e1=>?_
 unfold LC
 walk_at "go"
 rw[zip_rows (by omega),lt]
 refine cO (as:=List.range n) (f:=fun a=>L3.D.tup [dI (rowAt t a),dI (rowAt o a)]) (fun i δ=>∃(I G:Option D),δ=[some (dT t),some (dT o),some (.lst (j.map dS4)),some (.int (sN i fun a=>((((List.range m).filter fun b=>decide (cellAt o a b<cellAt t a b)).length:Nat):Int))),I,G,none]) ⟨none,none,rfl⟩ ?_ ?_
 .rintro i a δ N e ⟨I,G,rfl⟩ hN
  obtain ⟨hi,ea⟩:=KE.mp e
  rw[Nn] at ea
  subst ea
  rw[L9] at hi
  have l1:=Y.1.row hi
  have l2:=hO.1.row hi
  walk_at "go"
  refine rh (lo:=0) (n:=m) (p:=fun b=>decide (cellAt o i b<cellAt t i b)) (g:=fun (b:Nat)=>.int (b:Int)) (fun R h=>?_) (by omega) (fun b hb R h=>?_) ?_
  .walk_at "go"
   rw[l1]
   exact h
  .walk_at "gb"
   rw[MS]
   refine aP (by omega) ?_
   rw[L7]
   walk_at "gb"
   refine aP (by omega) ?_
   rw[L7]
   walk_at "gb"
   by_cases e:cellAt o i b<cellAt t i b
   .rw[if_pos (show (rowAt o i).getD b 0<(rowAt t i).getD b 0 from e)]
    rw[decide_eq_true e] at h
    exact h
   .rw[if_neg (show ¬ (rowAt o i).getD b 0<(rowAt t i).getD b 0 from e)]
    rw[decide_eq_false e] at h
    exact h
  walk_at "go"
  refine hN _ ⟨some (dI (rowAt t i)),some (dI (rowAt o i)),?_⟩
  rw[bU]
 rintro δ ⟨I,G,rfl⟩
 rw[L9]
 have eap:(sN n fun a=>((((List.range m).filter fun b=>decide (cellAt o a b<cellAt t a b)).length:Nat):Int))=Rg.apart n m t o:=by
  show sN n _=sN n _
  refine aF fun a _=>?_
  rw[K5]
  refine aF fun b _=>?_
  unfold Rg.pos
  simp only[decide_eq_true_eq]
 rw[eap]
 subst e1
 dsimp only
 refine lG fun Z e1=>?_
 walk_at "go"
 rw[if_neg (by omega)]
 subst e1
 refine lG fun Z e1=>?_
 walk_at "go"
 refine cO (as:=j) (f:=dS4) (fun i δ=>∃(u:aaa) (I G o6:Option D),δ=[some (dT u),some (dT o),some (.lst (j.map dS4)),some (.int (Rg.apart n m t o)),I,G,o6]/\Rg.goT n m t (j.take i)=some u) ⟨t,_,_,_,rfl,rfl⟩ ?_ ?_
 .rintro i q δ N e ⟨u,I,G,o6,rfl,J⟩ hN
  obtain ⟨hi,eq⟩:=KE.mp e
  have kp:=Rg.uj Y J
  obtain ⟨C,B,y,x⟩:=q
  have Vf:Rg.goT n m u ((C,B,y,x)::j.drop (i+1))=some o:=by
   rw[<- Rg.nN J,<- eq,<- MO hi,Nl];exact hg
  have SD:cQ n m u C B y x:=M7 fun z=>by rw[Rg.xy z] at Vf;cases Vf
  have TN:Rg.goT n m t (j.take (i+1))=some (c5 u C.toNat B.toNat y.toNat x.toNat):=by
   rw[List.take_add_one,e]
   show Rg.goT n m t (j.take i++[(C,B,y,x)])=_
   rw[Rg.nN J,Rg.oK SD];rfl
  have lu:=kp.on.1.1
  obtain ⟨bi,bk,bj,bl,c1,c2,c3,c4⟩:=id SD
  have e4:dS4 (C,B,y,x)=L3.D.tup [.int C,.int B,.int y,.int x]:=rfl
  rw[e4]
  walk_at "go"
  rw[if_neg (fun z=>z (by decide))]
  refine⟨u,n,m,C,B,y,x,rfl,kp.on.1,n1,O,X,U,fun _=>?_,fun z=>absurd SD z⟩
  walk_at "go"
  refine⟨u,n,m,C,B,y,x,rfl,kp.on.1,n1,O,X,U,bi,bk,bj,bl,?_⟩
  walk_at "go"
  exact hN _ ⟨_,_,_,_,rfl,TN⟩
 rintro δ ⟨u,I,G,o6,rfl,J⟩
 rw[OG,hg] at J
 cases J
 subst e1
 dsimp only
 walk_at "go"
 refine wu ?_
 rw[if_neg (by decide),decide_eq_true rfl]
 exact hP
def dTo(p:Nat × Nat × Str):D:=.tup [.int p.1,.int p.2.1,.str p.2.2]
def iu:DSp:=fun ds P=>∃(c:List (Nat × Nat × Str)) (t:aaa) (n m:Nat),ds=[.lst (c.map dTo),dT t]/\bc n m t/\n<=8/\m<=8/\(∀p∈c,(p.1<n/\p.2.1<m)/\(p.2.2 = "zero"->cellAt t p.1 p.2.1=0)/\(p.2.2 = "one"->cellAt t p.1 p.2.1=1))/\P (.bl true)
theorem vv:bt iu:=by
 intro xs P c k h
 unfold iu at h ⊢
 grind
theorem xX:∀ds P,iu ds P->ds.length=2:=by
 intro ds P h
 obtain ⟨_,_,_,_,e,_⟩:=h
 rw[e];rfl
theorem y8{c:Cs}{f:Addr}{B:FuncData}(F:FnAt K mg "_law_kept" lX jA f B)(X:Fns K mg c)(T:Txt K mg base)(xs:Exs K mg base c):bE P w K mg base CX0 1 f B jA (spP K iu):=by
 refine F.fn.ok ko (fun vs H Q E h=>aU xX h) (fun R A outer s H vs Q E hr h=>?_)
 refine⟨_,(aj (wfo (wil K (pv 0)) (nv (K:=K) rfl rfl (bg (wpg 2 ko.nd) (bg (wpg 3 ko.nd) (bg (wpg 4 ko.nd) jm)))) (aw (bZ (PW.pt (mY (PW.pt (t8 (aO i9 (pv 4) cw (aW _)) (pE (aO uz (wix K (wix K (pv 1) (pv 2)) (pv 3)) ar (aW _))))) (mT (PW.pt (t8 (aO i9 (pv 4) cw (aW _)) (pE (aO uz (wix K (wix K (pv 1) (pv 2)) (pv 3)) ar (aW _)))))))) (aw (aI lH)) aY))) (aw (aI lH))),bh (Γn:=[]) (N:=oC) (ax (dQ (bI (aa 0)) (qH (bf (aB 2) (bf (aB 3) (bf (aB 4) jj)))) (cS (mL (tE (aM (EM.er (ay nU (ES.er (aa 4)) (EM.er cj)))) (aM (EM.er (ay BC (ES.er (aD (aD (aa 1) (ES.er (aa 2))) (ES.er (aa 3)))) (EM.er au))))) (tE (aM (EM.er (ay nU (ES.er (aa 4)) (EM.er cj)))) (aM (EM.er (ay BC (ES.er (aD (aD (aa 1) (ES.er (aa 2))) (ES.er (aa 3)))) (EM.er au)))))) (aJ (M:=[]) mm) aZ)) (aJ (M:=[]) mm)) (fun ds P G=>?_) h⟩
 obtain ⟨g,t,n,m,rfl,v,S,U,C,I⟩:=G
 rw[show aL oC [.lst (g.map dTo),dT t]=[some (.lst (g.map dTo)),some (dT t),none,none,none] from rfl]
 have lt:=v.1
 walk_at "go"
 refine cO (as:=g) (f:=dTo) (fun i δ=>∃(u r q:Option D),δ=[some (.lst (g.map dTo)),some (dT t),u,r,q]) ⟨none,none,none,rfl⟩ ?_ ?_
 .rintro i p δ N e ⟨u,r,q,rfl⟩ J
  obtain ⟨⟨O,L⟩,z,x⟩:=C p (MJ e)
  obtain ⟨a,b,w⟩:=p
  dsimp only at O L z x
  have nx:N [some (.lst (g.map dTo)),some (dT t),some (.int (a:Int)),some (.int (b:Int)),some (.str w)]:=J _ ⟨_,_,_,rfl⟩
  have e1:dTo (a,b,w)=L3.D.tup [.int (a:Int),.int (b:Int),.str w]:=rfl
  rw[e1]
  walk_at "go"
  by_cases j:w = "zero"
  .rw[if_pos j,if_neg (fun y=>by rw[j] at y;exact absurd y (by decide))]
   refine fk v (by omega) (by omega) ?_
   rw[L7,L7,z j]
   walk_at "go"
   exact nx
  .rw[if_neg j]
   by_cases o:w = "one"
   .rw[if_pos o]
    refine fk v (by omega) (by omega) ?_
    rw[L7,L7,x o]
    walk_at "go"
    exact nx
   .rw[if_neg o]
    exact nx
 .rintro δ ⟨u,r,q,rfl⟩
  walk_at "go"
  exact I
theorem Lz{z:Int}:Builtin.bitAnd z 1=0\/Builtin.bitAnd z 1=1:=by
 unfold Builtin.bitAnd
 by_cases h:0<=z
 .rw[decide_eq_true h,decide_eq_true (show (0:Int)<=1 by decide)]
  have:z.toNat &&& (1:Int).toNat<=1:=Nat.and_le_right
  simp only
  omega
 .rw[decide_eq_false h,decide_eq_true (show (0:Int)<=1 by decide)]
  have:(1:Int).toNat &&& (Builtin.bitNot z).toNat<=1:=Nat.and_le_left
  simp only
  omega
theorem JF{ds:aab}(h:ds.length=16):L3.cutD (ds.map L3.D.int) (some 4) (some 7)=((ds.drop 4).take 3).map L3.D.int:=by
 unfold L3.cutD
 rw[mo,h,List.map_take,List.map_drop];rfl
def kn:DSp:=fun ds P=>∃(ns:aab),ds=[.scr ns]/\ns.length<=63/\∀(t:aaa) (n m:Nat) (ps cs:aab) (X:D),ig n m t->1<=n->n<=8->1<=m->m<=8->ps.length<=100->X.items=some (cs.map L3.D.int)->cs.length<=63->P (.lst [dT t,dI ps,X])
theorem u5:bt kn:=by
 intro xs P q k h
 obtain ⟨ns,e,c,h⟩:=h
 exact⟨ns,e,c,fun t n m ps cs X a1 a2 p o j i g f=>k _ (h t n m ps cs X a1 a2 p o j i g f)⟩
theorem vJ:∀ds P,kn ds P->ds.length=1:=by
 intro ds P h
 obtain ⟨_,e,_⟩:=h
 rw[e];rfl
theorem xI{c:Cs}{f:Addr}{v:FuncData}(F:FnAt K mg "_law_drawn" eB iG f v)(p:Fns K mg c)(T:Txt K mg base)(xs:Exs K mg base c):bE P w K mg base CX0 3 f v iG (spP K kn):=by
 obtain ⟨f0,d0,C⟩:=p.h_law_deck
 have Q7:=zO (P:=P) (w:=w) C p T xs
 obtain ⟨f1,d1,G⟩:=p.h_law_ones
 have Q5:=yY (P:=P) (w:=w) G p T xs
 refine F.fn.ok gX (fun vs H Q E h=>aU vJ h) (fun cdv A outer s H vs Q E hr h=>?_)
 refine⟨_,(aj (bZ (PW.pt (t8 (aO Co (wln K T.len_ (pv 0)) ar (aW _)) (pE (aO i9 (aK bS (wix K (pv 0) ar) ar) ar (aW _))))) (aj (wst 1 gX.nd (aK cK ar (aK bS (aK cC (wix K (pv 0) ar) ar) ar))) (aj (wst 2 gX.nd (aK cK ar (aK bS (aK cC (wix K (pv 0) ar) ar) ar))) (aj (tL (i:=3) (br.of (sc0:=(av eB)) (tn:=["_law_row"]) (cap:=["_law_script","_law_wide"]) (idx:=[0,2]) (by decide +kernel) rfl rfl) gX.nd rfl (by walk_at "o") (bw rfl T.range_ (af (pv 1) ak)) (ma.name (by decide)) (fun _ _ _ _ _=>fU (i:=0) (bM (l:=["_law_row","_law_script","_law_wide"]) (by decide +kernel)) rfl (by walk_at "o") (by first|exact .inl rfl|exact .inr rfl)) (fun _ _ _ _ _=>(An (br.of (sc0:=(EK _ (av eB))) (tn:=["_law_column"]) (cap:=["_law_row","_law_script"]) (idx:=[0,1]) (by decide +kernel) rfl rfl) (bw rfl T.range_ (af (pv 2) ak)) (ma.name (by decide)) (fun _ _ _ _ _=>fU (i:=0) (bM (l:=["_law_column","_law_row","_law_script"]) (by decide +kernel)) rfl (by walk_at "o") (by first|exact .inl rfl|exact .inr rfl)) (fun _ _ _ _ _=>(aK KR (aK Kv (wix K (pv 2) ar) (aK cK (aK tu ar (pv 1)) (pv 0))) ar))))) (aw (aI (bD (af (pv 3) (af (wco (av eB) "_law_by" ["_law_script"] [0] (wil K (bD (wx (ns:=[1,64,4096]) rfl))) (fun _ _ _ _ _=>(aK cC (wix K (pv 1) ar) (pv 0)))) (af (iQ (iJ (K:=K) rfl) (pv 0) (jf ar) me) ak))))))))) aY) (aj (wst 4 gX.nd (wcl Q7 hr C (af (pv 0) (af ar ak)))) (aw (aI (bD (af (wcl Q5 hr G (af (pv 0) (af (pv 4) ak))) (af (iQ (iJ (K:=K) rfl) (pv 4) (jf ar) (jf ar)) (af (pv 0) ak)))))))),bh (Γn:=[]) (N:=mE) (ax (cS (tE (aM (EM.er (ay kS (EM.er (aR bJ (ai (ES.er (aa 0)) aq))) (EM.er au)))) (aM (EM.er (ay nU (EM.er (ay aT (ES.er (aD (aa 0) (EM.er au))) (EM.er au))) (EM.er au))))) (ax (ST.post (Γn:=[]) (aN 1 (EM.es (ay cJ (EM.er au) (EM.er (ay aT (EM.er (ay aT (ES.er (aD (aa 0) (EM.er au))) (EM.er au))) (EM.er au))))))) (ax (ST.post (Γn:=[]) (aN 2 (EM.es (ay cJ (EM.er au) (EM.er (ay aT (EM.er (ay aT (ES.er (aD (aa 0) (EM.er au))) (EM.er au))) (EM.er au))))))) (ax (ST.post (Γn:=[3]) (bV (M:=[]) 3 (bx (cn (ai (ES.er (aa 1)) aq)) (aB 0) (bx (cn (ai (ES.er (aa 2)) aq)) (aB 0) (ay cJ (EM.er (ay aT (ES.er (aD (aa 2) (EM.er au))) (EM.er (ay cJ (EM.er (ay aT (EM.er au) (ES.er (aa 1)))) (ES.er (aa 0)))))) (EM.er au)))))) (aJ (M:=[3]) (bC (gY (ix 3) (aA (bx (bI (EM.es (bC rL))) (aB 0) (ay aT (ES.er (aD (aa 1) (EM.er au))) (ES.er (aa 0)))) (aA (sf (ES.er (aa 0)) (or_some (EM.er au)) or_none) aV)))))))) aZ) (ax (ST.post (Γn:=[]) (aN 4 (EM.es (aE (S:=ij) vw (ai (ES.er (aa 0)) (ai (EM.er au) aq)))))) (aJ (M:=[]) (bC (aA (aE (S:=jW) vj (ai (ES.er (aa 0)) (ai (ES.er (aa 4)) aq))) (aA (sf (ES.er (aa 4)) (or_some (EM.er au)) (or_some (EM.er au))) (aA (ER.LS (ES.er (aa 0))) aV))))))) (fun ds P X=>?_) h⟩
 obtain ⟨ns,rfl,o,u⟩:=X
 rw[show aL mE [.scr ns]=[some (.scr ns),none,none,none,none] from rfl]
 have B:ij [L3.D.scr ns,L3.D.int 16] fun x=>jW [L3.D.scr ns,x] fun Yq=>asL x fun ds=>ds.all L3.D.aQ=true/\FK (mx 0) [some (L3.D.scr ns),none,none,none,some x] fun x=>0+1+1+1<=1000/\P (L3.D.lst [Yq,L3.D.lst (L3.cutD ds (some 4) (some 7)),x]):=by
  refine⟨ns,16,rfl,o,by decide,fun dk hl hd=>⟨ns,dk,rfl,o,hl,hd,fun t n m Y n1 I L J=>?_⟩⟩
  walk_at "go"
  unfold FK
  walk_at "go"
  rw[JF hl]
  exact⟨⟨ns,rfl⟩,by decide,u t n m _ ns (.scr ns) Y n1 I L J (by rw[M4];omega) rfl o⟩
 walk_at "go"
 by_cases h3:3<ns.length
 .rw[if_pos (by omega)]
  refine aP (by omega) ?_
  walk_at "go"
  split
  .refine aP (by omega) ?_
   walk_at "go"
   refine aP (by omega) ?_
   walk_at "go"
   have q1:=emod_lt (x:=ns.getD 0 0 / 2) (n:=5) (by decide)
   have q2:=emod_lt (x:=ns.getD 0 0 / 16) (n:=5) (by decide)
   obtain ⟨n,Z⟩:∃a:Nat,1+ns.getD 0 0 / 2 % 5=(a:Int):=⟨(1+ns.getD 0 0 / 2 % 5).toNat,by omega⟩
   obtain ⟨m,em⟩:∃b:Nat,1+ns.getD 0 0 / 16 % 5=(b:Int):=⟨(1+ns.getD 0 0 / 16 % 5).toNat,by omega⟩
   rw[Z,em]
   obtain ⟨y,O⟩:∃y,ns.getD (1:Int).toNat 0=y:=⟨_,rfl⟩
   refine eY (lo:=0) (n:=n) (g:=fun (i:Nat)=>dI ((List.range m).map fun (j:Nat)=>Builtin.bitAnd (y / 2 ^ (8*(i:Int)+(j:Int)).toNat) 1)) (fun R h=>by walk_at "go";exact h) (by omega) (fun i hi R h=>?_) ?_
   .walk_at "gb"
    refine eY (lo:=0) (n:=m) (g:=fun (j:Nat)=>.int (Builtin.bitAnd (y / 2 ^ (8*(i:Int)+(j:Int)).toNat) 1)) (fun R h=>by walk_at "gb";exact h) (by omega) (fun j hj R h=>?_) ?_
    .walk_at "gb"
     refine aP (by omega) ?_
     rw[O]
     walk_at "gb"
     rw[MS,MS]
     exact h
    .rw[km]
     exact h
   rw[AQ]
   have q:ig n m ((List.range n).map fun (i:Nat)=>(List.range m).map fun (j:Nat)=>Builtin.bitAnd (y / 2 ^ (8*(i:Int)+(j:Int)).toNat) 1):=by
    refine⟨⟨by rw[mo,L9],fun r hr=>?_⟩,fun r hr z o=>?_⟩
    .obtain ⟨_,_,rfl⟩:=Mb.mp hr
     rw[mo,L9]
    .obtain ⟨_,_,rfl⟩:=Mb.mp hr
     obtain ⟨_,_,rfl⟩:=Mb.mp o
     exact Lz
   generalize ((List.range n).map fun (i:Nat)=>(List.range m).map fun (j:Nat)=>Builtin.bitAnd (y / 2 ^ (8*(i:Int)+(j:Int)).toNat) 1)=t at q ⊢
   walk_at "go"
   refine my (as:=[(1:Int),64,4096]) (f:=L3.D.int) (g:=fun x=>.int (ns.getD 2 0 / x)) (fun R h=>by walk_at "go";exact h) (by decide) (fun x U R h=>?_) ?_
   .walk_at "gb"
    refine aP (by omega) ?_
    walk_at "gb"
    have VZ:x=1\/x=64\/x=4096:=by simpa using U
    rcases VZ with rfl|rfl|rfl<;>exact⟨⟨by decide,100,by decide,by decide⟩,h⟩
   rw[show (some (3:Int))=some ((3:Nat):Int) from rfl,Gv (by omega)]
   exact⟨bN,by decide,u t n m [ns.getD 2 0 / 1,ns.getD 2 0 / 64,ns.getD 2 0 / 4096] (ns.drop 3) (dI (ns.drop 3)) q (by omega) (by omega) (by omega) (by omega) (by show 3<=100;decide) rfl (by rw[MZ];omega)⟩
  .exact B
 .rw[if_neg (by omega)]
  exact B
theorem x6:∀{rs left:aab},b9 left.length rs (fun j=>left.getD j 0)↔∃T,Tal.Ok rs left T
 |[],left=>by
  constructor
  .intro h
   refine⟨[],fun x g=>?_⟩
   obtain ⟨i,hi,rfl⟩:=Oc g
   have z:left.getD i 0=0:=h i hi
   rw[dz,gV hi] at z
   exact z
  .rintro ⟨T,h⟩
   cases T with
   |nil =>
    intro j hj
    show left.getD j 0=0
    rw[dz,gV hj]
    exact h _ (MK hj)
   |cons _ _=>exact h.elim
 |r::rs,left=>by
  constructor
  .rintro ⟨b,t,s,p⟩
   have lb:((List.range left.length).map b).length=left.length:=by rw[mo,L9]
   have hb:∀z∈(List.range left.length).map b,z=0\/z=1:=fun z f=>by
    obtain ⟨j,hj,rfl⟩:=Mb.mp f
    exact t j (Mh.mp hj)
   have hl:=Tal.qO hb
   rw[lb] at hl
   have u:=Tal.sub_len lb
   have o:b9 (Tal.sub left ((List.range left.length).map b)).length rs (fun j=>(Tal.sub left ((List.range left.length).map b)).getD j 0):=by
    rw[u]
    refine p.congr fun j hj=>?_
    rw[Tal.pX lb]
    show _=_ - ((List.range left.length).map b).getD j 0
    rw[dz (l:=(List.range left.length).map b),L4,MI hj]
    rfl
   obtain ⟨T,n⟩:=x6.mp o
   exact⟨_::T,Tal.lP.mpr ⟨hl,s⟩,n⟩
  .rintro ⟨T,h⟩
   cases T with
   |nil=>exact h.elim
   |cons l T =>
    have m:=Tal.lP.mp h.1
    have c:=Tal.nA m.1
    refine⟨fun j=>l.getD j 0,fun j _=>Tal.uO m.1,?_,?_⟩
    .rw[<- m.2,tJ,c.1];rfl
    .have q:=x6.mpr ⟨T,h.2⟩
     rw[Tal.sub_len c.1] at q
     exact q.congr fun j _=>Tal.pX c.1
theorem Fs{c cols:aab}{low high t:aaa}(h:Bt c.length cols.length c cols low high t)(hl:∀i j,i<c.length->j<cols.length->0<=cellAt low i j)(n:∀i j,i<c.length->j<cols.length->cellAt high i j<=1):Tal.Ok c cols t:=by
 have own:=Tal.GP (w:=cols.length) (T:=t) fun r hr=>by
  refine⟨h.rt.2 r hr,fun z m=>?_⟩
  obtain ⟨i,hi,rfl⟩:=Oc hr
  obtain ⟨j,hj,rfl⟩:=Oc m
  have g:i<c.length:=by have:=h.rt.1;omega
  have f:j<cols.length:=by have:=h.rt.2 _ hr;omega
  have b:=h.bd i j g f
  have e:cellAt t i j=t[i][j]:=by
   unfold cellAt
   rw[dz,dz,gV hi,M3,gV hj];rfl
  have:=hl i j g f
  have:=n i j g f
  omega
 have e1:t.map List.sum=c:=by
  refine Tal.mR (by rw[mo,h.rt.1]) fun i hi=>?_
  rw[mo] at hi
  rw[<- h.rs i (by rw[<- h.rt.1];exact hi)]
  unfold du rowAt
  rw[dz,dz,L4,gV hi];rfl
 have e2:Tal.cols cols.length t=cols:=by
  refine Tal.mR Tal.eO fun j hj=>?_
  rw[Tal.eO] at hj
  rw[Tal.jF hj,<- h.cs j hj];rfl
 rw[e1,e2] at own
 exact own
theorem EF{c cols:aab}{low high t:aaa}(h:Tal.Ok c cols t)(hb:∀i j,i<c.length->j<cols.length->cellAt t i j=0\/cellAt t i j=1->cellAt low i j<=cellAt t i j/\cellAt t i j<=cellAt high i j):Bt c.length cols.length c cols low high t:=by
 obtain ⟨e1,e2,g⟩:=Tal.Bw h
 have lt:=Tal.EZ h
 have rt:bc c.length cols.length t:=⟨lt,fun r hr=>(g r hr).1⟩
 refine⟨rt,fun i j hi hj=>hb i j hi hj ?_,fun i hi=>?_,fun j hj=>?_⟩
 .have f:i<t.length:=by omega
  have hr:=(g _ (MK f))
  have m:j<(t[i]).length:=by omega
  have e:cellAt t i j=t[i][j]:=by
   unfold cellAt
   rw[dz,dz,gV f,M3,gV m];rfl
  rw[e]
  exact hr.2 _ (MK m)
 .conv=>rhs;rw[e1]
  have f:i<t.length:=by omega
  unfold du rowAt
  rw[dz,dz,L4,gV f];rfl
 .conv=>rhs;rw[e2]
  rw[Tal.jF hj];rfl
theorem Ct.no{n m:Nat}{c cols:aab}{low high:aaa}{U V:aac}(h:Ct n m c cols low high U V){t:aaa}(b:Bt n m c cols low high t):False:=KN b.rt b.bd b.rs b.cs h.cut
theorem jt{n m i j a b:Nat}{x:Int}(hi:i<n)(hj:j<m)(ha:a<n)(hb:b<m):cellAt (jc (b7 n m x) i j) a b=if i=a/\j=b then 1 - x else x:=by
 unfold jc
 rw[cP qD hi hj,bq hi hj,bq ha hb]
open Classical in
noncomputable def fwd(rows cols:aab)(i j:Nat):Str:=if (∃T,Tal.Ok rows cols T/\cellAt T i j=0) then (if (∃T,Tal.Ok rows cols T/\cellAt T i j=1) then "free" else "zero") else "one"
theorem Hl{c cols:aab}{i j:Nat}(h:¬ ∃T,Tal.Ok c cols T/\cellAt T i j=0):("one" : Str)=fwd c cols i j:=by unfold fwd;rw[if_neg h]
theorem Gf{c cols:aab}{i j:Nat}(h:∃T,Tal.Ok c cols T/\cellAt T i j=0)(h':¬ ∃T,Tal.Ok c cols T/\cellAt T i j=1):("zero" : Str)=fwd c cols i j:=by unfold fwd;rw[if_pos h,if_neg h']
theorem GJ{c cols:aab}{i j:Nat}(h:∃T,Tal.Ok c cols T/\cellAt T i j=0)(h':∃T,Tal.Ok c cols T/\cellAt T i j=1):("free" : Str)=fwd c cols i j:=by unfold fwd;rw[if_pos h,if_pos h']
theorem Hw{c cols:aab}{i j:Nat}(e:fwd c cols i j = "zero"):¬ ∃T,Tal.Ok c cols T/\cellAt T i j=1:=fun h=>by
 unfold fwd at e
 rw[if_pos h] at e
 split at e<;>exact absurd e (by decide)
theorem KS{c cols:aab}{i j:Nat}(e:fwd c cols i j = "one"):¬ ∃T,Tal.Ok c cols T/\cellAt T i j=0:=fun h=>by
 unfold fwd at e
 rw[if_pos h] at e
 split at e<;>exact absurd e (by decide)
section
variable {rows cols:aab}{i j:Nat}(hi:i<rows.length)(hj:j<cols.length)
include hi hj
theorem G2{U V:aac}(h:Ct rows.length cols.length rows cols (b7 rows.length cols.length 0) (jc (b7 rows.length cols.length 1) i j) U V):¬ ∃T,Tal.Ok rows cols T/\cellAt T i j=0:=by
 rintro ⟨T,c,e⟩
 refine (h.no (EF c fun a b ha hb q=>?_)).elim
 rw[bq ha hb,jt hi hj ha hb]
 split
 .rename_i w
  obtain ⟨rfl,rfl⟩:=w
  omega
 .omega
theorem Du{U V:aac}(h:Ct rows.length cols.length rows cols (jc (b7 rows.length cols.length 0) i j) (b7 rows.length cols.length 1) U V):¬ ∃T,Tal.Ok rows cols T/\cellAt T i j=1:=by
 rintro ⟨T,c,e⟩
 refine (h.no (EF c fun a b ha hb q=>?_)).elim
 rw[bq ha hb,jt hi hj ha hb]
 split
 .rename_i w
  obtain ⟨rfl,rfl⟩:=w
  omega
 .omega
theorem wV{t:aaa}(h:Bt rows.length cols.length rows cols (b7 rows.length cols.length 0) (jc (b7 rows.length cols.length 1) i j) t):Tal.Ok rows cols t/\cellAt t i j=0:=by
 refine⟨Fs h (fun a b ha hb=>by rw[bq ha hb];omega) (fun a b ha hb=>by rw[jt hi hj ha hb];split<;>omega),?_⟩
 have b:=h.bd i j hi hj
 rw[bq hi hj,jt hi hj hi hj,if_pos ⟨rfl,rfl⟩] at b
 omega
theorem Eh{t:aaa}(h:Bt rows.length cols.length rows cols (jc (b7 rows.length cols.length 0) i j) (b7 rows.length cols.length 1) t):Tal.Ok rows cols t/\cellAt t i j=1:=by
 refine⟨Fs h (fun a b ha hb=>by rw[jt hi hj ha hb];split<;>omega) (fun a b ha hb=>by rw[bq ha hb];omega),?_⟩
 have b:=h.bd i j hi hj
 rw[bq hi hj,jt hi hj hi hj,if_pos ⟨rfl,rfl⟩] at b
 omega
end
theorem tD{c cols:aab}{t:aaa}(h:Tal.Ok c cols t):ig c.length cols.length t/\(∀a,a<c.length->du t a=c.getD a 0)/\∀b,b<cols.length->ee t b=cols.getD b 0:=by
 have b:=EF (low:=b7 c.length cols.length 0) (high:=b7 c.length cols.length 1) h fun i j hi hj q=>by rw[bq hi hj,bq hi hj];omega
 exact⟨⟨b.rt,fun r hr x f=>((Tal.Bw h).2.2 r hr).2 x f⟩,b.rs,b.cs⟩
theorem B2{c cols:aab}{t:aaa}(h:ig c.length cols.length t)(hr:∀a,a<c.length->du t a=c.getD a 0)(f:∀b,b<cols.length->ee t b=cols.getD b 0):Tal.Ok c cols t :=
 Fs (low:=b7 c.length cols.length 0) (high:=b7 c.length cols.length 1) ⟨h.1,fun i j hi hj=>by have:=h.cell hi hj;rw[bq hi hj,bq hi hj];omega,hr,f⟩ (fun a b ha hb=>by rw[bq ha hb];omega) (fun a b ha hb=>by rw[bq ha hb];omega)
def rP:DSp:=fun ds P=>∃ns,ds=[.scr ns]/\ns.length<=63/\P (.bl true)
theorem GC{ns:aab}{P:DK}(hl:ns.length<=63)(h:P (.bl true)):rP [.scr ns] P:=⟨ns,rfl,hl,h⟩
theorem Le:bt rP:=by
 intro xs P c k h
 unfold rP at h ⊢
 grind
theorem HR:∀ds P,rP ds P->ds.length=1:=by
 intro ds P h
 obtain ⟨_,e,_⟩:=h
 rw[e];rfl
theorem JO{c:Cs}{f:Addr}{fd:FuncData}(F:FnAt K mg "law" mH uU f fd)(o:Fns K mg c)(T:Txt K mg base)(xs:Exs K mg base c):bE P w K mg base CX0 8 f fd uU (spP K rP):=by
 obtain ⟨f0,d0,PD⟩:=o.h_law_drawn
 have QO:=xI (P:=P) (w:=w) PD o T xs
 obtain ⟨f1,d1,P8⟩:=o.h_law_sums
 have Q3:=yC (P:=P) (w:=w) P8 o T xs
 obtain ⟨f2,d2,O⟩:=o.h_fate_of
 have Ql:=AK (P:=P) (w:=w) O o T xs
 obtain ⟨f3,d3,OD⟩:=o.h_law_can
 have Pw:=tX (P:=P) (w:=w) OD o T xs
 obtain ⟨f4,d4,NI⟩:=o.h_law_swapped
 have OB:=m9 (P:=P) (w:=w) NI o T xs
 obtain ⟨f5,d5,Qa⟩:=o.h_law_kept
 have Q6:=y8 (P:=P) (w:=w) Qa o T xs
 obtain ⟨f6,d6,Pm⟩:=o.h_law_walked
 have Qw:=vk (P:=P) (w:=w) Pm o T xs
 refine F.fn.ok fD (fun vs H Q E h=>aU HR h) (fun cdv A outer s H vs Q E hr h=>?_)
 refine⟨_,(aj (dO (wcl QO hr PD (af (pv 0) ak)) (xf (K:=K) rfl rfl (bg (wpg 1 fD.nd) (bg (wpg 2 fD.nd) (bg (wpg 3 fD.nd) jm))))) (aj (dO (wcl Q3 hr P8 (af (pv 1) ak)) (xf (K:=K) rfl rfl (bg (wpg 4 fD.nd) (bg (wpg 5 fD.nd) jm)))) (aj (wst 6 fD.nd (bD ak)) (aj (wfo (wil K (pv 2)) (wpg 7 fD.nd) (aj (wst 8 fD.nd (dU (af (aK bS (pv 7) (wln K T.len_ (pv 4))) (af (aK bS (aK cC (pv 7) ar) (wln K T.len_ (pv 5))) ak)))) (aj (wst 9 fD.nd (jg Ql (hr.mono (by decide)) rfl O.mg O.fn.kp O.bd .nil BU (af (fo (eD (K:=K) rfl) (by rfl) T.list_ boot_list (af (pv 4) ak)) (af (fo (eD (K:=K) rfl) (by rfl) T.list_ boot_list (af (pv 5) ak)) (af (pv 8) ak))))) (aj (bZ (aO (vV (K:=K) rfl) (wit K (pv 9) ar) (bD (af cw (af cw (af cw ak)))) (by with_unfolding_all rfl)) (aw (aI lH)) aY) (aj (bZ (PW.pt (t8 (aO i9 (wit K (pv 9) ar) cw (aW _)) (pE (fF (gR (wcl Qw hr Pm (af (wit K (pv 9) ar) (af (wit K (pv 9) ar) ak)))))))) (aw (aI lH)) aY) (aw (cH (ia Mp Mw Mv bQ (pv 6) (af (dU (af (wit K (pv 8) ar) (af (wit K (pv 8) ar) (af (wit K (pv 9) ar) ak)))) ak))))))))) (aj (wfo (wil K (pv 3)) (wpg 8 fD.nd) (aj (wst 10 fD.nd (dU (af (aK bS (pv 8) (wln K T.len_ (pv 4))) (af (aK bS (aK cC (pv 8) ar) (wln K T.len_ (pv 5))) (af (aK bS (aK cC (pv 8) ar) (wln K T.len_ (pv 4))) (af (aK bS (aK cC (pv 8) ar) (wln K T.len_ (pv 5))) ak)))))) (aj (bZ (gR (wcl Pw hr OD (af (pv 1) (af (pv 10) ak)))) (aw (wst 1 fD.nd (wcl OB hr NI (af (pv 1) (af (pv 10) ak))))) aY) (aw (bZ (fF (gR (wcl Q6 hr Qa (af (pv 6) (af (pv 1) ak))))) (aw (aI lH)) aY))))) (aj (wfo (wil K (pv 6)) (nv (K:=K) rfl rfl (bg (wpg 11 fD.nd) (bg (wpg 12 fD.nd) (bg (wpg 13 fD.nd) jm)))) (aw (bZ (aO uz (wit K (jg Ql (hr.mono (by decide)) rfl O.mg O.fn.kp O.bd .nil BU (af (fo (eD (K:=K) rfl) (by rfl) T.list_ boot_list (af (pv 4) ak)) (af (fo (eD (K:=K) rfl) (by rfl) T.list_ boot_list (af (pv 5) ak)) (af (dU (af (pv 11) (af (pv 12) ak))) ak)))) ar) (pv 13) (aW _)) (aw (aI lH)) aY))) (aw (aI lH)))))))),bh (Γn:=[]) (N:=E6) (ax (qa (EM.es (aE (S:=kn) u5 (ai (ES.er (aa 0)) aq))) (Bz (bf (aB 1) (bf (aB 2) (bf (aB 3) jj))))) (ax (qa (EM.es (aE (S:=kd) vh (ai (ES.er (aa 1)) aq))) (Bz (bf (aB 4) (bf (aB 5) jj)))) (ax (ST.post (Γn:=[6]) (bV (M:=[]) 6 (bC aV))) (ax (dQ (bI (aa 2)) (aB 7) (ax (ST.post (Γn:=[6]) (aN 8 (EM.es (dP (aA (ay aT (ES.er (aa 7)) (EM.er (aR bJ (ai (ES.er (aa 4)) aq)))) (aA (ay aT (EM.er (ay aT (ES.er (aa 7)) (EM.er au))) (EM.er (aR bJ (ai (ES.er (aa 5)) aq)))) aV)))))) (ax (ST.post (Γn:=[6]) (aN 9 (EM.es (AW pJ (ai (EM.er (aR mK (ai (ES.er (aa 4)) aq))) (ai (EM.er (aR mK (ai (ES.er (aa 5)) aq))) (ai (ES.er (aa 8)) aq))))))) (ax (cS (aM (EM.er (ay Kz (ES.er (bb (aa 9) (EM.er au))) (EM.er (bC (aA cj (aA cj (aA cj aV)))))))) (aJ (M:=[]) mm) aZ) (ax (cS (tE (aM (EM.er (ay nU (ES.er (bb (aa 9) (EM.er au))) (EM.er cj)))) (fE (oH (EM.er (aE (S:=gp) sy (ai (ES.er (bb (aa 9) (EM.er au))) (ai (ES.er (bb (aa 9) (EM.er au))) aq))))))) (aJ (M:=[]) mm) aZ) (ST.post (Γn:=[6]) (bR (M:=[]) 6 (dP (aA (ER.flat (ES.er (bb (aa 8) (EM.er au)))) (aA (ER.flat (ES.er (bb (aa 8) (EM.er au)))) (aA (ER.flat (ES.er (bb (aa 9) (EM.er au)))) aV))))))))))) (ax (dQ (bI (aa 3)) (aB 8) (ax (ST.post (Γn:=[6]) (aN 10 (EM.es (dP (aA (ay aT (ES.er (aa 8)) (EM.er (aR bJ (ai (ES.er (aa 4)) aq)))) (aA (ay aT (EM.er (ay aT (ES.er (aa 8)) (EM.er au))) (EM.er (aR bJ (ai (ES.er (aa 5)) aq)))) (aA (ay aT (EM.er (ay aT (ES.er (aa 8)) (EM.er au))) (EM.er (aR bJ (ai (ES.er (aa 4)) aq)))) (aA (ay aT (EM.er (ay aT (ES.er (aa 8)) (EM.er au))) (EM.er (aR bJ (ai (ES.er (aa 5)) aq)))) aV)))))))) (ax (cS (oH (EM.er (aE (S:=jo) qv (ai (ES.er (aa 1)) (ai (ES.er (aa 10)) aq))))) (ST.post (Γn:=[6]) (aN 1 (EM.es (aE (S:=dM) lI (ai (ES.er (aa 1)) (ai (ES.er (aa 10)) aq)))))) aZ) (cS (fE (oH (EM.er (aE (S:=iu) vv (ai (gh 6) (ai (ES.er (aa 1)) aq)))))) (aJ (M:=[]) mm) aZ)))) (ax (ST.pre (Γ1:=[]) (dQ (bI (aa 6)) (qH (bf (aB 11) (bf (aB 12) (bf (aB 13) jj)))) (cS (aM (EM.er (ay BC (EM.er (Fp (AW pJ (ai (EM.er (aR mK (ai (ES.er (aa 4)) aq))) (ai (EM.er (aR mK (ai (ES.er (aa 5)) aq))) (ai (EM.er (dP (aA (ER.flat (ES.er (aa 11))) (aA (ER.flat (ES.er (aa 12))) aV)))) aq)))) (EM.er au))) (ES.er (aa 13))))) (aJ (M:=[]) mm) aZ))) (aJ (M:=[]) mm))))))) (fun ds P hS=>?_) h⟩
 obtain ⟨ns,rfl,hz,hP⟩:=hS
 rw[show aL E6 [.scr ns]=[some (.scr ns),none,none,none,none,none,none,none,none,none,none,none,none,none] from rfl]
 refine lG fun R1 e1=>?_
 walk_at "go"
 refine⟨ns,rfl,hz,fun t n m ps cs X Z n1 n8 m1 m8 Ug hX Sz=>?_⟩
 walk_at "go"
 have lt:=Z.1.1
 subst e1
 refine lG fun R1 e1=>?_
 walk_at "go"
 refine⟨t,n,m,rfl,Z.1,n1,n8,m1,m8,?_⟩
 walk_at "go"
 obtain ⟨g,er⟩:∃g,t.map List.sum=g:=⟨_,rfl⟩
 obtain ⟨cols,ec⟩:∃cols,uw m t=cols:=⟨_,rfl⟩
 have I:g.length=n:=by rw[<- er,mo,lt]
 have J:cols.length=m:=by rw[<- ec];unfold uw;rw[mo,L9]
 have Xn:Tal.Ok g cols t:=by
  refine B2 (by rw[I,J];exact Z) (fun a ha=>?_) (fun b hb=>?_)
  .rw[<- er,dz,L4,gV (by omega)]
   unfold du rowAt
   rw[dz,gV (by omega)];rfl
  .rw[<- ec]
   unfold uw
   rw[dz,L4,MI (by omega)];rfl
 rw[er,ec]
 have nn:∀(l:aab),(∀v∈l,v=0\/v=1)->0<=l.sum:=fun l=>by
  induction l with
  |nil=>intro _;simp
  |cons a r ih =>
   intro h
   have h1:=h a ox
   have h2:=ih fun v C=>h v (Fk _ C)
   rw[MD]
   omega
 have Uc:∀r∈g,0<=r:=fun r hr=>by
  rw[<- er] at hr
  obtain ⟨l,hl,rfl⟩:=Mb.mp hr
  exact nn l (Z.2 l hl)
 have RS:∀r∈cols,0<=r:=fun r hr=>by
  rw[<- ec] at hr
  unfold uw at hr
  obtain ⟨b,hb,rfl⟩:=Mb.mp hr
  refine nn _ fun v C=>?_
  obtain ⟨l,hl,rfl⟩:=Mb.mp C
  have:=Z.1.2 l hl
  have hb:=Mh.mp hb
  rw[dz,gV (by omega)]
  exact Z.2 l hl _ (MK _)
 have Vz:px g cols:=x6.mpr ⟨t,Xn⟩
 have UK:∀(a b:Nat) (L:DK),a<n->b<m->(∀w X Y,w=fwd g cols a b->(w = "free"->∃u v,X=dT u/\Y=dT v/\Tal.Ok g cols u/\Tal.Ok g cols v/\u≠v)->L (.tup [.str w,X,Y]))->noX (nz c) [dI g,dI cols,.tup [.int (a:Int),.int (b:Int)]] L:=fun a b L ha hb hh=>by
  have UA:a<g.length:=by omega
  have RC:b<cols.length:=by omega
  refine⟨g,cols,a,b,rfl,by omega,by omega,by omega,by omega,Uc,RS,fun z=>absurd ⟨⟨by omega,by omega⟩,by omega,by omega⟩ z,fun _ z=>absurd Vz z,fun _ _ i j ei ej=>?_⟩
  have ei:i=a:=by omega
  have ej:j=b:=by omega
  subst ei
  subst ej
  refine⟨fun U V h=>?_,fun u U V h h'=>?_,fun u v h h'=>?_⟩
  .exact hh _ _ _ (Hl (G2 UA RC h)) fun z=>absurd z (by decide)
  .exact hh _ _ _ (Gf ⟨u,wV UA RC h⟩ (Du UA RC h')) fun z=>absurd z (by decide)
  .have q1:=wV UA RC h
   have q2:=Eh UA RC h'
   exact hh _ _ _ (GJ ⟨u,q1⟩ ⟨v,q2⟩) fun _=>⟨u,v,rfl,rfl,q1.1,q2.1,fun z=>by have e1:=q1.2;rw[z,q2.2] at e1;cases e1⟩
 have wd:∀a b,fwd g cols a b = "free"\/fwd g cols a b = "zero"\/fwd g cols a b = "one":=fun a b=>by
  unfold fwd
  split
  .split
   .exact .inl rfl
   .exact .inr (.inl rfl)
  .exact .inr (.inr rfl)
 subst e1
 refine lG fun R1 e1=>?_
 walk_at "go"
 subst e1
 refine lG fun R1 e1=>?_
 walk_at "go"
 refine cO (as:=ps) (f:=L3.D.int) (fun i δ=>∃(B:List (Nat × Nat × Str)) (o7 G o9:Option D),δ=[some (.scr ns),some (dT t),some (dI ps),some X,some (dI g),some (dI cols),some (.lst (B.map dTo)),o7,G,o9,none,none,none,none]/\B.length<=i/\∀p∈B,(p.1<n/\p.2.1<m)/\p.2.2=fwd g cols p.1 p.2.1) ⟨[],none,none,none,rfl,Md _,fun p h=>(nomatch h)⟩ ?_ ?_
 .rintro i x δ N e ⟨B,o7,G,o9,rfl,hl,ht⟩ hN
  have hi:=(KE.mp e).1
  have a1:=emod_lt (x:=x) (n:=(n:Int)) (by omega)
  have a2:=emod_lt (x:=x / 8) (n:=(m:Int)) (by omega)
  obtain ⟨a,ha⟩:∃a:Nat,x % n=a:=⟨(x % n).toNat,by omega⟩
  obtain ⟨b,hb⟩:∃b:Nat,x / 8 % m=b:=⟨(x / 8 % m).toNat,by omega⟩
  walk_at "go"
  rw[I,J,ha,hb]
  refine UK a b _ (by omega) (by omega) fun w U V hw hf=>?_
  walk_at "go"
  have nx:N [some (.scr ns),some (dT t),some (dI ps),some X,some (dI g),some (dI cols),some (.lst ((B++[(a,b,w)]).map dTo)),some (.int x),some (.tup [.int (a:Int),.int (b:Int)]),some (.tup [.str w,U,V]),none,none,none,none]:=by
   refine hN _ ⟨B++[(a,b,w)],_,_,_,rfl,by rw[Mg];show B.length+1<=i+1;omega,fun p hp=>?_⟩
   rcases Ma.mp hp with z|z
   .exact ht p z
   .rw[Gc.mp z]
    exact⟨⟨by show a<n;omega,by show b<m;omega⟩,hw⟩
  rw[Mf] at nx
  refine⟨rfl,rfl,?_⟩
  have inn:(inD (.str w) [.str "free",.str "zero",.str "one"])=true:=by
   rw[hw]
   rcases wd a b with z|z|z<;>rw[z]<;>decide
  rw[inn]
  walk_at "go"
  by_cases RX:w = "free"
  .rw[if_pos RX]
   obtain ⟨u,v,rfl,rfl,R,C,Zj⟩:=hf RX
   obtain ⟨ou,ru,cu⟩:=tD R
   obtain ⟨ov,rv,cv⟩:=tD C
   rw[I,J] at ou ov
   refine⟨u,v,n,m,rfl,ou,ov,n1,n8,m1,m8,fun a ha=>by rw[ru a (by omega),rv a (by omega)],fun b hb=>by rw[cu b (by omega),cv b (by omega)],Zj,?_⟩
   walk_at "go"
   first|exact nx|exact⟨rfl,by decide,by omega,nx⟩
  .rw[if_neg RX]
   first|exact nx|exact⟨rfl,by decide,by omega,nx⟩
 rintro δ ⟨B,o7,G,o9,rfl,hl,ht⟩
 subst e1
 dsimp only
 refine lG fun R1 e1=>?_
 walk_at "go"
 refine gg hX ?_
 refine cO (as:=cs) (f:=L3.D.int) (fun i δ=>∃(u:aaa) (G UY:Option D),δ=[some (.scr ns),some (dT u),some (dI ps),some X,some (dI g),some (dI cols),some (.lst (B.map dTo)),o7,G,o9,UY,none,none,none]/\Tal.Ok g cols u) ⟨t,_,_,rfl,Xn⟩ ?_ ?_
 .rintro i x δ N e ⟨u,G,UY,rfl,R⟩ hN
  obtain ⟨on,rs,csu⟩:=tD R
  rw[I,J] at on
  have lu:=on.1.1
  have a1:=emod_lt (x:=x) (n:=(n:Int)) (by omega)
  have a2:=emod_lt (x:=x / 8) (n:=(m:Int)) (by omega)
  have a3:=emod_lt (x:=x / 64) (n:=(n:Int)) (by omega)
  have a4:=emod_lt (x:=x / 512) (n:=(m:Int)) (by omega)
  have kept:∀v,Tal.Ok g cols v->∀L:DK,L (.bl true)->iu [.lst (B.map dTo),dT v] L:=fun v C L Su=>by
   obtain ⟨VF,_,_⟩:=tD C
   rw[I,J] at VF
   refine⟨B,v,n,m,rfl,VF.1,n8,m8,fun p hp=>?_,Su⟩
   obtain ⟨⟨p1,p2⟩,p3⟩:=ht p hp
   have ov:=VF.cell p1 p2
   refine⟨⟨p1,p2⟩,fun z=>?_,fun z=>?_⟩
   .rw[p3] at z
    have q:¬ cellAt v p.1 p.2.1=1:=fun y=>Hw z ⟨v,C,y⟩
    omega
   .rw[p3] at z
    have q:¬ cellAt v p.1 p.2.1=0:=fun y=>KS z ⟨v,C,y⟩
    omega
  refine lG fun R2 e2=>?_
  walk_at "go"
  rw[I,J]
  subst e2
  walk_at "go"
  refine⟨u,n,m,x % n,x / 8 % m,x / 64 % n,x / 512 % m,rfl,on.1,n1,n8,m1,m8,fun SD=>?_,fun _=>?_⟩
  .walk_at "go"
   refine⟨u,n,m,x % n,x / 8 % m,x / 64 % n,x / 512 % m,rfl,on.1,n1,n8,m1,m8,by omega,by omega,by omega,by omega,?_⟩
   have hg:Rg.goT n m u [(x % n,x / 8 % m,x / 64 % n,x / 512 % m)]=some (c5 u (x % n).toNat (x / 8 % m).toNat (x / 64 % n).toNat (x / 512 % m).toNat):=by rw[Rg.oK SD];rfl
   have kp:=Rg.uj on hg
   have C:Tal.Ok g cols (c5 u (x % n).toNat (x / 8 % m).toNat (x / 64 % n).toNat (x / 512 % m).toNat):=B2 (by rw[I,J];exact kp.on) (fun a ha=>by rw[kp.rs a,rs a ha]) fun b hb=>by rw[kp.cs b,csu b hb]
   walk_at "go"
   refine kept _ C _ ?_
   walk_at "go"
   exact hN _ ⟨_,_,_,rfl,C⟩
  .walk_at "go"
   refine kept _ R _ ?_
   walk_at "go"
   exact hN _ ⟨_,_,_,rfl,R⟩
 rintro δ ⟨u,G,UY,rfl,R⟩
 subst e1
 dsimp only
 refine lG fun R1 e1=>?_
 walk_at "go"
 refine cO (as:=B) (f:=dTo) (fun i δ=>∃(SH VJ VI:Option D),δ=[some (.scr ns),some (dT u),some (dI ps),some X,some (dI g),some (dI cols),some (.lst (B.map dTo)),o7,G,o9,UY,SH,VJ,VI]) ⟨_,_,_,rfl⟩ ?_ ?_
 .rintro i p δ N e ⟨SH,VJ,VI,rfl⟩ hN
  obtain ⟨⟨p1,p2⟩,p3⟩:=ht p (MJ e)
  obtain ⟨a,b,w⟩:=p
  dsimp only at p1 p2 p3
  have e1:dTo (a,b,w)=L3.D.tup [.int (a:Int),.int (b:Int),.str w]:=rfl
  rw[e1]
  walk_at "go"
  refine UK a b _ p1 p2 fun w' U V hw hf=>?_
  walk_at "go"
  rw[if_neg (fun z=>z (by rw[hw,p3]))]
  exact hN _ ⟨_,_,_,rfl⟩
 rintro δ ⟨SH,VJ,VI,rfl⟩
 subst e1
 dsimp only
 walk_at "go"
 exact hP
end
end Mine
set_option maxHeartbeats 16000000
namespace Mine
open PySem L2 PyProof.Rows
theorem all_mk{l:PySem.W.OpenLaw}{w:World}{K:aad}{h:Heap}{mg:Str->Option Value}{u n C:Addr}(X:K.In h)(G:h.Ns mainGlobals mg)(Ur:mg "law" = some (.ref u))
  {Y z VG J:Option Addr}{S Vt:Array (Option Value)}{U R x Z B y VH P M O F L:Value}
  {m t p r q o i j:Addr}
  (q0:∃f g,FnAt K mg "falling" nI lg f g)
  (a1:PySem.W.nsIn K mainGlobals "falling_places" = some (some (.ref n))) (l1:K.lookup n=some ⟨U,Y,.func (PySem.W.fnOf "falling_places" "falling_places" (gW bG) (dZ bG) (av bG) .none R x Z z B y),S⟩) (c1:PySem.W.codeIn K B "falling_places" = true) (k1:PySem.W.keepIn K (.ref n)=true)
  (q2:∃f g,FnAt K mg "places_below" ff eS f g)
  (q3:∃f g,FnAt K mg "less_row" jw j9 f g)
  (q4:∃f g,FnAt K mg "heads_of" l7 jM f g)
  (q5:∃f g,FnAt K mg "first_head_above" dA cE f g)
  (q6:∃f g,FnAt K mg "is_place" lY j4 f g)
  (q7:∃f g,FnAt K mg "copied_table" eJ eC f g)
  (q8:∃f g,FnAt K mg "sums_of_rows" eN eA f g)
  (q9:∃f g,FnAt K mg "sums_of_columns" d8 cR f g)
  (q10:∃f g,FnAt K mg "turned_table" fg eL f g)
  (q11:∃f g,FnAt K mg "column_of" iL iM f g)
  (q12:∃f g,FnAt K mg "table_between" fQ dC f g)
  (q13:∃f g,FnAt K mg "check_bounds" eI fm f g)
  (q14:∃f g,Bg K mg "Filling" i "Filling.__init__" gQ eh f g)
  (q15:∃f g,qR K i "outcome" "Filling.outcome" d7 cN f g)
  (q16:∃f g,qR K i "pour" "Filling.pour" eE eX f g)
  (q17:∃f g,qR K i "slack" "Filling.slack" fV dB f g)
  (q18:∃f g,Bg K mg "Reach" j "Reach.__init__" jk gu f g)
  (q19:∃f g,qR K j "way" "Reach.way" ku iH f g)
  (q20:∃f g,FnAt K mg "ways_up" lM lx f g)
  (q21:∃f g,FnAt K mg "spread" p6 mJ f g)
  (q22:∃f g,FnAt K mg "first_with_room" cV cT f g)
  (q23:∃f g,FnAt K mg "heap_of" k9 kZ f g)
  (q24:∃f g,FnAt K mg "how_many_reach" c7 dm f g)
  (q25:∃f g,FnAt K mg "ones_with" kl iN f g)
  (q26:∃f g,FnAt K mg "filled_table" gM eF f g)
  (q27:∃f g,FnAt K mg "row_of_ones" fH fG f g)
  (q28:∃f g,FnAt K mg "fate_of" nM kX f g)
  (q29:∃f g,FnAt K mg "full_table" gF gK f g)
  (q30:∃f g,FnAt K mg "turned_cell" iD fJ f g)
  (q31:∃f g,FnAt K mg "can_swap" lT jS f g)
  (q32:∃f g,FnAt K mg "swap_made" kD iI f g)
  (q33:∃f g,FnAt K mg "swaps_between" fR dF f g)
  (q34:∃f g,FnAt K mg "table_behind" gz fh f g)
  (q35:∃f g,FnAt K mg "ring_between" gv eU f g)
  (q36:∃f g,FnAt K mg "first_unlike" eW eR f g)
  (q37:∃f g,FnAt K mg "ring_swaps" jh gT f g)
  (q38:∃f g,FnAt K mg "_law_deck" mf jC f g)
  (q39:∃f g,FnAt K mg "_law_shape" kq iE f g)
  (q40:∃f g,FnAt K mg "_law_ones" fZ jL f g)
  (q41:∃f g,FnAt K mg "_law_sums" iw jU f g)
  (q42:∃f g,FnAt K mg "_law_can" nD lA f g)
  (q43:∃f g,FnAt K mg "_law_swapped" fM fK f g)
  (q44:∃f g,FnAt K mg "_law_walked" dw gO f g)
  (q45:∃f g,FnAt K mg "_law_kept" lX jA f g)
  (q46:∃f g,FnAt K mg "_law_drawn" eB iG f g)
  (a47:PySem.W.nsIn K mainGlobals "law" = some (some (.ref C))) (l47:K.lookup C=some ⟨VH,VG,.func (PySem.W.fnOf "law" "law" (gW mH) (dZ mH) (av mH) .none P M O J F L),Vt⟩) (c47:PySem.W.codeIn K F "law" = true) (k47:PySem.W.keepIn K (.ref C)=true)
  (e_MixError:PySem.W.nsIn K mainGlobals "MixError" = some (some (.ref m)))
  (e_NotAlike:PySem.W.nsIn K mainGlobals "NotAlike" = some (some (.ref t)))
  (e_NoSwap:PySem.W.nsIn K mainGlobals "NoSwap" = some (some (.ref p)))
  (e_NoBounds:PySem.W.nsIn K mainGlobals "NoBounds" = some (some (.ref r)))
  (e_NoPlace:PySem.W.nsIn K mainGlobals "NoPlace" = some (some (.ref q)))
  (e_NoSums:PySem.W.nsIn K mainGlobals "NoSums" = some (some (.ref o)))
  (e_Filling:PySem.W.nsIn K mainGlobals "Filling" = some (some (.ref i)))
  (e_Reach:PySem.W.nsIn K mainGlobals "Reach" = some (some (.ref j)))
  (i_Filling:Hj K i)
  (na_Filling_low:PySem.W.findIn K (.ref i) "low" = some none)
  (na_Filling_high:PySem.W.findIn K (.ref i) "high" = some none)
  (na_Filling_table:PySem.W.findIn K (.ref i) "table" = some none)
  (na_Filling_wants:PySem.W.findIn K (.ref i) "wants" = some none)
  (na_Filling_rooms:PySem.W.findIn K (.ref i) "rooms" = some none)
  (i_Reach:Hj K j)
  (na_Reach_rows:PySem.W.findIn K (.ref j) "rows" = some none)
  (na_Reach_columns:PySem.W.findIn K (.ref j) "columns" = some none)
  (na_Reach_goal:PySem.W.findIn K (.ref j) "goal" = some none)
  (x_MixError:∀base,K.In base->gi base m [])
  (x_NoBounds:L3.XC K r m)
  (x_NoPlace:L3.XC K q m)
  (x_NoSums:L3.XC K o m)
  (x_NoSwap:L3.XC K p m)
  (x_NotAlike:L3.XC K t m)
  {E:Addr} (hcf:B=.ref E) (hch:PySem.W.codeHdIn K E L3.vq=true)
  (z_len:PySem.W.nsIn K mainGlobals "len" = some none) (z_isinstance:PySem.W.nsIn K mainGlobals "isinstance" = some none) (z_int:PySem.W.nsIn K mainGlobals "int" = some none) (z_bool:PySem.W.nsIn K mainGlobals "bool" = some none) (z_list:PySem.W.nsIn K mainGlobals "list" = some none) (z_range:PySem.W.nsIn K mainGlobals "range" = some none) (z_min:PySem.W.nsIn K mainGlobals "min" = some none) (z_max:PySem.W.nsIn K mainGlobals "max" = some none) (z_sum:PySem.W.nsIn K mainGlobals "sum" = some none) (z_sorted:PySem.W.nsIn K mainGlobals "sorted" = some none) (z_tuple:PySem.W.nsIn K mainGlobals "tuple" = some none) (z_zip:PySem.W.nsIn K mainGlobals "zip" = some none) (z_any:PySem.W.nsIn K mainGlobals "any" = some none) (z_str:PySem.W.nsIn K mainGlobals "str" = some none) (z_ValueError:PySem.W.nsIn K mainGlobals "ValueError" = some none) (z_reversed:PySem.W.nsIn K mainGlobals "reversed" = some none) (z_enumerate:PySem.W.nsIn K mainGlobals "enumerate" = some none) :
  ∃g:FuncData,(∀(s:Shared) (v:Value),BindsTo s g ⟨[v],[]⟩ [("_law_script",v)])/\∀base:Heap,K.In base->base.Ns mainGlobals mg->L3.BMd base mg->bE l.prog w K mg base CX0 8 u g uU (L3.spP K rP):=by
 have e:=Ur.symm.trans (MY X G a47)
 cases e
 have T:∀base:Heap,L3.BMd base mg->Txt K mg base:=fun base S9=>⟨MC X G z_len,MC X G z_isinstance,MC X G z_int,MC X G z_bool,MC X G z_list,MC X G z_range,MC X G z_min,MC X G z_max,MC X G z_sum,MC X G z_sorted,MC X G z_tuple,MC X G z_zip,MC X G z_any,MC X G z_str,MC X G z_ValueError,MC X G z_reversed,MC X G z_enumerate,⟨n,_,E,MY X G a1,⟨_,_,_,l1⟩,hcf,hch,S9⟩⟩
 have Q:=mI (st:=bG) l1 c1 k1
 have E1:FnAt K mg "falling_places" bG cA n _:=⟨Q,MY X G a1,Q.binds (ps:=cA) fun _ _ _ _ _ _ us hl=>match us,hl with|[_],_=>rfl⟩
 have I:=mI (st:=mH) l47 c47 k47
 have H:FnAt K mg "law" mH uU u _:=⟨I,MY X G a47,I.binds (ps:=uU) fun _ _ _ _ _ _ us hl=>match us,hl with|[_],_=>rfl⟩
 have A_:Fns K mg ⟨m,t,p,r,q,o,i,j⟩:=⟨q0,⟨_,_,E1⟩,q2,q3,q4,q5,q6,q7,q8,q9,q10,q11,q12,q13,q14,q15,q16,q17,q18,q19,q20,q21,q22,q23,q24,q25,q26,q27,q28,q29,q30,q31,q32,q33,q34,q35,q36,q37,q38,q39,q40,q41,q42,q43,q44,q45,q46,⟨_,_,H⟩⟩
 exact⟨PySem.W.fnOf "law" "law" (gW mH) (dZ mH) (av mH) .none P M O J F L,fun s v=>.of_eq rfl,fun base hb _ Sf=>JO H A_ (T base Sf) (c:=⟨m,t,p,r,q,o,i,j⟩) ⟨MY X G e_MixError,MY X G e_NotAlike,MY X G e_NoSwap,MY X G e_NoBounds,MY X G e_NoPlace,MY X G e_NoSums,MY X G e_Filling,MY X G e_Reach,i_Filling,na_Filling_low,na_Filling_high,na_Filling_table,na_Filling_wants,na_Filling_rooms,i_Reach,na_Reach_rows,na_Reach_columns,na_Reach_goal,x_MixError base hb,x_NoBounds.obj base hb,x_NoBounds.exk,x_NoPlace.obj base hb,x_NoPlace.exk,x_NoSums.obj base hb,x_NoSums.exk,x_NoSwap.obj base hb,x_NoSwap.exk,x_NotAlike.obj base hb,x_NotAlike.exk⟩⟩
theorem walk{l:PySem.W.OpenLaw}{q:Program}{C:List Str}{t:(Str->Option Value)->Heap->Prop}{c:World->Heap->Prop}{d:DefRec}{K:Params->aad}(hn:l.most=some 63)(y:d.params.defaults=[])
  (m:∀(w:World) (h:Heap),c w h->(K w.params).In h) (o:∀(w:World) (h:Heap),c w h->h.get? L3.vq=some (PySem.W.tabObj #[])) (B:∀w:World,(K w.params).lookup L3.vq=none) {c_:Addr} (E:∀w:World,PySem.W.codeHdIn (K w.params) c_ L3.vq=true)
  (F:∀(w:World) (mg:Str->Option Value) (j:Addr) (h:Heap),(K w.params).In h->h.Ns mainGlobals mg->mg d.name=some (.ref j) ->
   ∃i:FuncData,(∀(s:Shared) (u:Value),BindsTo s i ⟨[u],[]⟩ [("_law_script",u)])/\∀base:Heap,(K w.params).In base->base.Ns mainGlobals mg->L3.BMd base mg->bE l.prog w (K w.params) mg base CX0 8 j i ["_law_script"] (L3.spP (K w.params) rP)) :
  PySem.W.WalkO q C t c l.row.toRowW d [] (fun f vs=>PySem.call f vs) :=
 L3.G0 (n:=63) (k:=8) (x:="_law_script") (CX:=fun _=>CX0) (sp:=fun w=>L3.spP (K w.params) rP) hn (by decide) y ⟨rfl,by decide,by decide⟩ m o B E F (fun w H a ns hl g p=>⟨[.scr ns],⟨[],_,_,[],[],rfl,rfl,⟨a,rfl,L3.Kl g p,rfl⟩,rfl,rfl⟩,g.tab,GC hl (fun v H' fp s r n=>r.1)⟩) fun _ _ _ _ _ z=>z
end Mine
open PySem PySem.W PyProof.Rows
local macro_rules | `(tactic| walk_at "b") => `(tactic| (intro _ _ _ _ _ _ us hl; rcases us with _ | ⟨_,_ | ⟨_,_ | ⟨_,_ | ⟨_,_ | ⟨_,_ | ⟨_,_ | ⟨_,_⟩⟩⟩⟩⟩⟩⟩ <;> first | exact rfl | exact (nomatch hl)))
local macro_rules | `(tactic| walk_at "f") => `(tactic| (refine' L3.fnA (by assumption) (by assumption) ?a ?l ?c ?k (by walk_at "b"); (case a => k_is); (case l => k_is); (case c => k_is); (case k => k_is)))
local macro_rules | `(tactic| walk_at "m") => `(tactic| (refine' L3.mtA ?a ?i ?l ?c ?k (by walk_at "b"); (case a => k_is); (case i => k_is); (case l => k_is); (case c => k_is); (case k => k_is)))
local macro_rules | `(tactic| walk_at "i") => `(tactic| (refine' L3.mkA (by assumption) (by assumption) ?e ?m ?a ?i ?d ?l ?c ?k (by walk_at "b"); (case e => k_is); (case m => k_is); (case a => k_is); (case i => k_is); (case d => k_is); (case l => k_is); (case c => k_is); (case k => k_is)))
local macro_rules | `(tactic| walk_at "c") => `(tactic| exact ⟨⟨by k_is,by k_is,by k_is,by k_is⟩,by k_is,by k_is,by k_is,by k_is⟩)
local macro_rules | `(tactic| walk_at "y") => `(tactic| (refine' L3.xoA ?a ?b; (case a => k_is); (case b => k_exc)))
local macro_rules | `(tactic| walk_at "x") => `(tactic| (refine' L3.xcA ?a ?b ?c ?d ?e ?f ?g; (case a => k_is); (case b => k_exc); (case c => k_is); (case d => k_is); (case e => k_is); (case f => k_is); (case g => k_is)))
namespace PySem.W.Fast
def tw4795991291106141645:=0
def tw7000878108700138741:=0
def tw3338956087545723975:=0
def tw209310184003182256:=0
def tw1266655459329547153:=0
def tw15749132457072517583:=0
def tw1491860662079340294:=0
def tw16405892240983159955:=0
def tw1154617851833039407:=0
def tw6211983880703933232:=0
def tw9740266148175126288:=0
def tw15750057133864482491:=0
def tw5566739788331971985:=0
def tw16450218569704295847:=0
def tw5304993263474710890:=0
def tw6557649647831090897:=0
def tw3257498750426476720:=0
def tw3801326476675765590:=0
def tw16540739499967286312:=0
def tw7292075848396698850:=0
def tw10508663808245195339:=0
def tw1020709777336372512:=0
def tw13687922684384832949:=0
def tw17912409968967598825:=0
def tw6858962522401943369:=0
def tw10696884649685063815:=0
def tw17837536154346268290:=0
def tw6139995776295321796:=0
def tw10043263174053957175:=0
def tw13934058007309564658:=0
def tw4654632235493859563:=0
def tw15204159380510946591:=0
def tw15178270116642172966:=0
def tw492908983373650485:=0
def tw14787798935392111557:=0
def tw5740338261141952727:=0
def tw10697283402864852516:=0
def tw3267209236774063676:=0
def tw1851188598268356171:=0
def tw4475506193526941558:=0
def tw858650346820149229:=0
def tw12966921731075221457:=0
def tw9200742081359056460:=0
def tw5450131632239560810:=0
def tw3065861804991866450:=0
def tw6447300823603570798:=0
def tw4334059584542050402:=0
def tw6798482850351511421:=0
def tw11294939008160346813:=0
def tw5706829095444704780:=0
def tw17565730679473341943:=0
def tw16894756279356920647:=0
def tw16954190794885990120:=0
def tw7755379057641875988:=0
def tw14705449644444118763:=0
def tw1184413767864422133:=0
def tw3456667245284931586:=0
def tw10772166775180913804:=0
def tw12114847158799522661:=0
def tw12550504526976390850:=0
def tw13985004448513764642:=0
def tw3549056561098423470:=0
def tw1698700165614870236:=0
def tw11143562757768942752:=0
def tw5414167896432224502:=0
def tw13172359324520330993:=0
def tw11203459339237183136:=0
def tw14899915155521218490:=0
def tw7010096775945309593:=0
def tw9618942666169105847:=0
def tw14637303290625921540:=0
def tw17147482413770346554:=0
def tw1405407276831797670:=0
def tw12282473869429646559:=0
def tw11154200230260235827:=0
def tw17842047248003047801:=0
def tw9246470348162758355:=0
def tw10244439972587960754:=0
def tw16138933521428137231:=0
def tw7468702438417104183:=0
def tw6685126349429215686:=0
def tw14903069194386474308:=0
def tw7614449278868666118:=0
def tw4550953528626771339:=0
def tw8160462920887161568:=0
def tw12419272053534735506:=0
def tw11224927763837989713:=0
def tw2324152265143441117:=0
def tw10873938259155019108:=0
def tw9895399408171615846:=0
def tw12710226069094554362:=0
def tw9206773839634110987:=0
def tw7188626421085859166:=0
def tw507893273156702280:=0
def tw11181411332094433811:=0
def tw9514801152791974383:=0
def tw6976248173297923489:=0
def tw10211813013309474346:=0
def tw10715827281986010250:=0
def tw13802358298850453777:=0
def tw586251759138699297:=0
def tw17813581235226006170:=0
def tw1569100809138259798:=0
def tw3549866960784735316:=0
def tw10720859633960928034:=0
def tw1228917981035421177:=0
def tw11697116460053534052:=0
def tw2455955918006080944:=0
def tw127884251393779006:=0
def tw9872170533176824041:=0
def tw14643688387428510465:=0
def tw13126584941375216213:=0
def tw5363951274085805611:=0
def tw11132787563511036459:=0
def tw14304634018170172442:=0
def tw3498555363229131113:=0
def tw9051641289600942446:=0
def tw15804916823538336002:=0
def tw6769258449420720685:=0
def tw12986840179652125525:=0
def tw17090509829644497575:=0
def tw10437469265448385114:=0
def tw4605726970301172972:=0
def tw9386848381964713362:=0
def tw7978951082141670153:=0
def tw18015696815881483723:=0
def tw13321569838429580625:=0
def tw5834406370663847309:=0
def tw13061898109467399861:=0
def tw16356071125233398308:=0
def tw13096716314400903575:=0
def tw7161426754510232792:=0
def tw10031787159702015640:=0
def tw10698845173829337957:=0
def tw12707880105326579372:=0
def tw25829270332727363:=0
def tw7767413875469549922:=0
def tw3237230513869651624:=0
def tw17144488267543777745:=0
def tw1120063718136543183:=0
def tw17092312019328918192:=0
def tw17428272416390930248:=0
def tw8603195276700340812:=0
def tw18301118204945202728:=0
def tw11945877778180646495:=0
def tw2978680292932300937:=0
def tw2273584818073524173:=0
def tw7723539018166136812:=0
def tw7980417493241538906:=0
def tw11742407704920026928:=0
def tw9269100146223458473:=0
def tw3490989108431255755:=0
def tw3344821994457275647:=0
def tw1630158284235330383:=0
def tw1747098889115490927:=0
def tw1158197255451574904:=0
def tw17270261782014799772:=0
def tw1746452695308997461:=0
def tw2988074878761821277:=0
def tw12499826605780793629:=0
def tw6180437140030685544:=0
def tw16364641459489656867:=0
def tw10130058155826881732:=0
def tw11025896998110656077:=0
def tw14379891677236184332:=0
def tw2230072337872313001:=0
def tw3983826647443652762:=0
def tw14257820217321909823:=0
def tw13384151384430391197:=0
def tw16986979140612284215:=0
def tw2815749500370648694:=0
def tw12960401174868844208:=0
def tw12415327890672934174:=0
def tw12513501199594307954:=0
def tw5359915883873832606:=0
def tw8463736068289878448:=0
def tw6303229036408424136:=0
def tw5219850246430527159:=0
def tw6052733100936777426:=0
def tw11107679813854668506:=0
def tw13239057584218463235:=0
def tw586104901844031189:=0
def tw9072449645231504543:=0
def tw10902969095966780090:=0
def tw13792695939455417756:=0
def tw15945972632949629409:=0
def tw14101579712987928526:=0
def tw16093290989788813052:=0
def tw16568286253661288663:=0
def tw2566795471777143259:=0
def tw5348170595447734850:=0
def tw7482993288818647766:=0
def tw16107315388989278532:=0
def tw4472750422441898146:=0
def tw10749855476541592879:=0
def tw11154442356675908405:=0
def tw11851742897991408568:=0
def tw12841365639486965794:=0
def tw5264981498261468124:=0
def tw10102058472909502095:=0
def tw5807145733697015293:=0
def tw9218753960656640970:=0
def tw7135140702767881055:=0
def tw8755494322743497920:=0
def tw9142267295978333244:=0
def tw10898309681370328006:=0
def tw11408955769161438923:=0
def tw7244451819398855182:=0
def tw5887984577270850082:=0
def tw12739967906735619310:=0
def tw3664172381378121019:=0
def tw8410081155231409826:=0
def tw7039117467327906961:=0
def tw9933837172650758040:=0
def tw4438844706546579471:=0
def tw11002705939195866493:=0
def tw5837471883142445247:=0
def tw9569837152802940933:=0
def tw12420779298057998191:=0
def tw4110179984434879742:=0
def tw8905877845780935538:=0
def tw7971954295448471582:=0
def tw7000796369506015830:=0
def tw10782948882823006271:=0
def tw13487900001153057548:=0
def tw7761859228050971409:=0
def tw9291971217243562740:=0
def tw154776530941605759:=0
def tw6731421139084209852:=0
def tw12527888464599851955:=0
def tw9840559543385789248:=0
def tw10376676731303491178:=0
def tw13905560036541993094:=0
def tw6983103230629995235:=0
def tw11637931160636897455:=0
def tw8106970588655604247:=0
def tw13611917535448532842:=0
def tw9909680624352411005:=0
def tw1528677658621737593:=0
def tw10485855227904735544:=0
def tw1486710005384242737:=0
def tw13567861524747306655:=0
def tw9857734985999848222:=0
def tw4570655423398473099:=0
def tw7139654067745083353:=0
def tw14672299974441968921:=0
def tw18104090791209165518:=0
def tw17854781900403273957:=0
def tw15017102454387300576:=0
def tw16733911345641203582:=0
def tw4750191985902323870:=0
def tw11668659119995309925:=0
def tw4617290732352731948:=0
def tw4080874545952832023:=0
def tw4563318204249729006:=0
def tw205368439276457729:=0
def tw7506993281202033430:=0
def tw7936032260585552373:=0
def tw3558324357780269249:=0
def tw10295423901984265901:=0
def tw328605066799408149:=0
def tw13405425157029734261:=0
def tw12069929237351062134:=0
def tw2765889394844314039:=0
def tw4180357367106780409:=0
def tw6946446759487071052:=0
def tw773721089138511988:=0
def tw18215743860063042602:=0
def tw11591139758311355714:=0
def tw15431596642992393604:=0
def tw8257894360679837993:=0
def tw15873115504746644461:=0
def tw8324862209800391783:=0
def tw4455379308834198543:=0
def tw16762971062636924906:=0
def tw15357056731217358194:=0
def tw11532456128182560189:=0
def tw154542035195360044:=0
def tw8401229437500164531:=0
def tw6585471580404117079:=0
def tw10352702865668871659:=0
def tw18051275205658345942:=0
def tw10219161914933518149:=0
def tw1450523806025065295:=0
def tw12760264928246163175:=0
def tw6622726036874005070:=0
def tw9141997558621615013:=0
def tw9638296385998162539:=0
def tw124823688670680292:=0
def tw1136285325131561516:=0
def tw14322790550834936614:=0
def tw726631101122915989:=0
def tw15299526103428922732:=0
def tw12289997428676407846:=0
def tw2526688809473938275:=0
def tw3286886586861104355:=0
def tw3804636690457159205:=0
def tw4689903307232372364:=0
def tw12065541732721065825:=0
def tw12547862597675971853:=0
def tw5077204708440164412:=0
def tw10743517833961062470:=0
def tw7963610482901488183:=0
def tw11781044271833179303:=0
def tw12348705095145686867:=0
def tw17651088305831124846:=0
def tw15422822803038542395:=0
def tw4367160377301149740:=0
def tw16520041632591062692:=0
def tw3304131189210879948:=0
def tw7845299055150568423:=0
def tw16828371135863349582:=0
def tw14606722996200492997:=0
def tw7199095994511795385:=0
def tw13993712116818324000:=0
def tw9528657141992201433:=0
def tw14434279053536496640:=0
def tw14728175684298935332:=0
def tw14225216800993563934:=0
def tw11802161702301198450:=0
def tw14902660668370591857:=0
def tw15148333576210751511:=0
def tw13962373144522695090:=0
def tw8368495090355490473:=0
def tw1095780551835283636:=0
def tw4991622608847500935:=0
def tw6487637643988509200:=0
def tw12729921446057950069:=0
def tw14332986510552863307:=0
def tw3704822501337866260:=0
def tw773857611719881488:=0
def tw16136605826703114085:=0
def tw8124055179350990097:=0
def tw9612337131303513919:=0
def tw1149020997377542230:=0
def tw16697999199555598146:=0
def tw16406744155934834087:=0
def tw14899188404680867637:=0
def tw11627259201276467111:=0
def tw12475914445220082034:=0
def tw560306735061184315:=0
def tw13311362768338948097:=0
def tw11616889072925987209:=0
def tw10010495885655260438:=0
def tw12239315468325356393:=0
def tw7466778597269520899:=0
def tw3773749171549283831:=0
def tw9718164395369870891:=0
def tw14724520628668124116:=0
def tw8077938421341479815:=0
def tw10782078540718454353:=0
def tw11784503435714859369:=0
def tw6391651703471617782:=0
def tw6349197690421809655:=0
def tw2310363930789373537:=0
def tw3511966201956132207:=0
def tw10424532109678012023:=0
def tw4988784679453796075:=0
def tw6760615464698575495:=0
def tw7124392670148655147:=0
def tw17724077737174850943:=0
def tw15161567382938142038:=0
def tw3658069145913143505:=0
def tw11929573869761345908:=0
def tw8763211318755964046:=0
def tw10264840192269641239:=0
def tw17672915412495429505:=0
def tw10679890329711271560:=0
def tw766690341631187214:=0
def tw10254512815682462496:=0
def tw9951836769503123282:=0
def tw6350486701336297537:=0
def tw6823265616624690958:=0
def tw13616004960275673129:=0
def tw7998264101335830239:=0
def tw6723938812331726904:=0
def tw4203729720576390527:=0
def tw4588888680053260375:=0
def tw4797270219796395934:=0
def tw16514400935947262002:=0
def tw3431799743090022174:=0
def tw10024964819676923707:=0
def tw7936017883269189798:=0
def tw9360777421339574461:=0
def tw3521119982439249611:=0
def tw18288371531061784511:=0
def tw17355867404157937546:=0
def tw9894471624740968531:=0
def tw18274568859829109015:=0
def tw11087595769326043505:=0
def tw9044476743548447674:=0
def tw8603591862866749425:=0
def tw17578124947686177234:=0
def tw5097381182653873591:=0
def tw3944223424399453374:=0
def tw15058554604381984673:=0
def tw5521783669018360281:=0
def tw1861389351267011451:=0
def tw2781039839133294388:=0
end PySem.W.Fast
set_option maxRecDepth 100000 in
set_option maxHeartbeats 0 in
theorem PySem.Challenge.cw_evenmix_k45_whole_fates_and_swaps_holds : PySem.Challenge.rw_evenmix_k45_whole_fates_and_swaps.Holds := by
 w_on;o_law;k_head;(case hw=>w_witness2)
 k_fill
 refine Mine.walk (l:=PySem.Challenge.rw_evenmix_k45_whole_fates_and_swaps) rfl rfl (fun w h Y=>PySem.W.km_in_of Y) (fun w h Y=>PySem.W.km_tabs_of Y L3.vq (by decide)) (fun w=>by first|exact rfl|kernel_rfl) (c_:=100) (fun w=>by first|exact rfl|kernel_rfl) ?F
 case F =>
  intro w mg fa h KX G Sa
  refine' Mine.all_mk KX G Sa ?q0 ?a1 ?l1 ?c1 ?k1 ?q2 ?q3 ?q4 ?q5 ?q6 ?q7 ?q8 ?q9 ?q10 ?q11 ?q12 ?q13 ?q14 ?q15 ?q16 ?q17 ?q18 ?q19 ?q20 ?q21 ?q22 ?q23 ?q24 ?q25 ?q26 ?q27 ?q28 ?q29 ?q30 ?q31 ?q32 ?q33 ?q34 ?q35 ?q36 ?q37 ?q38 ?q39 ?q40 ?q41 ?q42 ?q43 ?q44 ?q45 ?q46 ?a47 ?l47 ?c47 ?k47 ?e_MixError ?e_NotAlike ?e_NoSwap ?e_NoBounds ?e_NoPlace ?e_NoSums ?e_Filling ?e_Reach ?i_Filling ?na_Filling_low ?na_Filling_high ?na_Filling_table ?na_Filling_wants ?na_Filling_rooms ?i_Reach ?na_Reach_rows ?na_Reach_columns ?na_Reach_goal ?x_MixError ?x_NoBounds ?x_NoPlace ?x_NoSums ?x_NoSwap ?x_NotAlike ?hcf ?hch ?z_len ?z_isinstance ?z_int ?z_bool ?z_list ?z_range ?z_min ?z_max ?z_sum ?z_sorted ?z_tuple ?z_zip ?z_any ?z_str ?z_ValueError ?z_reversed ?z_enumerate
  (case e_MixError=>k_is)
  (case e_NotAlike=>k_is)
  (case e_NoSwap=>k_is)
  (case e_NoBounds=>k_is)
  (case e_NoPlace=>k_is)
  (case e_NoSums=>k_is)
  (case e_Filling=>k_is)
  (case e_Reach=>k_is)
  (case q0=>walk_at "f")
  (case a1=>k_is)
  (case l1=>k_is)
  (case c1=>k_is)
  (case k1=>k_is)
  (case q2=>walk_at "f")
  (case q3=>walk_at "f")
  (case q4=>walk_at "f")
  (case q5=>walk_at "f")
  (case q6=>walk_at "f")
  (case q7=>walk_at "f")
  (case q8=>walk_at "f")
  (case q9=>walk_at "f")
  (case q10=>walk_at "f")
  (case q11=>walk_at "f")
  (case q12=>walk_at "f")
  (case q13=>walk_at "f")
  (case q14=>walk_at "i")
  (case q15=>walk_at "m")
  (case q16=>walk_at "m")
  (case q17=>walk_at "m")
  (case q18=>walk_at "i")
  (case q19=>walk_at "m")
  (case q20=>walk_at "f")
  (case q21=>walk_at "f")
  (case q22=>walk_at "f")
  (case q23=>walk_at "f")
  (case q24=>walk_at "f")
  (case q25=>walk_at "f")
  (case q26=>walk_at "f")
  (case q27=>walk_at "f")
  (case q28=>walk_at "f")
  (case q29=>walk_at "f")
  (case q30=>walk_at "f")
  (case q31=>walk_at "f")
  (case q32=>walk_at "f")
  (case q33=>walk_at "f")
  (case q34=>walk_at "f")
  (case q35=>walk_at "f")
  (case q36=>walk_at "f")
  (case q37=>walk_at "f")
  (case q38=>walk_at "f")
  (case q39=>walk_at "f")
  (case q40=>walk_at "f")
  (case q41=>walk_at "f")
  (case q42=>walk_at "f")
  (case q43=>walk_at "f")
  (case q44=>walk_at "f")
  (case q45=>walk_at "f")
  (case q46=>walk_at "f")
  (case a47=>k_is)
  (case l47=>k_is)
  (case c47=>k_is)
  (case k47=>k_is)
  (case i_Filling=>walk_at "c")
  (case na_Filling_low=>k_is)
  (case na_Filling_high=>k_is)
  (case na_Filling_table=>k_is)
  (case na_Filling_wants=>k_is)
  (case na_Filling_rooms=>k_is)
  (case i_Reach=>walk_at "c")
  (case na_Reach_rows=>k_is)
  (case na_Reach_columns=>k_is)
  (case na_Reach_goal=>k_is)
  (case x_MixError=>walk_at "y")
  (case x_NoBounds=>walk_at "x")
  (case x_NoPlace=>walk_at "x")
  (case x_NoSums=>walk_at "x")
  (case x_NoSwap=>walk_at "x")
  (case x_NotAlike=>walk_at "x")
  (case hcf=>exact rfl)
  (case hch=>first|exact rfl|k_is)
  (case z_len=>k_is)
  (case z_isinstance=>k_is)
  (case z_int=>k_is)
  (case z_bool=>k_is)
  (case z_list=>k_is)
  (case z_range=>k_is)
  (case z_min=>k_is)
  (case z_max=>k_is)
  (case z_sum=>k_is)
  (case z_sorted=>k_is)
  (case z_tuple=>k_is)
  (case z_zip=>k_is)
  (case z_any=>k_is)
  (case z_str=>k_is)
  (case z_ValueError=>k_is)
  (case z_reversed=>k_is)
  (case z_enumerate=>k_is)
