import PyProof.Rows.All
import Wide.All
import OpenK.AllK
import Wide.FinOn
import Lean
import PyProof.EqAt
import PyProof.EqKinds
import PyProof.TupleCall
import PyProof.DictRoadsH
import PyProof.TupleKey
import PyProof.NeKinds
import PyProof.ZipIter
import KE.KRevIter
import PyProof.ListRange
import KE.LcSums
import PyProof.Rows.MinMaxN
import KE.KTryDeep
import PyProof.ExcArgsOwn
import PyProof.ExcAttrAll.ValueError
import KE.KSortKey
import KE.KLam
import KE.KNestM
import KE.KIntText
import PyProof.JoinWalk
import PyProof.StrCalls
import KE.KDictSum
import PyProof.EnumMake
import PyProof.EnumStmt
import PyProof.EnumFor
import KE.KIsAll
import KE.RegKIsAll
import PySem.Challenge.RW_evenmix_k44_fates
set_option bootstrap.genMatcherCode false
set_option genSizeOf false
set_option compiler.extract_closed false
abbrev aab:=List Int
abbrev aaa:=List aab
abbrev aac:=List Nat
abbrev aad:=PySem.W.Frag
abbrev dz := @List.getElem?_eq_getElem
abbrev gV := @List.getD_eq_getElem?_getD
abbrev mo := @List.length_map
abbrev ox := @List.mem_cons_of_mem
abbrev Fk := @List.mem_cons_self
abbrev Gc := @List.mem_singleton
abbrev KE := @List.getElem?_set_ne
abbrev L9 := @List.mem_append_right
abbrev Ma := @List.getElem?_eq_some_iff
abbrev Mb := @List.mem_cons
abbrev Mc := @List.getElem?_map
abbrev Md := @Int.toNat_natCast
abbrev Me := @List.length_cons
abbrev Mf := @List.mem_append
abbrev Mg := @List.mem_append_left
abbrev Mh := @List.mem_map
abbrev Mi := @List.length_range
abbrev Mj := @List.getElem?_set_self
abbrev Ml := @List.map_cons
abbrev Mm := @Nat.le_refl
abbrev Mn := @List.nodup_cons
abbrev Mo := @Nat.lt_of_lt_of_le
abbrev Mp := @List.getElem?_append_left
abbrev Mq := @List.mem_range
abbrev Mr := @List.not_mem_nil
abbrev Ms := @List.nodup_append
abbrev Mt := @List.length_append
abbrev Mv := @List.length_set
abbrev Mw := @List.length_replicate
abbrev Mx := @List.size_toArray
abbrev Mz := @Bool.false_ne_true
abbrev MA := @Nat.ne_of_lt
abbrev MB := @List.map_map
abbrev MC := @List.map_append
abbrev MD := @List.getElem?_append_right
abbrev ME := @Nat.le_trans
abbrev MF := @List.sum_cons
abbrev MG := @PySem.F.plainAttrs_list
abbrev MH := @Option.some.inj
abbrev MI := @Ne.symm
abbrev MJ := @List.getElem_mem
abbrev ML := @List.append_nil
abbrev MM := @PySem.W.mg_of
abbrev MN := @PySem.W.mg_none_of
abbrev MP := @List.mem_of_getElem?
abbrev MQ := @List.getElem?_replicate
abbrev MR := @PySem.mem_of_lookup
abbrev MS := @List.getElem?_range
abbrev MT := @List.length_take
abbrev MU := @List.getElem?_set
abbrev MV := @PySem.W.hideAll_none
abbrev MW := @PySem.F.type_list_append
abbrev MX := @PySem.F.slot_list_append
abbrev MY := @Bool.false_eq_true
abbrev MZ := @Array.length_toList
abbrev M0 := @List.append_assoc
abbrev M1 := @Int.zero_add
abbrev M2 := @PySem.W.kia_one
abbrev M3 := @Option.getD_some
abbrev M4 := @List.all_eq_true
abbrev M5 := @List.drop_eq_getElem_cons
abbrev M7 := @List.mem_filter
abbrev M8 := @Iff.rfl
abbrev Na := @PyProof.Rows.callWith_type1
abbrev Nb := @List.nodup_nil
abbrev Nd := @Nat.lt_irrefl
abbrev Ng := @Bool.and_eq_true
abbrev Ni := @List.mem_or_eq_of_mem_set
abbrev Nj := @List.replicate_succ
abbrev Nk := @List.length_drop
abbrev Nl := @List.take_of_length_le
abbrev Nr := @List.mem_filterMap
abbrev Nu := @Nat.le_succ
abbrev Nv := @List.getLast?_cons_cons
abbrev Nx := @PySem.W.funFrames_hide
abbrev NA := @PySem.W.of_hideAll
abbrev NB := @List.take_append_drop
abbrev ND := @Bool.eq_iff_iff
abbrev NI := @List.getElem_map
abbrev NJ := @List.ext_getElem
abbrev NL := @Nat.zero_le
abbrev NM := @PySem.W.callWith_K
abbrev NN := @Nat.le_of_lt
abbrev NO := @List.map_set
abbrev NP := @List.map_nil
abbrev NQ := @List.getElem_range
abbrev NS := @Nat.min_eq_left
abbrev NW := @Bool.not_true
abbrev N3 := @List.mem_of_mem_take
abbrev N8 := @List.lookup_cons
abbrev N9 := @List.drop_length
abbrev Ob := @PySem.W.hideAll_get
abbrev Oc := @List.getElem_of_mem
abbrev Od := @Int.toNat_of_nonneg
abbrev Oi := @List.length_nil
abbrev Oj := @List.find?_cons
abbrev Om := @List.zip_cons_cons
abbrev Oo := @List.set_cons_succ
abbrev OH := @Int.le_refl
abbrev OL := @List.set_set
abbrev OM := @List.flatten_cons
abbrev ON := @List.filter_eq_nil_iff
abbrev OO := @List.drop_zero
abbrev OP := @List.Pairwise.map
abbrev OU := @PyProof.Rows.slot_tuple_getitem
abbrev OY := @Nat.not_lt
abbrev OZ := @Nat.lt_succ_self
abbrev O0 := @List.take_length
abbrev Pm := @List.take_succ_cons
abbrev Pn := @List.map_congr_left
abbrev Po := @List.filterMap_cons
abbrev Pp := @List.all_map
abbrev Pw := @PySem.F.excBase_ValueError
abbrev Px := @List.set_cons_zero
abbrev Py := @List.pairwise_cons
abbrev Pz := @List.map_replicate
set_option linter.all false
set_option maxRecDepth 100000
namespace L2
open PySem
abbrev qb:=Int × aab
section
variable {prog:Program}{w:World}
abbrev inner(prog:Program)(w:World):=PySem.intKind prog w
def gL(h:Heap)(k:qb)(a:Addr):Prop :=
 ∃o n t b,h.get? a=some o/\o.cls=.type "tuple"/\o.data=.seq #[.int k.1 t,.ref b] n/\IsTupleKey (inner prog w) h k.2 b
def sO(prog:Program)(w:World)(k:qb):Int:=reduceHash (Builtin.Tuple.tupleHashOf [hashInt k.1,tupleKeyHash (inner prog w) k.2])
def gL.ty{s:Shared}{k:qb}{a:Addr}(x:gL (prog:=prog) (w:=w) s.heap k a):s.TypeIs (.ref a) "tuple":=by
 obtain ⟨o,n,t,b,e,c,_⟩:=x
 exact⟨o,e,c⟩
def gL.uniq{h:Heap}{a:Addr}{x y:qb}(m:gL (prog:=prog) (w:=w) h x a)(l:gL (prog:=prog) (w:=w) h y a):x=y:=by
 obtain ⟨o,n,t,b,e,c,d,i⟩:=m
 obtain ⟨p,q,t',s,f,r,d',j⟩:=l
 rw[e] at f
 cases f
 rw[d] at d'
 injection d' with g _
 have q2:=congrArg Array.toList g
 injection q2 with q3 q4
 injection q3 with q5 _
 injection q4 with q6 _
 injection q6 with q7
 subst q7
 exact Prod.ext q5 (i.inj j)
def gL.stays{h h':Heap}{k:qb}{a d:Addr}{o:Obj}{es ep}(x:gL (prog:=prog) (w:=w) h k a)(g:h.get? d=some o)(hd:o.data=.dict es ep)(f:Heap.SameBut d h h'):gL (prog:=prog) (w:=w) h' k a:=by
 obtain ⟨j,n,t,b,e,c,q,i⟩:=x
 have ne:a≠d:=fun z=>by
  rw[z,g] at e
  cases e
  rw[hd] at q
  exact nomatch q
 exact⟨j,n,t,b,(f.2 a ne).trans e,c,q,i.keeps g hd f⟩
theorem AU{f e:Program}{c b:World}{ks:aab}{vs:List Value}(h:ItemsAre (intKind f c) ks vs):ItemsAre (intKind e b) ks vs:=by
 induction h with
 |nil=>exact .nil
 |cons a _ ih=>exact .cons a ih
def zB{f e:Program}{c b:World}{h:Heap}{ks:aab}{a:Addr}(x:IsTupleKey (intKind f c) h ks a):IsTupleKey (intKind e b) h ks a:=by
 obtain ⟨o,it,n,e1,e2,i,g⟩:=x
 exact⟨o,it,n,e1,e2,i,AU g⟩
variable {A:Around}{E:Value->Shared->Prop}{s:Shared}
def Df{k:qb}{a:Addr}{Q:Int->Shared->Prop}(i:A.units+2<cLine)(f:gL (prog:=prog) (w:=w) s.heap k a)(h:Q (sO prog w k) { s with toks:=s.toks+(k.2.length+3) }):wpAny (model prog w) A (pyHash (.ref a)) Q E s:=by
 have ty:=f.ty
 obtain ⟨o,n,t,b,g,_,hd,hi⟩:=f
 unfold pyHash
 first|unfold pyHashByItsType|skip
 first|refine wpAny_bind (wpAny_cRoomFor_or (.inr (by omega)) ?_)|skip
 refine (wpAny_bind (wpAny_specialOf ty F.slot_tuple_hash.lookup ?_))
 show wpAny (model prog w) A (if (some (Value.builtin "tuple.__hash__") == some Value.none)=true then _ else _) Q E s
 rw[if_neg (fun z=>by rw[beq_builtin_none] at z;cases z)]
 refine (wpAny_bind (wpAny_specialOf ty F.slot_tuple_hash.lookup ?_))
 show wpAny (model prog w) A (callSpecialIfBoundUnlessNone? (.ref a) "__hash__" _ >>= _) Q E s
 refine wpAny_bind (wpAny_callSpecialIfBoundUnlessNone?_slot ty F.slot_tuple_hash (wpAny_call_entry F.slot_tuple_hash ty F.entry_tuple_hash ?_ (F.args_tuple_hash_1 _)))
 show wpAny (model prog w) _ (Builtin.Tuple.tupleItemsOf (.ref a) >>= _) _ _ s
 refine wpAny_bind (wpAny_tupleItemsOf g hd (wpAny_bind ?_))
 rw[<- Array.forIn_toList]
 refine wpAny_forIn_list _ (fun c (z:Array Int) s'=>(c=[.int k.1 t,.ref b]/\z.toList=[]/\s'=s)\/(c=[.ref b]/\z.toList=[hashInt k.1]/\s'={ s with toks:=s.toks+1 })\/(c=[]/\z.toList=[hashInt k.1,tupleKeyHash (inner prog w) k.2]/\s'={ s with toks:=s.toks+1+(k.2.length+1) })) _ ?_ ?_ _ _ (.inl ⟨rfl,rfl,rfl⟩)
 .rintro x c z s' (⟨e1,e2,rfl⟩|⟨e1,e2,rfl⟩|⟨e1,_⟩)
  .cases e1
   refine wpAny_bind ((inner prog w).pyHash (k:=k.1) (by simp [inner,intKind,Value.isInt]) ?_)
   first
    |exact wpAny_pure (.inr (.inl ⟨rfl,by simp [e2];rfl,rfl⟩))
    |exact wpAny_bind (wpAny_pure (wpAny_pure (.inr (.inl ⟨rfl,by simp [e2];rfl,rfl⟩))))
  .cases e1
   refine wpAny_bind (wpAny_pyHash_tuple (knd:=inner prog w) (ks:=k.2) (by first|omega|(show A.in1.units<cLine;show A.units+1<cLine;omega)) hi ?_)
   first
    |exact wpAny_pure (.inr (.inr ⟨rfl,by simp [e2],rfl⟩))
    |exact wpAny_bind (wpAny_pure (wpAny_pure (.inr (.inr ⟨rfl,by simp [e2],rfl⟩))))
  .cases e1
 .rintro z s' (⟨e1,_⟩|⟨e1,_⟩|⟨_,e2,rfl⟩)
  .cases e1
  .cases e1
  show wpAny (model prog w) _ (retInt (Builtin.Tuple.tupleHashOf z.toList)) _ _ _
  rw[e2]
  refine wpAny_ret_mkInt ?_
  unfold sO reduceHash at h
  generalize Builtin.Tuple.tupleHashOf [hashInt k.1,tupleKeyHash (inner prog w) k.2]=m at h ⊢
  rw[show s.toks+(k.2.length+3)=s.toks+1+(k.2.length+1)+1 by omega] at h
  show wpAny (model prog w) A (if (decide (-(2:Int) ^ 63<=m) && decide (m<2 ^ 63))=true then _ else _) Q E _
  by_cases e:(decide (-(2:Int) ^ 63<=m) && decide (m<2 ^ 63))=true
  .rw[if_pos e] at h ⊢
   exact wpAny_pure h
  .rw[if_neg e] at h ⊢
   exact wpAny_bind (wpAny_rule (wpAny_pure h))
def HM{x y:qb}{a b:Addr}(L:A.units+2<cLine)(i:gL (prog:=prog) (w:=w) s.heap x a)(h:gL (prog:=prog) (w:=w) s.heap y b):SeqAt.EqAt A s (.ref a) (.ref b) (decide (x=y)):=by
 by_cases m:a=b
 .subst m
  rw[i.uniq h,decide_eq_true rfl]
  exact SeqAt.EqAt.same _
 .obtain ⟨r,n1,t1,f,B,c1,F,u⟩:=i
  obtain ⟨p,n2,t2,c,z,G,C,t⟩:=h
  have o:s.heap.IsTuple a #[.int x.1 t1,.ref f]:=⟨r,B,c1,n1,F⟩
  have n:s.heap.IsTuple b #[.int y.1 t2,.ref c]:=⟨p,z,G,n2,C⟩
  have H:SeqAt.EqAt A.in1 s (.ref f) (.ref c) (decide (x.2=y.2)):=fun l g J I q=>by
   have:=wpAny_eqBool_tuple (prog:=l) (w:=g) (knd:=intKind l g) (A:=A.in1) (E:=J) (s:=s) (x:=x.2) (y:=y.2) (a:=f) (b:=c) (Q:=I) (by show A.units+1<cLine;omega) (zB u) (zB t) q
   exact this
  have key:=SeqAt.RcAt.tuples (A:=A) (e:=fun j=>if j=0 then decide (x.1=y.1) else decide (x.2=y.2)) o n (by omega) (fun j v M=>by
   have hj:j=0\/j=1:=by simp at v;omega
   rcases hj with rfl|rfl
   .have:=SeqAt.EqAt.int_int (A:=A.in1) (s:=s) x.1 t1 y.1 t2
    rw[show (x.1 == y.1)=decide (x.1=y.1) from rfl] at this
    exact this
   .exact H)
  refine SeqAt.EqAt.of_refs m ?_
  have e:decide (x=y)=((List.range (min (#[Value.int x.1 t1,Value.ref f]:Array Value).size (#[Value.int y.1 t2,Value.ref c]:Array Value).size)).all (fun j=>if j=0 then decide (x.1=y.1) else decide (x.2=y.2)) && (#[Value.int x.1 t1,Value.ref f]:Array Value).size == (#[Value.int y.1 t2,Value.ref c]:Array Value).size):=by
   rw[show (List.range (min (#[Value.int x.1 t1,Value.ref f]:Array Value).size (#[Value.int y.1 t2,Value.ref c]:Array Value).size))=[0,1] from rfl]
   rw[ND]
   simp [Prod.ext_iff]
  rw[e]
  exact key
def Bi{ks:aab}{a:Addr}{n:Nat}{Q:Bool->Shared->Prop}(c:IsTupleKey (inner prog w) s.heap ks a)(h:Q true s):wpAny (model prog w) A (eqIsQuiet (n+1) (.ref a)) Q E s:=by
 have ty:=c.typeIs
 obtain ⟨o,it,m,i,_,hd,hi⟩:=c
 unfold eqIsQuiet
 refine (wpAny_bind (wpAny_specialOf ty F.slot_tuple_eq.lookup ?_))
 show wpAny (model prog w) A (isInstance (.ref a) (.type "tuple") >>= _) Q E s
 refine (wpAny_bind (wpAny_isInstance ty isSubtype_tuple_tuple ?_))
 simp only[NW,MY,if_false]
 refine (wpAny_bind (wpAny_seqItems i hd (wpAny_bind ?_)))
 show wpAny (model prog w) A (forIn it _ _) _ E s
 rw[<- Array.forIn_toList]
 refine wpAny_forIn_list _ (fun f r s'=>(r.1=none/\s'=s)/\∀v∈f,carriedByValue v=true) _ ?_ ?_ _ _ ⟨⟨rfl,rfl⟩,hi.byValue⟩
 .rintro v f r s' ⟨⟨b,rfl⟩,e⟩
  rw[eqIsQuiet_byValue _ (e v Fk)]
  refine wpAny_bind (wpAny_pure ?_)
  simp only[NW,MY,if_false]
  exact wpAny_pure ⟨⟨rfl,rfl⟩,fun u g=>e u (ox _ g)⟩
 .rintro ⟨l,j⟩ s' ⟨⟨b,rfl⟩,_⟩
  simp only at b
  subst b
  exact wpAny_pure h
def Br{k:qb}{a:Addr}{Q:Bool->Shared->Prop}(g:gL (prog:=prog) (w:=w) s.heap k a)(h:Q true s):wpAny (model prog w) A (eqIsQuiet 8 (.ref a)) Q E s:=by
 have ty:=g.ty
 obtain ⟨o,n,t,b,l,_,hd,hi⟩:=g
 unfold eqIsQuiet
 refine (wpAny_bind (wpAny_specialOf ty F.slot_tuple_eq.lookup ?_))
 show wpAny (model prog w) A (isInstance (.ref a) (.type "tuple") >>= _) Q E s
 refine (wpAny_bind (wpAny_isInstance ty isSubtype_tuple_tuple ?_))
 simp only[NW,MY,if_false]
 refine (wpAny_bind (wpAny_seqItems l hd (wpAny_bind ?_)))
 show wpAny (model prog w) A (forIn (#[Value.int k.1 t,Value.ref b]:Array Value) _ _) _ E s
 rw[<- Array.forIn_toList]
 refine wpAny_forIn_list _ (fun i r s'=>(r.1=none/\s'=s)/\∀v∈i,v=.int k.1 t\/v=.ref b) _ ?_ ?_ _ _ ⟨⟨rfl,rfl⟩,fun v j=>by simpa using j⟩
 .rintro v i r s' ⟨⟨e,rfl⟩,f⟩
  rcases f v Fk with rfl|rfl
  .rw[eqIsQuiet_byValue _ rfl]
   refine wpAny_bind (wpAny_pure ?_)
   simp only[NW,MY,if_false]
   exact wpAny_pure ⟨⟨rfl,rfl⟩,fun u c=>f u (ox _ c)⟩
  .refine wpAny_bind (Bi hi ?_)
   simp only[NW,MY,if_false]
   exact wpAny_pure ⟨⟨rfl,rfl⟩,fun u c=>f u (ox _ c)⟩
 .rintro ⟨p,m⟩ s' ⟨⟨e,rfl⟩,_⟩
  simp only at e
  subst e
  exact wpAny_pure h
end
def Fq(prog:Program)(w:World):HeapKind prog w qb where
 is:=gL (prog:=prog) (w:=w)
 hash:=sO prog w
 draws:=fun k=>k.2.length+3
 room:=fun A=>A.units+2<cLine
 inj:=fun c b=>c.uniq b
 keeps:=fun x i hd g=>x.stays i hd g
 pyHash:=fun e f h=>Df e f h
 eqBool:=fun e c b h=>HM e c b _ _ _ _ h
 quiet:=fun f h=>Br f h
end L2
set_option Elab.async false
namespace L2
open PySem PySem.Spec PyProof.Rows
abbrev Key:=Sum Int Str
def tf:Key->Value->Bool
 |.inl k,v=>Value.isInt k v
 |.inr x,v=>Value.isStrOf x v
def L4(w:World):Key->Int
 |.inl k=>hashInt k
 |.inr x=>hashStr w x
theorem bY:∀{k:Key}{v:Value},tf k v=true->(∃i t,k=Sum.inl i/\v=Value.int i t)\/(∃x t,k=Sum.inr x/\v=Value.str x t)
 |.inl i,v,h=>by
  obtain ⟨t,e⟩:=Value.isInt_shape (k:=i) (v:=v) h
  exact .inl ⟨i,t,rfl,e⟩
 |.inr x,v,h=>by
  obtain ⟨t,e⟩:=Value.isStrOf_shape (x:=x) (v:=v) h
  exact .inr ⟨x,t,rfl,e⟩
def Dy(i:Int)(t:Tok):tf (.inl i) (.int i t)=true:=by simp [tf,Value.isInt]
def Dw(x:Str)(t:Tok):tf (.inr x) (.str x t)=true:=by simp [tf,Value.isStrOf]
def KL(a b:Int):decide ((Sum.inl a:Key)=Sum.inl b)=(a == b):=by
 by_cases e:a=b
 .subst e;simp
 .have h:¬ (Sum.inl a:Key)=Sum.inl b:=fun q=>e (Sum.inl.inj q)
  rw[decide_eq_false h]
  exact (beq_eq_false_iff_ne.mpr e).symm
def Ke(a b:Str):decide ((Sum.inr a:Key)=Sum.inr b)=decide (a=b):=by
 by_cases e:a=b
 .subst e;simp
 .have h:¬ (Sum.inr a:Key)=Sum.inr b:=fun q=>e (Sum.inr.inj q)
  rw[decide_eq_false h,decide_eq_false e]
def J2(a:Int)(b:Str):decide ((Sum.inl a:Key)=Sum.inr b)=false:=decide_eq_false (fun q=>nomatch q)
def KP(a:Str)(b:Int):decide ((Sum.inr a:Key)=Sum.inl b)=false:=decide_eq_false (fun q=>nomatch q)
def cK(prog:Program)(w:World):PySem.KeyKind prog w Key where
 is:=tf
 hash:=L4 w
 inj:=fun v a b ha hb=>by
  rcases bY ha with ⟨i,t,rfl,rfl⟩|⟨x,t,rfl,rfl⟩
  .rcases bY hb with ⟨j,u,rfl,e⟩|⟨y,u,rfl,e⟩
   .injection e with e1 _;rw[e1]
   .exact nomatch e
  .rcases bY hb with ⟨j,u,rfl,e⟩|⟨y,u,rfl,e⟩
   .exact nomatch e
   .injection e with e1 _;rw[e1]
 byValue:=fun k v h=>by
  rcases bY h with ⟨i,t,rfl,rfl⟩|⟨x,t,rfl,rfl⟩<;>rfl
 pyHash:=fun c h=>by
  rcases bY c with ⟨i,t,rfl,rfl⟩|⟨x,t,rfl,rfl⟩
  .exact wpAny_pyHash_int h
  .exact wpAny_pyHash_str h
 eqBool:=fun f c h=>by
  rcases bY f with ⟨i,t,rfl,rfl⟩|⟨x,t,rfl,rfl⟩
  .rcases bY c with ⟨j,u,rfl,rfl⟩|⟨y,u,rfl,rfl⟩
   .rw[KL] at h;exact wpAny_eqBool_int h
   .rw[J2] at h;exact SeqAt.EqAt.int_str i t y u _ _ _ _ h
  .rcases bY c with ⟨j,u,rfl,rfl⟩|⟨y,u,rfl,rfl⟩
   .rw[KP] at h;exact SeqAt.EqAt.str_int x t j u _ _ _ _ h
   .rw[Ke] at h;exact wpAny_eqBool_str h
 «strs»:=fun k x t v h=>by
  rcases bY h with ⟨i,u,rfl,e⟩|⟨y,u,rfl,e⟩
  .exact nomatch e
  .injection e with e1 _
   subst e1
   cases v<;>rfl
def Ay(prog:Program)(w:World)(k:Key)(v:Value):(cK prog w).is k v=tf k v:=rfl
def yV(prog:Program)(w:World)(i:Int)(t:Tok):(cK prog w).is (.inl i) (.int i t)=true:=Dy i t
def yH(prog:Program)(w:World)(x:Str)(t:Tok):(cK prog w).is (.inr x) (.str x t)=true:=Dw x t
end L2
namespace L2
open PySem PySem.Spec PyProof.Rows
inductive V where
 |non|bl (b:Bool)|int (i:Int)|str (x:Str)|byt (b:Array UInt8)|flt (b:UInt64)|ref (a:Addr)|ty (n:String)
 deriving DecidableEq
def RelV:V->Value->Prop
 |.non,u=>u=Value.none
 |.bl b,u=>u=Value.bool b
 |.int i,u=>∃t,u=Value.int i t
 |.str x,u=>∃t,u=Value.str x t
 |.byt b,u=>∃t,u=Value.bytes b t
 |.flt b,u=>∃t,u=Value.float b t
 |.ref a,u=>u=Value.ref a
 |.ty n,u=>u=Value.type n
abbrev Vals:List V->List Value->Prop:=Paired RelV
theorem Vals.length{xs:List V}{us:List Value}(r:Vals xs us):xs.length=us.length:=Paired.length r
theorem Vals.get:∀{xs:List V}{us:List Value}{i:Nat}{x:V},Vals xs us->xs[i]?=some x->∃u,us[i]?=some u/\RelV x u
 |_,_,_,_,.nil,e=>by simp at e
 |_,_,0,_,.cons r _,e=>by simp at e;subst e;exact⟨_,rfl,r⟩
 |_,_,i+1,x,.cons _ t,e=>by
  obtain ⟨u,c,b⟩:=Vals.get (i:=i) (x:=x) t (by simpa using e)
  exact⟨u,by simpa using c,b⟩
theorem Vals.set{x:V}{u:Value}(r:RelV x u):∀{xs:List V}{us:List Value} (i:Nat),Vals xs us->Vals (xs.set i x) (us.set i u)
 |_,_,_,.nil=>.nil
 |_,_,0,.cons _ t=>.cons r t
 |_,_,i+1,.cons q t=>.cons q (Vals.set r i t)
theorem Vals.append:∀{xs ys:List V}{us ws:List Value},Vals xs us->Vals ys ws->Vals (xs++ys) (us++ws)
 |_,_,_,_,.nil,s=>s
 |_,_,_,_,.cons r t,s=>.cons r (Vals.append t s)
theorem Vals.take:∀{xs:List V}{us:List Value} (n:Nat),Vals xs us->Vals (xs.take n) (us.take n)
 |_,_,0,_=>.nil
 |_,_,_+1,.nil=>.nil
 |_,_,n+1,.cons r t=>.cons r (Vals.take n t)
theorem Vals.drop:∀{xs:List V}{us:List Value} (n:Nat),Vals xs us->Vals (xs.drop n) (us.drop n)
 |_,_,0,r=>r
 |_,_,_+1,.nil=>.nil
 |_,_,n+1,.cons _ t=>Vals.drop n t
def ny:Option V->Option Value->Prop
 |some v,some u=>RelV v u
 |none,none=>True
 |_,_=>False
def KV{b:Type}:List (b × V)->List (b × Value)->Prop:=Paired fun (p:b × V) (q:b × Value)=>p.1=q.1/\RelV p.2 q.2
def kV:Key->V
 |.inl i=>.int i
 |.inr x=>.str x
inductive HO where
  |lst (xs:List V)
  |tup (xs:List V)
  |dK (kvs:List (Key × V))|dT (kvs:List (List Key × V))
  |set (S:Int->Bool) (n:Nat)
  |ins (C dx:Addr) (fs:List (Str × V))
  |own (x:Addr)
  |xd (fs:List (Str × V))
  |met (f x:Addr)
  |rng (lo hi:Int)
  |frz (o:Obj) (u:HO)
  |tbl (ps:Array Value)
  |ext (φ:Heap->Prop)
 |memo (φ:Int->aab->Int->Prop) (ks:List qb)
abbrev Hp:=Addr->Option HO
def upd(H:Hp)(a:Addr)(o:HO):Hp:=fun b=>if b=a then some o else H b
def az{H:Hp}{a:Addr}{o:HO}:upd H a o a=some o:=by unfold upd;rw[if_pos rfl]
def aG{H:Hp}{a b:Addr}{o:HO}(h:b≠a):upd H a o b=H b:=by unfold upd;rw[if_neg h]
def LC{H:Hp}{a b:Addr}{o u:HO}(h:H a=some o)(h':H b=some u)(d:o≠u):a≠b:=by
 intro e;subst e;rw[h] at h';exact d (MH h')
def aU{H:Hp}{a b:Addr}{o:HO}(h:H a=some o)(h':H b=none):a≠b:=by
 intro e;subst e;rw[h] at h';cases h'
def LV(k:qb):Bool:=decide (0<=k.1) && decide (k.1<8) && decide (k.2.length<=5) && k.2.all fun e=>decide (0<=e) && decide (e<7)
def J4(H:Hp)(c:Int->aab->Int->Prop)(x:qb × Addr × Value):Prop:=∃b n t,H x.2.1=some (.tup [.int x.1.1,.ref b])/\H b=some (.tup (x.1.2.map V.int))/\x.2.2=.int n t/\c x.1.1 x.1.2 n/\LV x.1=true
section
variable (P:Program)(w:World)
def bX(H:Hp)(h:Heap)(a:Addr):HO->Prop
 |.lst xs=>xs.length<=sizeLine/\∃(e:List Value) (n:Nat),Vals xs e/\h.get? a=some { cls:=.type "list",data:=.seq e.toArray n }
 |.tup xs=>xs.length<=sizeLine/\∃e:List Value,Vals xs e/\IsTup h a e.toArray
 |.dK kvs=>kvs.length<=sizeLine/\(a == sysModules)=false/\∃vs,KV kvs vs/\h.DictOf (cK P w) a vs
 |.dT kvs=>kvs.length<=sizeLine/\(a == sysModules)=false/\∃xs:List (List Key × Addr × Value),
   Paired (fun (p:List Key × V) (q:List Key × Addr × Value)=>p.1=q.1/\H q.2.1=some (.tup (p.1.map kV))/\RelV p.2 q.2.2) kvs xs /\
   ∃o es ep,h.get? a=some o/\o.ExactDict/\o.data=.dict es ep/\es.toList=xs.map (entryOfKey (tupleKind (cK P w)))/\(xs.map (·.1)).Nodup
 |.set S n=>h.SetOf (intKind P w) a S n
 |.ins C dx fs=>H dx=some (.own a)/\fs.length<=1000/\dx≠a/\h.get? a=some (PySem.W.instObj C dx) /\
   ∃b,h.Ns1 dx b/\(∀f,ny (fs.lookup f) (b f))/\PySem.Within b (fs.map (·.1))
 |.own _=>∃o,h.get? a=some o
 |.xd fs=>∃b,h.Ns1 a b/\∀f,ny (fs.lookup f) (b f)
 |.rng lo hi=>∃t u v,h.get? a=some { cls:=.type "range",data:=.fields #[.int lo t,.int hi u,.int 1 v] }
 |.frz o u=>h.get? a=some o/\bX H h a u
 |.tbl ps=>h.get? a=some { cls:=.none,data:=.fields ps }
 |.met f x=>h.get? a=some (PySem.W.methodObj (.ref f) (.ref x))
 |.memo c ks=>(a == sysModules)=false/\∃xs:List (qb × Addr × Value),(∀x∈xs,J4 H c x)/\(∀k∈ks,k∈xs.map (·.1)) /\
   ∃o es ep,h.get? a=some o/\o.ExactDict/\o.data=.dict es ep/\es.toList=xs.map (entryOfKey (Fq P w))/\(xs.map (·.1)).Nodup
 |.ext c=>c h/\(∃o,h.get? a=some o)/\∀i g:Heap,c i->(∀o,i.get? a=some o->g.get? a=some o)->c g
def HOk(H:Hp)(h:Heap):Prop:=∀a o,H a=some o->bX P w H h a o
end
section
variable {P:Program}{w:World}{H H':Hp}{h h':Heap}{a:Addr}{o:HO}
theorem bX.lt(x:bX P w H h a o):a<h.objs.size:=by
 cases o with
 |lst xs=>obtain ⟨_,_,_,_,e⟩:=x;exact Heap.lt_size e
 |tup xs=>obtain ⟨_,_,_,p⟩:=x;exact p.lt
 |dK kvs=>obtain ⟨_,_,_,_,o,_,_,e,_⟩:=x;exact Heap.lt_size e
 |dT kvs=>obtain ⟨_,_,_,_,o,_,_,e,_⟩:=x;exact Heap.lt_size e
 |set S n=>obtain ⟨o,_,_,_,e,_⟩:=x;exact Heap.lt_size e
 |ins C dx fs=>obtain ⟨_,_,_,e,_⟩:=x;exact Heap.lt_size e
 |own y=>obtain ⟨_,e⟩:=x;exact Heap.lt_size e
 |xd fs=>obtain ⟨_,⟨_,_,_,e,_⟩,_⟩:=x;exact Heap.lt_size e
 |rng lo hi=>obtain ⟨_,_,_,e⟩:=x;exact Heap.lt_size e
 |frz ob u=>obtain ⟨e,_⟩:=x;exact Heap.lt_size e
 |tbl ps=>exact Heap.lt_size (show h.get? a=some _ from x)
 |met f y=>exact Heap.lt_size (show h.get? a=some _ from x)
 |ext b=>obtain ⟨_,⟨_,e⟩,_⟩:=x;exact Heap.lt_size e
 |memo b ks=>obtain ⟨_,_,_,_,_,_,_,e,_⟩:=x;exact Heap.lt_size e
theorem Paired.Kp{e c:Type}{F G:e->c->Prop}:∀{g:List e}{h:List c},Paired F g h->(∀a b,F a b->G a b)->Paired G g h
 |_,_,.nil,_=>.nil
 |_,_,.cons r t,f=>.cons (f _ _ r) (Paired.Kp t f)
theorem bX.oN(x:bX P w H h a o)(k:∀b u,(b=a\/H b=some (.own a))->h.get? b=some u->h'.get? b=some u)
  (B:∀b,H b=some (.own a)->H' b=some (.own a)) (ht:∀b xs,H b=some (.tup xs)->H' b=some (.tup xs)):bX P w H' h' a o:=by
 induction o with
 |lst xs=>obtain ⟨z,j,n,r,e⟩:=x;exact⟨z,j,n,r,k _ _ (.inl rfl) e⟩
 |tup xs=>obtain ⟨z,j,r,ob,e,c⟩:=x;exact⟨z,j,r,ob,k _ _ (.inl rfl) e,c⟩
 |dK kvs=>obtain ⟨z,y,vs,r,ob,es,ep,e,c⟩:=x;exact⟨z,y,vs,r,ob,es,ep,k _ _ (.inl rfl) e,c⟩
 |dT kvs =>
  obtain ⟨z,y,xs,r,ob,es,ep,e,c⟩:=x
  exact⟨z,y,xs,Paired.Kp r fun p q z=>⟨z.1,ht _ _ z.2.1,z.2.2⟩,ob,es,ep,k _ _ (.inl rfl) e,c⟩
 |set S n=>obtain ⟨ob,es,ep,t,e,c⟩:=x;exact⟨ob,es,ep,t,k _ _ (.inl rfl) e,c⟩
 |ins C dx fs =>
  obtain ⟨d,z,ne,e,i,⟨g,es,ep,e2,c⟩,r⟩:=x
  exact⟨B _ d,z,ne,k _ _ (.inl rfl) e,i,⟨g,es,ep,k _ _ (.inr d) e2,c⟩,r⟩
 |own y=>obtain ⟨ob,e⟩:=x;exact⟨ob,k _ _ (.inl rfl) e⟩
 |xd fs=>obtain ⟨i,⟨g,es,ep,e,c⟩,r⟩:=x;exact⟨i,⟨g,es,ep,k _ _ (.inl rfl) e,c⟩,r⟩
 |rng lo hi=>obtain ⟨t,u,v,e⟩:=x;exact⟨t,u,v,k _ _ (.inl rfl) e⟩
 |frz ob u ih=>obtain ⟨e,q⟩:=x;exact⟨k _ _ (.inl rfl) e,ih q⟩
 |tbl ps =>
  have e:h.get? a=some { cls:=.none,data:=.fields ps }:=x
  show h'.get? a=some { cls:=.none,data:=.fields ps }
  exact k a _ (.inl rfl) e
 |met f y =>
  have e:h.get? a=some (PySem.W.methodObj (.ref f) (.ref y)):=x
  show h'.get? a=some (PySem.W.methodObj (.ref f) (.ref y))
  exact k a _ (.inl rfl) e
 |memo l ks =>
  obtain ⟨y,xs,s,E,ob,es,ep,e,c⟩:=x
  exact⟨y,xs,fun z m=>let ⟨b,n,t,q1,q2,q3⟩:=s z m;⟨b,n,t,ht _ _ q1,ht _ _ q2,q3⟩,E,ob,es,ep,k _ _ (.inl rfl) e,c⟩
 |ext l=>obtain ⟨p,⟨o,e⟩,st⟩:=x;exact⟨st _ _ p fun o q=>k _ _ (.inl rfl) q,⟨o,k _ _ (.inl rfl) e⟩,st⟩
theorem HOk.lt(x:HOk P w H h)(e:H a=some o):a<h.objs.size:=(x a o e).lt
theorem HOk.fresh(x:HOk P w H h)(e:h.objs.size<=a):H a=none:=by
 cases q:H a with
 |none=>rfl
 |some u=>exact absurd (Mo (x.lt q) e) (Nd _)
def HOk.kept(x:HOk P w H h)(k:∀b u,h.get? b=some u->h'.get? b=some u):HOk P w H h':=fun a o e =>
 (x a o e).oN (fun b u _ q=>k b u q) (fun _ q=>q) fun _ _ q=>q
def HOk.laid(x:HOk P w H h)(k:∀b u,h.get? b=some u->h'.get? b=some u)(f:h.objs.size<=a)(g:bX P w (upd H a o) h' a o):HOk P w (upd H a o) h':=fun b u e=>by
 have hn:=x.fresh f
 by_cases hb:b=a
 .subst hb;rw[az] at e;cases e;exact g
 .rw[aG hb] at e
  exact (x b u e).oN (fun c v _ q=>k c v q) (fun c q=>by rw[aG (aU q hn)];exact q) fun c xs q=>by rw[aG (aU q hn)];exact q
end
def Rd(H:Hp)(a:Addr)(u:HO):Prop:=H a=some u\/∃o,H a=some (.frz o u)
def Rd.ok{P:Program}{w:World}{H:Hp}{h:Heap}{a:Addr}{u:HO}(r:Rd H a u)(x:HOk P w H h):bX P w H h a u:=by
 rcases r with r|⟨o,r⟩
 .exact x a u r
 .obtain ⟨_,q⟩:=x a _ r
  exact q
def Mut:Option HO->Prop
 |some (.lst _)=>True
 |some (.dK _)=>True
 |some (.dT _)=>True
 |some (.set _ _)=>True
 |some (.ins _ _ _)=>True
 |some (.ext _)=>True
 |some (.memo _ _)=>True
 |_=>False
section
variable {P:Program}{w:World}{H:Hp}{h h':Heap}{x e:Addr}{o':HO}
def HOk.write(ok:HOk P w H h)(mu:Mut (H x))(j:e=x\/H e=some (.own x))(k:∀b u,b≠e->h.get? b=some u->h'.get? b=some u)(o:∃u,h'.get? e=some u)
  (p:bX P w (upd H x o') h' x o'):HOk P w (upd H x o') h':=fun b u q=>by
 have l:∀c y,H c=some (.own y)->c≠x:=fun c y r z=>by subst z;rw[r] at mu;exact mu
 have n:∀c xs,H c=some (.tup xs)->c≠x:=fun c xs r z=>by subst z;rw[r] at mu;exact mu
 by_cases hb:b=x
 .subst hb;rw[az] at q;cases q;exact p
 .rw[aG hb] at q
  by_cases g:b=e
  .have i:H b=some (.own x):=by
    rcases j with z|z
    .exact absurd (g.trans z) hb
    .rw[g];exact z
   rw[q] at i;cases i
   obtain ⟨v,m⟩:=o
   exact⟨v,by rw[g];exact m⟩
  .refine (ok b u q).oN (fun c v f r=>k c v ?_ r) (fun c r=>by rw[aG (l c b r)];exact r) fun c xs r=>by rw[aG (n c xs r)];exact r
   rcases f with rfl|f
   .exact g
   .rintro rfl
    rcases j with z|z
    .exact l c b f z
    .rw[f] at z;cases z;exact hb rfl
end
structure Un(fs ex:List Addr)(H H':Hp)(h h':Heap):Prop where
 keep:∀b o,h.get? b=some o->H b=none->b∉fs->b∉ex->h'.get? b=some o
 slot:∀b o,h.get? b=some o->H b=none->b∈fs->b∉ex->∃sl,h'.get? b=some { o with slots:=sl }
 free:∀b o,h.get? b=some o->H b=none->b∉ex->H' b=none
 there:∀b o,h.get? b=some o->b∉ex->∃o',h'.get? b=some o'
 tups:∀b xs,H b=some (.tup xs)->H' b=some (.tup xs)
 frzs:∀b o u,H b=some (.frz o u)->H' b=some (.frz o u)
 tbls:∀b ps,H b=some (.tbl ps)->∃more,H' b=some (.tbl (ps++more))
section
variable {fs ex:List Addr}{H H1:Hp}{h h1 h':Heap}{a x e:Addr}{o:HO}
def Un.any(u:Un fs ex H H1 h h1){b:Addr}{ob:Obj}(q:h.get? b=some ob)(n:H b=none)(c:b∉ex):∃e,h1.get? b=some { ob with slots:=e }:=by
 by_cases hb:b∈fs
 .exact u.slot b ob q n hb c
 .exact⟨ob.slots,u.keep b ob q n hb c⟩
def Un.kept(k:∀b u,h.get? b=some u->h'.get? b=some u):Un fs ex H H h h' :=
 ⟨fun b ob q _ _ _=>k b ob q,fun b ob q _ _ _=>⟨ob.slots,k b ob q⟩,fun _ _ _ n _=>n,fun b ob q _=>⟨ob,k b ob q⟩,fun _ _ q=>q,fun _ _ _ q=>q,fun _ ps q=>⟨#[],by rw[q];simp⟩⟩
def Un.refl:Un fs ex H H h h:=Un.kept fun _ _ q=>q
def Un.laid(k:∀b u,h.get? b=some u->h'.get? b=some u)(c:h.objs.size<=a)(hn:H a=none):Un fs ex H (upd H a o) h h' where
 keep:=fun b u q _ _ _=>k b u q
 slot:=fun b u q _ _ _=>⟨u.slots,k b u q⟩
 free:=fun b u q n _=>by rw[aG (MA (Mo (Heap.lt_size q) c))];exact n
 there:=fun b u q _=>⟨u,k b u q⟩
 tups:=fun b xs q=>by rw[aG (aU q hn)];exact q
 frzs:=fun b u xs q=>by rw[aG (aU q hn)];exact q
 tbls:=fun b ps q=>⟨#[],by rw[aG (aU q hn),q];simp⟩
def Un.write(mu:Mut (H x))(g:e=x\/H e=some (.own x))(k:∀b u,b≠e->h.get? b=some u->h'.get? b=some u)(i:∃u,h'.get? e=some u):Un fs ex H (upd H x o) h h':=by
 have c:∀b,H b=none->b≠x:=fun b n z=>by subst z;rw[n] at mu;exact mu
 have hb:∀b,H b=none->b≠e:=fun b n z=>by
  subst z
  rcases g with r|r
  .exact c b n r
  .rw[n] at r;cases r
 have hm:∀b u,H b=some u->¬ Mut (some u)->b≠x:=fun b u q nm z=>by subst z;rw[q] at mu;exact nm mu
 refine⟨fun b u q n _ _=>k b u (hb b n) q,fun b u q n _ _=>⟨u.slots,k b u (hb b n) q⟩,fun b u q n _=>by rw[aG (c b n)];exact n,fun b u q _=>?_,
  fun b xs q=>by rw[aG (hm b _ q fun z=>z)];exact q,fun b u xs q=>by rw[aG (hm b _ q fun z=>z)];exact q,fun b ps q=>⟨#[],by rw[aG (hm b _ q fun z=>z),q];simp⟩⟩
 by_cases f:b=e
 .subst f;exact i
 .exact⟨u,k b u f q⟩
end
def trk(h:Heap)(H:Hp):List Addr:=(List.range h.objs.size).filter fun a=>(H a).isSome
def ye(h:Heap)(H:Hp):Heap:=PySem.W.hideAll h (trk h H)
def D9(h:Heap)(H:Hp):(ye h H).objs.size=h.objs.size:=PySem.W.hideAll_size _ _
def uK{h:Heap}{H:Hp}{b:Addr}{o:Obj}(e:h.get? b=some o)(n:H b=none):(ye h H).get? b=some o :=
 Ob _ e fun hm=>by
  have q:(H b).isSome=true:=(M7.mp hm).2
  rw[n] at q;simp at q
theorem IB{h:Heap}{H:Hp}{b:Addr}{o:Obj}(e:(ye h H).get? b=some o):h.get? b=some o/\H b=none:=by
 have c:h.get? b=some o:=NA (trk h H) e
 refine⟨c,?_⟩
 cases q:H b with
 |none=>rfl
 |some x =>
  have hm:b∈trk h H:=M7.mpr ⟨Mq.mpr (Heap.lt_size c),by simp [q]⟩
  have z:(ye h H).get? b=none:=MV (trk h H) hm
  rw[z] at e;cases e
end L2
namespace L2
open PySem PySem.Spec PyProof.Rows
structure Mod(K:aad)(mg:Str->Option Value)(base:Heap):Prop where
 kin:K.In base
 glob:base.Ns mainGlobals mg
 blt:∃mb,base.Ns builtinsNs mb/\∀x:Str,x≠"__name__"->mb x=bootBuiltins x
 nolimit:base.NoLimit
structure Cx where
 prog:Program
 w:World
 K:aad
 mg:Str->Option Value
 base:Heap
 A:Around
 N:List Str
 s₀:Shared
 H₀:Hp
 env:Env
 outer:List Env
 stack:List Env
 ex:List Addr
 fn:Str->Bool
 calm:Bool
 pn:List (Addr × Obj)
 xe:Value->Shared->Prop
def frs(l:List Env):List Addr:=l.filterMap (·.frame)
abbrev Cx.fs(X:Cx):List Addr:=frs X.outer
def Vis(b:Scope)(x:Str):Prop:=b.names.lookup x=some .local\/b.names.lookup x=some .cell\/b.names.lookup x=some .free
def Loc(b:Scope)(x:Str):Prop:=b.names.lookup x=some .local\/b.names.lookup x=some .cell
def Look(env:Env)(h:Heap)(m:Str->Option Value)(x:Str)(u:Value):Prop :=
 (env.kindOf x=some .local/\m x=some u)\/((env.kindOf x=some .cell\/env.kindOf x=some .free)/\∃c,env.cells.lookup x=some c/\h.IsCell c (some u))
structure Cx.Ok(X:Cx):Prop where
 mod:Mod X.K X.mg X.base
 kind:X.env.scope.kind=.function
 glob:X.env.globals=mainGlobals
 blt:X.env.builtins=builtinsNs
 above:X.s₀.heap.objs.size<=X.env.locals
 inj:∀x y c,X.env.cells.lookup x=some c->X.env.cells.lookup y=some c->x=y
 has:∀x,(X.env.kindOf x=some .cell\/X.env.kindOf x=some .free)->∃c,X.env.cells.lookup x=some c
 cab:∀x c,X.fn x=true->X.env.cells.lookup x=some c->X.s₀.heap.objs.size<=c
 hd:X.calm=true->X.A.handled=none
 frames:X.A.frames=some X.stack
 stk:X.stack=X.outer\/(X.stack=X.env::X.outer/\X.env.frame=some X.env.locals)
 exf:∀b∈X.ex,b≠X.env.locals/\∀x c,X.env.cells.lookup x=some c->c≠b
 bs:∀b o,X.base.get? b=some o->X.s₀.heap.get? b=some o/\X.H₀ b=none
 bsz:X.base.objs.size<=X.s₀.heap.objs.size
 noex:∀b o,X.base.get? b=some o->b∉X.ex
 exfs:∀b∈X.ex,b∉X.fs
 nk:X.s₀.heap.FunFrames X.base X.outer
 frf:∀b∈X.fs,X.H₀ b=none
structure Inv(X:Cx)(pins:List (Addr × Obj))(σ:List (Option V))(H:Hp)(s:Shared):Prop where
 ok:X.Ok
 os:s.os=X.s₀.os
 bare:AllBare s.gens
 base:Un X.fs X.ex X.H₀ H X.s₀.heap s.heap
 loc:∃m,s.heap.Ns X.env.locals m/\∀(i:Nat) (x:Str) (v:V),X.N[i]?=some x->σ[i]?=some (some v)->Vis X.env.scope x->∃u,RelV v u/\Look X.env s.heap m x u
 cell:∀x c,X.env.cells.lookup x=some c->∃v,s.heap.IsCell c v
 free:H X.env.locals=none
 freeC:∀x c,X.env.cells.lookup x=some c->H c=none
 pin:∀p∈X.pn++pins,s.heap.get? p.1=some p.2/\H p.1=none/\p.1≠X.env.locals/\p.1∉X.fs/\∀v,p.2.data≠.cell v
 hok:HOk X.prog X.w H s.heap
 len:σ.length=X.N.length
section
variable {X:Cx}{pins:List (Addr × Obj)}{σ:List (Option V)}{H H':Hp}{s:Shared}{h':Heap}
def Cx.Ok.LX(ok:X.Ok){b:Addr}{o:Obj}(e:X.base.get? b=some o):b∉X.fs:=fun hb=>by
 have:=(ok.nk.mem hb).1
 rw[e] at this;cases this
theorem Inv.bs(I:Inv X pins σ H s):∀b o,X.base.get? b=some o->s.heap.get? b=some o/\H b=none:=fun b o e =>
 ⟨I.base.keep b o (I.ok.bs b o e).1 (I.ok.bs b o e).2 (I.ok.LX e) (I.ok.noex b o e),I.base.free b o (I.ok.bs b o e).1 (I.ok.bs b o e).2 (I.ok.noex b o e)⟩
def Inv.bk(I:Inv X pins σ H s):∀b o,X.base.get? b=some o->s.heap.get? b=some o:=fun b o e=>(I.bs b o e).1
theorem Inv.mod(I:Inv X pins σ H s):Mod X.K X.mg X.base:=I.ok.mod
def Inv.kIn(I:Inv X pins σ H s):X.K.In s.heap:=I.ok.mod.kin.keeps I.bk
theorem Inv.lt(I:Inv X pins σ H s):X.env.locals<s.heap.objs.size:=let ⟨_,hn,_⟩:=I.loc;hn.lt
def Inv.sz(I:Inv X pins σ H s):X.s₀.heap.objs.size<=s.heap.objs.size:=ME I.ok.above (NN I.lt)
def Inv.Lz(I:Inv X pins σ H s){a:Addr}(h:s.heap.objs.size<=a):a∉X.fs:=fun hb=>by
 obtain ⟨_,o,b,_⟩:=I.ok.nk.mem hb
 exact absurd (Mo (Heap.lt_size b) (ME I.sz h)) (Nd _)
def Inv.cne(I:Inv X pins σ H s):∀x c,X.env.cells.lookup x=some c->c≠X.env.locals:=fun x c e z=>by
 obtain ⟨v,o,b,hd⟩:=I.cell x c e
 obtain ⟨m,⟨h,es,ep,g,f,_⟩,_⟩:=I.loc
 rw[z,g] at b;cases b;rw[f] at hd;cases hd
theorem Inv.nk(I:Inv X pins σ H s):s.heap.FunFrames X.base X.outer:=by
 have all:∀(l:List Env),(∀b∈frs l,b∈X.fs)->X.s₀.heap.FunFrames X.base l->s.heap.FunFrames X.base l:=by
  intro l
  induction l with
  |nil=>intro _ _;trivial
  |cons env r ih =>
   intro g hl
   obtain ⟨j,⟨L,o,c,hn,i,hd⟩,h⟩:=hl
   have f:L∈X.fs:=g L (by unfold frs;rw[Po,c];exact Fk)
   obtain ⟨m,e⟩:=I.base.slot L o i (I.ok.frf L f) f fun z=>I.ok.exfs L z f
   exact⟨j,⟨L,_,c,hn,e,hd⟩,ih (fun b hb=>g b (by unfold frs;rw[Po,c];exact ox _ hb)) h⟩
 exact all X.outer (fun _ hb=>hb) I.ok.nk
theorem Inv.stack(I:Inv X pins σ H s):s.heap.FunFrames X.base X.stack:=by
 rcases I.ok.stk with e|⟨e,b⟩
 .rw[e];exact I.nk
 .rw[e]
  obtain ⟨m,hn,_⟩:=I.loc
  refine .cons (by rw[I.ok.kind];decide) b hn ?_ I.nk
  exact Heap.get?_none_of_le (ME I.ok.bsz I.ok.above)
def Inv.qk(I:Inv X pins σ H s):∀b∈frs X.stack,b∈X.env.locals::X.fs:=fun b hb=>by
 rcases I.ok.stk with e|⟨e,c⟩
 .rw[e] at hb;exact ox _ hb
 .rw[e] at hb
  unfold frs at hb
  rw[Po,c] at hb
  exact hb
def Inv.sA(I:Inv X pins σ H s):∀b∈frs X.stack,H b=none:=fun b hb=>by
 rcases Mb.mp (I.qk b hb) with e|hb
 .rw[e];exact I.free
 .obtain ⟨_,o,c,_⟩:=I.ok.nk.mem hb
  exact I.base.free b o c (I.ok.frf b hb) fun z=>I.ok.exfs b z hb
def Inv.step{g':Array GenState}{t':Nat}{d':Drawn}{ch:List Addr}(I:Inv X pins σ H s)
  (hch:∀b∈ch,(b∈X.ex\/X.s₀.heap.objs.size<=b)/\b≠X.env.locals/\(∀x c,X.env.cells.lookup x=some c->c≠b)/\∀p∈X.pn++pins,p.1≠b)
  (keep:∀b o,b≠X.env.locals->b∉X.fs->b∉ch->s.heap.get? b=some o->H b=none->h'.get? b=some o)
  (slot:∀b o,b≠X.env.locals->b∈X.fs->b∉ch->s.heap.get? b=some o->H b=none->∃B,h'.get? b=some { o with slots:=B }) (free:∀b o,b∉ch->s.heap.get? b=some o->H b=none->H' b=none)
  (there:∀b o,b∉ch->s.heap.get? b=some o->∃h,h'.get? b=some h)
  (tups:∀b xs,H b=some (.tup xs)->H' b=some (.tup xs)) (frzs:∀b o u,H b=some (.frz o u)->H' b=some (.frz o u)) (tbls:∀b ps,H b=some (.tbl ps)->∃j,H' b=some (.tbl (ps++j)))
  (ns:∀m,s.heap.Ns X.env.locals m->h'.Ns X.env.locals m) (hok:HOk X.prog X.w H' h') (M:AllBare g') :
  Inv X pins σ H' { s with heap:=h',gens:=g',drawn:=d',toks:=t' }:=by
 have F:∀b o,X.s₀.heap.get? b=some o->b≠X.env.locals:=fun b o e=>MA (Mo (Heap.lt_size e) I.ok.above)
 have y:∀b o,X.s₀.heap.get? b=some o->b∉X.ex->b∉ch:=fun b o e f hb=>by
  rcases (hch b hb).1 with z|z
  .exact f z
  .exact absurd (Mo (Heap.lt_size e) z) (Nd _)
 have G:∀x c,X.env.cells.lookup x=some c->∀v,s.heap.IsCell c v->h'.IsCell c v:=fun x c e v ⟨o,g,hd⟩=>by
  have t:c∉ch:=fun z=>(hch c z).2.2.1 x c e rfl
  by_cases E:c∈X.fs
  .obtain ⟨B,q⟩:=slot c o (I.cne x c e) E t g (I.freeC x c e)
   exact⟨_,q,hd⟩
  .exact⟨o,keep c o (I.cne x c e) E t g (I.freeC x c e),hd⟩
 refine⟨I.ok,I.os,M,⟨fun b o e n hb f=>?_,fun b o e n hb f=>?_,fun b o e n f=>?_,fun b o e f=>?_,fun b xs e=>tups b xs (I.base.tups b xs e),fun b o xs e=>frzs b o xs (I.base.frzs b o xs e),fun b ps e=>?_⟩,?_,fun x c e=>?_,?_,fun x c e=>?_,fun p C=>?_,hok,I.len⟩
 .exact keep b o (F b o e) hb (y b o e f) (I.base.keep b o e n hb f) (I.base.free b o e n f)
 .obtain ⟨B,e1⟩:=I.base.slot b o e n hb f
  obtain ⟨P,e2⟩:=slot b _ (F b o e) hb (y b o e f) e1 (I.base.free b o e n f)
  exact⟨P,e2⟩
 .obtain ⟨h,e1⟩:=I.base.there b o e f
  exact free b h (y b o e f) e1 (I.base.free b o e n f)
 .obtain ⟨h,e1⟩:=I.base.there b o e f
  exact there b h (y b o e f) e1
 .obtain ⟨L,e1⟩:=I.base.tbls b ps e
  obtain ⟨J,e2⟩:=tbls b _ e1
  exact⟨L++J,by rw[e2,Array.append_assoc]⟩
 .obtain ⟨m,hn,hl⟩:=I.loc
  refine⟨m,ns m hn,fun i x v e1 e2 O=>?_⟩
  obtain ⟨u,r,l⟩:=hl i x v e1 e2 O
  refine⟨u,r,?_⟩
  rcases l with l|⟨k,c,e,z⟩
  .exact .inl l
  .exact .inr ⟨k,c,e,G x c e _ z⟩
 .obtain ⟨v,z⟩:=I.cell x c e
  exact⟨v,G x c e v z⟩
 .obtain ⟨m,⟨o,_,_,g,_⟩,_⟩:=I.loc
  exact free _ o (fun z=>(hch _ z).2.1 rfl) g I.free
 .obtain ⟨v,o,g,hd⟩:=I.cell x c e
  exact free c o (fun z=>(hch c z).2.2.1 x c e rfl) g (I.freeC x c e)
 .obtain ⟨e,n,ne,nf,d⟩:=I.pin p C
  have t:p.1∉ch:=fun z=>(hch p.1 z).2.2.2 p C rfl
  exact⟨keep p.1 p.2 ne nf t e n,free p.1 p.2 t e n,ne,nf,d⟩
def Inv.un{t':Nat}(I:Inv X pins σ H s)(u:Un X.fs [] H H' s.heap h')(hok:HOk X.prog X.w H' h'):Inv X pins σ H' { s with heap:=h',toks:=t' }:=by
 obtain ⟨m,⟨o,es,ep,c,r⟩,_⟩:=id I.loc
 obtain ⟨j,h⟩:=u.any c I.free (by simp)
 exact I.step (g':=s.gens) (d':=s.drawn) (ch:=[]) (fun _ z=>nomatch z) (fun b o _ hb _ e n=>u.keep b o e n hb (by simp)) (fun b o _ hb _ e n=>u.slot b o e n hb (by simp)) (fun b o _ e n=>u.free b o e n (by simp)) (fun b o _ e=>u.there b o e (by simp)) u.tups u.frzs u.tbls (fun p hm=>by
  obtain ⟨l,es',i,f,g⟩:=hm
  rw[c] at f;cases f
  exact⟨_,es',i,h,g⟩) hok I.bare
def Inv.call{g':Array GenState}{t':Nat}{d':Drawn}{ch:List Addr}(I:Inv X pins σ H s)(u:Un (frs X.stack) ch H H' s.heap h')(hok:HOk X.prog X.w H' h')(l:AllBare g')
  (hch:∀b∈ch,(b∈X.ex\/X.s₀.heap.objs.size<=b)/\b≠X.env.locals/\(∀x c,X.env.cells.lookup x=some c->c≠b)/\∀p∈X.pn++pins,p.1≠b) :
  Inv X pins σ H' { s with heap:=h',gens:=g',drawn:=d',toks:=t' }:=by
 obtain ⟨m,⟨o,es,ep,h,r⟩,_⟩:=id I.loc
 obtain ⟨t,g⟩:=u.any h I.free fun z=>(hch _ z).2.1 rfl
 exact I.step (ch:=ch) hch (fun b o g hb f e n=>u.keep b o e n (fun z=>(Mb.mp (I.qk b z)).elim g hb) f) (fun b o _ _ f e n=>u.any e n f) (fun b o f e n=>u.free b o e n f) (fun b o f e=>u.there b o e f) u.tups u.frzs u.tbls (fun y hm=>by
  obtain ⟨v,es',q,i,j⟩:=hm
  rw[h] at i;cases i
  exact⟨_,es',q,g,j⟩) hok l
def Inv.turned{t':Nat}{it:Addr}(I:Inv X pins σ H s)(k:∀b o,b≠it->s.heap.get? b=some o->h'.get? b=some o)(hn:H it=none)(g:it≠X.env.locals)
  (t:it∈X.ex\/X.s₀.heap.objs.size<=it) (l:∀x c,X.env.cells.lookup x=some c->c≠it) (j:∀p∈X.pn++pins,p.1≠it):Inv X pins σ H { s with heap:=h',toks:=t' }:=by
 have h:∀b u,H b=some u->b≠it:=fun b u e z=>by rw[z,hn] at e;cases e
 refine I.step (g':=s.gens) (d':=s.drawn) (ch:=[it]) (fun b hb=>?_) (fun b o _ _ f e _=>k b o (fun z=>f (by simp [z])) e) (fun b o _ _ f e _=>⟨o.slots,k b o (fun z=>f (by simp [z])) e⟩) (fun _ _ _ _ n=>n)
  (fun b o f e=>⟨o,k b o (fun z=>f (by simp [z])) e⟩) (fun _ _ e=>e) (fun _ _ _ e=>e) (fun b ps e=>⟨#[],by rw[e];simp⟩) (fun m hm=>?_) (fun b u e=>?_) I.bare
 .have e:b=it:=by simpa using hb
  subst e
  exact⟨t,g,l,j⟩
 .obtain ⟨o,es,ep,i,r⟩:=hm
  exact⟨o,es,ep,k _ o (MI g) i,r⟩
 .refine (I.hok b u e).oN (fun c v f q=>k c v ?_ q) (fun _ q=>q) fun _ _ q=>q
  rcases f with z|z
  .rw[z];exact h b u e
  .exact h c _ z
def Inv.tok(I:Inv X pins σ H s)(t:Nat):Inv X pins σ H { s with toks:=t }:=I.un (h':=s.heap) (t':=t) Un.refl I.hok
theorem Inv.kept{t':Nat}(I:Inv X pins σ H s)(k:∀b u,s.heap.get? b=some u->h'.get? b=some u):Inv X pins σ H { s with heap:=h',toks:=t' }:=I.un (Un.kept k) (I.hok.kept k)
theorem Inv.laid{a:Addr}{o:HO}{t':Nat}(I:Inv X pins σ H s)(k:∀b u,s.heap.get? b=some u->h'.get? b=some u)(c:s.heap.objs.size<=a)(e:bX X.prog X.w (upd H a o) h' a o) :
  Inv X pins σ (upd H a o) { s with heap:=h',toks:=t' }:=I.un (Un.laid k c (I.hok.fresh c)) (I.hok.laid k c e)
theorem Inv.write{x e:Addr}{o:HO}{t':Nat}(I:Inv X pins σ H s)(mu:Mut (H x))(c:e=x\/H e=some (.own x))(k:∀b u,b≠e->s.heap.get? b=some u->h'.get? b=some u)(f:∃u,h'.get? e=some u)
  (g:bX X.prog X.w (upd H x o) h' x o):Inv X pins σ (upd H x o) { s with heap:=h',toks:=t' }:=I.un (Un.write mu c k f) (I.hok.write mu c k f g)
def Inv.weak{σ':List (Option V)}(I:Inv X pins σ H s)(hl:σ'.length=σ.length)(w:∀(i:Nat) v,σ'[i]?=some (some v)->σ[i]?=some (some v)):Inv X pins σ' H s :=
 ⟨I.ok,I.os,I.bare,I.base,let ⟨m,hn,SN⟩:=I.loc;⟨m,hn,fun i x v e1 e2 b=>SN i x v e1 (w i v e2) b⟩,I.cell,I.free,I.freeC,I.pin,I.hok,hl.trans I.len⟩
def Inv.oO{b:List (Addr × Obj)}(I:Inv X pins σ H s)(h:∀p∈b,s.heap.get? p.1=some p.2/\H p.1=none/\p.1≠X.env.locals/\p.1∉X.fs/\∀v,p.2.data≠.cell v):Inv X b σ H s :=
 ⟨I.ok,I.os,I.bare,I.base,I.loc,I.cell,I.free,I.freeC,fun p c=>(Mf.mp c).elim (fun z=>I.pin p (Mg _ z)) (h p),I.hok,I.len⟩
def sF{N:List Str}(c:N.Nodup){i j:Nat}{x:Str}(a:N[i]?=some x)(b:N[j]?=some x):i=j:=by
 obtain ⟨f,e1⟩:=Ma.mp a
 obtain ⟨e,e2⟩:=Ma.mp b
 exact (List.getElem_inj c).mp (e1.trans e2.symm)
def wb{M:Model}{A:Around}{E:Value->Shared->Prop}{i:Nat}{x:Str}{v:V}{u:Value}{Q:Unit->Shared->Prop}(I:Inv X pins σ H s)(U:X.N.Nodup)(hi:X.N[i]?=some x)(l:Loc X.env.scope x)(r:RelV v u)
  (h:∀s',Inv X pins (σ.set i (some v)) H s'->(∃a,Heap.SameBut a s.heap s'.heap/\(a=X.env.locals\/X.env.cells.lookup x=some a))->Q () s') (hf:X.fn x=true\/X.env.scope.names.lookup x=some .local:=by first|exact .inl rfl|exact .inr rfl|assumption):wpAny M A (storeName X.env x u) Q E s:=by
 obtain ⟨m,hn,hl⟩:=id I.loc
 have RF:(X.env.scope.kind == .class || (X.env.scope.kind == .module && X.env.locals != X.env.globals))=false:=by rw[I.ok.kind];rfl
 have S6:i<σ.length:=by rw[I.len];exact (Ma.mp hi).1
 have cne:=I.cne
 have Ql:∀{a:Addr}{h':Heap},(∃o,s.heap.get? a=some o/\H a=none)->Heap.SameBut a s.heap h'->HOk X.prog X.w H h':=fun {a h'} ha f b ob e=>by
  obtain ⟨_,_,Rk⟩:=ha
  refine (I.hok b ob e).oN (fun c B g q=>(f.2 c ?_).trans q) (fun _ q=>q) fun _ _ q=>q
  rintro rfl
  rcases g with rfl|g
  .rw[Rk] at e;cases e
  .rw[Rk] at g;cases g
 rcases l with t|t
 .refine wpAny_storeName_local t hn (fun h' U6 f=>?_) RF
  obtain ⟨oL,_,_,SM,_⟩:=id hn
  refine h _ ⟨I.ok,I.os,I.bare,⟨fun b o e n hb l=>?_,fun b o e n hb l=>?_,I.base.free,fun b o e l=>?_,I.base.tups,I.base.frzs,I.base.tbls⟩,⟨_,U6,fun j y F e1 e2 R=>?_⟩,fun y c e=>?_,I.free,I.freeC,fun p P=>?_,Ql ⟨oL,SM,I.free⟩ f,by simpa using I.len⟩ ⟨_,f,.inl rfl⟩
  .exact (f.2 b (MA (Mo (Heap.lt_size e) I.ok.above))).trans (I.base.keep b o e n hb l)
  .obtain ⟨J,e1⟩:=I.base.slot b o e n hb l
   exact⟨J,(f.2 b (MA (Mo (Heap.lt_size e) I.ok.above))).trans e1⟩
  .obtain ⟨O,e1⟩:=I.base.there b o e l
   exact⟨O,(f.2 b (MA (Mo (Heap.lt_size e) I.ok.above))).trans e1⟩
  .by_cases hj:j=i
   .subst hj
    rw[hi] at e1;cases e1
    rw[Mj S6] at e2
    cases e2
    exact⟨u,r,.inl ⟨t,by simp⟩⟩
   .rw[KE (MI hj)] at e2
    obtain ⟨G,L,q⟩:=hl j y F e1 e2 R
    refine⟨G,L,?_⟩
    rcases q with ⟨k,e⟩|⟨k,c,e,z⟩
    .refine .inl ⟨k,?_⟩
     have:y≠x:=fun e=>hj (sF U e1 (e▸hi))
     simp [this,e]
    .exact .inr ⟨k,c,e,z.sameBut f (cne y c e)⟩
  .obtain ⟨B,z⟩:=I.cell y c e
   exact⟨B,z.sameBut f (cne y c e)⟩
  .obtain ⟨e,n,ne,nf,d⟩:=I.pin p P
   exact⟨(f.2 p.1 ne).trans e,n,ne,nf,d⟩
 .have S:X.fn x=true:=by
   rcases hf with z|z
   .exact z
   .rw[z] at t;cases t
  obtain ⟨c,g⟩:=I.ok.has x (.inl t)
  obtain ⟨B,z⟩:=I.cell x c g
  refine wpAny_storeName_cell I.ok.kind t g z (fun h' Sj f=>?_)
  obtain ⟨T,Y,WT⟩:=id z
  refine h { s with heap:=h' } ⟨I.ok,I.os,I.bare,⟨fun b o e n hb l=>?_,fun b o e n hb l=>?_,I.base.free,fun b o e l=>?_,I.base.tups,I.base.frzs,I.base.tbls⟩,⟨m,hn.sameBut f (MI (cne x c g)),fun j y F e1 e2 R=>?_⟩,fun y C e=>?_,I.free,I.freeC,fun p P=>?_,Ql ⟨T,Y,I.freeC x c g⟩ f,by simpa using I.len⟩ ⟨c,f,.inr g⟩
  .exact (f.2 b (MA (Mo (Heap.lt_size e) (I.ok.cab x c S g)))).trans (I.base.keep b o e n hb l)
  .obtain ⟨J,e1⟩:=I.base.slot b o e n hb l
   exact⟨J,(f.2 b (MA (Mo (Heap.lt_size e) (I.ok.cab x c S g)))).trans e1⟩
  .obtain ⟨O,e1⟩:=I.base.there b o e l
   exact⟨O,(f.2 b (MA (Mo (Heap.lt_size e) (I.ok.cab x c S g)))).trans e1⟩
  .by_cases hj:j=i
   .subst hj
    rw[hi] at e1;cases e1
    rw[Mj S6] at e2
    cases e2
    exact⟨u,r,.inr ⟨.inl t,c,g,Sj⟩⟩
   .rw[KE (MI hj)] at e2
    obtain ⟨G,L,q⟩:=hl j y F e1 e2 R
    refine⟨G,L,?_⟩
    rcases q with q|⟨k,C,e,z'⟩
    .exact .inl q
    .refine .inr ⟨k,C,e,z'.sameBut f ?_⟩
     rintro rfl
     exact hj (sF U e1 (I.ok.inj _ _ _ e g▸hi))
  .by_cases Z:C=c
   .subst Z;exact⟨_,Sj⟩
   .obtain ⟨w2,z2⟩:=I.cell y C e
    exact⟨w2,z2.sameBut f Z⟩
  .obtain ⟨e,n,ne,nf,d⟩:=I.pin p P
   refine⟨(f.2 p.1 ?_).trans e,n,ne,nf,d⟩
   intro q
   rw[q,Y] at e
   have q':T=p.2:=MH e
   exact d B (by rw[<- q'];exact WT)
def kB{M:Model}{A:Around}{E:Value->Shared->Prop}{i:Nat}{x:Str}{v:V}{u:Value}{Q:Unit->Shared->Prop}(I:Inv X pins σ H s)(e:X.N.Nodup)(hi:X.N[i]?=some x)(b:Loc X.env.scope x)(r:RelV v u)
  (h:∀s',Inv X pins (σ.set i (some v)) H s'->Q () s') (c:X.fn x=true\/X.env.scope.names.lookup x=some .local:=by first|exact .inl rfl|exact .inr rfl|assumption):wpAny M A (storeName X.env x u) Q E s :=
 wb I e hi b r (fun s' f _=>h s' f) c
def Inv.rG{s':Shared}{ch:List Addr}(I:Inv X pins σ H s)(g:s'.os=s.os)(u:Un (frs X.stack) ch H H' s.heap s'.heap)(hok:HOk X.prog X.w H' s'.heap)(h:AllBare s'.gens)
  (hch:∀b∈ch,(b∈X.ex\/X.s₀.heap.objs.size<=b)/\b≠X.env.locals/\(∀x c,X.env.cells.lookup x=some c->c≠b)/\∀p∈X.pn++pins,p.1≠b):Inv X pins σ H' s':=by
 obtain ⟨h',g',d',t',f⟩:=s'
 have e:f=s.os:=g
 subst e
 exact I.call (g':=g') (t':=t') (d':=d') u hok h hch
end
abbrev XK:=Value->Option Addr->Hp->Prop
abbrev St:=List (Option V)
abbrev VK:=V->Hp->Prop
abbrev TE:=St->Hp->VK->Prop
abbrev TT:=St->Hp->(Bool->Hp->Prop)->Prop
abbrev TA:=St->Hp->(List V->Hp->Prop)->Prop
structure Ends where
 nx:St->Hp->Prop
 rt:VK
 bk:St->Hp->Prop:=fun _ _=>False
 ct:St->Hp->Prop:=fun _ _=>False
abbrev TS:=Ends->St->Hp->Prop
def EP(X:Cx)(b:List (Addr × Obj))(c:St)(Q:VK)(u:Value)(s':Shared):Prop:=∃v H',Inv X b c H' s'/\RelV v u/\Q v H'
def TP(X:Cx)(c:List (Addr × Obj))(e:St)(Q:Bool->Hp->Prop)(b:Bool)(s':Shared):Prop:=∃H',Inv X c e H' s'/\Q b H'
def AP(X:Cx)(b:List (Addr × Obj))(c:St)(Q:List V->Hp->Prop)(us:List Value)(s':Shared):Prop:=∃vs H',Inv X b c H' s'/\Vals vs us/\Q vs H'
def SP(X:Cx)(b:List (Addr × Obj))(D:Ends)(f:Flow)(s':Shared):Prop :=
 match f with
 |.next=>∃σ' H',Inv X b σ' H' s'/\D.nx σ' H'
 |.brk=>∃σ' H',Inv X b σ' H' s'/\D.bk σ' H'
 |.cont=>∃σ' H',Inv X b σ' H' s'/\D.ct σ' H'
 |.ret u=>∃v σ' H',Inv X b σ' H' s'/\RelV v u/\D.rt v H'
def PE(X:Cx)(e:Expr)(t:TE):Prop :=
 ∀(b:List (Addr × Obj)) (s:Shared) (c:St) (H:Hp) (Q:VK),Inv X b c H s->t c H Q->wpAny (model X.prog X.w) X.A (eval e X.env) (EP X b c Q) X.xe s
def PT(X:Cx)(e:Expr)(t:TT):Prop :=
 ∀(b:List (Addr × Obj)) (s:Shared) (c:St) (H:Hp) (Q:Bool->Hp->Prop),Inv X b c H s->t c H Q->wpAny (model X.prog X.w) X.A (isTrue e X.env (eval e X.env)) (TP X b c Q) X.xe s
def PW(X:Cx)(e:Expr)(t:TT):Prop :=
 ∀(f:Sem Value) (b:List (Addr × Obj)) (s:Shared) (c:St) (H:Hp) (Q:Bool->Hp->Prop),Inv X b c H s->t c H Q->wpAny (model X.prog X.w) X.A (isTrue e X.env f) (TP X b c Q) X.xe s
def PW.pt{X:Cx}{e:Expr}{t:TT}(h:PW X e t):PT X e t:=h _
def PA(X:Cx)(es:List Expr)(t:TA):Prop :=
 ∀(e:Pos) (b:List (Addr × Obj)) (s:Shared) (c:St) (H:Hp) (Q:List V->Hp->Prop),Inv X b c H s->t c H Q->wpAny (model X.prog X.w) X.A (spliced (backTo e (starEach es X.env))) (AP X b c Q) X.xe s
def PS(X:Cx)(st:Stmt)(t:TS):Prop :=
 ∀(b:List (Addr × Obj)) (s:Shared) (c:St) (H:Hp) (D:Ends),Inv X b c H s->t D c H->wpAny (model X.prog X.w) X.A (exec st X.env) (SP X b D) X.xe s
def PSs(X:Cx)(st:List Stmt)(t:TS):Prop :=
 ∀(b:List (Addr × Obj)) (s:Shared) (c:St) (H:Hp) (D:Ends),Inv X b c H s->t D c H->wpAny (model X.prog X.w) X.A (execs st X.env) (SP X b D) X.xe s
def thn{b:Type}{t:Sem b}{Q c:b->Shared->Prop}{M:Model}{A:Around}{E:Value->Shared->Prop}{s:Shared}(h:wpAny M A t Q E s)(e:∀a s,Q a s->c a s):wpAny M A t c E s:=wpAny_mono h e fun _ _ x=>x
end L2
namespace L2
open PySem PySem.Spec PyProof.Rows
section
variable {X:Cx}
def b7(i:Nat):TE:=fun b H Q=>∃v,b[i]?=some (some v)/\Q v H
def tC(v:V):TE:=fun _ H Q=>Q v H
def KC{i:Nat}{x:Str}{y:Pos}(q:X.N[i]?=some x)(p:Vis X.env.scope x)(hd:(x == ("__debug__" : Str))=false:=by decide)(t:(x == ("__classdict__" : Str))=false:=by decide):PE X (.Name x y) (b7 i):=by
 intro f s o H Q I h
 obtain ⟨v,e,h⟩:=h
 obtain ⟨m,hn,hl⟩:=I.loc
 obtain ⟨u,r,l⟩:=hl i x v q e p
 have g:EP X f o Q u s:=⟨v,H,I,r,h⟩
 rcases l with ⟨b,hm⟩|⟨b,c,j,n⟩
 .exact wpAny_Name (wpAny_loadName_local I.ok.kind b hn hm g) hd
 .rcases b with b|b
  .exact wpAny_Name (wpAny_loadName_cell I.ok.kind b j n g) hd
  .exact wpAny_Name (wpAny_loadName_free I.ok.kind b j n g t) hd
def aq{i j MK}:PE X (.Constant (.int i) j MK) (tC (.int i)):=fun _ _ _ H _ I h=>wpAny_Constant_int ⟨.int i,H,I.tok _,⟨_,rfl⟩,h⟩
def fG{b j MK}:PE X (.Constant (.bool b) j MK) (tC (.bl b)):=fun _ _ _ H _ I h=>Constant_bool ⟨.bl b,H,I,rfl,h⟩
def lq{j MK}:PE X (.Constant .none j MK) (tC .non):=fun _ _ _ H _ I h=>Constant_none ⟨.non,H,I,rfl,h⟩
def cM{x j MK}:PE X (.Constant (.str x) j MK) (tC (.str x)):=fun _ _ _ H _ I h=>Calls.Constant_str ⟨.str x,H,I.tok _,⟨_,rfl⟩,h⟩
def Gl(X:Cx)(x:Str):Prop:=X.env.kindOf x=some .globalImplicit
def fh{E:Value->Shared->Prop}{b:List (Addr × Obj)}{s:Shared}{c:St}{H:Hp}{x:Str}{u:Value}{f:Pos}{Q:Value->Shared->Prop}(I:Inv X b c H s)(e:Gl X x)(hm:X.mg x=some u)(h:Q u s)
  (hd:(x == ("__debug__" : Str))=false:=by decide):wpAny (model X.prog X.w) X.A (eval (.Name x f) X.env) Q E s :=
 Calls.Name_function_global I.ok.kind e (Calls.loadGlobal_global (by rw[I.ok.glob];exact I.mod.glob.keeps I.bk) hm h) hd
def jz{E:Value->Shared->Prop}{b:List (Addr × Obj)}{s:Shared}{c:St}{H:Hp}{x:Str}{u:Value}{j:Pos}{Q:Value->Shared->Prop}(I:Inv X b c H s)(f:Gl X x)(hm:X.mg x=none)(e:bootBuiltins x=some u)(h:Q u s)
  (hn:x≠"__name__":=by decide) (hd:(x == ("__debug__" : Str))=false:=by decide):wpAny (model X.prog X.w) X.A (eval (.Name x j) X.env) Q E s:=by
 obtain ⟨l,i,g⟩:=I.mod.blt
 exact Calls.Name_function_global I.ok.kind f (Calls.loadGlobal_builtin (by rw[I.ok.glob];exact I.mod.glob.keeps I.bk) hm (by rw[I.ok.blt];exact i.keeps I.bk) ((g x hn).trans e) h) hd
def bA{x:Str}{v:V}{u:Value}{c:Pos}(b:Gl X x)(hm:X.mg x=some u)(r:RelV v u)(hd:(x == ("__debug__" : Str))=false:=by decide):PE X (.Name x c) (tC v) :=
 fun _ _ _ H _ I h=>fh I b hm ⟨v,H,I,r,h⟩ hd
def jS{x:Str}{v:V}{u:Value}{e:Pos}(c:Gl X x)(hm:X.mg x=none)(b:bootBuiltins x=some u)(r:RelV v u)(hn:x≠"__name__":=by decide)(hd:(x == ("__debug__" : Str))=false:=by decide):PE X (.Name x e) (tC v) :=
 fun _ _ _ H _ I h=>jz I c hm b ⟨v,H,I,r,h⟩ hn hd
variable {a b:Expr}{ta tb:TE}{MK:Pos}
def PC(X:Cx)(g:CmpOp)(a b:Expr)(t:TE):Prop :=
 ∀(c:List (Addr × Obj)) (s:Shared) (f:St) (H:Hp) (Q:VK),Inv X c f H s->t f H Q ->
  wpAny (model X.prog X.w) X.A (eval a X.env) (fun v e=>wpAny (model X.prog X.w) X.A (eval b X.env) (fun u h=>wpAny (model X.prog X.w) X.A (compareOp g v u) (EP X c f Q) X.xe h) X.xe e) X.xe s
def tB(t:TE):TT:=fun b H Q=>t b H fun x e=>∃c,x=.bl c/\Q c e
def K5{f:CmpOp}{t:TE}(h:PC X f a b t)(g:behindInMarks f b=false:=by first|exact nobehind _ (by decide) (by decide)|rfl):PT X (.Compare a [f] [b] MK) (tB t):=by
 intro e s i H Q I hw
 refine wpAny_isTrue_Compare1 (thn (h e s i H _ I hw) fun v y g=>thn g fun u r m=>thn m fun c p ⟨x,o,n,j,l⟩=>?_) g
 obtain ⟨d,rfl,q⟩:=l
 cases j
 exact wpAny_truthy_bool ⟨o,n,q⟩
def c3{e:Expr}{t:TE}(h:PE X e t)(j:∀c,isTrue e X.env c=(do let v <- c;standAt e.pos;holding [v] (truthy v)):=by intro _;rfl):PT X e (tB t):=by
 intro b s f H Q I hw
 refine isTrue_plain (thn (h b s f H _ I hw) fun v n ⟨x,m,l,g,i⟩=>?_) (j _)
 obtain ⟨d,rfl,q⟩:=i
 cases g
 exact wpAny_truthy_bool ⟨m,l,q⟩
variable {tA VE:TT}{Nm:List Expr}
def KD(t u:TT):TT:=fun b H Q=>t b H fun c e=>if c=true then u b e Q else Q false e
def tOr(t u:TT):TT:=fun b H Q=>t b H fun c e=>if c=true then Q true e else u b e Q
def K3(t:TT):TT:=fun b H Q=>t b H fun c e=>Q (!c) e
theorem pP(ha:PT X a tA):PW X (.BoolOp .And [a] MK) tA:=by
 intro g b s f H Q I h
 refine isTrue_and (thn (ha b s f H Q I h) fun c i e=>?_)
 cases c with
 |true=>exact isTrue_and_nil e
 |false=>exact e
theorem j5(ha:PT X a tA):PW X (.BoolOp .Or [a] MK) tA:=by
 intro g b s f H Q I h
 refine isTrue_or (thn (ha b s f H Q I h) fun c i e=>?_)
 cases c with
 |false=>exact isTrue_or_nil e
 |true=>exact e
theorem tM(ha:PT X a tA)(hb:PW X (.BoolOp .And (b::Nm) MK) VE):PW X (.BoolOp .And (a::b::Nm) MK) (KD tA VE):=by
 intro l e s f H Q I h
 refine isTrue_and (thn (ha e s f H _ I h) fun c m ⟨j,i,g⟩=>?_)
 cases c with
 |true=>exact hb l e m f j Q i g
 |false=>exact⟨j,i,g⟩
theorem lN(ha:PT X a tA)(hb:PW X (.BoolOp .Or (b::Nm) MK) VE):PW X (.BoolOp .Or (a::b::Nm) MK) (tOr tA VE):=by
 intro l e s f H Q I h
 refine isTrue_or (thn (ha e s f H _ I h) fun c m ⟨j,i,g⟩=>?_)
 cases c with
 |true=>exact⟨j,i,g⟩
 |false=>exact hb l e m f j Q i g
def dX(ha:PT X a tA):PT X (.UnaryOp .Not a MK) (K3 tA):=by
 intro b s e H Q I h
 exact isTrue_not (ha b s e H (fun c f=>Q (!c) f) I h)
def JA(f tb:TE):TE:=fun b H Q=>f b H fun x e=>∃c,x=.bl c/\if c=true then tb b e Q else Q (.bl false) e
def L6(f tb:TE):TE:=fun b H Q=>f b H fun x e=>∃c,x=.bl c/\if c=true then Q (.bl true) e else tb b e Q
def JG(e:TE):TE:=fun b H Q=>e b H fun x f=>∃c,x=.bl c/\Q (.bl (!c)) f
def qg{op}{t:TE}(h:PE X a t):PE X (.BoolOp op [a] MK) t:=fun b s c H Q I hw=>BoolOp_one (h b s c H Q I hw)
theorem tq(ha:PE X a ta)(hb:PE X (.BoolOp .And (b::Nm) MK) tb):PE X (.BoolOp .And (a::b::Nm) MK) (JA ta tb):=by
 intro e s g H Q I h
 refine BoolOp_and (thn (ha e s g H _ I h) fun v l ⟨x,j,i,m,f⟩=>?_)
 obtain ⟨c,rfl,f⟩:=f
 cases m
 refine wpAny_truthy_bool ?_
 cases c with
 |true=>exact hb e l g j Q i f
 |false=>exact⟨.bl false,j,i,rfl,f⟩
theorem Jn(ha:PE X a ta)(hb:PE X (.BoolOp .Or (b::Nm) MK) tb):PE X (.BoolOp .Or (a::b::Nm) MK) (L6 ta tb):=by
 intro e s g H Q I h
 refine BoolOp_or (thn (ha e s g H _ I h) fun v l ⟨x,j,i,m,f⟩=>?_)
 obtain ⟨c,rfl,f⟩:=f
 cases m
 refine wpAny_truthy_bool ?_
 cases c with
 |false=>exact hb e l g j Q i f
 |true=>exact⟨.bl true,j,i,rfl,f⟩
def Km(ha:PE X a ta):PE X (.UnaryOp .Not a MK) (JG ta):=by
 intro b s f H Q I h
 refine UnaryOp_ (thn (ha b s f H _ I h) fun v l ⟨x,j,i,g,e⟩=>?_)
 obtain ⟨c,rfl,e⟩:=e
 cases g
 exact not_of (wpAny_truthy_bool ⟨.bl (!c),j,i,rfl,e⟩)
def tIf(t:TT)(f tb:TE):TE:=fun b H Q=>t b H fun c e=>if c=true then f b e Q else tb b e Q
theorem uf{c:Expr}(m:PT X c tA)(ha:PE X a ta)(hb:PE X b tb):PE X (.IfExp c a b MK) (tIf tA ta tb):=by
 intro e s f H Q I h
 refine wpAny_IfExp (thn (m e s f H _ I h) fun d g ⟨l,j,i⟩=>?_)
 cases d with
 |true=>exact ha e g f l Q j i
 |false=>exact hb e g f l Q j i
end
end L2
namespace L2
open PySem PySem.Spec PyProof.Rows
def SqL(K:aad)(H:Hp)(a:Addr)(xs:List V):Prop :=
 Rd H a (.lst xs) \/
  ∃(o:Obj) (b:Array Value) (n:Nat),K.lookup a=some o/\o.cls=.type "list"/\o.dict=none/\o.data=.seq b n/\b.size<=sizeLine/\Vals xs b.toList
def SqT(K:aad)(H:Hp)(a:Addr)(xs:List V):Prop :=
 Rd H a (.tup xs) \/
  ∃(o:Obj) (b:Array Value) (n:Nat),K.lookup a=some o/\o.cls=.type "tuple"/\o.data=.seq b n/\b.size<=sizeLine/\Vals xs b.toList
def L7:Value->Option V
 |.none=>some .non
 |.bool b=>some (.bl b)
 |.int i _=>some (.int i)
 |.str x _=>some (.str x)
 |.bytes b _=>some (.byt b)
 |.float b _=>some (.flt b)
 |.ref a=>some (.ref a)
 |.type n=>some (.ty n)
 |_=>none
theorem RelV.abs{x:V}{u:Value}(r:RelV x u):L7 u=some x:=by
 cases x with
 |non=>cases r;rfl
 |bl _=>cases r;rfl
 |int _=>obtain ⟨t,rfl⟩:=r;rfl
 |str _=>obtain ⟨t,rfl⟩:=r;rfl
 |byt _=>obtain ⟨t,rfl⟩:=r;rfl
 |flt _=>obtain ⟨t,rfl⟩:=r;rfl
 |ref _=>cases r;rfl
 |ty _=>cases r;rfl
def RelV.inj{x y:V}{u:Value}(r:RelV x u)(q:RelV y u):x=y:=MH (r.abs.symm.trans q.abs)
theorem Vals.inj:∀{xs ys:List V}{us:List Value},Vals xs us->Vals ys us->xs=ys
 |_,_,_,.nil,.nil=>rfl
 |_,_,_,.cons r t,.cons b t'=>by rw[r.inj b,Vals.inj t t']
section
variable {X:Cx}{pins:List (Addr × Obj)}{σ:St}{H:Hp}{s:Shared}{a:Addr}{xs ys:List V}
def SqL.of{K:aad}(h:H a=some (.lst xs)):SqL K H a xs:=.inl (.inl h)
def SqT.of{K:aad}(h:H a=some (.tup xs)):SqT K H a xs:=.inl (.inl h)
def Inv.list(I:Inv X pins σ H s)(h:SqL X.K H a xs):∃b:List Value,Vals xs b/\PlainL s.heap a b.toArray/\xs.length<=sizeLine:=by
 rcases h with h|⟨o,b,n,f,g,hd,c,i,r⟩
 .obtain ⟨z,b,n,r,e⟩:=h.ok I.hok
  exact⟨b,r,⟨_,n,e,rfl,rfl,rfl⟩,z⟩
 .refine⟨b.toList,r,⟨o,n,I.kIn a o f,g,hd,by simpa using c⟩,?_⟩
  have e:=r.length
  simp only[MZ] at e
  omega
def Inv.tuple(I:Inv X pins σ H s)(h:SqT X.K H a xs):∃b:List Value,Vals xs b/\IsTup s.heap a b.toArray/\xs.length<=sizeLine:=by
 rcases h with h|⟨o,b,n,f,g,c,i,r⟩
 .obtain ⟨z,b,r,p⟩:=h.ok I.hok
  exact⟨b,r,p,z⟩
 .refine⟨b.toList,r,⟨o,I.kIn a o f,g,n,by simpa using c⟩,?_⟩
  have e:=r.length
  simp only[MZ] at e
  omega
def Inv.Ak(I:Inv X pins σ H s)(h:SqL X.K H a xs)(h':SqL X.K H a ys):xs=ys:=by
 obtain ⟨g,r,⟨o,n,e,_,_,d⟩,_⟩:=I.list h
 obtain ⟨its',c,⟨i,j,b,_,_,d'⟩,_⟩:=I.list h'
 rw[e] at b;cases b
 rw[d] at d'
 injection d' with f _
 have:g=its':=by simpa using congrArg Array.toList f
 subst this
 exact r.inj c
def Inv.Dz(I:Inv X pins σ H s)(h:SqT X.K H a xs)(h':SqT X.K H a ys):xs=ys:=by
 obtain ⟨g,r,⟨o,e,_,n,d⟩,_⟩:=I.tuple h
 obtain ⟨its',c,⟨i,b,_,j,d'⟩,_⟩:=I.tuple h'
 rw[e] at b;cases b
 rw[d] at d'
 injection d' with f _
 have:g=its':=by simpa using congrArg Array.toList f
 subst this
 exact r.inj c
end
abbrev Cx.oh(X:Cx)(E:Value->Shared->Prop):Cx:={ X with xe:=E }
abbrev Cx.nox(X:Cx):Cx:=X.oh fun _ _=>False
theorem Cx.Ok.oh{X:Cx}(ok:X.Ok)(E:Value->Shared->Prop):(X.oh E).Ok :=
 ⟨ok.mod,ok.kind,ok.glob,ok.blt,ok.above,ok.inj,ok.has,ok.cab,ok.hd,ok.frames,ok.stk,ok.exf,ok.bs,ok.bsz,ok.noex,ok.exfs,ok.nk,ok.frf⟩
def Cx.Ok.gA{X:Cx}{E:Value->Shared->Prop}(ok:(X.oh E).Ok):X.Ok :=
 ⟨ok.mod,ok.kind,ok.glob,ok.blt,ok.above,ok.inj,ok.has,ok.cab,ok.hd,ok.frames,ok.stk,ok.exf,ok.bs,ok.bsz,ok.noex,ok.exfs,ok.nk,ok.frf⟩
section
variable {X:Cx}{pins:List (Addr × Obj)}{σ:St}{H:Hp}{s:Shared}{E:Value->Shared->Prop}
theorem Inv.oh(I:Inv X pins σ H s)(E:Value->Shared->Prop):Inv (X.oh E) pins σ H s:=⟨I.ok.oh E,I.os,I.bare,I.base,I.loc,I.cell,I.free,I.freeC,I.pin,I.hok,I.len⟩
theorem Inv.gA(I:Inv (X.oh E) pins σ H s):Inv X pins σ H s:=⟨I.ok.gA,I.os,I.bare,I.base,I.loc,I.cell,I.free,I.freeC,I.pin,I.hok,I.len⟩
theorem SP.gA{D:Ends}{f:Flow}{s':Shared}(h:SP (X.oh E) pins D f s'):SP X pins D f s':=by
 cases f with
 |next=>obtain ⟨σ',H',I,q⟩:=h;exact⟨σ',H',I.gA,q⟩
 |brk=>obtain ⟨σ',H',I,q⟩:=h;exact⟨σ',H',I.gA,q⟩
 |cont=>obtain ⟨σ',H',I,q⟩:=h;exact⟨σ',H',I.gA,q⟩
 |ret u=>obtain ⟨v,σ',H',I,r,q⟩:=h;exact⟨v,σ',H',I.gA,r,q⟩
theorem PT.nox{e:Expr}{t:TT}(h:PT X.nox e t):PT X e t:=fun pins s σ H Q I hw =>
 wpAny_mono (h pins s σ H Q (I.oh _) hw) (fun _ _ ⟨H',b,q⟩=>⟨H',b.gA,q⟩) fun _ _ z=>False.elim z
theorem PSs.nox{st:List Stmt}{t:TS}(h:PSs X.nox st t):PSs X st t:=fun pins s σ H D I hw =>
 wpAny_mono (h pins s σ H D (I.oh _) hw) (fun _ _ q=>q.gA) fun _ _ z=>False.elim z
end
section
variable {X:Cx}{st:Stmt}{Nm:List Stmt}{t u:TS}{e:Expr}{te:TE}{MK:Pos}
def Cc:TS:=fun D b H=>D.nx b H
def wV(t u:TS):TS:=fun D b H=>t { D with nx:=u D } b H
def aV:PSs X [] Cc:=fun _ _ b H _ I h=>wpAny_execs_nil ⟨b,H,I,h⟩
theorem ak(i:PS X st t)(g:PSs X Nm u):PSs X (st::Nm) (wV t u):=by
 intro b s c H D I h
 refine wpAny_execs_cons (thn (i b s c H { D with nx:=u D } I h) fun f e q=>?_)
 cases f with
 |next =>
  obtain ⟨σ',H',j,q⟩:=q
  exact g b e σ' H' D j q
 |ret v=>exact q
 |brk=>exact q
 |cont=>exact q
theorem av(e:PS X st t):PSs X [st] t:=by
 intro b s c H D I h
 refine wpAny_execs_cons (thn (e b s c H D I h) fun f g q=>?_)
 cases f with
 |next=>exact wpAny_execs_nil q
 |ret v=>exact q
 |brk=>exact q
 |cont=>exact q
def Inv.quiet{b:List (Addr × Obj)}{c:St}{H:Hp}{s:Shared}(I:Inv X b c H s):interactive X.env=false:=by simp [interactive,I.ok.kind]
def v5(c:TE):TS:=fun D b H=>c b H fun _ e=>D.nx b e
def cZ(i:PE X e te)(g:swapsWith e none MK.line X.env=pure false:=by rfl):PS X (.Expr e MK) (v5 te):=by
 intro b s c H D I h
 exact wpAny_Expr_any (thn (i b s c H _ I h) fun v m ⟨x,l,j,n,f⟩=>⟨c,l,j,f⟩) I.quiet g
def Az(c:TE):TS:=fun D b H=>c b H D.rt
def aB(i:PE X e te):PS X (.Return (some e) MK) (Az te):=by
 intro b s c H D I h
 exact wpAny_Return_some (thn (i b s c H _ I h) fun v m ⟨x,l,j,f,g⟩=>⟨x,c,l,j,f,g⟩)
def EA(c:TT)(t u:TS):TS:=fun D e H=>c e H fun b f=>if b=true then t D e f else u D e f
theorem bB{c:Expr}{a b:List Stmt}{g:TT}(n:PT X c g)(ha:PSs X a t)(hb:PSs X b u):PS X (.If c a b MK) (EA g t u):=by
 intro e s f H D I h
 refine wpAny_If (thn (n e s f H _ I h) fun d i ⟨m,l,j⟩=>?_)
 cases d with
 |true=>exact ha e i f m D l j
 |false=>exact hb e i f m D l j
end
abbrev TG:=V->St->Hp->(St->Hp->Prop)->Prop
abbrev TGs:=List V->St->Hp->(St->Hp->Prop)->Prop
def PG(X:Cx)(e:Expr)(t:TG):Prop :=
 ∀(b:List (Addr × Obj)) (s:Shared) (c:St) (H:Hp) (v:V) (u:Value) (Q:St->Hp->Prop),Inv X b c H s->RelV v u->t v c H Q ->
  wpAny (model X.prog X.w) X.A (assign e X.env u) (fun _ s'=>∃σ' H',Inv X b σ' H' s'/\Q σ' H') X.xe s
def PGs(X:Cx)(e:List Expr)(t:TGs):Prop :=
 ∀(b:List (Addr × Obj)) (s:Shared) (c:St) (H:Hp) (vs:List V) (us:List Value) (Q:St->Hp->Prop),Inv X b c H s->Vals vs us->t vs c H Q ->
  wpAny (model X.prog X.w) X.A (assignInOrder ((assignEach e X.env).map (·.2)) us) (fun _ s'=>∃σ' H',Inv X b σ' H' s'/\Q σ' H') X.xe s
abbrev JS:=V->V->V->Hp->(Hp->Prop)->Prop
def LU(X:Cx)(t:JS):Prop :=
 ∀(b:List (Addr × Obj)) (s:Shared) (c:St) (H:Hp) (o i v:V) (e f u:Value) (Q:Hp->Prop),Inv X b c H s->RelV o e->RelV i f->RelV v u->t o i v H Q ->
  wpAny (model X.prog X.w) X.A (setItem e f u) (fun _ s'=>∃H',Inv X b c H' s'/\Q H') X.xe s
section
variable {X:Cx}{MK:Pos}
def eO(i:Nat):TG:=fun v b H Q=>Q (b.set i (some v)) H
def gO{i:Nat}{x:Str}(f:X.N.Nodup)(hi:X.N[i]?=some x)(c:Loc X.env.scope x)(e:X.fn x=true\/X.env.scope.names.lookup x=some .local:=by first|exact .inl rfl|exact .inr rfl|assumption):PG X (.Name x MK) (eO i):=by
 intro b s j H v u Q I r h
 exact wpAny_assign_Name (kB I f hi c r (fun s' g=>⟨_,H,g,h⟩) e)
def JR:TGs:=fun vs b H Q=>vs=[]/\Q b H
def EV(t:TG)(u:TGs):TGs:=fun vs b H Q=>∃v r,vs=v::r/\t v b H fun σ' H'=>u r σ' H' Q
def CH:PGs X [] JR:=by
 intro b s c H vs us Q I r h
 obtain ⟨e,h⟩:=h
 subst e
 cases r
 exact assignInOrder_nil ⟨c,H,I,h⟩
theorem oI{e:Expr}{es:List Expr}{t:TG}{u:TGs}(m:PG X e t)(l:PGs X es u)
  (j:(assignEach (e::es) X.env).map (·.2)=assign e X.env::(assignEach es X.env).map (·.2):=by rfl):PGs X (e::es) (EV t u):=by
 intro b s c H vs us Q I r h
 obtain ⟨v,q,e1,h⟩:=h
 subst e1
 cases r with
 |cons r g =>
  rw[j]
  refine assignInOrder_cons (thn (m b s c H _ _ _ I r h) fun _ f ⟨n,p,o,i⟩=>?_)
  exact l b f n p _ _ Q o g i
def HL(K:aad)(n:Nat)(t:TGs):TG:=fun v b H Q=>∃a xs,v=.ref a/\SqT K H a xs/\xs.length=n/\t xs b H Q
def JN{es:List Expr}{k:Nat}{t:TGs}{n:Nat}(l:X.calm=true)(h:PGs X es t)
  (hn:(assignEach es X.env).length=n:=by rfl) (m:(assignEach es X.env).findIdx? (·.1)=none:=by rfl):PG X (.Tuple es k MK) (HL X.K n t):=by
 intro c s f H v u Q I r hw
 obtain ⟨a,xs,e1,j,hl,hw⟩:=hw
 subst e1
 cases r
 obtain ⟨x,g,ht,q⟩:=I.tuple j
 refine assign_Tuple_tuple (I.ok.hd l) ht (by simp [hn,<- hl,g.length]) m fun h' i=>?_
 have p:Inv X c f H { s with heap:=h' }:=I.kept (t':=s.toks) fun b o e=>i b o (MA (Heap.lt_size e)) e
 exact h c _ f H xs _ Q p (by simpa using g) hw
def AB(c ti:TE)(t:JS):TG:=fun v b H Q=>c b H fun o g=>ti b g fun i f=>t o i v f fun e=>Q b e
def lB{o i:Expr}{g ti:TE}{t:JS}(z:PE X o g)(hi:PE X i ti)(q:LU X t)
  (ha:∀v,assign (.Subscript o i MK) X.env v=(do
   let c <- holding [v] (eval o X.env)
   let e <- holding [v,c] (eval i X.env)
   standAt MK
   holding [v,c,e] (setItem c e v)
   release [v,c,e] []):=by intro _;rfl):PG X (.Subscript o i MK) (AB g ti t):=by
 intro b s f H v u Q I r h
 rw[ha]
 refine wpAny_bind (wpAny_holding (thn (z b s f H _ I h) fun c l ⟨x,J,E,n,p⟩=>?_))
 refine wpAny_bind (wpAny_holding (thn (hi b l f J _ E p) fun e j ⟨y,G,C,m,q2⟩=>?_))
 refine wpAny_bind (wpAny_standAt (wpAny_bind (wpAny_holding (thn (q b j f G x y v c e u _ C n m r q2) fun _ L ⟨F,B,q3⟩=>?_))))
 exact wpAny_release ⟨f,F,B,q3⟩
def jZ(c:TE)(g:TG):TS:=fun D b H=>c b H fun x e=>g x b e D.nx
def j7{c e:Expr}{i:TE}{g:TG}(p:PE X e i)(o:PG X c g)(n:swapsWithSole [c] e MK.line X.env=pure false:=by rfl)(hw:swappedStores [c] e X.env=pure none:=by rfl)
  (r:(assignEach [c] X.env).map (·.2)=[assign c X.env]:=by rfl):PS X (.Assign [c] e MK) (jZ i g):=by
 intro b s f H D I h
 refine wpAny_Assign_stores (thn (p b s f H _ I h) fun v j ⟨x,u,t,l,m⟩=>?_) n hw
 rw[r]
 exact thn (o b j f u x v _ t l m) fun _ y q=>q
def A5{i:Nat}{x:Str}{e:Expr}{c:TE}{f:Pos}(q:X.N.Nodup)(hi:X.N[i]?=some x)(m:Loc X.env.scope x)(p:PE X e c)(n:swapsWith e (some (.Name x f)) MK.line X.env=pure false:=by rfl)(o:X.fn x=true\/X.env.scope.names.lookup x=some .local:=by first|exact .inl rfl|exact .inr rfl|assumption) :
  PS X (.Assign [.Name x f] e MK) (jZ c (eO i)):=by
 intro b s g H D I h
 refine wpAny_Assign_Name (thn (p b s g H _ I h) fun v B ⟨y,u,t,j,l⟩=>?_) n
 exact kB t q hi m j (fun z r=>⟨_,u,r,l⟩) o
end
section
variable {X:Cx}{MK:Pos}
def G2(c:TT)(tb:TS):TS:=fun D e H=>∃W:Nat->St->Hp->Prop,(∃m,W m e H)/\∀m e H,W m e H ->
 c e H fun b g=>if b=true then ∃N:St->Hp->Prop,(∀σ' H',N σ' H'->∃f,f < m/\W f σ' H')/\tb { D with nx:=N,ct:=N,bk:=D.nx } e g else D.nx e g
theorem uM{c:Expr}{u:List Stmt}{q:TT}{tb:TS}(r:PassesOwn (model X.prog X.w) X.A X.env X.xe)(L:PT X c q)(hb:PSs X u tb):PS X (.While c u [] MK) (G2 q tb):=by
 intro e s B H D I h
 obtain ⟨W,⟨J,E⟩,turn⟩:=h
 refine wpAny_While (codeAny_whileLoop (fun n s'=>∃σ' H',Inv X e σ' H' s'/\W n σ' H') ?_ J ⟨B,H,I,E⟩)
 rintro n G ⟨j,z,M,C⟩
 refine wpAny_passesOwn r (thn (L e G j z _ M (turn n j z C)) fun b F ⟨y,x,q2⟩=>?_)
 cases b with
 |true =>
  obtain ⟨N,t,q2⟩:=q2
  rw[if_pos rfl]
  refine wpAny_passesOwn r (thn (hb e F j y _ x q2) fun f O q3=>?_)
  cases f with
  |next =>
   obtain ⟨g,i,p,m⟩:=q3
   obtain ⟨o,hm,l⟩:=t g i m
   exact⟨o,hm,g,i,p,l⟩
  |cont =>
   obtain ⟨g,i,p,m⟩:=q3
   obtain ⟨o,hm,l⟩:=t g i m
   exact⟨o,hm,g,i,p,l⟩
  |brk=>exact q3
  |ret v=>exact q3
 |false =>
  rw[if_neg Mz]
  exact wpAny_execs_nil ⟨j,y,x,q2⟩
end
structure It where
 go:Nat->Hp->Prop
 yld:Nat->Hp->V->Hp->Prop
 stop:Nat->Hp->Prop
def sZ(X:Cx)(e:List (Addr × Obj))(H:Hp)(b:Addr):Prop :=
 H b=none/\b≠X.env.locals/\b∉X.fs/\(b∈X.ex\/X.s₀.heap.objs.size<=b)/\(∀x c,X.env.cells.lookup x=some c->c≠b)/\∀p∈X.pn++e,p.1≠b
def Inv.Hu{X:Cx}{f:List (Addr × Obj)}{g:St}{H H':Hp}{s:Shared}{b:Addr}(I:Inv X f g H s)(hb:s.heap.objs.size<=b)(hn:H' b=none):sZ X f H' b:=by
 refine⟨hn,Nat.ne_of_gt (Mo I.lt hb),I.Lz hb,.inr (ME I.sz hb),fun x c e z=>?_,fun p h z=>?_⟩
 .obtain ⟨v,q⟩:=I.cell x c e
  exact absurd (Mo q.lt (by rw[z];exact hb)) (Nd _)
 .exact absurd (Mo (Heap.lt_size (I.pin p h).1) (by rw[z];exact hb)) (Nd _)
structure Turn(P:Program)(w:World)(K:aad)(tg:Expr)(J:It)(fp:List Addr)(it:Addr)(tn:Nat->Heap->Prop):Prop where
 mem:it∈fp
 obj:∀i h,tn i h->∀b∈fp,∃o,h.get? b=some o/\∀v,o.data≠.cell v
 keep:∀i h h',tn i h->(∀b∈fp,∀o,h.get? b=some o->h'.get? b=some o)->tn i h'
 item:∀(X:Cx),X.prog=P->X.w=w->X.K=K->X.calm=true->∀(i:Nat) (pins:List (Addr × Obj)) (s:Shared) (σ:St) (H:Hp) (E:Value->Shared->Prop),Inv X pins σ H s->(∀b∈fp,sZ X pins H b)->tn i s.heap->J.go i H ->
  wpAny (model P w) X.A (pyNext (.ref it)) (fun r s1=>∃u,r=some u /\
   wpAny (model P w) X.A (letOwnedTupleGo tg (.ref it) u) (fun _ s2=>∃x H',Inv X pins σ H' s2/\RelV x u/\J.yld i H x H'/\tn (i+1) s2.heap/\∀b∈fp,H' b=none) E s1) E s
 done:∀(X:Cx),X.prog=P->X.w=w->X.K=K->X.calm=true->∀(i:Nat) (pins:List (Addr × Obj)) (s:Shared) (σ:St) (H:Hp) (E:Value->Shared->Prop),Inv X pins σ H s->(∀b∈fp,sZ X pins H b)->tn i s.heap->J.stop i H ->
  wpAny (model P w) X.A (pyNext (.ref it)) (fun r s1=>r=none/\Inv X pins σ H s1) E s
 self:∀(A:Around) (i:Nat) (s:Shared) (Q:Value->Shared->Prop) (E:Value->Shared->Prop),tn i s.heap->Q (.ref it) s->wpAny (model P w) A (pyIter (.ref it)) Q E s
abbrev TI:=St->Hp->(It->Hp->Prop)->Prop
def PIE(X:Cx)(c:List (Addr × Obj))(f:St)(g:Expr)(R:It->Hp->Prop)(h:Value)(e:Shared):Prop :=
 ∃(it:Addr) (fp:List Addr) (tn:Nat->Heap->Prop) (J:It) (H':Hp),h=.ref it/\Inv X c f H' e/\Turn X.prog X.w X.K g J fp it tn/\tn 0 e.heap/\(∀b∈fp,sZ X c H' b)/\R J H'
def PI(X:Cx)(f iter:Expr)(e:TI):Prop :=
 ∀(b:List (Addr × Obj)) (s:Shared) (c:St) (H:Hp) (R:It->Hp->Prop),Inv X b c H s->e c H R ->
  wpAny (model X.prog X.w) X.A (eval iter X.env) (fun v g=>wpAny (model X.prog X.w) X.A (pyIter v) (PIE X b c f R) X.xe g) X.xe s
def Hc{M:Model}{A:Around}{E:Value->Shared->Prop}{s:Shared}{c:Expr}{it:Addr}{u:Value}{o:Obj}{n:String}{vs:Array Value}{Q:Unit->Shared->Prop}(e:s.heap.get? it=some o)(f:o.cls=.type n)(hd:o.data=.fields vs)
  (hn:["enumerate","zip","dict_itemiterator","dict_reverseitemiterator","odict_iterator","itertools.zip_longest","itertools.pairwise"].contains n=false) (b:Q () s):wpAny M A (letOwnedTupleGo c (.ref it) u) Q E s:=by
 unfold letOwnedTupleGo
 cases c<;>first
  |exact wpAny_pure b
  |(cases u<;>first
    |exact wpAny_pure b
    |(refine wpAny_bind (wpAny_load e ?_)
      rw[f,hd]
      show wpAny M A (if (["enumerate","zip","dict_itemiterator","dict_reverseitemiterator","odict_iterator","itertools.zip_longest","itertools.pairwise"].contains n && vs[0]? == some (rawInt _))=true then _ else _) Q E s
      rw[if_neg (by intro h;rw[hn,Bool.false_and] at h;cases h)]
      exact wpAny_pure b))
def Itl(K:aad)(a:Addr):It :=
 ⟨fun i H=>∃xs x,SqL K H a xs/\xs[i]?=some x,fun i H x H'=>H'=H/\∀xs,SqL K H a xs->xs[i]?=some x,fun i H=>∃xs,SqL K H a xs/\xs.length<=i⟩
def Itt(K:aad)(a:Addr):It :=
 ⟨fun i H=>∃xs x,SqT K H a xs/\xs[i]?=some x,fun i H x H'=>H'=H/\∀xs,SqT K H a xs->xs[i]?=some x,fun i H=>∃xs,SqT K H a xs/\xs.length<=i⟩
def Itr(lo:Int)(n:Nat):It:=⟨fun i _=>i<n,fun i H x H'=>H'=H/\x=.int (lo+i),fun i _=>n<=i⟩
def DZ{P:Program}{w:World}{K:aad}{M:Expr}(a it:Addr):Turn P w K M (Itl K a) [it] it (fun i h=>h.IsListIter it a i) where
 mem:=by simp
 obj:=fun i h st b hb=>by
  have e:b=it:=by simpa using hb
  subst e
  obtain ⟨o,e,c,d⟩:=st
  exact⟨o,e,fun v z=>by rw[d] at z;cases z⟩
 keep:=fun i h h' st k=>st.at fun o e=>k it (by simp) o e
 item:=by
  intro X q hw r J i f s G H E I j st n
  subst q hw r
  obtain ⟨xs,x,g,m⟩:=n
  obtain ⟨Z,l,p,R⟩:=I.list g
  obtain ⟨u,T,Q⟩:=l.get m
  obtain ⟨F,C,U,B,y,t⟩:=j it (by simp)
  refine wpAny_pyNext_list_item st p.isList (x:=u) (by simpa using T) fun h' L O=>?_
  have I1:Inv X f G H { s with heap:=h' }:=I.turned (t':=s.toks) (fun b o hb e=>(O.2 b hb).trans e) F C B y t
  obtain ⟨o,e,c,d⟩:=id L
  exact⟨u,rfl,Hc (s:={ s with heap:=h' }) e c d (by decide) ⟨x,H,I1,Q,⟨rfl,fun ys S=>by rw[I.Ak S g];exact m⟩,L,fun b hb=>(j b hb).1⟩⟩
 done:=by
  intro X q hw r J i f s G H E I j st n
  subst q hw r
  obtain ⟨xs,g,m⟩:=n
  obtain ⟨Z,l,p,R⟩:=I.list g
  obtain ⟨F,C,U,B,y,t⟩:=j it (by simp)
  have hl:=l.length
  exact wpAny_pyNext_list_end (I.ok.hd J) st p.isList (by simp;omega) fun h' Y=>⟨rfl,I.turned (t':=s.toks) (fun b o hb e=>Y b o hb e) F C B y t⟩
 self:=fun _ _ _ _ _ st h=>wpAny_pyIter_listiter st h
def AD{P:Program}{w:World}{K:aad}{O:Expr}(a it:Addr):Turn P w K O (Itt K a) [it] it (fun i h=>h.IsTupleIter it a i) where
 mem:=by simp
 obj:=fun i h st b hb=>by
  have e:b=it:=by simpa using hb
  subst e
  obtain ⟨o,e,c,d⟩:=st
  exact⟨o,e,fun v z=>by rw[d] at z;cases z⟩
 keep:=fun i h h' st k=>st.at fun o e=>k it (by simp) o e
 item:=by
  intro X q hw r L i f s J H E I j st n
  subst q hw r
  obtain ⟨xs,x,g,m⟩:=n
  obtain ⟨G,l,p,S⟩:=I.tuple g
  obtain ⟨u,U,R⟩:=l.get m
  obtain ⟨F,C,Y,B,y,t⟩:=j it (by simp)
  refine wpAny_pyNext_tuple_item st (show s.heap.IsTuple a G.toArray from p) (x:=u) (by simpa using U) fun h' M Q=>?_
  have I1:Inv X f J H { s with heap:=h' }:=I.turned (t':=s.toks) (fun b o hb e=>(Q.2 b hb).trans e) F C B y t
  obtain ⟨o,e,c,d⟩:=id M
  exact⟨u,rfl,Hc (s:={ s with heap:=h' }) e c d (by decide) ⟨x,H,I1,R,⟨rfl,fun ys T=>by rw[I.Dz T g];exact m⟩,M,fun b hb=>(j b hb).1⟩⟩
 done:=by
  intro X q hw r L i f s J H E I j st n
  subst q hw r
  obtain ⟨xs,g,m⟩:=n
  obtain ⟨G,l,p,S⟩:=I.tuple g
  obtain ⟨F,C,Y,B,y,t⟩:=j it (by simp)
  have hl:=l.length
  exact wpAny_pyNext_tuple_end (I.ok.hd L) st (show s.heap.IsTuple a G.toArray from p) (by simp;omega) fun h' Z=>⟨rfl,I.turned (t':=s.toks) (fun b o hb e=>Z b o hb e) F C B y t⟩
 self:=fun _ _ _ _ _ st h=>wpAny_pyIter_tupleiter st h
def As{P:Program}{w:World}{K:aad}{G:Expr}(it:Addr)(lo:Int)(n:Nat):Turn P w K G (Itr lo n) [it] it (fun i h=>IsRangeIter h it (lo+(i:Nat)*1) ((n:Int) - (i:Nat)) 1) where
 mem:=by simp
 obj:=fun i h st b hb=>by
  have e:b=it:=by simpa using hb
  subst e
  exact⟨_,st,fun v z=>by
   have F:Data.fields _=Data.cell v:=z
   cases F⟩
 keep:=fun i h h' st k=>k it (by simp) _ st
 item:=by
  intro X l hw m j i c s y H E I f st g
  subst l hw m
  obtain ⟨x,u,M,r,q,p⟩:=f it (by simp)
  have W:=Walks.range (prog:=X.prog) (w:=X.w) (I.ok.hd j) it lo 1 n
  refine W.item i s _ _ g st fun v h' B L C J=>?_
  obtain ⟨t,rfl⟩:=L
  have Q:Inv X c y H { s with heap:=h',toks:=B }:=I.turned (fun b o hb e=>J b o (by simpa using hb) e) x u r q p
  refine⟨_,rfl,Hc (s:={ s with heap:=h',toks:=B }) (n:="range_iterator") C rfl rfl (by decide) ⟨.int (lo+i),H,Q,⟨t,?_⟩,⟨rfl,rfl⟩,C,fun b hb=>(f b hb).1⟩⟩
  rw[Int.mul_one]
 done:=by
  intro X l hw m j i c s y H E I f st g
  subst l hw m
  obtain ⟨x,u,M,r,q,p⟩:=f it (by simp)
  exact wpAny_pyNext_range_end (I.ok.hd j) st (by have:n<=i:=g;omega) fun h' O=>⟨rfl,I.turned (t':=s.toks) (fun b o hb e=>O b o hb e) x u r q p⟩
 self:=fun _ _ _ _ _ st h=>wpAny_pyIter_rangeiter st h
end L2
namespace L2
open PySem PySem.Spec PyProof.Rows
section
variable {X:Cx}{tg:Expr}
def zk(K:aad)(e:TE):TI:=fun c H R=>e c H fun x b=>∃a,x=.ref a/\(∃xs,SqL K b a xs)/\R (Itl K a) b
def KO(K:aad)(e:TE):TI:=fun c H R=>e c H fun x b=>∃a,x=.ref a/\(∃xs,SqT K b a xs)/\R (Itt K a) b
def HY{l:Expr}{i:TE}(hl:PE X l i):PI X tg l (zk X.K i):=by
 intro c s j H R I h
 refine thn (hl c s j H _ I h) fun v f ⟨x,t,g,m,n⟩=>?_
 obtain ⟨a,e,⟨xs,r⟩,q⟩:=n
 subst e
 cases m
 obtain ⟨z,u,p,y⟩:=g.list r
 refine wpAny_pyIter_list p.isList ?_
 refine⟨f.heap.objs.size,[f.heap.objs.size],_,_,t,rfl,g.kept (t':=f.toks) fun b o e=>Heap.get?_push_of_some _ e,DZ a _,⟨_,Heap.get?_push_size _ rfl,rfl,rfl⟩,fun b hb=>?_,q⟩
 have e:b=f.heap.objs.size:=by simpa using hb
 subst e
 exact g.Hu (Mm _) (g.hok.fresh (Mm _))
def J1{l:Expr}{i:TE}(hl:PE X l i):PI X tg l (KO X.K i):=by
 intro f s j H R I h
 refine thn (hl f s j H _ I h) fun v c ⟨x,u,g,m,n⟩=>?_
 obtain ⟨a,e,⟨xs,r⟩,q⟩:=n
 subst e
 cases m
 obtain ⟨t,y,p,z⟩:=g.tuple r
 refine wpAny_pyIter_tuple (show c.heap.IsTuple a t.toArray from p) ?_
 refine⟨c.heap.objs.size,[c.heap.objs.size],_,_,u,rfl,g.kept (t':=c.toks) fun b o e=>Heap.get?_push_of_some _ e,AD a _,⟨_,Heap.get?_push_size _ rfl,rfl,rfl⟩,fun b hb=>?_,q⟩
 have e:b=c.heap.objs.size:=by simpa using hb
 subst e
 exact g.Hu (Mm _) (g.hok.fresh (Mm _))
def yG{c:List (Addr × Obj)}{f:St}{H:Hp}{s:Shared}{R:It->Hp->Prop}{E:Value->Shared->Prop}{lo hi:Int}{t u v:Tok}{g:Nat}(I:Inv X c f H s)(m : -(2 ^ 62)<=lo)(l:lo<2 ^ 62)(j : -(2 ^ 62)<=hi)(i:hi<2 ^ 62)
  (q:R (Itr lo (hi - lo).toNat) H):wpAny (model X.prog X.w) X.A (pyIter (.ref s.heap.objs.size)) (PIE X c f tg R) E { s with heap:=s.heap.push { cls:=.type "range",data:=.fields #[.int lo t,.int hi u,.int 1 v] },toks:=g }:=by
 refine wpAny_pyIter_range (IsRange.new ..) (small_one m l j i) ?_
 have h:Inv X c f H { s with heap:=s.heap.push { cls:=.type "range",data:=.fields #[.int lo t,.int hi u,.int 1 v] },toks:=g }:=I.kept fun b o e=>Heap.get?_push_of_some _ e
 refine⟨(s.heap.push { cls:=.type "range",data:=.fields #[.int lo t,.int hi u,.int 1 v] }).objs.size,[(s.heap.push { cls:=.type "range",data:=.fields #[.int lo t,.int hi u,.int 1 v] }).objs.size],_,_,H,rfl,
  h.kept (t':=g) fun b o e=>Heap.get?_push_of_some _ e,As _ lo (hi - lo).toNat,?_,fun b hb=>?_,q⟩
 .have e1:lo+((0:Nat):Int)*1=lo:=by simp
  have e2:(((hi - lo).toNat:Nat):Int) - ((0:Nat):Int)=Builtin.Range.rangeSize lo hi 1:=by rw[rangeSize_one];split<;>omega
  show IsRangeIter _ _ (lo+((0:Nat):Int)*1) ((((hi - lo).toNat:Nat):Int) - ((0:Nat):Int)) 1
  rw[e1,e2]
  exact Heap.get?_push_size _ rfl
 .have e:b=(s.heap.push { cls:=.type "range",data:=.fields #[.int lo t,.int hi u,.int 1 v] }).objs.size:=by simpa using hb
  subst e
  exact h.Hu (Mm _) (h.hok.fresh (Mm _))
def JI(c:TA):TI:=fun b H R=>c b H fun vs e=>∃j:Int,vs=[.int j]/\-(2 ^ 62)<=j/\j<2 ^ 62/\R (Itr 0 j.toNat) e
def Jo(c:TA):TI:=fun b H R=>c b H fun vs e=>∃i j:Int,vs=[.int i,.int j]/\(-(2 ^ 62)<=i/\i<2 ^ 62/\-(2 ^ 62)<=j/\j<2 ^ 62)/\R (Itr i (j - i).toNat) e
theorem bu{a:Expr}{f:TA}{p g:Pos}(o:Gl X "range")(hm:X.mg "range" = none)(ha:PA X [a] f)(n:starEach [a] X.env=[(false,eval a X.env)]:=by rfl):PI X tg (.Call (.Name "range" p) [a] [] g) (JI f):=by
 intro b s i H R I h
 refine Call_ (jz I o hm boot_range (Na (thn (ha g b s i H _ I h) fun us v ⟨vs,x,u,m,c⟩=>?_) n rfl))
 obtain ⟨j,e,c,q2,q⟩:=c
 subst e
 cases m with
 |cons r l =>
  cases l
  obtain ⟨t,rfl⟩:=r
  exact call_range_1 (yG u (by omega) (by omega) c q2 (by simpa using q))
theorem Dh{a b:Expr}{l:TA}{p n:Pos}(y:Gl X "range")(hm:X.mg "range" = none)(ha:PA X [a,b] l)(x:starEach [a,b] X.env=[(false,eval a X.env),(false,eval b X.env)]:=by rfl)(m:starEach [b] X.env=[(false,eval b X.env)]:=by rfl) :
  PI X tg (.Call (.Name "range" p) [a,b] [] n) (Jo l):=by
 intro c s o H R I h
 refine Call_ (jz I y hm boot_range (Na (thn (ha n c s o H _ I h) fun us B ⟨vs,C,z,u,g⟩=>?_) (by rw[x,m]) (by rw[m];rfl)))
 obtain ⟨i,j,e,⟨g,q2,q3,q4⟩,q⟩:=g
 subst e
 cases u with
 |cons r f =>
  cases f with
  |cons v f =>
   cases f
   obtain ⟨t,rfl⟩:=r
   obtain ⟨t',rfl⟩:=v
   exact call_range_2 (yG z g q2 q3 q4 q)
def FG(e:TI)(g:TG)(tb:TS):TS:=fun D b H=>e b H fun J j=>∃W:Nat->Nat->St->Hp->Prop,(∃m,W 0 m b j)/\∀i m b H,W i m b H ->
 (J.stop i H/\D.nx b H)\/(J.go i H/\∃N:St->Hp->Prop,(∀σ' H',N σ' H'->∃c,c < m/\W (i+1) c σ' H')/\∀x H',J.yld i H x H'->g x b H' fun f h=>tb { D with nx:=N,ct:=N,bk:=D.nx } f h)
def mH(fp:List Addr)(h:Heap):List (Addr × Obj):=fp.filterMap fun b=>(h.get? b).map fun o=>(b,o)
def lH{fp:List Addr}{h:Heap}{b:Addr}{o:Obj}(hb:b∈fp)(e:h.get? b=some o):(b,o)∈mH fp h:=Nr.mpr ⟨b,hb,by rw[e];rfl⟩
theorem vE{fp:List Addr}{h:Heap}{p:Addr × Obj}(c:p∈mH fp h):p.1∈fp/\h.get? p.1=some p.2:=by
 obtain ⟨b,hb,e⟩:=Nr.mp c
 cases q:h.get? b with
 |none=>rw[q] at e;cases e
 |some o =>
  rw[q] at e
  have f:(b,o)=p:=MH e
  subst f
  exact⟨hb,q⟩
def Inv.pinned{c:List (Addr × Obj)}{f:St}{H:Hp}{s:Shared}{fp:List Addr}(I:Inv X c f H s)(j:∀b∈fp,sZ X c H b)(i:∀b∈fp,∃o,s.heap.get? b=some o/\∀v,o.data≠.cell v):Inv X (c++mH fp s.heap) f H s :=
 I.oO fun p h=>(Mf.mp h).elim (fun z=>I.pin p (L9 _ z)) fun z=>by
  obtain ⟨hb,e⟩:=vE z
  obtain ⟨n,m,l,_⟩:=j p.1 hb
  obtain ⟨o,g,d⟩:=i p.1 hb
  rw[e] at g;cases g
  exact⟨e,n,m,l,d⟩
def Inv.oJ{b pl:List (Addr × Obj)}{c:St}{H:Hp}{s:Shared}(I:Inv X (b++pl) c H s):Inv X b c H s:=I.oO fun p e=>I.pin p (L9 _ (Mg _ e))
def KH{iter:Expr}{Y:List Stmt}{M:TI}{g:TG}{tb:TS}{MK:Pos}(t:PassesOwn (model X.prog X.w) X.A X.env X.xe)(Q:X.calm=true)(hi:PI X tg iter M)(hg:PG X tg g)(hb:PSs X Y tb)
  (hs:∀x,foldedSetIterable iter X.env x=pure x:=by intro _;rfl):PS X (.For tg iter Y [] MK) (FG M g tb):=by
 intro c s L H D I h
 refine wpAny_For (thn (hi c s L H _ I h) fun v s1 h1=>thn h1 fun VM s2 h2=>?_) hs
 obtain ⟨it,fp,tn,J,H2,e,I2,T,SV,R,W,⟨m0,w0⟩,turn⟩:=h2
 subst e
 have G:∀{H':Hp},(∀b∈fp,H' b=none)->∀b∈fp,sZ X c H' b:=fun hn b hb=>⟨hn b hb,(R b hb).2⟩
 refine codeAny_forLoop_any (fun n s'=>∃i σ' H',Inv X c σ' H' s'/\tn i s'.heap/\(∀b∈fp,H' b=none)/\W i n σ' H') ?_ m0 ⟨0,L,H2,I2,SV,fun b hb=>(R b hb).1,w0⟩
 rintro n P ⟨i,y,z,Z,U,S,w3⟩
 rcases turn i n y z w3 with ⟨stop,qn⟩|⟨go,N,hN,step⟩
 .refine wpAny_passesOwn t (thn (T.done X rfl rfl rfl Q i c P y z X.xe Z (G S) U stop) fun r s4 ⟨C,I4⟩=>?_)
  subst C
  exact wpAny_execs_nil ⟨y,z,I4,qn⟩
 .refine wpAny_passesOwn t (thn (T.item X rfl rfl rfl Q i c P y z X.xe Z (G S) U go) fun r s4 ⟨u,C,h4⟩=>?_)
  subst C
  refine wpAny_passesOwn t (thn h4 fun _ O ⟨x,H5,I5,r5,y5,F,E⟩=>?_)
  have SR:=I5.pinned (G E) (T.obj _ _ F)
  refine wpAny_passesOwn t (thn (hg _ O y H5 x u _ SR r5 (step x H5 y5)) fun _ s6 ⟨Zb,H6,I6,q6⟩=>?_)
  refine wpAny_passesOwn t (thn (hb _ s6 Zb H6 _ I6 q6) fun f B q7=>?_)
  have again:∀{j:St}{p:Hp},Inv X (c++mH fp O.heap) j p B->N j p->∃m,m<n/\∃i σ' H',Inv X c σ' H' B/\tn i B.heap/\(∀b∈fp,H' b=none)/\W i m σ' H':=fun {j p} l q=>by
   obtain ⟨m',hm,w7⟩:=hN j p q
   refine⟨m',hm,i+1,j,p,l.oJ,T.keep _ _ _ F fun b hb o e=>(l.pin (b,o) (L9 _ (L9 _ (lH hb e)))).1,fun b hb=>?_,w7⟩
   obtain ⟨o,e,d⟩:=T.obj _ _ F b hb
   exact (l.pin (b,o) (L9 _ (L9 _ (lH hb e)))).2.1
  cases f with
  |next=>obtain ⟨j,p,l,q⟩:=q7;exact again l q
  |cont=>obtain ⟨j,p,l,q⟩:=q7;exact again l q
  |brk=>obtain ⟨j,p,l,q7⟩:=q7;exact⟨j,p,l.oJ,q7⟩
  |ret v=>obtain ⟨x7,j,p,l,r7,q7⟩:=q7;exact⟨x7,j,p,l.oJ,r7,q7⟩
end
end L2
namespace L2
open PySem PySem.Spec PyProof.Rows
abbrev R2:=V->V->Hp->VK->Prop
def OpR(X:Cx)(f:Value->Value->Sem Value)(r:R2):Prop :=
 ∀(b:List (Addr × Obj)) (s:Shared) (c:St) (H:Hp) (x y:V) (v u:Value) (Q:VK),Inv X b c H s->RelV x v->RelV y u->r x y H Q ->
  wpAny (model X.prog X.w) X.A (f v u) (EP X b c Q) X.xe s
def UnR(X:Cx)(f:Value->Sem Value)(r:V->Hp->VK->Prop):Prop :=
 ∀(b:List (Addr × Obj)) (s:Shared) (c:St) (H:Hp) (x:V) (v:Value) (Q:VK),Inv X b c H s->RelV x v->r x H Q ->
  wpAny (model X.prog X.w) X.A (f v) (EP X b c Q) X.xe s
def fR(X:Cx)(f:Value)(r:List V->Hp->VK->Prop):Prop :=
 ∀(b:List (Addr × Obj)) (s:Shared) (c:St) (H:Hp) (xs:List V) (us:List Value) (Q:VK),Inv X b c H s->Vals xs us->r xs H Q ->
  wpAny (model X.prog X.w) X.A (call f us) (EP X b c Q) X.xe s
def tOp(r:R2)(c tb:TE):TE:=fun b H Q=>c b H fun x f=>tb b f fun y e=>r x y e Q
def tUn(r:V->Hp->VK->Prop)(c:TE):TE:=fun b H Q=>c b H fun x e=>r x e Q
def rI(C:Int->Int->Prop)(g:Int->Int->V):R2:=fun x y H Q=>∃i j,x=.int i/\y=.int j/\C i j/\Q (g i j) H
def rI0(g:Int->Int->V):R2:=fun x y H Q=>∃i j,x=.int i/\y=.int j/\Q (g i j) H
def rU(g:Int->V):V->Hp->VK->Prop:=fun x H Q=>∃i,x=.int i/\Q (g i) H
section
variable {X:Cx}{a b:Expr}{ta tb:TE}{MK:Pos}
def JQ(ha:PE X a ta)(hb:PE X b tb){c:List (Addr × Obj)}{s:Shared}{e:St}{H:Hp}{R:V->V->Hp->Prop}(I:Inv X c e H s)
  (h:ta e H fun x l=>tb e l fun y g=>R x y g) {Q:Value->Shared->Prop}{f:Value->Value->Sem Value}
  (q:∀v u j x y g,Inv X c e g j->RelV x v->RelV y u->R x y g->wpAny (model X.prog X.w) X.A (f v u) Q X.xe j) :
  wpAny (model X.prog X.w) X.A (eval a X.env) (fun v i=>wpAny (model X.prog X.w) X.A (eval b X.env) (fun u r=>wpAny (model X.prog X.w) X.A (f v u) Q X.xe r) X.xe i) X.xe s:=by
 refine thn (ha c s e H _ I h) fun v m ⟨x,l,z,o,p⟩=>?_
 refine thn (hb c m e l _ z p) fun u j ⟨y,g,t,n,q2⟩=>?_
 exact q v u j x y g t o n q2
def aH{e:Operator}{r:R2}(l:OpR X (binaryOp e) r)(ha:PE X a ta)(hb:PE X b tb):PE X (.BinOp a e b MK) (tOp r ta tb):=by
 intro c s f H Q I h
 exact wpAny_BinOp (JQ ha hb I h fun v u g x y n m j i q=>l c g f n x y v u Q m j i q)
def CQ{e:UnaryOp}{r:V->Hp->VK->Prop}(j:UnR X (unaryOp e) r)(ha:PE X a ta):PE X (.UnaryOp e a MK) (tUn r ta):=by
 intro b s c H Q I h
 exact UnaryOp_ (thn (ha b s c H _ I h) fun v f ⟨x,m,l,g,i⟩=>j b f c m x v Q l g i)
def opI{f:Value->Value->Sem Value}{C:Int->Int->Prop}{g:Int->Int->Int}
  (rule:∀(i j:Int) (t u:Tok) (s:Shared) (Q:Value->Shared->Prop) (E:Value->Shared->Prop),C i j->Q (.int (g i j) s.toks) { s with toks:=s.toks+1 }->wpAny (model X.prog X.w) X.A (f (.int i t) (.int j u)) Q E s) :
  OpR X f (rI C fun i j=>.int (g i j)):=by
 intro b s m H x y v u Q I e c h
 obtain ⟨i,j,rfl,rfl,l,q⟩:=h
 obtain ⟨t,rfl⟩:=e
 obtain ⟨t',rfl⟩:=c
 exact rule i j t t' s _ _ l ⟨.int (g i j),H,I.tok _,⟨_,rfl⟩,q⟩
def Li{f:Value->Value->Sem Value}{g:Int->Int->Int}
  (rule:∀(i j:Int) (t u:Tok) (s:Shared) (Q:Value->Shared->Prop) (E:Value->Shared->Prop),Q (.int (g i j) s.toks) { s with toks:=s.toks+1 }->wpAny (model X.prog X.w) X.A (f (.int i t) (.int j u)) Q E s) :
  OpR X f (rI0 fun i j=>.int (g i j)):=by
 intro b s l H x y v u Q I e c h
 obtain ⟨i,j,rfl,rfl,q⟩:=h
 obtain ⟨t,rfl⟩:=e
 obtain ⟨t',rfl⟩:=c
 exact rule i j t t' s _ _ ⟨.int (g i j),H,I.tok _,⟨_,rfl⟩,q⟩
def IC{f:Value->Value->Sem Value}{g:Int->Int->Bool}
  (rule:∀(i j:Int) (t u:Tok) (s:Shared) (Q:Value->Shared->Prop) (E:Value->Shared->Prop),Q (.bool (g i j)) s->wpAny (model X.prog X.w) X.A (f (.int i t) (.int j u)) Q E s) :
  OpR X f (rI0 fun i j=>.bl (g i j)):=by
 intro b s l H x y v u Q I e c h
 obtain ⟨i,j,rfl,rfl,q⟩:=h
 obtain ⟨t,rfl⟩:=e
 obtain ⟨t',rfl⟩:=c
 exact rule i j t t' s _ _ ⟨.bl (g i j),H,I,rfl,q⟩
def L8(i j:Int):Prop:=0<=j/\j<=1000000/\i.natAbs<2 ^ 64
def bN:OpR X (binaryOp .Add) (rI0 fun i j=>.int (i+j)):=Li fun _ _ _ _ _ _ _ q=>add_int q
def iw:OpR X (binaryOp .Sub) (rI0 fun i j=>.int (i - j)):=Li fun _ _ _ _ _ _ _ q=>sub_int q
def bH:OpR X (binaryOp .Mod) (rI (fun _ j=>0<j) fun i j=>.int (i % j)):=opI fun i j _ _ _ _ _ b q=>by
 have c:(0:Int)<j:=b
 exact mod_int' (by omega) (by rw[Int.fmod_eq_emod_of_nonneg i (by omega)];exact q)
def AL:OpR X (binaryOp .Pow) (rI L8 fun i j=>.int (i ^ j.toNat)):=opI fun _ _ _ _ _ _ _ b q=>pow_int_small b.1 b.2.1 b.2.2 q
def unI{f:Value->Sem Value}{g:Int->Int}
  (rule:∀(i:Int) (t:Tok) (s:Shared) (Q:Value->Shared->Prop) (E:Value->Shared->Prop),Q (.int (g i) s.toks) { s with toks:=s.toks+1 }->wpAny (model X.prog X.w) X.A (f (.int i t)) Q E s) :
  UnR X f (rU fun i=>.int (g i)):=by
 intro b s e H x v Q I c h
 obtain ⟨i,rfl,q⟩:=h
 obtain ⟨t,rfl⟩:=c
 exact rule i t s _ _ ⟨.int (g i),H,I.tok _,⟨_,rfl⟩,q⟩
def xV:UnR X (unaryOp .USub) (rU fun i=>.int (-i)):=unI fun _ _ _ _ _ q=>neg_int q
end
def aP:V->V->Bool
 |.non,.non=>true|.non,.int _=>true|.int _,.non=>true|.non,.bl _=>true|.bl _,.non=>true|.non,.str _=>true|.str _,.non=>true
 |.int _,.int _=>true|.bl _,.bl _=>true|.str _,.str _=>true|.byt _,.byt _=>true
 |.int _,.str _=>true|.str _,.int _=>true|.bl _,.str _=>true|.str _,.bl _=>true
 |_,_=>false
def rEq:R2:=fun x y H Q=>aP x y=true/\Q (.bl (decide (x=y))) H
def rNe:R2:=fun x y H Q=>aP x y=true/\Q (.bl (!decide (x=y))) H
def Cz{i j:Int}:decide (V.int i=V.int j)=(i == j):=by
 rw[ND]
 simp
def Fh{i j:Bool}:decide (V.bl i=V.bl j)=(i == j):=by
 rw[ND]
 simp
def C3{i j:Str}:decide (V.str i=V.str j)=(i == j):=by
 rw[ND]
 simp
def Cu{i j:Array UInt8}:decide (V.byt i=V.byt j)=(i.toList == j.toList):=by
 rw[ND]
 cases i
 cases j
 simp
section
variable {X:Cx}{a b c:Expr}{ta tb tc:TE}{MK:Pos}
def bj{b:List (Addr × Obj)}{c:St}{H:Hp}{s:Shared}{Q:VK}{k f:Bool}(I:Inv X b c H s)(q:Q (.bl k) H)(e:k=f):EP X b c Q (.bool f) s:=by
 subst e
 exact⟨.bl k,H,I,rfl,q⟩
theorem ku:OpR X (compareOp .Eq) rEq:=by
 intro f s g H x y v u Q I e b h
 obtain ⟨c,q⟩:=h
 cases x with
 |non =>
  cases e
  cases y with
  |non=>cases b;exact PySem.EqNone.eq_none_none (bj I q (by simp))
  |bl j=>cases b;exact PySem.EqNone.eq_none_bool (bj I q (by simp))
  |int j=>obtain ⟨t',rfl⟩:=b;exact PySem.EqNone.eq_none_int (bj I q (by simp))
  |str j=>obtain ⟨t',rfl⟩:=b;exact PySem.EqNone.eq_none_str (bj I q (by simp))
  |_=>exact absurd (show false=true from c) Mz
 |bl i =>
  cases e
  cases y with
  |non=>cases b;exact PySem.EqNone.eq_bool_none (bj I q (by simp))
  |bl j=>cases b;exact eq_bool (bj I q Fh)
  |str j=>obtain ⟨t',rfl⟩:=b;exact PySem.EqMixed.eq_bool_str (bj I q (by simp))
  |_=>exact absurd (show false=true from c) Mz
 |int i =>
  obtain ⟨t,rfl⟩:=e
  cases y with
  |non=>cases b;exact PySem.EqNone.eq_int_none (bj I q (by simp))
  |int j=>obtain ⟨t',rfl⟩:=b;exact eq_int (bj I q Cz)
  |str j=>obtain ⟨t',rfl⟩:=b;exact PySem.EqMixed.eq_int_str (bj I q (by simp))
  |_=>exact absurd (show false=true from c) Mz
 |str i =>
  obtain ⟨t,rfl⟩:=e
  cases y with
  |non=>cases b;exact PySem.EqNone.eq_str_none (bj I q (by simp))
  |bl j=>cases b;exact PySem.EqMixed.eq_str_bool (bj I q (by simp))
  |int j=>obtain ⟨t',rfl⟩:=b;exact PySem.EqMixed.eq_str_int (bj I q (by simp))
  |str j=>obtain ⟨t',rfl⟩:=b;exact eq_str (bj I q C3)
  |_=>exact absurd (show false=true from c) Mz
 |byt i =>
  obtain ⟨t,rfl⟩:=e
  cases y with
  |byt j=>obtain ⟨t',rfl⟩:=b;exact PySem.W.eq_bytes (bj I q Cu)
  |_=>exact absurd (show false=true from c) Mz
 |_=>cases y<;>exact absurd (show false=true from c) Mz
theorem rA:OpR X (compareOp .NotEq) rNe:=by
 intro f s g H x y v u Q I e b h
 obtain ⟨c,q⟩:=h
 cases x with
 |non =>
  cases e
  cases y with
  |non=>cases b;exact PySem.EqNone.ne_none_none (bj I q (by simp))
  |bl j=>cases b;exact PySem.EqNone.ne_none_bool (bj I q (by simp))
  |int j=>obtain ⟨t',rfl⟩:=b;exact PySem.EqNone.ne_none_int (bj I q (by simp))
  |str j=>obtain ⟨t',rfl⟩:=b;exact PySem.EqNone.ne_none_str (bj I q (by simp))
  |_=>exact absurd (show false=true from c) Mz
 |bl i =>
  cases e
  cases y with
  |non=>cases b;exact PySem.EqNone.ne_bool_none (bj I q (by simp))
  |bl j=>cases b;exact ne_bool (bj I q (congrArg not Fh))
  |str j=>obtain ⟨t',rfl⟩:=b;exact PySem.EqMixed.ne_bool_str (bj I q (by simp))
  |_=>exact absurd (show false=true from c) Mz
 |int i =>
  obtain ⟨t,rfl⟩:=e
  cases y with
  |non=>cases b;exact PySem.EqNone.ne_int_none (bj I q (by simp))
  |int j=>obtain ⟨t',rfl⟩:=b;exact ne_int (bj I q (congrArg not Cz))
  |str j=>obtain ⟨t',rfl⟩:=b;exact PySem.EqMixed.ne_int_str (bj I q (by simp))
  |_=>exact absurd (show false=true from c) Mz
 |str i =>
  obtain ⟨t,rfl⟩:=e
  cases y with
  |non=>cases b;exact PySem.EqNone.ne_str_none (bj I q (by simp))
  |bl j=>cases b;exact PySem.EqMixed.ne_str_bool (bj I q (by simp))
  |int j=>obtain ⟨t',rfl⟩:=b;exact PySem.EqMixed.ne_str_int (bj I q (by simp))
  |str j=>obtain ⟨t',rfl⟩:=b;exact ne_str (bj I q (congrArg not C3))
  |_=>exact absurd (show false=true from c) Mz
 |byt i =>
  obtain ⟨t,rfl⟩:=e
  cases y with
  |byt j=>obtain ⟨t',rfl⟩:=b;exact PySem.W.ne_bytes (bj I q (congrArg not Cu))
  |_=>exact absurd (show false=true from c) Mz
 |_=>cases y<;>exact absurd (show false=true from c) Mz
def sG:OpR X (compareOp .Lt) (rI0 fun i j=>.bl (decide (i<j))):=IC fun _ _ _ _ _ _ _ q=>lt_int q
def Jf:OpR X (compareOp .LtE) (rI0 fun i j=>.bl (decide (i<=j))):=IC fun _ _ _ _ _ _ _ q=>le_int q
def zE:OpR X (compareOp .Gt) (rI0 fun i j=>.bl (decide (j<i))):=IC fun _ _ _ _ _ _ _ q=>gt_int q
def Je:OpR X (compareOp .GtE) (rI0 fun i j=>.bl (decide (j<=i))):=IC fun _ _ _ _ _ _ _ q=>ge_int q
def FR:OpR X (compareOp .Is) (fun x y H Q=>y=.non/\Q (.bl (decide (x=.non))) H):=by
 intro c s f H x y v u Q I b e h
 obtain ⟨rfl,q⟩:=h
 cases e
 refine is_none_gen (bj I q ?_)
 cases x<;>first
  |(cases b;rfl)
  |(obtain ⟨t,rfl⟩:=b;rfl)
def xO:OpR X (compareOp .IsNot) (fun x y H Q=>y=.non/\Q (.bl (!decide (x=.non))) H):=by
 intro c s f H x y v u Q I b e h
 obtain ⟨rfl,q⟩:=h
 cases e
 refine isnot_none_gen (bj I q ?_)
 cases x<;>first
  |(cases b;rfl)
  |(obtain ⟨t,rfl⟩:=b;rfl)
def aW(b:Expr){c:CmpOp}(h:c≠.In:=by decide)(e:c≠.NotIn:=by decide):behindInMarks c b=false:=by
 have e1:(c == CmpOp.In)=false:=by cases c<;>first|rfl|exact absurd rfl h
 have e2:(c == CmpOp.NotIn)=false:=by cases c<;>first|rfl|exact absurd rfl e
 cases b<;>simp [behindInMarks,e1,e2]
def kZ{e:CmpOp}{r:R2}(l:OpR X (compareOp e) r)(ha:PE X a ta)(hb:PE X b tb)(hm:behindInMarks e b=false):PE X (.Compare a [e] [b] MK) (tOp r ta tb):=by
 intro c s f H Q I h
 exact wpAny_Compare1 (JQ ha hb I h fun v u g x y n m j i q=>l c g f n x y v u Q m j i q) hm
def FL(t:TE):TT:=fun b H Q=>t b H fun x H'=>∃k,x=.bl k/\Q k H'
def aM{i:CmpOp}{r:R2}(q:OpR X (compareOp i) r)(ha:PE X a ta)(hb:PE X b tb)(hm:behindInMarks i b=false):PT X (.Compare a [i] [b] MK) (FL (tOp r ta tb)):=by
 intro f s g H Q I h
 refine wpAny_isTrue_Compare1 (thn (ha f s g H _ I h) fun v l ⟨x,G,C,o,p⟩=>thn (hb f l g G _ C p) fun u j ⟨y,F,B,n,q2⟩ =>
  thn (q f j g F x y v u _ B o n q2) fun c J ⟨z,E,t,m,k,e,q3⟩=>?_) hm
 subst e
 cases m
 exact wpAny_truthy_bool ⟨E,t,q3⟩
def Ar(r h:R2)(g tb f:TE):TE:=fun b H Q=>g b H fun x l=>tb b l fun y j=>r x y j fun z c=>∃k,z=.bl k /\
 (if k=true then f b c fun e i=>h y e i Q else Q (.bl false) c)
theorem GV{i j:CmpOp}{r m:R2}(M:OpR X (compareOp i) r)(P:OpR X (compareOp j) m)(ha:PE X a ta)(hb:PE X b tb)(O:PE X c tc)
  (hm:lastMarks [i,j] [b,c]=false:=by with_unfolding_all rfl):PE X (.Compare a [i,j] [b,c] MK) (Ar r m ta tb tc):=by
 intro f s g H Q I h
 refine Compare_chain (thn (ha f s g H _ I h) fun v E ⟨x,Z,T,J,L⟩=>chain_link (thn (hb f E g Z _ T L) fun u C ⟨y,Y,S,l,q2⟩ =>
  thn (M f C g Y x y v u _ S J l q2) fun d B ⟨z,o,n,G,k,e,q3⟩=>?_)) hm
 subst e
 cases G
 refine wpAny_truthy_bool ?_
 cases k with
 |false=>exact ite_ff ⟨.bl false,o,n,rfl,q3⟩
 |true=>exact ite_tt (chain_last (thn (O f B g o _ n q3) fun q t ⟨p,U,R,F,q4⟩=>P f t g U y p u q Q R l F q4))
theorem Ft{i j:CmpOp}{r m:R2}(P:OpR X (compareOp i) r)(T:OpR X (compareOp j) m)(ha:PE X a ta)(hb:PE X b tb)(R:PE X c tc)
  (hm:lastMarks [i,j] [b,c]=false:=by with_unfolding_all rfl):PT X (.Compare a [i,j] [b,c] MK) (FL (Ar r m ta tb tc)):=by
 intro f s g H Q I h
 refine isTrue_chain (thn (ha f s g H _ I h) fun v E ⟨x,H1,I1,L,M⟩=>test_link (thn (hb f E g H1 _ I1 M) fun u C ⟨y,H2,Z,l,q2⟩ =>
  thn (P f C g H2 x y v u _ Z L l q2) fun d B ⟨z,o,n,J,k,e,q3⟩=>?_)) hm
 subst e
 cases J
 refine wpAny_truthy_bool ?_
 cases k with
 |false =>
  obtain ⟨k',S,O⟩:=q3
  cases S
  exact ite_ff ⟨o,n,O⟩
 |true =>
  refine ite_tt (test_last (thn (R f B g o _ n q3) fun q t ⟨p,H4,Y,G,q4⟩=>thn (T f t g H4 y p u q _ Y l G q4) fun d' s5 ⟨z2,H5,U,F,k2,e2,q5⟩=>?_))
  subst e2
  cases F
  exact wpAny_truthy_bool ⟨H5,U,q5⟩
def wZ:(sizeLine:Nat)<2 ^ 63:=by rw[sizeLine_eq];decide
theorem vals1{x:V}{us:List Value}(r:Vals [x] us):∃u,us=[u]/\RelV x u:=by
 cases r with
 |cons c b=>cases b;exact⟨_,rfl,c⟩
theorem vals2{x y:V}{us:List Value}(r:Vals [x,y] us):∃u b,us=[u,b]/\RelV x u/\RelV y b:=by
 cases r with
 |cons g f =>
  cases f with
  |cons e c=>cases c;exact⟨_,_,rfl,g,e⟩
def qB:fR X (.type "int") (fun xs H Q=>(∃i,xs=[.int i]/\Q (.int i) H)\/∃k,xs=[.bl k]/\Q (.int (if k then 1 else 0)) H):=by
 intro b s e H xs us Q I r h
 rcases h with ⟨i,rfl,q⟩|⟨k,rfl,q⟩
 .obtain ⟨u,rfl,t,rfl⟩:=vals1 r
  exact call_int_int ⟨.int i,H,I,⟨_,rfl⟩,q⟩
 .obtain ⟨u,rfl,c⟩:=vals1 r
  cases c
  exact call_int_bool ⟨.int (if k then 1 else 0),H,I.tok _,⟨_,rfl⟩,q⟩
end
end L2
namespace L2
open PySem PySem.Spec PyProof.Rows
structure Bo(h:Heap)(x dx C:Addr)(mA:Str->Option Value):Prop where
 obj:h.get? x=some (PySem.W.instObj C dx)
 ns:h.Ns1 dx mA
 ne:dx≠x
def Ec{h:Heap}{dx:Addr}{c:Str->Option Value}(n:h.Ns1 dx c):∃b,h.get? dx=some b/\∀name,PySem.W.lookIn name b=some (c name):=by
 obtain ⟨o,es,ep,g,hd,i,_,hm⟩:=n
 refine⟨o,g,fun name=>?_⟩
 have e:=hm name
 unfold nsFind findBy at e
 rw[<- Array.find?_toList] at e
 unfold PySem.W.lookIn
 rw[hd]
 dsimp only
 split
 .rename_i y q
  rw[q] at e
  exact congrArg some e
 .rename_i q
  rw[q] at e
  have a:es.toList.any (·.refKey)=false:=by
   rw[List.any_eq_false]
   intro y f
   obtain ⟨z,t,l⟩:=i y (Array.mem_toList_iff.mp f)
   simp [DictEntry.refKey,l]
  have j:¬ es.toList.any (·.refKey)=true:=by rw[a];exact Mz
  rw[if_neg j]
  exact congrArg some e
def Bo.look{h:Heap}{x dx C:Addr}{c:Str->Option Value}(I:Bo h x dx C c):∃b,PySem.W.InstAt h x (PySem.W.instObj C dx) C (some b)/\∀name,PySem.W.lookIn name b=some (c name) :=
 let ⟨b,ho,hl⟩:=Ec I.ns
 ⟨b,⟨I.obj,rfl,rfl,ho⟩,hl⟩
section
variable {prog:Program}{w:World}{A:Around}{E:Value->Shared->Prop}{s:Shared}{K:aad}{x dx C f:Addr}{mA:Str->Option Value}{name:Str}{v:Value}
def get_map{f:Bool}{Q:Value->Shared->Prop}(X:K.In s.heap)(I:Bo s.heap x dx C mA)(e:PySem.W.plainGet K C name=true)(c:PySem.W.hasDictIn K C=true)
  (ha:PySem.W.findIn K (.ref C) name=some none) (b:mA name=some v) (g:PySem.W.handedIn v=true) (h:Q v { s with toks:=s.toks+1 }) :
  wpAny (model prog w) A (getAttr (.ref x) name f) Q E s:=by
 obtain ⟨i,J,hl⟩:=I.look
 exact PySem.W.get_value X J (PySem.W.plainGet_of e).1 (PySem.W.findObj_own c ha rfl (by rw[hl,b])) g h
def Eo{pl:Sem Bool}{Q:Value × List Value->Shared->Prop}(X:K.In s.heap)(I:Bo s.heap x dx C mA)(b:PySem.W.plainGet K C name=true)
  (g:PySem.W.findIn K (.ref C) name=some (some (.ref f))) (ht:PySem.W.isFn K (.ref f)=true) (e:mA name=none) (h:Q (.ref f,[.ref x]) s) :
  wpAny (model prog w) A (getMethod (.ref x) name pl) Q E s:=by
 obtain ⟨c,J,hl⟩:=I.look
 exact PySem.W.method_fn X J (PySem.W.plainGet_of b).1 (PySem.W.plainGet_of b).2 g (beq_iff_eq.mp ht) (by show (PySem.W.lookIn name c).map (·.isSome)=some false;rw[hl,e];rfl) h
def Hl{ns:List Str}{Q:Unit->Shared->Prop}(X:K.In s.heap)(I:Bo s.heap x dx C mA)
  (l:PySem.W.findIn K (.ref C) "__setattr__" = some (some (.builtin "object.__setattr__"))) (m:PySem.W.plainOver K C=true) (ht:PySem.W.takerIn K C name=some none) (n:PySem.W.hasDictIn K C=true)
  (hw:PySem.Within mA ns) (hsz:ns.length<=sizeLine)
  (h:∀h',Bo h' x dx C (fun y=>if y=name then some v else mA y)->Heap.SameBut dx s.heap h'->Q () { s with heap:=h',toks:=s.toks+2 }) :
  wpAny (model prog w) A (setAttr (.ref x) name v) Q E s:=by
 obtain ⟨u,J,hl⟩:=I.look
 refine PySem.W.set_plain X J l (PySem.W.osa_open (s:={ s with toks:=s.toks+1 }) (r:=none) X J m ht fun b=>?_)
 obtain ⟨cd,o,t⟩:=PySem.W.any_some n
 have j:s.heap.get? x=some ⟨.ref C,some dx,.plain,#[]⟩:=I.obj
 refine wpAny_bind (wpAny_pure (wpAny_bind (wpAny_bind (wpAny_loadPart j (wpAny_bind (PySem.W.Looks.here (s:={ s with toks:=s.toks+1 }) (PySem.W.looks_clsIn X o) ?_))))))
 rw[t]
 refine wpAny_pure (a:=some dx) (wpAny_bind (wpAny_pure (wpAny_bind ?_)))
 refine wpAny_nsSet1 (s:={ s with toks:=s.toks+1 }) I.ns fun h' i g=>?_
 obtain ⟨oD,p,q,c,e,f⟩:=i.count (PySem.Within.cons name v hw)
 refine wpAny_bind (wpAny_lookBehind c (by rw[e];exact pastItsLine_dict (ME f (by rw[Me];omega))) ?_)
 exact wpAny_pure (h _ ⟨(g.2 _ (MI I.ne)).trans I.obj,i,I.ne⟩ g)
def Eu{R:Result->Shared->Prop}{vs:List Value}{b:List (Str × Value)}(X:K.In s.heap)(hm:PySem.W.makesIn K C=true)
  (hi:PySem.W.findIn K (.ref C) "__init__" = some (some (.ref f))) (c:PySem.W.typeIn K (.ref f)=some (.type "function"))
  (h:codeAny (model prog w) (A.under (.builtin "type.__call__" ⟨.ref C::vs,b⟩)) (.call (.ref f) ⟨.ref (s.heap.objs.size+1)::vs,b⟩) (PySem.W.InitBack (s.heap.objs.size+1) R)
   { s with heap:=(s.heap.push PySem.W.emptyDict).push (PySem.W.instObj C s.heap.objs.size) }) :
  codeAny (model prog w) A (.call (.ref C) ⟨vs,b⟩) R s:=by
 obtain ⟨e,g,d,t,os⟩:=s
 exact PySem.W.make_core (PySem.W.makes_of X hm) (PySem.W.looks_findIn X hi) (fun self=>PySem.W.bind_fn X self c) (.inl rfl) h
end
def j3(f:Str)(v:V):List (Str × V)->List (Str × V)
 |[]=>[(f,v)]
 |(g,x)::r=>if g=f then (g,v)::r else (g,x)::j3 f v r
theorem rm(f g:Str)(v:V):∀fs:List (Str × V),(j3 f v fs).lookup g=if g=f then some v else fs.lookup g
 |[]=>by
  show List.lookup g [(f,v)]=_
  by_cases h:g=f
  .have hb:(g == f)=true:=beq_iff_eq.mpr h
   simp only[List.lookup,hb,if_pos h]
  .have hb:(g == f)=false:=beq_eq_false_iff_ne.mpr h
   simp only[List.lookup,hb,if_neg h]
 |(k,x)::r=>by
  have ih:=rm f g v r
  rw[show j3 f v ((k,x)::r)=(if k=f then (k,v)::r else (k,x)::j3 f v r) from rfl]
  by_cases b:k=f
  .rw[if_pos b]
   by_cases h:g=k
   .have hb:(g == k)=true:=beq_iff_eq.mpr h
    simp only[List.lookup,hb,if_pos (h.trans b)]
   .have hb:(g == k)=false:=beq_eq_false_iff_ne.mpr h
    simp only[List.lookup,hb,if_neg (fun e:g=f=>h (e.trans b.symm))]
  .rw[if_neg b]
   by_cases h:g=k
   .have hb:(g == k)=true:=beq_iff_eq.mpr h
    simp only[List.lookup,hb,if_neg (fun e:g=f=>b (h.symm.trans e))]
   .have hb:(g == k)=false:=beq_eq_false_iff_ne.mpr h
    simp only[List.lookup,hb]
    exact ih
theorem qd(f:Str)(v:V):∀fs:List (Str × V),f∈(j3 f v fs).map (·.1)/\∀g,g∈fs.map (·.1)->g∈(j3 f v fs).map (·.1)
 |[]=>⟨by simp [j3],fun g h=>by simp at h⟩
 |(k,x)::r=>by
  obtain ⟨i,c⟩:=qd f v r
  rw[show j3 f v ((k,x)::r)=(if k=f then (k,v)::r else (k,x)::j3 f v r) from rfl]
  by_cases b:k=f
  .rw[if_pos b]
   subst b
   exact⟨by simp,fun g h=>by simpa using h⟩
  .rw[if_neg b]
   refine⟨?_,fun g h=>?_⟩
   .rw[Ml]
    exact ox _ i
   .rw[Ml] at h ⊢
    rcases Mb.mp h with e|e
    .exact Mb.mpr (.inl e)
    .exact ox _ (c g e)
theorem rH(f:Str)(v:V):∀fs:List (Str × V),(j3 f v fs).length<=fs.length+1
 |[]=>by simp [j3]
 |(k,x)::r=>by
  have ih:=rH f v r
  rw[show j3 f v ((k,x)::r)=(if k=f then (k,v)::r else (k,x)::j3 f v r) from rfl]
  by_cases b:k=f
  .rw[if_pos b,Me,Me];omega
  .rw[if_neg b,Me,Me];omega
theorem ny.some_of{v:V}{o:Option Value}(r:ny (some v) o):∃u,o=some u/\RelV v u:=by
 cases o with
 |none=>exact (show False from r).elim
 |some u=>exact⟨u,rfl,r⟩
theorem ny.none_of{o:Option Value}(r:ny none o):o=none:=by
 cases o with
 |none=>rfl
 |some u=>exact (show False from r).elim
theorem D7{v:V}{u:Value}(r:RelV v u):PySem.W.handedIn u=true:=by
 cases v with
 |non=>cases (show u=Value.none from r);rfl
 |bl b=>cases (show u=Value.bool b from r);rfl
 |int i=>obtain ⟨t,e⟩:=(show ∃t,u=Value.int i t from r);cases e;rfl
 |str x=>obtain ⟨t,e⟩:=(show ∃t,u=Value.str x t from r);cases e;rfl
 |byt b=>obtain ⟨t,e⟩:=(show ∃t,u=Value.bytes b t from r);cases e;rfl
 |flt b=>obtain ⟨t,e⟩:=(show ∃t,u=Value.float b t from r);cases e;rfl
 |ref a=>cases (show u=Value.ref a from r);rfl
 |ty n=>cases (show u=Value.type n from r);rfl
section
variable {P:Program}{w:World}{H:Hp}{h:Heap}{a C dx:Addr}{fs:List (Str × V)}
def so(hok:HOk P w H h)(e:H a=some (.ins C dx fs)):∃b,Bo h a dx C b/\(∀f,ny (fs.lookup f) (b f))/\PySem.Within b (fs.map (·.1))/\fs.length<=1000/\H dx=some (.own a):=by
 obtain ⟨d,z,ne,ob,b,n,r,q⟩:=(show bX P w H h a (.ins C dx fs) from hok a _ e)
 exact⟨b,⟨ob,n,ne⟩,r,q,z,d⟩
end
structure Cls(K:aad)(C:Addr):Prop where
 pg:PySem.W.plainGet K C Str.empty=true
 hd:PySem.W.hasDictIn K C=true
 po:PySem.W.plainOver K C=true
 sa:PySem.W.findIn K (.ref C) "__setattr__" = some (some (.builtin "object.__setattr__"))
def Cls.get{K:aad}{C:Addr}(c:Cls K C)(f:Str):PySem.W.plainGet K C f=true:=c.pg
def bM(K:aad)(C:Addr)(f:Str):Prop:=PySem.W.findIn K (.ref C) f=some none
def bM.Lw{K:aad}{C:Addr}{f:Str}(n:bM K C f):PySem.W.takerIn K C f=some none:=by
 unfold PySem.W.takerIn
 rw[show PySem.W.findIn K (.ref C) f=some none from n]
 rfl
structure Meth(K:aad)(C:Addr)(m:Str)(f:Addr):Prop where
 at_:PySem.W.findIn K (.ref C) m=some (some (.ref f))
 fn:PySem.W.isFn K (.ref f)=true
 kp:PySem.W.keepIn K (.ref f)=true
section
variable {X:Cx}{pins:List (Addr × Obj)}{σ:St}{H:Hp}{s:Shared}{a C dx:Addr}{fs:List (Str × V)}{f:Str}{v:V}{A:Around}{E:Value->Shared->Prop}
def AW{b:Bool}{Q:Value->Shared->Prop}(I:Inv X pins σ H s)(e:H a=some (.ins C dx fs))(c:Cls X.K C)(n:bM X.K C f)(l:fs.lookup f=some v)
  (h:∀u s',Inv X pins σ H s'->RelV v u->Q u s'):wpAny (model X.prog X.w) A (getAttr (.ref a) f b) Q E s:=by
 obtain ⟨i,O,r,_,_,_⟩:=so I.hok e
 obtain ⟨u,j,g⟩:=ny.some_of (v:=v) (o:=i f) (by rw[<- l];exact r f)
 exact get_map I.kIn O (c.get f) c.hd n j (D7 g) (h u _ (I.tok _) g)
def uJ{m:Str}{g:Addr}{pl:Sem Bool}{Q:Value × List Value->Shared->Prop}(I:Inv X pins σ H s)(e:H a=some (.ins C dx fs))(c:Cls X.K C)(k:Meth X.K C m g)(l:fs.lookup m=none)
  (h:Q (.ref g,[.ref a]) s):wpAny (model X.prog X.w) A (getMethod (.ref a) m pl) Q E s:=by
 obtain ⟨b,O,r,_,_,_⟩:=so I.hok e
 have hn:b m=none:=ny.none_of (by rw[<- l];exact r m)
 exact Eo I.kIn O (c.get m) k.at_ k.fn hn h
def Bc{y:V}{u:Value}{Q:Unit->Shared->Prop}(I:Inv X pins σ H s)(e:H a=some (.ins C dx fs))(c:Cls X.K C)(n:bM X.K C f)(hl:fs.length<1000)(t:RelV y u)
  (h:∀s',Inv X pins σ (upd H a (.ins C dx (j3 f y fs))) s'->Q () s'):wpAny (model X.prog X.w) A (setAttr (.ref a) f u) Q E s:=by
 obtain ⟨l,O,r,j,_,m⟩:=so I.hok e
 have v:(fs.map (·.1)).length<=sizeLine:=by rw[mo,sizeLine_eq];omega
 refine Hl I.kIn O c.sa c.po n.Lw c.hd j v fun h' i p=>h _ ?_
 have hd:∃o,h'.get? dx=some o:=let ⟨o,_,_,e',_⟩:=i.ns;⟨o,e'⟩
 refine I.write (x:=a) (e:=dx) (by rw[e];exact True.intro) (.inr m) (fun b q hb z=>(p.2 b hb).trans z) hd ?_
 refine⟨by rw[aG O.ne];exact m,?_,O.ne,i.obj,_,i.ns,fun g=>?_,fun g B=>?_⟩
 .have:=rH f y fs;omega
 .show ny ((j3 f y fs).lookup g) (if g=f then some u else l g)
  rw[rm]
  by_cases q:g=f
  .rw[if_pos q,if_pos q];exact t
  .rw[if_neg q,if_neg q];exact r g
 .by_cases q:g=f
  .rw[q];exact (qd f y fs).1
  .refine (qd f y fs).2 g (j g fun z=>B ?_)
   show (if g=f then some u else l g)=none
   rw[if_neg q];exact z
def Inv.made(I:Inv X pins σ H s):Inv X pins σ (upd (upd H s.heap.objs.size (.own (s.heap.objs.size+1))) (s.heap.objs.size+1) (.ins C s.heap.objs.size []))
  { s with heap:=(s.heap.push PySem.W.emptyDict).push (PySem.W.instObj C s.heap.objs.size) }:=by
 have e1:(s.heap.push PySem.W.emptyDict).get? s.heap.objs.size=some PySem.W.emptyDict:=Heap.get?_push_size s.heap rfl
 have e2:((s.heap.push PySem.W.emptyDict).push (PySem.W.instObj C s.heap.objs.size)).get? (s.heap.objs.size+1)=some (PySem.W.instObj C s.heap.objs.size):=by
  have:=Heap.get?_push_size (s.heap.push PySem.W.emptyDict) (o:=PySem.W.instObj C s.heap.objs.size) rfl
  rwa [Heap.size_push] at this
 have g:(s.heap.push PySem.W.emptyDict).Ns s.heap.objs.size (fun _=>none):=⟨PySem.W.emptyDict,#[],_,e1,rfl,(fun e f=>absurd f (by simp)),fun _=>rfl⟩
 have h:=I.laid (a:=s.heap.objs.size) (o:=.own (s.heap.objs.size+1)) (h':=s.heap.push PySem.W.emptyDict) (t':=s.toks) (fun b u q=>Heap.get?_push_of_some _ q) (Mm _) ⟨_,e1⟩
 refine h.laid (a:=s.heap.objs.size+1) (o:=.ins C s.heap.objs.size []) (t':=s.toks) (fun b u q=>Heap.get?_push_of_some _ q) (Nat.le_of_eq (Heap.size_push _ _)) ?_
 have ne:s.heap.objs.size≠s.heap.objs.size+1:=MA (OZ _)
 refine⟨by rw[aG ne,az],NL _,ne,e2,fun _=>none,(Heap.Ns1.of_empty g).at fun o q=>Heap.get?_push_of_some _ q,fun _=>True.intro,fun y c=>absurd rfl c⟩
def HC{prog:Program}{w:World}{env:Env}{e:Expr}{f:Str}{c:Pos}{s:Shared}{Q:Value->Shared->Prop}(hb:attributeBase e f env (eval e env)=eval e env)
  (h:wpAny (model prog w) A (eval e env) (fun o b=>wpAny (model prog w) A (getAttr o f true) Q E b) E s):wpAny (model prog w) A (eval (.Attribute e f c) env) Q E s :=
 Attribute_any_ h (by rw[arm_eval_Attribute,hb])
end
def xE(K:aad)(e:TE)(f:Str):TE:=fun c H Q=>e c H fun x b=>∃a C dx fs v,x=.ref a/\b a=some (.ins C dx fs)/\Cls K C/\bM K C f/\fs.lookup f=some v/\Q v b
def AE(K:aad)(e tv:TE)(f:Str):TS:=fun D b H=>tv b H fun y g=>e b g fun x c=>∃a C dx fs,x=.ref a/\c a=some (.ins C dx fs)/\Cls K C/\bM K C f/\fs.length<1000 /\
 D.nx b (upd c a (.ins C dx (j3 f y fs)))
section
variable {X:Cx}{o e NY:Expr}{f:Str}{MK O9:Pos}{ta tv:TE}
def J3(m:PE X e ta)(hb:attributeBase e f X.env (eval e X.env)=eval e X.env):PE X (.Attribute e f MK) (xE X.K ta f):=by
 intro b s g H Q I h
 refine HC hb (thn (m b s g H _ I h) fun u B ⟨x,t,r,i,a,C,dx,fs,v,ex,o,c,n,l,q⟩=>?_)
 subst ex
 obtain rfl:u=Value.ref a:=i
 exact AW r o c n l fun y z p j=>⟨v,t,p,j,q⟩
def J5(ha:PE X o ta)(p:PE X NY tv)(r:swapsWith NY (some (.Attribute o f O9)) MK.line X.env=pure false):PS X (.Assign [.Attribute o f O9] NY MK) (AE X.K ta tv f):=by
 intro b s e H D I h
 refine plainObj_wpAny_Assign_Attribute (thn (p b s e H _ I h) fun u g ⟨y,E,B,i,q⟩=>thn (ha b g e E _ B q) fun m G ⟨x,J,z,j,a,C,dx,fs,ex,t,c,n,l,q2⟩=>?_) r
 subst ex
 obtain rfl:m=Value.ref a:=j
 exact Bc z t c n l i fun F v=>⟨e,_,v,q2⟩
end
section
variable {X:Cx}{pins:List (Addr × Obj)}{σ:St}{H:Hp}{s:Shared}{A:Around}{E:Value->Shared->Prop}{Q:Value->Shared->Prop}{c:Value}{b:Bool}
inductive ni(K:aad)(H:Hp):V->Value->Prop where
 |non:ni K H .non (.type "NoneType")
 |bl (x:Bool):ni K H (.bl x) (.type "bool")
 |int (i:Int):ni K H (.int i) (.type "int")
 |str (x:Str):ni K H (.str x) (.type "str")
 |flt (x:UInt64):ni K H (.flt x) (.type "float")
 |lst {a:Addr}{xs:List V} (e:H a=some (.lst xs)):ni K H (.ref a) (.type "list")
 |frz {a:Addr}{o:Obj}{xs:List V} (e:H a=some (.frz o (.lst xs))):ni K H (.ref a) (.type "list")
 |tup {a:Addr}{xs:List V} (e:H a=some (.tup xs)):ni K H (.ref a) (.type "tuple")
 |dK {a:Addr}{kvs:List (Key × V)} (e:H a=some (.dK kvs)):ni K H (.ref a) (.type "dict")
 |dT {a:Addr}{kvs:List (List Key × V)} (e:H a=some (.dT kvs)):ni K H (.ref a) (.type "dict")
 |ins {a C dx:Addr}{fs:List (Str × V)} (e:H a=some (.ins C dx fs)) (cl:Cls K C) (ha:PySem.W.findIn K (.ref C) "__class__" = some (some (.builtin "object.__class__")))
   (hn:PySem.W.specialIn K (.builtin "object.__class__") "__get__" = some (some (.builtin "getset_descriptor.__get__"))) (htk:PySem.W.takesIn K (.builtin "object.__class__")=some true)
   (hm:PySem.W.mroIn K C (.type "object")=some true):ni K H (.ref a) (.ref C)
theorem DH{x:V}{u t:Value}(I:Inv X pins σ H s)(f:RelV x u)(ty:ni X.K H x t)(e:PySem.W.kitOne X.K t c=some b)(h:∀r,Q (.bool b) { s with toks:=r }) :
  wpAny (model X.prog X.w) A (call (.builtin "isinstance") [u,c]) Q E s:=by
 cases ty with
 |non=>cases (show u=Value.none from f);exact M2 PySem.W.kitx_none I.kIn True.intro e (fun z=>nomatch z) h
 |bl y=>cases (show u=Value.bool y from f);exact M2 PySem.W.kitx_bool I.kIn True.intro e (fun z=>nomatch z) h
 |int i=>obtain ⟨t,q⟩:=(show ∃t,u=Value.int i t from f);cases q;exact M2 PySem.W.kitx_int I.kIn True.intro e (fun z=>nomatch z) h
 |str y=>obtain ⟨t,q⟩:=(show ∃t,u=Value.str y t from f);cases q;exact M2 PySem.W.kitx_str I.kIn True.intro e (fun z=>nomatch z) h
 |flt y=>obtain ⟨t,q⟩:=(show ∃t,u=Value.float y t from f);cases q;exact M2 PySem.W.kitx_float I.kIn True.intro e (fun z=>nomatch z) h
 |@lst a xs g =>
  cases (show u=Value.ref a from f)
  obtain ⟨_,_,n,_,j⟩:=(show bX X.prog X.w H s.heap a (.lst xs) from I.hok a _ g)
  exact M2 PySem.W.kitx_list I.kIn ⟨_,j,rfl⟩ e (fun z=>nomatch z) h
 |@frz a ob xs g =>
  cases (show u=Value.ref a from f)
  obtain ⟨_,_,_,n,_,j⟩:=(show bX X.prog X.w H s.heap a (.frz ob (.lst xs)) from I.hok a _ g)
  exact M2 PySem.W.kitx_list I.kIn ⟨_,j,rfl⟩ e (fun z=>nomatch z) h
 |@tup a xs g =>
  cases (show u=Value.ref a from f)
  obtain ⟨_,_,_,p⟩:=(show bX X.prog X.w H s.heap a (.tup xs) from I.hok a _ g)
  obtain ⟨o,j,l,_⟩:=p
  exact M2 PySem.W.kitx_tuple I.kIn ⟨o,j,l⟩ e (fun z=>nomatch z) h
 |@dK a kvs g =>
  cases (show u=Value.ref a from f)
  obtain ⟨_,_,vs,_,p⟩:=(show bX X.prog X.w H s.heap a (.dK kvs) from I.hok a _ g)
  obtain ⟨o,es,ep,j,l,_⟩:=p
  exact M2 PySem.W.kitx_dict I.kIn ⟨o,j,l.1⟩ e (fun z=>nomatch z) h
 |@dT a kvs g =>
  cases (show u=Value.ref a from f)
  obtain ⟨_,_,xs,_,o,es,ep,j,l,_⟩:=(show bX X.prog X.w H s.heap a (.dT kvs) from I.hok a _ g)
  exact M2 PySem.W.kitx_dict I.kIn ⟨o,j,l.1⟩ e (fun z=>nomatch z) h
 |@ins a C dx fs g cl ha hn m hm =>
  cases (show u=Value.ref a from f)
  obtain ⟨B,O,_⟩:=so I.hok g
  obtain ⟨v,J,_⟩:=O.look
  exact M2 (PySem.W.kitx_own (cl.get _) cl.hd ha hn m hm) I.kIn J e (fun z=>nomatch z) h
end
end L2
namespace L2
open PySem PySem.Spec PyProof.Rows
structure eP(k:Nat)(A:Around):Prop where
 hd:A.handled=none
 dp:A.depth+3*k+5<recursionLimit
 un:A.units+16*k+200<cLine
def eP.mono{j k:Nat}{A:Around}(r:eP k A)(h:j<=k):eP j A:=⟨r.hd,by have:=r.dp;omega,by have:=r.un;omega⟩
theorem eP.deeper{k:Nat}{A:Around}(r:eP (k+1) A)(env:Env):eP k (A.deeper env) :=
 ⟨r.hd,by have:=r.dp;show A.depth+1+3*k+5<_;omega,by have:=r.un;show A.units+3+16*k+200<_;omega⟩
def AY{A:Around}{C:Addr}{us:List Value}{b:List (Str × Value)}:(A.under (.builtin "type.__call__" ⟨.ref C::us,b⟩)).depth=A.depth+1:=by
 first|rfl|simp [Around.under,Code.weight,Code.isCreation,Code.isGuard,Code.isCaller,Code.frames,Code.isFrame,guardIds]
def Av{A:Around}{C:Addr}{us:List Value}{b:List (Str × Value)}:(A.under (.builtin "type.__call__" ⟨.ref C::us,b⟩)).units=A.units+1:=by
 first|rfl|simp [Around.under,Code.cUnits,Code.frames,Code.isFrame]
def eP.make{k:Nat}{A:Around}(r:eP (k+1) A)(C:Addr)(us:List Value)(b:List (Str × Value)):eP k (A.under (.builtin "type.__call__" ⟨.ref C::us,b⟩)) :=
 ⟨r.hd,by have:=r.dp;rw[AY];omega,by have:=r.un;rw[Av];omega⟩
theorem eP.depth{k:Nat}{A:Around}(r:eP k A):A.depth<recursionLimit:=by have:=r.dp;omega
theorem eP.units{k:Nat}{A:Around}(r:eP k A):A.units+64<cLine:=by have:=r.un;omega
def iu:TA:=fun _ H Q=>Q [] H
def bG(e:TE)(c:TA):TA:=fun b H Q=>e b H fun x g=>c b g fun xs f=>Q (x::xs) f
section
variable {X:Cx}{e:Expr}{es:List Expr}{te:TE}{t:TA}{MK:Pos}
def aj:PA X [] iu:=fun _ _ _ _ H Q I h=>Calls.spliced_nil ⟨[],H,I,.nil,h⟩
def aa(ha:PE X e te)(m:PA X es t)(l:starEach (e::es) X.env=(false,eval e X.env)::starEach es X.env:=by rfl):PA X (e::es) (bG te t):=by
 intro MK b s c H Q I h
 rw[l]
 show wpAny _ _ (spliced ((false,eval e X.env)::backTo MK (starEach es X.env))) _ _ s
 refine Calls.spliced_cons (thn (ha b s c H _ I h) fun u f ⟨x,q,o,i,j⟩=>?_)
 exact thn (m MK b f c q _ o j) fun us r ⟨xs,p,n,g,q2⟩=>⟨x::xs,p,n,.cons i g,q2⟩
def Gu(t:TA):TE:=fun c H Q=>t c H fun xs b=>xs.length<=sizeLine/\∀p,b p=none->Q (.ref p) (upd b p (.tup xs))
def LS(t:TA):TE:=fun c H Q=>t c H fun xs b=>xs.length<=sizeLine/\∀p,b p=none->Q (.ref p) (upd b p (.lst xs))
def c4{x1}(h:PA X es t):PE X (.Tuple es x1 MK) (Gu t):=by
 intro c s j H Q I l
 refine wpAny_Tuple_spliced (thn (h MK c s j H _ I l) fun us f ⟨xs,i,g,r,z,q⟩=>⟨by rw[<- r.length];exact z,?_⟩)
 have m:i f.heap.objs.size=none:=g.hok.fresh (Mm _)
 refine⟨.ref f.heap.objs.size,upd i f.heap.objs.size (.tup xs),g.laid (t':=f.toks) (fun b u e=>Heap.get?_push_of_some _ e) (Mm _) ?_,rfl,q _ m⟩
 exact⟨z,us,r,⟨_,Heap.get?_push_size _ rfl,rfl,_,rfl⟩⟩
def bR(h:PA X es t):PE X (.List es MK) (LS t):=by
 intro c s j H Q I l
 refine wpAny_List_spliced (thn (h MK c s j H _ I l) fun us f ⟨xs,i,g,r,z,q⟩=>⟨by rw[<- r.length];exact z,?_⟩)
 have m:i f.heap.objs.size=none:=g.hok.fresh (Mm _)
 refine⟨.ref f.heap.objs.size,upd i f.heap.objs.size (.lst xs),g.laid (t':=f.toks) (fun b u e=>Heap.get?_push_of_some _ e) (Mm _) ?_,rfl,q _ m⟩
 exact⟨z,us,0,r,Heap.get?_push_size _ rfl⟩
end
abbrev Sp:=List V->Hp->VK->XK->Prop
abbrev CXT:=List Env->Hp->Shared->XK->Value->Shared->Prop
structure ya(P:Program)(w:World)(K:aad)(mg:Str->Option Value)(base:Heap)(A:Around)(outer:List Env)(s:Shared)(H:Hp):Prop where
 frames:A.frames=some outer
 mod:Mod K mg base
 bs:∀b o,base.get? b=some o->s.heap.get? b=some o/\H b=none
 bsz:base.objs.size<=s.heap.objs.size
 nk:s.heap.FunFrames base outer
 frf:∀b∈frs outer,H b=none
 hok:HOk P w H s.heap
 bare:AllBare s.gens
def CE(outer:List Env)(P:Program)(w:World)(H:Hp)(s:Shared)(Q:VK)(u:Value)(s':Shared):Prop :=
 ∃v H',s'.os=s.os/\AllBare s'.gens/\Un (frs outer) [] H H' s.heap s'.heap/\HOk P w H' s'.heap/\RelV v u/\Q v H'
def CR(CX:CXT)(outer:List Env)(P:Program)(w:World)(H:Hp)(s:Shared)(Q:VK)(E:XK)(r:Result)(s':Shared):Prop :=
 match r with
 |.ok (.ret u)=>CE outer P w H s Q u s'
 |.ok _=>False
 |.error e=>CX outer H s E e s'
structure br(P:Program)(w:World)(K:aad)(mg:Str->Option Value)(base:Heap)(CX:CXT)(k:Nat)(f:Addr)(fd:FuncData)(ps:List Str)(sp:Sp):Prop where
 len:∀vs H Q E,sp vs H Q E->vs.length=ps.length
 run:∀(A:Around) (outer:List Env) (s:Shared) (H:Hp) (args:Args) (us:List Value) (vs:List V) (Q:VK) (E:XK),eP k A->ya P w K mg base A outer s H->BindsTo s fd args (ps.zip us)->Vals vs us->sp vs H Q E ->
  codeAny (model P w) A (.call (.ref f) args) (CR CX outer P w H s Q E) s
def ya.make{P:Program}{w:World}{K:aad}{mg:Str->Option Value}{base:Heap}{A:Around}{outer:List Env}{s:Shared}{H:Hp}(e:ya P w K mg base A outer s H)(C:Addr)(us:List Value)(b:List (Str × Value)) :
  ya P w K mg base (A.under (.builtin "type.__call__" ⟨.ref C::us,b⟩)) outer s H:=⟨by first|exact e.frames|(simpa [Around.under,Code.envs,Code.isFrame,pushEnvs] using e.frames),e.mod,e.bs,e.bsz,e.nk,e.frf,e.hok,e.bare⟩
section
variable {X:Cx}{pins:List (Addr × Obj)}{σ:St}{H:Hp}{s s':Shared}
def Inv.xF(I:Inv X pins σ H s):ya X.prog X.w X.K X.mg X.base X.A X.stack s H :=
 ⟨I.ok.frames,I.ok.mod,I.bs,ME I.ok.bsz I.sz,I.stack,I.sA,I.hok,I.bare⟩
def Inv.after{Q:VK}{u:Value}(I:Inv X pins σ H s)(h:CE X.stack X.prog X.w H s Q u s'):EP X pins σ Q u s':=by
 obtain ⟨v,H',os,bare,un,hok,r,q⟩:=h
 obtain ⟨c,g,d,t,e⟩:=s'
 obtain rfl:e=s.os:=os
 exact⟨v,H',I.call (h':=c) (g':=g) (d':=d) (t':=t) (ch:=[]) un hok bare (fun b z=>absurd z (by simp)),r,q⟩
end
def nG(sp:Sp)(c:List V)(E:XK)(t:TA):TE:=fun b H Q=>t b H fun vs e=>sp (vs++c) e Q E
def Ab(C:Addr)(m:Str)(sp:Sp)(f:List V)(E:XK)(e:TE)(t:TA):TE:=fun b H Q=>e b H fun x c=>∃a dx fs,x=.ref a/\c a=some (.ins C dx fs)/\fs.lookup m=none /\
 t b c fun vs g=>sp (x::(vs++f)) g Q E
def GP(C:Addr)(sp:Sp)(e:List V)(E:XK)(t:TA):TE:=fun c H Q=>t c H fun vs b=>∀x dx,b x=none->b dx=none->dx≠x ->
 sp (.ref x::(vs++e)) (upd (upd b dx (.own x)) x (.ins C dx [])) (fun v f=>v=.non/\Q (.ref x) f) E
def Binds(K:aad)(b:FuncData)(ps:List Str)(ds:List Value):Prop :=
 ∀(s:Shared) (us:List Value),K.In s.heap->(us++ds).length=ps.length->BindsTo s b ⟨us,[]⟩ (ps.zip (us++ds))
def Binds.all{K:aad}{b:FuncData}{ps:List Str}(h:∀us:List Value,us.length=ps.length->bindArgs b ⟨us,[]⟩=pure (ps.zip us)):Binds K b ps []:=fun s us _ hl=>by
 rw[ML] at hl ⊢
 exact .of_eq (h us hl)
def Passes(CX:CXT)(X:Cx)(E:XK):Prop:=∀(b:List (Addr × Obj)) (c:St) (H:Hp) (s:Shared) (e:Value) (s':Shared),Inv X b c H s->CX X.stack H s E e s'->X.xe e s'
section
variable {X:Cx}{CX:CXT}{k:Nat}{f C:Addr}{fd:FuncData}{ps:List Str}{sp:Sp}{QM:List V}{ds:List Value}{E:XK}{x m:Str}{p MK Qo:Pos}{e o:Expr}{es:List Expr}{ta:TE}{t:TA}
theorem A8{b:List (Addr × Obj)}{g:St}{H:Hp}{s:Shared}{Q:VK}{us:List Value}{vs:List V}(F:br X.prog X.w X.K X.mg X.base CX k f fd ps sp)(l:eP k X.A)(hb:Binds X.K fd ps ds)(hd:Vals QM ds)(j:Passes CX X E)
  (I:Inv X b g H s) (r:Vals vs us) (h:sp (vs++QM) H Q E):wpAny (model X.prog X.w) X.A (call (.ref f) us) (EP X b g Q) X.xe s:=by
 have i:Vals (vs++QM) (us++ds):=r.append hd
 have hl:(us++ds).length=ps.length:=by rw[<- i.length];exact F.len _ _ _ _ h
 refine wpAny_call (codeAny_mono (F.run X.A X.stack s H ⟨us,[]⟩ (us++ds) (vs++QM) Q E l I.xF (hb s us I.kIn hl) i h) fun r s' c=>?_)
 cases r with
 |error e=>exact j b g H s e s' I c
 |ok m =>
  cases m with
  |ret u=>exact I.after c
  |next=>exact False.elim c
  |brk=>exact False.elim c
  |cont=>exact False.elim c
def mZ(F:br X.prog X.w X.K X.mg X.base CX k f fd ps sp)(j:eP k X.A)(m:Gl X x)(hm:X.mg x=some (.ref f))(l:PySem.W.keepIn X.K (.ref f)=true)(hb:Binds X.K fd ps ds)(hd:Vals QM ds)(i:Passes CX X E)
  (ha:PA X (e::es) t) (o:(x == ("__debug__" : Str))=false:=by decide) (n:starEach (e::es) X.env=(false,eval e X.env)::starEach es X.env:=by rfl) (u:(backTo MK (starEach es X.env)).any (·.1)=false:=by rfl) :
  PE X (.Call (.Name x p) (e::es) [] MK) (nG sp QM E t):=by
 intro b s g H Q I h
 refine wpAny_Call_Name_kw (fh I m hm ?_ o)
 refine NM (h₀:=X.base) I.ok.mod.kin l (thn (ha MK b s g H _ I h) fun us v ⟨vs,y,c,r,q⟩=>⟨c.kIn,?_⟩) n u
 exact A8 F j hb hd i c r q
def CU{pl:Sem Bool}(z:PE X o ta)(c:Cls X.K C)(hm:Meth X.K C m f)(F:br X.prog X.w X.K X.mg X.base CX k f fd ps sp)(y:eP k X.A)(hb:Binds X.K fd ps ds)(hd:Vals QM ds)(v:Passes CX X E)(ha:PA X (e::es) t)
  (J:starEach (e::es) X.env=(false,eval e X.env)::starEach es X.env:=by rfl) (G:(backTo MK (starEach es X.env)).any (·.1)=false:=by rfl)
  (ht:eval (.Call (.Attribute o m Qo) (e::es) [] MK) X.env=(do
   let ov <- eval o X.env
   standAt Qo.atName
   let (f,first) <- holding [ov] (getMethod ov m pl)
   callWith MK f first (backTo MK (starEach (e::es) X.env)) (backToKw MK (keywordEach [] X.env))):=by rfl) :
  PE X (.Call (.Attribute o m Qo) (e::es) [] MK) (Ab C m sp QM E ta t):=by
 intro b s g H Q I h
 refine PySem.W.methodCall_KW (pl:=pl) (thn (z b s g H _ I h) fun u n ⟨x,L,j,p,a,dx,fs,ex,B,l,q⟩=>?_) ht
 subst ex
 obtain rfl:u=Value.ref a:=p
 refine uJ j B c hm l ?_
 refine NM (first:=[.ref a]) (h₀:=X.base) I.ok.mod.kin hm.kp (thn (ha MK b n g L _ j q) fun us M ⟨vs,O,i,r,q2⟩=>⟨i.kIn,?_⟩) J G
 exact A8 (us:=.ref a::us) (vs:=.ref a::vs) F y hb hd v i (.cons rfl r) q2
def y8{pl:Sem Bool}(p:PE X o ta)(c:Cls X.K C)(hm:Meth X.K C m f)(F:br X.prog X.w X.K X.mg X.base CX k f fd ps sp)(n:eP k X.A)(hb:Binds X.K fd ps ds)(hd:Vals QM ds)(j:Passes CX X E)
  (ht:eval (.Call (.Attribute o m Qo) [] [] MK) X.env=(do
   let ov <- eval o X.env
   standAt Qo.atName
   let (f,first) <- holding [ov] (getMethod ov m pl)
   callWith MK f first (backTo MK (starEach [] X.env)) (backToKw MK (keywordEach [] X.env))):=by rfl) :
  PE X (.Call (.Attribute o m Qo) [] [] MK) (Ab C m sp QM E ta iu):=by
 intro b s g H Q I h
 refine PySem.W.methodCall_KW (pl:=pl) (thn (p b s g H _ I h) fun u t ⟨x,v,e,i,a,dx,fs,ex,r,l,q⟩=>?_) ht
 subst ex
 obtain rfl:u=Value.ref a:=i
 refine uJ e r c hm l ?_
 exact PySem.W.callWith_K0 (first:=[.ref a]) e.kIn hm.kp (A8 (us:=[.ref a]) (vs:=[.ref a]) F n hb hd j e (.cons rfl .nil) q)
structure Mk(K:aad)(C f:Addr):Prop where
 makes:PySem.W.makesIn K C=true
 init:PySem.W.findIn K (.ref C) "__init__" = some (some (.ref f))
 fn:PySem.W.isFn K (.ref f)=true
 kp:PySem.W.keepIn K (.ref C)=true
theorem Hd{b:List (Addr × Obj)}{i:St}{H:Hp}{s:Shared}{Q:VK}{us:List Value}{vs:List V}(M:Mk X.K C f)(F:br X.prog X.w X.K X.mg X.base CX k f fd ps sp)(o:eP (k+1) X.A)(hb:Binds X.K fd ps ds)(hd:Vals QM ds)
  (n:Passes CX X E) (I:Inv X b i H s) (r:Vals vs us)
  (h:∀x dx,H x=none->H dx=none->dx≠x->sp (.ref x::(vs++QM)) (upd (upd H dx (.own x)) x (.ins C dx [])) (fun v y=>v=.non/\Q (.ref x) y) E) :
  wpAny (model X.prog X.w) X.A (call (.ref C) us) (EP X b i Q) X.xe s:=by
 have l:=h (s.heap.objs.size+1) s.heap.objs.size (I.hok.fresh (Nu _)) (I.hok.fresh (Mm _)) (MA (OZ _))
 have g:=Inv.made (C:=C) I
 have j:Vals (V.ref (s.heap.objs.size+1)::(vs++QM)) (Value.ref (s.heap.objs.size+1)::(us++ds)):=.cons rfl (r.append hd)
 have hl:(Value.ref (s.heap.objs.size+1)::us++ds).length=ps.length:=by
  have e:=j.length
  rw[F.len _ _ _ _ l] at e
  exact e.symm
 refine wpAny_call (Eu (f:=f) I.kIn M.makes M.init (beq_iff_eq.mp M.fn) (codeAny_mono (F.run _ X.stack _ _ ⟨Value.ref (s.heap.objs.size+1)::us,[]⟩ (Value.ref (s.heap.objs.size+1)::(us++ds)) _ _ E (o.make C us [])
  (g.xF.make C us []) (hb _ (Value.ref (s.heap.objs.size+1)::us) g.kIn hl) j l) fun r s' c=>?_))
 cases r with
 |error e=>exact n b i _ _ e s' g c
 |ok p =>
  cases p with
  |ret u =>
   obtain ⟨v,H',t,m,q,q3⟩:=g.after c
   subst q
   exact⟨m,⟨V.ref (s.heap.objs.size+1),H',t,rfl,q3⟩⟩
  |next=>exact False.elim c
  |brk=>exact False.elim c
  |cont=>exact False.elim c
def BX(M:Mk X.K C f)(F:br X.prog X.w X.K X.mg X.base CX k f fd ps sp)(j:eP (k+1) X.A)(l:Gl X x)(hm:X.mg x=some (.ref C))(hb:Binds X.K fd ps ds)(hd:Vals QM ds)(i:Passes CX X E)
  (ha:PA X (e::es) t) (n:(x == ("__debug__" : Str))=false:=by decide) (m:starEach (e::es) X.env=(false,eval e X.env)::starEach es X.env:=by rfl) (o:(backTo MK (starEach es X.env)).any (·.1)=false:=by rfl) :
  PE X (.Call (.Name x p) (e::es) [] MK) (GP C sp QM E t):=by
 intro b s g H Q I h
 refine wpAny_Call_Name_kw (fh I l hm ?_ n)
 refine NM (h₀:=X.base) I.ok.mod.kin M.kp (thn (ha MK b s g H _ I h) fun us u ⟨vs,v,c,r,q⟩=>⟨c.kIn,?_⟩) m o
 exact Hd M F j hb hd i c r q
end
def PK(X:Cx)(e:List Keyword)(t:TA):Prop :=
 ∀(f:Pos) (b:List (Addr × Obj)) (s:Shared) (c:St) (H:Hp) (Q:List V->Hp->Prop),Inv X b c H s->t c H Q->wpAny (model X.prog X.w) X.A (evalAll ((backToKw f (keywordEach e X.env)).map (·.2))) (AP X b c Q) X.xe s
section
variable {X:Cx}{x:Str}{MK Ry:Pos}{e:Expr}{Su:List Keyword}{te:TE}{t:TA}{nm:Option Str}
def EE:PK X [] iu:=fun _ _ _ _ H Q I h=>wpAny_evalAll_nil ⟨[],H,I,.nil,h⟩
def C7(ha:PE X e te)(l:PK X Su t):PK X (⟨nm,e,Ry⟩::Su) (bG te t):=by
 intro MK b s c H Q I h
 show wpAny _ _ (evalAll ((do let v <- eval e X.env;standAt MK;pure v)::(backToKw MK (keywordEach Su X.env)).map (·.2))) _ _ s
 refine wpAny_evalAll_cons (wpAny_bind (thn (ha b s c H _ I h) fun u f ⟨x,p,n,i,j⟩=>wpAny_bind (wpAny_standAt (wpAny_pure ?_))))
 exact thn (l MK b f c p _ n j) fun us q ⟨xs,o,m,g,q2⟩=>⟨x::xs,o,m,.cons i g,q2⟩
end
structure aF(N P:List Str)(sc:Scope):Prop where
 kind:sc.kind=.function
 co:sc.isCoroutine=false
 gen:sc.isGenerator=false
 nd:N.Nodup
 pre:N.take P.length=P
 par:∀x∈P,sc.names.lookup x=some .local\/sc.names.lookup x=some .cell
 nofree:∀y∈sc.names,y.2≠.free
theorem vv{kindOf:Str->Option NameKind}{x:Str}:∀{binds:List (Str × Value)}{m:Str->Option Value},(∀v,(x,v)∉binds)->bindL kindOf binds m x=m x
 |[],_,_=>rfl
 |(n,v)::r,m,h=>by
  unfold bindL
  rw[vv fun w hw=>h w (ox _ hw)]
  split
  .have:x≠n:=by rintro rfl;exact h v Fk
   simp [this]
  .rfl
theorem vY{kindOf:Str->Option NameKind}{x:Str}:∀{binds:List (Str × Value)}{m:Str->Option Value},(∀v,(x,v)∉binds)->bindC kindOf binds m x=m x
 |[],_,_=>rfl
 |(n,v)::r,m,h=>by
  unfold bindC
  rw[vY fun w hw=>h w (ox _ hw)]
  split
  .rfl
  .have:x≠n:=by rintro rfl;exact h v Fk
   simp [this]
theorem vX{kindOf:Str->Option NameKind}{x:Str}{v:Value}:∀{P:List Str}{vs:List Value}{i:Nat}{m:Str->Option Value},P.Nodup->P[i]?=some x->vs[i]?=some v->kindOf x=some .local ->
  bindL kindOf (P.zip vs) m x=some v
 |[],_,_,_,_,h,_,_=>by simp at h
 |_::_,[],_,_,_,_,h,_=>by simp at h
 |p::P,w::vs,0,m,nd,c,b,e=>by
  simp at c b;subst c;subst b
  show bindL kindOf ((p,w)::P.zip vs) m p=_
  unfold bindL
  rw[vv fun v f=>(Mn.mp nd).1 (List.of_mem_zip f).1,if_pos e]
  simp
 |p::P,w::vs,i+1,m,nd,c,b,e=>by
  show bindL kindOf ((p,w)::P.zip vs) m x=_
  unfold bindL
  exact vX (i:=i) (Mn.mp nd).2 (by simpa using c) (by simpa using b) e
theorem vA{kindOf:Str->Option NameKind}{x:Str}{v:Value}:∀{P:List Str}{vs:List Value}{i:Nat}{m:Str->Option Value},P.Nodup->P[i]?=some x->vs[i]?=some v->kindOf x≠some .local ->
  bindC kindOf (P.zip vs) m x=some v
 |[],_,_,_,_,h,_,_=>by simp at h
 |_::_,[],_,_,_,_,h,_=>by simp at h
 |p::P,w::vs,0,m,nd,c,b,e=>by
  simp at c b;subst c;subst b
  show bindC kindOf ((p,w)::P.zip vs) m p=_
  unfold bindC
  rw[vY fun v f=>(Mn.mp nd).1 (List.of_mem_zip f).1,if_neg e]
  simp
 |p::P,w::vs,i+1,m,nd,c,b,e=>by
  show bindC kindOf ((p,w)::P.zip vs) m x=_
  unfold bindC
  exact vA (i:=i) (Mn.mp nd).2 (by simpa using c) (by simpa using b) e
def start(N:List Str)(vs:List V):St:=vs.map some++List.replicate (N.length - vs.length) none
def nj(CX:CXT)(P:Program)(w:World)(K:aad)(mg:Str->Option Value)(base:Heap)(N:List Str)(qual:Str)(scope:Scope)(f:Addr)(cd:Value)(A:Around)(outer:List Env)(s:Shared)(H:Hp)(E:XK):Cx where
 prog:=P
 w:=w
 K:=K
 mg:=mg
 base:=base
 A:=A.deeper (envOfC qual scope s.heap.objs.size f cd)
 N:=N
 s₀:=s
 H₀:=H
 env:=envOfC qual scope s.heap.objs.size f cd
 outer:=outer
 stack:=envOfC qual scope s.heap.objs.size f cd::outer
 ex:=[]
 calm:=true
 fn:=fun _=>true
 pn:=[]
 xe:=fun e s'=>wpAny (model P w) (A.deeper (envOfC qual scope s.heap.objs.size f cd)) (leaving (envOfC qual scope s.heap.objs.size f cd) e) (fun _ b=>CX outer H s E e b) (fun c b=>CX outer H s E c b) s'
def zA{b:Scope}{n:Nat}{x:Str}(h:b.names.lookup x=some .cell):∃c,(cellsFrom n b.names []).lookup x=some c:=by
 have q:=PySem.W.cellsFrom_some b.names n [] (.inl h)
 exact Option.isSome_iff_exists.mp q
def vO{CX:CXT}{P:Program}{w:World}{K:aad}{mg:Str->Option Value}{base:Heap}{N ps:List Str}{qual:Str}{scope:Scope}{f:Addr}{cd:Value}{A:Around}{outer:List Env}{s B:Shared}{H:Hp}{E:XK}{us:List Value}{vs:List V}
  (S:aF N ps scope) (hd:A.handled=none) (j:ya P w K mg base A outer s H) (hl:vs.length=ps.length) (r:Vals vs us)
  (x:InCallC s s.heap.objs.size (bindL (envOfC qual scope s.heap.objs.size f cd).kindOf (ps.zip us) fun _=>none) (cellsFrom (s.heap.objs.size+1) scope.names []) (bindC (envOfC qual scope s.heap.objs.size f cd).kindOf (ps.zip us) fun _=>none) B) :
  Inv (nj CX P w K mg base N qual scope f cd A outer s H E) [] (start N vs) H B:=by
 have M:ps.length<=N.length:=by have:=congrArg List.length S.pre;rw[MT] at this;omega
 obtain ⟨o,J,rfl,F⟩:=x.done
 have t:∀b:Addr,b∉(nj CX P w K mg base N qual scope f cd A outer s H E).ex:=fun b z=>absurd (show b∈([]:List Addr) from z) (by simp)
 refine⟨⟨j.mod,S.kind,rfl,rfl,Mm _,fun y z c o g=>?_,fun y l=>?_,fun y c _ h=>?_,fun _=>hd,Around.frames_deeper j.frames,.inr ⟨rfl,rfl⟩,fun b z=>absurd z (t b),j.bs,j.bsz,fun b _ _=>t b,fun b z=>absurd z (t b),j.nk,j.frf⟩,
  rfl,j.bare,Un.kept F,⟨_,x.toInCall.ns,fun i y v o g L=>?_⟩,fun y c h=>⟨_,x.cell y c h⟩,j.hok.fresh (Mm _),fun y c h=>?_,fun p m=>absurd (show p∈([]:List (Addr × Obj)) from m) (by simp),j.hok.kept F,?_⟩
 .exact name_of_addr x.apart (MR o) (MR g)
 .have l:scope.names.lookup y=some .cell\/scope.names.lookup y=some .free:=l
  rcases l with l|l
  .exact zA l
  .exact absurd rfl (S.nofree _ (MR l))
 .exact NN (x.above y c (MR h))
 .have hi:i<vs.length:=by
   unfold start at g
   by_cases hi:i<vs.length
   .exact hi
   .rw[MD (by simpa using hi)] at g
    rw[MQ] at g
    split at g<;>cases g
  have ha:vs[i]?=some v:=by
   unfold start at g
   rw[Mp (by simpa using hi),Mc] at g
   cases e:vs[i]? with
   |none=>rw[e] at g;cases g
   |some a=>rw[e] at g;cases g;rfl
  obtain ⟨u,C,I⟩:=r.get ha
  have m:ps[i]?=some y:=by
   rw[<- S.pre,List.getElem?_take_of_lt (by omega)];exact o
  have G:ps.Nodup:=by rw[<- S.pre];exact S.nd.sublist (List.take_sublist _ _)
  refine⟨u,I,?_⟩
  rcases S.par y (MP m) with k|k
  .exact .inl ⟨k,vX G m C k⟩
  .obtain ⟨c,e⟩:=zA (n:=s.heap.objs.size+1) k
   refine .inr ⟨.inl k,c,e,?_⟩
   have q:=x.cell y c e
   rw[vA G m C (by show scope.names.lookup y≠_;rw[k];decide)] at q
   exact q
 .exact j.hok.fresh (NN (x.above y c (MR h)))
 .unfold start
  show _=N.length
  rw[Mt,mo,Mw]
  omega
theorem GJ{CX:CXT}{P:Program}{w:World}{K:aad}{mg:Str->Option Value}{base:Heap}{k:Nat}{f:Addr}{name qual:Str}{M:Arguments}{p:List Stmt}{scope:Scope}{C kV i B c ct T:Value}{F R:Option Addr}
  {l:Array (Option Value)}{N ps:List Str}{sp:Sp} (lk:K.lookup f=some ⟨T,R,.func (PySem.W.fnOf name qual M p scope C kV i B F c ct),l⟩) (PM:PySem.W.codeIn K c qual=true) (S:aF N ps scope)
  (len:∀vs H Q E,sp vs H Q E->vs.length=ps.length)
  (PN:∀(A:Around) (outer:List Env) (s:Shared) (H:Hp) (vs:List V) (Q:VK) (E:XK),eP k (A.deeper (envOfC qual scope s.heap.objs.size f c))->sp vs H Q E ->
   ∃t,PSs (nj CX P w K mg base N qual scope f c A outer s H E) p t/\t { nx:=fun _ H'=>Q .non H',rt:=Q } (start N vs) H) :
  br P w K mg base CX (k+1) f (PySem.W.fnOf name qual M p scope C kV i B F c ct) ps sp:=by
 refine⟨len,fun A outer s H args us vs Q E m h hb r G=>?_⟩
 have hl:=len _ _ _ _ G
 have O:K.In s.heap:=h.mod.kin.keeps fun b o e=>(h.bs b o e).1
 have Z0:s.heap.NoLimit:=h.mod.nolimit.keeps fun b o e=>(h.bs b o e).1
 have U9:∀y∈ps.zip us,scope.names.lookup y.1=some .local\/(scope.names.lookup y.1=some .cell/\((cellsFrom (s.heap.objs.size+1) scope.names []).lookup y.1).isSome=true):=fun ⟨n,v⟩ U=>by
  rcases S.par n (List.of_mem_zip U).1 with q|q
  .exact .inl q
  .exact .inr ⟨q,PySem.W.cellsFrom_some _ _ _ (.inl q)⟩
 refine codeAny_call_function m.depth (O _ _ lk) rfl S.co S.gen rfl (PySem.W.codeRec_of O PM) (hb _ _ _ _ ?_)
 refine wpAny_newFunctionEnv_cells S.kind U9 fun env Y z x=>?_
 subst Y
 refine⟨Z0.keeps x.toInCall.keep,codeAny_func ?_⟩
 obtain ⟨t,ht,X⟩:=PN A outer s H vs Q E (m.deeper _) G
 have I:Inv (nj CX P w K mg base N qual scope f c A outer s H E) [] (start N vs) H z:=vO S m.hd h hl r x
 refine wpAny_mono (ht [] z (start N vs) H _ I X) (fun Z s' g=>?_) fun e s' g=>g
 have L:∀{σ':St}{H':Hp}{v:V}{u:Value},Inv (nj CX P w K mg base N qual scope f c A outer s H E) [] σ' H' s'->RelV v u->Q v H'->CE outer P w H s Q u s' :=
  fun {σ' H' v u} J j q=>⟨v,H',J.os,J.bare,J.base,J.hok,j,q⟩
 cases Z with
 |ret u =>
  obtain ⟨v,σ',H',J,j,q⟩:=g
  exact L J j q
 |next =>
  obtain ⟨σ',H',J,q⟩:=g
  exact L (v:=V.non) (u:=Value.none) J rfl q
 |brk =>
  obtain ⟨_,_,_,q⟩:=g
  exact False.elim q
 |cont =>
  obtain ⟨_,_,_,q⟩:=g
  exact False.elim q
end L2
namespace L2
open PySem PySem.Spec PyProof.Rows
section
variable {X:Cx}{x:Str}{p MK:Pos}{e:Expr}{es:List Expr}{t:TA}{id T:String}{r:List V->Hp->VK->Prop}
def tCB(r:List V->Hp->VK->Prop)(t:TA):TE:=fun b H Q=>t b H fun vs c=>r vs c Q
def aQ(n:fR X (.builtin id) r)(l:Gl X x)(hm:X.mg x=none)(j:bootBuiltins x=some (.builtin id))(ha:PA X (e::es) t)(hn:x≠"__name__":=by decide)(o:(x == ("__debug__" : Str))=false:=by decide)
  (m:starEach (e::es) X.env=(false,eval e X.env)::starEach es X.env:=by rfl) (q:(backTo MK (starEach es X.env)).any (·.1)=false:=by rfl):PE X (.Call (.Name x p) (e::es) [] MK) (tCB r t):=by
 intro b s c H Q I h
 refine wpAny_Call_Name_kw (jz I l hm j ?_ hn o)
 exact PyProof.Rows.callWith_builtin1 (thn (ha MK b s c H _ I h) fun us f ⟨vs,v,u,g,i⟩=>n b f c v vs us Q u g i) m q
def cP(n:fR X (.type T) r)(l:Gl X x)(hm:X.mg x=none)(j:bootBuiltins x=some (.type T))(ha:PA X (e::es) t)(hn:x≠"__name__":=by decide)(o:(x == ("__debug__" : Str))=false:=by decide)
  (m:starEach (e::es) X.env=(false,eval e X.env)::starEach es X.env:=by rfl) (q:(backTo MK (starEach es X.env)).any (·.1)=false:=by rfl):PE X (.Call (.Name x p) (e::es) [] MK) (tCB r t):=by
 intro b s c H Q I h
 refine wpAny_Call_Name_kw (jz I l hm j ?_ hn o)
 exact Na (thn (ha MK b s c H _ I h) fun us f ⟨vs,v,u,g,i⟩=>n b f c v vs us Q u g i) m q
end
end L2
namespace HT
open PySem PyProof.Rows
section
open PySem.SeqAt
open PySem.AutoSeq1 (wpAny_loadPart')
open PySem.MeetsSeq PySem.MeetsSeq2 PySem.MeetsSeq3
end
section
variable {prog:Program}{w:World}{A:Around}{E:Value->Shared->Prop}{s:Shared}
def sIx(n d:Nat):Option Int->Nat
 |none=>d
 |some v=>if v<0 then (v+(n:Int)).toNat else min v.toNat n
def uH(n d:Nat):sIx n d none=d:=rfl
def sk(n d k:Nat):sIx n d (some (k:Int))=min k n:=by
 show (if (k:Int)<0 then ((k:Int)+(n:Int)).toNat else min (k:Int).toNat n)=min k n
 rw[if_neg (by omega),Md]
theorem Kx(n d:Nat)(hd:d<=n)(o:Option Int):sIx n d o<=n:=by
 cases o with
 |none=>exact hd
 |some v =>
  show (if v<0 then (v+(n:Int)).toNat else min v.toNat n)<=n
  by_cases b:v<0
  .rw[if_pos b];omega
  .rw[if_neg b];exact Nat.min_le_right _ _
def CG(v:Int)(n d:Nat):(if v<0 then max (v+(n:Int)) 0 else min v (n:Int))=((sIx n d (some v):Nat):Int):=by
 show (if v<0 then max (v+(n:Int)) 0 else min v (n:Int))=(((if v<0 then (v+(n:Int)).toNat else min v.toNat n):Nat):Int)
 by_cases b:v<0
 .simp only[if_pos b];omega
 .simp only[if_neg b];omega
def Bv(lo hi:Option Int)(n:Nat):Builtin.Slice.sliceAdjust lo hi 1 (n:Int)=(((sIx n 0 lo:Nat):Int),((sIx n n hi:Nat):Int)):=by
 have b:¬ ((1:Int)<0):=by omega
 unfold Builtin.Slice.sliceAdjust
 simp only[b,if_false]
 refine Prod.ext ?_ ?_
 .cases lo with
  |none=>rfl
  |some v=>exact CG v n 0
 .cases hi with
  |none=>rfl
  |some v=>exact CG v n n
def Bk(i j:Nat):Builtin.Slice.slicePlaces (i:Int) (j:Int) 1=j - i:=by
 unfold Builtin.Slice.slicePlaces
 have b:(1:Int)>0:=by omega
 simp only[b,if_true,Int.ediv_one]
 split<;>omega
theorem tJ{v:Value}{o:Option Int}{Q:Option Int->Shared->Prop}(p:IsPart v o)(h:Q o s):wpAny (model prog w) A (Builtin.Slice.slicePartIndex v) Q E s:=by
 cases p with
 |none=>exact slicePart_none h
 |int i t=>exact slicePart_int h
def qh{g:Addr}{c b:Value}{lo hi:Option Int}{n:Nat}{Q:Int × Int × Nat->Shared->Prop}(j:s.heap.IsSliceOf g c b .none)(pl:IsPart c lo)(i:IsPart b hi)
  (h:Q (((sIx n 0 lo:Nat):Int),1,sIx n n hi - sIx n 0 lo) s):wpAny (model prog w) A (Builtin.Slice.sliceApplied (.ref g) (pure (n:Int))) Q E s:=by
 obtain ⟨os,f,l,e⟩:=id j
 unfold Builtin.Slice.sliceApplied Builtin.Slice.sliceFields
 refine wpAny_bind (wpAny_bind (wpAny_field f e (x:=c) rfl (wpAny_bind (wpAny_field f e (x:=b) rfl (wpAny_bind (wpAny_field f e (x:=.none) rfl (wpAny_pure ?_)))))))
 refine wpAny_bind (slicePart_none ?_)
 show wpAny _ _ (if ((1:Int) == 0)=true then _ else _) _ _ s
 rw[if_neg (by decide)]
 refine wpAny_bind (tJ pl (wpAny_bind (tJ i (wpAny_bind (wpAny_pure ?_)))))
 show wpAny _ _ (match Builtin.Slice.sliceAdjust lo hi 1 (n:Int) with|(lo,hi)=>pure (lo,(1:Int),Builtin.Slice.slicePlaces lo hi 1)) _ _ s
 rw[Bv lo hi n]
 show wpAny _ _ (pure (((sIx n 0 lo:Nat):Int),(1:Int),Builtin.Slice.slicePlaces ((sIx n 0 lo:Nat):Int) ((sIx n n hi:Nat):Int) 1)) _ _ s
 rw[Bk]
 exact wpAny_pure h
def G1(xs:Array Value)(i k:Nat):((List.range k).filterMap fun (m:Nat)=>xs[((i:Int)+(m:Int)*1).toNat]?).toArray=((xs.toList.drop i).take k).toArray:=by
 have e:(fun (m:Nat)=>xs[((i:Int)+(m:Int)*1).toNat]?)=fun m=>xs[i+m]?:=by
  funext m
  have:((i:Int)+(m:Int)*1).toNat=i+m:=by omega
  rw[this]
 rw[e]
 have:=pick_run xs i k
 rw[List.filterMap_map] at this
 have e2:((fun x=>xs[x]?) ∘ fun x=>i+x)=fun m=>xs[i+m]?:=rfl
 rw[e2] at this
 rw[this]
def pF{t c:Addr}{items:Array Value}{g f:Value}{lo hi:Option Int}{Q:Value->Shared->Prop}(ht:IsTup s.heap t items)(i:s.heap.IsSliceOf c g f .none)(pl:IsPart g lo)(j:IsPart f hi)
  (hw:¬ (sIx items.size 0 lo=0/\sIx items.size items.size hi=items.size))
  (h:Q (.ref s.heap.objs.size) { s with heap:=s.heap.push { cls:=.type "tuple",data:=.seq ((items.toList.drop (sIx items.size 0 lo)).take (sIx items.size items.size hi - sIx items.size 0 lo)).toArray } })
  (hsz:items.size<=sizeLine):wpAny (model prog w) A (getItem (.ref t) (.ref c)) Q E s:=by
 have b:sizeOk (.seq ((items.toList.drop (sIx items.size 0 lo)).take (sIx items.size items.size hi - sIx items.size 0 lo)).toArray):=by
  show ((items.toList.drop (sIx items.size 0 lo)).take (sIx items.size items.size hi - sIx items.size 0 lo)).toArray.size<=sizeLine
  rw[Mx,MT,Nk,MZ]
  omega
 have hj:sIx items.size items.size hi<=items.size:=Kx _ _ (Mm _) hi
 obtain ⟨os,n,o,r⟩:=id i
 have e:s.TypeIs (.ref c) "slice":=⟨os,n,o⟩
 unfold getItem
 try with_reducible refine wpAny_holding ?_
 first|refine wpAny_bind (wpAny_pure ?_)|skip
 refine wpAny_bind (wpAny_sequenceKey ht.typeIs (by decide) ?_)
 refine wpAny_bind (wpAny_callSpecial?_slot (name:=Str.ofString "__getitem__") ht.typeIs OU
  (wpAny_call_entry OU ht.typeIs entry_tuple_getitem ?_ (args_tuple_getitem _ _)))
 show wpAny _ _ (Builtin.Tuple.tupleItemsOf (.ref t) >>= _) _ _ s
 refine wpAny_bind (tupleItemsOf_ ht ?_)
 refine wpAny_bind (wpAny_typeOf e ?_)
 rw[if_pos (by decide)]
 refine wpAny_bind (qh i pl j ?_)
 have l:¬ ((((sIx items.size 0 lo:Nat):Int) == 0 && (1:Int) == 1 && (sIx items.size items.size hi - sIx items.size 0 lo) == items.size)=true):=by
  intro q
  rw[Ng,Ng] at q
  have p:((sIx items.size 0 lo:Nat):Int)=0:=eq_of_beq q.1.1
  have q2:sIx items.size items.size hi - sIx items.size 0 lo=items.size:=eq_of_beq q.2
  exact hw ⟨by omega,by omega⟩
 show wpAny _ _ (if (((sIx items.size 0 lo:Nat):Int) == 0 && (1:Int) == 1 && (sIx items.size items.size hi - sIx items.size 0 lo) == items.size)=true then _ else _) _ _ s
 rw[if_neg l,G1]
 first
  |exact wpAny_bind (m:=Builtin.Tuple.tupleExact _) (wpAny_newObj_type (wpAny_pure ⟨_,rfl,wpAny_pure h⟩) b)
  |exact wpAny_bind (m:=Builtin.Tuple.tupleExact _) (wpAny_newObj_type (wpAny_bind (wpAny_pure (wpAny_pure ⟨_,rfl,wpAny_pure h⟩))) b)
  |exact wpAny_bind (wpAny_bind (m:=Builtin.Tuple.tupleExact _) (wpAny_newObj_type (wpAny_pure (wpAny_pure ⟨_,rfl,wpAny_pure h⟩)) b))
  |exact wpAny_bind (wpAny_bind (m:=Builtin.Tuple.tupleExact _) (wpAny_newObj_type (wpAny_pure ⟨_,rfl,wpAny_pure h⟩) b))
end
end HT
namespace L2
open PySem PySem.Spec PyProof.Rows
abbrev TO:=St->Hp->(Option Int->Hp->Prop)->Prop
def PO(X:Cx)(e:Option Expr)(t:TO):Prop :=
 ∀(b:List (Addr × Obj)) (s:Shared) (c:St) (H:Hp) (Q:Option Int->Hp->Prop),Inv X b c H s->t c H Q ->
  wpAny (model X.prog X.w) X.A (evalPart e X.env) (fun u s'=>∃o H',Inv X b c H' s'/\IsPart u o/\Q o H') X.xe s
def xo:TO:=fun _ H Q=>Q none H
def GR(t:TE):TO:=fun b H Q=>t b H fun x c=>∃i,x=.int i/\Q (some i) c
section
variable {X:Cx}{e:Expr}{te:TE}{lo hi:Option Expr}{tl th:TO}{MK p2:Pos}
def pH:PO X none xo:=by
 intro b s c H Q I h
 rw[evalPart_none]
 exact wpAny_pure ⟨none,H,I,.none,h⟩
def oY(h:PE X e te):PO X (some e) (GR te):=by
 intro b s c H Q I hw
 rw[evalPart_some]
 refine thn (h b s c H _ I hw) fun u m ⟨x,l,j,f,g⟩=>?_
 obtain ⟨i,rfl,q⟩:=g
 obtain ⟨t,rfl⟩:=f
 exact⟨some i,l,j,.int i t,q⟩
def SlR(X:Cx)(r:V->Option Int->Option Int->Hp->VK->Prop):Prop :=
 ∀(b:List (Addr × Obj)) (s:Shared) (c:St) (H:Hp) (x:V) (v f e:Value) (lo hi:Option Int) (g:Addr) (Q:VK),Inv X b c H s->RelV x v->s.heap.IsSliceOf g f e .none->IsPart f lo->IsPart e hi->r x lo hi H Q ->
  ∃T id,typeLookup (.type T) "__getitem__" = pure (some (.builtin id))/\s.TypeIs v T/\wpAny (model X.prog X.w) X.A (getItem v (.ref g)) (EP X b c Q) X.xe s
def tSl(r:V->Option Int->Option Int->Hp->VK->Prop)(f:TE)(c e:TO):TE:=fun b H Q=>f b H fun x i=>c b i fun l h=>e b h fun u g=>r x l u g Q
def mJ{r:V->Option Int->Option Int->Hp->VK->Prop}(B:SlR X r)(E:PE X e te)(hl:PO X lo tl)(z:PO X hi th):PE X (.Subscript e (.Slice lo hi none p2) MK) (tSl r te tl th):=by
 intro c s g H Q I h
 refine Subscript_ (thn (E c s g H _ I h) fun v o ⟨x,P,M,p,t⟩=>?_)
 refine wpAny_Slice (thn (hl c o g P _ M t) fun j n ⟨l,O,L,pl,q2⟩=>thn (z c n g O _ L q2) fun i f ⟨u,m,J,y,q3⟩=>?_)
 rw[evalPart_none]
 refine wpAny_pure ?_
 have G:Inv X c g m { f with heap:=f.heap.push { cls:=.type "slice",data:=.fields #[j,i,.none] } }:=J.kept (t':=f.toks) fun b ob q=>Heap.get?_push_of_some _ q
 obtain ⟨T,id,F,ht,C⟩:=B c { f with heap:=f.heap.push { cls:=.type "slice",data:=.fields #[j,i,.none] } } g m x v j i l u f.heap.objs.size Q G p (Heap.IsSliceOf.new ..) pl y q3
 show wpAny (model X.prog X.w) X.A (subscriptTail e (.Slice lo hi none p2) v (.ref f.heap.objs.size)) (EP X c g Q) X.xe { f with heap:=f.heap.push { cls:=.type "slice",data:=.fields #[j,i,.none] } }
 exact tail_any (ops:=[.ref f.heap.objs.size,v]) ht F C (by with_unfolding_all rfl)
def uX(xs:List V)(lo hi:Option Int):List V:=(xs.drop (HT.sIx xs.length 0 lo)).take (HT.sIx xs.length xs.length hi - HT.sIx xs.length 0 lo)
def rh(xs:List V)(lo hi:Option Int):(uX xs lo hi).length<=xs.length:=by
 unfold uX
 rw[MT,Nk]
 omega
def Kr(K:aad):V->Option Int->Option Int->Hp->VK->Prop:=fun x lo hi H Q=>∃a xs,x=.ref a/\SqT K H a xs /\
 ¬ (HT.sIx xs.length 0 lo=0/\HT.sIx xs.length xs.length hi=xs.length)/\∀p,H p=none->Q (.ref p) (upd H p (.tup (uX xs lo hi)))
def KJ:SlR X (Kr X.K):=by
 intro e s n H x v t p lo hi u Q I g l pl i h
 obtain ⟨a,xs,rfl,j,hw,q⟩:=h
 cases g
 obtain ⟨m,r,ht,f⟩:=I.tuple j
 have c:m.toArray.size=xs.length:=by rw[Mx];exact r.length.symm
 refine⟨"tuple",_,OU.lookup,ht.typeIs,?_⟩
 refine HT.pF ht l pl i (by rw[c];exact hw) ?_ (by rw[c];exact f)
 rw[c]
 refine⟨.ref s.heap.objs.size,_,I.laid (t':=s.toks) (o:=.tup (uX xs lo hi)) (fun b ob q=>Heap.get?_push_of_some _ q) (Mm _) ?_,rfl,q _ (I.hok.fresh (Mm _))⟩
 exact⟨ME (rh xs lo hi) f,_,(r.drop (HT.sIx xs.length 0 lo)).take (HT.sIx xs.length xs.length hi - HT.sIx xs.length 0 lo),IsTup.new _ _⟩
end
end L2
namespace L2
open PySem PySem.Spec PyProof.Rows
def ixN(n:Nat)(i:Int):Option Nat:=if 0<=i then (if i<n then some i.toNat else none) else if -(n:Int)<=i then some (i+n).toNat else none
def atI{b:Type}(xs:List b)(i:Int):Option b:=(ixN xs.length i).bind fun j=>xs[j]?
def BJ{n:Nat}{i:Int}{j:Nat}(h:ixN n i=some j):seqIndex? i n=some j/\j<n/\-(n:Int)<=i/\i<n:=by
 unfold ixN at h
 by_cases c:0<=i
 .rw[if_pos c] at h
  by_cases b:i<n
  .rw[if_pos b] at h
   have e:i.toNat=j:=MH h
   exact⟨by rw[seqIndex_of c b,e],by omega,by omega,b⟩
  .rw[if_neg b] at h;cases h
 .rw[if_neg c] at h
  by_cases b : -(n:Int)<=i
  .rw[if_pos b] at h
   have e:(i+n).toNat=j:=MH h
   exact⟨by rw[seqIndex_neg (by omega) b,e],by omega,b,by omega⟩
  .rw[if_neg b] at h;cases h
theorem BI{b:Type}{xs:List b}{i:Int}{v:b}(h:atI xs i=some v):∃j,seqIndex? i xs.length=some j/\xs[j]?=some v/\j<xs.length/\-(xs.length:Int)<=i/\i<xs.length:=by
 unfold atI at h
 cases e:ixN xs.length i with
 |none=>rw[e] at h;cases h
 |some j =>
  rw[e] at h
  obtain ⟨l,g,f,c⟩:=BJ e
  exact⟨j,l,h,g,f,c⟩
def yb(b:Expr):Prop:=∀o i,subscripted b false o i=operate [o,i] (getItem o i)
def IxR(X:Cx)(r:R2):Prop :=
 ∀(f b:Expr) (c:List (Addr × Obj)) (s:Shared) (e:St) (H:Hp) (x y:V) (v u:Value) (Q:VK),Inv X c e H s->RelV x v->RelV y u->r x y H Q ->
  subscripted b false v u=operate [v,u] (getItem v u)->wpAny (model X.prog X.w) X.A (subscriptTail f b v u) (EP X c e Q) X.xe s
def MtR(X:Cx)(id:String)(r:V->List V->Hp->VK->Prop):Prop :=
 ∀(b:List (Addr × Obj)) (s:Shared) (c:St) (H:Hp) (x:V) (xs:List V) (v:Value) (us:List Value) (Q:VK),Inv X b c H s->RelV x v->Vals xs us->r x xs H Q ->
  wpAny (model X.prog X.w) X.A (call (.builtin id) (v::us)) (EP X b c Q) X.xe s
section
variable {X:Cx}{a b:Expr}{ta tb:TE}{MK:Pos}
def Jz{r:R2}(l:IxR X r)(ha:PE X a ta)(hb:PE X b tb)(j:yb b):PE X (.Subscript a b MK) (tOp r ta tb):=by
 intro c s e H Q I h
 exact Subscript_ (JQ ha hb I h fun v u f x y n m i g q=>l a b c f e n x y v u Q m i g q (j _ _))
def yg(K:aad):R2:=fun x y H Q=>∃p xs i v,x=.ref p/\y=.int i/\SqL K H p xs/\atI xs i=some v/\Q v H
def tN(K:aad):R2:=fun x y H Q=>∃p xs i v,x=.ref p/\y=.int i/\SqT K H p xs/\atI xs i=some v/\Q v H
def HG:IxR X (yg X.K):=by
 intro R e b s f H x y v u Q I B o h g
 obtain ⟨p,xs,i,z,rfl,rfl,C,E,q⟩:=h
 cases B
 obtain ⟨t,rfl⟩:=o
 obtain ⟨M,r,pl,O⟩:=I.list C
 obtain ⟨j,c,J,P,G,F⟩:=BI E
 obtain ⟨w,m,L⟩:=r.get J
 have hl:=r.length
 have hn:=wZ
 have n:EP X b f Q w s:=⟨z,H,I,L,q⟩
 by_cases l:0<=i
 .have hj:i.toNat=j:=by
   rw[seqIndex_of l F] at c
   exact MH c
  exact item_listR pl.isList l (by omega) (by rw[hj];simpa using m) n g
 .have hj:(i+(M.toArray.size:Int)).toNat=j:=by
   rw[seqIndex_neg (by omega) G] at c
   rw[Mx,<- hl]
   exact MH c
  exact subscriptTail_builtinR (x:=w) pl.isList.typeIs slot_list_getitem.lookup
   (wpAny_getItem_list_neg (Q:=fun r s'=>r=w/\EP X b f Q r s') pl.isList (by omega) (by rw[Mx]<;>omega) (by omega) (by rw[hj];simpa using m) ⟨rfl,n⟩) g
def Ky:IxR X (tN X.K):=by
 intro O c b s e H x y v u Q I g f h l
 obtain ⟨p,xs,i,z,rfl,rfl,m,n,q⟩:=h
 cases g
 obtain ⟨t,rfl⟩:=f
 obtain ⟨P,r,pl,G⟩:=I.tuple m
 obtain ⟨j,B,o,M,L,J⟩:=BI n
 obtain ⟨w,C,E⟩:=r.get o
 have hl:=r.length
 have hn:=wZ
 have F:EP X b e Q w s:=⟨z,H,I,E,q⟩
 exact subscriptTail_builtinR (x:=w) pl.typeIs slot_tuple_getitem.lookup
  (getItem_tuple (j:=j) (Q:=fun r s'=>r=w/\EP X b e Q r s') pl (by omega) (by omega) (by rw[Mx,<- hl];exact B) (by simpa using C) ⟨rfl,F⟩) l
def A0(b:List Value)(n j:Nat)(u:Value):Obj.mapSeq (·.setIfInBounds j u) { cls:=.type "list",data:=.seq b.toArray n }={ cls:=.type "list",data:=.seq (b.set j u).toArray n }:=by
 simp [Obj.mapSeq]
theorem Inv.lst{b:List (Addr × Obj)}{f:St}{H:Hp}{s:Shared}{p:Addr}{xs:List V}(I:Inv X b f H s)(h:H p=some (.lst xs)) :
  ∃(c:List Value) (n:Nat),Vals xs c/\s.heap.get? p=some { cls:=.type "list",data:=.seq c.toArray n }/\xs.length<=sizeLine:=by
 obtain ⟨z,c,n,r,e⟩:=I.hok p _ h
 exact⟨c,n,r,e,z⟩
def Inv.K8{c:List (Addr × Obj)}{i:St}{H:Hp}{s:Shared}{p:Addr}{xs ys:List V}{l its':List Value}{n g:Nat}{f:Obj->Obj}(I:Inv X c i H s)(h:H p=some (.lst xs))
  (o:s.heap.get? p=some { cls:=.type "list",data:=.seq l.toArray n }) (j:f { cls:=.type "list",data:=.seq l.toArray n }={ cls:=.type "list",data:=.seq its'.toArray g }) (r:Vals ys its') (m:ys.length<=sizeLine) (t:Nat) :
  Inv X c i (upd H p (.lst ys)) { s with heap:=s.heap.update p f,toks:=t }:=by
 have e:(s.heap.update p f).get? p=some { cls:=.type "list",data:=.seq its'.toArray g }:=by
  rw[Heap.get?_update_self f o (by rw[j]<;>rfl),j]
 refine I.write (x:=p) (e:=p) (by rw[h];trivial) (.inl rfl) (fun b u hb q=>(Heap.get?_update_other _ _ (MI hb)).trans q) ⟨_,e⟩ ?_
 exact⟨m,its',g,r,e⟩
def sJ:V->V->V->Hp->(Hp->Prop)->Prop:=fun o i v H Q=>∃p xs k j,o=.ref p/\i=.int k/\H p=some (.lst xs)/\ixN xs.length k=some j/\Q (upd H p (.lst (xs.set j v)))
def set_list:LU X sJ:=by
 intro b s B H o i v J L u Q I E F C h
 obtain ⟨p,xs,k,j,rfl,rfl,g,hj,q⟩:=h
 cases E
 obtain ⟨t,rfl⟩:=F
 obtain ⟨y,n,r,e,G⟩:=I.lst g
 obtain ⟨c,M,m,l⟩:=BJ hj
 have hl:=r.length
 have hn:=wZ
 have z:Inv X b B (upd H p (.lst (xs.set j v))) { s with heap:=s.heap.update p (Obj.mapSeq (·.setIfInBounds j u)) } :=
  I.K8 g e (A0 y n j u) (r.set C j) (by rw[Mv];exact G) s.toks
 by_cases x:0<=k
 .have f:k.toNat=j:=by
   rw[seqIndex_of x l] at c
   exact MH c
  exact PySem.W.ki_setAt e x (by omega) (by rw[Mx,<- hl];exact l) (by rw[f];exact⟨_,z,q⟩)
 .have f:(k+(y.toArray.size:Int)).toNat=j:=by
   rw[seqIndex_neg (by omega) m] at c
   rw[Mx,<- hl]
   exact MH c
  exact PySem.W.ki_setBack e (by omega) (by rw[Mx,<- hl];exact m) (by omega) (by rw[f];exact⟨_,z,q⟩)
def xA(lo hi:Option Int)(n:Nat):(sliceBounds lo hi none n).1=((HT.sIx n 0 lo:Nat):Int)/\(sliceBounds lo hi none n).2.1=((HT.sIx n n hi:Nat):Int)/\(sliceBounds lo hi none n).2.2=1:=by
 refine⟨?_,?_,rfl⟩
 .cases lo with
  |none=>simp [sliceBounds,HT.sIx]
  |some i =>
   simp only[sliceBounds,HT.sIx,Option.getD_none,show (1:Int)>0 by decide,if_true]
   by_cases h:i<0
   .simp only[h,if_true]<;>omega
   .simp only[h,if_false]<;>omega
 .cases hi with
  |none=>simp [sliceBounds,HT.sIx]
  |some i =>
   simp only[sliceBounds,HT.sIx,Option.getD_none,show (1:Int)>0 by decide,if_true]
   by_cases h:i<0
   .simp only[h,if_true]<;>omega
   .simp only[h,if_false]<;>omega
def u7(b:List Value)(lo hi:Option Int):slicePick b.toArray lo hi none=((b.drop (HT.sIx b.length 0 lo)).take (HT.sIx b.length b.length hi - HT.sIx b.length 0 lo)).toArray:=by
 obtain ⟨f,e,c⟩:=xA lo hi b.toArray.size
 unfold slicePick
 rw[f,e,c]
 simp only[sliceRange_one,pick_run,Mx]<;>rfl
def Kn(K:aad):V->Option Int->Option Int->Hp->VK->Prop:=fun x lo hi H Q=>∃a xs,x=.ref a/\SqL K H a xs/\∀p,H p=none->Q (.ref p) (upd H p (.lst (uX xs lo hi)))
def Ib:SlR X (Kn X.K):=by
 intro c s m H x v p n lo hi t Q I e j pl f h
 obtain ⟨a,xs,rfl,i,q⟩:=h
 cases e
 obtain ⟨u,r,ht,g⟩:=I.list i
 have l:=r.length
 refine⟨"list",_,slot_list_getitem.lookup,ht.isList.typeIs,?_⟩
 refine wpAny_getItem_list_slice ht.isList j pl f .none (by simp) ?_ (by rw[Mx]<;>omega)
 rw[u7,<- l]
 refine⟨.ref s.heap.objs.size,_,I.laid (t':=s.toks) (o:=.lst (uX xs lo hi)) (fun b ob q=>Heap.get?_push_of_some _ q) (Mm _) ?_,rfl,q _ (I.hok.fresh (Mm _))⟩
 exact⟨ME (rh xs lo hi) g,_,0,(r.drop (HT.sIx xs.length 0 lo)).take (HT.sIx xs.length xs.length hi - HT.sIx xs.length 0 lo),Heap.get?_push_size _ rfl⟩
def gu:V->Bool
 |.non=>true
 |.bl _=>true
 |.int _=>true
 |.str _=>true
 |_=>false
def eqV:V->V->Bool
 |.non,.non=>true
 |.bl a,.bl b=>a == b
 |.bl a,.int b=>(if a then 1 else 0) == b
 |.int a,.bl b=>a == (if b then 1 else 0)
 |.int a,.int b=>a == b
 |.str a,.str b=>a == b
 |_,_=>false
theorem JJ{A:Around}{s:Shared}{y x:V}{u v:Value}(e:RelV y u)(c:RelV x v)(g:gu y=true)(f:gu x=true):SeqAt.EqAt A s u v (eqV y x):=by
 cases y with
 |non =>
  cases e
  cases x with
  |non=>cases c;exact SeqAt.EqAt.same _
  |bl b=>cases c;exact SeqAt.EqAt.none_bool b
  |int b=>obtain ⟨t,rfl⟩:=c;exact SeqAt.EqAt.none_int b t
  |str b=>obtain ⟨t,rfl⟩:=c;exact SeqAt.EqAt.none_str b t
  |_=>exact absurd (show false=true from f) Mz
 |bl a =>
  cases e
  cases x with
  |non=>cases c;exact SeqAt.EqAt.bool_none a
  |bl b=>cases c;exact SeqAt.EqAt.bool_bool a b
  |int b=>obtain ⟨t,rfl⟩:=c;exact SeqAt.EqAt.bool_int a b t
  |str b=>obtain ⟨t,rfl⟩:=c;exact SeqAt.EqAt.bool_str a b t
  |_=>exact absurd (show false=true from f) Mz
 |int a =>
  obtain ⟨t',rfl⟩:=e
  cases x with
  |non=>cases c;exact SeqAt.EqAt.int_none a t'
  |bl b=>cases c;exact SeqAt.EqAt.int_bool a t' b
  |int b=>obtain ⟨t,rfl⟩:=c;exact SeqAt.EqAt.int_int a t' b t
  |str b=>obtain ⟨t,rfl⟩:=c;exact SeqAt.EqAt.int_str a t' b t
  |_=>exact absurd (show false=true from f) Mz
 |str a =>
  obtain ⟨t',rfl⟩:=e
  cases x with
  |non=>cases c;exact SeqAt.EqAt.str_none a t'
  |bl b=>cases c;exact SeqAt.EqAt.str_bool a t' b
  |int b=>obtain ⟨t,rfl⟩:=c;exact SeqAt.EqAt.str_int a t' b t
  |str b=>obtain ⟨t,rfl⟩:=c;exact SeqAt.EqAt.str_str a t' b t
  |_=>exact absurd (show false=true from f) Mz
 |_=>exact absurd (show false=true from g) Mz
def eqU(x:V)(u:Value):Bool:=match u with
 |.none=>eqV .non x
 |.bool b=>eqV (.bl b) x
 |.int i _=>eqV (.int i) x
 |.str z _=>eqV (.str z) x
 |_=>false
theorem Ba{x y:V}{u:Value}(r:RelV y u)(f:gu y=true):eqU x u=eqV y x:=by
 cases y with
 |non=>cases r;rfl
 |bl b=>cases r;rfl
 |int i=>obtain ⟨t,rfl⟩:=r;rfl
 |str z=>obtain ⟨t,rfl⟩:=r;rfl
 |_=>exact absurd (show false=true from f) Mz
theorem oG{x:V}:∀{xs:List V}{us:List Value},Vals xs us->xs.all gu=true->us.any (eqU x)=xs.any fun y=>eqV y x
 |_,_,.nil,_=>rfl
 |y::xs,u::us,.cons r t,f=>by
  rw[List.all_cons,Ng] at f
  rw[List.any_cons,List.any_cons,Ba r f.1,oG t f.2]
theorem kL{A:Around}{s:Shared}{x:V}{v:Value}(c:RelV x v)(e:gu x=true):∀{xs:List V}{us:List Value},Vals xs us->xs.all gu=true->∀u∈us,SeqAt.EqAt A s u v (eqU x u)
 |_,_,.nil,_=>fun u b=>by cases b
 |y::xs,u::us,.cons r t,f=>fun g b=>by
  rw[List.all_cons,Ng] at f
  rcases Mb.mp b with rfl|b
  .rw[Ba r f.1];exact JJ r c f.1 e
  .exact kL c e t f.2 g b
def inV(x:V)(xs:List V):Bool:=xs.any fun y=>eqV y x
def rIn(K:aad)(b:Bool):R2:=fun x y H Q=>∃p xs,y=.ref p/\(SqL K H p xs\/SqT K H p xs)/\gu x=true/\xs.all gu=true/\Q (.bl (if b then !inV x xs else inV x xs)) H
def DL:OpR X (compareOp .In) (rIn X.K false):=by
 intro f s l H x y v u Q I e i h
 obtain ⟨p,xs,rfl,b,g,fs,q⟩:=h
 cases i
 rcases b with b|b
 .obtain ⟨c,r,pl,j⟩:=I.list b
  refine SeqAt.in_listAt (eqU x) pl.isList (fun w hw=>kL e g r fs w (by simpa using hw)) ⟨.bl _,H,I,rfl,?_⟩
  rw[show c.toArray.any (eqU x)=c.any (eqU x) by simp,oG r fs]
  exact q
 .obtain ⟨c,r,pl,j⟩:=I.tuple b
  refine SeqAt.in_tupleAt (eqU x) pl (fun w hw=>kL e g r fs w (by simpa using hw)) ⟨.bl _,H,I,rfl,?_⟩
  rw[show c.toArray.any (eqU x)=c.any (eqU x) by simp,oG r fs]
  exact q
def xi:OpR X (compareOp .NotIn) (rIn X.K true):=by
 intro f s l H x y v u Q I e i h
 obtain ⟨p,xs,rfl,b,g,fs,q⟩:=h
 cases i
 rcases b with b|b
 .obtain ⟨c,r,pl,j⟩:=I.list b
  refine SeqAt.notIn_listAt (eqU x) pl.isList (fun w hw=>kL e g r fs w (by simpa using hw)) ⟨.bl _,H,I,rfl,?_⟩
  rw[show c.toArray.any (eqU x)=c.any (eqU x) by simp,oG r fs]
  exact q
 .obtain ⟨c,r,pl,j⟩:=I.tuple b
  refine SeqAt.notIn_tupleAt (eqU x) pl (fun w hw=>kL e g r fs w (by simpa using hw)) ⟨.bl _,H,I,rfl,?_⟩
  rw[show c.toArray.any (eqU x)=c.any (eqU x) by simp,oG r fs]
  exact q
def yi:fR X (.builtin "len") (fun xs H Q=>∃p ys,xs=[.ref p]/\(SqL X.K H p ys\/SqT X.K H p ys)/\Q (.int ys.length) H):=by
 intro f s l H xs us Q I r h
 obtain ⟨p,ys,rfl,b,q⟩:=h
 obtain ⟨u,rfl,g⟩:=vals1 r
 cases g
 have hn:=wZ
 rcases b with b|b
 .obtain ⟨j,c,pl,i⟩:=I.list b
  have e:=c.length
  exact Calls.call_len_list pl.isList (by simp only[Mx]<;>omega) ⟨.int ys.length,H,I.tok _,⟨s.toks+1,by rw[Mx,e]⟩,q⟩
 .obtain ⟨j,c,pl,i⟩:=I.tuple b
  have e:=c.length
  exact len_tuple pl (by simp only[Mx]<;>omega) ⟨.int ys.length,H,I.tok _,⟨s.toks+1,by rw[Mx,e]⟩,q⟩
def xf:fR X (.type "list") (fun xs H Q=>∃p ys,xs=[.ref p]/\(SqL X.K H p ys\/SqT X.K H p ys)/\∀l,H l=none->Q (.ref l) (upd H l (.lst ys))):=by
 intro i s z H xs us Q I r h
 obtain ⟨p,ys,rfl,m,q⟩:=h
 obtain ⟨u,rfl,B⟩:=vals1 r
 cases B
 have y:∀(c:List Value),Vals ys c->ys.length<=sizeLine->∀(h':Heap) (g:Nat),(∀b x,s.heap.get? b=some x->h'.get? b=some x) ->
   h'.get? s.heap.objs.size=some { cls:=.type "list",dict:=none,data:=.seq c.toArray g,slots:=#[] }->EP X i z Q (.ref s.heap.objs.size) { s with heap:=h' }:=fun c f j h' g kp e =>
  ⟨.ref s.heap.objs.size,_,I.laid (t':=s.toks) kp (Mm _) (show bX X.prog X.w _ h' _ (.lst ys) from ⟨j,c,g,f,e⟩),rfl,q _ (I.hok.fresh (Mm _))⟩
 rcases m with m|m
 .obtain ⟨c,f,pl,j⟩:=I.list m
  have C:=f.length
  obtain ⟨o,t,v,n,hd⟩:=pl.isList
  exact call_list_seq p (.inl rfl) t v hd (fun h' g kp e=>y c f j h' g kp e) (by simp only[Mx]<;>omega)
 .obtain ⟨c,f,pl,j⟩:=I.tuple m
  have C:=f.length
  obtain ⟨o,t,v,n,hd⟩:=pl
  exact call_list_seq p (.inr rfl) t v hd (fun h' g kp e=>y c f j h' g kp e) (by simp only[Mx]<;>omega)
def tyV(K:aad)(T:String)(x:V)(H:Hp):Prop:=match x with
 |.str _=>T = "str"
 |.int _=>T = "int"
 |.ref p=>(T = "list"/\∃xs,SqL K H p xs)\/(T = "tuple"/\∃o,K.lookup p=some o/\o.cls=.type "tuple"/\o.dict=none) \/
   (T = "dict"/\((∃kvs,H p=some (.dK kvs))\/∃kvs,H p=some (.dT kvs)))\/(T = "set"/\∃S n,H p=some (.set S n))
 |_=>False
theorem EK{f:List (Addr × Obj)}{g:St}{H:Hp}{s:Shared}{T:String}{x:V}{v:Value}(I:Inv X f g H s)(r:RelV x v)(ty:tyV X.K T x H) :
  s.TypeIs v T/\∀a,v=.ref a->∃ob,s.heap.get? a=some ob/\ob.dict=none:=by
 cases x with
 |str z =>
  obtain ⟨t,rfl⟩:=r
  cases (show T = "str" from ty)
  exact⟨typeIs_str s z t,fun _ e=>nomatch e⟩
 |int i =>
  obtain ⟨t,rfl⟩:=r
  cases (show T = "int" from ty)
  exact⟨typeIs_int s i t,fun _ e=>nomatch e⟩
 |ref p =>
  cases r
  rcases ty with ⟨rfl,xs,h⟩|⟨rfl,o,b,j,hd⟩|⟨rfl,b⟩|⟨rfl,S,n,b⟩
  .obtain ⟨l,_,pl,_⟩:=I.list h
   refine⟨pl.isList.typeIs,fun a e=>?_⟩
   cases e
   obtain ⟨o,n,e,c,hd,_⟩:=pl
   exact⟨o,e,hd⟩
  .refine⟨⟨o,I.kIn p o b,j⟩,fun a e=>?_⟩
   cases e
   exact⟨o,I.kIn _ o b,hd⟩
  .have z:∃o,s.heap.get? p=some o/\o.ExactDict:=by
    rcases b with ⟨kvs,b⟩|⟨kvs,b⟩
    .obtain ⟨_,_,_,_,o,_,_,e,ex,_⟩:=I.hok p _ b
     exact⟨o,e,ex⟩
    .obtain ⟨_,_,_,_,o,_,_,e,ex,_⟩:=I.hok p _ b
     exact⟨o,e,ex⟩
   obtain ⟨o,e,ex⟩:=z
   refine⟨⟨o,e,ex.1⟩,fun a e2=>?_⟩
   cases e2
   exact⟨o,e,ex.2.1⟩
  .obtain ⟨o,_,_,_,e,ex,_⟩:=I.hok p _ b
   refine⟨⟨o,e,ex.1⟩,fun a e2=>?_⟩
   cases e2
   exact⟨o,e,ex.2.1⟩
 |_=>exact False.elim ty
def Kt(K:aad)(T:String)(r:V->List V->Hp->VK->Prop)(e:TE):TE:=fun c H Q=>e c H fun x b=>tyV K T x b/\r x [] b Q
def tBM(K:aad)(T:String)(r:V->List V->Hp->VK->Prop)(e:TE)(t:TA):TE:=fun b H Q=>e b H fun x c=>tyV K T x c/\t b c fun xs f=>r x xs f Q
variable {o e:Expr}{es:List Expr}{to:TE}{t:TA}{name:Str}{Qo PU:Pos}{T id:String}{r:V->List V->Hp->VK->Prop}
def Ap(pa:PlainAttrs T)(slot:Slot T name id)(n:typeOf (.builtin id)=pure (.type "method_descriptor"))(hm:MtR X id r)(j:PE X o to)
  (q:attributeBase o name X.env (eval o X.env)=eval o X.env:=by rfl) (p:(Qo.endLine == PU.line)=true:=by rfl):PE X (.Call (.Attribute o name Qo) [] [] PU) (Kt X.K T r to):=by
 intro b s c H Q I h
 refine wpAny_Call_method0_late q p (thn (j b s c H _ I h) fun v g ⟨x,t,f,e,ty,i⟩=>?_)
 obtain ⟨m,l⟩:=EK f e ty
 exact⟨T,id,pa,slot,n,m,l,Calls.callWith_builtin rfl (PySem.evalArgs_none (hm b g c t x [] v [] Q f e .nil i))⟩
def mi(pa:PlainAttrs T)(slot:Slot T name id)(B:typeOf (.builtin id)=pure (.type "method_descriptor"))(hm:MtR X id r)(q:PE X o to)(ha:PA X (e::es) t)
  (E:attributeBase o name X.env (eval o X.env)=eval o X.env:=by rfl)
  (z:((backTo PU (starEach (e::es) X.env)).all (fun x=>!x.1) && (backToKw PU (keywordEach [] X.env)).all (fun x=>x.1.isSome)
   && decide ((e::es).length+([]:List Keyword).length+(if ([]:List Keyword).isEmpty then 0 else 1)<30))=true:=by rfl)
  (C:(Qo.endLine == PU.line)=true:=by rfl) (p:starEach (e::es) X.env=(false,eval e X.env)::starEach es X.env:=by rfl) (F:(backTo PU (starEach es X.env)).any (·.1)=false:=by rfl) :
  PE X (.Call (.Attribute o name Qo) (e::es) [] PU) (tBM X.K T r to t):=by
 intro b s c H Q I h
 refine wpAny_Call_method_late E z C rfl (thn (q b s c H _ I h) fun v l ⟨x,L,i,f,ty,n⟩=>?_)
 obtain ⟨y,u⟩:=EK i f ty
 refine⟨T,id,pa,slot,B,y,u,?_⟩
 have g:=ha PU b l c L _ i n
 rw[p] at g ⊢
 refine Calls.callWith_builtin (by show (false || (backTo PU (starEach es X.env)).any (·.1))=false;rw[F]<;>rfl) (Calls.evalArgs_plain ?_)
 exact thn g fun us j ⟨vs,J,G,m,q2⟩=>hm b j c J x vs v us Q G f m q2
end
end L2
namespace L2
open PySem PySem.Spec PyProof.Rows
def MtM(X:Cx)(id:String)(r:V->List V->Hp->VK->Prop):Prop :=
 ∀(b:List (Addr × Obj)) (s:Shared) (c:St) (H:Hp) (x:V) (xs:List V) (v:Value) (us:List Value) (Q:VK),Inv X b c H s->RelV x v->Vals xs us->r x xs H Q ->
  wpAny (model X.prog X.w) X.A (call (.builtin id) (v::us)) (EP X b c Q) X.xe s
theorem Vals.one:∀{x:V}{us:List Value},Vals [x] us->∃u,us=[u]/\RelV x u
 |_,_,.cons r .nil=>⟨_,rfl,r⟩
theorem Vals.zero:∀{us:List Value},Vals [] us->us=[]
 |_,.nil=>rfl
theorem Vals.rep{xs:List V}{us:List Value}(h:Vals xs us):∀k:Nat,Vals (List.replicate k xs).flatten (List.replicate k us).flatten
 |0=>.nil
 |k+1=>by
  rw[Nj,Nj,OM,OM]
  exact Vals.append h (Vals.rep h k)
theorem foldl_rep(b:List Value):∀(k:Nat) (acc:List Value),
  List.foldl (fun f c=>f++c) acc.toArray (List.replicate k b.toArray)=(acc++(List.replicate k b).flatten).toArray
 |0,acc=>by simp
 |k+1,acc=>by
  have e:acc.toArray++b.toArray=(acc++b).toArray:=by simp
  have e2:(acc++b)++(List.replicate k b).flatten=acc++(List.replicate (k+1) b).flatten:=by
   rw[Nj,OM,M0]
  rw[<- e2,<- foldl_rep b k (acc++b),<- e,Nj,List.foldl_cons]
section
variable {X:Cx}{pins:List (Addr × Obj)}{σ:St}{H:Hp}{s:Shared}{l b:Addr}{xs ys:List V}
def Inv.Lm{b its':List Value}{n:Nat}{f:Array Value->Array Value}{t':Nat}(I:Inv X pins σ H s)(j:H l=some (.lst xs))
  (e:s.heap.get? l=some { cls:=.type "list",data:=.seq b.toArray n }) (i:f b.toArray=its'.toArray) (g:Vals ys its') (c:ys.length<=sizeLine) :
  Inv X pins σ (upd H l (.lst ys)) { s with heap:=s.heap.update l (Obj.mapSeq f),toks:=t' }:=by
 have q:=PySem.IsL.update e f
 rw[i] at q
 refine I.write (x:=l) (e:=l) (by rw[j];exact trivial) (.inl rfl) (fun m u hb h=>(Heap.get?_update_other s.heap (Obj.mapSeq f) (MI hb)).trans h) ⟨_,q⟩ ?_
 exact⟨c,its',_,g,q⟩
def Inv.HQ{b:List Value}{t':Nat}(I:Inv X pins σ H s)(e:Vals ys b)(c:ys.length<=sizeLine) :
  Inv X pins σ (upd H s.heap.objs.size (.lst ys)) { s with heap:=s.heap.push { cls:=.type "list",data:=.seq b.toArray },toks:=t' } :=
 I.laid (fun _ _ q=>Heap.get?_push_of_some _ q) (Mm _) ⟨c,b,0,e,Heap.get?_push_size _ rfl⟩
theorem Inv.fresh(I:Inv X pins σ H s):H s.heap.objs.size=none:=I.hok.fresh (Mm _)
def Inv.D4(I:Inv X pins σ H s)(c:H l=some (.lst xs)):xs.length<=sizeLine/\∃(b:List Value) (n:Nat),Vals xs b/\xs.length=b.length/\s.heap.get? l=some { cls:=.type "list",data:=.seq b.toArray n }:=by
 obtain ⟨z,b,n,r,e⟩:=I.hok l _ c
 exact⟨z,b,n,r,r.length,e⟩
def GA{n:Nat}(h:n<=sizeLine):Builtin.List.listTooLong n=false:=by
 unfold Builtin.List.listTooLong
 exact decide_eq_false (by omega)
end
section
variable {X:Cx}
def B7:V->List V->Hp->VK->Prop:=fun x vs H Q=>∃l xs y,x=.ref l/\vs=[y]/\H l=some (.lst xs)/\xs.length<sizeLine/\Q .non (upd H l (.lst (xs++[y])))
def df:MtM X "list.append" B7:=by
 intro b s m H x vs v us Q I g i h
 obtain ⟨l,xs,y,rfl,rfl,c,o,q⟩:=h
 cases g
 obtain ⟨u,rfl,j⟩:=i.one
 obtain ⟨z,f,n,r,hl,e⟩:=I.D4 c
 refine call_meets F.slot_list_append ⟨_,e,rfl⟩ F.entry_list_append (F.args_list_append_2 _ _) (PySem.list_append l f.toArray n u (by rw[Mx];omega)) ⟨e,?_⟩
 refine⟨.non,_,I.Lm (its':=f++[u]) c e (by simp) (r.append (.cons j .nil)) ?_,rfl,q⟩
 rw[Mt,List.length_singleton]
 omega
def Bp:V->List V->Hp->VK->Prop:=fun x vs H Q=>∃l xs,x=.ref l/\vs=[]/\H l=some (.lst xs)/\Q .non (upd H l (.lst []))
def uG:MtM X "list.clear" Bp:=by
 intro c s m H x vs v us Q I g i h
 obtain ⟨l,xs,rfl,rfl,f,q⟩:=h
 cases g
 have b:=i.zero
 subst b
 obtain ⟨z,j,n,r,hl,e⟩:=I.D4 f
 refine call_meets F.slot_list_clear ⟨_,e,rfl⟩ F.entry_list_clear (F.args_list_clear_1 _) (AutoSeq1.list_clear_list_0 l j.toArray n (by rw[Mx];omega)) ⟨e,?_⟩
 exact⟨.non,_,I.Lm (its':=[]) (ys:=[]) f e rfl .nil (NL _),rfl,q⟩
def Ll:R2:=fun x y H Q=>∃l b xs c,x=.ref l/\y=.ref b/\H l=some (.lst xs)/\H b=some (.lst c)/\xs.length+c.length<=sizeLine/\∀p,H p=none->Q (.ref p) (upd H p (.lst (xs++c)))
def GL:OpR X (binaryOp .Add) Ll:=by
 intro c s B H x y v u Q I j i h
 obtain ⟨l,b,xs,C,rfl,rfl,o,p,F,q⟩:=h
 cases j
 cases i
 obtain ⟨z,g,n,r,hl,e⟩:=I.D4 o
 obtain ⟨E,f,n2,m,G,e2⟩:=I.D4 p
 refine PySem.P.add_list e e2 ?_ (by rw[Mx,Mx];omega)
 have t:g.toArray++f.toArray=(g++f).toArray:=by simp
 rw[t]
 exact⟨.ref _,_,I.HQ (t':=s.toks) (r.append m) (by rw[Mt];omega),rfl,q _ I.fresh⟩
def LH:R2:=fun x y H Q=>∃l k xs,x=.ref l/\y=.int k/\H l=some (.lst xs)/\-(2 ^ 63)<=k/\k<2 ^ 63/\xs.length*k.toNat<=sizeLine /\
 ∀p,H p=none->Q (.ref p) (upd H p (.lst (List.replicate k.toNat xs).flatten))
theorem len_rep{b:Type}(xs:List b)(k:Nat):(List.replicate k xs).flatten.length=k*xs.length:=by
 induction k with
 |zero=>simp
 |succ k ih=>rw[Nj,OM,Mt,ih,Nat.succ_mul,Nat.add_comm]
def Gp:OpR X (binaryOp .Mult) LH:=by
 intro g s P H x y v u Q I o j h
 obtain ⟨l,k,xs,rfl,rfl,p,C,B,i,q⟩:=h
 cases o
 obtain ⟨t,rfl⟩:=j
 obtain ⟨z,b,n,r,hl,e⟩:=I.D4 p
 have O:b.toArray.size*k.toNat<=sizeLine:=by rw[Mx,<- hl];exact i
 have G:¬ b.toArray.size*k.toNat>(2 ^ 63 - 1) / 8:=by
  have:(sizeLine:Nat)<=(2 ^ 63 - 1) / 8:=by decide
  omega
 have J:¬ (!Builtin.List.listFitsIndex k)=true:=by
  rw[fitsIndex_both C B]
  exact Mz
 have M:¬ Builtin.List.listTooLong (b.toArray.size*k.toNat)=true:=by
  rw[GA O]
  exact Mz
 have L:List.foldl (fun f c=>f++c) #[] (List.replicate (if b.toArray.isEmpty=true then 0 else k.toNat) b.toArray)=(List.replicate k.toNat b).flatten.toArray:=by
  have E:∀m:Nat,List.foldl (fun f c=>f++c) #[] (List.replicate m b.toArray)=(List.replicate m b).flatten.toArray:=fun m=>by
   have:=foldl_rep b m []
   rw[List.nil_append] at this
   exact this
  rw[E]
  cases b with
  |nil=>simp
  |cons a R=>rw[if_neg (by simp)]
 refine wpAny_binaryOp_repeat_ref (T:="list") (U:="int") (by decide) ⟨_,e,rfl⟩ (fun s'=>typeIs_int s' k t) noFill_list_mul F.fills_int_mul F.slot_int_rmul repeat_list F.slot_int_index.lookup
  (call_meets F.slot_int_rmul (typeIs_int s k t) F.entry_int_rmul (F.args_int_rmul_2 _ _) (int___rmul___int_list k t l b.toArray n)
   ⟨e,rfl,⟨_,e,rfl⟩,call_meets F.slot_list_mul ⟨_,e,rfl⟩ F.entry_list_mul (F.args_list_mul_2 _ _) (AutoListH.list___mul___list_int_3 l b.toArray n k t J G M) ⟨e,?_⟩⟩)
 rw[L]
 exact⟨.ref _,_,I.HQ (t':=s.toks) (r.rep k.toNat) (by rw[len_rep,Nat.mul_comm];exact i),rfl,q _ I.fresh⟩
end
section
end
section
end
end L2
namespace Att
open PySem PySem.W PySem.Calls PyProof.Rows
theorem rK{P:Params}{h:Heap}:∀(ns:aab) (vs:List Value),WellAll P h vs (ns.map WData.int)->IntsAre vs ns:=by
 intro ns
 induction ns with
 |nil =>
  intro vs w
  rw[NP] at w
  cases w
  exact .nil
 |cons n ns ih =>
  intro vs w
  rw[Ml] at w
  cases w with
  |cons a b =>
   cases a
   exact .cons _ _ (ih _ b)
theorem DB{l:OpenLaw}{n:Nat}(hn:l.most=some n){P:Params}{h:Heap}{args:List WData}{g:List Value}
  (i:l.row.toRowW.claim.pre args=true) (v:WellAll P h g args) :
  ∃a vs ns,g=[Value.ref a]/\args=[WData.list (ns.map WData.int)]/\h.get? a=some { cls:=.type "list",data:=.seq vs.toArray }/\IntsAre vs ns/\ns.length<=n:=by
 have e:WShape.hasAll [] args [.list .int]=true:=(pre_splitW i).1
 have f:l.pre.holds [] { args:=args }=true:=(pre_splitW i).2
 obtain ⟨d,r,rfl,u,t⟩:=hasAllW_cons e
 obtain rfl:=hasAllW_nil t
 obtain ⟨xs,rfl,s⟩:=hasW_list u
 obtain ⟨ns,rfl⟩:=items_int s
 have y:ns.length<=n:=by
  unfold OpenLaw.pre at f
  have c:(WTm.not (.lt (.lit (.int (n:Int))) (.len (.arg 0)))).holds [] { args:=[.list (ns.map .int)] }=true:=by
   have c:=(holds_andW f).1
   rw[hn] at c
   exact c
  have b:=condW_of c (w_not (w_lt w_lit (w_len_list (w_arg rfl))))
  rw[mo] at b
  refine Nat.le_of_not_lt fun q=>?_
  have o:(n:Int)<((ns.length:Nat):Int):=by omega
  first
   |(rw[decide_eq_true o] at b;exact absurd b (by decide))
   |(simp at b;omega)
 cases v with
 |cons m j =>
  cases j
  cases m with
  |list p x=>exact⟨_,_,ns,rfl,rfl,p,rK ns _ x,y⟩
def DN(l:OpenLaw)(args:List WData):l.row.toRowW.claim.post args (.bool true) args=true :=
 postW_of (r:=l.row.toRowW) (X:=(true == true))
  (show WShape.has [] (.bool true) .bool=true by first|rfl|decide|simp [WShape.has,WShape.arms,WShape.armsAll])
  (show (WTm.eq .res (.lit (.bool true))).value [] { args:=args,res:=some (.bool true),after:=args }=some (.bool (true == true)) from w_eq_bool (w_res rfl) w_lit) rfl
def yU{l:OpenLaw}{n:Nat}{q:Program}{p:List Str}{m:(Str->Option Value)->Heap->Prop}{j:World->Heap->Prop}{d:DefRec}
  (hn:l.most=some n) (F:d.params.defaults=[])
  (call:∀(w:World) (s₀ b:Shared) (mg h:Str->Option Value) (e:Addr) (o:Obj) (g cd c:Value) (a:Addr) (vs:List Value) (ns:aab),
   Ground q p [] m w s₀ mg h b.heap->j w b.heap ->
   b.heap.get? e=some o->o.data=.func (docDef d.name d.params d.body d.scope g cd c)->b.heap.CodeRec cd d.name->mg d.name=some (.ref e) ->
   b.heap.get? a=some { cls:=.type "list",data:=.seq vs.toArray }->IntsAre vs ns->ns.length<=n->b.gens=#[] ->
   codeAny (model l.prog w) callerA (.call (.ref e) ⟨[.ref a],[]⟩) (fun r s'=>r=.ok (.ret (.bool true))/\OldK b.heap s'.heap/\s'.os=b.os/\AllBare s'.gens) b) :
  WalkO q p m j l.row.toRowW d [] (fun f vs=>PySem.call f vs):=by
 intro w s₀ b mg h G Y e o g cd c B kV u hd M i J v args P as L C s E Q
 obtain rfl:B=.none:=Dflts.none i F
 obtain rfl:kV=.none:=Dflts.noKw i
 obtain ⟨a,vs,ns,rfl,rfl,H,I,O⟩:=DB hn L E
 refine enter_call (codeAny_mono (call w s₀ b mg h e o g cd c a vs ns G Y u (fd_plain hd) M J H I O v) fun r s' t=>?_)
 obtain ⟨rfl,z,y,x⟩:=t
 exact⟨.inl ⟨.bool true,.bool true,[],rfl,fun _=>rfl,.bool true,DN l _,fun _=>⟨List.Pairwise.nil,fun _ hm=>(nomatch hm)⟩⟩,z,y,x⟩
section
end
end Att
namespace L2
open PySem PySem.Spec PyProof.Rows
theorem vo:∀{vs:List Value}{ns:aab},IntsAre vs ns->Vals (ns.map V.int) vs
 |_,_,.nil=>.nil
 |_,_,.cons n t h=>.cons ⟨t,rfl⟩ (vo h)
end L2
namespace L2
open PySem PySem.Spec PyProof.Rows
end L2
namespace L2
open PySem PySem.Spec PyProof.Rows
def gh(s:Stmt):Arguments:=match s with
 |.FunctionDef _ a _ _ _ _ _ _ _ _=>a
 |_=>{ posonlyargs:=[],args:=[],vararg:=none,kwonlyargs:=[],kw_defaults:=[],kwarg:=none,defaults:=[] }
def c0(s:Stmt):List Stmt:=match s with
 |.FunctionDef _ _ b _ _ _ _ _ _ _=>b
 |_=>[]
def aw(s:Stmt):Scope:=match s with
 |.FunctionDef _ _ _ _ _ _ b _ _ _=>b
 |_=>{ kind:=.function,names:=[],isGenerator:=false,isCoroutine:=false }
abbrev CX0:CXT:=fun _ _ _ _ _ _=>False
abbrev E0:XK:=fun _ _ _=>False
def tZ{X:Cx}:Passes CX0 X E0:=fun _ _ _ _ _ _ _ h=>h.elim
structure Fun(K:aad)(x qual:Str)(st:Stmt)(f:Addr)(fd:FuncData):Prop where
 ex:∃(oc:Value) (od:Option Addr) (kV doc pm:Value) (an:Option Addr) (cdv ct:Value) (osl:Array (Option Value)),
  fd=PySem.W.fnOf x qual (gh st) (c0 st) (aw st) .none kV doc pm an cdv ct/\K.lookup f=some ⟨oc,od,.func fd,osl⟩/\PySem.W.codeIn K cdv qual=true
 kp:PySem.W.keepIn K (.ref f)=true
section
variable {P:Program}{w:World}{K:aad}{mg:Str->Option Value}{base:Heap}
def Fun.ok{x qual:Str}{st:Stmt}{f:Addr}{c:FuncData}{N ps:List Str}{k:Nat}{sp:Sp}(F:Fun K x qual st f c)(S:aF N ps (aw st))(len:∀vs H Q E,sp vs H Q E->vs.length=ps.length)
  (l:∀(b:Value) (A:Around) (outer:List Env) (s:Shared) (H:Hp) (vs:List V) (Q:VK) (E:XK),eP k (A.deeper (envOfC qual (aw st) s.heap.objs.size f b))->sp vs H Q E ->
   ∃t,PSs (nj CX0 P w K mg base N qual (aw st) f b A outer s H E).nox (c0 st) t/\t { nx:=fun _ H'=>Q .non H',rt:=Q } (start N vs) H):br P w K mg base CX0 (k+1) f c ps sp:=by
 obtain ⟨p,o,kV,i,n,r,b,ct,e,rfl,lk,m⟩:=F.ex
 refine GJ lk m S len fun A outer s H vs Q E g j=>?_
 obtain ⟨t,h,q⟩:=l b A outer s H vs Q E g j
 exact⟨t,h.nox,q⟩
def Fun.binds{x qual:Str}{st:Stmt}{f:Addr}{i:FuncData}{ps:List Str}(F:Fun K x qual st f i)
  (h:∀(kV b e:Value) (g:Option Addr) (c ct:Value) (us:List Value),us.length=ps.length->bindArgs (PySem.W.fnOf x qual (gh st) (c0 st) (aw st) .none kV b e g c ct) ⟨us,[]⟩=pure (ps.zip us)):Binds K i ps []:=by
 obtain ⟨m,l,kV,b,e,g,c,ct,j,rfl,lk,n⟩:=F.ex
 exact .all (h kV b e g c ct)
def mF{x qual:Str}{st:Stmt}{f:Addr}{m:Value}{j i:Option Addr}{g:Array (Option Value)}{kV e h b ct:Value}(l:K.lookup f=some ⟨m,j,.func (PySem.W.fnOf x qual (gh st) (c0 st) (aw st) .none kV e h i b ct),g⟩)
  (c:PySem.W.codeIn K b qual=true) (k:PySem.W.keepIn K (.ref f)=true):Fun K x qual st f (PySem.W.fnOf x qual (gh st) (c0 st) (aw st) .none kV e h i b ct):=⟨⟨m,j,kV,e,h,i,b,ct,g,rfl,l,c⟩,k⟩
end
def zY{A:Around}{k:Nat}(b:eP k A):A.units+1<cLine:=Nat.lt_of_le_of_lt (Nat.add_le_add_left (by decide:1<=64) _) b.units
def m3{n:Nat}(h:n<=1000):n<sizeLine:=Nat.lt_of_le_of_lt h (by decide)
section
variable {X:Cx}
def pv(i:Nat){x:Str}{f:Pos}(c:X.N[i]?=some x:=by rfl)(b:Vis X.env.scope x:=by first|exact Or.inl rfl|exact Or.inr (Or.inl rfl)|exact Or.inr (Or.inr rfl))(hd:(x == ("__debug__" : Str))=false:=by decide)
  (e:(x == ("__classdict__" : Str))=false:=by decide):PE X (.Name x f) (b7 i):=KC c b hd e
end
def Same(H H':Hp):Prop:=∀b o,H b=some o->H' b=some o
def Same.refl(H:Hp):Same H H:=fun _ _ h=>h
end L2
set_option maxHeartbeats 4000000
namespace L2
open PySem PySem.Spec PyProof.Rows
def dw(env:Env):List (Str × NameKind)->List (Str × Addr)->List (Str × Addr)
 |[],acc=>acc
 |(n,k)::r,acc=>dw env r (if k == .free then (n,(env.cells.lookup n).getD 0)::acc else acc)
def uS{scope:Scope}{env:Env}(h:∀n,(n,NameKind.free)∈scope.names->∃c,env.cells.lookup n=some c):closureFor scope env=pure (dw env scope.names []):=by
 have go:∀(names:List (Str × NameKind)) (acc:List (Str × Addr)),(∀n,(n,NameKind.free)∈names->∃c,env.cells.lookup n=some c) ->
   (forIn names acc (fun (x:Str × NameKind) (cs:List (Str × Addr))=>match x with
    |(name,kind)=>if (kind == .free)=true then (do let c <- cellOf env name;pure (ForInStep.yield ((name,c)::cs))) else pure (ForInStep.yield cs)):Sem (List (Str × Addr)))=pure (dw env names acc):=by
  intro names
  induction names with
  |nil=>intro acc _;rfl
  |cons x r ih =>
   intro acc hn
   obtain ⟨n,k⟩:=x
   rw[List.forIn_cons]
   have b:∀m,(m,NameKind.free)∈r->∃c,env.cells.lookup m=some c:=fun m hm=>hn m (ox _ hm)
   by_cases f:k=.free
   .subst f
    obtain ⟨c,g⟩:=hn n Fk
    have e:cellOf env n=pure c:=by unfold cellOf;rw[g]
    have e2:dw env ((n,NameKind.free)::r) acc=dw env r ((n,c)::acc):=by
     show dw env r (if (NameKind.free == NameKind.free)=true then (n,(env.cells.lookup n).getD 0)::acc else acc)=_
     rw[if_pos (by decide),g];rfl
    rw[e2,<- ih _ b]
    show (do let __do_lift <- (if (NameKind.free == NameKind.free)=true then (do let c <- cellOf env n;pure (ForInStep.yield ((n,c)::acc))) else pure (ForInStep.yield acc):Sem (ForInStep (List (Str × Addr))));_)=_
    rw[if_pos (by decide),e]
    rfl
   .have hb:(k == NameKind.free)=false:=by simpa using f
    have e2:dw env ((n,k)::r) acc=dw env r acc:=by
     show dw env r (if (k == NameKind.free)=true then (n,(env.cells.lookup n).getD 0)::acc else acc)=_
     rw[hb];rfl
    rw[e2,<- ih _ b]
    show (do let __do_lift <- (if (k == NameKind.free)=true then (do let c <- cellOf env n;pure (ForInStep.yield ((n,c)::acc))) else pure (ForInStep.yield acc):Sem (ForInStep (List (Str × Addr))));_)=_
    rw[hb]
    rfl
 have e:=go scope.names [] h
 unfold closureFor
 exact congrArg (fun (m:Sem (List (Str × Addr)))=>m >>= fun r=>pure r) e
theorem sY{env:Env}:∀{names:List (Str × NameKind)}{acc:List (Str × Addr)}{n:Str}{c:Addr},(n,c)∈dw env names acc->(n,c)∈acc\/((n,NameKind.free)∈names/\c=(env.cells.lookup n).getD 0)
 |[],acc,n,c,h=>.inl h
 |(m,k)::r,acc,n,c,h=>by
  rcases sY (names:=r) h with h|⟨h,e⟩
  .by_cases b:k=.free
   .subst b
    rw[if_pos (by decide)] at h
    rcases Mb.mp h with e|h
    .cases e;exact .inr ⟨Fk,rfl⟩
    .exact .inl h
   .have hb:(k == NameKind.free)=false:=by simpa using b
    rw[hb] at h
    exact .inl h
  .exact .inr ⟨ox _ h,e⟩
theorem gP{b:Type}:∀{l:List (Str × b)}{n:Str}{c:b},(n,c)∈l->∃d,l.lookup n=some d
 |[],_,_,h=>nomatch h
 |(k,v)::r,n,c,h=>by
  rw[N8]
  cases hb:n == k with
  |true=>exact⟨v,rfl⟩
  |false =>
   rcases Mb.mp h with e|h
   .cases e;simp at hb
   .exact gP h
theorem tI{env:Env}:∀{names:List (Str × NameKind)}{acc:List (Str × Addr)}{n:Str}{c:Addr},(n,c)∈acc->(n,c)∈dw env names acc
 |[],acc,n,c,h=>h
 |(m,k)::r,acc,n,c,h=>by
  refine tI (names:=r) ?_
  split
  .exact ox _ h
  .exact h
theorem nO{env:Env}:∀{names:List (Str × NameKind)}{acc:List (Str × Addr)}{n:Str},(n,NameKind.free)∈names->(n,(env.cells.lookup n).getD 0)∈dw env names acc
 |[],acc,n,h=>nomatch h
 |(m,k)::r,acc,n,h=>by
  rcases Mb.mp h with e|h
  .cases e
   refine tI (names:=r) ?_
   rw[if_pos (by decide)]
   exact Fk
  .exact nO (names:=r) h
theorem ka:∀{names:List (Str × NameKind)}{n:Nat}{acc:List (Str × Addr)}{x:Str}{c:Addr},(x,c)∈cellsFrom n names acc->(x,c)∈acc\/((x,NameKind.cell)∈names/\n<=c)
 |[],n,acc,x,c,h=>.inl h
 |(m,k)::r,n,acc,x,c,h=>by
  unfold cellsFrom at h
  by_cases b:k=.cell
  .subst b
   rw[if_pos (by decide)] at h
   rcases ka (names:=r) h with h|⟨h,e⟩
   .rcases Mb.mp h with e|h
    .cases e;exact .inr ⟨Fk,Mm _⟩
    .exact .inl h
   .exact .inr ⟨ox _ h,by omega⟩
  .have hb:(k == NameKind.cell)=false:=by simpa using b
   rw[hb] at h
   rcases ka (names:=r) h with h|⟨h,e⟩
   .exact .inl h
   .exact .inr ⟨ox _ h,e⟩
theorem eT:∀{names:List (Str × NameKind)}{n:Nat}{acc:List (Str × Addr)}{x:Str}{c:Addr},(x,c)∈acc->(x,c)∈cellsFrom n names acc
 |[],n,acc,x,c,h=>h
 |(m,k)::r,n,acc,x,c,h=>by
  unfold cellsFrom
  split
  .exact eT (names:=r) (ox _ h)
  .exact eT (names:=r) h
theorem j9:∀{names:List (Str × NameKind)}{n:Nat}{acc:List (Str × Addr)}{x:Str},(x,NameKind.cell)∈names->∃c,(x,c)∈cellsFrom n names acc
 |[],n,acc,x,h=>nomatch h
 |(m,k)::r,n,acc,x,h=>by
  unfold cellsFrom
  rcases Mb.mp h with e|h
  .cases e
   rw[if_pos (by decide)]
   exact⟨n,eT (names:=r) Fk⟩
  .split
   .exact j9 (names:=r) h
   .exact j9 (names:=r) h
theorem jj:∀{names:List (Str × NameKind)}{h:Heap}{acc:List (Str × Addr)}{x:Str}{c:Addr},(x,c)∈cellsFrom h.objs.size names acc->(x,c)∈acc\/(pushCells h names).IsCell c none
 |[],h,acc,x,c,m=>.inl m
 |(n,k)::r,h,acc,x,c,m=>by
  unfold cellsFrom at m
  unfold pushCells
  split at m
  .rename_i b
   rw[if_pos b]
   have f:(x,c)∈cellsFrom (h.push { cls:=.type "cell",data:=.cell none }).objs.size r ((n,h.objs.size)::acc):=by rw[Heap.size_push];exact m
   rcases jj (names:=r) f with z|z
   .rcases Mb.mp z with e|z
    .cases e
     exact .inr ⟨_,pushCells_keeps _ _ _ _ (Heap.get?_push_size _ rfl),rfl⟩
    .exact .inl z
   .exact .inr z
  .rename_i b
   rw[if_neg b]
   exact jj (names:=r) m
theorem jX:∀{names:List (Str × NameKind)}{n:Nat}{acc:List (Str × Addr)},(∀x c,(x,c)∈acc->c<n)->(∀x y c,(x,c)∈acc->(y,c)∈acc->x=y) ->
  ∀x y c,(x,c)∈cellsFrom n names acc->(y,c)∈cellsFrom n names acc->x=y
 |[],n,acc,lt,inj,x,y,c,h,h'=>inj x y c h h'
 |(m,k)::r,n,acc,lt,inj,x,y,c,h,h'=>by
  unfold cellsFrom at h h'
  split at h
  .rename_i f
   rw[if_pos f] at h'
   refine jX (names:=r) (n:=n+1) (acc:=(m,n)::acc) (fun x c hm=>?_) (fun x y c hm b=>?_) x y c h h'
   .rcases Mb.mp hm with e|hm
    .cases e;exact OZ _
    .exact Nat.lt_succ_of_lt (lt _ _ hm)
   .rcases Mb.mp hm with e|hm<;>rcases Mb.mp b with g|b
    .cases e;cases g;rfl
    .cases e;exact absurd (lt _ _ b) (Nd _)
    .cases g;exact absurd (lt _ _ hm) (Nd _)
    .exact inj _ _ _ hm b
  .rename_i f
   rw[if_neg f] at h'
   exact jX (names:=r) lt inj x y c h h'
theorem jr{env:Env}:∀{names:List (Str × NameKind)}{x:Str},
  (names.map fun (n,k)=>if (k == NameKind.free && env.scope.kind == .function && env.kindOf n == some .cell) then (n,NameKind.cell) else (n,k)).lookup x =
   (names.lookup x).map fun k=>if (k == NameKind.free && env.scope.kind == .function && env.kindOf x == some .cell)=true then NameKind.cell else k
 |[],x=>rfl
 |(n,k)::r,x=>by
  have ih:=@jr env r x
  show List.lookup x ((if (k == NameKind.free && env.scope.kind == .function && env.kindOf n == some .cell)=true then (n,NameKind.cell) else (n,k))::_)=_
  have e:(if (k == NameKind.free && env.scope.kind == .function && env.kindOf n == some .cell)=true then (n,NameKind.cell) else (n,k))=(n,if (k == NameKind.free && env.scope.kind == .function && env.kindOf n == some .cell)=true then NameKind.cell else k):=by split<;>rfl
  rw[e,N8,N8]
  cases hx:x == n with
  |true =>
   have b:=beq_iff_eq.mp hx
   subst b
   rfl
  |false=>exact ih
structure bt(X:Cx)(scope:Scope)(tn cap:List Str)(idx:aac):Prop where
 kind:scope.kind=.function
 nd:(scope.names.map (·.1)).Nodup
 tnd:(tn++cap).Nodup
 ct:∀y∈cap,scope.names.lookup y=some .free
 ci:idx.map (fun i=>X.N[i]?)=cap.map some
 fr:∀y∈scope.names,y.2=.free->X.env.scope.names.lookup y.1=some .cell\/X.env.scope.names.lookup y.1=some .free
theorem mR{b:Type}:∀{l:List (Str × b)}{n:Str}{c:b},(l.map (·.1)).Nodup->(n,c)∈l->l.lookup n=some c
 |[],_,_,_,h=>nomatch h
 |(k,v)::r,n,c,nd,h=>by
  obtain ⟨g,f⟩:=Mn.mp nd
  rw[N8]
  rcases Mb.mp h with e|hm
  .cases e;simp
  .have i:n≠k:=fun e=>g (Mh.mpr ⟨_,hm,e⟩)
   have hb:(n == k)=false:=beq_eq_false_iff_ne.mpr i
   rw[hb]
   exact mR f hm
def DY(b:St)(idx:aac):St:=idx.map fun i=>(b[i]?).getD none
def gr(k:Nat)(idx:aac)(b:St):St:=List.replicate k none++DY b idx
def cxC(X:Cx)(b:List Str)(scope:Scope)(cs:List (Str × Addr))(C:Addr)(fp:List Addr)(s₀:Shared)(H₀:Hp):Cx where
 prog:=X.prog
 w:=X.w
 K:=X.K
 mg:=X.mg
 base:=X.base
 A:=X.A
 N:=b
 s₀:=s₀
 H₀:=H₀
 env:=compEnvC scope cs C X.env
 outer:=X.stack
 stack:=X.stack
 ex:=fp
 fn:=fun x=>scope.names.lookup x == some .local || scope.names.lookup x == some .cell
 calm:=X.calm
 pn:=[]
 xe:=fun _ _=>False
def pQ{M:Model}{A:Around}{E:Value->Shared->Prop}{s:Shared}{scope:Scope}{globals:Addr}{cl:List (Str × Addr)}{qual:Str}{xF:Env}{Q:Env->Shared->Prop}
  (b:Q { scope:=scope,locals:=s.heap.objs.size,globals:=globals,cells:=cellsFrom (s.heap.objs.size+1) scope.names cl,qual:=qual,func:=none,code:=xF.code,frame:=xF.frame,builtins:=xF.builtins }
   { s with heap:=pushCells (s.heap.push { cls:=.type "dict",data:=.dict #[] }) scope.names }) :
  wpAny M A (newFunctionEnv scope globals cl [] qual none .none (some xF)) Q E s:=by
 simp only[newFunctionEnv,Option.isSome_some,if_true]
 refine wpAny_bind (wpAny_alloc ?_)
 refine wpAny_bind (wpAny_layCells _ (fun name kind cells=>by cases hkc:kind == NameKind.cell<;>simp [hkc]) _ _ _ _ ?_)
 rw[show ({ s with heap:=s.heap.push { cls:=.type "dict",data:=.dict #[] } }:Shared).heap.objs.size=s.heap.objs.size+1 from Heap.size_push ..]
 exact wpAny_bind (wpAny_pure (wpAny_pure b))
section
variable {prog:Program}{w:World}{A:Around}{R:Result->Shared->Prop}{s:Shared}
theorem xR{i e iter:Expr}{g:List Expr}{scope:Scope}{u:Pos}{it acc:Value}{env:Env}(I:Nat->Shared->Prop)
  (turn:∀n s,I n s->wpAny (model prog w) A (pyNext it) (fun r b=>match r with
   |none=>R (.ok .next) b
   |some v=>wpAny (model prog w) A (letOwnedTupleGo e it v) (fun _ l=>wpAny (model prog w) A (assign e env v) (fun _ q =>
     wpAny (model prog w) A (forIn g true fun c r=>if r=true then do let ok <- isTrue c env (eval c env);pure (ForInStep.yield ok) else pure (ForInStep.yield r)) (fun ok f =>
      if ok=true then wpAny (model prog w) A (eval i env) (fun x p =>
       wpAny (model prog w) A (call (.builtin "list.append") [acc,x]) (fun _ j=>∃m,m<n/\I m j) (fun _ _=>False) p) (fun _ _=>False) f
      else ∃m,m<n/\I m f) (fun _ _=>False) q) (fun _ _=>False) l) (fun _ _=>False) b) (fun _ _=>False) s)
  (n:Nat) (h:I n s) :
  codeAny (model prog w) A (.compLoop (.ListComp i [⟨e,iter,g,0⟩] scope u) 0 it acc env) R s:=by
 refine codeAny_loop rfl I (fun n s y=>?_) n h
 show wpAny _ A ((compTurn (.ListComp i [⟨e,iter,g,0⟩] scope u) 0 it acc env).onRaise (fun x=>do noteFrame x env;theTreesLotGoes x)) _ _ s
 refine wpAny_noted ?_
 rw[compTurn_list]
 refine wpAny_bind (wpAny_standAt (wpAny_bind (wpAny_mono (turn n s y) (fun r b t=>?_) fun _ _ h'=>h'.elim)))
 cases r with
 |none=>exact wpAny_pure t
 |some v =>
  refine wpAny_bind (wpAny_mono t (fun _ l z=>?_) fun _ _ h'=>h'.elim)
  refine wpAny_bind (wpAny_mono z (fun _ q C=>wpAny_bind (wpAny_mono C (fun ok f o=>?_) fun _ _ h'=>h'.elim)) fun _ _ h'=>h'.elim)
  cases ok with
  |false=>exact wpAny_pure ⟨rfl,o⟩
  |true =>
   exact wpAny_bind (wpAny_bind (wpAny_mono o (fun x p B=>wpAny_bind (wpAny_mono B (fun _ j E=>wpAny_pure (wpAny_pure ⟨rfl,E⟩)) fun _ _ h'=>h'.elim)) fun _ _ h'=>h'.elim))
end
section
variable {X:Cx}{pins:List (Addr × Obj)}{σ:St}{H:Hp}{s2:Shared}{scope:Scope}{tn cap:List Str}{idx:aac}{fp:List Addr}
abbrev rE:Obj:={ cls:=.type "list",data:=.seq ([]:List Value).toArray }
abbrev Gg:Obj:={ cls:=.type "dict",data:=.dict #[] }
abbrev zG(h:Heap)(scope:Scope):Heap:=pushCells ((h.push rE).push Gg) scope.names
abbrev ym(X:Cx)(h:Heap)(scope:Scope):List (Str × Addr):=cellsFrom (h.objs.size+1+1) scope.names (dw X.env scope.names [])
theorem GB{b:St}{idx:aac}{j:Nat}{v:V}(h:(DY b idx)[j]?=some (some v)):∃i,idx[j]?=some i/\b[i]?=some (some v):=by
 unfold DY at h
 rw[Mc] at h
 cases e:idx[j]? with
 |none=>rw[e] at h;cases h
 |some i =>
  rw[e] at h
  have h':(b[i]?).getD none=some v:=MH h
  refine⟨i,rfl,?_⟩
  cases q:b[i]? with
  |none=>rw[q] at h';cases h'
  |some o=>rw[q] at h';have c:o=some v:=h';rw[c]
def AX(I:Inv X pins σ H s2)(S:bt X scope tn cap idx)(E:∀b∈fp,sZ X pins H b)(R:∀b∈fp,b<s2.heap.objs.size) :
  Inv (cxC X (tn++cap) scope (ym X s2.heap scope) (s2.heap.objs.size+1) fp s2 H) [(s2.heap.objs.size,rE)] (gr tn.length idx σ) H { s2 with heap:=zG s2.heap scope }:=by
 have old:∀b o,s2.heap.get? b=some o->(zG s2.heap scope).get? b=some o:=fun b o e=>pushCells_keeps _ _ _ _ (Heap.get?_push_of_some _ (Heap.get?_push_of_some _ e))
 have hsz:((s2.heap.push rE).push Gg).objs.size=s2.heap.objs.size+1+1:=by rw[Heap.size_push,Heap.size_push]
 have Sa:(zG s2.heap scope).get? s2.heap.objs.size=some rE:=pushCells_keeps _ _ _ _ (Heap.get?_push_of_some _ (Heap.get?_push_size _ rfl))
 have QH:(zG s2.heap scope).Ns (s2.heap.objs.size+1) (fun _=>none):=by
  have e:=(Heap.Ns.new (s2.heap.push rE) (.type "dict")).keeps (pushCells_keeps scope.names _)
  rw[Heap.size_push] at e
  exact e
 have s:∀x c,(x,c)∈dw X.env scope.names []->X.env.cells.lookup x=some c/\(x,NameKind.free)∈scope.names:=fun x c h=>by
  rcases sY h with z|⟨z,e⟩
  .nomatch z
  .obtain ⟨d,hd⟩:=I.ok.has x (S.fr _ z rfl)
   rw[hd] at e
   have L:c=d:=e
   subst L
   exact⟨hd,z⟩
 have B:∀x c,(x,c)∈ym X s2.heap scope->(X.env.cells.lookup x=some c/\(x,NameKind.free)∈scope.names)\/((x,NameKind.cell)∈scope.names/\s2.heap.objs.size+1+1<=c):=fun x c h=>by
  rcases ka h with z|z
  .exact .inl (s x c z)
  .exact .inr z
 have M:∀x c,X.env.cells.lookup x=some c->c<s2.heap.objs.size:=fun x c h=>by
  obtain ⟨v,q⟩:=I.cell x c h
  exact q.lt
 have Vt:∀x,(x,NameKind.free)∈scope.names->scope.names.lookup x=some .free:=fun x h=>mR S.nd h
 have RZ:∀x,(x,NameKind.cell)∈scope.names->scope.names.lookup x=some .cell:=fun x h=>mR S.nd h
 refine⟨⟨I.ok.mod,S.kind,I.ok.glob,I.ok.blt,Nu _,fun x y c J G=>?_,fun x t=>?_,fun x c C h=>?_,I.ok.hd,I.ok.frames,.inl rfl,fun b hb=>⟨?_,fun x c h=>?_⟩,I.bs,ME I.ok.bsz I.sz,fun b o e hb=>?_,fun b hb z=>?_,I.stack,I.sA⟩,
  rfl,I.bare,Un.kept old,⟨_,QH,fun i x v e1 e2 e3=>?_⟩,fun x c h=>?_,I.hok.fresh (Nu _),fun x c h=>?_,fun p T=>?_,I.hok.kept old,?_⟩
 .exact jX (fun x c h=>Nat.lt_succ_of_lt (Nat.lt_succ_of_lt (M x c (s x c h).1))) (fun x y c h h'=>I.ok.inj x y c (s x c h).1 (s y c h').1) x y c (MR J) (MR G)
 .have t:(relabel scope X.env).names.lookup x=some .cell\/(relabel scope X.env).names.lookup x=some .free:=t
  have e:=@jr X.env scope.names x
  have g:∃k,scope.names.lookup x=some k/\(k=.cell\/k=.free):=by
   cases q:scope.names.lookup x with
   |none =>
    rw[q] at e
    rcases t with z|z
    .have f:=e.symm.trans z;cases f
    .have f:=e.symm.trans z;cases f
   |some k =>
    rw[q] at e
    refine⟨k,rfl,?_⟩
    cases k with
    |cell=>exact .inl rfl
    |free=>exact .inr rfl
    |_ =>
     exfalso
     rcases t with z|z
     .have f:=e.symm.trans z;cases f
     .have f:=e.symm.trans z;cases f
  obtain ⟨k,g,Va⟩:=g
  have hm:=MR g
  rcases Va with rfl|rfl
  .obtain ⟨c,F⟩:=j9 (n:=s2.heap.objs.size+1+1) (acc:=dw X.env scope.names []) hm
   exact gP F
  .exact gP (eT (nO (env:=X.env) (acc:=[]) hm))
 .rcases B x c (MR h) with ⟨_,z⟩|⟨_,z⟩
  .have C:(scope.names.lookup x == some .local || scope.names.lookup x == some .cell)=true:=C
   rw[Vt x z] at C
   exact absurd C (by decide)
  .show s2.heap.objs.size<=c
   omega
 .-- b is not Tu block's frame
  intro z
  have f:b=s2.heap.objs.size+1:=z
  exact absurd (R b hb) (by rw[f];exact OY.mpr (Nu _))
 .rcases B x c (MR h) with ⟨z,_⟩|⟨_,z⟩
  .exact (E b hb).2.2.2.2.1 x c z
  .intro e
   exact absurd (R b hb) (by rw[<- e];exact OY.mpr (ME (ME (Nu _) (Nu _)) z))
 .rcases (E b hb).2.2.2.1 with z|z
  .exact I.ok.noex b o e z
  .exact absurd (Mo (Heap.lt_size e) (ME I.ok.bsz z)) (Nd _)
 .obtain ⟨_,Z,Y,_⟩:=E b hb
  rcases Mb.mp (I.qk b z) with e|e
  .exact Z e
  .exact Y e
 .-- Tu names
  have e1:(tn++cap)[i]?=some x:=e1
  have e2:(gr tn.length idx σ)[i]?=some (some v):=e2
  unfold gr at e2
  by_cases hi:i<tn.length
  .rw[Mp (by rw[Mw];exact hi),MQ,if_pos hi] at e2
   cases e2
  .rw[MD (by rw[Mw];omega),Mw] at e2
   rw[MD (by omega)] at e1
   obtain ⟨P,J,G⟩:=GB e2
   have U:X.N[P]?=some x:=by
    have q:=congrArg (fun l=>l[i - tn.length]?) S.ci
    simp only[Mc,J,e1,Option.map_some] at q
    exact MH q
   have O:=S.ct x (MP e1)
   have Q:=MR O
   have g:=S.fr _ Q rfl
   obtain ⟨m,hn,hl⟩:=I.loc
   obtain ⟨u,r,l⟩:=hl P x v U G (g.elim (fun z=>.inr (.inl z)) fun z=>.inr (.inr z))
   refine⟨u,r,.inr ⟨?_,?_⟩⟩
   .show (relabel scope X.env).names.lookup x=some .cell\/(relabel scope X.env).names.lookup x=some .free
    have e:=@jr X.env scope.names x
    rw[O] at e
    have L:(relabel scope X.env).names.lookup x=some (if (NameKind.free == NameKind.free && X.env.scope.kind == .function && X.env.kindOf x == some .cell)=true then NameKind.cell else NameKind.free):=e
    rw[L]
    split
    .exact .inl rfl
    .exact .inr rfl
   .rcases l with ⟨j,_⟩|⟨_,c,F,z⟩
    .exfalso
     have j:X.env.scope.names.lookup x=some .local:=j
     rcases g with q|q
     .have q:X.env.scope.names.lookup x=some .cell:=q
      rw[q] at j;cases j
     .have q:X.env.scope.names.lookup x=some .free:=q
      rw[q] at j;cases j
    .obtain ⟨d,hd⟩:=gP (eT (names:=scope.names) (n:=s2.heap.objs.size+1+1) (nO (env:=X.env) (acc:=[]) Q))
     refine⟨c,?_,z.keeps old⟩
     rcases B x d (MR hd) with ⟨q,_⟩|⟨q,_⟩
     .rw[F] at q;cases q;exact hd
     .have:=RZ x q;rw[O] at this;cases this
 .have hm:(x,c)∈cellsFrom ((s2.heap.push rE).push Gg).objs.size scope.names (dw X.env scope.names []):=by rw[hsz];exact MR h
  rcases jj hm with z|z
  .obtain ⟨v,q⟩:=I.cell x c (s x c z).1
   exact⟨v,q.keeps old⟩
  .exact⟨_,z⟩
 .rcases B x c (MR h) with ⟨z,_⟩|⟨_,z⟩
  .exact I.freeC x c z
  .exact I.hok.fresh (by omega)
 .have Uq:p∈[(s2.heap.objs.size,rE)]:=T
  obtain rfl:=Gc.mp Uq
  refine⟨Sa,I.hok.fresh (Mm _),MA (OZ _),fun z=>?_,fun v z=>?_⟩
  .rcases Mb.mp (I.qk _ z) with e|e
   .exact absurd I.lt (by rw[<- e];exact Nd _)
   .exact I.Lz (Mm _) e
  .have f:Data.seq _ _=Data.cell v:=z
   cases f
 .show (gr tn.length idx σ).length=(tn++cap).length
  have:=congrArg List.length S.ci
  unfold gr DY
  simp only[Mt,Mw,mo] at this ⊢
  omega
def comp_back{F:List Str}{cs:List (Str × Addr)}{C D:Addr}{E:List (Addr × Obj)}{σ':St}{j:Hp}{g:Shared}{vs:List V}{i:List Value}{n:Nat}(I:Inv X pins σ H s2)(s:∀b∈fp,sZ X pins H b)
  (J:Inv (cxC X F scope cs C fp s2 H) E σ' j g) (t:s2.heap.objs.size<=D) (f:j D=none) (B:g.heap.get? D=some { cls:=.type "list",data:=.seq i.toArray n }) (r:Vals vs i) (l:vs.length<=sizeLine) :
  Inv X pins σ (upd j D (.lst vs)) g:=by
 have u:=J.base
 have hb:∀b o,s2.heap.get? b=some o->b≠D:=fun b o e=>MA (Mo (Heap.lt_size e) t)
 refine I.rG (ch:=fp) J.os ⟨u.keep,u.slot,fun b o e n p=>?_,u.there,fun b xs e=>?_,fun b o xs e=>?_,fun b ps e=>?_⟩ (fun b o e=>?_) J.bare fun b h=>?_
 .rw[aG (hb b o e)];exact u.free b o e n p
 .have q:=u.tups b xs e
  rw[aG (aU q f)];exact q
 .have q:=u.frzs b o xs e
  rw[aG (aU q f)];exact q
 .obtain ⟨m,q⟩:=u.tbls b ps e
  exact⟨m,by rw[aG (aU q f)];exact q⟩
 .by_cases e1:b=D
  .subst e1
   rw[az] at e
   cases e
   exact⟨l,i,n,r,B⟩
  .rw[aG e1] at e
   exact (J.hok b o e).oN (fun _ _ _ q=>q) (fun c q=>by rw[aG (aU q f)];exact q) fun c xs q=>by rw[aG (aU q f)];exact q
 .obtain ⟨_,z,_,y,x,v⟩:=s b h
  exact⟨y,z,x,v⟩
def PTs(X:Cx)(e:List Expr)(b:TT):Prop :=
 ∀(pins:List (Addr × Obj)) (s:Shared) (σ:St) (H:Hp) (Q:Bool->Hp->Prop),Inv X pins σ H s->b σ H Q ->
  wpAny (model X.prog X.w) X.A (forIn e true fun c r=>if r=true then do let ok <- isTrue c X.env (eval c X.env);pure (ForInStep.yield ok) else pure (ForInStep.yield r)) (TP X pins σ Q) X.xe s
def IP:TT:=fun _ H Q=>Q true H
def CA:PTs X [] IP:=fun _ _ _ H _ I h=>wpAny_tests_nil ⟨H,I,h⟩
def yf{c:Expr}{b:TT}(h:PT X c b):PTs X [c] b:=fun pins s σ H Q I q=>wpAny_tests_one (h pins s σ H Q I q)
def Ah(j:TI)(g:TG)(l:TT)(n:TE)(k:Nat)(idx:aac):TE:=fun σ H Q=>j σ H fun J r =>
 ∃W:Nat->Nat->List V->Hp->Prop,(∃m,W 0 m [] r)/\∀i m vs H,W i m vs H ->
  (J.stop i H/\vs.length<=sizeLine/\∀p,H p=none->Q (.ref p) (upd H p (.lst vs))) \/
  (J.go i H/\vs.length<=sizeLine/\∃N:List V->Hp->Prop,(∀e H',N e H'->∃c,c < m/\W (i+1) c e H')/\∀x H',J.yld i H x H'->g x (gr k idx σ) H' fun f q=>l f q fun b h =>
   if b=true then n f h fun v o=>N (vs++[v]) o else N vs h)
def ma(k:Nat)(g:TG):Prop:=∀x σ H Q,g x σ H Q->g x σ H fun b c=>Q b c/\b.length=σ.length/\∀j,k<=j->b[j]?=σ[j]?
def ma.name{i k:Nat}(h:i<k):ma k (eO i):=fun x σ H Q q=>⟨q,by simp,fun j hj=>by rw[KE (by omega)]⟩
def Dt{k j:Nat}{idx:aac}{b:St}{v:V}(h:(gr k idx b)[j]?=some (some v)):k<=j:=by
 by_cases hj:j<k
 .unfold gr at h
  rw[Mp (by rw[Mw];exact hj),MQ,if_pos hj] at h
  cases h
 .omega
def tV{PR Y iter:Expr}{Q5:List Expr}{MK:Pos}{g:TG}{tt:TT}{te:TE}{E:Value->Shared->Prop}{it:Addr}{Uh:Nat->Heap->Prop}{J:It}{Q:VK}{RR:Value->Addr->Result->Shared->Prop}
  (Pb:X.calm=true) (S:bt X scope tn cap idx) (RV:ma tn.length g)
  (hg:∀cs C fp s₀ H₀,PG (cxC X (tn++cap) scope cs C fp s₀ H₀) Y g) (ht:∀cs C fp s₀ H₀,PTs (cxC X (tn++cap) scope cs C fp s₀ H₀) Q5 tt)
  (he:∀cs C fp s₀ H₀,PE (cxC X (tn++cap) scope cs C fp s₀ H₀) PR te)
  (I:Inv X pins σ H s2) (T:Turn X.prog X.w X.K Y J fp it Uh) (SV:Uh 0 s2.heap) (f2:∀b∈fp,sZ X pins H b)
  (hW:∃W:Nat->Nat->List V->Hp->Prop,(∃m,W 0 m [] H)/\∀i m vs H,W i m vs H ->
   (J.stop i H/\vs.length<=sizeLine/\∀p,H p=none->Q (.ref p) (upd H p (.lst vs))) \/
   (J.go i H/\vs.length<=sizeLine/\∃N:List V->Hp->Prop,(∀SS H',N SS H'->∃m',m' < m/\W (i+1) m' SS H')/\∀x H',J.yld i H x H'->g x (gr tn.length idx σ) H' fun O8 H2=>tt O8 H2 fun b H3 =>
    if b=true then te O8 H3 fun v H4=>N (vs++[v]) H4 else N vs H3))
  (hRR:∀(y:Shared) (Z:Hp) (C D:Addr) (m:Str->Option Value),Inv X pins σ Z y->y.heap.Ns C m->Z C=none->s2.heap.objs.size<=C->Q (.ref D) Z->RR (.ref D) C (.ok .next) y) :
  wpAny (model X.prog X.w) X.A (newList []) (fun acc Q8=>wpAny (model X.prog X.w) X.A (newFunctionEnv scope X.env.globals (dw X.env scope.names []) [] X.env.qual none .none (some X.env)) (fun Vz SU =>
   codeAny (model X.prog X.w) X.A (.compStart (.ListComp PR [⟨Y,iter,Q5,0⟩] scope MK) 0 (.ref it) acc { Vz with scope:=relabel scope X.env }) (RR acc Vz.locals) SU) E Q8) E s2:=by
 obtain ⟨W,⟨m0,w0⟩,turn⟩:=hW
 have QD:∀b∈fp,b<s2.heap.objs.size:=fun b hb=>by
  obtain ⟨o,e,_⟩:=T.obj _ _ SV b hb
  exact Heap.lt_size e
 have I4:=AX I S f2 QD
 refine wpAny_newObj_type (pQ ?_)
 have e1:({ s2 with heap:=s2.heap.push rE }:Shared).heap.objs.size=s2.heap.objs.size+1:=Heap.size_push ..
 rw[e1]
 generalize f:cxC X (tn++cap) scope (ym X s2.heap scope) (s2.heap.objs.size+1) fp s2 H=X' at I4
 have P:X'.A=X.A:=by subst f;rfl
 have U:X'.prog=X.prog:=by subst f;rfl
 have hw:X'.w=X.w:=by subst f;rfl
 have hK:X'.K=X.K:=by subst f;rfl
 have Vj:X'.calm=true:=by subst f;exact Pb
 have UW:X'.xe=fun _ _=>False:=by subst f;rfl
 have S3:X'.env.locals=s2.heap.objs.size+1:=by subst f;rfl
 have WQ:X'.pn=[]:=by subst f;rfl
 have hex:X'.ex=fp:=by subst f;rfl
 have hs0:X'.s₀=s2:=by subst f;rfl
 have hg':PG X' Y g:=by subst f;exact hg _ _ _ _ _
 have WJ:PTs X' Q5 tt:=by subst f;exact ht _ _ _ _ _
 have he':PE X' PR te:=by subst f;exact he _ _ _ _ _
 have Vf:X'.env={ scope:=relabel scope X.env,locals:=s2.heap.objs.size+1,globals:=X.env.globals,cells:=ym X s2.heap scope,qual:=X.env.qual,func:=none,code:=X.env.code,frame:=X.env.frame,builtins:=X.env.builtins }:=by subst f;rfl
 let lo:List Value->Nat->Obj:=fun l n=>{ cls:=.type "list",data:=.seq l.toArray n }
 have Ru:∀{H':Hp}{pl:List (Addr × Obj)},(∀b∈fp,H' b=none)->(∀p∈pl,p.1∉fp)->∀b∈fp,sZ X' pl H' b:=fun {H' pl} hn h b hb=>by
  have q:=I4.ok.exf b (by rw[hex];exact hb)
  have q2:=I4.ok.exfs b (by rw[hex];exact hb)
  refine⟨hn b hb,q.1,q2,.inl (by rw[hex];exact hb),q.2,fun p Uq z=>?_⟩
  rw[WQ] at Uq
  exact h p Uq (by rw[z];exact hb)
 have Y9:s2.heap.objs.size∉fp:=fun z=>Nd _ (QD _ z)
 have D1:∀(o:Obj),∀p∈[((s2.heap.objs.size:Addr),o)],p.1∉fp:=fun o p h=>by
  obtain rfl:=Gc.mp h
  exact Y9
 have UR:∀s3:Shared,s3={ s2 with heap:=zG s2.heap scope } ->
   codeAny (model X.prog X.w) X.A (.compLoop (.ListComp PR [⟨Y,iter,Q5,0⟩] scope MK) 0 (.ref it) (.ref s2.heap.objs.size) X'.env) (RR (.ref s2.heap.objs.size) (s2.heap.objs.size+1)) s3:=by
  intro s3 hs3
  subst hs3
  refine xR (fun n s'=>∃i vs l s σ' H',Inv X' [(s2.heap.objs.size,lo l s)] σ' H' s'/\(∀(j:Nat) v,(gr tn.length idx σ)[j]?=some (some v)->σ'[j]?=some (some v))/\σ'.length=(gr tn.length idx σ).length/\Uh i s'.heap/\(∀b∈fp,H' b=none)/\Vals vs l/\W i n vs H') ?_ m0
   ⟨0,[],[],0,_,H,I4,fun _ _ z=>z,rfl,T.keep _ _ _ SV (fun b hb o e=>pushCells_keeps _ _ _ _ (Heap.get?_push_of_some _ (Heap.get?_push_of_some _ e))),fun b hb=>(f2 b hb).1,.nil,w0⟩
  rintro n s' ⟨i,vs,l,s,σ',H',I',Uj,WA,Sq,YN,rv,w'⟩
  have I5:Inv X' [(s2.heap.objs.size,lo l s)] (gr tn.length idx σ) H' s':=I'.weak WA.symm Uj
  rcases turn i n vs H' w' with ⟨stop,hz,q⟩|⟨go,hz,N,hN,step⟩
  .-- it ends
   have td:=T.done X' U hw hK Vj i _ s' _ H' (fun _ _=>False) I5 (Ru YN (D1 _)) Sq stop
   rw[P] at td
   refine thn td fun r y ⟨hr,F⟩=>?_
   subst hr
   obtain ⟨Up,R,_⟩:=F.pin (s2.heap.objs.size,lo l s) (by rw[WQ];exact Gc.mpr rfl)
   have J8:Inv X pins σ (upd H' s2.heap.objs.size (.lst vs)) y:=by
    subst f
    exact comp_back I f2 F (Mm _) R Up rv hz
   obtain ⟨m,hm,_⟩:=F.loc
   rw[S3] at hm
   have hCf:H' (s2.heap.objs.size+1)=none:=by have:=F.free;rw[S3] at this;exact this
   refine hRR y _ _ _ m J8 hm ?_ (Nu _) (q _ R)
   rw[aG (Nat.ne_of_gt (OZ _))]
   exact hCf
  .-- a turn
   have ti:=T.item X' U hw hK Vj i _ s' _ H' (fun _ _=>False) I5 (Ru YN (D1 _)) Sq go
   rw[P] at ti
   refine thn ti fun r s5 ⟨u,hr,h5⟩=>?_
   subst hr
   refine thn h5 fun _ O ⟨x,H6,I6,r6,y6,Wd,fr6⟩=>?_
   have S9:=I6.pinned (Ru fr6 (D1 _)) (T.obj _ _ Wd)
   have ag:=hg' _ O _ H6 x u _ S9 r6 (RV _ _ _ _ (step x H6 y6))
   rw[U,hw,P,UW] at ag
   refine thn ag fun _ s7 ⟨L,H7,I7,q7,hl7,hj7⟩=>?_
   have Y2:=WJ _ s7 L H7 _ I7 q7
   rw[U,hw,P,UW] at Y2
   refine thn Y2 fun b y ⟨Z,F,q8⟩=>?_
   have again:∀{t:Shared}{G:Hp}{vs9:List V}{its9:List Value}{n9:Nat},Inv X' ([(s2.heap.objs.size,lo its9 n9)]++mH fp O.heap) L G t->Vals vs9 its9->N vs9 G ->
     ∃m,m<n/\∃i vs l s σ' H',Inv X' [(s2.heap.objs.size,lo l s)] σ' H' t/\(∀(j:Nat) v,(gr tn.length idx σ)[j]?=some (some v)->σ'[j]?=some (some v))/\σ'.length=(gr tn.length idx σ).length/\Uh i t.heap/\(∀b∈fp,H' b=none)/\Vals vs l/\W i m vs H':=by
    intro t G vs9 its9 n9 B r9 ZR
    obtain ⟨m',hm',w9⟩:=hN _ _ ZR
    refine⟨m',hm',i+1,vs9,its9,n9,L,G,B.oJ,fun j v e=>by rw[hj7 j (Dt e)];exact e,hl7,T.keep _ _ _ Wd fun b hb o e=>(B.pin (b,o) (L9 _ (L9 _ (lH hb e)))).1,fun b hb=>?_,r9,w9⟩
    obtain ⟨o,e,d⟩:=T.obj _ _ Wd b hb
    exact (B.pin (b,o) (L9 _ (L9 _ (lH hb e)))).2.1
   cases b with
   |false =>
    exact again F rv q8
   |true =>
    have ae:=he' _ y L Z _ F q8
    rw[U,hw,P,UW] at ae
    refine thn ae fun M t ⟨v9,G,B,r9,q9⟩=>?_
    obtain ⟨Up,R,Yq,hp4,_⟩:=B.pin (s2.heap.objs.size,lo l s) (L9 _ (Mg _ (Gc.mpr rfl)))
    have rvl:=rv.length
    refine append_at (hsz:=by rw[Mx];omega) Up fun h' RQ Ri=>?_
    have ZL:∀p∈mH fp O.heap,p.1≠s2.heap.objs.size:=fun p h z=>Y9 (by rw[<- z];exact (vE h).1)
    have I10:Inv X' (mH fp O.heap) L G t:=B.oO fun p h=>B.pin p (L9 _ (L9 _ h))
    have Y6:Inv X' (mH fp O.heap) L G { t with heap:=h' }:=I10.turned (t':=t.toks) (it:=s2.heap.objs.size) (fun b o hb e=>RQ.extBut b o hb e) R Yq (.inr (by rw[hs0];exact Mm _))
     (fun x c e z=>by
      obtain ⟨v,o,q1,q2⟩:=B.cell x c e
      rw[z,Up] at q1
      cases q1
      cases q2) (fun p h=>by rw[WQ] at h;exact ZL p h)
    have eo:({ cls:=.type "list",data:=.seq (l.toArray.push M) (s+1) }:Obj)=lo (l++[M]) (s+1):=by
     show ({ cls:=.type "list",data:=.seq (l.toArray.push M) (s+1) }:Obj)={ cls:=.type "list",data:=.seq (l++[M]).toArray (s+1) }
     rw[List.push_toArray]
    refine again (vs9:=vs++[v9]) (its9:=l++[M]) (n9:=s+1) (Y6.oO fun p h=>?_) (rv.append (.cons r9 .nil)) q9
    rcases Mf.mp h with h|h
    .obtain rfl:=Gc.mp h
     refine⟨Ri.trans (congrArg some eo),R,Yq,hp4,fun v z=>?_⟩
     have z':Data.seq _ _=Data.cell v:=z
     cases z'
    .exact Y6.pin p (L9 _ h)
 refine codeAny_compStart_list ?_ ?_
 .have:=UR _ rfl
  rw[Vf] at this
  exact this
 .refine T.self _ 0 _ _ _ (T.keep _ _ _ SV (fun b hb o e=>pushCells_keeps _ _ _ _ (Heap.get?_push_of_some _ (Heap.get?_push_of_some _ e)))) ?_
  have:=UR _ rfl
  rw[Vf] at this
  exact this
def Dc(I:Inv X pins σ H s2)(S:bt X scope tn cap idx):closureFor scope X.env=pure (dw X.env scope.names []) :=
 uS fun n hm=>I.ok.has n (S.fr _ hm rfl)
def zW(S:bt X scope tn cap idx):∀x∈scope.names,x.2=.local->scope.names.lookup x.1=some .local:=fun x b e=>by
 obtain ⟨n,k⟩:=x
 have c:k=NameKind.local:=e
 subst c
 exact mR S.nd b
def w8{t i iter:Expr}{r:List Expr}{MK:Pos}{j:TI}{g:TG}{l:TT}{n:TE}(Z:X.calm=true)(S:bt X scope tn cap idx)(hi:PI X i iter j)(U:ma tn.length g)
  (E:∀cs C fp s₀ H₀,PG (cxC X (tn++cap) scope cs C fp s₀ H₀) i g) (ht:∀cs C fp s₀ H₀,PTs (cxC X (tn++cap) scope cs C fp s₀ H₀) r l)
  (F:∀cs C fp s₀ H₀,PE (cxC X (tn++cap) scope cs C fp s₀ H₀) t n) (y:∀x,foldedSetIterable iter X.env x=pure x:=by intro _;rfl) :
  PE X (.ListComp t [⟨i,iter,r,0⟩] scope MK) (Ah j g l n tn.length idx):=by
 intro pins s σ H Q I h
 rw[eval_ListComp]
 refine wpAny_comprehension_free (use:=none) rfl y (Dc I S) S.kind (zW S) (thn (hi pins s σ H _ I h) fun v s1 O=>thn O fun VM s2 M=>?_)
 obtain ⟨it,fp,Uh,J,H2,e,f,T,R,P,G⟩:=M
 subst e
 refine tV Z S U E ht F f T R P G fun u H8 C D m I8 hm L hsz q=>?_
 refine⟨m,hm,fun h' Y=>⟨.ref D,H8,?_,rfl,q⟩⟩
 exact I8.turned (t':=u.toks) (it:=C) (fun b o hb e=>Y.extBut b o hb e) L (fun z=>absurd f.lt (by rw[<- z];exact OY.mpr hsz)) (.inr (ME f.sz hsz))
  (fun x c e z=>by
   obtain ⟨v,q⟩:=f.cell x c e
   exact absurd q.lt (by rw[z];exact OY.mpr hsz)) (fun p B z=>absurd (Heap.lt_size (f.pin p B).1) (by rw[z];exact OY.mpr hsz))
def CS{r j iter:Expr}{n:List Expr}{t F f:Pos}{u:TI}{g:TG}{B:TT}{E:TE}{i:Nat}{y:Str}(Pb:X.calm=true)(S:bt X scope tn cap idx)(hN:X.N.Nodup)(P:X.N[i]?=some y)(R:Loc X.env.scope y)
  (hi:PI X j iter u) (RV:ma tn.length g)
  (hg:∀cs C fp s₀ H₀,PG (cxC X (tn++cap) scope cs C fp s₀ H₀) j g) (ht:∀cs C fp s₀ H₀,PTs (cxC X (tn++cap) scope cs C fp s₀ H₀) n B)
  (he:∀cs C fp s₀ H₀,PE (cxC X (tn++cap) scope cs C fp s₀ H₀) r E)
  (TB:swapsWith (.ListComp r [⟨j,iter,n,0⟩] scope t) (some (.Name y f)) F.line X.env=pure true:=by rfl) (U:∀x,foldedSetIterable iter X.env x=pure x:=by intro _;rfl)
  (hf:X.fn y=true\/X.env.scope.names.lookup y=some .local:=by first|exact .inl rfl|exact .inr rfl|assumption) :
  PS X (.Assign [.Name y f] (.ListComp r [⟨j,iter,n,0⟩] scope t) F) (jZ (Ah u g B E tn.length idx) (eO i)):=by
 intro pins s σ H D I h
 rw[exec_Assign_Name_used _ _ _ _ TB]
 refine wpAny_bind (wpAny_standAt (wpAny_bind ?_))
 show wpAny _ X.A (do let _ <- comprehension (.ListComp r [⟨j,iter,n,0⟩] scope t) scope X.env _ (newList []) false (eval iter X.env) (some (assign (.Name y f) X.env))) _ _ s
 refine wpAny_bind (wpAny_mono (wpAny_comprehension_free (use:=some (assign (.Name y f) X.env)) (Q:=fun _ s'=>SP X pins D .next s') rfl U (Dc I S) S.kind (zW S)
  (thn (hi pins s σ H _ I h) fun v s1 h1=>thn h1 fun VM s2 h2=>?_)) (fun _ s' Y=>wpAny_pure (wpAny_pure Y)) fun _ _ e=>e)
 obtain ⟨it,fp,Uh,J,H2,e,l,T,SV,f2,hW⟩:=h2
 subst e
 refine tV (Q:=fun x H1=>eO i x σ H1 D.nx) Pb S RV hg ht he l T SV f2 hW fun s8 H8 C G m I8 hm hC hsz q=>?_
 show wpAny _ X.A (assign (.Name y f) X.env (.ref G)) _ _ _
 have L:C≠X.env.locals:=fun z=>absurd l.lt (by rw[<- z];exact OY.mpr hsz)
 have M:∀x c,X.env.cells.lookup x=some c->c≠C:=fun x c e z=>by
  obtain ⟨v,q⟩:=l.cell x c e
  exact absurd q.lt (by rw[z];exact OY.mpr hsz)
 refine wpAny_assign_Name (wb (v:=.ref G) I8 hN P R rfl (fun O I9 ⟨a,VR,ha⟩=>?_) hf)
 have aC:C≠a:=fun z=>by
  rcases ha with e|e
  .exact L (z.trans e)
  .exact M _ _ e z.symm
 refine⟨m,hm.sameBut VR aC,fun h' RQ=>⟨_,H8,?_,q⟩⟩
 exact I9.turned (t':=O.toks) (it:=C) (fun b o hb e=>RQ.extBut b o hb e) hC L (.inr (ME l.sz hsz)) M (fun p Z z=>absurd (Heap.lt_size (l.pin p Z).1) (by rw[z];exact OY.mpr hsz))
end
def F7(J:It)(g:TG)(f:TE)(k:Nat)(idx:aac)(e:St)(n:Hp)(Q:VK):Prop :=
 ∃W:Nat->Nat->List V->Hp->Prop,(∃m,W 0 m [] n)/\∀i m vs H,W i m vs H ->
  (J.stop i H/\vs.length<=sizeLine/\∀p,H p=none->Q (.ref p) (upd H p (.lst vs))) \/
  (J.go i H/\vs.length<=sizeLine/\∃N:List V->Hp->Prop,(∀c H',N c H'->∃b,b < m/\W (i+1) b c H')/\∀x H',J.yld i H x H'->g x (gr k idx e) H' fun h l=>f h l fun v j=>N (vs++[v]) j)
def qF(c:TI)(g:TG)(e:TE)(k:Nat)(idx:aac):TE:=fun b H Q=>c b H fun J f=>F7 J g e k idx b f Q
def qL{b:TI}{g:TG}{c:TE}{k:Nat}{idx:aac}:qF b g c k idx=Ah b g IP c k idx:=by
 have e:∀(A B:Prop),(if true=true then A else B)=A:=fun A B=>if_pos rfl
 unfold qF F7 Ah IP
 simp only[if_true]
section
variable {X:Cx}{scope:Scope}{tn cap:List Str}{idx:aac}
def yA{f b iter:Expr}{n:Pos}{c:TI}{g:TG}{e:TE}(S:bt X scope tn cap idx)(hi:PI X b iter c)(l:ma tn.length g)
  (i:∀cs C fp s₀ H₀,PG (cxC X (tn++cap) scope cs C fp s₀ H₀) b g)
  (j:∀cs C fp s₀ H₀,PE (cxC X (tn++cap) scope cs C fp s₀ H₀) f e) (m:X.calm=true:=by rfl) (h:∀x,foldedSetIterable iter X.env x=pure x:=by intro _;rfl) :
  PE X (.ListComp f [⟨b,iter,[],0⟩] scope n) (qF c g e tn.length idx):=by
 rw[qL]
 exact w8 m S hi l i (fun _ _ _ _ _=>CA) j h
def uj{c b iter:Expr}{l j h:Pos}{e:TI}{g:TG}{f:TE}{i:Nat}{y:Str}(S:bt X scope tn cap idx)(s:X.N.Nodup)(m:X.N[i]?=some y)(n:Loc X.env.scope y)
  (hi:PI X b iter e) (u:ma tn.length g)
  (p:∀cs C fp s₀ H₀,PG (cxC X (tn++cap) scope cs C fp s₀ H₀) b g)
  (r:∀cs C fp s₀ H₀,PE (cxC X (tn++cap) scope cs C fp s₀ H₀) c f) (v:X.calm=true:=by rfl)
  (t:swapsWith (.ListComp c [⟨b,iter,[],0⟩] scope l) (some (.Name y h)) j.line X.env=pure true:=by rfl) (o:∀x,foldedSetIterable iter X.env x=pure x:=by intro _;rfl)
  (q:X.fn y=true\/X.env.scope.names.lookup y=some .local:=by first|exact .inl rfl|exact .inr rfl|assumption) :
  PS X (.Assign [.Name y h] (.ListComp c [⟨b,iter,[],0⟩] scope l) j) (jZ (qF e g f tn.length idx) (eO i)):=by
 rw[qL]
 exact CS v S s m n hi u p (fun _ _ _ _ _=>CA) r t o q
end
end L2
namespace L2
open PySem PySem.Spec PyProof.Rows
inductive D where
 |non|bl (b:Bool)|int (i:Int)|str (x:Str)|lst (ds:List D)|tup (ds:List D)
mutual
def Rf(H:Hp):D->V->List Addr->Prop
 |.non,v,fp=>v=.non/\fp=[]
 |.bl b,v,fp=>v=.bl b/\fp=[]
 |.int i,v,fp=>v=.int i/\fp=[]
 |.str x,v,fp=>v=.str x/\fp=[]
 |.lst ds,v,fp=>∃a xs c,v=.ref a/\H a=some (.lst xs)/\fp=a::c/\Rfs H ds xs c
 |.tup ds,v,fp=>∃a xs,v=.ref a/\H a=some (.tup xs)/\Rfs H ds xs fp
def Rfs(H:Hp):List D->List V->List Addr->Prop
 |[],xs,fp=>xs=[]/\fp=[]
 |d::ds,xs,fp=>∃x r f e,xs=x::r/\fp=f++e/\Rf H d x f/\Rfs H ds r e
end
def Rp(H:Hp)(d:D)(v:V):Prop:=∃fp,Rf H d v fp
theorem Rfs.length{H:Hp}:∀{ds:List D}{vs:List V}{fp:List Addr},Rfs H ds vs fp->vs.length=ds.length
 |[],_,_,h=>by obtain ⟨rfl,_⟩:=h;rfl
 |d::ds,vs,fp,h=>by
  obtain ⟨x,r,f,e,e1,e2,c,b⟩:=h
  subst e1
  rw[Me,Me,Rfs.length b]
theorem Rfs.get{H:Hp}:∀{ds:List D}{vs:List V}{fp:List Addr}{i:Nat}{d:D},Rfs H ds vs fp->ds[i]?=some d->∃v f,vs[i]?=some v/\Rf H d v f/\(∀a∈f,a∈fp)
 |[],_,_,_,_,_,e=>by simp at e
 |d::ds,vs,fp,0,d',h,e=>by
  obtain ⟨x,r,g,l,rfl,rfl,c,b⟩:=h
  simp at e;subst e
  exact⟨x,g,rfl,c,fun a ha=>Mg _ ha⟩
 |d::ds,vs,fp,i+1,d',h,e=>by
  obtain ⟨x,r,g,l,rfl,rfl,c,b⟩:=h
  obtain ⟨v,f,e1,j,k⟩:=Rfs.get (i:=i) b (by simpa using e)
  exact⟨v,f,by simpa using e1,j,fun a ha=>L9 _ (k a ha)⟩
abbrev dI(xs:aab):D:=.lst (xs.map D.int)
abbrev dT(t:aaa):D:=.lst (t.map dI)
end L2
namespace L2
open PySem PySem.Spec PyProof.Rows
section
variable {X:Cx}
def zj:fR X (.builtin "isinstance") (fun xs H Q=>∃x n t b,xs=[x,.ty n]/\ni X.K H x t/\PySem.W.kitOne X.K t (.type n)=some b/\Q (.bl b) H):=by
 intro c s j H xs us Q I r h
 obtain ⟨x,n,t,b,rfl,ty,e,q⟩:=h
 obtain ⟨u,f,rfl,g,i⟩:=vals2 r
 obtain rfl:f=Value.type n:=i
 exact DH I g ty e fun l=>⟨.bl b,H,I.tok _,rfl,q⟩
theorem kg:∀{xs:aab}{us:List Value},Vals (xs.map V.int) us->IntsAre us xs
 |[],us,r=>by cases r;exact .nil
 |x::xs,us,r=>by
  cases r with
  |cons r b =>
   obtain ⟨t,rfl⟩:=r
   exact .cons _ _ (kg b)
def FU(i:X.calm=true):fR X (.builtin "sum") (fun xs H Q=>∃(a:Addr) (ns:aab),xs=[.ref a]/\SqL X.K H a (ns.map V.int)/\Q (.int ns.sum) H):=by
 intro b s n H xs us Q I r h
 obtain ⟨a,ns,rfl,j,q⟩:=h
 obtain ⟨u,rfl,f⟩:=vals1 r
 obtain rfl:u=Value.ref a:=f
 obtain ⟨m,c,pl,p⟩:=I.list j
 have hi:=kg c
 obtain ⟨l,e⟩:=hi.allInts.items
 have hl:s.heap.IsList a (intItems l):=by rw[<- e];exact pl.isList
 refine sum_intListG (I.ok.hd i) hl fun h' o t' g=>⟨.int ns.sum,H,I.kept g,⟨t',?_⟩,q⟩
 have e2:numsOf m.toArray.toList=ns:=hi.numsOf
 rw[e,nums_intItems] at e2
 rw[preSum_eq,Nl (by simp),e2]
end
def JW{h:Heap}{a b:Addr}{o u:Obj}{c d:String}(e1:h.get? a=some o)(e2:h.get? b=some u)(c1:o.cls=.type c)(e:u.cls=.type d)(n:c≠d):a≠b:=fun z=>by
 subst z;rw[e1] at e2;cases e2;rw[c1] at e;cases e;exact n rfl
def Inv.CO{X:Cx}{c:List (Addr × Obj)}{h:St}{H H':Hp}{s:Shared}{h':Heap}{fp:List Addr}{t':Nat}(I:Inv X c h H s)(i:∀b∈fp,sZ X c H b)(k:∀b o,b∉fp->s.heap.get? b=some o->h'.get? b=some o)
  (free:∀b o,s.heap.get? b=some o->H b=none->H' b=none) (g:Same H H') (hok:HOk X.prog X.w H' h'):Inv X c h H' { s with heap:=h',toks:=t' }:=by
 have j:X.env.locals∉fp:=fun z=>(i _ z).2.1 rfl
 refine I.step (g':=s.gens) (d':=s.drawn) (ch:=fp) (fun b hb=>?_) (fun b o _ _ f e _=>k b o f e) (fun b o _ _ f e _=>⟨o.slots,k b o f e⟩) (fun b o _ e n=>free b o e n) (fun b o f e=>⟨o,k b o f e⟩)
  (fun b xs e=>g b _ e) (fun b o u e=>g b _ e) (fun b ps e=>⟨#[],by rw[g b _ e];simp⟩) (fun m hm=>?_) hok I.bare
 .obtain ⟨_,v,_,t,q,p⟩:=i b hb
  exact⟨t,v,q,p⟩
 .obtain ⟨o,es,ep,l,r⟩:=hm
  exact⟨o,es,ep,k _ o j l,r⟩
section
end
mutual
def D.plain:D->Bool
 |.non=>true|.bl _=>false|.int _=>true|.str _=>true
 |.lst ds=>D.dH ds|.tup ds=>D.dH ds
def D.dH:List D->Bool
 |[]=>true
 |d::ds=>D.plain d && D.dH ds
end
mutual
def D.depth:D->Nat
 |.lst ds=>D.ft ds+1|.tup ds=>D.ft ds+1
 |_=>0
def D.ft:List D->Nat
 |[]=>0
 |d::ds=>max (D.depth d) (D.ft ds)
end
mutual
def D.eqb:D->D->Bool
 |.non,.non=>true
 |.int i,.int j=>i == j
 |.str i,.str j=>i == j
 |.lst a,.lst b=>D.lI a b
 |.tup a,.tup b=>D.lI a b
 |_,_=>false
def D.lI:List D->List D->Bool
 |[],[]=>true
 |a::as,b::bs=>D.eqb a b && D.lI as bs
 |_,_=>false
end
theorem D.kl:∀{a b:List D},D.lI a b=(decide (a.length=b.length) && (List.range a.length).all fun i=>match a[i]?,b[i]? with|some x,some y=>D.eqb x y|_,_=>false)
 |[],[]=>rfl
 |[],b::bs=>by simp [D.lI]
 |a::as,[]=>by simp [D.lI]
 |a::as,b::bs=>by
  rw[D.lI,D.kl (a:=as) (b:=bs),Me,List.range_succ_eq_map,List.all_cons,Pp]
  by_cases h:as.length=bs.length
  .simp [h,Function.comp_def]
  .simp [h]
end L2
namespace L2
open PySem PySem.Spec PyProof.Rows
open PySem.SeqAt
theorem D.ee:∀{ds:List D}{i:Nat}{d:D},D.dH ds=true->ds[i]?=some d->d.plain=true
 |[],i,d,_,e=>by simp at e
 |c::ds,0,d,h,e=>by
  simp at e;subst e
  rw[D.dH,Ng] at h
  exact h.1
 |c::ds,i+1,d,h,e=>by
  rw[D.dH,Ng] at h
  exact D.ee (i:=i) h.2 (by simpa using e)
theorem D.jD:∀{ds:List D}{i:Nat}{d:D},ds[i]?=some d->d.depth<=D.ft ds
 |[],i,d,e=>by simp at e
 |c::ds,0,d,e=>by
  simp at e;subst e
  rw[D.ft]
  exact Nat.le_max_left _ _
 |c::ds,i+1,d,e=>by
  rw[D.ft]
  exact ME (D.jD (i:=i) (by simpa using e)) (Nat.le_max_right _ _)
def D.GG{a b:List D}(hl:a.length=b.length)(f:Nat->Bool)(h:∀i x y,a[i]?=some x->b[i]?=some y->f i=D.eqb x y):D.lI a b=(List.range a.length).all f:=by
 rw[D.kl,decide_eq_true hl,Bool.true_and,ND]
 simp only[M4,Mq]
 constructor
 .intro q i hi
  have:=q i hi
  rw[dz hi,dz (show i<b.length by omega)] at this
  rw[h i _ _ (dz hi) (dz (show i<b.length by omega))]
  exact this
 .intro q i hi
  have:=q i hi
  rw[h i _ _ (dz hi) (dz (show i<b.length by omega))] at this
  rw[dz hi,dz (show i<b.length by omega)]
  exact this
def D.pR{a b:List D}(hl:a.length≠b.length):D.lI a b=false:=by
 rw[D.kl,decide_eq_false hl,Bool.false_and]
theorem BG{H:Hp}:∀(n:Nat) (d e:D) (v:V),d.depth<=n->Rp H d v->Rp H e v->d.plain=true->D.eqb d e=true:=by
 intro n
 induction n with
 |zero =>
  intro d e v hn hd c h
  obtain ⟨f,hd⟩:=hd
  obtain ⟨g,c⟩:=c
  cases d with
  |non=>obtain ⟨rfl,_⟩:=hd;cases e with
   |non=>rfl
   |lst ds=>obtain ⟨_,_,_,z,_⟩:=c;cases z
   |tup ds=>obtain ⟨_,_,z,_⟩:=c;cases z
   |_=>obtain ⟨z,_⟩:=c;cases z
  |bl b=>cases h
  |int i=>obtain ⟨rfl,_⟩:=hd;cases e with
   |int j=>obtain ⟨z,_⟩:=c;cases z;simp [D.eqb]
   |lst ds=>obtain ⟨_,_,_,z,_⟩:=c;cases z
   |tup ds=>obtain ⟨_,_,z,_⟩:=c;cases z
   |_=>obtain ⟨z,_⟩:=c;cases z
  |str i=>obtain ⟨rfl,_⟩:=hd;cases e with
   |str j=>obtain ⟨z,_⟩:=c;cases z;simp [D.eqb]
   |lst ds=>obtain ⟨_,_,_,z,_⟩:=c;cases z
   |tup ds=>obtain ⟨_,_,z,_⟩:=c;cases z
   |_=>obtain ⟨z,_⟩:=c;cases z
  |lst ds=>rw[D.depth] at hn;omega
  |tup ds=>rw[D.depth] at hn;omega
 |succ n ih =>
  intro d e v hn hd c h
  have go:∀(ds es:List D) (xs:List V) (f g:List Addr),D.ft ds<=n->Rfs H ds xs f->Rfs H es xs g->D.dH ds=true->D.lI ds es=true:=by
   intro ds es xs f g hn m l h
   have l1:=m.length
   have l2:=l.length
   rw[D.GG (by omega) (fun _=>true) (fun i x y e1 e2=>?_)]
   .simp
   .obtain ⟨v1,B,r,q,_⟩:=m.get e1
    obtain ⟨t,u,q2,p,_⟩:=l.get e2
    rw[r] at q2;cases q2
    exact (ih x y v1 (ME (D.jD e1) hn) ⟨_,q⟩ ⟨_,p⟩ (D.ee h e1)).symm
  obtain ⟨f,hd⟩:=hd
  obtain ⟨g,c⟩:=c
  cases d with
  |non=>obtain ⟨rfl,_⟩:=hd;cases e with
   |non=>rfl
   |lst ds=>obtain ⟨_,_,_,z,_⟩:=c;cases z
   |tup ds=>obtain ⟨_,_,z,_⟩:=c;cases z
   |_=>obtain ⟨z,_⟩:=c;cases z
  |bl b=>cases h
  |int i=>obtain ⟨rfl,_⟩:=hd;cases e with
   |int j=>obtain ⟨z,_⟩:=c;cases z;simp [D.eqb]
   |lst ds=>obtain ⟨_,_,_,z,_⟩:=c;cases z
   |tup ds=>obtain ⟨_,_,z,_⟩:=c;cases z
   |_=>obtain ⟨z,_⟩:=c;cases z
  |str i=>obtain ⟨rfl,_⟩:=hd;cases e with
   |str j=>obtain ⟨z,_⟩:=c;cases z;simp [D.eqb]
   |lst ds=>obtain ⟨_,_,_,z,_⟩:=c;cases z
   |tup ds=>obtain ⟨_,_,z,_⟩:=c;cases z
   |_=>obtain ⟨z,_⟩:=c;cases z
  |lst ds =>
   obtain ⟨a,xs,s,rfl,e1,rfl,hd⟩:=hd
   cases e with
   |lst es =>
    obtain ⟨b,ys,o,z,e2,rfl,c⟩:=c
    cases z
    rw[e1] at e2;cases e2
    rw[D.eqb]
    exact go ds es xs s o (by rw[D.depth] at hn;omega) hd c h
   |tup es =>
    obtain ⟨b,ys,z,e2,c⟩:=c
    cases z
    rw[e1] at e2;cases e2
   |_=>obtain ⟨z,_⟩:=c;cases z
  |tup ds =>
   obtain ⟨a,xs,rfl,e1,hd⟩:=hd
   cases e with
   |tup es =>
    obtain ⟨b,ys,z,e2,c⟩:=c
    cases z
    rw[e1] at e2;cases e2
    rw[D.eqb]
    exact go ds es xs f g (by rw[D.depth] at hn;omega) hd c h
   |lst es =>
    obtain ⟨b,ys,o,z,e2,rfl,c⟩:=c
    cases z
    rw[e1] at e2;cases e2
   |_=>obtain ⟨z,_⟩:=c;cases z
theorem KS{X:Cx}{J:List (Addr × Obj)}{σ:St}{H:Hp}{s:Shared}(I:Inv X J σ H s):∀(n:Nat) (d e:D) (x y:V) (u w:Value) (A:Around),d.depth<=n->Rp H d x->Rp H e y->RelV x u->RelV y w->d.plain=true->e.plain=true->A.units+n<cLine ->
  EqAt A s u w (D.eqb d e):=by
 intro n
 induction n with
 |zero =>
  intro d e x y u w A hn hd c p h o m hu
  obtain ⟨f,hd⟩:=hd
  obtain ⟨g,c⟩:=c
  have l:A.units<cLine:=by omega
  cases d with
  |non =>
   obtain ⟨rfl,_⟩:=hd;obtain rfl:u=.none:=p
   cases e with
   |non=>obtain ⟨rfl,_⟩:=c;obtain rfl:w=.none:=h;exact EqAt.same _
   |bl b=>cases m
   |int j=>obtain ⟨rfl,_⟩:=c;obtain ⟨t,rfl⟩:=h;exact EqAt.none_int _ _
   |str j=>obtain ⟨rfl,_⟩:=c;obtain ⟨t,rfl⟩:=h;exact EqAt.none_str _ _
   |lst es=>obtain ⟨b,ys,O,rfl,e2,_,c⟩:=c;obtain rfl:w=.ref b:=h;obtain ⟨_,_,pl,_⟩:=I.list (SqL.of e2);exact EqAt.none_list pl.isList l
   |tup es=>obtain ⟨b,ys,rfl,e2,c⟩:=c;obtain rfl:w=.ref b:=h;obtain ⟨_,_,pl,_⟩:=I.tuple (SqT.of e2);exact EqAt.none_tuple pl l
  |bl b=>cases o
  |int i =>
   obtain ⟨rfl,_⟩:=hd;obtain ⟨t0,rfl⟩:=p
   cases e with
   |non=>obtain ⟨rfl,_⟩:=c;obtain rfl:w=.none:=h;exact EqAt.int_none _ _
   |bl b=>cases m
   |int j=>obtain ⟨rfl,_⟩:=c;obtain ⟨t,rfl⟩:=h;exact EqAt.int_int _ _ _ _
   |str j=>obtain ⟨rfl,_⟩:=c;obtain ⟨t,rfl⟩:=h;exact EqAt.int_str _ _ _ _
   |lst es=>obtain ⟨b,ys,O,rfl,e2,_,c⟩:=c;obtain rfl:w=.ref b:=h;obtain ⟨_,_,pl,_⟩:=I.list (SqL.of e2);exact EqAt.int_list _ _ pl.isList l
   |tup es=>obtain ⟨b,ys,rfl,e2,c⟩:=c;obtain rfl:w=.ref b:=h;obtain ⟨_,_,pl,_⟩:=I.tuple (SqT.of e2);exact EqAt.int_tuple _ _ pl l
  |str i =>
   obtain ⟨rfl,_⟩:=hd;obtain ⟨t0,rfl⟩:=p
   cases e with
   |non=>obtain ⟨rfl,_⟩:=c;obtain rfl:w=.none:=h;exact EqAt.str_none _ _
   |bl b=>cases m
   |int j=>obtain ⟨rfl,_⟩:=c;obtain ⟨t,rfl⟩:=h;exact EqAt.str_int _ _ _ _
   |str j=>obtain ⟨rfl,_⟩:=c;obtain ⟨t,rfl⟩:=h;exact EqAt.str_str _ _ _ _
   |lst es=>obtain ⟨b,ys,O,rfl,e2,_,c⟩:=c;obtain rfl:w=.ref b:=h;obtain ⟨_,_,pl,_⟩:=I.list (SqL.of e2);exact EqAt.str_list _ _ pl.isList l
   |tup es=>obtain ⟨b,ys,rfl,e2,c⟩:=c;obtain rfl:w=.ref b:=h;obtain ⟨_,_,pl,_⟩:=I.tuple (SqT.of e2);exact EqAt.str_tuple _ _ pl l
  |lst ds=>rw[D.depth] at hn;omega
  |tup ds=>rw[D.depth] at hn;omega
 |succ n ih =>
  intro d e x y u w A hn hd c p h o m hu
  have l:A.units<cLine:=by omega
  have ud:A.in1.units+n<cLine:=by show A.units+1+n<cLine;omega
  cases d with
  |non=>exact ih _ _ x y u w A (by simp [D.depth]) hd c p h o m (by omega)
  |bl b=>cases o
  |int i=>exact ih _ _ x y u w A (by simp [D.depth]) hd c p h o m (by omega)
  |str i=>exact ih _ _ x y u w A (by simp [D.depth]) hd c p h o m (by omega)
  |lst ds =>
   have Xk:=hd
   have Xi:=c
   obtain ⟨f,a,xs,fq,rfl,e1,rfl,hd⟩:=hd
   obtain rfl:u=.ref a:=p
   obtain ⟨v,G,pl,hz⟩:=I.list (SqL.of e1)
   obtain ⟨g,c⟩:=c
   cases e with
   |non=>obtain ⟨rfl,_⟩:=c;obtain rfl:w=.none:=h;exact EqAt.list_none pl.isList l
   |bl b=>cases m
   |int j=>obtain ⟨rfl,_⟩:=c;obtain ⟨t,rfl⟩:=h;exact EqAt.list_int _ _ pl.isList l
   |str j=>obtain ⟨rfl,_⟩:=c;obtain ⟨t,rfl⟩:=h;exact EqAt.list_str _ _ pl.isList l
   |tup es=>obtain ⟨b,ys,rfl,e2,c⟩:=c;obtain rfl:w=.ref b:=h;obtain ⟨_,_,r,_⟩:=I.tuple (SqT.of e2);exact EqAt.list_tuple pl.isList r l
   |lst es =>
    obtain ⟨b,ys,O,rfl,e2,rfl,c⟩:=c
    obtain rfl:w=.ref b:=h
    by_cases M:a=b
    .subst M
     rw[BG _ _ _ _ (Mm _) Xk Xi o]
     exact EqAt.same _
    .obtain ⟨C,L,r,WB⟩:=I.list (SqL.of e2)
     refine EqAt.of_refs M ?_
     have l1:=G.length
     have l2:=L.length
     have m1:=hd.length
     have m2:=c.length
     by_cases hl:ds.length=es.length
     .have key:=RcAt.lists (A:=A) (e:=fun i=>match ds[i]?,es[i]? with|some x,some y=>D.eqb x y|_,_=>false) pl.isList r.isList (by simp;omega) l (fun j h1 h2=>by
       have q:j<ds.length:=by simp at h1;omega
       have B:j<es.length:=by omega
       simp only[dz q,dz B]
       obtain ⟨v1,f1,S,R,_⟩:=hd.get (dz q)
       obtain ⟨P,f2,q2,Q,_⟩:=c.get (dz B)
       obtain ⟨F,U,t1⟩:=G.get S
       obtain ⟨E,T,t2⟩:=L.get q2
       have Z:v.toArray[j]=F:=by
        have:=Ma.mp U
        obtain ⟨_,z⟩:=this
        simpa using z
       have Y:C.toArray[j]=E:=by
        have:=Ma.mp T
        obtain ⟨_,z⟩:=this
        simpa using z
       rw[Z,Y]
       exact ih _ _ v1 P F E A.in1 (by have:=D.jD (dz q);rw[D.depth] at hn;omega) ⟨_,R⟩ ⟨_,Q⟩ t1 t2 (D.ee o (dz q)) (D.ee m (dz B)) ud)
      have e3:D.eqb (.lst ds) (.lst es)=(List.range v.toArray.size).all fun i=>match ds[i]?,es[i]? with|some x,some y=>D.eqb x y|_,_=>false:=by
       rw[D.eqb,D.kl,decide_eq_true hl,Bool.true_and]
       rw[show v.toArray.size=ds.length by simp;omega]
       all_goals rfl
      rw[e3]
      exact key
     .rw[D.eqb,D.pR hl]
      exact RcAt.lists_lengths pl.isList r.isList (by simp;omega) l
  |tup ds =>
   have Xk:=hd
   have Xi:=c
   obtain ⟨f,a,xs,rfl,e1,hd⟩:=hd
   obtain rfl:u=.ref a:=p
   obtain ⟨v,G,pl,hz⟩:=I.tuple (SqT.of e1)
   obtain ⟨g,c⟩:=c
   cases e with
   |non=>obtain ⟨rfl,_⟩:=c;obtain rfl:w=.none:=h;exact EqAt.tuple_none pl l
   |bl b=>cases m
   |int j=>obtain ⟨rfl,_⟩:=c;obtain ⟨t,rfl⟩:=h;exact EqAt.tuple_int _ _ pl l
   |str j=>obtain ⟨rfl,_⟩:=c;obtain ⟨t,rfl⟩:=h;exact EqAt.tuple_str _ _ pl l
   |lst es=>obtain ⟨b,ys,O,rfl,e2,_,c⟩:=c;obtain rfl:w=.ref b:=h;obtain ⟨_,_,r,_⟩:=I.list (SqL.of e2);exact EqAt.tuple_list pl r.isList l
   |tup es =>
    obtain ⟨b,ys,rfl,e2,c⟩:=c
    obtain rfl:w=.ref b:=h
    by_cases M:a=b
    .subst M
     rw[BG _ _ _ _ (Mm _) Xk Xi o]
     exact EqAt.same _
    .obtain ⟨C,L,r,WB⟩:=I.tuple (SqT.of e2)
     refine EqAt.of_refs M ?_
     have l1:=G.length
     have l2:=L.length
     have m1:=hd.length
     have m2:=c.length
     have key:=RcAt.tuples (A:=A) (e:=fun i=>match ds[i]?,es[i]? with|some x,some y=>D.eqb x y|_,_=>false) pl r l (fun j h1 h2=>by
       have q:j<ds.length:=by simp at h1;omega
       have B:j<es.length:=by simp at h2;omega
       simp only[dz q,dz B]
       obtain ⟨v1,f1,S,R,_⟩:=hd.get (dz q)
       obtain ⟨P,f2,q2,Q,_⟩:=c.get (dz B)
       obtain ⟨F,U,t1⟩:=G.get S
       obtain ⟨E,T,t2⟩:=L.get q2
       have Z:v.toArray[j]=F:=by
        have:=Ma.mp U
        obtain ⟨_,z⟩:=this
        simpa using z
       have Y:C.toArray[j]=E:=by
        have:=Ma.mp T
        obtain ⟨_,z⟩:=this
        simpa using z
       rw[Z,Y]
       exact ih _ _ v1 P F E A.in1 (by have:=D.jD (dz q);rw[D.depth] at hn;omega) ⟨_,R⟩ ⟨_,Q⟩ t1 t2 (D.ee o (dz q)) (D.ee m (dz B)) ud)
     have e3:D.eqb (.tup ds) (.tup es)=((List.range (min v.toArray.size C.toArray.size)).all (fun i=>match ds[i]?,es[i]? with|some x,some y=>D.eqb x y|_,_=>false) && v.toArray.size == C.toArray.size):=by
      rw[D.eqb]
      have z1:v.toArray.size=ds.length:=by simp;omega
      have z2:C.toArray.size=es.length:=by simp;omega
      rw[z1,z2]
      by_cases hl:ds.length=es.length
      .rw[D.kl,decide_eq_true hl,Bool.true_and,hl,Nat.min_self,beq_self_eq_true,Bool.and_true]
       all_goals rfl
      .rw[D.pR hl]
       have:(ds.length == es.length)=false:=beq_eq_false_iff_ne.mpr hl
       rw[this,Bool.and_false]
     rw[e3]
     exact key
def Ek(ds es:List D)(i:Nat):Bool:=match ds[i]?,es[i]? with|some x,some y=>D.eqb x y|_,_=>false
def yy{X:Cx}{b:List (Addr × Obj)}{t:St}{H:Hp}{s:Shared}(I:Inv X b t H s){A:Around}{ds es:List D}{xs ys:List V}{f g:List Addr}{h e:List Value}(hd:Rfs H ds xs f)(o:Rfs H es ys g)(n:Vals xs h)(r:Vals ys e)
  (C:D.dH ds=true) (B:D.dH es=true) (L:A.units+1+D.ft ds<cLine):∀j (q:j<h.toArray.size) (p:j<e.toArray.size),EqAt A.in1 s h.toArray[j] e.toArray[j] (Ek ds es j):=by
 intro j q p
 have l1:=n.length
 have l2:=r.length
 have O:=hd.length
 have M:=o.length
 have c:j<ds.length:=by simp at q;omega
 have i:j<es.length:=by simp at p;omega
 unfold Ek
 simp only[dz c,dz i]
 obtain ⟨v1,Q,y,x,_⟩:=hd.get (dz c)
 obtain ⟨u,P,q2,v,_⟩:=o.get (dz i)
 obtain ⟨m,F,t1⟩:=n.get y
 obtain ⟨l,E,t2⟩:=r.get q2
 have J:h.toArray[j]=m:=by
  obtain ⟨_,z⟩:=Ma.mp F
  simpa using z
 have G:e.toArray[j]=l:=by
  obtain ⟨_,z⟩:=Ma.mp E
  simpa using z
 rw[J,G]
 exact KS I _ _ _ v1 u m l A.in1 (D.jD (dz c)) ⟨_,x⟩ ⟨_,v⟩ t1 t2 (D.ee C (dz c)) (D.ee B (dz i)) L
def uu{ds es:List D}(hl:ds.length=es.length):D.lI ds es=(List.range ds.length).all (Ek ds es):=by
 rw[D.kl,decide_eq_true hl,Bool.true_and]
 rfl
section
variable {X:Cx}
def EZ(b:Bool):R2:=fun x y H Q=>∃ds es,Rp H (.lst ds) x/\Rp H (.lst es) y/\D.dH ds=true/\D.dH es=true/\D.ft ds<=60/\Q (.bl (if b then !D.lI ds es else D.lI ds es)) H
def AA(F:X.A.units+64<cLine):OpR X (compareOp .Eq) (EZ false):=by
 intro e s z H x y v u Q I n m h
 obtain ⟨ds,es,⟨f,a,xs,J,rfl,e1,rfl,hd⟩,⟨g,b,ys,G,rfl,e2,rfl,i⟩,p,o,r,q⟩:=h
 obtain rfl:v=.ref a:=n
 obtain rfl:u=.ref b:=m
 obtain ⟨t,c,pl,E⟩:=I.list (SqL.of e1)
 obtain ⟨M,l,j,L⟩:=I.list (SqL.of e2)
 have l1:=c.length
 have l2:=l.length
 have C:=hd.length
 have B:=i.length
 by_cases hl:ds.length=es.length
 .refine eq_listAt pl.isList j.isList (by simp;omega) (by omega) (yy I hd i c l p o (by omega)) (bj I q ?_)
  rw[uu hl,show t.toArray.size=ds.length by simp;omega]
  all_goals rfl
 .refine eq_list_lengthsAt pl.isList j.isList (by simp;omega) (by omega) (bj I q ?_)
  rw[D.pR hl]
  all_goals rfl
def uI(F:X.A.units+64<cLine):OpR X (compareOp .NotEq) (EZ true):=by
 intro e s z H x y v u Q I n m h
 obtain ⟨ds,es,⟨f,a,xs,J,rfl,e1,rfl,hd⟩,⟨g,b,ys,G,rfl,e2,rfl,i⟩,p,o,r,q⟩:=h
 obtain rfl:v=.ref a:=n
 obtain rfl:u=.ref b:=m
 obtain ⟨t,c,pl,E⟩:=I.list (SqL.of e1)
 obtain ⟨M,l,j,L⟩:=I.list (SqL.of e2)
 have l1:=c.length
 have l2:=l.length
 have C:=hd.length
 have B:=i.length
 by_cases hl:ds.length=es.length
 .refine RcNeAt.lists pl.isList j.isList (by simp;omega) (by omega) (yy I hd i c l p o (by omega)) _ _ _ _ (bj I q ?_)
  rw[uu hl,show t.toArray.size=ds.length by simp;omega]
  all_goals rfl
 .refine RcNeAt.lists_lengths pl.isList j.isList (by simp;omega) (by omega) _ _ _ _ (bj I q ?_)
  rw[D.pR hl]
  all_goals rfl
end
theorem D.jV:∀(xs:aab),D.dH (xs.map D.int)=true
 |[]=>rfl
 |x::xs=>by rw[Ml,D.dH,D.jV xs];rfl
theorem D.l8:∀(t:aaa),D.dH (t.map dI)=true
 |[]=>rfl
 |x::xs=>by rw[Ml,D.dH,D.l8 xs,D.plain,D.jV];rfl
theorem D.mw:∀(xs:aab),D.ft (xs.map D.int)=0
 |[]=>rfl
 |x::xs=>by rw[Ml,D.ft,D.mw xs];rfl
theorem D.qS:∀(t:aaa),D.ft (t.map dI)<=1
 |[]=>by rw[NP,D.ft];omega
 |x::xs=>by
  have:=D.qS xs
  rw[Ml,D.ft,D.depth,D.mw]
  exact Nat.max_le.mpr ⟨Mm _,this⟩
theorem D.qw:∀(xs ys:aab),D.lI (xs.map D.int) (ys.map D.int)=decide (xs=ys)
 |[],[]=>rfl
 |[],y::ys=>rfl
 |x::xs,[]=>rfl
 |x::xs,y::ys=>by
  rw[Ml,Ml,D.lI,D.qw xs ys,D.eqb]
  by_cases h:x=y
  .subst h;simp
  .have:(x == y)=false:=beq_eq_false_iff_ne.mpr h
   simp [this,h]
theorem D.vB:∀(xs ys:aaa),D.lI (xs.map dI) (ys.map dI)=decide (xs=ys)
 |[],[]=>rfl
 |[],y::ys=>rfl
 |x::xs,[]=>rfl
 |x::xs,y::ys=>by
  rw[Ml,Ml,D.lI,D.vB xs ys,D.eqb,D.qw]
  by_cases h:x=y
  .subst h;simp
  .simp [h]
def Lq(i j:Int):Prop:=∃m n:Nat,i.natAbs<2 ^ m/\j.natAbs<2 ^ n/\m+n<=100000000
def FN(i j:Int):Prop:=0<j/\∃m:Nat,j.natAbs<2 ^ m/\m<=9000
section
variable {X:Cx}
def pZ:OpR X (binaryOp .Mult) (rI Lq fun i j=>.int (i*j)):=opI fun i j _ _ _ _ _ b q=>by
 obtain ⟨m,n,e,c,f⟩:=b
 exact mul_int q (mulOk_of_bits (intBits_le e) (intBits_le c) (by omega))
def cH:OpR X (binaryOp .FloorDiv) (rI FN fun i j=>.int (i / j)):=opI fun i j _ _ _ _ _ b q=>by
 obtain ⟨f,m,e,c⟩:=b
 have hj:j.natAbs≠0:=by omega
 refine floordiv_int (by omega) ?_ (.inl (PyProof.noPylong_of_log2 (Mo ((Nat.log2_lt hj).mpr e) c)))
 rw[Int.fdiv_eq_ediv_of_nonneg i (by omega)]
 exact q
end
def Fg(scope sc0:Scope):Scope:={ scope with names:=scope.names.map fun (n,k)=>if (k == .free && sc0.kind == .function && sc0.names.lookup n == some .cell) then (n,.cell) else (n,k) }
def qy:List Str->Bool
 |[]=>true
 |x::xs=>!xs.contains x && qy xs
theorem bU:∀{l:List Str},qy l=true->l.Nodup
 |[],_=>Nb
 |x::xs,h=>by
  rw[qy,Ng,Bool.not_eq_true'] at h
  refine Mn.mpr ⟨fun z=>?_,bU h.2⟩
  have:=List.contains_iff_mem.mpr z
  rw[this] at h
  exact absurd h.1 (by decide)
def By(sc0 scope:Scope)(tn cap:List Str):Bool :=
 decide (scope.kind=.function) && qy (scope.names.map (·.1)) && qy (tn++cap) && cap.all (fun y=>decide (scope.names.lookup y=some .free)) &&
  scope.names.all fun y=>!decide (y.2=.free) || (decide (sc0.names.lookup y.1=some .cell) || decide (sc0.names.lookup y.1=some .free))
def bt.of{X:Cx}{sc0 scope:Scope}{tn cap:List Str}{idx:aac}(h:By sc0 scope tn cap=true)(e:X.env.scope=sc0)(ci:idx.map (fun i=>X.N[i]?)=cap.map some):bt X scope tn cap idx:=by
 unfold By at h
 simp only[Ng,decide_eq_true_eq,M4,Bool.or_eq_true,Bool.not_eq_true',decide_eq_false_iff_not] at h
 obtain ⟨⟨⟨⟨m,l⟩,j⟩,g⟩,f⟩:=h
 refine⟨m,bU l,bU j,g,ci,fun y b c=>?_⟩
 rw[e]
 rcases f y b with z|z
 .exact absurd c z
 .exact z
structure FnAt(K:aad)(mg:Str->Option Value)(x:Str)(st:Stmt)(ps:List Str)(f:Addr)(fd:FuncData):Prop where
 fn:Fun K x x st f fd
 mg:mg x=some (.ref f)
 bd:Binds K fd ps []
end L2
namespace L2
open PySem PySem.Spec PyProof.Rows
def small{n:Nat}(h:n<=100000):n<=sizeLine:=ME h (by rw[sizeLine_eq];decide)
section
variable {X:Cx}{K:aad}
def Gx(h:X.K=K):IxR X (yg K):=by subst h;exact HG
def HV(h:X.K=K):IxR X (tN K):=by subst h;exact Ky
def FH{c l:Expr}{b:TE}(h:X.K=K)(hl:PE X l b):PI X c l (zk K b):=by subst h;exact HY hl
def IE{c l:Expr}{b:TE}(h:X.K=K)(hl:PE X l b):PI X c l (KO K b):=by subst h;exact J1 hl
def DX(h:X.K=K):fR X (.builtin "len") (fun xs H Q=>∃p ys,xs=[.ref p]/\(SqL K H p ys\/SqT K H p ys)/\Q (.int ys.length) H):=by subst h;exact yi
def eI(h:X.K=K):fR X (.builtin "isinstance") (fun xs H Q=>∃x n t b,xs=[x,.ty n]/\ni K H x t/\PySem.W.kitOne K t (.type n)=some b/\Q (.bl b) H):=by subst h;exact zj
def cQ(h:X.K=K)(b:X.calm=true):fR X (.builtin "sum") (fun xs H Q=>∃(a:Addr) (ns:aab),xs=[.ref a]/\SqL K H a (ns.map V.int)/\Q (.int ns.sum) H):=by subst h;exact FU b
def dQ(h:X.K=K):fR X (.type "list") (fun xs H Q=>∃p ys,xs=[.ref p]/\(SqL K H p ys\/SqT K H p ys)/\∀l,H l=none->Q (.ref l) (upd H l (.lst ys))):=by subst h;exact xf
def p5(h:X.K=K):SlR X (Kn K):=by subst h;exact Ib
def AV(h:X.K=K):OpR X (compareOp .In) (rIn K false):=by subst h;exact DL
def qE(h:X.K=K):OpR X (compareOp .NotIn) (rIn K true):=by subst h;exact xi
def Ip{es:List Expr}{k:Nat}{t:TGs}{n:Nat}{e:Pos}(h:X.K=K)(b:X.calm=true)(ht:PGs X es t)
  (hn:(assignEach es X.env).length=n:=by rfl) (c:(assignEach es X.env).findIdx? (·.1)=none:=by rfl):PG X (.Tuple es k e) (HL K n t):=by subst h;exact JN b ht hn c
end
def pL{K:aad}{n:String}:PySem.W.kitOne K (.type n) (.type n)=some true:=by unfold PySem.W.kitOne;rw[if_pos (beq_self_eq_true _)]
end L2
namespace L2
open PySem PySem.Spec PyProof.Rows
def Fz(X:Cx)(f:Value)(ks:List Str)(r:List V->List V->Hp->VK->Prop):Prop :=
 ∀(b:List (Addr × Obj)) (s:Shared) (c:St) (H:Hp) (xs e:List V) (us ws:List Value) (Q:VK),Inv X b c H s->Vals xs us->Vals e ws->r xs e H Q ->
  wpAny (model X.prog X.w) X.A (call f us (ks.zip ws)) (EP X b c Q) X.xe s
section
variable {X:Cx}{x:Str}{p MK:Pos}{e:Expr}{es:List Expr}{Su:List Keyword}{t tk:TA}{id:String}{ks:List Str}{r:List V->List V->Hp->VK->Prop}
def Lp(r:List V->List V->Hp->VK->Prop)(t e:TA):TE:=fun b H Q=>t b H fun vs g=>e b g fun c f=>r vs c f Q
def Dk(v:Fz X (.builtin id) ks r)(q:Gl X x)(hm:X.mg x=none)(o:bootBuiltins x=some (.builtin id))(ha:PA X (e::es) t)(f:PK X Su tk)(z:(backToKw MK (keywordEach Su X.env)).filterMap (·.1)=ks:=by rfl)(hn:x≠"__name__":=by decide)(B:(x == ("__debug__" : Str))=false:=by decide)
  (u:backTo MK (starEach (e::es) X.env)=(false,eval e X.env)::backTo MK (starEach es X.env):=by rfl) (C:(backTo MK (starEach (e::es) X.env)).any (·.1)=false:=by rfl) (E:(backToKw MK (keywordEach Su X.env)).all (·.1.isSome)=true:=by rfl)
  (y:(backToKw MK (keywordEach Su X.env)).any (·.1.isNone)=false:=by rfl):PE X (.Call (.Name x p) (e::es) Su MK) (Lp r t tk):=by
 intro b s c H Q I h
 refine wpAny_Call_Name_kw (jz I q hm o ?_ hn B)
 refine callWith_kw (thn (ha MK b s c H _ I h) fun us j ⟨vs,L,G,m,n⟩=>?_) u C E y
 refine thn (f MK b j c L _ G n) fun ws i ⟨g,J,F,l,q2⟩=>?_
 rw[z]
 exact v b i c J vs g us ws Q F m l q2
end
section
variable {X:Cx}{K:aad}
theorem fZ:∀{us:List Value}{ns:aab},IntsAre us ns->Vals (ns.map V.int) us
 |_,_,.nil=>.nil
 |_,_,.cons n t h=>.cons ⟨t,rfl⟩ (fZ h)
def rS(x:X.K=K):Fz X (.builtin "sorted") ["reverse"] (fun xs f H Q=>∃(a:Addr) (ns:aab) (b:Bool),xs=[.ref a]/\f=[.bl b]/\SqL K H a (ns.map V.int)/\ns.length<64 /\
  ∀(l:Addr) (c:aab),H l=none->c.Perm ns->Ordered b c->Q (.ref l) (upd H l (.lst (c.map V.int)))):=by
 subst x
 intro i s C H xs f us ws Q I r m h
 obtain ⟨a,ns,b,rfl,rfl,v,E,q⟩:=h
 obtain ⟨u,rfl,p⟩:=vals1 r
 obtain ⟨j,rfl,z⟩:=vals1 m
 obtain rfl:u=Value.ref a:=p
 obtain rfl:j=Value.bool b:=z
 obtain ⟨B,g,pl,_⟩:=I.list v
 have hl:=g.length
 rw[mo] at hl
 refine sorted_ints_rev pl.isList (kg g) (by omega) fun out c a1 a2 y=>?_
 obtain ⟨n,t⟩:=sortedAll_at s.heap B out
 have hn:H (s.heap.objs.size+1)=none:=I.hok.fresh (Nu _)
 have F:=a2.length_eq
 refine⟨.ref (s.heap.objs.size+1),_,I.laid (t':=s.toks) (o:=.lst (c.map V.int)) (fun b o e=>sortedAll_old e) (Nu _) ⟨?_,out.toList,n,fZ a1,?_⟩,rfl,q _ c hn a2 y⟩
 .rw[mo];exact small (by omega)
 .exact t
end
section
end
section
end
end L2
namespace L2
open PySem PySem.Spec PyProof.Rows
def uL(ns:aab):aab:=ns.mergeSort fun a b=>decide (b<=a)
def gy(ns:aab):(uL ns).Perm ns:=List.mergeSort_perm ns _
def qM(ns:aab):(uL ns).Pairwise (·>=·):=by
 have h:=List.pairwise_mergeSort (le:=fun a b:Int=>decide (b<=a)) (fun a b c f e=>by simp only[decide_eq_true_eq] at *;omega) (fun a b=>by simp only[Bool.or_eq_true,decide_eq_true_eq];omega) ns
 exact h.imp fun h=>by simpa using h
def sv{b ns:aab}(c:b.Perm ns)(h:b.Pairwise (·>=·)):b=uL ns :=
 (c.trans (gy ns).symm).eq_of_pairwise (fun x y _ _ f e=>Int.le_antisymm e f) h (qM ns)
def qU(ns:aab):(uL ns).length=ns.length:=(gy ns).length_eq
end L2
namespace L3
open PySem L2
inductive D where
 |non|bl (b:Bool)|int (i:Int)|str (x:Str)|lst (ds:List D)|tup (ds:List D)|dic (kvs:List (Key × V))|dit (kvs:List (List Key × V))|scr (ns:aab)|pin (a:Addr) (d:D)|mem (φ:Int->aab->Int->Prop)|raw (w:V)|ins (C:Addr) (ns:List Str) (ds:List D)
def NT:HO->Prop|.tbl _=>False|_=>True
def zt:Str:="falling_places.<locals>.<lambda>"
def uZ(c:Addr):HO:=.ext fun h=>h.CodeRec (.ref c) zt
def TabAt(P:Addr)(H:Hp):Prop:=∃ps,H P=some (.tbl ps)/\TriplesOk ps.toList/\∀e b,codeAmong e ps.toList=some b->∃c,b=.ref c/\H c=some (uZ c)
structure Same(H H':Hp):Prop where
 st:∀b o,H b=some o->NT o->H' b=some o
 tb:∀b ps,H b=some (.tbl ps)->∃ps',H' b=some (.tbl ps')
 ti:∀P,TabAt P H->TabAt P H'
def Same.refl(H:Hp):Same H H:=⟨fun _ _ h _=>h,fun _ ps h=>⟨ps,h⟩,fun _ h=>h⟩
def Same.trans{H f e:Hp}(a:Same H f)(b:Same f e):Same H e:=⟨fun c o h n=>b.st c o (a.st c o h n) n,fun c ps h=>let ⟨_,h1⟩:=a.tb c ps h;b.tb c _ h1,fun P h=>b.ti P (a.ti P h)⟩
theorem Same.free{H H':Hp}(e:Same H H'){l:Addr}(h:H' l=Option.none):H l=Option.none:=by
 cases q:H l with
 |none=>rfl
 |some o =>
  by_cases n:NT o
  .rw[e.st l o q n] at h;cases h
  .cases o with
   |tbl ps=>obtain ⟨b,z⟩:=e.tb l ps q;rw[z] at h;cases h
   |_=>exact absurd trivial n
def Same.all{H H':Hp}(k:∀b u,H b=some u->H' b=some u):Same H H' :=
 ⟨fun b u e _=>k b u e,fun b ps e=>⟨ps,k b _ e⟩,fun P ⟨ps,e,g,f⟩=>⟨ps,k P _ e,g,fun i h z=>let ⟨c,z1,z2⟩:=f i h z;⟨c,z1,k c _ z2⟩⟩⟩
def Same.kR{H:Hp}{p:Addr}{o:HO}(h:H p=none):Same H (upd H p o):=Same.all fun b u e=>by rw[aG (aU e h)];exact e
def Same.seq{K:aad}{H H':Hp}{a:Addr}{xs:List V}(e:Same H H')(h:SqL K H a xs):SqL K H' a xs:=by
 rcases h with (h|⟨o,h⟩)|h
 .exact .inl (.inl (e.st _ _ h trivial))
 .exact .inl (.inr ⟨o,e.st _ _ h trivial⟩)
 .exact .inr h
def u0:Addr:=192
def gw(K:aad)(H:Hp):Prop:=TabAt u0 H
def gw.same{K:aad}{H H':Hp}(t:gw K H)(s:Same H H'):gw K H':=s.ti _ t
structure SB(K:aad)(B H:Hp):Prop extends Same B H where
 tv:gw K B
theorem SB.trans{K:aad}{B H H':Hp}(a:SB K B H)(s:Same H H'):SB K B H':=⟨a.toSame.trans s,a.tv⟩
def SB.now{K:aad}{B H:Hp}(a:SB K B H):gw K H:=a.tv.same a.toSame
instance {K:aad}{B H:Hp}:CoeOut (SB K B H) (Same B H):=⟨SB.toSame⟩
theorem SB.refl{K:aad}{H:Hp}(t:gw K H):SB K H H:=⟨Same.refl H,t⟩
def Kc(K:aad)(a:Addr)(xs:List V):Prop :=
 ∃(o:Obj) (b:Array Value) (n:Nat),K.lookup a=some o/\o.cls=.type "list"/\o.dict=none/\o.data=.seq b n/\b.size<=sizeLine/\Vals xs b.toList
def Sc(K:aad)(H:Hp)(a:Addr)(xs:List V):Prop:=(∃o,H a=some (.frz o (.lst xs)))\/Kc K a xs
def Sc.seq{K:aad}{H:Hp}{a:Addr}{xs:List V}(h:Sc K H a xs):SqL K H a xs:=h.elim (fun ⟨o,h⟩=>.inl (.inr ⟨o,h⟩)) .inr
def Im(o:HO):Prop:=(∃xs,o=.tup xs)\/(∃c u,o=.frz c u)\/∃b ks,o=.memo b ks
section
variable {K:aad}
mutual
def Rf(K:aad)(H:Hp):D->V->List Addr->Prop
 |.non,v,fp=>v=.non/\fp=[]
 |.bl b,v,fp=>v=.bl b/\fp=[]
 |.int i,v,fp=>v=.int i/\fp=[]
 |.str x,v,fp=>v=.str x/\fp=[]
 |.lst ds,v,fp=>∃a xs c,v=.ref a/\H a=some (.lst xs)/\fp=a::c/\Rfs K H ds xs c
 |.tup ds,v,fp=>∃a xs,v=.ref a/\H a=some (.tup xs)/\Rfs K H ds xs fp
 |.dic kvs,v,fp=>∃a,v=.ref a/\H a=some (.dK kvs)/\(∀p∈kvs,gu p.2=true)/\fp=[a]
 |.dit kvs,v,fp=>∃a,v=.ref a/\H a=some (.dT kvs)/\(∀p∈kvs,gu p.2=true)/\fp=[a]
 |.scr ns,v,fp=>∃a,v=.ref a/\Sc K H a (ns.map V.int)/\fp=[]
 |.pin a d,v,fp=>v=.ref a/\Rf K H d v fp
 |.mem g,v,fp=>∃a,v=.ref a/\H a=some (.memo g [])/\fp=[]
 |.raw w,v,fp=>v=w/\fp=[]
 |.ins C ns ds,v,fp=>∃a dx xs c,v=.ref a/\H a=some (.ins C dx (ns.zip xs))/\fp=a::c/\Rfs K H ds xs c
def Rfs(K:aad)(H:Hp):List D->List V->List Addr->Prop
 |[],xs,fp=>xs=[]/\fp=[]
 |d::ds,xs,fp=>∃x r f e,xs=x::r/\fp=f++e/\Rf K H d x f/\Rfs K H ds r e
end
def Rp(K:aad)(H:Hp)(d:D)(v:V):Prop:=∃fp,Rf K H d v fp
def Rps(K:aad)(H:Hp)(ds:List D)(vs:List V):Prop:=∃fp,Rfs K H ds vs fp
mutual
theorem Rf.mono{H H':Hp}:∀{d:D}{v:V}{fp:List Addr},Rf K H d v fp->(∀a∈fp,∀o,H a=some o->H' a=some o)->(∀a o,H a=some o->Im o->H' a=some o)->Rf K H' d v fp
 |.non,_,_,h,_,_=>h
 |.bl _,_,_,h,_,_=>h
 |.int _,_,_,h,_,_=>h
 |.str _,_,_,h,_,_=>h
 |.lst ds,v,fp,h,k,t=>by
  obtain ⟨a,xs,e,e1,e2,c,h⟩:=h
  subst c
  exact⟨a,xs,e,e1,k a Fk _ e2,rfl,Rfs.mono h (fun b hb=>k b (ox _ hb)) t⟩
 |.tup ds,v,fp,h,k,t=>by
  obtain ⟨a,xs,e1,e2,h⟩:=h
  exact⟨a,xs,e1,t a _ e2 (.inl ⟨_,rfl⟩),Rfs.mono h k t⟩
 |.dic kvs,v,fp,h,k,t=>by
  obtain ⟨a,e1,e2,c,f⟩:=h
  subst f
  exact⟨a,e1,k a Fk _ e2,c,rfl⟩
 |.dit kvs,v,fp,h,k,t=>by
  obtain ⟨a,e1,e2,c,f⟩:=h
  subst f
  exact⟨a,e1,k a Fk _ e2,c,rfl⟩
 |.scr ns,v,fp,h,k,t=>by
  obtain ⟨a,e1,e2,c⟩:=h
  refine⟨a,e1,?_,c⟩
  rcases e2 with ⟨o,e2⟩|e2
  .exact .inl ⟨o,t a _ e2 (.inr (.inl ⟨_,_,rfl⟩))⟩
  .exact .inr e2
 |.pin a d,v,fp,h,k,t=>⟨h.1,Rf.mono h.2 k t⟩
 |.mem m,v,fp,h,k,t=>by
  obtain ⟨a,e1,e2,c⟩:=h
  exact⟨a,e1,t a _ e2 (.inr (.inr ⟨_,_,rfl⟩)),c⟩
 |.raw _,_,_,h,_,_=>h
 |.ins C ns ds,v,fp,h,k,t=>by
  obtain ⟨a,dx,xs,e,e1,e2,c,h⟩:=h
  subst c
  exact⟨a,dx,xs,e,e1,k a Fk _ e2,rfl,Rfs.mono h (fun b hb=>k b (ox _ hb)) t⟩
theorem Rfs.mono{H H':Hp}:∀{ds:List D}{vs:List V}{fp:List Addr},Rfs K H ds vs fp->(∀a∈fp,∀o,H a=some o->H' a=some o)->(∀a o,H a=some o->Im o->H' a=some o)->Rfs K H' ds vs fp
 |[],_,_,h,_,_=>h
 |d::ds,vs,fp,h,k,t=>by
  obtain ⟨x,r,l,j,e1,e2,i,g⟩:=h
  subst e2
  exact⟨x,r,l,j,e1,rfl,Rf.mono i (fun b hb=>k b (Mg _ hb)) t,Rfs.mono g (fun b hb=>k b (L9 _ hb)) t⟩
end
mutual
theorem Rf.lL{H H':Hp}:∀{d:D}{v:V}{fp:List Addr},Rf K H d v fp->(∀a∈fp,∀o,H a=some o->NT o->H' a=some o)->(∀a o,H a=some o->Im o->H' a=some o)->Rf K H' d v fp
 |.non,_,_,h,_,_=>h
 |.bl _,_,_,h,_,_=>h
 |.int _,_,_,h,_,_=>h
 |.str _,_,_,h,_,_=>h
 |.lst ds,v,fp,h,k,t=>by
  obtain ⟨a,xs,e,e1,e2,c,h⟩:=h
  subst c
  exact⟨a,xs,e,e1,k a Fk _ e2 trivial,rfl,Rfs.lL h (fun b hb=>k b (ox _ hb)) t⟩
 |.tup ds,v,fp,h,k,t=>by
  obtain ⟨a,xs,e1,e2,h⟩:=h
  exact⟨a,xs,e1,t a _ e2 (.inl ⟨_,rfl⟩),Rfs.lL h k t⟩
 |.dic kvs,v,fp,h,k,t=>by
  obtain ⟨a,e1,e2,c,f⟩:=h
  subst f
  exact⟨a,e1,k a Fk _ e2 trivial,c,rfl⟩
 |.dit kvs,v,fp,h,k,t=>by
  obtain ⟨a,e1,e2,c,f⟩:=h
  subst f
  exact⟨a,e1,k a Fk _ e2 trivial,c,rfl⟩
 |.scr ns,v,fp,h,k,t=>by
  obtain ⟨a,e1,e2,c⟩:=h
  refine⟨a,e1,?_,c⟩
  rcases e2 with ⟨o,e2⟩|e2
  .exact .inl ⟨o,t a _ e2 (.inr (.inl ⟨_,_,rfl⟩))⟩
  .exact .inr e2
 |.pin a d,v,fp,h,k,t=>⟨h.1,Rf.lL h.2 k t⟩
 |.mem m,v,fp,h,k,t=>by
  obtain ⟨a,e1,e2,c⟩:=h
  exact⟨a,e1,t a _ e2 (.inr (.inr ⟨_,_,rfl⟩)),c⟩
 |.raw _,_,_,h,_,_=>h
 |.ins C ns ds,v,fp,h,k,t=>by
  obtain ⟨a,dx,xs,e,e1,e2,c,h⟩:=h
  subst c
  exact⟨a,dx,xs,e,e1,k a Fk _ e2 trivial,rfl,Rfs.lL h (fun b hb=>k b (ox _ hb)) t⟩
theorem Rfs.lL{H H':Hp}:∀{ds:List D}{vs:List V}{fp:List Addr},Rfs K H ds vs fp->(∀a∈fp,∀o,H a=some o->NT o->H' a=some o)->(∀a o,H a=some o->Im o->H' a=some o)->Rfs K H' ds vs fp
 |[],_,_,h,_,_=>h
 |d::ds,vs,fp,h,k,t=>by
  obtain ⟨x,r,l,j,e1,e2,i,g⟩:=h
  subst e2
  exact⟨x,r,l,j,e1,rfl,Rf.lL i (fun b hb=>k b (Mg _ hb)) t,Rfs.lL g (fun b hb=>k b (L9 _ hb)) t⟩
end
def Rf.same{H H':Hp}{d:D}{v:V}{fp:List Addr}(h:Rf K H d v fp)(s:Same H H'):Rf K H' d v fp:=h.lL (fun a _ o e n=>s.st a o e n) fun a o e i=>s.st a o e (by rcases i with ⟨_,rfl⟩|⟨_,_,rfl⟩|⟨_,_,rfl⟩<;>trivial)
def Rfs.same{H H':Hp}{d:List D}{v:List V}{fp:List Addr}(h:Rfs K H d v fp)(s:Same H H'):Rfs K H' d v fp:=h.lL (fun a _ o e n=>s.st a o e n) fun a o e i=>s.st a o e (by rcases i with ⟨_,rfl⟩|⟨_,_,rfl⟩|⟨_,_,rfl⟩<;>trivial)
theorem Rp.same{H H':Hp}{d:D}{v:V}(h:Rp K H d v)(s:Same H H'):Rp K H' d v:=let ⟨fp,h⟩:=h;⟨fp,h.same s⟩
theorem Rps.same{H H':Hp}{d:List D}{v:List V}(h:Rps K H d v)(s:Same H H'):Rps K H' d v:=let ⟨fp,h⟩:=h;⟨fp,h.same s⟩
mutual
theorem Rf.dom{H:Hp}:∀{d:D}{v:V}{fp:List Addr},Rf K H d v fp->∀a∈fp,∃o,H a=some o/\¬ Im o
 |.non,_,_,h,a,ha=>by obtain ⟨_,rfl⟩:=h;nomatch ha
 |.bl _,_,_,h,a,ha=>by obtain ⟨_,rfl⟩:=h;nomatch ha
 |.int _,_,_,h,a,ha=>by obtain ⟨_,rfl⟩:=h;nomatch ha
 |.str _,_,_,h,a,ha=>by obtain ⟨_,rfl⟩:=h;nomatch ha
 |.lst ds,v,fp,h,b,hb=>by
  obtain ⟨a,xs,j,e1,e2,c,h⟩:=h
  subst c
  rcases Mb.mp hb with e|hb
  .subst e;exact⟨_,e2,fun z=>by rcases z with ⟨_,z⟩|⟨_,_,z⟩|⟨_,_,z⟩<;>cases z⟩
  .exact Rfs.dom h b hb
 |.tup ds,v,fp,h,b,hb=>by
  obtain ⟨a,xs,e1,e2,h⟩:=h
  exact Rfs.dom h b hb
 |.dic kvs,v,fp,h,b,hb=>by
  obtain ⟨a,e1,e2,c,f⟩:=h
  subst f
  cases Gc.mp hb
  exact⟨_,e2,fun z=>by rcases z with ⟨_,z⟩|⟨_,_,z⟩|⟨_,_,z⟩<;>cases z⟩
 |.dit kvs,v,fp,h,b,hb=>by
  obtain ⟨a,e1,e2,c,f⟩:=h
  subst f
  cases Gc.mp hb
  exact⟨_,e2,fun z=>by rcases z with ⟨_,z⟩|⟨_,_,z⟩|⟨_,_,z⟩<;>cases z⟩
 |.scr ns,v,fp,h,b,hb=>by
  obtain ⟨a,e1,e2,c⟩:=h
  subst c;nomatch hb
 |.pin a d,v,fp,h,b,hb=>Rf.dom h.2 b hb
 |.mem l,v,fp,h,b,hb=>by
  obtain ⟨a,e1,e2,c⟩:=h
  subst c;nomatch hb
 |.raw _,_,_,h,a,ha=>by obtain ⟨_,rfl⟩:=h;nomatch ha
 |.ins C ns ds,v,fp,h,b,hb=>by
  obtain ⟨a,dx,xs,j,e1,e2,c,h⟩:=h
  subst c
  rcases Mb.mp hb with e|hb
  .subst e;exact⟨_,e2,fun z=>by rcases z with ⟨_,z⟩|⟨_,_,z⟩|⟨_,_,z⟩<;>cases z⟩
  .exact Rfs.dom h b hb
theorem Rfs.dom{H:Hp}:∀{ds:List D}{vs:List V}{fp:List Addr},Rfs K H ds vs fp->∀a∈fp,∃o,H a=some o/\¬ Im o
 |[],_,_,h,a,ha=>by obtain ⟨_,rfl⟩:=h;nomatch ha
 |d::ds,vs,fp,h,b,hb=>by
  obtain ⟨x,r,n,m,e1,e2,i,g⟩:=h
  subst e2
  rcases Mf.mp hb with hb|hb
  .exact Rf.dom i b hb
  .exact Rfs.dom g b hb
end
def Rfs.upd{H:Hp}{d:List D}{v:List V}{fp:List Addr}{l:Addr}{o:HO}(h:Rfs K H d v fp)(hl:l∉fp)(hm:∀o,H l=some o->¬ Im o):Rfs K (upd H l o) d v fp :=
 h.mono (fun a ha u e=>by rw[aG (fun z=>hl (by rw[<- z];exact ha))];exact e) fun a o e i=>by rw[aG (fun z=>hm o (by rw[<- z];exact e) i)];exact e
theorem Rfs.length{H:Hp}:∀{ds:List D}{vs:List V}{fp:List Addr},Rfs K H ds vs fp->vs.length=ds.length
 |[],_,_,h=>by obtain ⟨rfl,_⟩:=h;rfl
 |d::ds,vs,fp,h=>by
  obtain ⟨x,r,f,e,e1,e2,c,b⟩:=h
  subst e1
  rw[Me,Me,Rfs.length b]
theorem Rfs.append{H:Hp}:∀{ds es:List D}{vs ws:List V}{fp b:List Addr},Rfs K H ds vs fp->Rfs K H es ws b->Rfs K H (ds++es) (vs++ws) (fp++b)
 |[],es,vs,ws,fp,b,h,h'=>by obtain ⟨rfl,rfl⟩:=h;exact h'
 |d::ds,es,vs,ws,fp,b,h,h'=>by
  obtain ⟨x,r,g,f,rfl,rfl,e,c⟩:=h
  exact⟨x,r++ws,g,f++b,rfl,M0 ..,e,Rfs.append c h'⟩
def Rfs.one{H:Hp}{d:D}{v:V}{fp:List Addr}(h:Rf K H d v fp):Rfs K H [d] [v] fp:=⟨v,[],fp,[],rfl,(ML _).symm,h,rfl,rfl⟩
theorem Rfs.get{H:Hp}:∀{ds:List D}{vs:List V}{fp:List Addr}{i:Nat}{d:D},Rfs K H ds vs fp->ds[i]?=some d->∃v f,vs[i]?=some v/\Rf K H d v f/\(∀a∈f,a∈fp)
 |[],_,_,_,_,_,e=>by simp at e
 |d::ds,vs,fp,0,d',h,e=>by
  obtain ⟨x,r,g,l,rfl,rfl,c,b⟩:=h
  simp at e;subst e
  exact⟨x,g,rfl,c,fun a ha=>Mg _ ha⟩
 |d::ds,vs,fp,i+1,d',h,e=>by
  obtain ⟨x,r,g,l,rfl,rfl,c,b⟩:=h
  obtain ⟨v,f,e1,j,k⟩:=Rfs.get (i:=i) b (by simpa using e)
  exact⟨v,f,by simpa using e1,j,fun a ha=>L9 _ (k a ha)⟩
def Rfs.get'{H:Hp}{ds:List D}{vs:List V}{fp:List Addr}{i:Nat}{v:V}(h:Rfs K H ds vs fp)(e:vs[i]?=some v):∃d f,ds[i]?=some d/\Rf K H d v f/\(∀a∈f,a∈fp):=by
 have hl:=h.length
 obtain ⟨hi,_⟩:=Ma.mp e
 have b:i<ds.length:=by omega
 obtain ⟨g,f,e1,c,k⟩:=h.get (d:=ds[i]) (dz b)
 rw[e] at e1;cases e1
 exact⟨ds[i],f,dz b,c,k⟩
def D.aP:D->Bool
 |.non=>true|.bl _=>true|.int _=>true|.str _=>true|_=>false
def D.toV:D->V
 |.non=>.non|.bl b=>.bl b|.int i=>.int i|.str x=>.str x|_=>.non
theorem Rf.aP{H:Hp}{d:D}{v:V}{fp:List Addr}(h:Rf K H d v fp)(s:d.aP=true):v=d.toV/\fp=[]:=by
 cases d<;>first|exact h|cases s
def Rf.oB{H:Hp}{d:D}(s:d.aP=true):Rf K H d d.toV []:=by
 cases d<;>first|exact⟨rfl,rfl⟩|cases s
theorem Rp.int{H:Hp}{i:Int}{v:V}(h:Rp K H (.int i) v):v=.int i:=h.choose_spec.1
theorem Rp.bl{H:Hp}{i:Bool}{v:V}(h:Rp K H (.bl i) v):v=.bl i:=h.choose_spec.1
theorem Rfs.jf{H:Hp}:∀{ds:List D}{vs:List V}{fp:List Addr},Rfs K H ds vs fp->ds.all D.aP=true->vs=ds.map D.toV/\fp=[]
 |[],vs,fp,h,_=>h
 |d::ds,vs,fp,h,s=>by
  obtain ⟨x,r,f,e,rfl,rfl,c,b⟩:=h
  simp only[List.all_cons,Ng] at s
  obtain ⟨rfl,rfl⟩:=c.aP s.1
  obtain ⟨rfl,rfl⟩:=Rfs.jf b s.2
  exact⟨rfl,rfl⟩
theorem Rfs.pG{H:Hp}:∀{ds:List D},ds.all D.aP=true->Rfs K H ds (ds.map D.toV) []
 |[],_=>⟨rfl,rfl⟩
 |d::ds,s=>by
  simp only[List.all_cons,Ng] at s
  exact⟨_,_,[],[],rfl,rfl,Rf.oB s.1,Rfs.pG s.2⟩
def D.items:D->Option (List D)
 |.lst ds=>some ds|.scr ns=>some (ns.map D.int)|_=>none
theorem Rfs.ofInts{H:Hp}:∀{ns:aab},Rfs K H (ns.map D.int) (ns.map V.int) []
 |[]=>⟨rfl,rfl⟩
 |n::ns=>⟨_,_,[],[],rfl,rfl,⟨rfl,rfl⟩,Rfs.ofInts⟩
theorem Rf.seq{H:Hp}{d:D}{ds:List D}{v:V}{fp:List Addr}(h:Rf K H d v fp)(e:d.items=some ds):∃a xs c,v=.ref a/\SqL K H a xs/\Rfs K H ds xs c/\∀b∈c,b∈fp:=by
 cases d with
 |lst es =>
  cases e
  obtain ⟨a,xs,c,e1,e2,rfl,h⟩:=h
  exact⟨a,xs,c,e1,.inl (.inl e2),h,fun b hb=>ox _ hb⟩
 |scr ns =>
  cases e
  obtain ⟨a,e1,e2,f⟩:=h
  exact⟨a,_,[],e1,e2.seq,Rfs.ofInts,fun b hb=>nomatch hb⟩
 |_=>cases e
theorem Rp.seq{H:Hp}{d:D}{ds:List D}{v:V}(h:Rp K H d v)(e:d.items=some ds):∃a xs b,v=.ref a/\SqL K H a xs/\Rfs K H ds xs b :=
 let ⟨_,h⟩:=h;let ⟨a,xs,b,h1,h2,h3,_⟩:=h.seq e;⟨a,xs,b,h1,h2,h3⟩
theorem Rp.tup{H:Hp}{ds:List D}{v:V}(h:Rp K H (.tup ds) v):∃a xs b,v=.ref a/\SqT K H a xs/\Rfs K H ds xs b:=by
 obtain ⟨fp,a,xs,e1,e2,h⟩:=h
 exact⟨a,xs,fp,e1,.inl (.inl e2),h⟩
def Mu(H:Hp)(a:Addr):Prop:=(∃xs,H a=some (.lst xs))\/(∃kvs,H a=some (.dK kvs))\/(∃kvs,H a=some (.dT kvs))\/∃C dx fs,H a=some (.ins C dx fs)
def Mu.same{H H':Hp}{a:Addr}(h:Mu H a)(s:Same H H'):Mu H' a:=by
 rcases h with ⟨x,h⟩|⟨x,h⟩|⟨x,h⟩|⟨C,dx,fs,h⟩
 .exact .inl ⟨x,s.st _ _ h trivial⟩
 .exact .inr (.inl ⟨x,s.st _ _ h trivial⟩)
 .exact .inr (.inr (.inl ⟨x,s.st _ _ h trivial⟩))
 .exact .inr (.inr (.inr ⟨C,dx,fs,s.st _ _ h trivial⟩))
def Mu.some{H:Hp}{a:Addr}(h:Mu H a):H a≠none:=by
 rcases h with ⟨x,h⟩|⟨x,h⟩|⟨x,h⟩|⟨C,dx,fs,h⟩<;>rw[h]<;>intro z<;>cases z
def Mu.lM{H:Hp}{a:Addr}(h:Mu H a):∀o,H a=Option.some o->¬ Im o:=by
 rcases h with ⟨x,h⟩|⟨x,h⟩|⟨x,h⟩|⟨C,dx,fs,h⟩<;>rw[h]<;>intro o e z<;>cases e<;>rcases z with ⟨_,z⟩|⟨_,_,z⟩|⟨_,_,z⟩<;>cases z
def Mu.upd{H:Hp}{a l:Addr}{o:HO}(h:Mu H a)(b:(∃xs,o=.lst xs)\/(∃xs,o=.dK xs)\/(∃xs,o=.dT xs)\/∃C dx fs,o=.ins C dx fs):Mu (upd H l o) a:=by
 by_cases e:a=l
 .subst e
  rcases b with ⟨xs,rfl⟩|⟨xs,rfl⟩|⟨xs,rfl⟩|⟨C,dx,fs,rfl⟩
  .exact .inl ⟨xs,az⟩
  .exact .inr (.inl ⟨xs,az⟩)
  .exact .inr (.inr (.inl ⟨xs,az⟩))
  .exact .inr (.inr (.inr ⟨C,dx,fs,az⟩))
 .unfold Mu
  rw[aG e]
  exact h
abbrev Dl:=List (Option D)
structure Ok(K:aad)(B0:Hp)(Γ:aac)(fps:Nat->List Addr)(δ:Dl)(σ:St)(H:Hp):Prop where
 len:σ.length=δ.length
 b0:SB K B0 H
 val:∀i d,δ[i]?=some (some d)->∃v,σ[i]?=some (some v)/\Rf K H d v (fps i)
 non:∀i,(∀d,δ[i]?≠some (some d))->fps i=[]
 own:∀i∈Γ,(fps i).Nodup/\∀a∈fps i,B0 a=none/\Mu H a
 dj:∀i∈Γ,∀j,j≠i->∀a∈fps i,a∉fps j
variable {B0:Hp}{Γ:aac}{fps:Nat->List Addr}{δ:Dl}{σ:St}{H H':Hp}
theorem Ok.same(o:Ok K B0 Γ fps δ σ H)(s:Same H H'):Ok K B0 Γ fps δ σ H' :=
 ⟨o.len,o.b0.trans s,fun i d e=>let ⟨v,h1,h2⟩:=o.val i d e;⟨v,h1,h2.same s⟩,o.non,fun i hi=>⟨(o.own i hi).1,fun a ha=>⟨((o.own i hi).2 a ha).1,((o.own i hi).2 a ha).2.same s⟩⟩,o.dj⟩
def Ok.sub{Γ':aac}(o:Ok K B0 Γ fps δ σ H)(h:∀i∈Γ',i∈Γ):Ok K B0 Γ' fps δ σ H :=
 ⟨o.len,o.b0,o.val,o.non,fun i hi=>o.own i (h i hi),fun i hi=>o.dj i (h i hi)⟩
theorem Ok.dom(o:Ok K B0 Γ fps δ σ H){i:Nat}{a:Addr}(h:a∈fps i):H a≠none:=by
 by_cases e:∃d,δ[i]?=some (some d)
 .obtain ⟨d,e⟩:=e
  obtain ⟨v,_,r⟩:=o.val i d e
  obtain ⟨u,b,_⟩:=r.dom a h
  rw[b];intro z;cases z
 .rw[o.non i (fun d z=>e ⟨d,z⟩)] at h
  nomatch h
structure Nw(H H':Hp)(fps:Nat->List Addr)(M:aac)(fp:List Addr):Prop where
 nd:fp.Nodup
 mu:∀a∈fp,Mu H' a
 src:∀a∈fp,H a=none\/∃j∈M,a∈fps j
def Nw.nil{M:aac}:Nw H H' fps M []:=⟨Nb,fun _ h=>(nomatch h),fun _ h=>(nomatch h)⟩
def Nw.later{b:Hp}{M:aac}{fp:List Addr}(n:Nw b H' fps M fp)(s:Same H b):Nw H H' fps M fp :=
 ⟨n.nd,n.mu,fun a ha=>(n.src a ha).elim (fun z=>.inl (s.free z)) .inr⟩
theorem Nw.same{b:Hp}{M:aac}{fp:List Addr}(n:Nw H H' fps M fp)(s:Same H' b):Nw H b fps M fp:=⟨n.nd,fun a ha=>(n.mu a ha).same s,n.src⟩
def Nw.any{b:Nat->List Addr}{fp:List Addr}(n:Nw H H' fps [] fp):Nw H H' b [] fp:=⟨n.nd,n.mu,fun a ha=>(n.src a ha).elim .inl fun ⟨_,h,_⟩=>nomatch h⟩
def Nw.fresh{fp:List Addr}(n:Nw H H' fps [] fp):∀a∈fp,H a=none:=fun a ha=>(n.src a ha).elim id fun ⟨_,h,_⟩=>nomatch h
def kill(M:aac)(δ:Dl):Dl:=M.foldl (fun δ j=>δ.set j none) δ
theorem hV:∀{M:aac}{δ:Dl},(kill M δ).length=δ.length
 |[],_=>rfl
 |j::M,δ=>by rw[kill,List.foldl_cons];exact (hV (M:=M)).trans (by simp)
theorem sW:∀{M:aac}{δ:Dl}{i:Nat}{d:D},(kill M δ)[i]?=some (some d)↔i∉M/\δ[i]?=some (some d)
 |[],_,_,_=>by simp [kill]
 |j::M,δ,i,d=>by
  rw[kill,List.foldl_cons]
  have:=sW (M:=M) (δ:=δ.set j none) (i:=i) (d:=d)
  rw[kill] at this
  rw[this,Mb]
  by_cases e:i=j
  .subst e
   simp [MU]
  .rw[KE (MI e)]
   simp [e]
def minus(b M:aac):aac:=b.filter fun i=>!M.contains i
def bz{b M:aac}{i:Nat}:i∈minus b M↔i∈b/\i∉M:=by
 unfold minus
 rw[M7]
 simp
def Ok.kill(o:Ok K B0 Γ fps δ σ H)(M:aac):Ok K B0 (minus Γ M) (fun i=>if i∈M then [] else fps i) (kill M δ) σ H:=by
 refine⟨by rw[hV];exact o.len,o.b0,fun i d e=>?_,fun i e=>?_,fun i hi=>?_,fun i hi j hj a ha=>?_⟩
 .obtain ⟨c,b⟩:=sW.mp e
  rw[if_neg c]
  exact o.val i d b
 .by_cases h:i∈M
  .rw[if_pos h]
  .rw[if_neg h]
   exact o.non i fun d z=>e d (sW.mpr ⟨h,z⟩)
 .obtain ⟨c,b⟩:=bz.mp hi
  rw[if_neg b]
  exact o.own i c
 .obtain ⟨c,b⟩:=bz.mp hi
  rw[if_neg b] at ha
  by_cases h:j∈M
  .rw[if_pos h];exact Mr
  .rw[if_neg h];exact o.dj i c j hj a ha
def Ok.Jp{M:aac}{x:D}{v:V}{fp:List Addr}(o:Ok K B0 Γ fps δ σ H)(i:Nat)(f:∀j∈M,j∈Γ)(s:Same H H')(r:Rf K H' x v fp)(n:Nw H H' fps M fp) :
  Ok K B0 (i::minus (minus Γ M) [i]) (fun j=>if j=i then (if i<δ.length then fp else []) else if j∈M then [] else fps j) ((L3.kill M δ).set i (some x)) (σ.set i (some v)) H':=by
 have ok:=(o.kill M).same s
 have g:∀a∈fp,∀j,j∉M->a∉fps j:=fun a ha j hj z=>by
  rcases n.src a ha with e|⟨k,b,e⟩
  .exact o.dom z e
  .exact o.dj k (f k b) j (fun q=>hj (by rw[q];exact b)) a e z
 refine⟨by simp [hV,o.len],ok.b0,fun j d e=>?_,fun j e=>?_,fun j hj=>?_,fun j hj k b a ha=>?_⟩
 .by_cases h:j=i
  .subst h
   rw[MU] at e
   simp only[hV] at e
   by_cases hl:j<δ.length
   .simp [hl] at e
    subst e
    refine⟨v,?_,?_⟩
    .rw[MU];simp [o.len,hl]
    .rw[if_pos rfl,if_pos hl];exact r
   .simp [hl] at e
  .rw[KE (MI h)] at e
   rw[KE (MI h),if_neg h]
   exact ok.val j d e
 .by_cases h:j=i
  .subst h
   rw[if_pos rfl]
   by_cases hl:j<δ.length
   .exact absurd (by rw[MU];simp [hV,hl]) (e x)
   .rw[if_neg hl]
  .rw[if_neg h]
   exact ok.non j fun d z=>e d (by rw[KE (MI h)];exact z)
 .by_cases h:j=i
  .subst h
   rw[if_pos rfl]
   split
   .refine⟨n.nd,fun a ha=>⟨?_,n.mu a ha⟩⟩
    rcases n.src a ha with e|⟨k,b,e⟩
    .exact o.b0.free e
    .exact ((o.own k (f k b)).2 a e).1
   .exact⟨Nb,fun _ z=>nomatch z⟩
  .rw[if_neg h]
   rcases Mb.mp hj with z|hj
   .exact absurd z h
   .exact ok.own j (bz.mp hj).1
 .by_cases h:j=i
  .subst h
   rw[if_pos rfl] at ha
   rw[if_neg b]
   split at ha
   .by_cases hm:k∈M
    .rw[if_pos hm];exact Mr
    .rw[if_neg hm];exact g a ha k hm
   .nomatch ha
  .rcases Mb.mp hj with z|hj
   .exact absurd z h
   rw[if_neg h] at ha
   have c:=bz.mp (bz.mp hj).1
   rw[if_neg c.2] at ha
   by_cases l:k=i
   .rw[if_pos l]
    split
    .exact fun z=>g a z j c.2 ha
    .exact Mr
   .rw[if_neg l]
    split
    .exact Mr
    .exact o.dj j c.1 k b a ha
def Ok.yS{x:D}{v:V}{fp:List Addr}(o:Ok K B0 Γ fps δ σ H)(i:Nat)(s:Same H H')(r:Rf K H' x v fp)(n:∀j∈Γ,∀a∈fp,a∉fps j) :
  Ok K B0 (minus Γ [i]) (fun j=>if j=i then (if i<δ.length then fp else []) else fps j) (δ.set i (some x)) (σ.set i (some v)) H':=by
 have ok:=o.same s
 refine⟨by simp [o.len],ok.b0,fun j d e=>?_,fun j e=>?_,fun j hj=>?_,fun j hj k g a ha=>?_⟩
 .by_cases h:j=i
  .subst h
   rw[MU] at e
   by_cases hl:j<δ.length
   .simp [hl] at e
    subst e
    refine⟨v,?_,?_⟩
    .rw[MU];simp [o.len,hl]
    .rw[if_pos rfl,if_pos hl];exact r
   .simp [hl] at e
  .rw[KE (MI h)] at e
   rw[KE (MI h),if_neg h]
   exact ok.val j d e
 .by_cases h:j=i
  .subst h
   rw[if_pos rfl]
   by_cases hl:j<δ.length
   .exact absurd (by rw[MU];simp [hl]) (e x)
   .rw[if_neg hl]
  .rw[if_neg h]
   exact ok.non j fun d z=>e d (by rw[KE (MI h)];exact z)
 .obtain ⟨b,c⟩:=bz.mp hj
  rw[if_neg (fun z=>c (by rw[z];exact Gc.mpr rfl))]
  exact ok.own j b
 .obtain ⟨b,c⟩:=bz.mp hj
  rw[if_neg (fun z=>c (by rw[z];exact Gc.mpr rfl))] at ha
  by_cases f:k=i
  .rw[if_pos f]
   split
   .exact fun z=>n j b a z ha
   .exact Mr
  .rw[if_neg f]
   exact o.dj j b k g a ha
def xg{H:Hp}{c:Addr}(h:H c=some (uZ c)):¬ Mu H c:=by
 rintro (⟨x,z⟩|⟨x,z⟩|⟨x,z⟩|⟨C,dx,fs,z⟩)<;>rw[h] at z<;>cases z
def SB.keep{fp:List Addr}(b:SB K B0 H)(n:∀a∈fp,B0 a=none/\Mu H a)(keep:∀b u,b∉fp->H b=some u->H' b=some u):SB K B0 H':=by
 have nb:∀{c u},B0 c=some u->c∉fp:=fun {c u} e z=>by have:=(n c z).1;rw[e] at this;cases this
 refine⟨⟨fun c u e x=>keep c u (nb e) (b.st c u e x),fun c ps e=>let ⟨ps',z⟩:=b.tb c ps e;⟨ps',keep c _ (nb e) z⟩,fun P t=>?_⟩,b.tv⟩
 obtain ⟨l,h,_⟩:=id t
 obtain ⟨ps,e,g,f⟩:=b.ti P t
 exact⟨ps,keep P _ (nb h) e,g,fun j i z=>let ⟨c,z1,z2⟩:=f j i z;⟨c,z1,keep c _ (fun y=>xg z2 (n c y).2) z2⟩⟩
def Ok.rebase(o:Ok K B0 Γ fps δ σ H):∃g,Same B0 g/\Ok K g Γ fps δ σ H/\(∀a,(∀j∈Γ,a∉fps j)->g a=H a):=by
 have key:∀b u,B0 b=some u->¬ ∃j∈Γ,b∈fps j:=fun b u e ⟨j,hj,hb⟩=>by
  have:=((o.own j hj).2 b hb).1
  rw[e] at this;cases this
 have m:Same B0 (fun a=>if (∃j∈Γ,a∈fps j) then none else H a):=⟨fun b u e n=>by
   show (if _ then _ else _)=_
   rw[if_neg (key b u e)]
   exact o.b0.st b u e n,fun b ps e=>by
   obtain ⟨f,z⟩:=o.b0.tb b ps e
   refine⟨f,?_⟩
   show (if _ then _ else _)=_
   rw[if_neg (key b _ e)];exact z,fun P t=>by
   obtain ⟨C,x,_⟩:=id t
   obtain ⟨ps,e,v,s⟩:=o.b0.ti P t
   refine⟨ps,?_,v,fun B y z=>?_⟩
   .show (if _ then _ else _)=_
    rw[if_neg (key P _ x)];exact e
   .obtain ⟨c,p,l⟩:=s B y z
    refine⟨c,p,?_⟩
    show (if _ then _ else _)=_
    rw[if_neg (fun ⟨j,hj,r⟩=>xg l ((o.own j hj).2 c r).2)];exact l⟩
 have q:Same (fun a=>if (∃j∈Γ,a∈fps j) then none else H a) H:=Same.all fun b u e=>by
  by_cases z:∃j∈Γ,b∈fps j
  .simp only[if_pos z] at e;cases e
  .simp only[if_neg z] at e;exact e
 refine⟨fun a=>if (∃j∈Γ,a∈fps j) then none else H a,m,⟨o.len,⟨q,o.b0.tv.same m⟩,o.val,o.non,fun i hi=>⟨(o.own i hi).1,fun a ha=>⟨?_,((o.own i hi).2 a ha).2⟩⟩,o.dj⟩,fun a h=>?_⟩
 .show (if _ then _ else _)=_
  rw[if_pos ⟨i,hi,ha⟩]
 .show (if _ then _ else _)=_
  rw[if_neg (fun ⟨j,hj,z⟩=>h j hj z)]
def Ok.base{b:Hp}(o:Ok K b Γ fps δ σ H)(s:Same B0 b)(t:gw K B0):Ok K B0 Γ fps δ σ H :=
 ⟨o.len,⟨s.trans o.b0.toSame,t⟩,o.val,o.non,fun i hi=>⟨(o.own i hi).1,fun a ha=>⟨s.free ((o.own i hi).2 a ha).1,((o.own i hi).2 a ha).2⟩⟩,o.dj⟩
end
end L3
namespace L3
open PySem L2
abbrev DK:=D->Prop
abbrev DE:=Dl->DK->Prop
abbrev DT:=Dl->(Bool->Prop)->Prop
abbrev DA:=Dl->(List D->Prop)->Prop
structure ER(K:aad)(Γ:aac)(t:TE)(d:DE):Prop where
 mono:∀δ (P P':DK),(∀x,P x->P' x)->d δ P->d δ P'
 run:∀{B0 fps δ σ H Q},Ok K B0 Γ fps δ σ H->d δ (fun x=>∀v H',Same H H'->Rp K H' x v->Q v H')->t σ H Q
structure ES(K:aad)(Γ:aac)(t:TE)(d:DE):Prop where
 mono:∀δ (P P':DK),(∀x,P x->P' x)->d δ P->d δ P'
 run:∀{B0 fps δ σ H Q},Ok K B0 Γ fps δ σ H->d δ (fun x=>∀v H' fp,Same H H'->Rf K H' x v fp->(∀j∈Γ,∀a∈fp,a∉fps j)->Q v H')->t σ H Q
structure EM(K:aad)(Γ M:aac)(t:TE)(d:DE):Prop where
 mono:∀δ (P P':DK),(∀x,P x->P' x)->d δ P->d δ P'
 run:∀{B0 fps δ σ H Q},Ok K B0 Γ fps δ σ H->d δ (fun x=>∀v H' fp,Same H H'->Rf K H' x v fp->Nw H H' fps M fp->Q v H')->t σ H Q
structure TR(K:aad)(Γ:aac)(t:TT)(d:DT):Prop where
 mono:∀δ (P P':Bool->Prop),(∀x,P x->P' x)->d δ P->d δ P'
 run:∀{B0 fps δ σ H Q},Ok K B0 Γ fps δ σ H->d δ (fun b=>∀H',Same H H'->Q b H')->t σ H Q
structure AR(K:aad)(Γ:aac)(t:TA)(d:DA):Prop where
 mono:∀δ (P P':List D->Prop),(∀x,P x->P' x)->d δ P->d δ P'
 run:∀{B0 fps δ σ H Q},Ok K B0 Γ fps δ σ H->d δ (fun xs=>∀vs H',Same H H'->Rps K H' xs vs->Q vs H')->t σ H Q
structure AS(K:aad)(Γ:aac)(t:TA)(d:DA):Prop where
 mono:∀δ (P P':List D->Prop),(∀x,P x->P' x)->d δ P->d δ P'
 run:∀{B0 fps δ σ H Q},Ok K B0 Γ fps δ σ H->d δ (fun xs=>∀vs H' fp,Same H H'->Rfs K H' xs vs fp->(∀j∈Γ,∀a∈fp,a∉fps j)->Q vs H')->t σ H Q
structure AM(K:aad)(Γ M:aac)(t:TA)(d:DA):Prop where
 mono:∀δ (P P':List D->Prop),(∀x,P x->P' x)->d δ P->d δ P'
 run:∀{B0 fps δ σ H Q},Ok K B0 Γ fps δ σ H->d δ (fun xs=>∀vs H' fp,Same H H'->Rfs K H' xs vs fp->Nw H H' fps M fp->Q vs H')->t σ H Q
section
variable {K:aad}{Γ M:aac}{t ta tb tc:TE}{d da db dc:DE}
def EM.es(h:EM K Γ [] t d):ES K Γ t d:=⟨h.mono,fun o q=>h.run o (h.mono _ _ _ (fun x z v H' fp s r n=>z v H' fp s r fun j _ a ha y=>o.dom y (n.fresh a ha)) q)⟩
def ES.er(h:ES K Γ t d):ER K Γ t d:=⟨h.mono,fun o q=>h.run o (h.mono _ _ _ (fun x z v H' fp s r n=>z v H' s ⟨fp,r⟩) q)⟩
def EM.er(h:EM K Γ M t d):ER K Γ t d:=⟨h.mono,fun o q=>h.run o (h.mono _ _ _ (fun x z v H' fp s r n=>z v H' s ⟨fp,r⟩) q)⟩
def CD(d:DE)(δ:Dl)(P:DK):Prop:=d δ fun x=>x.aP=true/\P x
theorem ER.aP(h:ER K Γ t d):EM K Γ [] t (CD d):=⟨fun δ P b k q=>h.mono _ _ _ (fun x z=>⟨z.1,k x z.2⟩) q,fun o q=>h.run o (h.mono _ _ _ (fun x z v H' s r=>by
 obtain ⟨fp,r⟩:=r
 obtain ⟨_,rfl⟩:=r.aP z.1
 exact z.2 v H' [] s r Nw.nil) q)⟩
def mn(i:Nat)(δ:Dl)(P:DK):Prop:=match δ[i]? with|some (some d)=>P d|_=>False
def ib{i:Nat}{δ:Dl}{P:DK}(h:mn i δ P):∃d,δ[i]?=some (some d)/\P d:=by
 unfold mn at h
 split at h
 .exact⟨_,by assumption,h⟩
 .exact h.elim
def qf{i:Nat}:∀δ (P b:DK),(∀x,P x->b x)->mn i δ P->mn i δ b:=fun δ P b k h=>by
 unfold mn at h ⊢
 split
 .rename_i e;rw[e] at h;exact k _ h
 .rename_i e;revert h;split
  .rename_i c;exact absurd c (e _)
  .exact id
def dY(i:Nat):ER K Γ (b7 i) (mn i):=⟨qf,fun {B0 fps δ b H Q} o q=>by
 obtain ⟨d,e,q⟩:=ib q
 obtain ⟨v,e1,r⟩:=o.val i d e
 exact⟨v,e1,q v H (Same.refl H) ⟨_,r⟩⟩⟩
def af(i:Nat)(h:i∉Γ:=by decide):ES K Γ (b7 i) (mn i):=⟨qf,fun {B0 fps δ b H Q} o q=>by
 obtain ⟨d,e,q⟩:=ib q
 obtain ⟨v,e1,r⟩:=o.val i d e
 exact⟨v,e1,q v H _ (Same.refl H) r fun j hj a ha z=>o.dj j hj i (fun y=>h (by rw[y];exact hj)) a z ha⟩⟩
def gf(i:Nat)(h:i∈Γ:=by decide):EM K Γ [i] (b7 i) (mn i):=⟨qf,fun {B0 fps δ b H Q} o q=>by
 obtain ⟨d,e,q⟩:=ib q
 obtain ⟨v,e1,r⟩:=o.val i d e
 exact⟨v,e1,q v H _ (Same.refl H) r ⟨(o.own i h).1,fun a ha=>((o.own i h).2 a ha).2,fun a ha=>.inr ⟨i,Gc.mpr rfl,ha⟩⟩⟩⟩
def vC(d:D)(b:Dl)(P:DK):Prop:=P d
def ar{i:Int}:EM K Γ [] (tC (.int i)) (vC (.int i)):=⟨fun _ _ _ k h=>k _ h,fun {_ _ _ _ H _} _ q=>q _ H [] (Same.refl H) ⟨rfl,rfl⟩ Nw.nil⟩
def iE{i:Bool}:EM K Γ [] (tC (.bl i)) (vC (.bl i)):=⟨fun _ _ _ k h=>k _ h,fun {_ _ _ _ H _} _ q=>q _ H [] (Same.refl H) ⟨rfl,rfl⟩ Nw.nil⟩
def cS{i:Str}:EM K Γ [] (tC (.str i)) (vC (.str i)):=⟨fun _ _ _ k h=>k _ h,fun {_ _ _ _ H _} _ q=>q _ H [] (Same.refl H) ⟨rfl,rfl⟩ Nw.nil⟩
def lx:EM K Γ [] (tC .non) (vC .non):=⟨fun _ _ _ k h=>k _ h,fun {_ _ _ _ H _} _ q=>q _ H [] (Same.refl H) ⟨rfl,rfl⟩ Nw.nil⟩
abbrev D2:=D->D->DK->Prop
abbrev nf:Nat->List Addr:=fun _=>[]
structure OpV(K:aad)(r:R2)(rv:D2):Prop where
 mono:∀x y (P P':DK),(∀z,P z->P' z)->rv x y P->rv x y P'
 run:∀{H x y v w Q},Rp K H x v->Rp K H y w->rv x y (fun z=>∀u H' fp,Same H H'->Rf K H' z u fp->Nw H H' nf [] fp->Q u H')->r v w H Q
def vOp(b:D2)(e c:DE)(δ:Dl)(P:DK):Prop:=e δ fun x=>c δ fun y=>b x y P
def ay{r:R2}{f:D2}(e:OpV K r f)(ha:ER K Γ ta da)(hb:ER K Γ tb db):EM K Γ [] (tOp r ta tb) (vOp f da db) :=
 ⟨fun δ P l k h=>ha.mono _ _ _ (fun x z=>hb.mono _ _ _ (fun y z=>e.mono x y _ _ k z) z) h,
 fun o q=>ha.run o (ha.mono _ _ _ (fun x z v p c j=>hb.run (o.same c) (hb.mono _ _ _ (fun y z w m b i=>e.run (j.same b) i (e.mono _ _ _ _ (fun u z g H' fp s r n=>z g H' fp ((c.trans b).trans s) r (n.any.later (c.trans b))) z)) z)) q)⟩
abbrev D1:=D->DK->Prop
structure UnV(K:aad)(r:V->Hp->VK->Prop)(rv:D1):Prop where
 mono:∀x (P P':DK),(∀z,P z->P' z)->rv x P->rv x P'
 run:∀{H x v Q},Rp K H x v->rv x (fun z=>∀u H' fp,Same H H'->Rf K H' z u fp->Nw H H' nf [] fp->Q u H')->r v H Q
def vUn(b:D1)(c:DE)(δ:Dl)(P:DK):Prop:=c δ fun x=>b x P
def Cv{r:V->Hp->VK->Prop}{e:D1}(b:UnV K r e)(ha:ER K Γ ta da):EM K Γ [] (tUn r ta) (vUn e da) :=
 ⟨fun δ P i k h=>ha.mono _ _ _ (fun x z=>b.mono x _ _ k z) h,
 fun o q=>ha.run o (ha.mono _ _ _ (fun x z v j c g=>b.run g (b.mono _ _ _ (fun u z f H' fp s r n=>z f H' fp (c.trans s) r (n.any.later c)) z)) q)⟩
def vI0(g:Int->Int->D)(x:D)(y:D)(P:DK):Prop:=match x,y with|.int i,.int j=>P (g i j)|_,_=>False
def vI(C:Int->Int->Prop)(g:Int->Int->D)(x:D)(y:D)(P:DK):Prop:=match x,y with|.int i,.int j=>C i j/\P (g i j)|_,_=>False
def vU(g:Int->D)(x:D)(P:DK):Prop:=match x with|.int i=>P (g i)|_=>False
def Fe{g:Int->Int->D}:∀x y (P b:DK),(∀z,P z->b z)->vI0 g x y P->vI0 g x y b:=fun x y P b k h=>by
 unfold vI0 at h ⊢;revert h;split<;>first|exact k _|exact id
def IF{C:Int->Int->Prop}{g:Int->Int->D}:∀x y (P b:DK),(∀z,P z->b z)->vI C g x y P->vI C g x y b:=fun x y P b k h=>by
 unfold vI at h ⊢;revert h;split<;>first|exact fun h=>⟨h.1,k _ h.2⟩|exact id
def C0{f:Int->Int->V}{g:Int->Int->D}(b:∀i j,(g i j).aP=true/\(g i j).toV=f i j):OpV K (rI0 f) (vI0 g):=⟨Fe,fun {H x y v w Q} e c h=>by
 unfold vI0 at h
 split at h
 .rename_i i j
  refine⟨i,j,e.int,c.int,?_⟩
  rw[<- (b i j).2]
  exact h _ H [] (Same.refl H) (Rf.oB (b i j).1) Nw.nil
 .exact h.elim⟩
def J7{C:Int->Int->Prop}{f:Int->Int->V}{g:Int->Int->D}(b:∀i j,(g i j).aP=true/\(g i j).toV=f i j):OpV K (rI C f) (vI C g):=⟨IF,fun {H x y v w Q} e c h=>by
 unfold vI at h
 split at h
 .rename_i i j
  refine⟨i,j,e.int,c.int,h.1,?_⟩
  rw[<- (b i j).2]
  exact h.2 _ H [] (Same.refl H) (Rf.oB (b i j).1) Nw.nil
 .exact h.elim⟩
def bJ{f:Int->Int->Int}:OpV K (rI0 fun i j=>.int (f i j)) (vI0 fun i j=>.int (f i j)):=C0 fun _ _=>⟨rfl,rfl⟩
def nh{f:Int->Int->Bool}:OpV K (rI0 fun i j=>.bl (f i j)) (vI0 fun i j=>.bl (f i j)):=C0 fun _ _=>⟨rfl,rfl⟩
def aT{C:Int->Int->Prop}{f:Int->Int->Int}:OpV K (rI C fun i j=>.int (f i j)) (vI C fun i j=>.int (f i j)):=J7 fun _ _=>⟨rfl,rfl⟩
def BC{f:Int->Int}:UnV K (rU fun i=>.int (f i)) (vU fun i=>.int (f i)):=⟨fun x P c k h=>by unfold vU at h ⊢;revert h;split<;>first|exact k _|exact id,fun {H x v Q} b h=>by
 unfold vU at h
 split at h
 .rename_i i
  exact⟨i,b.int,h _ H [] (Same.refl H) ⟨rfl,rfl⟩ Nw.nil⟩
 .exact h.elim⟩
def uV(b:Bool)(x:D)(y:D)(P:DK):Prop:=x.aP=true/\y.aP=true/\aP x.toV y.toV=true/\P (.bl (if b then !decide (x.toV=y.toV) else decide (x.toV=y.toV)))
def wj{c:Bool}:∀x y (P b:DK),(∀z,P z->b z)->uV c x y P->uV c x y b:=fun x y P b k h=>⟨h.1,h.2.1,h.2.2.1,k _ h.2.2.2⟩
def qR:OpV K rEq (uV false):=⟨wj,fun {H x y v w Q} ⟨f,c⟩ ⟨e,b⟩ h=>by
 rw[(c.aP h.1).1,(b.aP h.2.1).1]
 exact⟨h.2.2.1,h.2.2.2 _ H [] (Same.refl H) ⟨rfl,rfl⟩ Nw.nil⟩⟩
def yC:OpV K rNe (uV true):=⟨wj,fun {H x y v w Q} ⟨f,c⟩ ⟨e,b⟩ h=>by
 rw[(c.aP h.1).1,(b.aP h.2.1).1]
 exact⟨h.2.2.1,h.2.2.2 _ H [] (Same.refl H) ⟨rfl,rfl⟩ Nw.nil⟩⟩
def yJ{b:Bool}{i j:Int}{P:DK}:uV b (.int i) (.int j) P↔P (.bl (if b then !decide (i=j) else decide (i=j))):=by
 unfold uV
 simp only[D.aP,D.toV,aP,true_and,V.int.injEq]
def sS(x:D)(y:D)(P:DK):Prop:=match x.items,y with|some ds,.int i=>(match atI ds i with|some d=>P d|none=>False)|_,_=>False
def qm(x:D)(y:D)(P:DK):Prop:=match x,y with|.tup ds,.int i=>(match atI ds i with|some d=>P d|none=>False)|_,_=>False
def tL{x y:D}{P:DK}(h:sS x y P):∃ds i d,x.items=some ds/\y=.int i/\atI ds i=some d/\P d:=by
 unfold sS at h
 split at h
 .split at h
  .exact⟨_,_,_,by assumption,rfl,by assumption,h⟩
  .exact h.elim
 .exact h.elim
def tm{x y:D}{P:DK}(h:qm x y P):∃ds i d,x=.tup ds/\y=.int i/\atI ds i=some d/\P d:=by
 unfold qm at h
 split at h
 .split at h
  .exact⟨_,_,_,rfl,rfl,by assumption,h⟩
  .exact h.elim
 .exact h.elim
def HJ{x:D}{ds:List D}{i:Int}{d:D}{P:DK}(ex:x.items=some ds)(e:atI ds i=some d)(h:P d):sS x (.int i) P:=by unfold sS;simp only[ex,e];exact h
def Ig{ds:List D}{i:Int}{d:D}{P:DK}(e:atI ds i=some d)(h:P d):qm (.tup ds) (.int i) P:=by unfold qm;simp only[e];exact h
def vm:∀x y (P b:DK),(∀z,P z->b z)->sS x y P->sS x y b:=fun x y P b k h=>by
 obtain ⟨ds,i,d,ex,rfl,e,h⟩:=tL h;exact HJ ex e (k _ h)
def vT:∀x y (P b:DK),(∀z,P z->b z)->qm x y P->qm x y b:=fun x y P b k h=>by
 obtain ⟨ds,i,d,rfl,rfl,e,h⟩:=tm h;exact Ig e (k _ h)
theorem Rfs.at{H:Hp}{ds:List D}{xs:List V}{b:List Addr}{i:Int}{d:D}(h:Rfs K H ds xs b)(e:atI ds i=some d):∃v f,atI xs i=some v/\Rf K H d v f/\∀a∈f,a∈b:=by
 unfold atI at e ⊢
 rw[h.length]
 cases hj:ixN ds.length i with
 |none=>rw[hj] at e;cases e
 |some j=>rw[hj] at e;exact h.get e
def sR(ha:ER K Γ ta da)(hb:ER K Γ tb db):ER K Γ (tOp (yg K) ta tb) (vOp sS da db) :=
 ⟨fun δ P s k h=>ha.mono _ _ _ (fun x z=>hb.mono _ _ _ (fun y z=>vm x y _ _ k z) z) h,
 fun o q=>ha.run o (ha.mono _ _ _ (fun x z v t c l=>hb.run (o.same c) (hb.mono _ _ _ (fun y z w p b j=>by
  obtain ⟨ds,i,d,ex,rfl,e,z⟩:=tL z
  obtain ⟨a,xs,r,rfl,m,n⟩:=(l.same b).seq ex
  obtain ⟨v,f,e1,g,_⟩:=n.at e
  exact⟨a,xs,i,v,rfl,j.int,m,e1,z v p (c.trans b) ⟨f,g⟩⟩) z)) q)⟩
def AN(ha:ER K Γ ta da)(hb:ER K Γ tb db):ER K Γ (tOp (tN K) ta tb) (vOp qm da db) :=
 ⟨fun δ P s k h=>ha.mono _ _ _ (fun x z=>hb.mono _ _ _ (fun y z=>vT x y _ _ k z) z) h,
 fun o q=>ha.run o (ha.mono _ _ _ (fun x z v t c l=>hb.run (o.same c) (hb.mono _ _ _ (fun y z w p b j=>by
  obtain ⟨ds,i,d,rfl,rfl,e,z⟩:=tm z
  obtain ⟨a,xs,r,rfl,m,n⟩:=(l.same b).tup
  obtain ⟨v,f,e1,g,_⟩:=n.at e
  exact⟨a,xs,i,v,rfl,j.int,m,e1,z v p (c.trans b) ⟨f,g⟩⟩) z)) q)⟩
def aA(ha:ES K Γ ta da)(hb:ER K Γ tb db):ES K Γ (tOp (yg K) ta tb) (vOp sS da db) :=
 ⟨fun δ P C k h=>ha.mono _ _ _ (fun x z=>hb.mono _ _ _ (fun y z=>vm x y _ _ k z) z) h,
 fun o q=>ha.run o (ha.mono _ _ _ (fun x z v E fp g p n=>hb.run (o.same g) (hb.mono _ _ _ (fun y z w u c m=>by
  obtain ⟨ds,i,d,ex,rfl,e,z⟩:=tL z
  obtain ⟨a,xs,B,rfl,r,s,t⟩:=(p.same c).seq ex
  obtain ⟨v,f,e1,l,k⟩:=s.at e
  exact⟨a,xs,i,v,rfl,m.int,r,e1,z v u f (g.trans c) l fun j hj b hb=>n j hj b (t b (k b hb))⟩) z)) q)⟩
def bT(ha:ES K Γ ta da)(hb:ER K Γ tb db):ES K Γ (tOp (tN K) ta tb) (vOp qm da db) :=
 ⟨fun δ P u k h=>ha.mono _ _ _ (fun x z=>hb.mono _ _ _ (fun y z=>vT x y _ _ k z) z) h,
 fun o q=>ha.run o (ha.mono _ _ _ (fun x z v B fp g p n=>hb.run (o.same g) (hb.mono _ _ _ (fun y z w t c m=>by
  obtain ⟨ds,i,d,rfl,rfl,e,z⟩:=tm z
  obtain ⟨a,xs,rfl,r,s⟩:=p.same c
  obtain ⟨v,f,e1,l,k⟩:=s.at e
  exact⟨a,xs,i,v,rfl,m.int,.inl (.inl r),e1,z v t f (g.trans c) l fun j hj b hb=>n j hj b (k b hb)⟩) z)) q)⟩
def asB(x:D)(P:Bool->Prop):Prop:=match x with|.bl k=>P k|_=>False
def vJ(d:DE)(δ:Dl)(P:Bool->Prop):Prop:=d δ fun x=>asB x P
def qD{x:D}{P:Bool->Prop}(h:asB x P):∃k,x=.bl k/\P k:=by
 unfold asB at h
 split at h
 .exact⟨_,rfl,h⟩
 .exact h.elim
def Gs{x:D}{P c:Bool->Prop}(k:∀b,P b->c b)(h:asB x P):asB x c:=by
 obtain ⟨b,rfl,h⟩:=qD h;exact k b h
def aL(h:ER K Γ t d):TR K Γ (FL t) (vJ d):=⟨fun δ P c k q=>h.mono _ _ _ (fun x z=>Gs k z) q,fun o q=>h.run o (h.mono _ _ _ (fun x z v H' s r=>by
 obtain ⟨b,rfl,z⟩:=qD z;exact⟨b,r.bl,z H' s⟩) q)⟩
def mM(h:ER K Γ t d):TR K Γ (tB t) (vJ d):=⟨fun δ P c k q=>h.mono _ _ _ (fun x z=>Gs k z) q,fun o q=>h.run o (h.mono _ _ _ (fun x z v H' s r=>by
 obtain ⟨b,rfl,z⟩:=qD z;exact⟨b,r.bl,z H' s⟩) q)⟩
def J9(c e:DT)(δ:Dl)(P:Bool->Prop):Prop:=c δ fun k=>if k=true then e δ P else P false
def vOr(c e:DT)(δ:Dl)(P:Bool->Prop):Prop:=c δ fun k=>if k=true then P true else e δ P
def JO(c:DT)(δ:Dl)(P:Bool->Prop):Prop:=c δ fun k=>P (!k)
def cY{b:Bool}{A B e c:Prop}(g:A->e)(f:B->c)(h:if b=true then A else B):if b=true then e else c:=by
 cases b
 .exact f h
 .exact g h
def xC{i h:TT}{c e:DT}(g:TR K Γ i c)(f:TR K Γ h e):TR K Γ (KD i h) (J9 c e) :=
 ⟨fun δ P m k q=>g.mono _ _ _ (fun b z=>cY (f.mono _ _ _ k) (k _) z) q,
 fun o q=>g.run o (g.mono _ _ _ (fun b z H' s=>cY (fun z=>f.run (o.same s) (f.mono _ _ _ (fun b z l j=>z l (s.trans j)) z)) (fun z=>z H' s) z) q)⟩
def lS{i h:TT}{c e:DT}(g:TR K Γ i c)(f:TR K Γ h e):TR K Γ (tOr i h) (vOr c e) :=
 ⟨fun δ P m k q=>g.mono _ _ _ (fun b z=>cY (k _) (f.mono _ _ _ k) z) q,
 fun o q=>g.run o (g.mono _ _ _ (fun b z H' s=>cY (fun z=>z H' s) (fun z=>f.run (o.same s) (f.mono _ _ _ (fun b z l j=>z l (s.trans j)) z)) z) q)⟩
def eQ{f:TT}{c:DT}(e:TR K Γ f c):TR K Γ (K3 f) (JO c) :=
 ⟨fun δ P g k q=>e.mono _ _ _ (fun b z=>k _ z) q,fun o q=>e.run o (e.mono _ _ _ (fun b z H' s=>z H' s) q)⟩
def FF(c b:DE)(δ:Dl)(P:DK):Prop:=vJ c δ fun k=>if k=true then b δ P else P (.bl false)
def Eh(b:DE)(δ:Dl)(P:DK):Prop:=vJ b δ fun k=>P (.bl (!k))
def pw(ha:ER K Γ ta da)(hb:EM K Γ [] tb db):EM K Γ [] (JA ta tb) (FF da db) :=
 ⟨fun δ P g k q=>(aL ha).mono _ _ _ (fun b z=>cY (hb.mono _ _ _ k) (k _) z) q,
 fun o q=>ha.run o (ha.mono _ _ _ (fun x z v H' s r=>by
  obtain ⟨b,rfl,z⟩:=qD z
  exact⟨b,r.bl,cY (fun z=>hb.run (o.same s) (hb.mono _ _ _ (fun y z u f fp c e n2=>z u f fp (s.trans c) e (n2.later s)) z)) (fun z=>z _ H' [] s ⟨rfl,rfl⟩ Nw.nil) z⟩) q)⟩
def IZ(ha:ER K Γ ta da):EM K Γ [] (JG ta) (Eh da) :=
 ⟨fun δ P c k q=>(aL ha).mono _ _ _ (fun b z=>k _ z) q,
 fun o q=>ha.run o (ha.mono _ _ _ (fun x z v H' s r=>by
  obtain ⟨b,rfl,z⟩:=qD z
  exact⟨b,r.bl,z _ H' [] s ⟨rfl,rfl⟩ Nw.nil⟩) q)⟩
def vIf(c:DT)(e b:DE)(δ:Dl)(P:DK):Prop:=c δ fun k=>if k=true then e δ P else b δ P
def Et{u:TT}{c:DT}(g:TR K Γ u c)(ha:EM K Γ [] ta da)(hb:EM K Γ [] tb db):EM K Γ [] (tIf u ta tb) (vIf c da db) :=
 ⟨fun δ P i k q=>g.mono _ _ _ (fun b z=>cY (ha.mono _ _ _ k) (hb.mono _ _ _ k) z) q,
 fun o q=>g.run o (g.mono _ _ _ (fun b z H' s=>cY (fun z=>ha.run (o.same s) (ha.mono _ _ _ (fun y z u h fp e f n2=>z u h fp (s.trans e) f (n2.later s)) z)) (fun z=>hb.run (o.same s) (hb.mono _ _ _ (fun y z u h fp e f n2=>z u h fp (s.trans e) f (n2.later s)) z)) z) q)⟩
def Bh(r b:D2)(f e c:DE)(δ:Dl)(P:DK):Prop:=f δ fun x=>e δ fun y=>r x y fun z=>asB z fun k=>if k=true then c δ fun w=>b y w P else P (.bl false)
def yX{r C:R2}{t E:D2}(f:OpV K r t)(i:OpV K C E)(ha:ER K Γ ta da)(hb:ER K Γ tb db)(g:ER K Γ tc dc):EM K Γ [] (Ar r C ta tb tc) (Bh t E da db dc) :=
 ⟨fun δ P M k h=>ha.mono _ _ _ (fun x z=>hb.mono _ _ _ (fun y z=>f.mono x y _ _ (fun u z=>Gs (fun b z=>cY (g.mono _ _ _ fun w z=>i.mono _ _ _ _ k z) (k _) z) z) z) z) h,
 fun o q=>ha.run o (ha.mono _ _ _ (fun x z v R p H=>hb.run (o.same p) (hb.mono _ _ _ (fun y z w Q m B=>f.run (H.same m) B (f.mono _ _ _ _ (fun u z j I fp l G L=>by
  obtain ⟨b,rfl,z⟩:=qD z
  have c:=(p.trans m).trans l
  refine⟨b,G.1,cY (fun z=>?_) (fun z=>z _ I [] c ⟨rfl,rfl⟩ Nw.nil) z⟩
  exact g.run (o.same c) (g.mono _ _ _ (fun w z J O e F=>i.run (B.same (l.trans e)) F (i.mono _ _ _ _ (fun u z j H' fp s r n=>z j H' fp ((c.trans e).trans s) r (n.any.later (c.trans e))) z)) z)) z)) z)) q)⟩
def Ef(b:Dl)(P:List D->Prop):Prop:=P []
def ra(c:DE)(b:DA)(δ:Dl)(P:List D->Prop):Prop:=c δ fun x=>b δ fun xs=>P (x::xs)
def au:AR K Γ iu Ef:=⟨fun _ _ _ k h=>k _ h,fun {_ _ _ _ H _} o q=>q [] H (Same.refl H) ⟨[],rfl,rfl⟩⟩
def bf:AM K Γ [] iu Ef:=⟨fun _ _ _ k h=>k _ h,fun {_ _ _ _ H _} o q=>q [] H [] (Same.refl H) ⟨rfl,rfl⟩ Nw.nil⟩
def Kw:AS K Γ iu Ef:=⟨fun _ _ _ k h=>k _ h,fun {_ _ _ _ H _} o q=>q [] H [] (Same.refl H) ⟨rfl,rfl⟩ fun _ _ _ h=>nomatch h⟩
def ai{f:TA}{m:DA}(ha:ER K Γ ta da)(e:AR K Γ f m):AR K Γ (bG ta f) (ra da m) :=
 ⟨fun δ P p k h=>ha.mono _ _ _ (fun x z=>e.mono _ _ _ (fun y z=>k _ z) z) h,
 fun o q=>ha.run o (ha.mono _ _ _ (fun x z v r i c=>e.run (o.same i) (e.mono _ _ _ (fun xs z vs n g b=>by
  obtain ⟨l,c⟩:=c.same g
  obtain ⟨j,b⟩:=b
  exact z _ n (i.trans g) ⟨l++j,_,_,l,j,rfl,rfl,c,b⟩) z)) q)⟩
def Hy{c:TA}{l:DA}(ha:ES K Γ ta da)(b:AS K Γ c l):AS K Γ (bG ta c) (ra da l) :=
 ⟨fun δ P r k h=>ha.mono _ _ _ (fun x z=>b.mono _ _ _ (fun y z=>k _ z) z) h,
 fun o q=>ha.run o (ha.mono _ _ _ (fun x z v s i f n n1=>b.run (o.same f) (b.mono _ _ _ (fun xs z vs p g e m n2 =>
  z _ p (i++g) (f.trans e) ⟨_,_,i,g,rfl,rfl,n.same e,m⟩ fun j hj a ha=>(Mf.mp ha).elim (n1 j hj a) (n2 j hj a)) z)) q)⟩
def dD{g:aac}{r:TA}{B:DA}(ha:EM K Γ M ta da)(n:AM K Γ g r B)(s:∀i∈M,i∈Γ/\i∉g:=by decide)(I:∀i∈g,i∈Γ:=by decide):AM K Γ (M++g) (bG ta r) (ra da B) :=
 ⟨fun δ P J k h=>ha.mono _ _ _ (fun x z=>n.mono _ _ _ (fun y z=>k _ z) z) h,
 fun {B0 fps δ G H Q} o q=>ha.run o (ha.mono _ _ _ (fun x z v L u m E n1=>n.run (o.same m) (n.mono _ _ _ (fun xs z vs F t l C n2=>by
  refine z _ F (u++t) (m.trans l) ⟨_,_,u,t,rfl,rfl,E.same l,C⟩ ⟨?_,fun a ha=>(Mf.mp ha).elim (fun h=>(n1.mu a h).same l) (n2.mu a),fun a ha=>?_⟩
  .refine Ms.mpr ⟨n1.nd,n2.nd,fun a c b f e=>?_⟩
   subst e
   rcases n2.src a f with e|⟨j,hj,e⟩
   .exact (n1.mu a c).some e
   .rcases n1.src a c with p|⟨i,hi,p⟩
    .exact o.dom e p
    .exact o.dj i (s i hi).1 j (fun y=>(s i hi).2 (by rw[<- y];exact hj)) a p e
  .rcases Mf.mp ha with h|h
   .exact (n1.src a h).imp id fun ⟨j,c,f⟩=>⟨j,Mg _ c,f⟩
   .exact (n2.src a h).elim (fun e=>.inl (m.free e)) fun ⟨j,c,f⟩=>.inr ⟨j,L9 _ c,f⟩) z)) q)⟩
def nQ{n:Nat}(h:n<=1000):n<=sizeLine:=ME h (by rw[sizeLine_eq];decide)
def JZ(b:DA)(δ:Dl)(P:DK):Prop:=b δ fun xs=>xs.length<=1000/\P (.lst xs)
def KZ(b:DA)(δ:Dl)(P:DK):Prop:=b δ fun xs=>xs.length<=1000/\P (.tup xs)
def bS{u:TA}{l:DA}(c:AM K Γ M u l)(r:∀i∈M,i∈Γ:=by decide):EM K Γ M (LS u) (JZ l) :=
 ⟨fun δ P s k h=>c.mono _ _ _ (fun y z=>⟨z.1,k _ z.2⟩) h,
 fun {B0 fps δ n H Q} o q=>c.run o (c.mono _ _ _ (fun xs z vs m fp g j n1=>by
  refine⟨by rw[j.length];exact nQ z.1,fun p f=>?_⟩
  have b:Same m (upd m p (.lst vs)):=Same.kR f
  refine z.2 _ _ (p::fp) (g.trans b) ⟨p,vs,fp,rfl,az,rfl,j.same b⟩ ⟨Mn.mpr ⟨fun h=>(n1.mu p h).some f,n1.nd⟩,fun a ha=>?_,fun a ha=>?_⟩
  .rcases Mb.mp ha with e|h
   .subst e;exact .inl ⟨vs,az⟩
   .exact (n1.mu a h).same b
  .rcases Mb.mp ha with e|h
   .subst e;exact .inl (g.free f)
   .exact n1.src a h) q)⟩
def fo{u:TA}{f:DA}(c:AM K Γ M u f):EM K Γ M (Gu u) (KZ f) :=
 ⟨fun δ P m k h=>c.mono _ _ _ (fun y z=>⟨z.1,k _ z.2⟩) h,
 fun {B0 fps δ l H Q} o q=>c.run o (c.mono _ _ _ (fun xs z vs g fp i e n1=>by
  refine⟨by rw[e.length];exact nQ z.1,fun p j=>?_⟩
  have b:Same g (upd g p (.tup vs)):=Same.kR j
  exact z.2 _ _ fp (i.trans b) ⟨p,vs,rfl,az,e.same b⟩ (n1.same b)) q)⟩
abbrev DSp:=List D->DK->Prop
def bo(S:DSp):Prop:=∀xs (P b:DK),(∀z,P z->b z)->S xs P->S xs b
def spP(K:aad)(S:DSp):Sp:=fun vs H Q _=>∃ds,Rps K H ds vs/\gw K H/\S ds fun x=>∀v H' fp,Same H H'->Rf K H' x v fp->Nw H H' nf [] fp->Q v H'
structure nE(K:aad)(r:List V->Hp->VK->Prop)(S:DSp):Prop where
 mono:bo S
 run:∀{H xs vs Q},Rps K H xs vs->S xs (fun z=>∀u H' fp,Same H H'->Rf K H' z u fp->Nw H H' nf [] fp->Q u H')->r vs H Q
def tY(S:DSp)(b:DA)(δ:Dl)(P:DK):Prop:=b δ fun xs=>S xs P
def aS{r:List V->Hp->VK->Prop}{S:DSp}{u:TA}{f:DA}(c:nE K r S)(b:AR K Γ u f):EM K Γ [] (tCB r u) (tY S f) :=
 ⟨fun δ P l k h=>b.mono _ _ _ (fun y z=>c.mono _ _ _ k z) h,
 fun {B0 fps δ j H Q} o q=>b.run o (b.mono _ _ _ (fun xs z vs m e i=>c.run i (c.mono _ _ _ (fun u z g H' fp s r n=>z g H' fp (e.trans s) r (n.any.later e)) z)) q)⟩
def aD{S:DSp}{E:XK}{u:TA}{f:DA}(e:bo S)(c:AR K Γ u f):EM K Γ [] (nG (spP K S) [] E u) (tY S f) :=
 ⟨fun δ P l k h=>c.mono _ _ _ (fun y z=>e _ _ _ k z) h,
 fun {B0 fps δ j H Q} o q=>c.run o (c.mono _ _ _ (fun xs z vs m b i=>⟨xs,by rw[ML];exact i,(o.b0.trans b).now,e _ _ _ (fun u z g H' fp s r n=>z g H' fp (b.trans s) r (n.any.later b)) z⟩) q)⟩
end
end L3
namespace L3
open PySem L2
structure bc where
 nx:Dl->Prop
 rt:D->Dl->Prop
 bk:Dl->Prop
 ct:Dl->Prop
abbrev DS:=bc->Dl->Prop
structure RtI(B0:Hp)(Γr:aac)(fps:Nat->List Addr)(H:Hp)(fp:List Addr):Prop where
 nd:fp.Nodup
 mu:∀a∈fp,Mu H a
 nw:∀a∈fp,B0 a=none
 dj:∀j∈Γr,∀a∈fp,a∉fps j
structure EOk(K:aad)(ρ:Bool)(Γr Γl Γn:aac)(B0:Hp)(Dn:Ends)(E:bc):Prop where
 nx:∀{fps δ σ H},Ok K B0 Γn fps δ σ H->E.nx δ->Dn.nx σ H
 bk:∀{fps δ σ H},Ok K B0 Γl fps δ σ H->E.bk δ->Dn.bk σ H
 ct:∀{fps δ σ H},Ok K B0 Γl fps δ σ H->E.ct δ->Dn.ct σ H
 rt:∀{fps δ σ H x v fp},Ok K B0 Γr fps δ σ H->Rf K H x v fp->(ρ=true->RtI B0 Γr fps H fp)->E.rt x δ->Dn.rt v H
def ST(K:aad)(f:Bool)(b c:aac)(t:TS)(g Γn:aac)(d:DS):Prop :=
 ∀⦃B0:Hp⦄ ⦃Dn:Ends⦄ ⦃E:bc⦄ ⦃fps:Nat->List Addr⦄ ⦃δ:Dl⦄ ⦃e:St⦄ ⦃H:Hp⦄,EOk K f b c Γn B0 Dn E->Ok K B0 g fps δ e H->d E δ->t Dn e H
section
variable {K:aad}{ρ:Bool}{Γr Γl Γ Tr Uz Γn M:aac}{t u:TS}{te tb:TE}{de da db:DE}{d e:DS}
def EL(E:bc)(δ:Dl):Prop:=E.nx δ
def xl(d e:DS)(E:bc)(δ:Dl):Prop:=d { E with nx:=e E } δ
def aX:ST K ρ Γr Γl Cc Γ Γ EL:=fun _ _ _ _ _ _ _ k o h=>k.nx o h
def ax(c:ST K ρ Γr Γl t Γ Tr d)(b:ST K ρ Γr Γl u Tr Uz e):ST K ρ Γr Γl (wV t u) Γ Uz (xl d e) :=
 fun {B0 Dn E fps δ f H} k o h=>c (Dn:={ Dn with nx:=u Dn }) (E:={ E with nx:=e E }) ⟨fun o h=>b k o h,k.bk,k.ct,k.rt⟩ o h
def ST.post(h:ST K ρ Γr Γl t Γ Tr d)(s:∀i∈Γn,i∈Tr:=by decide):ST K ρ Γr Γl t Γ Γn d:=fun _ _ _ _ _ _ _ k o q=>h ⟨fun o h=>k.nx (o.sub s) h,k.bk,k.ct,k.rt⟩ o q
def F4(M:aac)(i:Nat)(b:DE)(E:bc)(δ:Dl):Prop:=b δ fun x=>E.nx ((kill M δ).set i (some x))
def cG(i:Nat)(b:EM K Γ M te de)(c:∀j∈M,j∈Γ:=by decide):ST K ρ Γr Γl (jZ te (eO i)) Γ (i::minus (minus Γ M) [i]) (F4 M i de) :=
 fun _ _ _ _ _ _ _ k o h=>b.run o (b.mono _ _ _ (fun x z v H' fp s r n=>k.nx (o.Jp i c s r n) z) h)
def IM(i:Nat)(b:DE)(E:bc)(δ:Dl):Prop:=b δ fun x=>E.nx (δ.set i (some x))
def aK(i:Nat)(b:ES K Γ te de):ST K ρ Γr Γl (jZ te (eO i)) Γ (minus Γ [i]) (IM i de) :=
 fun _ _ _ _ _ _ _ k o h=>b.run o (b.mono _ _ _ (fun x z v H' fp s r n=>k.nx (o.yS i s r n) z) h)
def KU(M:aac)(b:DE)(E:bc)(δ:Dl):Prop:=b δ fun x=>E.rt x (kill M δ)
def aI(c:EM K Γ M te de)(f:∀j∈M,j∈Γ:=by decide)(b:∀j∈Γr,j∈Γ/\j∉M:=by decide):ST K ρ Γr Γl (Az te) Γ Γn (KU M de) :=
 fun {B0 Dn E fps δ g H} k o h=>c.run o (c.mono _ _ _ (fun x z v H' fp s r n=>by
  have ok:=((o.kill M).same s).sub (Γ':=Γr) fun i hi=>bz.mpr (b i hi)
  refine k.rt ok r (fun _=>⟨n.nd,n.mu,fun a ha=>?_,fun j hj a ha=>?_⟩) z
  .rcases n.src a ha with e|⟨i,hi,e⟩
   .exact o.b0.free e
   .exact ((o.own i (f i hi)).2 a e).1
  .show a∉if j∈M then [] else fps j
   rw[if_neg (b j hj).2]
   intro z
   rcases n.src a ha with e|⟨i,hi,e⟩
   .exact o.dom z e
   .exact o.dj i (f i hi) j (fun y=>(b j hj).2 (by rw[y];exact hi)) a e z) h)
def Hj(c:DT)(d e:DS)(E:bc)(δ:Dl):Prop:=c δ fun b=>if b=true then d E δ else e E δ
def bP{c:TT}{g:DT}(f:TR K Γ c g)(j:ST K ρ Γr Γl t Γ Γn d)(i:ST K ρ Γr Γl u Γ Γn e):ST K ρ Γr Γl (EA c t u) Γ Γn (Hj g d e) :=
 fun _ _ _ _ _ _ _ k o h=>f.run o (f.mono _ _ _ (fun b z H' s=>cY (fun z=>j k (o.same s) z) (fun z=>i k (o.same s) z) z) h)
structure GT(K:aad)(Γ:aac)(g:TG)(dg:D->Dl->(Dl->Prop)->Prop):Prop where
 mono:∀x δ (P P':Dl->Prop),(∀z,P z->P' z)->dg x δ P->dg x δ P'
 run:∀{B0 fps δ σ H x v fp Q},Ok K B0 Γ fps δ σ H->Rf K H x v fp->(∀j∈Γ,∀a∈fp,a∉fps j)->dg x δ (fun δ'=>∀fps' σ',Ok K B0 Γ fps' δ' σ' H->(∀j∈Γ,fps' j=fps j)->Q σ' H)->g v σ H Q
structure GTs(K:aad)(Γ:aac)(g:TGs)(dg:List D->Dl->(Dl->Prop)->Prop):Prop where
 mono:∀x δ (P P':Dl->Prop),(∀z,P z->P' z)->dg x δ P->dg x δ P'
 run:∀{B0 fps δ σ H x v fp Q},Ok K B0 Γ fps δ σ H->Rfs K H x v fp->(∀j∈Γ,∀a∈fp,a∉fps j)->dg x δ (fun δ'=>∀fps' σ',Ok K B0 Γ fps' δ' σ' H->(∀j∈Γ,fps' j=fps j)->Q σ' H)->g v σ H Q
def Ax(i:Nat)(x:D)(δ:Dl)(P:Dl->Prop):Prop:=P (δ.set i (some x))
def aN(i:Nat)(h:i∉Γ:=by decide):GT K Γ (eO i) (Ax i):=⟨fun _ _ _ _ k h=>k _ h,fun {B0 fps δ b H x v fp Q} o r n q=>by
 have ok:=(o.yS i (Same.refl H) r n).sub (Γ':=Γ) fun j hj=>bz.mpr ⟨hj,fun z=>h (by rw[<- Gc.mp z];exact hj)⟩
 exact q _ _ ok fun j hj=>by rw[if_neg (fun z=>h (by rw[<- z];exact hj))]⟩
def Ju(xs:List D)(δ:Dl)(P:Dl->Prop):Prop:=match xs with|[]=>P δ|_=>False
def Ew(e:D->Dl->(Dl->Prop)->Prop)(c:List D->Dl->(Dl->Prop)->Prop)(xs:List D)(δ:Dl)(P:Dl->Prop):Prop:=match xs with|x::r=>e x δ fun b=>c r b P|[]=>False
theorem Cr:GTs K Γ JR Ju:=⟨fun x _ _ _ k h=>by cases x with|nil=>exact k _ h|cons _ _=>exact h,fun {B0 fps δ b H x v fp Q} o r n q=>by
 cases x with
 |nil=>obtain ⟨rfl,_⟩:=r;exact⟨rfl,q _ _ o fun _ _=>rfl⟩
 |cons _ _=>exact q.elim⟩
def pA{g:TG}{f:TGs}{m:D->Dl->(Dl->Prop)->Prop}{l:List D->Dl->(Dl->Prop)->Prop}(c:GT K Γ g m)(b:GTs K Γ f l):GTs K Γ (EV g f) (Ew m l) :=
 ⟨fun x _ _ _ k h=>by
  cases x with
  |nil=>exact h
  |cons x r=>exact c.mono _ _ _ _ (fun z h=>b.mono _ _ _ _ k h) h,
 fun {B0 fps δ F H x v fp Q} o r n q=>by
  cases x with
  |nil=>exact q.elim
  |cons x xs =>
   obtain ⟨y,ys,I,G,rfl,rfl,t,s⟩:=r
   refine⟨y,ys,rfl,c.run o t (fun j hj a ha=>n j hj a (Mg _ ha)) (c.mono _ _ _ _ (fun p z i σ' B e=>?_) q)⟩
   exact b.run B s (fun j hj a ha=>by rw[e j hj];exact n j hj a (L9 _ ha)) (b.mono _ _ _ _ (fun J z C E u e2=>z C E u fun j hj=>(e2 j hj).trans (e j hj)) z)⟩
def CT(n:Nat)(b:List D->Dl->(Dl->Prop)->Prop)(x:D)(δ:Dl)(P:Dl->Prop):Prop:=match x with|.tup ds=>ds.length=n/\b ds δ P|_=>False
def Kg{n:Nat}{g:TGs}{b:List D->Dl->(Dl->Prop)->Prop}(h:GTs K Γ g b):GT K Γ (HL K n g) (CT n b) :=
 ⟨fun x δ P f k h'=>by unfold CT at h' ⊢;revert h';split<;>first|exact fun h'=>⟨h'.1,h.mono _ _ _ _ k h'.2⟩|exact id,
 fun {B0 fps δ e H x v fp Q} o r c q=>by
  unfold CT at q
  split at q
  .obtain ⟨a,xs,e1,e2,r⟩:=r
   exact⟨a,xs,e1,.inl (.inl e2),r.length.trans q.1,h.run o r c q.2⟩
  .exact q.elim⟩
def Kq(c:DE)(b:D->Dl->(Dl->Prop)->Prop)(E:bc)(δ:Dl):Prop:=c δ fun x=>b x δ E.nx
def HS{g:TG}{f:D->Dl->(Dl->Prop)->Prop}(c:ES K Γ te de)(b:GT K Γ g f):ST K ρ Γr Γl (jZ te g) Γ Γ (Kq de f) :=
 fun _ _ _ _ _ _ _ k o h=>c.run o (c.mono _ _ _ (fun x z v H' fp s r n=>b.run (o.same s) r n (b.mono _ _ _ _ (fun i z e σ' j _=>k.nx j z) z)) h)
structure Iy(K:aad)(J:It)(B:Hp)(ds:List D):Prop where
 go:∀{i H},Same B H->i<ds.length->J.go i H
 yld:∀{i H x H' d},Same B H->J.yld i H x H'->ds[i]?=some d->Same H H'/\∃fp,Rf K H' d x fp/\∀a∈fp,B a≠none
 stop:∀{i H},Same B H->ds.length<=i->J.stop i H
abbrev DI:=Dl->(List D->Prop)->Prop
structure IT(K:aad)(Γ:aac)(wi:TI)(di:DI):Prop where
 mono:∀δ (P P':List D->Prop),(∀x,P x->P' x)->di δ P->di δ P'
 run:∀{B0 fps δ σ H R},Ok K B0 Γ fps δ σ H->di δ (fun ds=>∀(J:It) (H':Hp) (fq:List Addr),Same H H'->(∀j∈Γ,∀a∈fq,a∉fps j) ->
  (∀B,Same B H'->(∀a∈fq,B a=H' a)->(∀a o,H' a=some o->Im o->B a=some o)->Iy K J B ds)->R J H')->wi σ H R
def asL(x:D)(P:List D->Prop):Prop:=match x.items with|some ds=>P ds|none=>False
def cg{x:D}{P:List D->Prop}(h:asL x P):∃ds,x.items=some ds/\P ds:=by
 unfold asL at h;split at h
 .exact⟨_,by assumption,h⟩
 .exact h.elim
def jx{x:D}{ds:List D}{P:List D->Prop}(e:x.items=some ds)(h:P ds):asL x P:=by unfold asL;rw[e];exact h
def Ks(b:DE)(δ:Dl)(P:List D->Prop):Prop:=b δ fun x=>asL x P
def bL(p:ES K Γ te de):IT K Γ (zk K te) (Ks de) :=
 ⟨fun δ P P' k h=>p.mono _ _ _ (fun x z=>by obtain ⟨ds,e,z⟩:=cg z;exact jx e (k _ z)) h,
 fun {B0 fps δ Q H R} o h=>p.run o (p.mono _ _ _ (fun x z v H' fp s r n=>by
  obtain ⟨ds,ex,z⟩:=cg z
  obtain ⟨a,xs,U,rfl,J,T,Y⟩:=r.seq ex
  refine⟨a,rfl,⟨xs,J⟩,z (Itl K a) H' fp s n fun B S L G=>?_⟩
  have E:Rf K B x (.ref a) fp:=r.mono (fun b hb u e=>by rw[L b hb];exact e) G
  obtain ⟨X,g,Z,e1,O,C,M⟩:=E.seq ex
  cases e1
  have l:∀{j:Hp},Same B j->SqL K j a g:=fun c=>by
   rcases O with (h|⟨F,h⟩)|h
   .exact .inl (.inl (c.st _ _ h trivial))
   .exact .inl (.inr ⟨F,c.st _ _ h trivial⟩)
   .exact .inr h
  have hl:=C.length
  refine⟨fun {i j} c hi=>⟨g,g[i]'(by omega),l c,by simp [hl,hi]⟩,fun {i j y H3 d} c m hd=>?_,fun {i j} c hi=>⟨g,l c,by omega⟩⟩
  obtain ⟨rfl,m⟩:=m
  have e2:=m g (l c)
  obtain ⟨d',f,t,q,k3⟩:=C.get' e2
  rw[hd] at t;cases t
  exact⟨Same.refl _,f,q.same c,fun b hb=>by
   obtain ⟨u,I,_⟩:=q.dom b hb
   rw[I];intro z;cases z⟩) h)⟩
def asI(xs:List D)(P:Int->Prop):Prop:=match xs with|[.int j]=>P j|_=>False
def Ir(xs:List D)(P:Int->Int->Prop):Prop:=match xs with|[.int i,.int j]=>P i j|_=>False
def yh{xs:List D}{P:Int->Prop}(h:asI xs P):∃j,xs=[.int j]/\P j:=by
 unfold asI at h;split at h
 .exact⟨_,rfl,h⟩
 .exact h.elim
def y9{xs:List D}{P:Int->Int->Prop}(h:Ir xs P):∃i j,xs=[.int i,.int j]/\P i j:=by
 unfold Ir at h;split at h
 .exact⟨_,_,rfl,h⟩
 .exact h.elim
def oQ(lo:Int)(n:Nat):List D:=(List.range n).map fun (k:Nat)=>.int (lo+(k:Int))
theorem GK{lo:Int}{n:Nat}{B:Hp}:Iy K (Itr lo n) B (oQ lo n):=⟨fun {i f} b hi=>by unfold Itr;simpa [oQ] using hi,fun {i f y l d} b g hd=>by
 obtain ⟨rfl,rfl⟩:=g
 unfold oQ at hd
 rw[Mc] at hd
 cases e:(List.range n)[i]? with
 |none=>rw[e] at hd;cases hd
 |some k =>
  rw[e] at hd
  obtain ⟨j,c⟩:=Ma.mp e
  rw[NQ] at c
  subst c
  cases hd
  exact⟨Same.refl _,[],⟨rfl,rfl⟩,fun _ h=>nomatch h⟩,fun {i f} b hi=>by unfold Itr;simpa [oQ] using hi⟩
def FI(b:DA)(δ:Dl)(P:List D->Prop):Prop:=b δ fun xs=>asI xs fun j=>(-(2 ^ 62)<=j/\j<2 ^ 62)/\P (oQ 0 j.toNat)
def EC(b:DA)(δ:Dl)(P:List D->Prop):Prop:=b δ fun xs=>Ir xs fun i j=>(-(2 ^ 62)<=i/\i<2 ^ 62/\-(2 ^ 62)<=j/\j<2 ^ 62)/\P (oQ i (j - i).toNat)
def Rps.ints1{H:Hp}{j:Int}{vs:List V}(h:Rps K H [.int j] vs):vs=[.int j]:=by
 obtain ⟨fp,x,r,c,b,rfl,_,⟨rfl,_⟩,⟨rfl,_⟩⟩:=h;rfl
def Rps.ints2{H:Hp}{i j:Int}{vs:List V}(h:Rps K H [.int i,.int j] vs):vs=[.int i,.int j]:=by
 obtain ⟨fp,x,r,c,b,rfl,_,⟨rfl,_⟩,y,e,c,b,rfl,_,⟨rfl,_⟩,⟨rfl,_⟩⟩:=h;rfl
def cm{u:TA}{b:DA}(ha:AR K Γ u b):IT K Γ (JI u) (FI b) :=
 ⟨fun δ P e k h=>ha.mono _ _ _ (fun x z=>by obtain ⟨j,rfl,z⟩:=yh z;exact⟨z.1,k _ z.2⟩) h,
 fun {B0 fps δ c H R} o h=>ha.run o (ha.mono _ _ _ (fun xs z vs H' s r=>by
  obtain ⟨j,rfl,z⟩:=yh z
  exact⟨j,r.ints1,z.1.1,z.1.2,z.2 _ H' [] s (fun _ _ _ h=>(nomatch h)) fun B _ _ _=>GK⟩) h)⟩
def I0{u:TA}{b:DA}(ha:AR K Γ u b):IT K Γ (Jo u) (EC b) :=
 ⟨fun δ P e k h=>ha.mono _ _ _ (fun x z=>by obtain ⟨i,j,rfl,z⟩:=y9 z;exact⟨z.1,k _ z.2⟩) h,
 fun {B0 fps δ c H R} o h=>ha.run o (ha.mono _ _ _ (fun xs z vs H' s r=>by
  obtain ⟨i,j,rfl,z⟩:=y9 z
  exact⟨i,j,r.ints2,z.1,z.2 _ H' [] s (fun _ _ _ h=>(nomatch h)) fun B _ _ _=>GK⟩) h)⟩
def nC(c:D->Dl->(Dl->Prop)->Prop)(e:DS)(E:bc):List D->Dl->Prop
 |[],δ=>E.nx δ
 |x::xs,δ=>c x δ fun b=>e { nx:=nC c e E xs,ct:=nC c e E xs,bk:=E.nx,rt:=E.rt } b
def JT(b:DI)(c:D->Dl->(Dl->Prop)->Prop)(e:DS)(E:bc)(δ:Dl):Prop:=b δ fun ds=>nC c e E ds δ
def RtI.base{b B0:Hp}{fps:Nat->List Addr}{H:Hp}{fp:List Addr}(r:RtI b Γr fps H fp)(s:Same B0 b)(_:gw K B0):RtI B0 Γr fps H fp:=⟨r.nd,r.mu,fun a ha=>s.free (r.nw a ha),r.dj⟩
def eG{F:TI}{L:DI}{g:TG}{l:D->Dl->(Dl->Prop)->Prop}{tb:TS}{n:DS}(hi:IT K Γ F L)(G:GT K Γ g l)(hb:ST K ρ Γr Γ tb Γ Γ n):ST K ρ Γr Γl (FG F g tb) Γ Γ (JT L l n):=by
 intro B0 Dn E fps δ C H k o h
 refine hi.run o (hi.mono _ _ _ (fun ds z J H1 fq R n1 TX=>?_) h)
 obtain ⟨B,s,t,M⟩:=(o.same R).rebase
 have v:Iy K J B ds:=TX B t.b0 (fun a ha=>M a fun j hj=>n1 j hj a ha) fun a u e Y=>by
  rw[M a fun j hj ha=>((t.own j hj).2 a ha).2.lM u e Y];exact e
 refine⟨fun i m C H=>m=ds.length - i/\i<=ds.length/\∃fps δ,Ok K B Γ fps δ C H/\nC l n E (ds.drop i) δ,⟨ds.length,by omega,NL _,fps,δ,t,by rw[OO];exact z⟩,?_⟩
 rintro i m O8 H2 ⟨rfl,hi2,QK,R0,f,r⟩
 by_cases p:i<ds.length
 .refine .inr ⟨v.go f.b0 p,_,fun σ' H' q=>q,fun x H3 hy=>?_⟩
  obtain ⟨Q,fp,T,X⟩:=v.yld f.b0 hy (dz p)
  rw[M5 p] at r
  refine G.run (f.same Q) T (fun j hj a ha hz=>X a ha ((f.own j hj).2 a hz).1) (G.mono _ _ _ _ (fun O P I σ' U e'=>?_) r)
  refine hb (E:={ nx:=nC l n E (ds.drop (i+1)),ct:=nC l n E (ds.drop (i+1)),bk:=E.nx,rt:=E.rt }) ⟨fun c b=>⟨ds.length - (i+1),by omega,rfl,p,_,_,c,b⟩,fun c b=>k.nx (c.base s o.b0.tv) b,fun c b=>⟨ds.length - (i+1),by omega,rfl,p,_,_,c,b⟩,fun c S Z b=>k.rt (c.base s o.b0.tv) S (fun y=>(Z y).base s o.b0.tv) b⟩ U P
 .have e:i=ds.length:=by omega
  subst e
  rw[N9] at r
  exact .inl ⟨v.stop f.b0 (Mm _),k.nx (f.base s o.b0.tv) r⟩
def KR(c:DT)(g:DS)(E:bc)(δ:Dl):Prop:=∃W:Nat->Dl->Prop,(∃m,W m δ)/\∀m δ,W m δ->c δ fun b=>if b=true then g { nx:=fun e=>∃f,f < m/\W f e,ct:=fun e=>∃f,f < m/\W f e,bk:=E.nx,rt:=E.rt } δ else E.nx δ
def tE{c:TT}{r:DT}{tb:TS}{t:DS}(p:TR K Γ c r)(hb:ST K ρ Γr Γ tb Γ Γ t):ST K ρ Γr Γl (G2 c tb) Γ Γ (KR r t):=by
 intro B0 Dn E fps δ g H k o h
 obtain ⟨W,⟨m,x⟩,turn⟩:=h
 refine⟨fun m g H=>∃fps δ,Ok K B0 Γ fps δ g H/\W m δ,⟨m,fps,δ,o,x⟩,?_⟩
 rintro m C F ⟨B,y,j,v⟩
 refine p.run j (p.mono _ _ _ (fun b z H' s=>cY (fun z=>?_) (fun z=>k.nx (j.same s) z) z) (turn m y v))
 refine⟨fun g H=>∃e,e < m/\∃fps δ,Ok K B0 Γ fps δ g H/\W e δ,fun σ' H' q=>q,hb (E:={ nx:=fun f=>∃e,e < m/\W e f,ct:=fun f=>∃e,e < m/\W e f,bk:=E.nx,rt:=E.rt }) ⟨?_,fun i u=>k.nx i u,?_,k.rt⟩ (j.same s) z⟩
 .rintro fps δ g H i ⟨e,n,l⟩
  exact⟨e,n,fps,δ,i,l⟩
 .rintro fps δ g H i ⟨e,n,l⟩
  exact⟨e,n,fps,δ,i,l⟩
def v7(f:D->(List D->Prop)->Prop):List D->List D->(List D->Prop)->Prop
 |[],acc,P=>P acc
 |x::xs,acc,P=>f x fun ys=>v7 f xs (acc++ys) P
theorem uh{f:D->(List D->Prop)->Prop}(c:∀x P b,(∀z,P z->b z)->f x P->f x b):∀xs acc (P b:List D->Prop),(∀z,P z->b z)->v7 f xs acc P->v7 f xs acc b
 |[],acc,P,b,k,h=>k _ h
 |x::xs,acc,P,b,k,h=>c x _ _ (fun z h=>uh c xs _ P b k h) h
def dP(k:Nat)(idx:aac)(δ:Dl):Dl:=List.replicate k none++idx.map fun i=>(δ[i]?).getD none
def LF{k:Nat}{idx:aac}{B0:Hp}{fps:Nat->List Addr}{δ:Dl}{b:St}{H:Hp}(o:Ok K B0 Γ fps δ b H):Ok K H [] (fun j=>match (dP k idx δ)[j]? with|some (some _)=>fps (idx.getD (j - k) 0)|_=>[]) (dP k idx δ) (gr k idx b) H:=by
 refine⟨by simp [dP,gr,DY],SB.refl o.b0.now,fun i d e=>?_,fun i h=>?_,fun _ h=>(nomatch h),fun _ h=>(nomatch h)⟩
 .rw[e]
  unfold dP at e
  unfold gr DY
  by_cases hi:i<k
  .rw[Mp (by simpa using hi)] at e
   simp [hi] at e
  .rw[MD (by simpa using hi),Mw,Mc] at e
   cases ej:idx[i - k]? with
   |none=>rw[ej] at e;simp at e
   |some j =>
    rw[ej] at e
    simp only[Option.map_some,Option.some.injEq] at e
    have g:δ[j]?=some (some d):=by
     cases q:δ[j]? with
     |none=>rw[q] at e;cases e
     |some x=>rw[q] at e;simp at e;rw[e]
    obtain ⟨v,f,c⟩:=o.val j d g
    refine⟨v,?_,?_⟩
    .rw[MD (by simpa using hi),Mw,Mc,ej]
     simp [f]
    .show Rf K H d v (fps (idx.getD (i - k) 0))
     rw[gV,ej]
     exact c
 .show (match (dP k idx δ)[i]? with|some (some _)=>_|_=>_)=_
  split
  .exact absurd (by assumption) (h _)
  .rfl
def jW(f:D->Dl->(Dl->Prop)->Prop)(e:DT)(g:DE)(δ:Dl)(x:D)(R:List D->Prop):Prop:=f x δ fun c=>e c fun b=>if b=true then g c fun y=>R [y] else R []
def oW(c:DI)(e:D->Dl->(Dl->Prop)->Prop)(b:DT)(f:DE)(k:Nat)(idx:aac)(δ:Dl)(P:DK):Prop:=c δ fun ds=>ds.length<=1000/\v7 (jW e b f (dP k idx δ)) ds [] fun ys=>P (.lst ys)
def Aq{Γ':aac}{g:TG}{f:D->Dl->(Dl->Prop)->Prop}{i:TT}{e:DT}(j:GT K Γ' g f)(ht:TR K Γ' i e)(hm:∀δ (P c:DK),(∀x,P x->c x)->de δ P->de δ c)(δ:Dl):∀x P c,(∀z,P z->c z)->jW f e de δ x P->jW f e de δ x c :=
 fun x P c k h=>j.mono _ _ _ _ (fun l h=>ht.mono _ _ _ (fun b h=>cY (hm _ _ _ fun y h=>k _ h) (k _) h) h) h
def sy{U:TI}{di:DI}{g:TG}{R:D->Dl->(Dl->Prop)->Prop}{X:TT}{O:DT}{k:Nat}{idx:aac}(hi:IT K [] U di)(I:GT K [] g R)(ht:TR K [] X O)(L:EM K [] [] te de) :
  EM K Γ [] (Ah U g X te k idx) (oW di R O de k idx):=by
 have hm:=Aq I ht L.mono
 refine⟨fun δ P P' k h=>hi.mono _ _ _ (fun ds z=>⟨z.1,uh (hm _) _ _ _ _ (fun ys h=>k _ h) z.2⟩) h,fun {B0 fps δ σ H Q} o h=>hi.run (o.sub (Γ':=[]) fun _ h=>(nomatch h)) (hi.mono _ _ _ (fun ds z J C fq t n1 TX=>?_) h)⟩
 have M:Iy K J C ds:=TX C (Same.refl _) (fun _ _=>rfl) fun a u e im=>e
 obtain ⟨hz,z⟩:=z
 refine⟨fun i m vs j=>m=ds.length - i/\i<=ds.length/\Same C j/\vs.length<=i/\∃ys fp,Rfs K j ys vs fp/\Nw C j nf [] fp/\v7 (jW R O de (dP k idx δ)) (ds.drop i) ys fun ys=>∀v H' fp,Same H H'->Rf K H' (.lst ys) v fp->Nw H H' fps [] fp->Q v H',
  ⟨ds.length,by omega,NL _,Same.refl _,NL _,[],[],⟨rfl,rfl⟩,Nw.nil,by rw[OO];exact z⟩,?_⟩
 rintro i m vs j ⟨rfl,hi2,f,UX,ys,fp,E,n2,s⟩
 by_cases r:i<ds.length
 .refine .inr ⟨M.go f r,nQ (by omega),_,fun SS H' q=>q,fun x H3 hy=>?_⟩
  obtain ⟨n,fx,r3,n3⟩:=M.yld f hy (dz r)
  rw[M5 r] at s
  have oi:=(LF (k:=k) (idx:=idx) ((o.same t).same (f.trans n)))
  refine I.run oi r3 (fun _ h=>(nomatch h)) (I.mono _ _ _ _ (fun δ' c Z σ' Y e'=>?_) s)
  refine ht.run Y (ht.mono _ _ _ (fun b c H4 l=>cY (fun c=>L.run (Y.same l) (L.mono _ _ _ (fun y c v H5 f5 s5 r5 B=>?_) c)) (fun c=>?_) c) c)
  .have S:=n.trans (l.trans s5)
   refine⟨ds.length - (i+1),by omega,rfl,r,f.trans S,by simp;omega,ys++[y],fp++f5,(E.same S).append (Rfs.one r5),⟨?_,fun a ha=>?_,fun a ha=>?_⟩,c⟩
   .refine Ms.mpr ⟨n2.nd,B.nd,fun a h1 b h2 e=>?_⟩
    subst e
    exact ((n2.mu a h1).same (n.trans l)).some (B.fresh a h2)
   .rcases Mf.mp ha with h|h
    .exact (n2.mu a h).same S
    .exact B.mu a h
   .rcases Mf.mp ha with h|h
    .exact n2.src a h
    .exact .inl ((f.trans (n.trans l)).free (B.fresh a h))
  .have T:=n.trans l
   dsimp only at c
   rw[ML] at c
   exact⟨ds.length - (i+1),by omega,rfl,r,f.trans T,by omega,ys,fp,E.same T,n2.same T,c⟩
 .have e:i=ds.length:=by omega
  subst e
  rw[N9] at s
  refine .inl ⟨M.stop f (Mm _),nQ (by omega),fun p G=>?_⟩
  have F:Same j (upd j p (.lst vs)):=Same.kR G
  refine s _ _ (p::fp) ((t.trans f).trans F) ⟨p,vs,fp,rfl,az,rfl,E.same F⟩ ⟨Mn.mpr ⟨fun h=>(n2.mu p h).some G,n2.nd⟩,fun a ha=>?_,fun a ha=>?_⟩
  .rcases Mb.mp ha with e|h
   .subst e;exact .inl ⟨vs,az⟩
   .exact (n2.mu a h).same F
  .rcases Mb.mp ha with e|h
   .subst e;exact .inl ((t.trans f).free G)
   .exact .inl (t.free (n2.fresh a h))
def Hs(b:Dl)(P:Bool->Prop):Prop:=P true
def Kl:TR K Γ IP Hs:=⟨fun _ _ _ k h=>k _ h,fun {_ _ _ _ H _} o q=>q H (Same.refl H)⟩
def aJ(N:List Str)(ds:List D):Dl:=ds.map some++List.replicate (N.length - ds.length) none
theorem Rfs.split{H:Hp}:∀{ds:List D}{vs:List V}{fp:List Addr},Rfs K H ds vs fp->∃fps:Nat->List Addr,(∀i d,ds[i]?=some d->∃v,vs[i]?=some v/\Rf K H d v (fps i))/\∀i,ds.length<=i->fps i=[]
 |[],vs,fp,h=>⟨fun _=>[],fun i d e=>by simp at e,fun _ _=>rfl⟩
 |d::ds,vs,fp,h=>by
  obtain ⟨x,r,f,g,rfl,rfl,c,b⟩:=h
  obtain ⟨fps,k1,k2⟩:=Rfs.split b
  refine⟨fun i=>match i with|0=>f|j+1=>fps j,fun i d' e=>?_,fun i hi=>?_⟩
  .cases i with
   |zero=>simp at e;subst e;exact⟨x,rfl,c⟩
   |succ j=>simpa using k1 j d' (by simpa using e)
  .cases i with
   |zero=>simp at hi
   |succ j=>exact k2 j (by simpa using hi)
def mO{N:List Str}{ds:List D}{vs:List V}{H:Hp}(h:Rps K H ds vs)(tv:gw K H):∃fps,Ok K H [] fps (aJ N ds) (L2.start N vs) H:=by
 obtain ⟨fp,h⟩:=h
 have hl:=h.length
 obtain ⟨fps,k1,k2⟩:=h.split
 refine⟨fps,by simp [aJ,L2.start,hl],SB.refl tv,fun i d e=>?_,fun i e=>?_,fun _ h=>(nomatch h),fun _ h=>(nomatch h)⟩
 .unfold aJ at e
  unfold L2.start
  by_cases hi:i<ds.length
  .rw[Mp (by simpa using hi),Mc,dz hi] at e
   simp at e
   obtain ⟨v,c,b⟩:=k1 i d (by rw[dz hi,e])
   exact⟨v,by rw[Mp (by simpa [hl] using hi),Mc,c];rfl,b⟩
  .rw[MD (by simpa using hi),MQ] at e
   split at e<;>cases e
 .by_cases hi:i<ds.length
  .refine absurd ?_ (e ds[i])
   unfold aJ
   rw[Mp (by simpa using hi),Mc,dz hi]
   rfl
  .exact k2 i (by omega)
abbrev qT(P:DK):bc:=⟨fun _=>P .non,fun x _=>P x,fun _=>False,fun _=>False⟩
def bb{N:List Str}{S:DSp}(b:ST K true [] [] t [] Γn d)(hd:∀ds P,S ds P->d (qT P) (aJ N ds)) :
  ∀{vs H Q E},spP K S vs H Q E->t { nx:=fun _ H'=>Q .non H',rt:=Q } (L2.start N vs) H:=by
 rintro vs H Q E ⟨ds,r,tv,h⟩
 obtain ⟨fps,o⟩:=mO (N:=N) r tv
 refine b (E:=qT _) ⟨fun {fps δ c H'} o z=>?_,fun o (z:False)=>z.elim,fun o (z:False)=>z.elim,fun o r i z=>?_⟩ o (hd ds _ h)
 .exact z _ H' [] o.b0 ⟨rfl,rfl⟩ Nw.nil
 .exact z _ _ _ o.b0 r ⟨(i rfl).nd,(i rfl).mu,fun a ha=>.inl ((i rfl).nw a ha)⟩
end
end L3
namespace L3
open PySem L2
section
variable {K:aad}{ρ:Bool}{Γr Γl Γ M:aac}{t u:TS}{te tx t1 t2:TE}{de dx d1 d2:DE}{d e:DS}
variable {B0:Hp}{fps:Nat->List Addr}{δ:Dl}{σ:St}{H H':Hp}
def Ok.xu(o:Ok K B0 Γ fps δ σ H){i:Nat}(hi:i∈Γ){d':D}{v:V}{fp':List Addr}(g:σ[i]?=some (some v))(r:Rf K H' d' v fp')(nd:fp'.Nodup)(mu:∀a∈fp',Mu H' a)
  (src:∀a∈fp',a∈fps i\/(B0 a=none/\∀j,a∉fps j)) (p:SB K B0 H') (keep:∀b u,b∉fps i->H b=some u->NT u->H' b=some u) :
  Ok K B0 Γ (fun j=>if j=i then fp' else fps j) (δ.set i (some d')) σ H':=by
 have m:i<δ.length:=by rw[<- o.len];exact (Ma.mp g).1
 refine⟨by simp [o.len],p,fun j d e=>?_,fun j h=>?_,fun j hj=>?_,fun j hj k c a ha=>?_⟩
 .by_cases h:j=i
  .subst h
   rw[MU] at e
   simp [m] at e
   subst e
   exact⟨v,g,by rw[if_pos rfl];exact r⟩
  .rw[KE (MI h)] at e
   obtain ⟨w,s,q⟩:=o.val j d e
   refine⟨w,s,?_⟩
   rw[if_neg h]
   exact q.lL (fun a ha u e n=>keep a u (fun z=>o.dj i hi j h a z ha) e n) fun a u e f=>keep a u (fun z=>((o.own i hi).2 a z).2.lM u e f) e (by rcases f with ⟨_,rfl⟩|⟨_,_,rfl⟩|⟨_,_,rfl⟩<;>trivial)
 .by_cases h':j=i
  .subst h'
   exact absurd (by rw[MU];simp [m]) (h d')
  .rw[if_neg h']
   exact o.non j fun d z=>h d (by rw[KE (MI h')];exact z)
 .by_cases h:j=i
  .subst h
   rw[if_pos rfl]
   refine⟨nd,fun a ha=>⟨?_,mu a ha⟩⟩
   rcases src a ha with z|z
   .exact ((o.own j hi).2 a z).1
   .exact z.1
  .rw[if_neg h]
   refine⟨(o.own j hj).1,fun a ha=>⟨((o.own j hj).2 a ha).1,?_⟩⟩
   have hn:a∉fps i:=fun z=>o.dj i hi j h a z ha
   rcases ((o.own j hj).2 a ha).2 with ⟨x,z⟩|⟨x,z⟩|⟨x,z⟩|⟨C,dx,fs,z⟩
   .exact .inl ⟨x,keep a _ hn z trivial⟩
   .exact .inr (.inl ⟨x,keep a _ hn z trivial⟩)
   .exact .inr (.inr (.inl ⟨x,keep a _ hn z trivial⟩))
   .exact .inr (.inr (.inr ⟨C,dx,fs,keep a _ hn z trivial⟩))
 .by_cases h:j=i
  .subst h
   rw[if_pos rfl] at ha
   rw[if_neg c]
   rcases src a ha with z|z
   .exact o.dj j hi k c a z
   .exact z.2 k
  .rw[if_neg h] at ha
   by_cases l:k=i
   .rw[if_pos l]
    intro z
    rcases src a z with y|y
    .exact o.dj j hj i (MI h) a ha y
    .exact y.2 j ha
   .rw[if_neg l]
    exact o.dj j hj k c a ha
def iF(δ:Dl)(i:Nat)(P:List D->Prop):Prop:=match δ[i]? with|some (some (.lst ds))=>P ds|_=>False
def Ok.write(o:Ok K B0 Γ fps δ σ H){i:Nat}(hi:i∈Γ){d':D}{v:V}{fp':List Addr}(c:σ[i]?=some (some v))(r:Rf K H' d' v fp')(nd:fp'.Nodup)(mu:∀a∈fp',Mu H' a)
  (src:∀a∈fp',a∈fps i\/(B0 a=none/\∀j,a∉fps j)) (keep:∀b u,b∉fps i->H b=some u->H' b=some u) :
  Ok K B0 Γ (fun j=>if j=i then fp' else fps j) (δ.set i (some d')) σ H':=o.xu hi c r nd mu src (o.b0.keep (fun a ha=>(o.own i hi).2 a ha) keep) fun b u n e _=>keep b u n e
def dq{δ:Dl}{i:Nat}{P:List D->Prop}(h:iF δ i P):∃ds,δ[i]?=some (some (.lst ds))/\P ds:=by
 unfold iF at h;split at h
 .exact⟨_,by assumption,h⟩
 .exact h.elim
def Ok.wM(o:Ok K B0 Γ fps δ σ H){i:Nat}{ds:List D}(e:δ[i]?=some (some (.lst ds))):∃a xs b,σ[i]?=some (some (.ref a))/\H a=some (.lst xs)/\fps i=a::b/\Rfs K H ds xs b:=by
 obtain ⟨v,h,a,xs,b,rfl,g,f,c⟩:=o.val i _ e
 exact⟨a,xs,b,h,g,f,c⟩
def sj{a:Addr}{w:HO}{fp:List Addr}(ha:a∈fp):∀b u,b∉fp->H b=some u->upd H a w b=some u:=fun b u hb e=>by
 rw[aG (fun z=>hb (by rw[z];exact ha))];exact e
def xT(M:aac)(i:Nat)(b:DE)(E:bc)(δ:Dl):Prop:=iF δ i fun ds=>b δ fun x=>ds.length<1000/\E.nx ((kill M δ).set i (some (.lst (ds++[x]))))
def dn(i:Nat)(C:EM K Γ M te de)(hi:i∈Γ/\i∉M:=by decide)(m:∀j∈M,j∈Γ:=by decide):ST K ρ Γr Γl (v5 (tBM K "list" B7 (b7 i) (bG te iu))) Γ (minus Γ M) (xT M i de):=by
 intro B0 Dn E fps δ σ H k o h
 obtain ⟨ds,e,h⟩:=dq h
 obtain ⟨a,xs,p,l,f,g,F⟩:=o.wM e
 refine⟨.ref a,l,.inl ⟨rfl,xs,.inl (.inl f)⟩,C.run o (C.mono _ _ _ (fun x z v P fp s r n=>?_) h)⟩
 refine⟨a,xs,v,rfl,rfl,s.st _ _ f trivial,by rw[F.length];exact Mo z.1 (nQ (Mm _)),?_⟩
 have ok:=(o.kill M).same s
 have O:i∈minus Γ M:=bz.mpr hi
 have G:=o.own i hi.1
 rw[g] at G
 obtain ⟨nd,J⟩:=G
 obtain ⟨na,L⟩:=Mn.mp nd
 have t:∀b∈fp,b≠a/\b∉p:=fun b hb=>by
  have:b∉fps i:=fun z=>by
   rcases n.src b hb with y|⟨j,hj,y⟩
   .exact o.dom z y
   .exact o.dj j (m j hj) i (fun w=>hi.2 (by rw[w];exact hj)) b y z
  rw[g] at this
  exact⟨fun z=>this (by rw[z];exact Fk),fun z=>this (ox _ z)⟩
 have nt:=((J a Fk).2.same s).lM
 refine k.nx (ok.write O (d':=.lst (ds++[x])) (fp':=a::(p++fp)) l ⟨a,xs++[v],p++fp,rfl,az,rfl,?_⟩ ?_ (fun b hb=>?_) (fun b hb=>?_) ?_) z.2
 .exact ((F.same s).upd na nt).append ((Rfs.one r).upd (fun w=>(t a w).1 rfl) nt)
 .refine Mn.mpr ⟨fun w=>?_,Ms.mpr ⟨L,n.nd,fun b l c f z=>?_⟩⟩
  .rcases Mf.mp w with w|w
   .exact na w
   .exact (t a w).1 rfl
  .subst z;exact (t b f).2 l
 .refine Mu.upd ?_ (.inl ⟨_,rfl⟩)
  rcases Mb.mp hb with w|w
  .subst w;exact .inl ⟨xs,s.st _ _ f trivial⟩
  .rcases Mf.mp w with w|w
   .exact (J b (ox _ w)).2.same s
   .exact n.mu b w
 .show b∈(if i∈M then [] else fps i)\/_
  rw[if_neg hi.2,g]
  rcases Mb.mp hb with w|w
  .subst w;exact .inl Fk
  .rcases Mf.mp w with w|w
   .exact .inl (ox _ w)
   .refine .inr ⟨?_,fun j=>?_⟩
    .rcases n.src b w with y|⟨j,hj,y⟩
     .exact o.b0.free y
     .exact ((o.own j (m j hj)).2 b y).1
    .show b∉(if j∈M then [] else fps j)
     split
     .exact Mr
     .rename_i hj
      intro z
      rcases n.src b w with y|⟨B,I,y⟩
      .exact o.dom z y
      .exact o.dj B (m B I) j (fun q=>hj (by rw[q];exact I)) b y z
 .show ∀b u,b∉(if i∈M then [] else fps i)->_
  rw[if_neg hi.2,g]
  exact sj Fk
theorem Rfs.set{H:Hp}{x:D}{v:V}{fp:List Addr}(r:Rf K H x v fp)(nd:fp.Nodup):∀{ds:List D}{xs:List V}{c:List Addr}{j:Nat},Rfs K H ds xs c->c.Nodup->(∀a∈fp,a∉c)->j<ds.length ->
  ∃e,Rfs K H (ds.set j x) (xs.set j v) e/\e.Nodup/\∀a∈e,a∈c\/a∈fp
 |[],xs,c,j,h,_,_,hj=>by simp at hj
 |d::ds,xs,c,j,h,hn,hd,hj=>by
  obtain ⟨y,ys,l,i,rfl,rfl,o,g⟩:=h
  obtain ⟨n1,n2,n⟩:=Ms.mp hn
  cases j with
  |zero =>
   refine⟨fp++i,⟨v,ys,fp,i,rfl,rfl,r,g⟩,Ms.mpr ⟨nd,n2,fun a ha b hb z=>?_⟩,fun a ha=>?_⟩
   .subst z;exact hd a ha (L9 _ hb)
   .exact (Mf.mp ha).elim .inr fun z=>.inl (L9 _ z)
  |succ j =>
   obtain ⟨e,m,p,f⟩:=Rfs.set r nd (j:=j) g n2 (fun a ha z=>hd a ha (L9 _ z)) (by simpa using hj)
   refine⟨l++e,⟨y,ys.set j v,l,e,rfl,rfl,o,m⟩,Ms.mpr ⟨n1,p,fun a ha b hb z=>?_⟩,fun a ha=>?_⟩
   .subst z
    rcases f a hb with w|w
    .exact n a ha a w rfl
    .exact hd a w (Mg _ ha)
   .rcases Mf.mp ha with w|w
    .exact .inl (Mg _ w)
    .exact (f a w).imp (L9 _) id
def tX(i:Nat)(b dx:DE)(E:bc)(δ:Dl):Prop:=b δ fun x=>iF δ i fun ds=>dx δ fun k=>asI [k] fun n=>match ixN ds.length n with|some j=>E.nx (δ.set i (some (.lst (ds.set j x))))|none=>False
def AZ{n:Nat}{i:Int}{j:Nat}(h:ixN n i=some j):j<n:=by
 unfold ixN at h
 split at h
 .split at h
  .cases h;omega
  .cases h
 .split at h
  .cases h;omega
  .cases h
def Bf(o:Ok K B0 Γ fps δ σ H){i j:Nat}(hi:i∈Γ){ds:List D}{x:D}{v:V}{fp:List Addr}(e:δ[i]?=some (some (.lst ds)))(r:Rf K H x v fp)(nd:fp.Nodup)(mu:∀a∈fp,Mu H a)(src:∀a∈fp,B0 a=none/\∀j,a∉fps j)(hj:j<ds.length) :
  ∃a xs,σ[i]?=some (some (.ref a))/\H a=some (.lst xs)/\xs.length=ds.length/\∃c,Ok K B0 Γ c (δ.set i (some (.lst (ds.set j x)))) σ (upd H a (.lst (xs.set j v))):=by
 obtain ⟨a,xs,E,p,n,f,m⟩:=o.wM e
 have s:=o.own i hi
 rw[f] at s
 obtain ⟨B,t⟩:=s
 obtain ⟨na,y⟩:=Mn.mp B
 have nt:=(t a Fk).2.lM
 have h:∀b∈fp,b∉fps i:=fun b hb=>(src b hb).2 i
 rw[f] at h
 obtain ⟨l,u,C,g⟩:=Rfs.set r nd m y (fun b hb z=>h b hb (ox _ z)) hj
 have q:a∉l:=fun z=>(g a z).elim na fun w=>h a w Fk
 refine⟨a,xs,p,n,m.length,_,o.write hi (fp':=a::l) p ⟨a,xs.set j v,l,rfl,az,rfl,u.upd q nt⟩ (Mn.mpr ⟨q,C⟩) (fun b hb=>Mu.upd ?_ (.inl ⟨_,rfl⟩)) (fun b hb=>?_) ?_⟩
 .rcases Mb.mp hb with w|w
  .subst w;exact .inl ⟨xs,n⟩
  .rcases g b w with w|w
   .exact (t b (ox _ w)).2
   .exact mu b w
 .rw[f]
  rcases Mb.mp hb with w|w
  .subst w;exact .inl Fk
  .rcases g b w with w|w
   .exact .inl (ox _ w)
   .exact .inr (src b w)
 .rw[f];exact sj Fk
def bC{x:D}{P:Int->Prop}(h:asI [x] P):∃j,x=.int j/\P j:=by
 obtain ⟨j,e,h⟩:=yh h;cases e;exact⟨j,rfl,h⟩
theorem nP(i:Nat)(g:EM K Γ [] te de)(f:ER K Γ tx dx)(hi:i∈Γ:=by decide):ST K ρ Γr Γl (jZ te (AB (b7 i) tx sJ)) Γ Γ (tX i de dx):=by
 intro B0 Dn E fps δ σ H k o h
 refine g.run o (g.mono _ _ _ (fun x z v C fp s r n=>?_) h)
 obtain ⟨ds,e,z⟩:=dq z
 obtain ⟨a0,_,_,l,_⟩:=(o.same s).wM e
 refine⟨.ref a0,l,f.run (o.same s) (f.mono _ _ _ (fun y z w B c q=>?_) z)⟩
 obtain ⟨m,em,b⟩:=bC z
 subst em
 cases ej:ixN ds.length m with
 |none=>rw[ej] at b;exact b.elim
 |some j =>
  rw[ej] at b
  obtain ⟨a,xs,e1,e2,u,p,t⟩:=Bf ((o.same s).same c) hi e (r.same c) n.nd (fun a ha=>(n.mu a ha).same c) (fun a ha=>⟨o.b0.free (n.fresh a ha),fun j z=>o.dom z (n.fresh a ha)⟩) (AZ ej)
  rw[l] at e1;cases e1
  exact⟨a0,xs,m,j,rfl,q.int,e2,by rw[u];exact ej,k.nx t b⟩
theorem Rfs.inner{H:Hp}:∀{ds:List D}{xs:List V}{i:List Addr}{j:Nat}{es:List D},Rfs K H ds xs i->i.Nodup->ds[j]?=some (.lst es) ->
  ∃b ys g,xs[j]?=some (.ref b)/\H b=some (.lst ys)/\Rfs K H es ys g/\b∈i/\(∀a∈g,a∈i)/\b∉g/\g.Nodup /\
   ∀{H':Hp}{es':List D}{ys':List V}{fe':List Addr},(∀c u,c≠b->H c=some u->H' c=some u)->H' b=some (.lst ys')->(∀u,H b=some u->¬ Im u)->Rfs K H' es' ys' fe'->fe'.Nodup->b∉fe'->(∀a∈fe',a∈g\/a∉i) ->
    ∃m,Rfs K H' (ds.set j (.lst es')) xs m/\m.Nodup/\∀a∈m,a∈i\/a∈fe'
 |[],xs,i,j,es,h,_,e=>by simp at e
 |d::ds,xs,i,j,es,h,hn,e=>by
  obtain ⟨y,ys,t,B,rfl,rfl,x,v⟩:=h
  obtain ⟨n1,n2,l⟩:=Ms.mp hn
  cases j with
  |zero =>
   simp at e;subst e
   obtain ⟨b,o,g,rfl,hb,rfl,s⟩:=x
   obtain ⟨I,G⟩:=Mn.mp n1
   refine⟨b,o,g,rfl,hb,s,Mg _ Fk,fun a ha=>Mg _ (ox _ ha),I,G,fun {H' es' ys' fe'} k1 k2 k3 q k5 p n=>?_⟩
   refine⟨(b::fe')++B,⟨_,ys,b::fe',B,rfl,rfl,⟨b,ys',fe',rfl,k2,rfl,q⟩,?_⟩,Ms.mpr ⟨Mn.mpr ⟨p,k5⟩,n2,fun a ha c f z=>?_⟩,fun a ha=>?_⟩
   .exact v.mono (fun c f u e=>k1 c u (fun z=>l b Fk c f z.symm) e) fun c u e r=>k1 c u (fun z=>k3 u (by rw[<- z];exact e) r) e
   .subst z
    rcases Mb.mp ha with w|w
    .exact l a (by rw[w];exact Fk) a f rfl
    .rcases n a w with w|w
     .exact l a (ox _ w) a f rfl
     .exact w (L9 _ f)
   .rcases Mf.mp ha with w|w
    .rcases Mb.mp w with w|w
     .exact .inl (Mg _ (by rw[w];exact Fk))
     .exact .inr w
    .exact .inl (L9 _ w)
  |succ j =>
   obtain ⟨b,o,g,e1,hb,s,E,C,L,O,P⟩:=Rfs.inner (j:=j) v n2 (by simpa using e)
   refine⟨b,o,g,by simpa using e1,hb,s,L9 _ E,fun a ha=>L9 _ (C a ha),L,O,fun {H' es' ys' fe'} k1 k2 k3 q k5 p n=>?_⟩
   obtain ⟨m,F,M,s'⟩:=P k1 k2 k3 q k5 p fun a ha=>(n a ha).imp id fun w z=>w (L9 _ z)
   have J:Rf K H' d y t:=x.mono (fun c f u e=>k1 c u (fun z=>l c f b E z) e) fun c u e r=>k1 c u (fun z=>k3 u (by rw[<- z];exact e) r) e
   refine⟨t++m,⟨y,ys,t,m,rfl,rfl,J,F⟩,Ms.mpr ⟨n1,M,fun a ha c f z=>?_⟩,fun a ha=>?_⟩
   .subst z
    rcases s' a f with w|w
    .exact l a ha a w rfl
    .rcases n a w with w|w
     .exact l a ha a (C a w) rfl
     .exact w (Mg _ ha)
   .rcases Mf.mp ha with w|w
    .exact .inl (Mg _ w)
    .exact (s' a w).imp (L9 _) id
def ko(o:Ok K B0 Γ fps δ σ H){i j:Nat}(hi:i∈Γ){ds es es':List D}(e:δ[i]?=some (some (.lst ds)))(E:ds[j]?=some (.lst es)) :
  ∃a xs b ys h,σ[i]?=some (some (.ref a))/\H a=some (.lst xs)/\xs.length=ds.length/\xs[j]?=some (.ref b)/\H b=some (.lst ys)/\Rfs K H es ys h/\h.Nodup/\b∉h/\(∀a∈h,a∈fps i)/\b∈fps i /\
   ∀{ys':List V}{fe':List Addr},Rfs K H es' ys' fe'->fe'.Nodup->b∉fe'->(∀c∈fe',Mu H c)->(∀c∈fe',c∈h\/(B0 c=none/\∀j,c∉fps j))->∃l,Ok K B0 Γ l (δ.set i (some (.lst (ds.set j (.lst es'))))) σ (upd H b (.lst ys')):=by
 obtain ⟨a,xs,Q,v,p,g,t⟩:=o.wM e
 have x:=o.own i hi
 rw[g] at x
 obtain ⟨I,y⟩:=x
 obtain ⟨na,G⟩:=Mn.mp I
 obtain ⟨b,ys,h,e1,hb,C,m,q,J,M,P⟩:=t.inner G E
 refine⟨a,xs,b,ys,h,v,p,t.length,e1,hb,C,M,J,fun c f=>by rw[g];exact ox _ (q c f),by rw[g];exact ox _ m,fun {ys' fe'} r nd nb mu src=>?_⟩
 have nt:=(y b (ox _ m)).2.lM
 have O:a≠b:=fun z=>na (by rw[z];exact m)
 obtain ⟨s,B,L,n⟩:=P (H':=upd H b (.lst ys')) (fun c u f e=>by rw[aG f];exact e) az nt (r.upd nb nt) nd nb fun c f=>(src c f).imp id fun w z=>w.2 i (by rw[g];exact ox _ z)
 have F:a∉s:=fun z=>by
  rcases n a z with w|w
  .exact na w
  .rcases src a w with w|w
   .exact na (q a w)
   .exact w.2 i (by rw[g];exact Fk)
 refine⟨_,o.write hi (fp':=a::s) v ⟨a,xs,s,rfl,by rw[aG O];exact p,rfl,B⟩ (Mn.mpr ⟨F,L⟩) (fun c f=>Mu.upd ?_ (.inl ⟨_,rfl⟩)) (fun c f=>?_) ?_⟩
 .rcases Mb.mp f with w|w
  .subst w;exact .inl ⟨xs,p⟩
  .rcases n c w with w|w
   .exact (y c (ox _ w)).2
   .exact mu c w
 .rw[g]
  rcases Mb.mp f with w|w
  .subst w;exact .inl Fk
  .rcases n c w with w|w
   .exact .inl (ox _ w)
   .rcases src c w with w|w
    .exact .inl (ox _ (q c w))
    .exact .inr w
 .rw[g];exact sj (ox _ m)
def nI(o:Option D)(P:List D->Prop):Prop:=match o with|some (.lst es)=>P es|_=>False
def iO{o:Option D}{P:List D->Prop}(h:nI o P):∃es,o=some (.lst es)/\P es:=by
 unfold nI at h;split at h
 .exact⟨_,rfl,h⟩
 .exact h.elim
def qi(i:Nat)(e g f:DE)(E:bc)(δ:Dl):Prop:=e δ fun x=>iF δ i fun ds=>g δ fun k=>asI [k] fun m=>nI (atI ds m) fun es=>f δ fun k2=>asI [k2] fun b=>match ixN ds.length m,ixN es.length b with|some j,some c=>E.nx (δ.set i (some (.lst (ds.set j (.lst (es.set c x))))))|_,_=>False
theorem qY(i:Nat)(M:EM K Γ [] te de)(P:ER K Γ t1 d1)(O:ER K Γ t2 d2)(hi:i∈Γ:=by decide):ST K ρ Γr Γl (jZ te (AB (tOp (yg K) (b7 i) t1) t2 sJ)) Γ Γ (qi i de d1 d2):=by
 intro B0 Dn E fps δ σ H k o h
 refine M.run o (M.mono _ _ _ (fun x z v H1 fp s r n=>?_) h)
 obtain ⟨ds,e,z⟩:=dq z
 obtain ⟨a0,xs0,fq0,C,_⟩:=(o.same s).wM e
 refine⟨.ref a0,C,P.run (o.same s) (P.mono _ _ _ (fun y z w H2 t r2=>?_) z)⟩
 obtain ⟨m,em,q⟩:=bC z
 subst em
 obtain ⟨es,f,q⟩:=iO q
 cases ejj:ixN ds.length m with
 |none=>unfold atI at f;rw[ejj] at f;cases f
 |some j =>
  have u:=(o.same s).same t
  have Z:ds[j]?=some (.lst es):=by unfold atI at f;rw[ejj] at f;exact f
  obtain ⟨a,xs,b,ys,fe,e1,e2,e3,Y,e5,e6,e7,e8,e9,_,KK⟩:=ko (es':=[]) u hi e Z
  rw[C] at e1;cases e1
  refine⟨a0,xs,m,.ref b,rfl,r2.int,.inl (.inl e2),by unfold atI;rw[e3,ejj];exact Y,O.run u (O.mono _ _ _ (fun y2 z w2 H3 p r3=>?_) q)⟩
  obtain ⟨J,G,g⟩:=bC z
  subst G
  rw[ejj] at g
  cases ej2:ixN es.length J with
  |none=>rw[ej2] at g;exact g.elim
  |some L =>
   rw[ej2] at g
   have I:=u.same p
   obtain ⟨a',Qk,b',ys',fe',X,U,f3,T,f5,S,f7,f8,R,F,KK⟩:=ko (es':=es.set L x) I hi e Z
   rw[C] at X;cases X
   rw[p.st _ _ e2 trivial] at U;cases U
   rw[Y] at T;cases T
   have r4:=r.same (t.trans p)
   have src:∀c∈fp,B0 c=none/\∀j,c∉fps j:=fun a ha=>⟨o.b0.free (n.fresh a ha),fun j z=>o.dom z (n.fresh a ha)⟩
   obtain ⟨Qi,r',Rx,B⟩:=Rfs.set r4 n.nd S f7 (fun c l z=>(src c l).2 i (R c z)) (AZ ej2)
   have ZU:∀c∈Qi,Mu H3 c:=fun c l=>by
    rcases B c l with w|w
    .exact ((I.own i hi).2 c (R c w)).2
    .exact (n.mu c w).same (t.trans p)
   obtain ⟨Q,o'⟩:=KK r' Rx (fun z=>(B b z).elim f8 fun w=>(src b w).2 i F) ZU (fun c l=>(B c l).imp id fun w=>src c w)
   exact⟨b,ys',J,L,rfl,r3.int,f5,by rw[S.length];exact ej2,k.nx o' g⟩
def cutD(ds:List D)(lo hi:Option Int):List D:=(ds.drop (HT.sIx ds.length 0 lo)).take (HT.sIx ds.length ds.length hi - HT.sIx ds.length 0 lo)
abbrev DO:=Dl->(Option Int->Prop)->Prop
structure OR(K:aad)(Γ:aac)(t:TO)(d:DO):Prop where
 mono:∀δ (P P':Option Int->Prop),(∀x,P x->P' x)->d δ P->d δ P'
 run:∀{B0 fps δ σ H Q},Ok K B0 Γ fps δ σ H->d δ (fun x=>∀H',Same H H'->Q x H')->t σ H Q
def xS(b:Dl)(P:Option Int->Prop):Prop:=P none
def Fm(d:DE)(δ:Dl)(P:Option Int->Prop):Prop:=d δ fun x=>asI [x] fun i=>P (some i)
def or_none:OR K Γ xo xS:=⟨fun _ _ _ k h=>k _ h,fun {_ _ _ _ H _} o q=>q H (Same.refl H)⟩
def or_some(h:ER K Γ te de):OR K Γ (GR te) (Fm de):=⟨fun δ P b k q=>h.mono _ _ _ (fun x z=>by obtain ⟨j,rfl,z⟩:=bC z;exact k _ z) q,
 fun o q=>h.run o (h.mono _ _ _ (fun x z v H' s r=>by obtain ⟨j,rfl,z⟩:=bC z;exact⟨j,r.int,z H' s⟩) q)⟩
def vSl(c:DE)(dl b:DO)(δ:Dl)(P:DK):Prop:=c δ fun x=>dl δ fun l=>b δ fun u=>asL x fun ds=>ds.all D.aP=true/\P (.lst (cutD ds l u))
def Hz{ds:List D}{lo hi:Option Int}:uX (ds.map D.toV) lo hi=(cutD ds lo hi).map D.toV:=by
 unfold uX cutD
 rw[mo,List.map_take,List.map_drop]
def EJ{ds:List D}{lo hi:Option Int}(h:ds.all D.aP=true):(cutD ds lo hi).all D.aP=true:=by
 unfold cutD
 rw[M4] at h ⊢
 exact fun x b=>h x (List.mem_of_mem_drop (N3 b))
def C4{m n:TO}{dl r:DO}(j:ER K Γ te de)(hl:OR K Γ m dl)(i:OR K Γ n r):EM K Γ [] (tSl (Kn K) te m n) (vSl de dl r) :=
 ⟨fun δ P F k h=>j.mono _ _ _ (fun x z=>hl.mono _ _ _ (fun l z=>i.mono _ _ _ (fun u z=>by obtain ⟨ds,e,z⟩:=cg z;exact jx e ⟨z.1,k _ z.2⟩) z) z) h,
 fun {B0 fps δ σ H Q} o h=>j.run o (j.mono _ _ _ (fun x z v I f y=>hl.run (o.same f) (hl.mono _ _ _ (fun l z G c=>i.run ((o.same f).same c) (i.mono _ _ _ (fun u z s g=>by
  obtain ⟨ds,e,z⟩:=cg z
  obtain ⟨a,xs,E,rfl,B,C⟩:=(y.same (c.trans g)).seq e
  obtain ⟨rfl,rfl⟩:=C.jf z.1
  refine⟨a,_,rfl,B,fun p q=>?_⟩
  rw[Hz]
  have t:Same s (upd s p (.lst ((cutD ds l u).map D.toV))):=Same.kR q
  refine z.2 _ _ [p] (((f.trans c).trans g).trans t) ⟨p,_,[],rfl,az,rfl,Rfs.pG (EJ z.1)⟩ ⟨by simp,fun b hb=>?_,fun b hb=>?_⟩
  .cases Gc.mp hb;exact .inl ⟨_,az⟩
  .cases Gc.mp hb;exact .inl (((f.trans c).trans g).free q)) z)) z)) h)⟩
def Hh(x:D)(y:D)(P:DK):Prop:=match x,y with|.lst a,.lst b=>(a.all D.aP=true/\b.all D.aP=true/\a.length+b.length<=1000)/\P (.lst (a++b))|_,_=>False
def K2{H:Hp}{p:Addr}{ds:List D}(h:ds.all D.aP=true)(c:H p=none):Same H (upd H p (.lst (ds.map D.toV)))/\Rf K (upd H p (.lst (ds.map D.toV))) (.lst ds) (.ref p) [p]/\Nw H (upd H p (.lst (ds.map D.toV))) nf [] [p] :=
 ⟨Same.kR c,⟨p,_,[],rfl,az,rfl,Rfs.pG h⟩,⟨by simp,fun b hb=>by cases Gc.mp hb;exact .inl ⟨_,az⟩,fun b hb=>by cases Gc.mp hb;exact .inl c⟩⟩
def Js:OpV K Ll Hh:=⟨fun x y P r k h=>by unfold Hh at h ⊢;revert h;split<;>first|exact fun h=>⟨h.1,k _ h.2⟩|exact id,fun {H x y v w Q} g f h=>by
 unfold Hh at h
 split at h
 .rename_i a b
  obtain ⟨⟨e,c,hl⟩,h⟩:=h
  obtain ⟨q,l1,xs,n,rfl,e1,_,m⟩:=g
  obtain ⟨o,l2,ys,q2,rfl,e2,_,l⟩:=f
  obtain ⟨rfl,_⟩:=m.jf e
  obtain ⟨rfl,_⟩:=l.jf c
  refine⟨l1,l2,_,_,rfl,rfl,e1,e2,by rw[mo,mo];exact nQ hl,fun p j=>?_⟩
  rw[<- MC]
  obtain ⟨n1,n2,i⟩:=K2 (K:=K) (ds:=a++b) (by rw[List.all_append,e,c];rfl) j
  exact h _ _ _ n1 n2 i
 .exact h.elim⟩
def uT(xs:List D)(k:Nat):List D:=(List.replicate k xs).flatten
def Ie(x:D)(y:D)(P:DK):Prop:=match x,y with|.lst a,.int k=>(a.all D.aP=true/\(-(2 ^ 63)<=k/\k<2 ^ 63)/\a.length*k.toNat<=1000)/\P (.lst (uT a k.toNat))|_,_=>False
def Jr:OpV K LH Ie:=⟨fun x y P u k h=>by unfold Ie at h ⊢;revert h;split<;>first|exact fun h=>⟨h.1,k _ h.2⟩|exact id,fun {H x y v w Q} g f h=>by
 unfold Ie at h
 split at h
 .rename_i a n
  obtain ⟨⟨b,⟨q,o⟩,hl⟩,h⟩:=h
  obtain ⟨t,l1,xs,s,rfl,e1,_,r⟩:=g
  obtain ⟨rfl,_⟩:=r.jf b
  refine⟨l1,n,_,rfl,f.int,e1,q,o,by rw[mo];exact nQ hl,fun p j=>?_⟩
  have:(List.replicate n.toNat (a.map D.toV)).flatten=(uT a n.toNat).map D.toV:=by unfold uT;rw[List.map_flatten,Pz]
  rw[this]
  obtain ⟨n1,n2,i⟩:=K2 (K:=K) (ds:=uT a n.toNat) (by
   rw[M4] at b ⊢
   intro x c
   unfold uT at c
   obtain ⟨l,m,e⟩:=List.mem_flatten.mp c
   rw[(List.mem_replicate.mp m).2] at e
   exact b x e) j
  exact h _ _ _ n1 n2 i
 .exact h.elim⟩
def inD(x:D)(ds:List D):Bool:=inV x.toV (ds.map D.toV)
def vIn(b:Bool)(x:D)(y:D)(P:DK):Prop:=x.aP=true/\asL y fun ds=>ds.all D.aP=true/\P (.bl (if b then !inD x ds else inD x ds))
def iP{d:D}(h:d.aP=true):gu d.toV=true:=by cases d<;>first|rfl|cases h
def DM{i:Bool}:OpV K (rIn K i) (vIn i):=⟨fun x y P p k h=>⟨h.1,by obtain ⟨ds,e,z⟩:=cg h.2;exact jx e ⟨z.1,k _ z.2⟩⟩,fun {H x y v w Q} b j h=>by
 obtain ⟨g,h⟩:=h
 obtain ⟨ds,e,f,h⟩:=cg h
 obtain ⟨o,b⟩:=b
 obtain ⟨rfl,_⟩:=b.aP g
 obtain ⟨a,xs,n,rfl,c,m⟩:=j.seq e
 obtain ⟨rfl,_⟩:=m.jf f
 refine⟨a,_,rfl,.inl c,iP g,?_,h _ H [] (Same.refl H) ⟨rfl,rfl⟩ Nw.nil⟩
 rw[Pp,M4]
 rw[M4] at f
 exact fun y l=>iP (f y l)⟩
def Du(xs:List D)(P:DK):Prop:=match xs with|[x]=>(match x with|.tup ds=>P (.int ds.length)|x=>asL x fun ds=>P (.int ds.length))|_=>False
def Rps.one{H:Hp}{x:D}{vs:List V}(h:Rps K H [x] vs):∃v,vs=[v]/\Rp K H x v:=by
 obtain ⟨fp,y,r,c,e,rfl,_,b,⟨rfl,_⟩⟩:=h
 exact⟨y,rfl,c,b⟩
def bI:nE K (fun xs H Q=>∃p ys,xs=[.ref p]/\(SqL K H p ys\/SqT K H p ys)/\Q (.int ys.length) H) Du:=⟨fun xs P i k h=>by
  unfold Du at h ⊢
  revert h
  split
  .split
   .exact fun h=>k _ h
   .exact fun h=>by obtain ⟨ds,e,z⟩:=cg h;exact jx e (k _ z)
  .exact id,
 fun {H xs vs Q} r h=>by
  unfold Du at h
  split at h
  .obtain ⟨v,rfl,f⟩:=r.one
   split at h
   .obtain ⟨a,ys,g,rfl,b,c⟩:=f.tup
    refine⟨a,ys,rfl,.inr b,?_⟩
    rw[c.length]
    exact h _ H [] (Same.refl H) ⟨rfl,rfl⟩ Nw.nil
   .obtain ⟨ds,e,h⟩:=cg h
    obtain ⟨a,ys,g,rfl,b,c⟩:=f.seq e
    refine⟨a,ys,rfl,.inl b,?_⟩
    rw[c.length]
    exact h _ H [] (Same.refl H) ⟨rfl,rfl⟩ Nw.nil
  .exact h.elim⟩
def uN{ds:List D}{P:DK}:Du [.lst ds] P↔P (.int ds.length):=M8
def zJ{ds:aab}{P:DK}:Du [.scr ds] P↔P (.int ds.length):=by
 show P (.int ((ds.map D.int).length:Nat))↔_
 rw[mo]
def iy:List D->Option aab
 |[]=>some []
 |.int i::ds=>(iy ds).map (i::·)
 |_=>none
theorem ja:∀{ns:aab},iy (ns.map D.int)=some ns
 |[]=>rfl
 |n::ns=>by rw[Ml,iy,ja];rfl
theorem vR:∀{ds:List D}{ns:aab},iy ds=some ns->ds=ns.map D.int
 |[],ns,h=>by cases h;rfl
 |.int i::ds,ns,h=>by
  rw[iy] at h
  cases e:iy ds with
  |none=>rw[e] at h;cases h
  |some b=>rw[e] at h;cases h;rw[vR e];rfl
 |.non::_,_,h=>by cases h
 |.bl _::_,_,h=>by cases h
 |.str _::_,_,h=>by cases h
 |.lst _::_,_,h=>by cases h
 |.tup _::_,_,h=>by cases h
 |.dic _::_,_,h=>by cases h
 |.dit _::_,_,h=>by cases h
 |.scr _::_,_,h=>by cases h
def Rfs.yT{H:Hp}{ns:aab}{vs:List V}{fp:List Addr}(h:Rfs K H (ns.map D.int) vs fp):vs=ns.map V.int:=by
 have b:(ns.map D.int).all D.aP=true:=by rw[Pp,M4];exact fun _ _=>rfl
 rw[(h.jf b).1,MB]
 rfl
def zv(x:D)(P:aab->Prop):Prop:=asL x fun ds=>match iy ds with|some ns=>P ns|none=>False
theorem eW{x:D}{P:aab->Prop}(h:zv x P):∃ns,x.items=some (ns.map D.int)/\P ns:=by
 obtain ⟨ds,e,h⟩:=cg h
 cases q:iy ds with
 |none=>rw[q] at h;exact h.elim
 |some ns=>rw[q] at h;rw[vR q] at e;exact⟨ns,e,h⟩
def pC{x:D}{ns:aab}{P:aab->Prop}(e:x.items=some (ns.map D.int))(h:P ns):zv x P:=by
 refine jx e ?_
 rw[ja];exact h
def IS(xs:List D)(P:DK):Prop:=match xs with|[x]=>zv x fun ns=>P (.int ns.sum)|_=>False
def l7:nE K (fun xs H Q=>∃(a:Addr) (ns:aab),xs=[.ref a]/\SqL K H a (ns.map V.int)/\Q (.int ns.sum) H) IS:=⟨fun xs P i k h=>by
  unfold IS at h ⊢
  revert h
  split
  .exact fun h=>by obtain ⟨ns,e,z⟩:=eW h;exact pC e (k _ z)
  .exact id,
 fun {H xs vs Q} r h=>by
  unfold IS at h
  split at h
  .obtain ⟨v,rfl,c⟩:=r.one
   obtain ⟨ns,e,h⟩:=eW h
   obtain ⟨a,ys,g,rfl,b,f⟩:=c.seq e
   rw[f.yT] at b
   exact⟨a,ns,rfl,b,h _ H [] (Same.refl H) ⟨rfl,rfl⟩ Nw.nil⟩
  .exact h.elim⟩
def zH(xs:List D)(P:DK):Prop:=match xs with|[x]=>asL x fun ds=>ds.all D.aP=true/\P (.lst ds)|_=>False
def l6:nE K (fun xs H Q=>∃p ys,xs=[.ref p]/\(SqL K H p ys\/SqT K H p ys)/\∀l,H l=none->Q (.ref l) (upd H l (.lst ys))) zH:=⟨fun xs P m k h=>by
  unfold zH at h ⊢
  revert h
  split
  .exact fun h=>by obtain ⟨ds,e,z⟩:=cg h;exact jx e ⟨z.1,k _ z.2⟩
  .exact id,
 fun {H xs vs Q} r h=>by
  unfold zH at h
  split at h
  .obtain ⟨v,rfl,c⟩:=r.one
   obtain ⟨ds,e,b,h⟩:=cg h
   obtain ⟨a,ys,j,rfl,g,i⟩:=c.seq e
   obtain ⟨rfl,_⟩:=i.jf b
   refine⟨a,_,rfl,.inl g,fun l hl=>?_⟩
   obtain ⟨n1,n2,f⟩:=K2 (K:=K) b hl
   exact h _ _ _ n1 n2 f
  .exact h.elim⟩
end
end L3
namespace L3
open PySem L2
open PyProof.Rows (Ordered)
section
variable {K:aad}{Γ:aac}{te ta:TE}{de da:DE}
def bw{b:TI}{c:DI}{g:TG}{e:D->Dl->(Dl->Prop)->Prop}{k:Nat}{idx:aac}(hi:IT K [] b c)(f:GT K [] g e)(h:EM K [] [] te de):EM K Γ [] (qF b g te k idx) (oW c e Hs de k idx):=by
 rw[qL];exact sy hi f Kl h
def D.tyn:D->Option String
 |.non=>some "NoneType"|.bl _=>some "bool"|.int _=>some "int"|.str _=>some "str"|.lst _=>some "list"|.tup _=>some "tuple"|.dic _=>some "dict"|.dit _=>some "dict"|.scr _=>none|.pin _ _=>none|.mem _=>none|.raw _=>none|.ins _ _ _=>none
theorem Rp.ty{H:Hp}{d:D}{v:V}{n:String}(h:Rp K H d v)(e:d.tyn=some n):ni K H v (.type n):=by
 obtain ⟨fp,h⟩:=h
 cases d with
 |non=>cases e;obtain ⟨rfl,_⟩:=h;exact .non
 |bl b=>cases e;obtain ⟨rfl,_⟩:=h;exact .bl _
 |int b=>cases e;obtain ⟨rfl,_⟩:=h;exact .int _
 |str b=>cases e;obtain ⟨rfl,_⟩:=h;exact .str _
 |lst ds=>cases e;obtain ⟨a,xs,g,rfl,c,_⟩:=h;exact .lst c
 |tup ds=>cases e;obtain ⟨a,xs,rfl,c,_⟩:=h;exact .tup c
 |dic ds=>cases e;obtain ⟨a,rfl,c,_⟩:=h;exact .dK c
 |dit ds=>cases e;obtain ⟨a,rfl,c,_⟩:=h;exact .dT c
 |scr ns=>cases e
 |pin a d=>cases e
 |mem f=>cases e
 |raw w=>cases e
 |ins C ns ds=>cases e
def isB(m n:String):Bool:=m == n || (m == "bool" && n == "int")
def yu(n:String):Prop:=∀(K:aad) (d:D) (m:String),d.tyn=some m->PySem.W.kitOne K (.type m) (.type n)=some (isB m n)
def HD:yu "int":=fun K d m e=>by cases d<;>cases e<;>first|exact pL|with_unfolding_all rfl
def El:yu "bool":=fun K d m e=>by cases d<;>cases e<;>first|exact pL|with_unfolding_all rfl
def tS:yu "list":=fun K d m e=>by cases d<;>cases e<;>first|exact pL|with_unfolding_all rfl
def kit_tuple:yu "tuple":=fun K d m e=>by cases d<;>cases e<;>first|exact pL|with_unfolding_all rfl
def vIs(n:String)(b:DE)(δ:Dl)(P:DK):Prop:=b δ fun x=>match x.tyn with|some m=>P (.bl (isB m n))|none=>False
def iU{n:String}(g:yu n)(ha:ER K Γ ta da):EM K Γ [] (tCB (fun xs H Q=>∃x n t b,xs=[x,.ty n]/\ni K H x t/\PySem.W.kitOne K t (.type n)=some b/\Q (.bl b) H) (bG ta (bG (tC (.ty n)) iu))) (vIs n da) :=
 ⟨fun δ P l k h=>ha.mono _ _ _ (fun x z=>by
   revert z;split
   .exact fun z=>k _ z
   .exact id) h,
 fun {B0 fps δ j H Q} o h=>ha.run o (ha.mono _ _ _ (fun x z v i c f=>by
   split at z
   .rename_i m e
    exact⟨v,n,_,_,rfl,f.ty e,g K x m e,z _ i [] c ⟨rfl,rfl⟩ Nw.nil⟩
   .exact z.elim) h)⟩
mutual
def D.old:D->Option L2.D
 |.non=>some .non|.bl b=>some (.bl b)|.int i=>some (.int i)|.str x=>some (.str x)
 |.lst ds=>(D.olds ds).map L2.D.lst|.tup ds=>(D.olds ds).map L2.D.tup
 |.dic _=>none|.dit _=>none|.scr _=>none|.pin _ _=>none|.mem _=>none|.raw _=>none|.ins _ _ _=>none
def D.olds:List D->Option (List L2.D)
 |[]=>some []
 |d::ds=>match D.old d,D.olds ds with|some x,some xs=>some (x::xs)|_,_=>none
end
mutual
theorem Rf.old{H:Hp}:∀{d:D}{d':L2.D}{v:V}{fp:List Addr},Rf K H d v fp->d.old=some d'->L2.Rf H d' v fp
 |.non,d',v,fp,h,e=>by rw[D.old] at e;cases e;rw[L2.Rf];exact h
 |.bl _,d',v,fp,h,e=>by rw[D.old] at e;cases e;rw[L2.Rf];exact h
 |.int _,d',v,fp,h,e=>by rw[D.old] at e;cases e;rw[L2.Rf];exact h
 |.str _,d',v,fp,h,e=>by rw[D.old] at e;cases e;rw[L2.Rf];exact h
 |.lst ds,d',v,fp,h,e=>by
  rw[D.old] at e
  cases q:D.olds ds with
  |none=>rw[q] at e;cases e
  |some es =>
   rw[q] at e;cases e
   obtain ⟨a,xs,g,e1,e2,l,h⟩:=h
   rw[L2.Rf]
   exact⟨a,xs,g,e1,e2,l,Rfs.old h q⟩
 |.tup ds,d',v,fp,h,e=>by
  rw[D.old] at e
  cases q:D.olds ds with
  |none=>rw[q] at e;cases e
  |some es =>
   rw[q] at e;cases e
   obtain ⟨a,xs,e1,e2,h⟩:=h
   rw[L2.Rf]
   exact⟨a,xs,e1,e2,Rfs.old h q⟩
 |.dic _,d',v,fp,h,e=>by rw[D.old] at e;cases e
 |.dit _,d',v,fp,h,e=>by rw[D.old] at e;cases e
 |.scr _,d',v,fp,h,e=>by rw[D.old] at e;cases e
 |.pin _ _,d',v,fp,h,e=>by rw[D.old] at e;cases e
 |.mem _,d',v,fp,h,e=>by rw[D.old] at e;cases e
 |.raw _,d',v,fp,h,e=>by rw[D.old] at e;cases e
 |.ins _ _ _,d',v,fp,h,e=>by rw[D.old] at e;cases e
theorem Rfs.old{H:Hp}:∀{ds:List D}{b:List L2.D}{vs:List V}{fp:List Addr},Rfs K H ds vs fp->D.olds ds=some b->L2.Rfs H b vs fp
 |[],b,vs,fp,h,e=>by rw[D.olds] at e;cases e;rw[L2.Rfs];exact h
 |d::ds,b,vs,fp,h,e=>by
  rw[D.olds] at e
  obtain ⟨x,r,j,i,e1,e2,f,c⟩:=h
  cases q1:d.old with
  |none=>rw[q1] at e;simp at e
  |some m =>
   cases q2:D.olds ds with
   |none=>rw[q1,q2] at e;simp at e
   |some n =>
    rw[q1,q2] at e
    cases e
    rw[L2.Rfs]
    exact⟨x,r,j,i,e1,e2,Rf.old f q1,Rfs.old c q2⟩
end
abbrev dI(xs:aab):D:=.lst (xs.map D.int)
abbrev dT(t:aaa):D:=.lst (t.map dI)
def F6(c:Bool)(x:D)(y:D)(P:DK):Prop:=∃a b,x.old=some (.lst a)/\y.old=some (.lst b)/\L2.D.dH a=true/\L2.D.dH b=true/\L2.D.ft a<=60/\P (.bl (if c then !L2.D.lI a b else L2.D.lI a b))
def yO{j:Bool}:OpV K (EZ j) (F6 j):=⟨fun x y P p k h=>by
  obtain ⟨a,b,i,g,f,e,c,h⟩:=h
  exact⟨a,b,i,g,f,e,c,k _ h⟩,
 fun {H x y v w Q} ⟨o,m⟩ ⟨n,l⟩ h=>by
  obtain ⟨a,b,i,g,f,e,c,h⟩:=h
  exact⟨a,b,⟨o,m.old i⟩,⟨n,l.old g⟩,f,e,c,h _ H [] (Same.refl H) ⟨rfl,rfl⟩ Nw.nil⟩⟩
def Gk:OpV K (EZ false) (F6 false):=yO
def yE:OpV K (EZ true) (F6 true):=yO
theorem vx:∀{ns:aab},D.olds (ns.map D.int)=some (ns.map L2.D.int)
 |[]=>by rw[NP,D.olds];rfl
 |n::ns=>by rw[Ml,D.olds,vx,D.old];rfl
def A9{ns:aab}:(dI ns).old=some (L2.dI ns):=by rw[D.old,vx];rfl
theorem wx:∀{t:aaa},D.olds (t.map dI)=some (t.map L2.dI)
 |[]=>by rw[NP,D.olds];rfl
 |n::ns=>by rw[Ml,D.olds,wx,A9];rfl
def FD{t:aaa}:(dT t).old=some (L2.dT t):=by rw[D.old,wx];rfl
def kN{b:Bool}{xs ys:aab}{P:DK}(h:P (.bl (if b then !decide (xs=ys) else decide (xs=ys)))):F6 b (dI xs) (dI ys) P :=
 ⟨_,_,A9,A9,D.jV _,D.jV _,by rw[D.mw];omega,by rw[D.qw];exact h⟩
def m4{b:Bool}{xs ys:aaa}{P:DK}(h:P (.bl (if b then !decide (xs=ys) else decide (xs=ys)))):F6 b (dT xs) (dT ys) P :=
 ⟨_,_,FD,FD,D.l8 _,D.l8 _,ME (D.qS _) (by omega),by rw[D.vB];exact h⟩
def m7(b:Bool)(xs:List D)(P:DK):Prop:=match xs with|[x]=>zv x fun ns=>ns.length<64/\∀c:aab,c.Perm ns->Ordered b c->P (dI c)|_=>False
theorem Rf.ofInts{H:Hp}{p:Addr}{b:aab}(e:H p=some (.lst (b.map V.int))):Rf K H (dI b) (.ref p) [p]:=⟨p,_,[],rfl,e,rfl,Rfs.ofInts⟩
def Nw.one{H H':Hp}{p:Addr}{xs:List V}(h:H p=none)(e:H' p=some (.lst xs)):Nw H H' nf [] [p]:=⟨by simp,fun b hb=>by cases Gc.mp hb;exact .inl ⟨_,e⟩,fun b hb=>by cases Gc.mp hb;exact .inl h⟩
def wO{u:TA}{j:DA}{b:Bool}(f:AR K Γ u j):EM K Γ [] (Lp (fun xs n H Q=>∃(a:Addr) (ns:aab) (b:Bool),xs=[.ref a]/\n=[.bl b]/\SqL K H a (ns.map V.int)/\ns.length<64 /\
  ∀(l:Addr) (c:aab),H l=none->c.Perm ns->Ordered b c->Q (.ref l) (upd H l (.lst (c.map V.int)))) u (bG (tC (.bl b)) iu)) (tY (m7 b) j):=by
 have mono:bo (m7 b):=fun xs P B k h=>by
  unfold m7 at h ⊢
  revert h
  split
  .exact fun h=>by obtain ⟨ns,e,z⟩:=eW h;exact pC e ⟨z.1,fun c a b=>k _ (z.2 c a b)⟩
  .exact id
 refine⟨fun δ P B k h=>f.mono _ _ _ (fun y z=>mono _ _ _ k z) h,fun {B0 fps δ C H Q} o q=>f.run o (f.mono _ _ _ (fun xs z vs m g r=>?_) q)⟩
 unfold m7 at z
 split at z
 .obtain ⟨v,rfl,s⟩:=r.one
  obtain ⟨ns,e,z⟩:=eW z
  obtain ⟨a,ys,E,rfl,i,f⟩:=s.seq e
  rw[f.yT] at i
  refine⟨a,ns,b,rfl,rfl,i,z.1,fun l c hl t x=>?_⟩
  have p:Same m (upd m l (.lst (c.map V.int))):=Same.kR hl
  exact z.2 c t x _ _ [l] (g.trans p) (Rf.ofInts az) ((Nw.one hl az).any.later g)
 .exact z.elim
def D.t6:D->Bool|.non=>true|.raw w=>decide (w=.non)|_=>false
theorem Rp.Cm{H:Hp}{d:D}{v:V}(h:Rp K H d v):decide (v=.non)=d.t6:=by
 obtain ⟨fp,h⟩:=h
 cases d with
 |non=>obtain ⟨rfl,_⟩:=h;rfl
 |bl b=>obtain ⟨rfl,_⟩:=h;rfl
 |int b=>obtain ⟨rfl,_⟩:=h;rfl
 |str b=>obtain ⟨rfl,_⟩:=h;rfl
 |lst ds=>obtain ⟨a,xs,c,rfl,_⟩:=h;rfl
 |tup ds=>obtain ⟨a,xs,rfl,_⟩:=h;rfl
 |dic ds=>obtain ⟨a,rfl,_⟩:=h;rfl
 |dit ds=>obtain ⟨a,rfl,_⟩:=h;rfl
 |scr ns=>obtain ⟨a,rfl,_⟩:=h;rfl
 |pin a d=>obtain ⟨rfl,_⟩:=h;rfl
 |mem e=>obtain ⟨a,rfl,_⟩:=h;rfl
 |raw w=>obtain ⟨rfl,_⟩:=h;rfl
 |ins C ns ds=>obtain ⟨a,dx,xs,c,rfl,_⟩:=h;rfl
def yK(b:Bool)(x:D)(y:D)(P:DK):Prop:=match y with|.non=>P (.bl (if b then !x.t6 else x.t6))|_=>False
def vM{c:Bool}:∀x y (P b:DK),(∀z,P z->b z)->yK c x y P->yK c x y b:=fun x y P b k h=>by
 unfold yK at h ⊢;revert h;split<;>first|exact k _|exact id
def Jy:OpV K (fun x y H Q=>y=.non/\Q (.bl (decide (x=.non))) H) (yK false):=⟨vM,fun {H x y v w Q} c b h=>by
 unfold yK at h
 split at h
 .refine⟨b.choose_spec.1,?_⟩
  rw[c.Cm];exact h _ H [] (Same.refl H) ⟨rfl,rfl⟩ Nw.nil
 .exact h.elim⟩
def AK:OpV K (fun x y H Q=>y=.non/\Q (.bl (!decide (x=.non))) H) (yK true):=⟨vM,fun {H x y v w Q} c b h=>by
 unfold yK at h
 split at h
 .refine⟨b.choose_spec.1,?_⟩
  rw[c.Cm];exact h _ H [] (Same.refl H) ⟨rfl,rfl⟩ Nw.nil
 .exact h.elim⟩
end
def aR{K:aad}{S:DSp}{n:Nat}(b:∀ds P,S ds P->ds.length=n){vs:List V}{H:Hp}{Q:VK}{E:XK}(h:spP K S vs H Q E):vs.length=n:=by
 obtain ⟨ds,⟨fp,r⟩,_,h⟩:=h
 rw[r.length];exact b _ _ h
def Ez{e:D->Dl->(Dl->Prop)->Prop}{f:DS}{E:bc}(I:Nat->Dl->Prop){ds:List D}{δ:Dl}(m:I 0 δ)
  (h:∀i d δ (N:Dl->Prop),ds[i]?=some d->I i δ->(∀b,I (i+1) b->N b)->e d δ fun b=>f { nx:=N,ct:=N,bk:=E.nx,rt:=E.rt } b)
  (hd:∀δ,I ds.length δ->E.nx δ):nC e f E ds δ:=by
 have key:∀(n:Nat) (i:Nat) (δ:Dl),ds.length - i=n->i<=ds.length->I i δ->nC e f E (ds.drop i) δ:=by
  intro n
  induction n with
  |zero =>
   intro i δ l j c
   have:i=ds.length:=by omega
   subst this
   rw[N9]
   exact hd δ c
  |succ n ih =>
   intro i δ l j c
   have g:i<ds.length:=by omega
   rw[M5 g]
   exact h i _ δ _ (dz g) c fun b h'=>ih (i+1) b (by omega) g h'
 have:=key ds.length 0 δ (by omega) (NL _) m
 rwa [OO] at this
end L3
namespace L3
open PySem L2
end L3
namespace L3
open PySem
open L2 hiding D Rf Rfs Rp dI dT
section
variable {di:DI}{dg:D->Dl->(Dl->Prop)->Prop}{dt:DT}{de:DE}{k:Nat}{idx:aac}{δ:Dl}{P:DK}
def oM{b:Type}{as:List b}{f:b->D}{p:b->Bool}{g:b->D}(i:∀R:List D->Prop,R (as.map f)->di δ R)(hl:as.length<=1000)
  (hb:∀a∈as,∀R:List D->Prop,R (if p a then [g a] else [])->jW dg dt de (dP k idx δ) (f a) R) (h:P (.lst ((as.filter p).map g))):oW di dg dt de k idx δ P:=by
 refine i _ ⟨by rw[mo];exact hl,?_⟩
 have key:∀(as:List b) (acc:List D),(∀a∈as,∀R:List D->Prop,R (if p a then [g a] else [])->jW dg dt de (dP k idx δ) (f a) R)->P (.lst (acc++(as.filter p).map g))->v7 (jW dg dt de (dP k idx δ)) (as.map f) acc fun ys=>P (.lst ys):=by
  intro as
  induction as with
  |nil=>intro acc _ h;rw[List.filter_nil,NP,ML] at h;exact h
  |cons a as ih =>
   intro acc hb h
   refine hb a Fk _ (ih _ (fun x e=>hb x (ox _ e)) ?_)
   by_cases c:p a=true
   .rw[if_pos c,M0];rwa [List.filter_cons_of_pos c] at h
   .rw[if_neg c,ML];rwa [List.filter_cons_of_neg c] at h
 exact key as [] hb h
def gY{b:Type}{as:List b}{f:b->D}{g:b->D}(c:∀R:List D->Prop,R (as.map f)->di δ R)(hl:as.length<=1000)
  (hb:∀a∈as,∀R:List D->Prop,R [g a]->jW dg dt de (dP k idx δ) (f a) R) (h:P (.lst (as.map g))):oW di dg dt de k idx δ P:=by
 refine oM (p:=fun _=>true) c hl (fun a ha R h=>hb a ha R h) ?_
 rw[List.filter_eq_self.mpr (fun _ _=>rfl)]
 exact h
def Ao{ns:aab}{p:Int->Bool}{g:Int->D}(b:∀R:List D->Prop,R (ns.map D.int)->di δ R)(hl:ns.length<=1000)
  (hb:∀n∈ns,∀R:List D->Prop,R (if p n then [g n] else [])->jW dg dt de (dP k idx δ) (.int n) R) (h:P (.lst ((ns.filter p).map g))):oW di dg dt de k idx δ P:=oM b hl hb h
def gk{lo:Int}{n:Nat}{g:Nat->D}(b:∀R:List D->Prop,R (oQ lo n)->di δ R)(hl:n<=1000)
  (hb:∀i,i<n->∀R:List D->Prop,R [g i]->jW dg dt de (dP k idx δ) (.int (lo+(i:Int))) R) (h:P (.lst ((List.range n).map g))):oW di dg dt de k idx δ P :=
 gY (as:=List.range n) (f:=fun (k:Nat)=>D.int (lo+(k:Int))) b (by rw[Mi];exact hl) (fun a ha=>hb a (Mq.mp ha)) h
def Dm{lo:Int}{n:Nat}{p:Nat->Bool}{g:Nat->D}(b:∀R:List D->Prop,R (oQ lo n)->di δ R)(hl:n<=1000)
  (hb:∀i,i<n->∀R:List D->Prop,R (if p i then [g i] else [])->jW dg dt de (dP k idx δ) (.int (lo+(i:Int))) R) (h:P (.lst (((List.range n).filter p).map g))):oW di dg dt de k idx δ P :=
 oM (as:=List.range n) (f:=fun (k:Nat)=>D.int (lo+(k:Int))) b (by rw[Mi];exact hl) (fun a ha=>hb a (Mq.mp ha)) h
def kH{t:aaa}{g:aab->D}(b:∀R:List D->Prop,R (t.map dI)->di δ R)(hl:t.length<=1000)
  (hb:∀r∈t,∀R:List D->Prop,R [g r]->jW dg dt de (dP k idx δ) (dI r) R) (h:P (.lst (t.map g))):oW di dg dt de k idx δ P:=gY b hl hb h
variable {db:DS}{E:bc}
theorem fK{g:Type}{as:List g}{f:g->D}(I:Nat->Dl->Prop)(l:I 0 δ)
  (h:∀i a δ (N:Dl->Prop),as[i]?=some a->I i δ->(∀b,I (i+1) b->N b)->dg (f a) δ fun b=>db { nx:=N,ct:=N,bk:=E.nx,rt:=E.rt } b)
  (hd:∀δ,I as.length δ->E.nx δ):nC dg db E (as.map f) δ:=by
 refine Ez I l (fun i d δ N e c j=>?_) (fun δ c=>hd δ (by rwa [mo] at c))
 rw[Mc] at e
 cases q:as[i]? with
 |none=>rw[q] at e;cases e
 |some a=>rw[q] at e;cases e;exact h i a δ N q c j
def gn{lo:Int}{n:Nat}(I:Nat->Dl->Prop)(m:I 0 δ)
  (h:∀i δ (N:Dl->Prop),i<n->I i δ->(∀b,I (i+1) b->N b)->dg (.int (lo+(i:Int))) δ fun b=>db { nx:=N,ct:=N,bk:=E.nx,rt:=E.rt } b)
  (hd:∀δ,I n δ->E.nx δ):nC dg db E (oQ lo n) δ:=by
 refine fK (as:=List.range n) (f:=fun (k:Nat)=>D.int (lo+(k:Int))) I m (fun i a δ N e c j=>?_) (fun δ c=>hd δ (by rwa [Mi] at c))
 obtain ⟨l,g⟩:=Ma.mp e
 rw[NQ] at g
 subst g
 exact h i δ N (by simpa using l) c j
end
def LB{ns:aab}{i:Int}(b:0<=i)(h:i<ns.length):atI (ns.map D.int) i=some (.int (ns.getD i.toNat 0)):=by
 unfold atI ixN
 rw[if_pos b,mo,if_pos h]
 show (ns.map D.int)[i.toNat]?=_
 rw[Mc,gV]
 have:i.toNat<ns.length:=by omega
 rw[dz this]
 rfl
def cw{ns:aab}:(ns.map D.int).all D.aP=true:=by rw[Pp,M4];exact fun _ _=>rfl
def cB{n:Nat}{i:Int}(b:0<=i)(h:i<n):ixN n i=some i.toNat:=by unfold ixN;rw[if_pos b,if_pos h]
def qo{ns:aab}{j:Nat}{v:Int}:(ns.map D.int).set j (.int v)=(ns.set j v).map D.int:=(NO ..).symm
def oU{ns:aab}{v:Int}:ns.map D.int++[.int v]=(ns++[v]).map D.int:=by simp
def emod_lt{x n:Int}(h:0<n):0<=x % n/\x % n<n:=⟨Int.emod_nonneg x (by omega),Int.emod_lt_of_pos x h⟩
section
variable {P:DK}
def asO(o:Option D)(P:DK):Prop:=match o with|some d=>P d|none=>False
def Aj{d:D}:asO (some d) P↔P d:=M8
def x9{o:Option D}{d:D}(h:o=some d):asO o P↔P d:=by rw[h];rfl
def Fx{k:Bool}{Q:Bool->Prop}:asB (.bl k) Q↔Q k:=M8
def BN{g:Int->Int->D}{i j:Int}:vI0 g (.int i) (.int j) P↔P (g i j):=M8
def F9{C:Int->Int->Prop}{g:Int->Int->D}{i j:Int}:vI C g (.int i) (.int j) P↔C i j/\P (g i j):=M8
def FV{g:Int->D}{i:Int}:vU g (.int i) P↔P (g i):=M8
def Co{i:Int}{Q:Int->Prop}:asI [.int i] Q↔Q i:=M8
def zI{i j:Int}{Q:Int->Int->Prop}:Ir [.int i,.int j] Q↔Q i j:=M8
def BE{ds:List D}{Q:List D->Prop}:asL (.lst ds) Q↔Q ds:=M8
def BQ{ns:aab}{Q:List D->Prop}:asL (.scr ns) Q↔Q (ns.map D.int):=M8
def ur{ds:List D}{i:Int}:sS (.lst ds) (.int i) P↔asO (atI ds i) P:=M8
def Af{ns:aab}{i:Int}:sS (.scr ns) (.int i) P↔asO (atI (ns.map D.int) i) P:=M8
def zS{ds:List D}{i:Int}:qm (.tup ds) (.int i) P↔asO (atI ds i) P:=M8
def yx{ds:List D}:Du [.tup ds] P↔P (.int ds.length):=M8
def zz{b:Bool}{x:D}:yK b x .non P↔P (.bl (if b then !x.t6 else x.t6)):=M8
def z5{a b:List D}:Hh (.lst a) (.lst b) P↔(a.all D.aP=true/\b.all D.aP=true/\a.length+b.length<=1000)/\P (.lst (a++b)):=M8
def z7{a:List D}{k:Int}:Ie (.lst a) (.int k) P↔(a.all D.aP=true/\(-(2 ^ 63)<=k/\k<2 ^ 63)/\a.length*k.toNat<=1000)/\P (.lst (uT a k.toNat)):=M8
def vS{ds:List D}:zH [.lst ds] P↔ds.all D.aP=true/\P (.lst ds):=M8
def wm{ns:aab}:zH [.scr ns] P↔P (dI ns):=by
 show ((ns.map D.int).all D.aP=true/\P _)↔_
 rw[cw];exact⟨fun h=>h.2,fun h=>⟨rfl,h⟩⟩
def wy{ns:aab}:IS [dI ns] P↔P (.int ns.sum):=by
 show (match iy (ns.map D.int) with|some ns=>P (.int ns.sum)|none=>False)↔_
 rw[ja]
def iR{ns:aab}{Q:aab->Prop}:zv (dI ns) Q↔Q ns:=by
 show (match iy (ns.map D.int) with|some ns=>Q ns|none=>False)↔_
 rw[ja]
def Ga{g:List D->Dl->(Dl->Prop)->Prop}{n:Nat}{ds:List D}{δ:Dl}{Q:Dl->Prop}:CT n g (.tup ds) δ Q↔ds.length=n/\g ds δ Q:=M8
def zX{g:D->Dl->(Dl->Prop)->Prop}{c:List D->Dl->(Dl->Prop)->Prop}{x:D}{xs:List D}{δ:Dl}{Q:Dl->Prop}:Ew g c (x::xs) δ Q↔g x δ fun b=>c xs b Q:=M8
def Cd{δ:Dl}{Q:Dl->Prop}:Ju [] δ Q↔Q δ:=M8
def iN{i:Nat}{δ:Dl}{ds:List D}{Q:List D->Prop}(h:δ[i]?=some (some (.lst ds))):iF δ i Q↔Q ds:=by unfold iF;rw[h]
def BD{i:Int}:(D.int i).tyn=some "int":=rfl
def GU{i:Bool}:(D.bl i).tyn=some "bool":=rfl
def B5{i:List D}:(D.lst i).tyn=some "list":=rfl
def BM{i:List D}:(D.tup i).tyn=some "tuple":=rfl
def BK{i:Str}:(D.str i).tyn=some "str":=rfl
def C6:D.non.tyn=some "NoneType":=rfl
def FW:isB "int" "int" = true:=rfl
def Fb:isB "int" "bool" = false:=rfl
def FK:isB "list" "list" = true:=rfl
def Ge:isB "tuple" "tuple" = true:=rfl
def F5:isB "str" "str" = true:=rfl
def FA:isB "bool" "bool" = true:=rfl
def Fn:isB "bool" "int" = true:=rfl
def Gj:isB "int" "list" = false:=rfl
def Em:isB "NoneType" "list" = false:=rfl
end
end L3
namespace L2
open PySem PySem.Spec PyProof.Rows
section
variable {X:Cx}{K:aad}
def p9(z:X.K=K)(p:X.calm=true):fR X (.builtin "min") (fun xs H Q=>∃(a:Addr) (ns:aab),xs=[.ref a]/\SqL K H a (ns.map V.int)/\0<ns.length/\∀M,M∈ns->(∀x∈ns,M<=x)->Q (.int M) H):=by
 subst z
 intro g s E H xs us Q I r h
 obtain ⟨a,ns,rfl,y,C,q⟩:=h
 obtain ⟨u,rfl,m⟩:=vals1 r
 obtain rfl:u=Value.ref a:=m
 obtain ⟨L,l,pl,G⟩:=I.list y
 have hi:=kg l
 obtain ⟨c,e⟩:=hi.allInts.items
 have hl:s.heap.IsList a (intItems c):=by rw[<- e];exact pl.isList
 have f:ns=c.toList.map (·.1):=by rw[<- hi.numsOf,<- nums_intItems,<- e]
 have hsz:0<c.size:=by
  have i:=C;rw[f,mo,MZ] at i;exact i
 refine min_intList (I.ok.hd p) hl hsz fun v h' F n o=>?_
 obtain ⟨t,rfl⟩:=intItems_at n
 obtain ⟨J,B⟩:=argBest_lt (numAt c) (c.size - 1)
 refine⟨.int _,H,I.kept o,⟨t,rfl⟩,q _ ?_ fun b hb=>?_⟩
 .rw[f,numAt_eq];exact getD_mem (by rw[mo,MZ];omega)
 .rw[f] at hb
  obtain ⟨j,hj,rfl⟩:=mem_getD hb
  rw[mo,MZ] at hj
  rw[<- numAt_eq];exact B j (by omega)
def D3(z:X.K=K)(p:X.calm=true):fR X (.builtin "max") (fun xs H Q=>∃(a:Addr) (ns:aab),xs=[.ref a]/\SqL K H a (ns.map V.int)/\0<ns.length/\∀M,M∈ns->(∀x∈ns,x<=M)->Q (.int M) H):=by
 subst z
 intro g s E H xs us Q I r h
 obtain ⟨a,ns,rfl,y,C,q⟩:=h
 obtain ⟨u,rfl,m⟩:=vals1 r
 obtain rfl:u=Value.ref a:=m
 obtain ⟨L,l,pl,G⟩:=I.list y
 have hi:=kg l
 obtain ⟨c,e⟩:=hi.allInts.items
 have hl:s.heap.IsList a (intItems c):=by rw[<- e];exact pl.isList
 have f:ns=c.toList.map (·.1):=by rw[<- hi.numsOf,<- nums_intItems,<- e]
 have hsz:0<c.size:=by
  have i:=C;rw[f,mo,MZ] at i;exact i
 refine max_intList (I.ok.hd p) hl hsz fun v h' F n o=>?_
 obtain ⟨t,rfl⟩:=intItems_at n
 obtain ⟨J,B⟩:=argBest_gt (numAt c) (c.size - 1)
 refine⟨.int _,H,I.kept o,⟨t,rfl⟩,q _ ?_ fun b hb=>?_⟩
 .rw[f,numAt_eq];exact getD_mem (by rw[mo,MZ];omega)
 .rw[f] at hb
  obtain ⟨j,hj,rfl⟩:=mem_getD hb
  rw[mo,MZ] at hj
  rw[<- numAt_eq];exact B j (by omega)
theorem vQ:∀{bs:List Bool}{c:List Value},Vals (bs.map V.bl) c->LSm.BoolsAre c bs
 |[],_,.nil=>.nil
 |b::bs,_,.cons r t=>by
  cases (show _=Value.bool b from r)
  exact .cons b (vQ t)
def DV(t:X.K=K)(n:X.calm=true):fR X (.builtin "any") (fun xs H Q=>∃(a:Addr) (bs:List Bool),xs=[.ref a]/\SqL K H a (bs.map V.bl)/\Q (.bl (bs.any id)) H):=by
 subst t
 intro c s y H xs us Q I r h
 obtain ⟨l,bs,rfl,o,q⟩:=h
 obtain ⟨u,rfl,j⟩:=vals1 r
 obtain rfl:u=Value.ref l:=j
 obtain ⟨vs,g,pl,B⟩:=I.list o
 have hb:=vQ g
 have hl:=pl.isList
 have x:l<s.heap.objs.size:=by obtain ⟨_,e,_⟩:=hl;exact Heap.lt_size e
 refine PySem.call_any_walk (wpAny_pyIter_list hl ?_)
 refine⟨s.heap.objs.size,[s.heap.objs.size,l],[s.heap.objs.size],vs.toArray.size,_,_,fun i=>(bs[i]?).getD false,rfl,Walks.list (A:=X.A.in1) (I.ok.hd n) _ l (MA x) vs.toArray,
  ⟨⟨_,Heap.get?_push_size _ rfl,rfl,rfl⟩,hl.push _⟩,fun i v s' C E p f=>?_,fun h' z m=>?_⟩
 .obtain ⟨b,e,rfl⟩:=hb.get i v (by simpa using p)
  simp only[e,M3] at f
  exact wpAny_truthy_bool f
 .have e:((List.range vs.toArray.size).any fun i=>(bs[i]?).getD false)=bs.any id:=by
   rw[Mx,hb.length];exact LSm.range_any bs
  rw[e]
  exact⟨.bl _,H,I.kept (LSm.kept_iter m),rfl,q⟩
def Dq(n:Nat):List V:=(List.range n).map fun (k:Nat)=>.int (k:Int)
def Ad(e:TE):TE:=fun c H Q=>e c H fun x b=>∃j:Int,x=.int j/\j<=100000/\-(2 ^ 62)<=j/\∀l,b l=none->Q (.ref l) (upd b l (.lst (Dq j.toNat)))
def zh{e:Expr}{E:TE}{p r MK B:Pos}(Y:X.calm=true)(T:Gl X "list")(hm:X.mg "list" = none)(Vb:Gl X "range")(TN:X.mg "range" = none)(U:PE X e E)
  (F:starEach [Expr.Call (.Name "range" r) [e] [] B] X.env=[(false,eval (.Call (.Name "range" r) [e] [] B) X.env)]:=by rfl) (G:starEach [e] X.env=[(false,eval e X.env)]:=by rfl) :
  PE X (.Call (.Name "list" p) [.Call (.Name "range" r) [e] [] B] [] MK) (Ad E):=by
 intro l s M H Q I h
 refine wpAny_Call_Name_kw (jz I T hm boot_list ?_)
 refine Na ?_ F rfl
 rw[F]
 refine Calls.spliced_cons ?_
 refine wpAny_Call_Name_kw (jz I Vb TN boot_range ?_)
 refine Na ?_ G rfl
 rw[G]
 refine Calls.spliced_cons (thn (U l s M H _ I h) fun v g ⟨x,H1,L,P,j,ex,hj,y,q⟩=>?_)
 subst ex
 obtain ⟨t,rfl⟩:=P
 refine Calls.spliced_nil (call_range_1 (Calls.spliced_nil ?_))
 have hn:Builtin.Range.rangeSize 0 j 1=(j.toNat:Nat):=by rw[rangeSize_one];split<;>omega
 refine call_list_range (n:=j.toNat) (I.ok.hd Y) (IsRange.new ..) (small_one (by omega) (by omega) y (by omega)) hn (by omega) fun h' O J Z S C Sa=>?_
 have hsz:∀o:Obj,(g.heap.push o).objs.size=g.heap.objs.size+1:=fun o=>Heap.size_push ..
 have k1:∀b o,g.heap.get? b=some o->h'.get? b=some o:=fun b o e=>S b o (Heap.get?_push_of_some _ e)
 have u:H1 (g.heap.objs.size+1)=none:=L.hok.fresh (Nu _)
 dsimp only at C ⊢
 rw[hsz] at C ⊢
 have Vn:Vals (Dq j.toNat) J.toList:=by
  obtain ⟨a1,a2⟩:=Sa
  have key:∀(n:Nat) (f:Nat->V) (c:List Value),c.length=n->(∀i v,c[i]?=some v->RelV (f i) v)->Vals ((List.range n).map f) c:=by
   intro n
   induction n with
   |zero=>intro f c m z;cases c with|nil=>exact .nil|cons _ _=>simp at m
   |succ n ih =>
    intro f c m z
    cases c with
    |nil=>simp at m
    |cons v vs =>
     rw[List.range_succ_eq_map,Ml,MB]
     exact .cons (z 0 v rfl) (ih (f ∘ Nat.succ) vs (by simpa using m) fun i w e=>z (i+1) w (by simpa using e))
  refine key _ _ _ (by simpa using a1) fun i v e=>?_
  obtain ⟨t,R⟩:=a2 i v (by simpa using e)
  exact⟨t,by rw[R];simp⟩
 refine⟨.ref (g.heap.objs.size+1),_,L.laid (t':=O) (o:=.lst (Dq j.toNat)) k1 (Nu _) ⟨by unfold Dq;rw[mo,Mi];exact small (by omega),J.toList,Z,Vn,?_⟩,rfl,q _ u⟩
 rw[C]
end
end L2
namespace L2
open PySem PySem.Spec PyProof.Rows
section
end
end L2
namespace L2
open PySem PySem.Spec PyProof.Rows
section
end
end L2
namespace L3
open PySem
open L2 hiding D Rf Rfs Rp dI dT
section
variable {K:aad}{ρ:Bool}{Γr Γl Γ Γn M:aac}{te t1:TE}{de d1:DE}{d e:DS}
variable {B0:Hp}{fps:Nat->List Addr}{δ:Dl}{σ:St}{H H':Hp}
def CK(xs:List D)(P:DK):Prop:=match xs with|[x]=>zv x fun ns=>0<ns.length/\∀M,M∈ns->(∀x∈ns,M<=x)->P (.int M)|_=>False
def CM(xs:List D)(P:DK):Prop:=match xs with|[x]=>zv x fun ns=>0<ns.length/\∀M,M∈ns->(∀x∈ns,x<=M)->P (.int M)|_=>False
def AF:nE K (fun xs H Q=>∃(a:Addr) (ns:aab),xs=[.ref a]/\SqL K H a (ns.map V.int)/\0<ns.length/\∀M,M∈ns->(∀x∈ns,M<=x)->Q (.int M) H) CK:=⟨fun xs P m k h=>by
  unfold CK at h ⊢
  revert h
  split
  .exact fun h=>by obtain ⟨ns,e,z⟩:=eW h;exact pC e ⟨z.1,fun M a b=>k _ (z.2 M a b)⟩
  .exact id,
 fun {H xs vs Q} r h=>by
  unfold CK at h
  split at h
  .obtain ⟨v,rfl,f⟩:=r.one
   obtain ⟨ns,e,h⟩:=eW h
   obtain ⟨a,ys,l,rfl,c,g⟩:=f.seq e
   rw[g.yT] at c
   exact⟨a,ns,rfl,c,h.1,fun M j i=>h.2 M j i _ H [] (Same.refl H) ⟨rfl,rfl⟩ Nw.nil⟩
  .exact h.elim⟩
def Kb:nE K (fun xs H Q=>∃(a:Addr) (ns:aab),xs=[.ref a]/\SqL K H a (ns.map V.int)/\0<ns.length/\∀M,M∈ns->(∀x∈ns,x<=M)->Q (.int M) H) CM:=⟨fun xs P m k h=>by
  unfold CM at h ⊢
  revert h
  split
  .exact fun h=>by obtain ⟨ns,e,z⟩:=eW h;exact pC e ⟨z.1,fun M a b=>k _ (z.2 M a b)⟩
  .exact id,
 fun {H xs vs Q} r h=>by
  unfold CM at h
  split at h
  .obtain ⟨v,rfl,f⟩:=r.one
   obtain ⟨ns,e,h⟩:=eW h
   obtain ⟨a,ys,l,rfl,c,g⟩:=f.seq e
   rw[g.yT] at c
   exact⟨a,ns,rfl,c,h.1,fun M j i=>h.2 M j i _ H [] (Same.refl H) ⟨rfl,rfl⟩ Nw.nil⟩
  .exact h.elim⟩
def gR:List D->Option (List Bool)
 |[]=>some []
 |.bl i::ds=>(gR ds).map (i::·)
 |_=>none
theorem jL:∀{ns:List Bool},gR (ns.map D.bl)=some ns
 |[]=>rfl
 |n::ns=>by rw[Ml,gR,jL];rfl
theorem tQ:∀{ds:List D}{ns:List Bool},gR ds=some ns->ds=ns.map D.bl
 |[],ns,h=>by cases h;rfl
 |.bl i::ds,ns,h=>by
  rw[gR] at h
  cases e:gR ds with
  |none=>rw[e] at h;cases h
  |some b=>rw[e] at h;cases h;rw[tQ e];rfl
 |.non::_,_,h=>by cases h
 |.int _::_,_,h=>by cases h
 |.str _::_,_,h=>by cases h
 |.lst _::_,_,h=>by cases h
 |.tup _::_,_,h=>by cases h
 |.dic _::_,_,h=>by cases h
 |.dit _::_,_,h=>by cases h
 |.scr _::_,_,h=>by cases h
def HN(x:D)(P:List Bool->Prop):Prop:=asL x fun ds=>match gR ds with|some ns=>P ns|none=>False
theorem zU{x:D}{P:List Bool->Prop}(h:HN x P):∃ns,x.items=some (ns.map D.bl)/\P ns:=by
 obtain ⟨ds,e,h⟩:=cg h
 cases q:gR ds with
 |none=>rw[q] at h;exact h.elim
 |some ns=>rw[q] at h;rw[tQ q] at e;exact⟨ns,e,h⟩
def HR{x:D}{ns:List Bool}{P:List Bool->Prop}(e:x.items=some (ns.map D.bl))(h:P ns):HN x P:=by
 refine jx e ?_
 rw[jL];exact h
def Rfs.JP{ns:List Bool}{vs:List V}{fp:List Addr}(h:Rfs K H (ns.map D.bl) vs fp):vs=ns.map V.bl:=by
 have b:(ns.map D.bl).all D.aP=true:=by rw[Pp,M4];exact fun _ _=>rfl
 rw[(h.jf b).1,MB]
 rfl
def LW(xs:List D)(P:DK):Prop:=match xs with|[x]=>HN x fun ns=>P (.bl (ns.all id))|_=>False
def IG(xs:List D)(P:DK):Prop:=match xs with|[x]=>HN x fun ns=>P (.bl (ns.any id))|_=>False
def K4:nE K (fun xs H Q=>∃(a:Addr) (bs:List Bool),xs=[.ref a]/\SqL K H a (bs.map V.bl)/\Q (.bl (bs.any id)) H) IG:=⟨fun xs P i k h=>by
  unfold IG at h ⊢
  revert h
  split
  .exact fun h=>by obtain ⟨ns,e,z⟩:=zU h;exact HR e (k _ z)
  .exact id,
 fun {H xs vs Q} r h=>by
  unfold IG at h
  split at h
  .obtain ⟨v,rfl,c⟩:=r.one
   obtain ⟨ns,e,h⟩:=zU h
   obtain ⟨a,ys,g,rfl,b,f⟩:=c.seq e
   rw[f.JP] at b
   exact⟨a,ns,rfl,b,h _ H [] (Same.refl H) ⟨rfl,rfl⟩ Nw.nil⟩
  .exact h.elim⟩
def sT{ns:List Bool}{P:DK}:LW [.lst (ns.map D.bl)] P↔P (.bl (ns.all id)):=by
 show (match gR (ns.map D.bl) with|some ns=>P (.bl (ns.all id))|none=>False)↔_
 rw[jL]
def uC{ns:List Bool}{P:DK}:IG [.lst (ns.map D.bl)] P↔P (.bl (ns.any id)):=by
 show (match gR (ns.map D.bl) with|some ns=>P (.bl (ns.any id))|none=>False)↔_
 rw[jL]
def nX{ns:aab}{P:DK}:CK [dI ns] P↔0<ns.length/\∀M,M∈ns->(∀x∈ns,M<=x)->P (.int M):=iR
def t5{ns:aab}{P:DK}:CM [dI ns] P↔0<ns.length/\∀M,M∈ns->(∀x∈ns,x<=M)->P (.int M):=iR
def Ik(n:Nat):aab:=(List.range n).map fun (k:Nat)=>(k:Int)
def t9(b:DE)(δ:Dl)(P:DK):Prop:=b δ fun x=>asI [x] fun j=>(j<=100000/\-(2 ^ 62)<=j)/\P (dI (Ik j.toNat))
def Bw(c:ER K Γ te de):EM K Γ [] (Ad te) (t9 de) :=
 ⟨fun δ P p k h=>c.mono _ _ _ (fun x z=>by obtain ⟨j,rfl,z⟩:=bC z;exact⟨z.1,k _ z.2⟩) h,
 fun {B0 fps δ σ H Q} o h=>c.run o (c.mono _ _ _ (fun x z v g f m=>by
  obtain ⟨j,n,b⟩:=bC z
  subst n
  refine⟨j,m.int,b.1.1,b.1.2,fun l hl=>?_⟩
  have e:Dq j.toNat=(Ik j.toNat).map V.int:=by unfold Dq Ik;rw[MB];rfl
  rw[e]
  have i:Same g (upd g l (.lst ((Ik j.toNat).map V.int))):=Same.kR hl
  exact b.2 _ _ [l] (f.trans i) (Rf.ofInts az) ((Nw.one hl az).any.later f)) h)⟩
def Ok.dead(o:Ok K B0 Γ fps δ σ H)(j:Nat)(v:V)(hj:j∉Γ):Ok K B0 Γ (fun i=>if i=j then [] else fps i) (δ.set j none) (σ.set j (some v)) H:=by
 refine⟨by simp [o.len],o.b0,fun i d e=>?_,fun i h=>?_,fun i hi=>?_,fun i hi k b a ha=>?_⟩
 .by_cases h:i=j
  .subst h
   rw[MU] at e
   by_cases hl:i<δ.length
   .simp [hl] at e
   .simp [hl] at e
  .rw[KE (MI h)] at e
   rw[KE (MI h),if_neg h]
   exact o.val i d e
 .by_cases h':i=j
  .rw[if_pos h']
  .rw[if_neg h'];exact o.non i fun d z=>h d (by rw[KE (MI h')];exact z)
 .have h:i≠j:=fun z=>hj (by rw[<- z];exact hi)
  rw[if_neg h];exact o.own i hi
 .have h:i≠j:=fun z=>hj (by rw[<- z];exact hi)
  rw[if_neg h] at ha
  split
  .exact Mr
  .exact o.dj i hi k b a ha
def Hm{o:Option D}{P:DK}(h:asO o P):∃d,o=some d/\P d:=by
 unfold asO at h;split at h
 .exact⟨_,rfl,h⟩
 .exact h.elim
def ux{i j:Nat}{k:EOk K ρ Γr Γl Γn B0 Dn' E'}{Dn:Ends}{R:TS}(p:ER K Γ t1 d1)(hi:i∈Γ)(hj:j∉Γ)(r:i≠j)(o:Ok K B0 Γ fps δ σ H)
  (h:iF δ i fun ds=>d1 δ fun k=>asI [k] fun m=>(0<=m/\j<δ.length)/\nI (ds[m.toNat]?) fun es=>∀(a0 b:Addr) xs σ' H' fps',Ok K B0 Γ fps' (δ.set j none) σ' H'->(δ.set j none)[i]?=some (some (.lst ds))->ds[m.toNat]?=some (.lst es)->σ'[i]?=some (some (.ref a0))->H' a0=some (.lst xs)->xs[m.toNat]?=some (.ref b)->σ'[j]?=some (some (.ref b))->R Dn σ' H') :
  jZ (tOp (yg K) (b7 i) t1) (eO j) { Dn with nx:=R Dn } σ H:=by
 obtain ⟨ds,e,h⟩:=dq h
 obtain ⟨a0,xs0,fq0,g,_⟩:=o.wM e
 refine⟨.ref a0,g,p.run o (p.mono _ _ _ (fun y z w M t u=>?_) h)⟩
 obtain ⟨m,em,c⟩:=bC z
 subst em
 obtain ⟨⟨f,B⟩,c⟩:=c
 obtain ⟨es,l,s⟩:=iO c
 have n:=o.same t
 have L:=(Ma.mp l).1
 obtain ⟨a,xs,b,ys,C,e1,e2,v,q,J,I,G,F,E,x,_⟩:=ko (es':=[]) n hi e l
 rw[g] at e1;cases e1
 refine⟨a0,xs,m,.ref b,rfl,u.int,.inl (.inl e2),by unfold atI;rw[cB f (by rw[v];omega)];exact q,?_⟩
 exact s a0 b xs _ _ _ (n.dead j (.ref b) hj) (by rw[KE (MI r)];exact e) l (by rw[KE (MI r)];exact g) e2 q (by rw[MU];simp [o.len,B])
def Fi{i:Nat}{ds:List D}{Q:List D->Prop}(e:δ[i]?=some (some (.lst ds)))(h:Q ds):iF δ i Q:=(iN e).mpr h
def mE{o:Option D}{es:List D}{Q:List D->Prop}(e:o=some (.lst es))(h:Q es):nI o Q:=by rw[e];exact h
def Ld(x y:D)(P:DK):Prop:=match x,y with|.lst a,.lst b=>a.length+b.length<=1000/\P (.lst (a++b))|_,_=>False
def v8{a b:List D}{P:DK}:Ld (.lst a) (.lst b) P↔a.length+b.length<=1000/\P (.lst (a++b)):=M8
def LO(x y:D)(P:DK):Prop:=match x,y with|.lst a,.int k=>((-(2 ^ 63)<=k/\k<2 ^ 63)/\a.length*k.toNat<=1000)/\P (.lst (uT a k.toNat))|_,_=>False
def vN{a:List D}{k:Int}{P:DK}:LO (.lst a) (.int k) P↔((-(2 ^ 63)<=k/\k<2 ^ 63)/\a.length*k.toNat<=1000)/\P (.lst (uT a k.toNat)):=M8
def JX(xs:List D)(P:DK):Prop:=match xs with|[x]=>asL x fun ds=>P (.lst ds)|_=>False
def uB{ds:List D}{P:DK}:JX [.lst ds] P↔P (.lst ds):=M8
def C9{b:Bool}{i j:Bool}{P:DK}:uV b (.bl i) (.bl j) P↔P (.bl (if b then !decide (i=j) else decide (i=j))):=by
 unfold uV
 simp only[D.aP,D.toV,aP,true_and,V.bl.injEq]
def Aa{b:Bool}{i j:Str}{P:DK}:uV b (.str i) (.str j) P↔P (.bl (if b then !decide (i=j) else decide (i=j))):=by
 unfold uV
 simp only[D.aP,D.toV,aP,true_and,V.str.injEq]
end
end L3
namespace L3
open PySem
open L2 hiding D Rf Rfs Rp dI dT
def bK(n m:Nat)(t:aaa):Prop:=t.length=n/\∀r∈t,r.length=m
abbrev rowAt(t:aaa)(i:Nat):aab:=t.getD i []
abbrev cellAt(t:aaa)(i j:Nat):Int:=(t.getD i []).getD j 0
abbrev setCell(t:aaa)(i j:Nat)(v:Int):aaa:=t.set i ((t.getD i []).set j v)
def qP{t:aaa}{i:Nat}(h:i<t.length):rowAt t i∈t:=by
 unfold rowAt
 rw[gV,dz h]
 exact MJ h
def bK.row{n m:Nat}{t:aaa}(h:bK n m t){i:Nat}(hi:i<n):(rowAt t i).length=m:=h.2 _ (qP (by rw[h.1];exact hi))
theorem bK.set{n m:Nat}{t:aaa}(h:bK n m t){i:Nat}{r:aab}(c:r.length=m):bK n m (t.set i r):=by
 refine⟨by rw[Mv];exact h.1,fun x b=>?_⟩
 rcases Ni b with z|z
 .exact h.2 x z
 .rw[z];exact c
def bK.setCell{n m:Nat}{t:aaa}(h:bK n m t){i j:Nat}{v:Int}(hi:i<n):bK n m (setCell t i j v):=h.set (by rw[Mv];exact h.row hi)
def Ff{t:aaa}{i:Nat}(h:i<t.length):(t.map dI)[i]?=some (dI (rowAt t i)):=by
 unfold rowAt
 rw[Mc,gV,dz h]
 rfl
def Jl{t:aaa}{i:Int}(b:0<=i)(h:i<t.length):atI (t.map dI) i=some (dI (rowAt t i.toNat)):=by
 unfold atI
 rw[cB b (by rw[mo];exact h)]
 exact Ff (by omega)
def GS{t:aaa}{i:Nat}{r:aab}:(t.map dI).set i (dI r)=(t.set i r).map dI:=(NO ..).symm
section
variable {i j:Nat}{δ:Dl}{de d1 d2 dx:DE}{E:bc}{t:aaa}{r:aab}{a b v:Int}
def lj(b:δ[i]?=some (some (dI r)))(c:∀R:DK,R (.int v)->de δ R)(e:∀R:DK,R (.int a)->dx δ R)(ha:0<=a/\a<r.length)(h:E.nx (δ.set i (some (dI (r.set a.toNat v))))):tX i de dx E δ:=by
 unfold tX
 refine c _ ((iN b).mpr (e _ ?_))
 show match ixN (r.map D.int).length a with|some j=>E.nx (δ.set i (some (.lst ((r.map D.int).set j (.int v)))))|none=>False
 rw[cB ha.1 (by rw[mo];exact ha.2)]
 show E.nx (δ.set i (some (.lst ((r.map D.int).set a.toNat (.int v)))))
 rw[qo];exact h
def oR(e:δ[i]?=some (some (dT t)))(l:∀R:DK,R (.int v)->de δ R)(g:∀R:DK,R (.int a)->d1 δ R)(f:∀R:DK,R (.int b)->d2 δ R)(ha:0<=a/\a<t.length)(hb:0<=b/\b<(rowAt t a.toNat).length)
  (h:E.nx (δ.set i (some (dT (setCell t a.toNat b.toNat v))))):qi i de d1 d2 E δ:=by
 unfold qi
 refine l _ ((iN e).mpr (g _ ?_))
 show nI (atI (t.map dI) a) _
 rw[Jl ha.1 ha.2]
 refine f _ ?_
 show match ixN (t.map dI).length a,ixN ((rowAt t a.toNat).map D.int).length b with|some j,some c=>E.nx (δ.set i (some (.lst ((t.map dI).set j (.lst (((rowAt t a.toNat).map D.int).set c (.int v)))))))|_,_=>False
 rw[cB ha.1 (by rw[mo];exact ha.2),cB hb.1 (by rw[mo];exact hb.2)]
 show E.nx (δ.set i (some (.lst ((t.map dI).set a.toNat (.lst (((rowAt t a.toNat).map D.int).set b.toNat (.int v)))))))
 rw[qo,GS];exact h
end
def aO{r:aab}{a:Int}{P:DK}(ha:0<=a/\a<r.length)(h:P (.int (r.getD a.toNat 0))):asO (atI (r.map D.int) a) P:=(x9 (LB ha.1 ha.2)).mpr h
def fc{t:aaa}{a:Int}{P:DK}(ha:0<=a/\a<t.length)(h:P (dI (rowAt t a.toNat))):asO (atI (t.map dI) a) P:=(x9 (Jl ha.1 ha.2)).mpr h
theorem An{n:Nat}{x:Int}:uT [D.int x] n=(List.replicate n x).map D.int:=by
 unfold uT
 induction n with
 |zero=>rfl
 |succ n ih=>rw[Nj,OM,ih,Nj];rfl
def G0{b:Type}{as:List b}{f:b->aab}:as.map (fun a=>dI (f a))=(as.map f).map dI:=by rw[MB];rfl
def kW{b:Type}{as:List b}{f:b->Int}:as.map (fun a=>D.int (f a))=(as.map f).map D.int:=by rw[MB];rfl
def aE{K:aad}{b:aac}{e:TE}{g:DE}{c:TA}{f:DA}(ha:EM K b [] e g)(i:AM K b [] c f):AM K b [] (bG e c) (ra g f):=dD ha i (fun _ h=>(nomatch h)) (fun _ h=>(nomatch h))
def vF{c:DI}{e:D->Dl->(Dl->Prop)->Prop}{b:DT}{f:DE}{k:Nat}{idx:aac}{δ:Dl}{P:DK}{t:aaa}(i:∀R:List D->Prop,R (t.map dI)->c δ R)(hl:t.length<=1000)
  (hb:∀r∈t,∀R:List D->Prop,R [dI r]->jW e b f (dP k idx δ) (dI r) R) (h:P (dT t)):oW c e b f k idx δ P:=kH (g:=dI) i hl hb h
def KQ{a b:aab}:a.map D.int++b.map D.int=(a++b).map D.int:=MC.symm
def qZ(t:aaa)(j:Nat):aab:=t.map fun r=>r.getD j 0
end L3
namespace L3
open PySem
open L2 hiding D Rf Rfs Rp dI dT
end L3
namespace L3
open PySem
open L2 hiding D Rf Rfs Rp dI dT
def Ei{a:D}{ds:List D}:atI (a::ds) 0=some a:=by
 unfold atI;rw[cB (by omega) (by rw[Me];omega)];rfl
def EI{a b:D}{ds:List D}:atI (a::b::ds) 1=some b:=by
 unfold atI;rw[cB (by omega) (by rw[Me,Me];omega)];rfl
def FZ{a b c:D}{ds:List D}:atI (a::b::c::ds) 2=some c:=by
 unfold atI;rw[cB (by omega) (by rw[Me,Me,Me];omega)];rfl
def Fo{a b c d:D}{ds:List D}:atI (a::b::c::d::ds) 3=some d:=by
 unfold atI;rw[cB (by omega) (by rw[Me,Me,Me,Me];omega)];rfl
end L3
namespace L2
open PySem PySem.Spec PyProof.Rows
section
variable {prog:Program}{w:World}{A:Around}{E:Value->Shared->Prop}{s:Shared}
theorem vq{it t:Addr}{items:Array Value}(g:t≠it):∀(n i:Nat) (s:Shared) (Q:List Value->Shared->Prop),s.heap.IsListIter it t i->s.heap.IsList t items->i+n<=items.size ->
  (∀h',h'.IsListIter it t (i+n)->Heap.SameBut it s.heap h'->Q ((items.toList.drop i).take n) { s with heap:=h' })->wpAny (model prog w) A (draw (.ref it) n) Q E s
 |0,i,s,Q,c,_,_,b=>by
  show wpAny _ _ (pure []) Q E s
  exact wpAny_pure (by simpa using b s.heap c (Heap.SameBut.refl ..))
 |n+1,i,s,Q,c,ht,u,b=>by
  have h:i<items.size:=by omega
  show wpAny _ _ (pyNext (.ref it) >>= _) Q E s
  refine wpAny_bind (wpAny_pyNext_list_item c ht (x:=items[i]) (by simp [h]) fun r p f=>?_)
  have m:r.IsList t items:=ht.at fun o e=>(f.2 t g).trans e
  refine wpAny_bind (wpAny_holding (vq g n (i+1) _ _ p m (by omega) fun q l j=>wpAny_pure ?_))
  have hd:items.toList.drop i=items[i]::items.toList.drop (i+1):=by simp [M5,h]
  have:=b q (by rw[show i+(n+1)=i+1+n by omega];exact l) (f.trans j)
  rw[hd,Pm] at this
  exact this
def qp{t:Addr}{items:Array Value}{Q:List Value->Shared->Prop}(h:A.handled=none)(ht:s.heap.IsList t items)
  (i:∀h',Heap.ExtBut s.heap.objs.size s.heap h'->Q items.toList { s with heap:=h' }):wpAny (model prog w) A (unpackItems (.ref t) items.size none) Q E s:=by
 have f:t≠s.heap.objs.size:=by obtain ⟨o,g,_⟩:=ht;exact MA (Heap.lt_size g)
 unfold unpackItems
 refine wpAny_bind ?_
 .unfold notIterableAtAll
  refine wpAny_bind (wpAny_specialOf ht.typeIs PySem.F.slot_list_iter.lookup ?_)
  refine wpAny_pure ?_
  simp only[MY,if_false]
  refine wpAny_bind (wpAny_holding (wpAny_pyIter_list ht ?_))
  refine wpAny_bind (wpAny_holding (vq f items.size 0 _ _ ⟨_,Heap.get?_push_size _ rfl,rfl,rfl⟩ (ht.push _) (by omega) fun p m c=>?_))
  have q:List.take items.size (List.drop 0 items.toList)=items.toList:=by
   rw[OO];exact Nl (by simp)
  rw[q]
  rw[if_neg (by simp)]
  have l:p.IsList t items:=(ht.push _).at fun o e=>(c.2 t f).trans e
  refine wpAny_bind (wpAny_holding (wpAny_pyNext_list_end h m l (by simp) fun n j=>?_))
  simp only[Option.isSome_none,MY,if_false]
  refine wpAny_pure (i n fun b o hb e=>j b o hb ((c.2 b hb).trans (Heap.get?_push_of_some _ e)))
def pf{env:Env}{b:List Expr}{x1}{f:Pos}{t:Addr}{items:Array Value}{Q:Unit->Shared->Prop}(c:A.handled=none)(ht:s.heap.IsList t items)
  (hn:(assignEach b env).length=items.size) (e:(assignEach b env).findIdx? (·.1)=none)
  (h:∀h',Heap.ExtBut s.heap.objs.size s.heap h'->wpAny (model prog w) A (assignInOrder ((assignEach b env).map (·.2)) items.toList) Q E { s with heap:=h' }) :
  wpAny (model prog w) A (assign (.Tuple b x1 f) env (.ref t)) Q E s:=by
 rw[assign_Tuple]
 refine wpAny_bind (wpAny_standAt ?_)
 unfold unpack
 rw[hn,e]
 exact wpAny_bind (wpAny_holding (qp c ht h))
end
section
variable {X:Cx}{K:aad}
def Lu(K:aad)(n:Nat)(t:TGs):TG:=fun v b H Q=>∃a xs,v=.ref a/\SqL K H a xs/\xs.length=n/\t xs b H Q
def Iw{es:List Expr}{k:Nat}{t:TGs}{n:Nat}{q:Pos}(m:X.K=K)(l:X.calm=true)(h:PGs X es t)
  (hn:(assignEach es X.env).length=n:=by rfl) (p:(assignEach es X.env).findIdx? (·.1)=none:=by rfl):PG X (.Tuple es k q) (Lu K n t):=by
 subst m
 intro c s f H v u Q I r hw
 obtain ⟨a,xs,e1,j,hl,hw⟩:=hw
 subst e1
 cases r
 obtain ⟨z,g,ht,y⟩:=I.list j
 refine pf (I.ok.hd l) ht.isList (by simp [hn,<- hl,g.length]) p fun h' i=>?_
 have x:Inv X c f H { s with heap:=h' }:=I.kept (t':=s.toks) fun b o e=>i b o (MA (Heap.lt_size e)) e
 exact h c _ f H xs _ Q x (by simpa using g) hw
def pq(k:Nat)(g:TGs):Prop:=∀x b H Q,g x b H Q->g x b H fun c e=>Q c e/\c.length=b.length/\∀j,k<=j->c[j]?=b[j]?
def pq.nil{k:Nat}:pq k JR:=fun x b H Q q=>⟨q.1,q.2,rfl,fun _ _=>rfl⟩
end
end L2
namespace Maj
open L2 (uL gy qM qU)
def gp(xs:aab)(k:Nat):Int:=((uL xs).take k).sum
def kO:List Bool->aab->Int
 |true::m,x::xs=>x+kO m xs
 |false::m,_::xs=>kO m xs
 |_,_=>0
def cnt:List Bool->Nat
 |true::m=>cnt m+1
 |false::m=>cnt m
 |[]=>0
theorem tF:∀{k:Nat}{y:Int}{ys:aab},(y::ys).Pairwise (·>=·)->k<=ys.length->(ys.take k).sum<=((y::ys).take k).sum
 |0,y,ys,_,_=>by simp
 |k+1,y,[],_,h=>by simp at h
 |k+1,y,z::f,b,h=>by
  rw[Pm,Pm,MF,MF]
  obtain ⟨e,c⟩:=Py.mp b
  have:=tF (k:=k) c (by simpa using h)
  have:=e z Fk
  omega
theorem mm:∀{ys:aab}{m:List Bool},ys.Pairwise (·>=·)->m.length=ys.length->kO m ys<=(ys.take (cnt m)).sum
 |[],[],_,_=>by simp [kO,cnt]
 |[],_::_,_,h=>by simp at h
 |_::_,[],_,h=>by simp at h
 |y::ys,true::m,c,h=>by
  have:=mm (Py.mp c).2 (show m.length=ys.length by simpa using h)
  rw[kO,cnt,Pm,MF];omega
 |y::ys,false::m,c,h=>by
  have hl:m.length=ys.length:=by simpa using h
  have f:=mm (Py.mp c).2 hl
  have e:cnt m<=ys.length:=by
   have:∀m:List Bool,cnt m<=m.length:=fun m=>by
    induction m with
    |nil=>simp [cnt]
    |cons b m ih=>cases b<;>simp [cnt]<;>omega
   rw[<- hl];exact this m
  have:=tF c e
  rw[kO,cnt];omega
theorem Dj{xs ys:aab}(h:xs.Perm ys):∀m:List Bool,m.length=xs.length->∃e:List Bool,e.length=ys.length/\cnt e=cnt m/\kO e ys=kO m xs:=by
 induction h with
 |nil=>exact fun m h=>⟨m,h,rfl,rfl⟩
 |cons x _ ih =>
  intro m h
  cases m with
  |nil=>simp at h
  |cons b m =>
   obtain ⟨e,n,j,i⟩:=ih m (by simpa using h)
   refine⟨b::e,by simp [n],?_,?_⟩
   .cases b<;>simp [cnt,j]
   .cases b<;>simp [kO,i]
 |swap x y l =>
  intro m h
  match m,h with
  |b::c::m,h =>
   refine⟨c::b::m,by simpa using h,?_,?_⟩
   .cases b<;>cases c<;>simp [cnt]
   .cases b<;>cases c<;>simp [kO]<;>omega
  |[_],h=>simp at h
  |[],h=>simp at h
 |trans _ _ s t =>
  intro m h
  obtain ⟨g,a1,a2,r⟩:=s m h
  obtain ⟨f,q,p,o⟩:=t g a1
  exact⟨f,q,p.trans a2,o.trans r⟩
def HP{xs:aab}{m:List Bool}(h:m.length=xs.length):kO m xs<=gp xs (cnt m):=by
 obtain ⟨f,e,c,b⟩:=Dj (gy xs).symm m h
 rw[<- b,<- c]
 exact mm (qM xs) e
def above(one b:aab):aac:=(List.range one.length).filter fun p=>decide (gp b (p+1)<gp one (p+1))
end Maj
namespace L3
open PySem
open L2 hiding D Rf Rfs Rp dI dT
section
variable {K:aad}{Γ:aac}
def EX(n:Nat)(b:List D->Dl->(Dl->Prop)->Prop)(x:D)(δ:Dl)(P:Dl->Prop):Prop:=asL x fun ds=>ds.length=n/\b ds δ P
def JY{n:Nat}{g:TGs}{f:List D->Dl->(Dl->Prop)->Prop}(h:GTs K Γ g f):GT K Γ (Lu K n g) (EX n f) :=
 ⟨fun x δ P t k q=>by obtain ⟨ds,e,z⟩:=cg q;exact jx e ⟨z.1,h.mono _ _ _ _ k z.2⟩,
 fun {B0 fps δ p H x v fp Q} o r i q=>by
  obtain ⟨ds,e,z⟩:=cg q
  obtain ⟨a,xs,s,rfl,l,c,m⟩:=r.seq e
  exact⟨a,xs,rfl,l,c.length.trans z.1,h.run o c (fun j hj b hb=>i j hj b (m b hb)) z.2⟩⟩
end
end L3
namespace L3
open PySem L2
section
variable {K:aad}
def EU(xs:List D)(P:Int->Prop):Prop:=match xs with|[.int j]=>P j|[.bl b]=>P (if b then 1 else 0)|_=>False
def zu{i:Int}{P:Int->Prop}:EU [.int i] P↔P i:=M8
def BP{b:Bool}{P:Int->Prop}:EU [.bl b] P↔P (if b then 1 else 0):=M8
def yB{xs:List D}{P:Int->Prop}(h:EU xs P):(∃i,xs=[.int i]/\P i)\/∃b,xs=[.bl b]/\P (if b then 1 else 0):=by
 unfold EU at h;split at h
 .exact .inl ⟨_,rfl,h⟩
 .exact .inr ⟨_,rfl,h⟩
 .exact h.elim
def FC(xs:List D)(P:DK):Prop:=EU xs fun i=>P (.int i)
def Lf:nE K (fun xs H Q=>(∃i,xs=[.int i]/\Q (.int i) H)\/∃k,xs=[.bl k]/\Q (.int (if k then 1 else 0)) H) FC :=
 ⟨fun xs P f k h=>by
  rcases yB h with ⟨i,rfl,z⟩|⟨b,rfl,z⟩
  .exact k _ z
  .exact k _ z,
 fun {H xs vs Q} r h=>by
  rcases yB h with ⟨i,rfl,z⟩|⟨b,rfl,z⟩
  .exact .inl ⟨i,r.ints1,z _ H [] (Same.refl H) ⟨rfl,rfl⟩ Nw.nil⟩
  .refine .inr ⟨b,?_,z _ H [] (Same.refl H) ⟨rfl,rfl⟩ Nw.nil⟩
   obtain ⟨fp,x,r,e,c,rfl,_,⟨rfl,_⟩,⟨rfl,_⟩⟩:=r
   rfl⟩
end
end L3
namespace L3
open PySem
open L2 hiding D Rf Rfs Rp dI dT
end L3
namespace L3
open PySem L2
structure AOk(K:aad)(B0:Hp)(Γ:aac)(i j m:Nat)(a0:Addr)(fps:Nat->List Addr)(δ:Dl)(σ:St)(H:Hp):Prop where
 ok:Ok K B0 Γ fps (δ.set j none) σ H
 hi:i∈Γ
 hj:j∉Γ
 al:∃ds es xs b,δ[i]?=some (some (.lst ds))/\ds[m]?=some (.lst es)/\δ[j]?=some (some (.lst es))/\σ[i]?=some (some (.ref a0))/\H a0=some (.lst xs)/\xs[m]?=some (.ref b)/\σ[j]?=some (some (.ref b))
section
variable {K:aad}{ρ:Bool}{Γr Γl Γ:aac}{B0:Hp}{i j m:Nat}{a0:Addr}{fps:Nat->List Addr}{δ:Dl}{σ:St}{H H':Hp}{t u:TS}{d e:Nat->DS}{te tx t1:TE}{de dx d1:DE}
def AOk.ne(o:AOk K B0 Γ i j m a0 fps δ σ H):i≠j:=fun z=>o.hj (z▸o.hi)
theorem AOk.same(o:AOk K B0 Γ i j m a0 fps δ σ H)(s:Same H H'):AOk K B0 Γ i j m a0 fps δ σ H':=by
 obtain ⟨ds,es,xs,b,n,l,h,g,f,e,c⟩:=o.al
 exact⟨o.ok.same s,o.hi,o.hj,ds,es,xs,b,n,l,h,g,s.st _ _ f trivial,e,c⟩
def AOk.rd(o:AOk K B0 Γ i j m a0 fps δ σ H):∃f,Ok K B0 (minus Γ [i]) f δ σ H:=by
 obtain ⟨ds,es,xs,b,B,y,n,x,v,u,t⟩:=o.al
 have e1:(δ.set j none)[i]?=some (some (.lst ds)):=by rw[KE (MI o.ne)];exact B
 obtain ⟨a,E,C,ys,q,g,q2,q3,q4,q5,q6,q7,q8,q9,q10,_⟩:=ko (es':=[]) o.ok o.hi e1 y
 rw[x] at g;cases g
 rw[v] at q2;cases q2
 rw[u] at q4;cases q4
 refine⟨fun l=>if l=j then b::q else fps l,by have:=o.ok.len;simpa using this,o.ok.b0,fun l d e=>?_,fun l h=>?_,fun l hl=>?_,fun l hl k s a ha=>?_⟩
 .by_cases hl:l=j
  .subst hl
   rw[n] at e;cases e
   rw[if_pos rfl]
   exact⟨.ref b,t,b,ys,q,rfl,q5,rfl,q6⟩
  .rw[if_neg hl]
   exact o.ok.val l d (by rw[KE (MI hl)];exact e)
 .by_cases hl:l=j
  .subst hl;exact absurd n (h _)
  .rw[if_neg hl]
   exact o.ok.non l fun d z=>h d (by rw[KE (MI hl)] at z;exact z)
 .obtain ⟨c,p⟩:=bz.mp hl
  have:l≠j:=fun z=>o.hj (z▸c)
  rw[if_neg this]
  exact o.ok.own l c
 .obtain ⟨c,p⟩:=bz.mp hl
  have n1:l≠j:=fun z=>o.hj (z▸c)
  have n2:i≠l:=fun z=>p (Gc.mpr z.symm)
  rw[if_neg n1] at ha
  by_cases r:k=j
  .rw[if_pos r]
   intro z
   rcases Mb.mp z with z|z
   .exact o.ok.dj l c i n2 a ha (by rw[z];exact q10)
   .exact o.ok.dj l c i n2 a ha (q9 a z)
  .rw[if_neg r]
   exact o.ok.dj l c k s a ha
def AOk.write(o:AOk K B0 Γ i j m a0 fps δ σ H){ds es:List D}(n:δ[i]?=some (some (.lst ds)))(h:ds[m]?=some (.lst es)){es':List D} :
  ∃b ys f,σ[j]?=some (some (.ref b))/\H b=some (.lst ys)/\Rfs K H es ys f/\f.Nodup/\b∉f/\(∀c∈f,Mu H c)/\∀{ys':List V}{fe':List Addr},Rfs K H es' ys' fe'->fe'.Nodup->(∀c∈fe',c∈f) ->
   ∃e,AOk K B0 Γ i j m a0 e ((δ.set i (some (.lst (ds.set m (.lst es'))))).set j (some (.lst es'))) σ (upd H b (.lst ys')):=by
 obtain ⟨ds0,Y,xs,b,E,C,J,s,q,p,B⟩:=o.al
 rw[n] at E;cases E
 rw[h] at C;cases C
 have e1:(δ.set j none)[i]?=some (some (.lst ds)):=by rw[KE (MI o.ne)];exact n
 obtain ⟨a,X,S,ys,f,y,q2,q3,q4,q5,q6,q7,q8,q9,q10,KK⟩:=ko (es':=es') o.ok o.hi e1 h
 rw[s] at y;cases y
 rw[q] at q2;cases q2
 rw[p] at q4;cases q4
 have Q:a0≠b:=fun z=>by
  obtain ⟨T,U,L,x,v,I,G⟩:=o.ok.wM e1
  rw[s] at x;cases x
  have t:=(o.ok.own i o.hi).1
  rw[I] at t
  obtain ⟨R,_,_,u,_,_,F,_⟩:=G.inner (Mn.mp t).2 h
  rw[q] at v;cases v
  rw[p] at u;cases u
  exact (Mn.mp t).1 (by rw[z];exact F)
 refine⟨b,ys,f,B,q5,q6,q7,q8,fun c g=>((o.ok.own i o.hi).2 c (q9 c g)).2,fun {ys' fe'} r nd sub=>?_⟩
 obtain ⟨e,M⟩:=KK r nd (fun z=>q8 (sub b z)) (fun c g=>((o.ok.own i o.hi).2 c (q9 c (sub c g))).2) (fun c g=>.inl (sub c g))
 have P:i<δ.length:=(Ma.mp n).1
 have l:j<δ.length:=(Ma.mp J).1
 have O:m<ds.length:=(Ma.mp h).1
 refine⟨e,?_,o.hi,o.hj,ds.set m (.lst es'),es',xs,b,?_,?_,?_,s,by rw[aG Q];exact q,p,B⟩
 .rw[OL,List.set_comm _ _ o.ne];exact M
 .rw[KE (MI o.ne),Mj P]
 .rw[Mj O]
 .rw[Mj (by rw[Mv];exact l)]
def STA(K:aad)(i j:Nat)(t:TS)(b:aac)(d:Nat->DS):Prop :=
 ∀⦃B0:Hp⦄ ⦃Dn:Ends⦄ ⦃E:bc⦄ ⦃m:Nat⦄ ⦃a0:Addr⦄ ⦃fps:Nat->List Addr⦄ ⦃δ:Dl⦄ ⦃σ:St⦄ ⦃H:Hp⦄,(∀{fps δ σ H},AOk K B0 b i j m a0 fps δ σ H->E.nx δ->Dn.nx σ H)->AOk K B0 b i j m a0 fps δ σ H->d m E δ->t Dn σ H
def ID(c:STA K i j t Γ d)(b:STA K i j u Γ e):STA K i j (wV t u) Γ (fun m=>xl (d m) (e m)) :=
 fun {B0 Dn E m a0 fps δ σ H} k o h=>c (Dn:={ Dn with nx:=u Dn }) (E:={ E with nx:=e m E }) (fun o h=>b k o h) o h
def HF(a:Nat)(f:ER K (minus Γ [i]) te de)(ha:a∉Γ:=by decide)(c:a≠j:=by decide)(n:a≠i:=by decide):STA K i j (jZ te (eO a)) Γ (fun _=>IM a (CD de)) :=
 fun {B0 Dn E m a0 fps δ σ H} k o h=>by
  obtain ⟨g,p⟩:=o.rd
  refine f.run p (f.mono _ _ _ (fun x z v H' s r=>?_) h)
  obtain ⟨fp,r⟩:=r
  obtain ⟨_,rfl⟩:=r.aP z.1
  have e:=(o.ok.yS a s r (fun _ _ _ w=>(nomatch w))).sub (Γ':=Γ) fun l hl=>bz.mpr ⟨hl,fun q=>ha (by rw[<- Gc.mp q];exact hl)⟩
  rw[List.set_comm _ _ (MI c)] at e
  obtain ⟨ds,es,xs,b,G,F,C,B,y,u,t⟩:=o.al
  refine k ⟨e,o.hi,o.hj,ds,es,xs,b,?_,F,?_,?_,s.st _ _ y trivial,u,?_⟩ z.2
  .rw[KE n];exact G
  .rw[KE c];exact C
  .rw[KE n];exact B
  .rw[KE c];exact t
def Ku(i j:Nat)(b dx:DE)(m:Nat)(E:bc)(δ:Dl):Prop:=b δ fun x=>x.aP=true/\dx δ fun k=>asI [k] fun q=>iF δ i fun ds=>iF δ j fun es=>match ixN es.length q with
 |some p=>E.nx ((δ.set i (some (.lst (ds.set m (.lst (es.set p x)))))).set j (some (.lst (es.set p x))))
 |none=>False
def Hi(t:ER K (minus Γ [i]) te de)(s:ER K (minus Γ [i]) tx dx):STA K i j (jZ te (AB (b7 j) tx sJ)) Γ (fun m=>Ku i j de dx m) :=
 fun {B0 Dn E m a0 fps δ σ H} k o h=>by
  obtain ⟨C,Q⟩:=o.rd
  refine t.run Q (t.mono _ _ _ (fun x z v H1 n r=>?_) h)
  obtain ⟨G,z⟩:=z
  obtain ⟨fp,r⟩:=r
  obtain ⟨_,rfl⟩:=r.aP G
  obtain ⟨QK,P⟩:=(o.same n).rd
  obtain ⟨ds0,F,xs,b,B,T,S,g4,g5,g6,u⟩:=o.al
  refine⟨.ref b,u,s.run P (s.mono _ _ _ (fun y z w H2 l L=>?_) z)⟩
  obtain ⟨q,U,z⟩:=bC z
  subst U
  obtain ⟨ds,e1,z⟩:=dq z
  obtain ⟨es,e2,z⟩:=dq z
  rw[B] at e1;cases e1
  rw[S] at e2;cases e2
  cases ep:ixN F.length q with
  |none=>rw[ep] at z;exact z.elim
  |some p =>
   rw[ep] at z
   obtain ⟨b',ys,fe,g,J,f,I,Z,Y,KK⟩:=((o.same n).same l).write (es':=F.set p x) B T
   rw[u] at g;cases g
   obtain ⟨Qi,M,X,R⟩:=Rfs.set (r.same l) Nb f I (fun c e=>(nomatch e)) (AZ ep)
   obtain ⟨XI,O⟩:=KK M X fun c e=>(R c e).elim id fun w=>(nomatch w)
   exact⟨b,ys,q,p,rfl,L.int,J,by rw[f.length];exact ep,k O z⟩
def mU(i j m:Nat)(E:bc)(δ:Dl):Prop:=iF δ i fun ds=>E.nx ((δ.set i (some (.lst (ds.set m (.lst []))))).set j (some (.lst [])))
def vP:STA K i j (v5 (Kt K "list" Bp (b7 j))) Γ (fun m=>mU i j m) :=
 fun {B0 Dn E m a0 fps δ σ H} k o h=>by
  obtain ⟨ds0,G,xs,b,l,q,z,y,x,v,g⟩:=o.al
  obtain ⟨ds,e1,h⟩:=dq h
  rw[l] at e1;cases e1
  obtain ⟨C,ys,B,f,e,u,t,s,r,KK⟩:=o.write (es':=[]) l q
  rw[g] at f;cases f
  obtain ⟨F,n⟩:=KK (ys':=[]) (fe':=[]) ⟨rfl,rfl⟩ Nb fun c p=>(nomatch p)
  exact⟨.ref b,g,.inl ⟨rfl,ys,.inl (.inl e)⟩,b,ys,rfl,rfl,e,k n h⟩
def AI(i j:Nat)(c:DE)(d:Nat->DS)(E:bc)(δ:Dl):Prop:=iF δ i fun ds=>c δ fun k=>asI [k] fun m=>(0<=m/\j<δ.length)/\nI (ds[m.toNat]?) fun es =>
 d m.toNat { E with nx:=fun b=>E.nx (b.set j none) } (δ.set j (some (.lst es)))
def Gd(i j:Nat)(g:ER K Γ t1 d1)(hb:STA K i j t Γ d)(hi:i∈Γ:=by decide)(hj:j∉Γ:=by decide)(q:i≠j:=by decide) :
  ST K ρ Γr Γl (wV (jZ (tOp (yg K) (b7 i) t1) (eO j)) t) Γ Γ (AI i j d1 d):=by
 intro B0 Dn E fps δ σ H k o h
 refine ux (k:=k) g hi hj q o ?_
 obtain ⟨ds,e,h⟩:=dq h
 refine Fi e (g.mono _ _ _ (fun x z=>?_) h)
 obtain ⟨m,em,f⟩:=bC z
 subst em
 refine⟨f.1,?_⟩
 obtain ⟨es,n,r⟩:=iO f.2
 refine mE n fun a0 b xs σ' H' l s p F B y v u=>?_
 refine hb (E:={ E with nx:=fun c=>E.nx (c.set j none) }) (fun C z=>k.nx C.ok z) ⟨by rw[OL];exact s,hi,hj,ds,es,xs,b,?_,n,?_,B,y,v,u⟩ r
 .rw[KE (MI q)] at p ⊢;exact p
 .rw[Mj f.1.2]
def Jg(i j:Nat)(d:Nat->DS)(E:bc)(δ:Dl):Prop:=∃(L:Nat) (W:Nat->Dl->Prop),W 0 δ/\∀m δ,W m δ->iF δ i fun ds=>(ds.length=L/\j<δ.length) /\
 if m<L then nI (ds[m]?) fun es=>d m { E with nx:=fun b=>W (m+1) (b.set j none) } (δ.set j (some (.lst es))) else E.nx δ
end
end L3
namespace L3
open PySem
open L2 hiding D Rf Rfs Rp dI dT
section
variable {δ:Dl}{i j:Nat}{t:aaa}{a b v:Int}{d1 de dx:DE}{d:Nat->DS}{E:bc}
def DC(c:δ[i]?=some (some (dT t)))(e:∀R:DK,R (.int a)->d1 δ R)(hj:j<δ.length)(ha:0<=a/\a<t.length)
  (h:d a.toNat { E with nx:=fun b=>E.nx (b.set j none) } (δ.set j (some (dI (rowAt t a.toNat))))):AI i j d1 d E δ:=by
 unfold AI
 refine (iN c).mpr (e _ ⟨⟨ha.1,hj⟩,?_⟩)
 exact mE (Ff (by omega)) h
def IQ{r:aab}{m:Nat}(c:δ[i]?=some (some (dT t)))(e:δ[j]?=some (some (dI r)))(f:∀R:DK,R (.int v)->de δ R)(g:∀R:DK,R (.int b)->dx δ R)(hb:0<=b/\b<r.length)
  (h:E.nx ((δ.set i (some (dT (t.set m (r.set b.toNat v))))).set j (some (dI (r.set b.toNat v))))):Ku i j de dx m E δ:=by
 unfold Ku
 refine f _ ⟨rfl,g _ ((iN c).mpr ((iN e).mpr ?_))⟩
 show match ixN (r.map D.int).length b with|some p=>E.nx ((δ.set i (some (.lst ((t.map dI).set m (.lst ((r.map D.int).set p (.int v))))))).set j (some (.lst ((r.map D.int).set p (.int v)))))|none=>False
 rw[cB hb.1 (by rw[mo];exact hb.2)]
 show E.nx ((δ.set i (some (.lst ((t.map dI).set m (.lst ((r.map D.int).set b.toNat (.int v))))))).set j (some (.lst ((r.map D.int).set b.toNat (.int v)))))
 rw[qo,GS];exact h
def uv(f:δ[i]?=some (some (dT t)))(hj:j<δ.length)(c:i≠j)(s:1<=t.length)(h:E.nx ((δ.set i (some (dT (t.map fun _=>[])))).set j none)):Jg i j (fun m=>mU i j m) E δ:=by
 have p:i<δ.length:=(Ma.mp f).1
 refine⟨t.length,fun m b=>(m=0/\b=δ)\/(1<=m/\m<=t.length/\b=(δ.set i (some (dT ((t.take m).map (fun _=>[])++t.drop m)))).set j none),.inl ⟨rfl,rfl⟩,?_⟩
 have step:∀m (b:Dl),m<t.length->b[i]?=some (some (dT ((t.take m).map (fun _=>[])++t.drop m)))->j<b.length->(b.set i (some (dT ((t.take (m+1)).map (fun _=>[])++t.drop (m+1))))).set j none=(δ.set i (some (dT ((t.take (m+1)).map (fun _=>[])++t.drop (m+1))))).set j none ->
   nI (((t.take m).map (fun _=>([]:aab))++t.drop m).map dI)[m]? fun es=>mU i j m { E with nx:=fun g=>((m+1=0/\g.set j none=δ)\/(1<=m+1/\m+1<=t.length/\g.set j none=(δ.set i (some (dT ((t.take (m+1)).map (fun _=>[])++t.drop (m+1))))).set j none)) } (b.set j (some (.lst es))):=by
  intro m b hm e u l
  have o:(((t.take m).map (fun _=>([]:aab))++t.drop m).map dI)[m]?=some (dI (t.getD m [])):=by
   rw[Mc,MD (by rw[mo,MT];omega),mo,MT,List.getElem?_drop]
   have:m+(m - min m t.length)=m:=by omega
   rw[this,gV,dz hm]
   rfl
  refine mE o ?_
  unfold mU
  refine (iN (ds:=(((t.take m).map (fun _=>([]:aab))++t.drop m).map dI)) (by rw[KE (MI c)];exact e)).mpr (.inr ⟨by omega,hm,?_⟩)
  have n:(((t.take m).map (fun _=>([]:aab))++t.drop m).map dI).set m (.lst [])=(((t.take (m+1)).map (fun _=>([]:aab))++t.drop (m+1))).map dI:=by
   show (((t.take m).map (fun _=>([]:aab))++t.drop m).map dI).set m (dI [])=_
   rw[<- NO]
   congr 1
   rw[List.set_append_right _ _ (by rw[mo,MT];omega),mo,MT,NS (by omega),Nat.sub_self,M5 hm,Px,List.take_add_one,dz hm,MC]
   simp only[Option.toList,Ml,NP,M0,List.singleton_append]
  rw[n,OL]
  rw[List.set_comm _ _ (MI c),OL]
  exact l
 rintro m b (⟨rfl,rfl⟩|⟨r,q,rfl⟩)
 .refine (iN f).mpr ⟨⟨by rw[mo],hj⟩,?_⟩
  rw[if_pos (by omega)]
  exact step 0 b (by omega) (by simpa using f) hj rfl
 .have e2:((δ.set i (some (dT ((t.take m).map (fun _=>[])++t.drop m)))).set j none)[i]?=some (some (dT ((t.take m).map (fun _=>[])++t.drop m))):=by
   rw[KE (MI c),Mj p]
  refine (iN e2).mpr ⟨⟨by rw[mo,Mt,mo,MT,Nk];omega,by simpa using hj⟩,?_⟩
  by_cases hm:m<t.length
  .rw[if_pos hm]
   refine step m _ hm e2 (by simpa using hj) ?_
   rw[show ∀A B:Option D,((δ.set i A).set j none).set i B=(δ.set i B).set j none from fun A B=>by rw[List.set_comm _ _ (MI c),OL],OL]
  .rw[if_neg hm]
   have:m=t.length:=by omega
   subst this
   rw[O0,N9,ML]
   exact h
end
end L3
namespace L3
open PySem L2
def D.flat:D->Bool
 |.tup ds=>ds.all D.aP
 |d=>d.aP
theorem Rf.flat{K:aad}{H:Hp}{d:D}{v:V}{fp:List Addr}(h:Rf K H d v fp)(s:d.flat=true):fp=[]:=by
 cases d with
 |tup ds =>
  obtain ⟨a,xs,rfl,c,b⟩:=h
  exact (b.jf s).2
 |_=>first|exact (h.aP s).2|cases s
def Ai{i:Int}:(D.int i).flat=true:=rfl
def BR{b:Bool}:(D.bl b).flat=true:=rfl
def vL{a b c d:Int}:(D.tup [.int a,.int b,.int c,.int d]).flat=true:=rfl
def we{a b c:Int}:(D.tup [.int a,.int b,.int c]).flat=true:=rfl
def wD{a b:Int}:(D.tup [.int a,.int b]).flat=true:=rfl
def G9(d:DE)(δ:Dl)(P:DK):Prop:=d δ fun x=>x.flat=true/\P x
theorem ER.flat{K:aad}{b:aac}{t:TE}{d:DE}(h:ER K b t d):EM K b [] t (G9 d):=⟨fun δ P c k q=>h.mono _ _ _ (fun x z=>⟨z.1,k x z.2⟩) q,fun o q=>h.run o (h.mono _ _ _ (fun x z v H' s r=>by
 obtain ⟨fp,r⟩:=r
 have e:=r.flat z.1
 subst e
 exact z.2 v H' [] s r Nw.nil) q)⟩
end L3
namespace L3
open PySem
open L2 hiding D Rf Rfs Rp dI dT
def kJ{t:aaa}{n m:Nat}{a b:Int}{R:DK}(c:bK n m t)(ha:0<=a/\a<n)(hb:0<=b/\b<m)(h:R (.int (cellAt t a.toNat b.toNat))):asO (atI (t.map dI) a) fun z=>sS z (.int b) R:=by
 have e:=c.row (i:=a.toNat) (by omega)
 have hl:=c.1
 refine fc (by omega) ?_
 rw[ur]
 exact aO (by omega) h
def px{t:aaa}{n m a b c d:Nat}{v:Int}(f:bK n m t)(ha:a<n)(hb:b<m):cellAt (setCell t a b v) c d=if a=c/\b=d then v else cellAt t c d:=by
 have hl:=f.1
 have g:=f.row ha
 unfold setCell cellAt
 by_cases h:a=c
 .subst h
  rw[gV (l:=t.set a _),Mj (by omega),M3]
  by_cases e:b=d
  .subst e
   rw[if_pos ⟨rfl,rfl⟩,gV,Mj (by rw[show (t.getD a []).length=m from g];exact hb),M3]
  .rw[if_neg (fun z=>e z.2),gV,KE e,<- gV]
 .rw[if_neg (fun z=>h z.1),gV (l:=t.set a _),KE h,<- gV]
def nu(n m:Nat)(t:aaa):Prop:=bK n m t/\∀r∈t,∀x∈r,x=0\/x=1
def nu.cell{n m a b:Nat}{t:aaa}(h:nu n m t)(ha:a<n)(hb:b<m):cellAt t a b=0\/cellAt t a b=1:=by
 have hl:=h.1.1
 have c:=h.1.row ha
 refine h.2 (rowAt t a) (qP (by omega)) _ ?_
 show (rowAt t a).getD b 0∈rowAt t a
 rw[gV,dz (by omega)]
 exact MJ _
def nu.set{n m a b:Nat}{t:aaa}{v:Int}(h:nu n m t)(ha:a<n)(e:v=0\/v=1):nu n m (setCell t a b v):=by
 refine⟨h.1.setCell ha,fun r f x c=>?_⟩
 have hl:=h.1.1
 rcases Ni f with z|z
 .exact h.2 r z x c
 .rw[z] at c
  rcases Ni c with w|w
  .exact h.2 _ (qP (by omega)) x w
  .rw[w];exact e
end L3
namespace L2
open PySem PySem.Spec PyProof.Rows
section
variable {κ:Type}[DecidableEq κ]
def ju(kvs:List (κ × V))(k:κ):Option V:=(kvs.find? fun b=>decide (b.1=k)).map (·.2)
def putK(kvs:List (κ × V))(k:κ)(v:V):List (κ × V) :=
 if (kvs.any fun b=>decide (b.1=k))=true then kvs.map (fun b=>if b.1=k then (b.1,v) else b) else kvs++[(k,v)]
def md{p:κ × V}{r:List (κ × V)}{k:κ}(e:p.1=k):ju (p::r) k=some p.2:=by simp [ju,Oj,e]
def kP{p:κ × V}{r:List (κ × V)}{k:κ}(e:¬ p.1=k):ju (p::r) k=ju r k:=by simp [ju,Oj,e]
theorem sQ(k:κ):∀kvs:List (κ × V),(kvs.any fun b=>decide (b.1=k))=(ju kvs k).isSome
 |[]=>rfl
 |p::r=>by
  rw[List.any_cons]
  by_cases e:p.1=k
  .simp only[md e,decide_eq_true e,Bool.true_or,Option.isSome_some]
  .rw[kP e,decide_eq_false e,Bool.false_or];exact sQ k r
def rF(kvs:List (κ × V))(k:κ)(v:V):(putK kvs k v).length<=kvs.length+1:=by
 unfold putK
 split
 .rw[mo];omega
 .rw[Mt,Me,Oi];omega
def FY{kvs:List (κ × V)}{k:κ}(v:V)(h:ju kvs k=none):putK kvs k v=kvs++[(k,v)]:=by
 unfold putK
 rw[sQ,h]
 exact if_neg (by decide)
theorem ny.qa{o:Option V}{u:Option Value}(r:ny o u):o.isSome=u.isSome:=by
 cases o with
 |none=>cases u with
  |none=>rfl
  |some _=>exact (show False from r).elim
 |some _=>cases u with
  |none=>exact (show False from r).elim
  |some _=>rfl
theorem KV.val{kvs:List (κ × V)}{vs:List (κ × Value)}(r:KV kvs vs)(k:κ):ny (ju kvs k) (valueAt vs k):=by
 unfold KV at r
 induction r with
 |nil=>exact True.intro
 |@cons p q ps c h t ih =>
  obtain ⟨g,i⟩:=h
  by_cases e:p.1=k
  .have f:q.1=k:=g.symm.trans e
   have b:valueAt (q::c) k=some q.2:=by simp [valueAt,Oj,f]
   rw[md e,b];exact i
  .have f:¬ q.1=k:=fun z=>e (g.trans z)
   have b:valueAt (q::c) k=valueAt c k:=by simp [valueAt,Oj,f]
   rw[kP e,b];exact ih
theorem KV.any{kvs:List (κ × V)}{vs:List (κ × Value)}(r:KV kvs vs)(k:κ):(kvs.any fun b=>decide (b.1=k))=vs.any fun b=>decide (b.1=k):=by
 unfold KV at r
 induction r with
 |nil=>rfl
 |cons h t ih=>rw[List.any_cons,List.any_cons,ih,h.1]
theorem KV.KG{kvs:List (κ × V)}{vs:List (κ × Value)}(r:KV kvs vs)(k:κ){y:V}{u:Value}(f:RelV y u) :
  KV (kvs.map fun b=>if b.1=k then (b.1,y) else b) (vs.map fun b=>if b.1=k then (b.1,u) else b):=by
 unfold KV at r ⊢
 induction r with
 |nil=>exact .nil
 |@cons p q ps i h t ih =>
  rw[Ml,Ml]
  refine .cons ?_ ih
  obtain ⟨c,g⟩:=h
  by_cases e:p.1=k
  .rw[if_pos e,if_pos (c.symm.trans e)];exact⟨c,f⟩
  .rw[if_neg e,if_neg (fun z=>e (c.trans z))];exact⟨c,g⟩
def KV.put{kvs:List (κ × V)}{vs:List (κ × Value)}(r:KV kvs vs)(k:κ){y:V}{u:Value}(b:RelV y u):KV (putK kvs k y) (stored vs k u):=by
 unfold putK stored
 rw[r.any k]
 by_cases e:(vs.any fun c=>decide (c.1=k))=true
 .rw[if_pos e,if_pos e];exact r.KG k b
 .rw[if_neg e,if_neg e];exact Paired.snoc r ⟨rfl,b⟩
theorem KV.keys{kvs:List (κ × V)}{vs:List (κ × Value)}(r:KV kvs vs):kvs.map (·.1)=vs.map (·.1):=by
 unfold KV at r
 induction r with
 |nil=>rfl
 |cons h t ih=>rw[Ml,Ml,ih,h.1]
theorem KV.length{kvs:List (κ × V)}{vs:List (κ × Value)}(r:KV kvs vs):kvs.length=vs.length:=Paired.length r
end
theorem Cn{P:Program}{w:World}{k:Key}{u:Value}(r:RelV (kV k) u):(cK P w).is k u=true:=by
 cases k with
 |inl i=>obtain ⟨t,e⟩:=(show ∃t,u=Value.int i t from r);subst e;exact yV P w i t
 |inr x=>obtain ⟨t,e⟩:=(show ∃t,u=Value.str x t from r);subst e;exact yH P w x t
theorem vn{P:Program}{w:World}:∀{ks:List Key}{us:List Value},Vals (ks.map kV) us->ItemsAre (cK P w) ks us
 |[],_,r=>by rw[NP] at r;cases r;exact .nil
 |k::ks,_,r=>by
  rw[Ml] at r
  cases r with
  |cons h t=>exact .cons (Cn h) (vn t)
abbrev KT(H:Hp):List (List Key × V)->List (List Key × Addr × Value)->Prop:=Paired fun p q=>p.1=q.1/\H q.2.1=some (.tup (p.1.map kV))/\RelV p.2 q.2.2
theorem KT.val{H:Hp}{kvs:List (List Key × V)}{xs:List (List Key × Addr × Value)}(r:KT H kvs xs)(k:List Key):ny (ju kvs k) ((atKey xs k).map (·.2)):=by
 induction r with
 |nil=>exact True.intro
 |@cons p q ps c h t ih =>
  obtain ⟨g,_,i⟩:=h
  by_cases e:p.1=k
  .have f:q.1=k:=g.symm.trans e
   have b:atKey (q::c) k=some q.2:=by simp [atKey,Oj,f]
   rw[md e,b];exact i
  .have f:¬ q.1=k:=fun z=>e (g.trans z)
   have b:atKey (q::c) k=atKey c k:=by simp [atKey,Oj,f]
   rw[kP e,b];exact ih
theorem KT.KG{H:Hp}{kvs:List (List Key × V)}{xs:List (List Key × Addr × Value)}(r:KT H kvs xs)(k:List Key){y:V}{u:Value}(g:RelV y u) :
  KT H (kvs.map fun c=>if c.1=k then (c.1,y) else c) (xs.map (putAt k u)):=by
 induction r with
 |nil=>exact .nil
 |@cons p q ps j h t ih =>
  rw[Ml,Ml]
  refine .cons ?_ ih
  obtain ⟨b,f,i⟩:=h
  unfold putAt
  by_cases e:p.1=k
  .rw[if_pos e,if_pos (b.symm.trans e)];exact⟨b,f,g⟩
  .rw[if_neg e,if_neg (fun z=>e (b.trans z))];exact⟨b,f,i⟩
def KT.put{H:Hp}{kvs:List (List Key × V)}{xs:List (List Key × Addr × Value)}(r:KT H kvs xs)(k:List Key){b:Addr}{y:V}{u:Value}(hb:H b=some (.tup (k.map kV)))(c:RelV y u) :
  KT H (putK kvs k y) (storedH xs k b u):=by
 have e:(kvs.any fun f=>decide (f.1=k))=(atKey xs k).isSome:=by
  rw[sQ,(r.val k).qa,Option.isSome_map]
 unfold putK storedH
 rw[e]
 by_cases q:(atKey xs k).isSome=true
 .rw[if_pos q,if_pos q];exact r.KG k c
 .rw[if_neg q,if_neg q];exact Paired.snoc r ⟨rfl,hb,c⟩
def KT.keeps{H H':Hp}{kvs:List (List Key × V)}{xs:List (List Key × Addr × Value)}(r:KT H kvs xs)(ht:∀b ys,H b=some (.tup ys)->H' b=some (.tup ys)):KT H' kvs xs :=
 Paired.Kp r fun _ _ z=>⟨z.1,ht _ _ z.2.1,z.2.2⟩
section
variable {P:Program}{w:World}{H:Hp}{h:Heap}{a:Addr}
def Jh{u:HO}(ok:HOk P w H h)(e:Rd H a u):bX P w H h a u:=e.ok ok
def BZ{kvs:List (Key × V)}(ok:HOk P w H h)(e:Rd H a (.dK kvs)):kvs.length<=sizeLine/\(a == sysModules)=false/\∃vs,KV kvs vs/\h.DictOf (cK P w) a vs :=
 show bX P w H h a (.dK kvs) from Jh ok e
def Jm{kvs:List (Key × V)}(ok:HOk P w H h)(e:H a=some (.dK kvs)):kvs.length<=sizeLine/\(a == sysModules)=false/\∃vs,KV kvs vs/\h.DictOf (cK P w) a vs:=BZ ok (.inl e)
def xB{ks:List Key}(ok:HOk P w H h)(e:H a=some (.tup (ks.map kV))):(tupleKind (cK P w)).is h ks a:=by
 obtain ⟨_,g,r,o,f,c,n,b⟩:=(show bX P w H h a (.tup (ks.map kV)) from ok a _ e)
 exact⟨o,g.toArray,n,f,c,b,by simpa using vn r⟩
def Cw{kvs:List (List Key × V)}(ok:HOk P w H h)(e:Rd H a (.dT kvs)):kvs.length<=sizeLine/\(a == sysModules)=false /\
  ∃xs,KT H kvs xs/\h.DictOfH (tupleKind (cK P w)) a xs:=by
 obtain ⟨z,y,xs,r,o,es,ep,n,j,i,g,f⟩:=(show bX P w H h a (.dT kvs) from Jh ok e)
 refine⟨z,y,xs,r,o,es,ep,n,j,i,g,fun x b=>?_,f⟩
 have all:∀{l:List (List Key × V)}{m:List (List Key × Addr × Value)},KT H l m->∀x∈m,(tupleKind (cK P w)).is h x.1 x.2.1:=by
  intro l m q
  induction q with
  |nil=>intro x b;exact nomatch b
  |@cons p q ps s c t ih =>
   intro x b
   rcases Mb.mp b with e|b
   .subst e
    exact xB ok (by rw[<- c.1];exact c.2.1)
   .exact ih x b
 exact all r x b
def LI{kvs:List (List Key × V)}(ok:HOk P w H h)(e:H a=some (.dT kvs)):kvs.length<=sizeLine/\(a == sysModules)=false /\
  ∃xs,KT H kvs xs/\h.DictOfH (tupleKind (cK P w)) a xs:=Cw ok (.inl e)
end
def xc(H:Hp)(a:Addr)(y:V)(r:Option V):Prop :=
 (∃kvs k,Rd H a (.dK kvs)/\y=kV k/\r=ju kvs k)\/∃kvs k b,Rd H a (.dT kvs)/\y=.ref b/\H b=some (.tup (k.map kV))/\r=ju kvs k
def Dp(H:Hp)(a:Addr)(y v:V)(H':Hp):Prop :=
 (∃kvs k,H a=some (.dK kvs)/\y=kV k/\kvs.length<sizeLine/\H'=upd H a (.dK (putK kvs k v))) \/
 ∃kvs k b,H a=some (.dT kvs)/\y=.ref b/\H b=some (.tup (k.map kV))/\kvs.length<sizeLine/\H'=upd H a (.dT (putK kvs k v))
def xc.k{H:Hp}{a:Addr}{kvs:List (Key × V)}{k:Key}(e:H a=some (.dK kvs)):xc H a (kV k) (ju kvs k):=.inl ⟨kvs,k,.inl e,rfl,rfl⟩
def Dp.k{H:Hp}{a:Addr}{kvs:List (Key × V)}{k:Key}{v:V}(e:H a=some (.dK kvs))(hl:kvs.length<sizeLine):Dp H a (kV k) v (upd H a (.dK (putK kvs k v))):=.inl ⟨kvs,k,e,rfl,hl,rfl⟩
section
variable {X:Cx}{pins:List (Addr × Obj)}{σ:St}{H:Hp}{s:Shared}{a:Addr}{y v:V}{u r:Value}{o:Option V}{A:Around}{E:Value->Shared->Prop}
def Inv.big(I:Inv X pins σ H s):sysModules<s.heap.objs.size:=by
 have h:mainGlobals<s.heap.objs.size:=(I.mod.glob.keeps I.bk).lt
 exact Nat.lt_trans (by decide) h
def Dg{Q:Value->Shared->Prop}(n:A.units+1<cLine)(I:Inv X pins σ H s)(g:xc H a y (some v))(m:RelV y u)(h:∀c s',Inv X pins σ H s'->RelV v c->Q c s') :
  wpAny (model X.prog X.w) A (getItem (.ref a) u) Q E s:=by
 rcases g with ⟨kvs,k,e,f,l⟩|⟨kvs,k,b,e,f,r,l⟩
 .subst f
  obtain ⟨z,hd,vs,i,dd⟩:=BZ I.hok e
  obtain ⟨c,hw,j⟩:=ny.some_of (v:=v) (o:=valueAt vs k) (by rw[l];exact i.val k)
  exact wpAny_getItem_of (Cn m) dd.mapOf hw (h c _ (I.tok _) j)
 .subst f
  cases (show u=Value.ref b from m)
  obtain ⟨z,hd,xs,i,dd⟩:=Cw I.hok e
  obtain ⟨c,hw,j⟩:=ny.some_of (v:=v) (o:=(atKey xs k).map (·.2)) (by rw[l];exact i.val k)
  obtain ⟨p,q,t⟩:=Option.map_eq_some_iff.mp hw
  refine wpAny_getItem_heap (tupleKind_room_in1 n) (xB I.hok r) dd q ?_
  rw[t]
  exact h c _ (I.tok _) j
def Hr{Q:Value->Shared->Prop}(j:A.units+1<cLine)(I:Inv X pins σ H s)(g:xc H a y o)(i:RelV y u)(h:∀s',Inv X pins σ H s'->Q (.bool (!o.isSome)) s') :
  wpAny (model X.prog X.w) A (compareOp .NotIn u (.ref a)) Q E s:=by
 rcases g with ⟨kvs,k,e,c,l⟩|⟨kvs,k,b,e,c,m,l⟩
 .subst c
  obtain ⟨z,hd,vs,f,dd⟩:=BZ I.hok e
  refine wpAny_notIn_of (Cn i) hd dd.mapOf ?_
  rw[<- (f.val k).qa,<- l]
  exact h _ (I.tok _)
 .subst c
  cases (show u=Value.ref b from i)
  obtain ⟨z,hd,xs,f,dd⟩:=Cw I.hok e
  refine wpAny_notIn_heap (tupleKind_room_in1 j) (xB I.hok m) hd dd ?_
  have q:=(f.val k).qa
  rw[Option.isSome_map] at q
  rw[<- q,<- l]
  exact h _ (I.tok _)
def BA{h':Heap}{t':Nat}{ob:HO}(I:Inv X pins σ H s)(mu:Mut (H a))(c:Heap.SameBut a s.heap h')(f:∃q,h'.get? a=some q)(g:bX X.prog X.w (upd H a ob) h' a ob) :
  Inv X pins σ (upd H a ob) { s with heap:=h',toks:=t' } :=
 I.write (x:=a) (e:=a) mu (.inl rfl) (fun b q hb z=>(c.2 b hb).trans z) f g
def KI{P:Program}{w:World}{H':Hp}{h':Heap}{kvs:List (Key × V)}{vs:List (Key × Value)}(z:kvs.length<=sizeLine)(hd:(a == sysModules)=false)(b:KV kvs vs)(dd:h'.DictOf (cK P w) a vs) :
  bX P w H' h' a (.dK kvs):=⟨z,hd,vs,b,dd⟩
def Dr{H':Hp}{Q:Unit->Shared->Prop}(F:A.units+1<cLine)(I:Inv X pins σ H s)(g:Dp H a y v H')(t:RelV y u)(x:RelV v r)(h:∀s',Inv X pins σ H' s'->Q () s') :
  wpAny (model X.prog X.w) A (setItem (.ref a) u r) Q E s:=by
 rcases g with ⟨kvs,k,e,o,l,p⟩|⟨kvs,k,b,e,o,C,l,p⟩
 .subst o p
  obtain ⟨z,hd,vs,f,dd⟩:=Jm I.hok e
  have m:vs.length<=sizeLine:=by rw[<- f.length];exact z
  have hl:(putK kvs k v).length<=sizeLine:=by have:=rF kvs k v;omega
  refine wpAny_setItem_pairs (hsz:=m) (Cn t) dd fun h' j n=>h _ ?_
  have G:∃q,h'.get? a=some q:=let ⟨q,_,_,i,_⟩:=j;⟨q,i⟩
  exact BA I (by rw[e];exact True.intro) n G (KI hl hd (f.put k x) j)
 .subst o p
  cases (show u=Value.ref b from t)
  obtain ⟨z,hd,xs,f,dd⟩:=LI I.hok e
  have m:xs.length<=sizeLine:=by rw[<- Paired.length f];exact z
  have hl:(putK kvs k v).length<=sizeLine:=by have:=rF kvs k v;omega
  refine wpAny_setItem_heap (hsz:=m) (tupleKind_room_in1 F) (xB I.hok C) dd fun h' j n=>h _ ?_
  obtain ⟨q,es,ep,i,O,M,L,_,J⟩:=j
  refine BA I (by rw[e];exact True.intro) n ⟨q,i⟩ ⟨hl,hd,_,(f.put k C x).keeps fun c ys B=>?_,q,es,ep,i,O,M,L,J⟩
  rw[aG (LC B e (fun z=>nomatch z))]
  exact B
end
section
end
def Lo(i:Expr):Prop:=∀b c,subscripted i false b c=operate [b,c] (getItem b c)
def HW{prog:Program}{w:World}{A:Around}{E:Value->Shared->Prop}{s:Shared}{env:Env}{j b:Expr}{t:Pos}{T id:String}{Q:Value->Shared->Prop}
  (hl:typeLookup (.type T) "__getitem__" = pure (some (.builtin id))) (n:Lo b)
  (h:wpAny (model prog w) A (eval j env) (fun o c=>wpAny (model prog w) A (eval b env) (fun i e=>e.TypeIs o T/\wpAny (model prog w) A (getItem o i) Q E e) E c) E s) :
  wpAny (model prog w) A (eval (.Subscript j b t) env) Q E s:=by
 refine Subscript_ (wpAny_mono h (fun o c q=>wpAny_mono q (fun i e f=>?_) fun _ _ x=>x) fun _ _ x=>x)
 obtain ⟨l,f⟩:=f
 unfold subscriptTail
 refine wpAny_bind ?_
 rw[getitemInPython_of_ne l.not_modules]
 refine wpAny_bind (wpAny_specialOf l hl ?_)
 have g:wpAny (model prog w) A (subscripted b false o i) (fun r m=>wpAny (model prog w) A (letTemporaryGo j o r >>= fun _=>pure r) Q E m) E e:=by
  rw[n o i]
  exact wpAny_operating (wpAny_mono f (fun r m p=>wpAny_bind (wpAny_letTemporaryGo (wpAny_pure p))) fun _ _ x=>x)
 first
  |exact wpAny_pure (wpAny_bind g)
  |exact wpAny_bind (wpAny_pure (wpAny_bind g))
  |exact wpAny_bind g
def zT{X:Cx}{c:List (Addr × Obj)}{f:St}{H:Hp}{s:Shared}{a:Addr}{y:V}{o:Option V}(I:Inv X c f H s)(g:xc H a y o):s.TypeIs (.ref a) "dict":=by
 rcases g with ⟨kvs,k,e,_,_⟩|⟨kvs,k,b,e,_,_,_⟩
 .obtain ⟨_,_,vs,_,dd⟩:=BZ I.hok e
  exact dd.typeIs
 .obtain ⟨_,_,xs,_,dd⟩:=Cw I.hok e
  exact dd.typeIs
def JH(e ty:TE):TE:=fun b H Q=>e b H fun x f=>ty b f fun y c=>∃a v,x=.ref a/\xc c a y (some v)/\Q v c
def Cf(ty e:TE):TE:=fun b H Q=>ty b H fun y f=>e b f fun x c=>∃a o,x=.ref a/\xc c a y o/\Q (.bl (!o.isSome)) c
def F0(e ty tv:TE):TS:=fun D b H=>tv b H fun v h=>e b h fun x g=>ty b g fun y f=>∃a c,x=.ref a/\Dp f a y v c/\D.nx b c
section
variable {X:Cx}{o i NY:Expr}{MK O9:Pos}{td ty tv:TE}
def BW(n:X.A.units+1<cLine)(q:PE X o td)(hi:PE X i ty)(p:Lo i):PE X (.Subscript o i MK) (JH td ty):=by
 intro b s c H Q I h
 refine HW PySem.F.slot_dict_getitem.lookup p (thn (q b s c H _ I h) fun u f ⟨x,C,z,l,m⟩=>thn (hi b f c C _ z m) fun J G ⟨y,B,e,j,a,v,ex,g,q2⟩=>?_)
 subst ex
 obtain rfl:u=Value.ref a:=l
 exact⟨zT e g,Dg n e g j fun E F t r=>⟨v,B,t,r,q2⟩⟩
def Dx(n:X.A.units+1<cLine)(hi:PE X i ty)(p:PE X o td):PC X .NotIn i o (Cf ty td):=by
 intro b s c H Q I h
 refine thn (hi b s c H _ I h) fun E e ⟨y,z,t,f,l⟩=>thn (p b e c z _ t l) fun u C ⟨x,v,r,j,a,m,ex,g,q2⟩=>?_
 subst ex
 obtain rfl:u=Value.ref a:=j
 exact Hr n r g f fun B q=>⟨.bl (!m.isSome),v,q,rfl,q2⟩
def CF(q:X.A.units+1<cLine)(z:PE X o td)(hi:PE X i ty)(p:PE X NY tv)(t:swapsWith NY (some (.Subscript o i O9)) MK.line X.env=pure false) :
  PS X (.Assign [.Subscript o i O9] NY MK) (F0 td ty tv):=by
 intro b s c H D I h
 refine wpAny_Assign_Subscript (thn (p b s c H _ I h) fun r f ⟨v,L,F,m,n⟩=>thn (z b f c L _ F n) fun u e ⟨x,J,E,l,q2⟩=>thn (hi b e c J _ E q2) fun P O ⟨y,Q,C,j,a,G,ex,g,q3⟩=>?_) t
 subst ex
 obtain rfl:u=Value.ref a:=l
 exact Dr q C g j m fun M B=>⟨c,G,B,q3⟩
end
def Fc{P:Program}{w:World}{H:Hp}(h:Heap)(hb:sysModules<h.objs.size):bX P w H (h.push { cls:=.type "dict",data:=.dict #[] }) h.objs.size (.dK []) :=
 ⟨NL _,beq_eq_false_iff_ne.mpr (MI (MA hb)),[],.nil,Heap.DictOf.new h⟩
def FT:TE:=fun _ H Q=>∀p,H p=none->Q (.ref p) (upd H p (.dK []))
section
variable {X:Cx}{MK:Pos}
def yQ:PE X (.Dict [] [] MK) FT:=fun b s c H Q I h =>
 wpAny_Dict_empty ⟨.ref s.heap.objs.size,_,I.laid (a:=s.heap.objs.size) (o:=.dK []) (t':=s.toks) (fun _ _ q=>Heap.get?_push_of_some _ q) (Mm _) (Fc s.heap I.big),rfl,h _ (I.hok.fresh (Mm _))⟩
end
section
end
section
end
section
end
section
end
end L2
namespace L3
open PySem L2
def ST0(K:aad)(t:TS)(c Γn:aac)(d:DS):Prop :=
 ∀⦃B0:Hp⦄ ⦃Dn:Ends⦄ ⦃E:bc⦄ ⦃fps:Nat->List Addr⦄ ⦃δ:Dl⦄ ⦃b:St⦄ ⦃H:Hp⦄,(∀{fps δ H},Ok K B0 Γn fps δ b H->E.nx δ->Dn.nx b H)->Ok K B0 c fps δ b H->d E δ->t Dn b H
section
variable {K:aad}{ρ:Bool}{Γr Γl Γ Γn:aac}{t u:TS}{tb:TE}{dx:DE}{d e:DS}
variable {B0:Hp}{fps:Nat->List Addr}{δ:Dl}{σ:St}{H H':Hp}
def ST0.st(h:ST0 K t Γ Γn d):ST K ρ Γr Γl t Γ Γn d:=fun _ _ _ _ _ _ _ k o q=>h (fun b z=>k.nx b z) o q
def iW(δ:Dl)(i:Nat)(P:Addr->D->Prop):Prop:=match δ[i]? with|some (some (.pin a d))=>P a d|_=>False
def cN{i:Nat}{P:Addr->D->Prop}(h:iW δ i P):∃a d,δ[i]?=some (some (.pin a d))/\P a d:=by
 unfold iW at h;split at h
 .exact⟨_,_,by assumption,h⟩
 .exact h.elim
def yt{i:Nat}{P:Addr->D->Prop}{a:Addr}{x:D}(e:δ[i]?=some (some (.pin a x)))(h:P a x):iW δ i P:=by unfold iW;rw[e];exact h
def Ok.nW(o:Ok K B0 Γ fps δ σ H){i:Nat}{x y:D}(e:δ[i]?=some (some x))(h:∀v,σ[i]?=some (some v)->Rf K H x v (fps i)->Rf K H y v (fps i)):Ok K B0 Γ fps (δ.set i (some y)) σ H:=by
 have hl:i<δ.length:=(Ma.mp e).1
 refine⟨by rw[Mv];exact o.len,o.b0,fun j d q=>?_,fun j q=>?_,o.own,o.dj⟩
 .by_cases hj:j=i
  .subst hj
   rw[Mj hl] at q;cases q
   obtain ⟨v,b,c⟩:=o.val j x e
   exact⟨v,b,h v b c⟩
  .rw[KE (MI hj)] at q
   exact o.val j d q
 .by_cases hj:j=i
  .subst hj
   exact absurd (Mj hl) (q y)
  .exact o.non j fun d z=>q d (by rw[KE (MI hj)];exact z)
def Hf(i:Nat)(d:DS)(E:bc)(δ:Dl):Prop:=iW δ i fun a x=>d { E with nx:=fun b=>mn i b fun c=>E.nx (b.set i (some (.pin a c))) } (δ.set i (some x))
def Hq(i:Nat)(h:ST0 K t Γ Γn d):ST0 K t Γ Γn (Hf i d):=by
 intro B0 Dn E fps δ σ H k o q
 obtain ⟨a,x,e,q⟩:=cN q
 obtain ⟨v,m,l⟩:=o.val i _ e
 obtain rfl:v=.ref a:=l.1
 have j:Ok K B0 Γ fps (δ.set i (some x)) σ H:=o.nW e fun _ _ z=>z.2
 refine h (E:={ E with nx:=fun b=>mn i b fun c=>E.nx (b.set i (some (.pin a c))) }) (fun {p n s} g z=>?_) j q
 obtain ⟨c,e2,z⟩:=ib z
 exact k (g.nW (y:=.pin a c) e2 fun v f r=>⟨by rw[m] at f;cases f;rfl,r⟩) z
def JU(i:Nat)(h:ST0 K t Γ Γn d):ST K ρ Γr Γl t Γ Γn (Hf i d):=(Hq i h).st
def CI(i:Nat)(δ:Dl)(P:DK):Prop:=iW δ i fun _ x=>P x
def mT(i:Nat):ER K Γ (b7 i) (CI i):=⟨fun δ P b k h=>by obtain ⟨a,x,e,z⟩:=cN h;exact yt e (k _ z),fun {B0 fps δ σ H Q} o q=>by
 obtain ⟨a,x,e,q⟩:=cN q
 obtain ⟨v,e1,r⟩:=o.val i _ e
 exact⟨v,e1,q v H (Same.refl H) ⟨_,r.2⟩⟩⟩
def D.isRef:D->Bool|.lst _=>true|.dic _=>true|.pin _ _=>true|.ins _ _ _=>true|_=>false
theorem Rf.isRef{x:D}{v:V}{fp:List Addr}(h:Rf K H x v fp)(e:x.isRef=true):∃a,v=.ref a:=by
 cases x with
 |lst ds=>obtain ⟨a,xs,b,rfl,_⟩:=h;exact⟨a,rfl⟩
 |dic ds=>obtain ⟨a,rfl,_⟩:=h;exact⟨a,rfl⟩
 |pin a d=>exact⟨a,h.1⟩
 |ins C ns ds=>obtain ⟨a,dx,xs,b,rfl,_⟩:=h;exact⟨a,rfl⟩
 |_=>cases e
abbrev DSI:=List D->(D->D->Prop)->Prop
def GC(S:DSI):Prop:=∀xs (P b:D->D->Prop),(∀r x,P r x->b r x)->S xs P->S xs b
def Gr(K:aad)(p:Nat)(vs:List V)(B:Hp)(Q:VK)(r c:D):Prop :=
 ∀w H' fp' fpw v,Same B H'->vs[p]?=some v->Rf K H' c v fp'->fp'.Nodup->(∀b∈fp',B b=none/\Mu H' b)->Rf K H' r w fpw->fpw.Nodup->(∀b∈fpw,B b=none/\Mu H' b/\b∉fp')->Q w H'
def spI(K:aad)(p:Nat)(S:DSI):Sp:=fun vs H Q _=>∃B b ds,Ok K B [p] b (ds.map some) (vs.map some) H/\(∃a,vs[p]?=some (.ref a))/\S ds (Gr K p vs B Q)
def Ho{p:Nat}{S:DSI}{n:Nat}(b:∀ds P,S ds P->ds.length=n){vs:List V}{H:Hp}{Q:VK}{E:XK}(h:spI K p S vs H Q E):vs.length=n:=by
 obtain ⟨B,c,ds,o,_,h⟩:=h
 have:=o.len
 rw[mo,mo] at this
 rw[this];exact b _ _ h
abbrev Jw(p:Nat)(a:Addr)(P:D->D->Prop):bc:=⟨fun δ=>iW δ p fun b x=>b=a/\P .non x,fun r δ=>iW δ p fun b x=>b=a/\P r x,fun _=>False,fun _=>False⟩
def DR{p:Nat}{N:List Str}{ds:List D}{vs:List V}{c:Nat->List Addr}{a:Addr}(o:Ok K B0 [p] c (ds.map some) (vs.map some) H)(ha:vs[p]?=some (.ref a)){x:D}(f:ds[p]?=some x) :
  Ok K B0 [p] c (aJ N (ds.set p (.pin a x))) (L2.start N vs) H:=by
 have hl:vs.length=ds.length:=by have:=o.len;rwa [mo,mo] at this
 have j:p<ds.length:=(Ma.mp f).1
 have b:Ok K B0 [p] c ((ds.map some).set p (some (.pin a x))) (vs.map some) H:=o.nW (x:=x) (by rw[Mc,f];rfl) fun v g r=>⟨by rw[Mc,ha] at g;cases g;rfl,r⟩
 have e:(ds.map some).set p (some (.pin a x))=(ds.set p (.pin a x)).map some:=by rw[NO]
 rw[e] at b
 have h:(ds.set p (.pin a x)).length=ds.length:=Mv
 generalize ds.set p (.pin a x)=ds1 at *
 unfold aJ L2.start
 refine⟨by rw[Mt,Mt,mo,mo,Mw,Mw];omega,b.b0,fun i d q=>?_,fun i q=>?_,b.own,b.dj⟩
 .by_cases hi:i<ds1.length
  .rw[Mp (by simpa using hi)] at q
   rw[Mp (by rw[mo];omega)]
   exact b.val i d q
  .rw[MD (by simpa using hi),MQ] at q
   split at q<;>cases q
 .refine b.non i fun d z=>q d ?_
  have:i<ds1.length:=by simpa using (Ma.mp z).1
  rw[Mp (by simpa using this)]
  exact z
def Hk{N:List Str}{p:Nat}{S:DSI}(s:ST K true [p] [] t [p] Γn d)(hd:∀ds P a x,S ds P->ds[p]?=some x->d (Jw p a P) (aJ N (ds.set p (.pin a x))))(C:p∈Γn:=by decide)(u:∀ds P,S ds P->p<ds.length) :
  ∀{vs H Q E},spI K p S vs H Q E->t { nx:=fun _ H'=>Q .non H',rt:=Q } (L2.start N vs) H:=by
 rintro vs H Q E ⟨B,J,ds,o,⟨a,ha⟩,h⟩
 have F:=u _ _ h
 obtain ⟨x,g⟩:∃x,ds[p]?=some x:=⟨_,dz F⟩
 have m:∀{Γ' fps δ σ H' r w fpw},p∈Γ'->Ok K B Γ' fps δ σ H'->Rf K H' r w fpw->fpw.Nodup->(∀b∈fpw,B b=none/\Mu H' b/\b∉fps p)->(iW δ p fun f x=>f=a/\Gr K p vs B Q r x)->Q w H':=by
  intro Γ' fps δ σ H' r w fpw j c q nd fr z
  obtain ⟨f,G,e,y,n⟩:=cN z
  subst y
  obtain ⟨v,I,l⟩:=c.val p _ e
  obtain rfl:v=.ref f:=l.1
  exact n w H' (fps p) fpw (.ref f) c.b0 ha l.2 (c.own p j).1 (fun b hb=>(c.own p j).2 b hb) q nd fr
 refine s (E:=Jw p a (Gr K p vs B Q)) ⟨fun c z=>?_,fun _ (z:False)=>z.elim,fun _ (z:False)=>z.elim,fun c r i z=>?_⟩ (DR o ha g) (hd ds _ a x h g)
 .exact m (r:=.non) (w:=.non) (fpw:=[]) C c ⟨rfl,rfl⟩ Nb (fun b hb=>(nomatch hb)) z
 .exact m (Gc.mpr rfl) c r (i rfl).nd (fun b hb=>⟨(i rfl).nw b hb,(i rfl).mu b hb,(i rfl).dj p (Gc.mpr rfl) b hb⟩) z
def Ok.less(o:Ok K B0 Γ fps δ σ H){i:Nat}(hi:i∈Γ):Same B0 (fun b=>if b∈fps i then none else H b)/\Same (fun b=>if b∈fps i then none else H b) H:=by
 have key:∀b u,B0 b=some u->b∉fps i:=fun b u e hb=>by
  have:=((o.own i hi).2 b hb).1
  rw[e] at this;cases this
 refine⟨⟨fun b u e n=>?_,fun b ps e=>?_,fun P t=>?_⟩,Same.all fun b u e=>?_⟩
 .show (if _ then _ else _)=_
  rw[if_neg (key b u e)]
  exact o.b0.st b u e n
 .obtain ⟨f,z⟩:=o.b0.tb b ps e
  refine⟨f,?_⟩
  show (if _ then _ else _)=_
  rw[if_neg (key b _ e)];exact z
 .obtain ⟨s,p,_⟩:=id t
  obtain ⟨ps,e,m,l⟩:=o.b0.ti P t
  refine⟨ps,?_,m,fun r q z=>?_⟩
  .show (if _ then _ else _)=_
   rw[if_neg (key P _ p)];exact e
  .obtain ⟨c,h,g⟩:=l r q z
   refine⟨c,h,?_⟩
   show (if _ then _ else _)=_
   rw[if_neg (fun j=>xg g ((o.own i hi).2 c j).2)];exact g
 .by_cases z:b∈fps i
  .simp only[if_pos z] at e;cases e
  .simp only[if_neg z] at e;exact e
end
end L3
namespace L2
open PySem PySem.Spec PyProof.Rows
section
variable {X:Cx}
def Fj(K:aad):V->List V->Hp->VK->Prop:=fun x vs H Q=>∃(l:Addr) (xs:List V) (y:V) (j:Nat),x=.ref l/\vs=[y]/\H l=some (.lst xs)/\gu y=true/\xs.all gu=true/\(∃z,xs[j]?=some z/\eqV z y=true)/\(∀m z,m<j->xs[m]?=some z->eqV z y=false)/\Q (.int j) H
def FJ:MtM X "list.index" (Fj X.K):=by
 intro g s O H x vs v us Q I p t h
 obtain ⟨l,xs,y,j,rfl,rfl,C,E,fs,⟨z,i,J⟩,hb,q⟩:=h
 cases p
 obtain ⟨u,rfl,B⟩:=vals1 t
 obtain ⟨P,c,n,r,hl,e⟩:=I.D4 C
 have hj:j<xs.length:=(Ma.mp i).1
 have key:∀m (hm:m<c.toArray.size) w,xs[m]?=some w->eqU y c.toArray[m]=eqV w y:=fun m hm w hw=>by
  obtain ⟨o,L,M⟩:=r.get hw
  have G:gu w=true:=M4.mp fs w (MP hw)
  have:c.toArray[m]=o:=by
   have:=(Ma.mp L).2
   simpa using this
  rw[this]
  exact Ba M G
 have hsz:c.toArray.size=xs.length:=by simp [hl]
 refine call_meets F.slot_list_index ⟨_,e,rfl⟩ F.entry_list_index (F.args_list_index_2 _ _) (SeqAt.list_indexAt l c.toArray n none #[] u (eqU y) j (by omega) ?_ ?_ (fun m hm f=>?_)) ⟨e,fun w hw=>kL B E r fs w (by simpa using hw),?_⟩
 .have:sizeLine<2 ^ 63 - 1:=by decide
  omega
 .rw[key j (by omega) z i];exact J
 .have b:m<xs.length:=by omega
  rw[key m hm _ (dz b)]
  exact hb m _ f (dz b)
 .exact⟨.int j,H,I.tok _,⟨_,rfl⟩,q⟩
end
end L2
namespace L2
open PySem PySem.Spec PyProof.Rows
section
variable {X:Cx}{K:aad}
def xm(p:X.K=K):fR X (.builtin "sorted") (fun xs H Q=>∃(a:Addr) (ns:aab),xs=[.ref a]/\SqL K H a (ns.map V.int)/\ns.length<64 /\
  ∀(l:Addr) (c:aab),H l=none->c.Perm ns->c.Pairwise (·<=·)->Q (.ref l) (upd H l (.lst (c.map V.int)))):=by
 subst p
 intro g s x H xs us Q I r h
 obtain ⟨a,ns,rfl,m,y,q⟩:=h
 obtain ⟨u,rfl,i⟩:=vals1 r
 obtain rfl:u=Value.ref a:=i
 obtain ⟨v,f,pl,_⟩:=I.list m
 have hl:=f.length
 rw[mo] at hl
 refine sorted_ints pl.isList (kg f) (by omega) fun out c a1 a2 t=>?_
 obtain ⟨n,j⟩:=sortedAll_at s.heap v out
 have hn:H (s.heap.objs.size+1)=none:=I.hok.fresh (Nu _)
 have z:=a2.length_eq
 refine⟨.ref (s.heap.objs.size+1),_,I.laid (t':=s.toks) (o:=.lst (c.map V.int)) (fun b o e=>sortedAll_old e) (Nu _) ⟨?_,out.toList,n,fZ a1,?_⟩,rfl,q _ c hn a2 t⟩
 .rw[mo];exact small (by omega)
 .exact j
end
end L2
namespace L2
open PySem PySem.Spec PyProof.Rows
end L2
namespace L3
open PySem L2
section
variable {K:aad}{ρ:Bool}{Γr Γl Γ Γn:aac}{t u:TS}{ta td ty tv:TE}{da dd dk dv:DE}{d e:DS}
def ofV:V->D|.non=>.non|.bl b=>.bl b|.int i=>.int i|.str x=>.str x|_=>.non
def Rf.ofV{H:Hp}{v:V}(h:gu v=true):Rf K H (ofV v) v []:=by
 cases v<;>first|exact⟨rfl,rfl⟩|cases h
def BH:EM K Γ [] FT (vC (.dic [])):=⟨fun _ _ _ k h=>k _ h,fun {B0 fps δ c H Q} o q p b=>q (.ref p) _ [p] (Same.kR b) ⟨p,rfl,az,fun _ h=>(nomatch h),rfl⟩
 ⟨by simp,fun a ha=>by cases Gc.mp ha;exact .inr (.inl ⟨_,az⟩),fun a ha=>by cases Gc.mp ha;exact .inl b⟩⟩
def ui(x:D)(P:List (Key × V)->Prop):Prop:=match x with|.dic kvs=>P kvs|_=>False
def gD{x:D}{P:List (Key × V)->Prop}(h:ui x P):∃kvs,x=.dic kvs/\P kvs:=by
 unfold ui at h;split at h
 .exact⟨_,rfl,h⟩
 .exact h.elim
def vt{kvs:List (Key × V)}{P:List (Key × V)->Prop}:ui (.dic kvs) P↔P kvs:=M8
def asV(o:Option V)(P:V->Prop):Prop:=match o with|some v=>P v|none=>False
def Cp{o:Option V}{P:V->Prop}(h:asV o P):∃v,o=some v/\P v:=by
 unfold asV at h;split at h
 .exact⟨_,rfl,h⟩
 .exact h.elim
def xX{o:Option V}{v:V}{P:V->Prop}(e:o=some v)(h:P v):asV o P:=by rw[e];exact h
def Gi(dd b:DE)(δ:Dl)(P:DK):Prop:=dd δ fun x=>b δ fun y=>asI [y] fun n=>ui x fun kvs=>asV (ju kvs (.inl n)) fun v=>P (ofV v)
theorem Gf{kvs:List (Key × V)}{k:Key}{v:V}(h:ju kvs k=some v):∃p∈kvs,p.2=v:=by
 unfold ju at h
 cases q:kvs.find? fun b=>decide (b.1=k) with
 |none=>rw[q] at h;cases h
 |some p=>rw[q] at h;cases h;exact⟨p,List.mem_of_find?_eq_some q,rfl⟩
def Ck(hd:ER K Γ td dd)(b:ER K Γ ty dk):ER K Γ (JH td ty) (Gi dd dk) :=
 ⟨fun δ P r k h=>hd.mono _ _ _ (fun x z=>b.mono _ _ _ (fun y z=>by
   obtain ⟨n,rfl,z⟩:=bC z
   obtain ⟨kvs,rfl,z⟩:=gD z
   obtain ⟨v,e,z⟩:=Cp z
   exact xX e (k _ z)) z) h,
 fun {B0 fps δ q H Q} o h=>hd.run o (hd.mono _ _ _ (fun x z v s f i=>b.run (o.same f) (b.mono _ _ _ (fun y z w m c g=>by
   obtain ⟨n,rfl,z⟩:=bC z
   obtain ⟨kvs,rfl,z⟩:=gD z
   obtain ⟨u,e,z⟩:=Cp z
   obtain ⟨fp,a,rfl,ha,l,_⟩:=i
   obtain ⟨p,j,rfl⟩:=Gf e
   refine⟨a,p.2,rfl,?_,z _ m (f.trans c) ⟨[],Rf.ofV (l p j)⟩⟩
   rw[g.int]
   have:=xc.k (k:=Sum.inl n) (c.st _ _ ha trivial)
   rw[e] at this
   exact this) z)) h)⟩
def Lb(c:Bool)(b dd:DE)(δ:Dl)(P:DK):Prop:=b δ fun y=>dd δ fun x=>asI [y] fun n=>ui x fun kvs=>P (.bl (if c then !(ju kvs (.inl n)).isSome else (ju kvs (.inl n)).isSome))
def DW(b:ER K Γ ty dk)(hd:ER K Γ td dd):EM K Γ [] (Cf ty td) (Lb true dk dd) :=
 ⟨fun δ P m k h=>b.mono _ _ _ (fun x z=>hd.mono _ _ _ (fun y z=>by
   obtain ⟨n,rfl,z⟩:=bC z
   obtain ⟨kvs,rfl,z⟩:=gD z
   exact k _ z) z) h,
 fun {B0 fps δ j H Q} o h=>b.run o (b.mono _ _ _ (fun x z v p c g=>hd.run (o.same c) (hd.mono _ _ _ (fun y z w i e f=>by
   obtain ⟨n,rfl,z⟩:=bC z
   obtain ⟨kvs,rfl,z⟩:=gD z
   obtain ⟨fp,a,rfl,ha,l,_⟩:=f
   rw[g.int]
   exact⟨a,_,rfl,xc.k (k:=Sum.inl n) ha,z _ i [] (c.trans e) ⟨rfl,rfl⟩ Nw.nil⟩) z)) h)⟩
def wt{kvs:List (Key × V)}{k:Key}{v:V}(h:∀p∈kvs,gu p.2=true)(c:gu v=true):∀p∈putK kvs k v,gu p.2=true:=by
 intro p b
 unfold putK at b
 split at b
 .obtain ⟨q,e,rfl⟩:=Mh.mp b
  split
  .exact c
  .exact h q e
 .rcases Mf.mp b with z|z
  .exact h p z
  .cases Gc.mp z;exact c
def Ha(δ:Dl)(i:Nat)(P:List (Key × V)->Prop):Prop:=mn i δ fun x=>ui x P
def FQ(i:Nat)(c b:DE)(E:bc)(δ:Dl):Prop:=b δ fun x=>x.aP=true/\Ha δ i fun kvs=>c δ fun y=>asI [y] fun n=>kvs.length<1000/\E.nx (δ.set i (some (.dic (putK kvs (.inl n) x.toV))))
def EF(i:Nat)(l:ER K Γ ty dk)(j:ER K Γ tv dv)(hi:i∈Γ:=by decide):ST0 K (F0 (b7 i) ty tv) Γ Γ (FQ i dk dv):=by
 intro B0 Dn E fps δ F H k o h
 refine j.run o (j.mono _ _ _ (fun x z v G q r=>?_) h)
 obtain ⟨f,z⟩:=z
 obtain ⟨fp,r⟩:=r
 obtain ⟨rfl,rfl⟩:=r.aP f
 obtain ⟨d,e,z⟩:=ib z
 obtain ⟨kvs,rfl,z⟩:=gD z
 have c:=o.same q
 obtain ⟨v,m,B⟩:=c.val i _ e
 obtain ⟨a,rfl,ha,u,p⟩:=id B
 refine⟨.ref a,m,l.run c (l.mono _ _ _ (fun y z w C g s=>?_) z)⟩
 obtain ⟨n,rfl,z⟩:=bC z
 have t:=c.same g
 refine⟨a,upd C a (.dK (putK kvs (.inl n) x.toV)),rfl,?_,k (t.write hi (d':=.dic (putK kvs (.inl n) x.toV)) (fp':=[a]) m ⟨a,rfl,az,wt u (iP f),rfl⟩ (by simp) (fun b hb=>?_) (fun b hb=>?_) ?_) z.2⟩
 .rw[s.int]
  exact Dp.k (k:=Sum.inl n) (g.st _ _ ha trivial) (m3 (NN z.1))
 .cases Gc.mp hb;exact .inr (.inl ⟨_,az⟩)
 .cases Gc.mp hb;rw[p];exact .inl (Gc.mpr rfl)
 .rw[p];exact sj (Gc.mpr rfl)
def A6(c b:DE)(δ:Dl)(P:DK):Prop:=c δ fun x=>nI (some x) fun ds=>ds.all D.aP=true/\b δ fun y=>y.aP=true/\∃j:Nat,(∃z,ds[j]?=some z/\eqV z.toV y.toV=true)/\(∀m z,m<j->ds[m]?=some z->eqV z.toV y.toV=false)/\P (.int j)
def Ep(ha:ER K Γ ta da)(l:ER K Γ ty dk):EM K Γ [] (tBM K "list" (Fj K) ta (bG ty iu)) (A6 da dk) :=
 ⟨fun δ P L k h=>ha.mono _ _ _ (fun x z=>by
   obtain ⟨ds,e,b,z⟩:=iO z
   refine mE e ⟨b,l.mono _ _ _ (fun y z=>?_) z⟩
   obtain ⟨c,j,r,g,f⟩:=z
   exact⟨c,j,r,g,k _ f⟩) h,
 fun {B0 fps δ I H Q} o h=>by
  refine ha.run o (ha.mono _ _ _ (fun x z v M p t=>?_) h)
  obtain ⟨ds,e,b,s⟩:=iO z
  clear z
  cases e
  obtain ⟨fp,a,xs,J,rfl,hl,_,rs⟩:=t
  obtain ⟨rfl,_⟩:=rs.jf b
  refine⟨.inl ⟨rfl,_,.inl (.inl hl)⟩,l.run (o.same p) (l.mono _ _ _ (fun y z w G n i=>?_) s)⟩
  obtain ⟨c,j,⟨u,C,F⟩,g,f⟩:=z
  obtain ⟨E,i⟩:=i
  obtain ⟨rfl,_⟩:=i.aP c
  refine⟨a,_,_,j,rfl,rfl,n.st _ _ hl trivial,iP c,?_,⟨u.toV,by rw[Mc,C];rfl,F⟩,fun m w hm hw=>?_,f _ G [] (p.trans n) ⟨rfl,rfl⟩ Nw.nil⟩
  .rw[Pp,M4]
   rw[M4] at b
   exact fun y B=>iP (b y B)
  .rw[Mc] at hw
   cases q:ds[m]? with
   |none=>rw[q] at hw;cases hw
   |some d=>rw[q] at hw;cases hw;exact g m d hm q⟩
def Cb(xs:List D)(P:DK):Prop:=match xs with|[x]=>zv x fun ns=>ns.length<64/\∀b:aab,b.Perm ns->b.Pairwise (·<=·)->P (dI b)|_=>False
def sL{ns:aab}{P:DK}:Cb [dI ns] P↔ns.length<64/\∀b:aab,b.Perm ns->b.Pairwise (·<=·)->P (dI b):=iR
def K6:nE K (fun xs H Q=>∃(a:Addr) (ns:aab),xs=[.ref a]/\SqL K H a (ns.map V.int)/\ns.length<64/\∀(l:Addr) (c:aab),H l=none->c.Perm ns->c.Pairwise (·<=·)->Q (.ref l) (upd H l (.lst (c.map V.int)))) Cb :=
 ⟨fun xs P o k h=>by
  unfold Cb at h ⊢
  revert h
  split
  .exact fun h=>by obtain ⟨ns,e,z⟩:=eW h;exact pC e ⟨z.1,fun c a b=>k _ (z.2 c a b)⟩
  .exact id,
 fun {H xs vs Q} r h=>by
  unfold Cb at h
  split at h
  .obtain ⟨v,rfl,g⟩:=r.one
   obtain ⟨ns,e,z⟩:=eW h
   obtain ⟨a,ys,n,rfl,f,i⟩:=g.seq e
   rw[i.yT] at f
   exact⟨a,ns,rfl,f,z.1,fun l c hl j m=>z.2 c j m _ _ [l] (Same.kR hl) (Rf.ofInts az) (Nw.one hl az).any⟩
  .exact h.elim⟩
def STk(K:aad)(i:Nat)(t:TS)(c Γn:aac)(d:DS):Prop :=
 ∀⦃B0:Hp⦄ ⦃Dn:Ends⦄ ⦃E:bc⦄ ⦃fps:Nat->List Addr⦄ ⦃δ:Dl⦄ ⦃b:St⦄ ⦃H:Hp⦄,(∀{fps δ σ' H},σ'[i]?=b[i]?->Ok K B0 Γn fps δ σ' H->E.nx δ->Dn.nx σ' H)->Ok K B0 c fps δ b H->d E δ->t Dn b H
def Ci(i:Nat)(h:STk K i t Γ Γn d):ST K ρ Γr Γl t Γ Γn (Hf i d):=by
 intro B0 Dn E fps δ g H k o q
 obtain ⟨a,x,e,q⟩:=cN q
 obtain ⟨v,n,m⟩:=o.val i _ e
 obtain rfl:v=.ref a:=m.1
 have l:Ok K B0 Γ fps (δ.set i (some x)) g H:=o.nW e fun _ _ z=>z.2
 refine h (E:={ E with nx:=fun b=>mn i b fun c=>E.nx (b.set i (some (.pin a c))) }) (fun {u s B C} p j z=>?_) l q
 obtain ⟨c,e2,z⟩:=ib z
 exact k.nx (j.nW (y:=.pin a c) e2 fun v f r=>⟨by rw[p,n] at f;cases f;rfl,r⟩) z
def Ok.drop{B0:Hp}{fps:Nat->List Addr}{δ:Dl}{g:St}{H H':Hp}(o:Ok K B0 Γ fps δ g H){i:Nat}(hi:i∈Γ)(keep:∀b u,b∉fps i->H b=some u->H' b=some u):Ok K B0 (minus Γ [i]) (fun j=>if j=i then [] else fps j) (δ.set i none) g H':=by
 refine⟨by simp [o.len],o.b0.keep (fun a ha=>(o.own i hi).2 a ha) keep,fun j d e=>?_,fun j h=>?_,fun j hj=>?_,fun j hj k m a ha=>?_⟩
 .by_cases h:j=i
  .subst h
   rw[MU] at e
   by_cases hl:j<δ.length
   .simp [hl] at e
   .simp [hl] at e
  .rw[KE (MI h)] at e
   obtain ⟨w,p,n⟩:=o.val j d e
   refine⟨w,p,?_⟩
   rw[if_neg h]
   exact n.mono (fun a ha u e=>keep a u (fun z=>o.dj i hi j h a z ha) e) fun a u e l=>keep a u (fun z=>((o.own i hi).2 a z).2.lM u e l) e
 .by_cases h':j=i
  .rw[if_pos h']
  .rw[if_neg h']
   exact o.non j fun d z=>h d (by rw[KE (MI h')];exact z)
 .obtain ⟨c,f⟩:=bz.mp hj
  have h:j≠i:=fun z=>f (Gc.mpr z)
  rw[if_neg h]
  refine⟨(o.own j c).1,fun a ha=>⟨((o.own j c).2 a ha).1,?_⟩⟩
  have hn:a∉fps i:=fun z=>o.dj i hi j h a z ha
  rcases ((o.own j c).2 a ha).2 with ⟨x,z⟩|⟨x,z⟩|⟨x,z⟩|⟨C,dx,fs,z⟩
  .exact .inl ⟨x,keep a _ hn z⟩
  .exact .inr (.inl ⟨x,keep a _ hn z⟩)
  .exact .inr (.inr (.inl ⟨x,keep a _ hn z⟩))
  .exact .inr (.inr (.inr ⟨C,dx,fs,keep a _ hn z⟩))
 .obtain ⟨c,f⟩:=bz.mp hj
  have h:j≠i:=fun z=>f (Gc.mpr z)
  rw[if_neg h] at ha
  split
  .exact Mr
  .exact o.dj j c k m a ha
def zN(δ:Dl)(i:Nat)(P:List D->Prop):Prop:=match δ[i]? with|some (some (.tup ds))=>P ds|_=>False
def Ds{δ:Dl}{i:Nat}{P:List D->Prop}(h:zN δ i P):∃ds,δ[i]?=some (some (.tup ds))/\P ds:=by
 unfold zN at h;split at h
 .exact⟨_,by assumption,h⟩
 .exact h.elim
def wG{ds:List D}:(D.lst ds).isRef=true:=rfl
def wA{ds:List (Key × V)}:(D.dic ds).isRef=true:=rfl
def BY{i:Int}:ofV (.int i)=.int i:=rfl
def Ej{b:Bool}:ofV (.bl b)=.bl b:=rfl
def C5:ofV .non=.non:=rfl
def Lh(xs:List D)(P:DK):Prop:=match xs with|[.dic kvs]=>P (.int kvs.length)|_=>False
def wq{kvs:List (Key × V)}{P:DK}:Lh [.dic kvs] P↔P (.int kvs.length):=M8
end
end L3
namespace Mat
theorem wH:∀{l l':aac},l.Nodup->(∀x∈l,x∈l')->l.length<=l'.length
 |[],_,_,_=>NL _
 |x::l,l',h,s=>by
  obtain ⟨f,e⟩:=Mn.mp h
  have c:=s x Fk
  have:=wH (l':=l'.erase x) e fun y b=>(List.mem_erase_of_ne (fun z=>f (by rw[<- z];exact b))).mpr (s y (ox _ b))
  rw[List.length_erase_of_mem c] at this
  have:0<l'.length:=List.length_pos_of_mem c
  rw[Me];omega
def zi{l:aac}{n:Nat}(h:l.Nodup)(hl:∀x∈l,x<n):l.length<=n:=by
 have:=wH h (l':=List.range n) fun x b=>Mq.mpr (hl x b)
 rwa [Mi] at this
end Mat
namespace Mat
end Mat
namespace Mat
end Mat
namespace L2
open PySem PySem.Spec PyProof.Rows
def pq.cons{i k:Nat}{u:TGs}(h:i<k)(g:pq k u):pq k (EV (eO i) u):=fun x c H Q ⟨v,r,e,q⟩=>⟨v,r,e,by
 have q2:=g r (c.set i (some v)) H Q q
 have e1:(fun (b:St) (f:Hp)=>Q b f/\b.length=(c.set i (some v)).length/\∀j,k<=j->b[j]?=(c.set i (some v))[j]?)=fun b f=>Q b f/\b.length=c.length/\∀j,k<=j->b[j]?=c[j]?:=by
  funext b f
  refine propext ⟨fun z=>⟨z.1,by rw[z.2.1,Mv],fun j hj=>by rw[z.2.2 j hj,KE (by omega)]⟩,fun z=>⟨z.1,by rw[z.2.1,Mv],fun j hj=>by rw[z.2.2 j hj,KE (by omega)]⟩⟩
 rw[e1] at q2
 exact q2⟩
def ma.tup{K:aad}{k n:Nat}{u:TGs}(c:pq k u):ma k (HL K n u):=fun x b H Q ⟨a,xs,e,f,hl,q⟩=>⟨a,xs,e,f,hl,c xs b H Q q⟩
end L2
namespace L3
open PySem L2
section
variable {K:aad}{Γ:aac}{d e:DS}
def Ok.JF{B0:Hp}{fps:Nat->List Addr}{δ:Dl}{b σ':St}{H:Hp}(o:Ok K B0 Γ fps δ b H)(j:Nat)(hj:j∉Γ)(hl:σ'.length=b.length)(c:∀l,l≠j->σ'[l]?=b[l]?):Ok K B0 Γ (fun i=>if i=j then [] else fps i) (δ.set j none) σ' H:=by
 refine⟨by simp [o.len,hl],o.b0,fun i d e=>?_,fun i h=>?_,fun i hi=>?_,fun i hi k f a ha=>?_⟩
 .by_cases h:i=j
  .subst h
   rw[MU] at e
   by_cases hl:i<δ.length
   .simp [hl] at e
   .simp [hl] at e
  .rw[KE (MI h)] at e
   rw[c i h,if_neg h]
   exact o.val i d e
 .by_cases h':i=j
  .rw[if_pos h']
  .rw[if_neg h'];exact o.non i fun d z=>h d (by rw[KE (MI h')];exact z)
 .have h:i≠j:=fun z=>hj (by rw[<- z];exact hi)
  rw[if_neg h];exact o.own i hi
 .have h:i≠j:=fun z=>hj (by rw[<- z];exact hi)
  rw[if_neg h] at ha
  split
  .exact Mr
  .exact o.dj i hi k f a ha
end
end L3
namespace L3
open PySem L2
end L3
namespace Bir
section
variable {κ:Type}[DecidableEq κ]
end
end Bir
namespace Bir
open L3
end Bir
namespace L2
open PySem
end L2
namespace L3
open PySem L2
section
variable {K:aad}{Γ:aac}{u:TS}{ta ti:TE}{da di:DE}{d e:DS}
theorem Rfs.yc{H:Hp}:∀{ds:List D}{vs:List V}{fp:List Addr}{i:Nat}{d:D},Rfs K H ds vs fp->fp.Nodup->ds[i]?=some d->∃v f,vs[i]?=some v/\Rf K H d v f/\(∀a∈f,a∈fp)/\f.Nodup
 |[],_,_,_,_,_,_,e=>by simp at e
 |d::ds,vs,fp,0,d',h,n,e=>by
  obtain ⟨x,r,g,m,rfl,rfl,c,b⟩:=h
  simp at e;subst e
  exact⟨x,g,rfl,c,fun a ha=>Mg _ ha,(Ms.mp n).1⟩
 |d::ds,vs,fp,i+1,d',h,n,e=>by
  obtain ⟨x,r,g,m,rfl,rfl,c,b⟩:=h
  obtain ⟨v,f,e1,l,k,j⟩:=Rfs.yc (i:=i) b (Ms.mp n).2.1 (by simpa using e)
  exact⟨v,f,by simpa using e1,l,fun a ha=>L9 _ (k a ha),j⟩
def GY{x y:D}{P:DK}(h:qm x y P):∃ds i d,x=.tup ds/\y=.int i/\atI ds i=some d/\P d:=by
 unfold qm at h
 split at h
 .split at h
  .exact⟨_,_,_,rfl,rfl,by assumption,h⟩
  .exact h.elim
 .exact h.elim
def Kh{ds:List D}{i:Int}{d:D}{P:DK}(e:atI ds i=some d)(h:P d):qm (.tup ds) (.int i) P:=by
 show (match atI ds i with|some d=>P d|none=>False)
 rw[e];exact h
def La(ha:EM K Γ [] ta da)(hi:ER K Γ ti di):EM K Γ [] (tOp (tN K) ta ti) (vOp qm da di) :=
 ⟨fun δ P J k h=>ha.mono _ _ _ (fun x z=>hi.mono _ _ _ (fun y z=>by
   obtain ⟨ds,i,d,rfl,rfl,e,l⟩:=GY z
   exact Kh e (k _ l)) z) h,
 fun {B0 fps δ I H Q} o h=>ha.run o (ha.mono _ _ _ (fun x z v L fp n B n1=>hi.run (o.same n) (hi.mono _ _ _ (fun y z w G g t=>by
   obtain ⟨ds,i,d,rfl,rfl,c,l⟩:=GY z
   obtain ⟨a,xs,rfl,ha,p⟩:=B
   have F:∃j,ixN ds.length i=some j/\ds[j]?=some d:=by
    unfold atI at c
    cases q:ixN ds.length i with
    |none=>rw[q] at c;cases c
    |some j=>rw[q] at c;exact⟨j,rfl,c⟩
   obtain ⟨j,E,m⟩:=F
   obtain ⟨u,f,C,s,r,hn⟩:=p.yc n1.nd m
   exact⟨a,xs,i,u,rfl,t.int,.inl (.inl (g.st _ _ ha trivial)),by unfold atI;rw[p.length,E];exact C,l u G f (n.trans g) (s.same g) ⟨hn,fun b hb=>(n1.mu b (r b hb)).same g,fun b hb=>n1.src b (r b hb)⟩⟩) z)) h)⟩
def KW(xs:List D)(P:DK):Prop:=match xs with|[x]=>asL x fun ds=>ds.all D.aP=true/\P (.tup ds)|_=>False
def uq{ds:List D}{P:DK}:KW [.lst ds] P↔ds.all D.aP=true/\P (.tup ds):=M8
def LL(x:D)(P:aab->Prop):Prop:=match x with|.tup ds=>(match iy ds with|some ns=>P ns|none=>False)|_=>False
def BF{ns:aab}{P:aab->Prop}:LL (.tup (ns.map D.int)) P↔P ns:=by
 unfold LL
 show (match iy (ns.map D.int) with|some ns=>P ns|none=>False)↔P ns
 rw[ja]
def Lj(x:D)(P:List (List Key × V)->Prop):Prop:=match x with|.dit kvs=>P kvs|_=>False
def wk{kvs:List (List Key × V)}{P:List (List Key × V)->Prop}:Lj (.dit kvs) P↔P kvs:=M8
end
end L3
namespace L3
open PySem L2
section
def Lg(xs:List D)(P:DK):Prop:=match xs with|[x]=>asL x fun ds=>P (.tup ds)|_=>False
def vH{ds:List D}{P:DK}:Lg [.lst ds] P↔P (.tup ds):=M8
end
end L3
namespace L3
open PySem L2
section
end
end L3
namespace L2
open PySem PySem.Spec PyProof.Rows
def aY{X:Cx}{K:aad}{e:Expr}{f:Str}{h:Pos}{b:TE}(g:X.K=K)(c:PE X e b)(hb:attributeBase e f X.env (eval e X.env)=eval e X.env):PE X (.Attribute e f h) (xE K b f):=g▸J3 c hb
def iH{X:Cx}{K:aad}{o b:Expr}{f:Str}{g e:Pos}{c tv:TE}(j:X.K=K)(ha:PE X o c)(h:PE X b tv)(i:swapsWith b (some (.Attribute o f e)) g.line X.env=pure false):PS X (.Assign [.Attribute o f e] b g) (AE K c tv f):=j▸J5 ha h i
structure ql(K:aad)(C:Addr)(x qual:Str)(st:Stmt)(ps:List Str)(f:Addr)(fd:FuncData):Prop where
 fn:Fun K x qual st f fd
 mt:Meth K C x f
 bd:Binds K fd ps []
structure Bx(K:aad)(mg:Str->Option Value)(n:Str)(C:Addr)(qual:Str)(st:Stmt)(ps:List Str)(f:Addr)(fd:FuncData):Prop where
 fn:Fun K "__init__" qual st f fd
 mkk:Mk K C f
 bd:Binds K fd ps []
 mg:mg n=some (.ref C)
structure Ih(K:aad)(C:Addr):Prop where
 cl:Cls K C
 ha:PySem.W.findIn K (.ref C) "__class__" = some (some (.builtin "object.__class__"))
 hn:PySem.W.specialIn K (.builtin "object.__class__") "__get__" = some (some (.builtin "getset_descriptor.__get__"))
 ht:PySem.W.takesIn K (.builtin "object.__class__")=some true
 hm:PySem.W.mroIn K C (.type "object")=some true
theorem bq{f:Str}{v:V}:∀{ns:List Str}{xs:List V}{i:Nat},ns.Nodup->ns[i]?=some f->xs[i]?=some v->(ns.zip xs).lookup f=some v
 |[],_,i,_,e,_=>by simp at e
 |_::_,[],i,_,_,e=>by simp at e
 |n::ns,x::xs,0,_,e1,e2=>by
  simp at e1 e2
  subst e1;subst e2
  simp
 |n::ns,x::xs,i+1,hd,e1,e2=>by
  obtain ⟨c,b⟩:=Mn.mp hd
  simp only[List.getElem?_cons_succ] at e1 e2
  have g:f≠n:=fun z=>c (z▸MP e1)
  rw[Om,N8,beq_eq_false_iff_ne.mpr g]
  exact bq b e1 e2
theorem fi{f:Str}:∀{ns:List Str}{xs:List V},f∉ns->(ns.zip xs).lookup f=none
 |[],_,_=>by simp
 |_::_,[],_=>by simp
 |n::ns,x::xs,h=>by
  have b:f≠n:=fun z=>h (z▸Fk)
  rw[Om,N8,beq_eq_false_iff_ne.mpr b]
  exact fi fun z=>h (ox _ z)
theorem zp{f:Str}{v:V}:∀{ns:List Str}{xs:List V},f∉ns->ns.length=xs.length->j3 f v (ns.zip xs)=(ns++[f]).zip (xs++[v])
 |[],[],_,_=>rfl
 |[],_::_,_,h=>by simp at h
 |_::_,[],_,h=>by simp at h
 |n::ns,x::xs,h,hl=>by
  have b:n≠f:=fun z=>h (z▸Fk)
  rw[Om,j3,if_neg b,zp (fun z=>h (ox _ z)) (by simpa using hl)]
  rfl
end L2
namespace L3
open PySem L2
section
variable {K:aad}{Γ:aac}{t u ta:TE}{d e da:DE}{C:Addr}{ns:List Str}{f:Str}
def asF(C:Addr)(ns:List Str)(i:Nat)(x:D)(P:DK):Prop:=match x with|.ins c b ds=>(c=C/\b=ns)/\asO (ds[i]?) P|_=>False
def xb{ds:List D}{i:Nat}{P:DK}:asF C ns i (.ins C ns ds) P=asO (ds[i]?) P:=by
 unfold asF
 simp
theorem xq{x:D}{i:Nat}{P:DK}(h:asF C ns i x P):∃ds y,x=.ins C ns ds/\ds[i]?=some y/\P y:=by
 cases x with
 |ins c b ds =>
  obtain ⟨⟨rfl,rfl⟩,h⟩:=h
  obtain ⟨y,e,h⟩:=Hm h
  exact⟨ds,y,rfl,e,h⟩
 |_=>exact h.elim
def yv{x:D}{i:Nat}{P b:DK}(k:∀z,P z->b z)(h:asF C ns i x P):asF C ns i x b:=by
 obtain ⟨ds,y,rfl,e,h⟩:=xq h
 rw[xb,e]
 exact k _ h
def IW(C:Addr)(ns:List Str)(i:Nat)(b:DE)(δ:Dl)(P:DK):Prop:=b δ fun x=>asF C ns i x P
def KY(ns:List Str)(i:Nat)(l:Cls K C)(hn:bM K C f)(ha:ER K Γ ta da)(hi:ns[i]?=some f:=by rfl)(hd:ns.Nodup:=by decide +kernel):ER K Γ (xE K ta f) (IW C ns i da) :=
 ⟨fun δ P s k h=>ha.mono _ _ _ (fun x z=>yv k z) h,
 fun o q=>ha.run o (ha.mono _ _ _ (fun x z v p b g=>by
  obtain ⟨ds,y,rfl,e,z⟩:=xq z
  obtain ⟨fp,a,dx,xs,r,rfl,m,_,j⟩:=g
  obtain ⟨w,n,e1,c,_⟩:=j.get e
  exact⟨a,C,dx,_,w,rfl,m,l,hn,bq hd hi e1,z w p b ⟨n,c⟩⟩) q)⟩
def bW(ns:List Str)(i:Nat)(n:Cls K C)(hn:bM K C f)(ha:ES K Γ ta da)(hi:ns[i]?=some f:=by rfl)(hd:ns.Nodup:=by decide +kernel):ES K Γ (xE K ta f) (IW C ns i da) :=
 ⟨fun δ P u k h=>ha.mono _ _ _ (fun x z=>yv k z) h,
 fun o q=>ha.run o (ha.mono _ _ _ (fun x z v s fp c l n1=>by
  obtain ⟨ds,y,rfl,e,z⟩:=xq z
  obtain ⟨a,dx,xs,t,rfl,p,rfl,m⟩:=l
  obtain ⟨w,r,e1,g,k⟩:=m.get e
  exact⟨a,C,dx,_,w,rfl,p,n,hn,bq hd hi e1,z w s r c g fun j hj b hb=>n1 j hj b (ox _ (k b hb))⟩) q)⟩
def isI(C:Addr)(ns:List Str)(x:D):Prop:=match x with|.ins c b _=>c=C/\b=ns|_=>False
def De{ds:List D}:isI C ns (.ins C ns ds)=True:=by
 unfold isI
 simp
theorem Hx{x:D}(h:isI C ns x):∃ds,x=.ins C ns ds:=by
 cases x with
 |ins c b ds=>obtain ⟨rfl,rfl⟩:=h;exact⟨ds,rfl⟩
 |_=>exact h.elim
def GO(C:Addr)(ns:List Str)(S:DSp)(c:DE)(b:DA)(δ:Dl)(P:DK):Prop:=c δ fun x=>isI C ns x/\b δ fun xs=>S (x::xs) P
def B9{m:Str}{S:DSp}{E:XK}{w:TA}{p:DA}(ns:List Str)(i:bo S)(ha:ER K Γ ta da)(f:AR K Γ w p)(hm:m∉ns:=by decide +kernel):EM K Γ [] (Ab C m (spP K S) [] E ta w) (GO C ns S da p) :=
 ⟨fun δ P T k h=>ha.mono _ _ _ (fun x z=>⟨z.1,f.mono _ _ _ (fun y z=>i _ _ _ k z) z.2⟩) h,
 fun {B0 fps δ M H Q} o q=>ha.run o (ha.mono _ _ _ (fun x z v X c g=>by
  obtain ⟨B,t⟩:=z
  obtain ⟨ds,rfl⟩:=Hx B
  obtain ⟨fp,a,dx,xs,R,rfl,I,e,O⟩:=id g
  refine⟨a,dx,_,rfl,I,fi hm,f.run (o.same c) (f.mono _ _ _ (fun ys z vs U b G=>?_) t)⟩
  obtain ⟨l,J⟩:=g.same b
  obtain ⟨j,L⟩:=G
  exact⟨.ins C ns ds::ys,⟨l++j,_,_,l,j,by rw[ML],rfl,J,L⟩,(o.b0.trans (c.trans b)).now,i _ _ _ (fun u z F H' fp s r n=>z F H' fp ((c.trans b).trans s) r (n.any.later (c.trans b))) z⟩) q)⟩
def spN(K:aad)(C:Addr)(S:DSp):Sp:=fun vs H Q _=>∃(x dx:Addr) (ws:List V) (ds:List D) (B0:Hp),vs=.ref x::ws/\B0 x=none/\H=upd B0 x (.ins C dx [])/\Rps K B0 ds ws/\gw K B0 /\
 S ds fun d=>∀ns xs dd b H',d=.ins C ns dd->Same B0 H'->H' x=some (.ins C dx (ns.zip xs))->Rfs K H' dd xs b->b.Nodup->(∀a∈b,B0 a=none/\a≠x/\Mu H' a)->Q .non H'
def HA{S:DSp}{n:Nat}(h:∀ds P,S ds P->ds.length=n){vs:List V}{H:Hp}{Q:VK}{E:XK}(k:spN K C S vs H Q E):vs.length=n+1:=by
 obtain ⟨x,dx,ws,ds,B0,rfl,_,_,r,_,b⟩:=k
 obtain ⟨fp,r⟩:=r
 rw[Me,r.length,h _ _ b]
structure INI(K:aad)(C:Addr)(t:TS)(ns:List Str)(d:DA):Prop where
 mono:∀δ (P P':List D->Prop),(∀x,P x->P' x)->d δ P->d δ P'
 run:∀{B0 fps δ σ H x dx ns0 xs0 ds0 fq0 Dn},Ok K B0 [] fps δ σ H->σ[0]?=some (some (.ref x))->H x=some (.ins C dx (ns0.zip xs0))->B0 x=none->ns0.length=xs0.length->Rfs K H ds0 xs0 fq0->fq0.Nodup ->
  (∀a∈fq0,B0 a=none/\a≠x/\Mu H a)->(∀i,x∉fps i)->(∀n∈ns,n∉ns0)->(ns0++ns).Nodup->(ns0++ns).length<=100 ->
  d δ (fun ds=>∀H' xs fq,Same B0 H'->H' x=some (.ins C dx ((ns0++ns).zip xs))->Rfs K H' (ds0++ds) xs fq->fq.Nodup->(∀a∈fq,B0 a=none/\a≠x/\Mu H' a)->Dn.nx σ H')->t Dn σ H
theorem Rfs.snoc{H:Hp}:∀{ds:List D}{xs:List V}{b:List Addr}{d:D}{v:V}{fp:List Addr},Rfs K H ds xs b->Rf K H d v fp->Rfs K H (ds++[d]) (xs++[v]) (b++fp)
 |[],xs,b,d,v,fp,h,r=>by
  obtain ⟨rfl,rfl⟩:=h
  exact⟨v,[],fp,[],rfl,by simp,r,rfl,rfl⟩
 |j::ds,xs,b,d,v,fp,h,r=>by
  obtain ⟨x,c,i,g,rfl,rfl,f,e⟩:=h
  exact⟨x,c++[v],i,g++fp,rfl,by simp,f,e.snoc r⟩
def ue{f:Str}(P:Cls K C)(hn:bM K C f)(G:EM K [] [] ta da){B0:Hp}{fps:Nat->List Addr}{δ:Dl}{j:St}{H:Hp}{x dx:Addr}{ns0:List Str}{xs0:List V}{ds0:List D}{fq0:List Addr}{Dn:Ends}
  (o:Ok K B0 [] fps δ j H) (Q:j[0]?=some (some (.ref x))) (F:H x=some (.ins C dx (ns0.zip xs0))) (hb:B0 x=none) (hl:ns0.length=xs0.length) (M:Rfs K H ds0 xs0 fq0) (R:fq0.Nodup)
  (c:∀a∈fq0,B0 a=none/\a≠x/\Mu H a) (S:∀i,x∉fps i) (O:f∉ns0) (T:ns0.length<100)
  (q:da δ fun y=>∀H' v s,Ok K B0 [] fps δ j H'->H' x=some (.ins C dx ((ns0++[f]).zip (xs0++[v])))->Rfs K H' (ds0++[y]) (xs0++[v]) s->s.Nodup->(∀a∈s,B0 a=none/\a≠x/\Mu H' a)->Dn.nx j H'):AE K (b7 0) ta f Dn j H:=by
 refine G.run o (G.mono _ _ _ (fun y z v g fp l L n1=>?_) q)
 have E:=l.st _ _ F trivial
 refine⟨.ref x,Q,x,C,dx,_,rfl,E,P,hn,by rw[List.length_zip];omega,?_⟩
 rw[zp O hl]
 have B:x∉fp:=fun h=>by have:=n1.fresh x h;rw[F] at this;cases this
 have keep:∀a,a≠x->upd g x (.ins C dx ((ns0++[f]).zip (xs0++[v]))) a=g a:=fun a ha=>aG ha
 have t:∀a w,g a=some w->Im w->upd g x (.ins C dx ((ns0++[f]).zip (xs0++[v]))) a=some w:=fun a w e hi=>by
  have:a≠x:=fun z=>by
   subst z
   rw[E] at e
   cases e
   rcases hi with ⟨_,z⟩|⟨_,_,z⟩|⟨_,_,z⟩<;>cases z
  rw[keep a this];exact e
 have I:∀a,a≠x->Mu g a->Mu (upd g x (.ins C dx ((ns0++[f]).zip (xs0++[v])))) a:=fun a ha m=>m.upd (.inr (.inr (.inr ⟨_,_,_,rfl⟩)))
 have n:=o.same l
 refine z _ v (fq0++fp) ⟨n.len,n.b0.keep (fp:=[x]) (fun a ha=>by cases Gc.mp ha;exact⟨hb,.inr (.inr (.inr ⟨_,_,_,E⟩))⟩) (fun a u hn e=>by rw[keep a (fun z=>hn (z▸Gc.mpr rfl))];exact e),fun i dd e=>?_,n.non,fun _ h=>(nomatch h),fun _ h=>(nomatch h)⟩ az (Rfs.snoc ((M.same l).mono (fun a ha w e=>by rw[keep a (c a ha).2.1];exact e) t) (L.mono (fun a ha w e=>by rw[keep a (fun z=>B (z▸ha))];exact e) t)) ?_ fun a ha=>?_
 .obtain ⟨J,r,p⟩:=n.val i dd e
  exact⟨J,r,p.mono (fun a ha w e=>by rw[keep a (fun z=>S i (z▸ha))];exact e) t⟩
 .refine Ms.mpr ⟨R,n1.nd,fun a r b p e=>?_⟩
  subst e
  exact (c a r).2.2.some (n1.fresh a p)
 .rcases Mf.mp ha with h|h
  .exact⟨(c a h).1,(c a h).2.1,I a (c a h).2.1 ((c a h).2.2.same l)⟩
  .exact⟨o.b0.free (n1.fresh a h),fun z=>B (z▸h),I a (fun z=>B (z▸h)) (n1.mu a h)⟩
def HU{f:Str}(l:Cls K C)(hn:bM K C f)(b:EM K [] [] ta da):INI K C (AE K (b7 0) ta f) [f] (ra da Ef) :=
 ⟨fun δ P I k h=>b.mono _ _ _ (fun x z=>k _ z) h,fun {B0 fps δ F H x dx ns0 xs0 ds0 fq0 Dn} o m e hb hl g B i E j G u q =>
  ue l hn b o m e hb hl g B i E (j f Fk) (by simp at u;omega) (b.mono _ _ _ (fun y z H' v t c s r p n=>z H' _ t c.b0.toSame s r p n) q)⟩
def pT{f:Str}{t:TS}{ns:List Str}{j:DA}(G:Cls K C)(hn:bM K C f)(c:EM K [] [] ta da)(b:INI K C t ns j):INI K C (wV (AE K (b7 0) ta f) t) (f::ns) (ra da j) :=
 ⟨fun δ P U k h=>c.mono _ _ _ (fun x z=>b.mono _ _ _ (fun y z=>k _ z) z) h,fun {B0 fps δ T H x dx ns0 xs0 ds0 fq0 Dn} o g B hb hl I R E m F e l q =>
  ue G hn c o g B hb hl I R E m (F f Fk) (by simp at l;omega) (c.mono _ _ _ (fun y z H' v i s O M L J=>by
   have e1:ns0++f::ns=(ns0++[f])++ns:=by simp
   refine b.run s g O hb (by simp [hl]) M L J m (fun n Q p=>?_) (by rw[<- e1];exact e) (by rw[<- e1];exact l) (b.mono _ _ _ (fun ds z S xs i r k1 k2 k3 u=>?_) z)
   .rw[e1] at e
    exact (Ms.mp e).2.2 n p n Q rfl
   .refine z S xs i r (by rw[e1];exact k1) ?_ k3 u
    rw[M0] at k2
    exact k2) q)⟩
def Lc{N:List Str}{S:DSp}{t:TS}{ns:List Str}{d:DA}(c:INI K C t ns d)(hd:∀ds P,S ds P->d (none::(aJ (N.drop 1) ds)) fun dd=>P (.ins C ns dd))(q:1<=N.length)(p:ns.Nodup:=by decide +kernel)(n:ns.length<=100:=by decide) :
  ∀{vs H Q E},spN K C S vs H Q E->t { nx:=fun _ H'=>Q .non H',rt:=Q } (L2.start N vs) H:=by
 rintro vs H Q E ⟨x,dx,ws,ds,B0,rfl,hb,rfl,r,tv,h⟩
 obtain ⟨fps,o⟩:=mO (N:=N.drop 1) r tv
 have sx:Same B0 (upd B0 x (.ins C dx [])):=Same.kR hb
 have b:=o.same sx
 have m:L2.start N (.ref x::ws)=some (.ref x)::L2.start (N.drop 1) ws:=by
  unfold L2.start
  rw[Ml,List.cons_append,Me,Nk,show N.length - (ws.length+1)=N.length - 1 - ws.length by omega]
 rw[m]
 refine c.run (B0:=B0) (fps:=fun i=>match i with|0=>[]|j+1=>fps j) (δ:=none::aJ (N.drop 1) ds) (x:=x) (dx:=dx) (ns0:=[]) (xs0:=[]) (ds0:=[]) (fq0:=[]) ⟨by rw[Me,Me,b.len],⟨sx,tv⟩,fun i dd e=>?_,fun i e=>?_,fun _ h=>(nomatch h),fun _ h=>(nomatch h)⟩ rfl az hb rfl ⟨rfl,rfl⟩ Nb (fun _ h=>(nomatch h)) (fun i=>?_) (fun _ _ h=>(nomatch h)) p n (c.mono _ _ _ (fun dd z H' xs l f k1 k2 k3 g=>?_) (hd ds _ h))
 .cases i with
  |zero=>simp at e
  |succ j=>exact b.val j dd (by simpa using e)
 .cases i with
  |zero=>rfl
  |succ j=>exact b.non j fun dd z=>e dd (by simpa using z)
 .cases i with
  |zero=>exact fun h=>(nomatch h)
  |succ j=>exact fun h=>o.dom h hb
 .exact z ns xs dd l H' rfl f k1 k2 k3 g
end
end L3
namespace L2
open PySem PySem.Spec PyProof.Rows
section
end
section
end
end L2
namespace L2
open PySem PySem.Spec PyProof.Rows
section
end
end L2
namespace L3
open PySem L2
section
end
end L3
namespace L2
open PySem PySem.Spec PyProof.Rows
theorem bX.there{P:Program}{w:World}{H:Hp}{h:Heap}{a:Addr}{o:HO}(x:bX P w H h a o):∃ob,h.get? a=some ob:=by
 cases o with
 |lst xs=>obtain ⟨_,_,_,_,e⟩:=x;exact⟨_,e⟩
 |tup xs=>obtain ⟨_,_,_,ob,e,_⟩:=x;exact⟨_,e⟩
 |dK kvs=>obtain ⟨_,_,_,_,o,_,_,e,_⟩:=x;exact⟨_,e⟩
 |dT kvs=>obtain ⟨_,_,_,_,o,_,_,e,_⟩:=x;exact⟨_,e⟩
 |set S n=>obtain ⟨o,_,_,_,e,_⟩:=x;exact⟨_,e⟩
 |ins C dx fs=>obtain ⟨_,_,_,e,_⟩:=x;exact⟨_,e⟩
 |own y=>exact x
 |xd fs=>obtain ⟨_,⟨_,_,_,e,_⟩,_⟩:=x;exact⟨_,e⟩
 |rng lo hi=>obtain ⟨_,_,_,e⟩:=x;exact⟨_,e⟩
 |frz ob u=>obtain ⟨e,_⟩:=x;exact⟨_,e⟩
 |tbl ps=>exact⟨_,(show h.get? a=some _ from x)⟩
 |met f y=>exact⟨_,(show h.get? a=some _ from x)⟩
 |ext b=>obtain ⟨_,e,_⟩:=x;exact e
 |memo b ks=>obtain ⟨_,_,_,_,_,_,_,e,_⟩:=x;exact⟨_,e⟩
def Fly(h:Heap)(H:Hp)(lo:Heap)(a:Addr)(C:Value):Prop :=
 (H a=none/\lo.get? a=none)/\∃b vs a0 T e c,h.get? a=some b/\(b.cls=C/\vs[0]?=some a0)/\b.data=.fields vs/\vs[1]?=some (.ref T)/\T≠a/\h.get? T=some e/\e.data=.fields c/\c[3]?=some .none/\H T=none/\lo.get? T=none
def L5(h:Heap)(H:Hp)(lo:Heap)(a:Addr)(C:Value):Prop :=
 (H a=none/\lo.get? a=none)/\∃b vs a0,h.get? a=some b/\(b.cls=C/\vs[0]?=some a0)/\b.data=.fields vs/\vs[1]?=some .none
def CXR(P:Program)(w:World):CXT:=fun outer H s E e s'=>∃(a C:Addr) (H':Hp),e=.ref a/\s'.os=s.os/\AllBare s'.gens/\Un (frs outer) [] H H' s.heap s'.heap/\HOk P w H' s'.heap /\
 Fly s'.heap H' s.heap a (.ref C)/\E (.ref C) none H'
section
variable {P:Program}{w:World}{K:aad}{mg:Str->Option Value}{base:Heap}{N:List Str}{qual:Str}{scope:Scope}{f:Addr}{cd:Value}{A:Around}{outer:List Env}{s0:Shared}{H0:Hp}{E:XK}
variable {pins:List (Addr × Obj)}{σ:St}{H':Hp}{s':Shared}{a C:Addr}{h2:Heap}
def vD{as:List Addr}{a0:Value}(J:Inv (nj (CXR P w) P w K mg base N qual scope f cd A outer s0 H0 E) pins σ H' s')
  (has:∀b∈as,b∈frs (envOfC qual scope s0.heap.objs.size f cd::outer)\/(H' b=none/\s0.heap.get? b=none))
  (L:Heap.LeftW (PySem.W.hideAll s'.heap as) (envOfC qual scope s0.heap.objs.size f cd::outer) a (.ref C) a0 s'.heap h2) (ha:H' a=none/\s0.heap.get? a=none) (q:E (.ref C) none H') :
  CXR P w outer H0 s0 E (.ref a) { s' with heap:=h2 }:=by
 obtain ⟨k1,k2,k3,t⟩:=L
 have bs:Un (frs outer) [] H0 H' s0.heap s'.heap:=J.base
 have l:∀b o,s'.heap.get? b=some o->b∉as->h2.get? b=some o:=fun b o e n=>k1 b o (Ob _ e n)
 have R:∀b∈frs (envOfC qual scope s0.heap.objs.size f cd::outer),H' b=none:=J.sA
 have S:∀b∈frs (envOfC qual scope s0.heap.objs.size f cd::outer),b∈s0.heap.objs.size::frs outer:=J.qk
 have trk:∀b u,H' b=some u->b∉as:=fun b u e z=>by
  rcases has b z with z|⟨z,_⟩
  .rw[R b z] at e;cases e
  .rw[z] at e;cases e
 have X:∀b∈frs (envOfC qual scope s0.heap.objs.size f cd::outer),∃o,s'.heap.get? b=some o/\∀vs,o.data≠.fields vs:=fun b hb=>(J.stack.mem hb).2
 refine⟨a,C,H',rfl,J.os,J.bare,⟨fun b o e n hb h=>?_,fun b o e n hb h=>?_,bs.free,fun b o e h=>?_,bs.tups,bs.frzs,bs.tbls⟩,fun c o e=>?_,⟨ha,?_⟩,q⟩
 .refine l b o (bs.keep b o e n hb h) fun z=>?_
  rcases has b z with z|⟨_,z⟩
  .rcases Mb.mp (S b z) with z|z
   .rw[z] at e;exact absurd (Heap.lt_size e) (Nd _)
   .exact hb z
  .rw[z] at e;cases e
 .obtain ⟨p,e1⟩:=bs.slot b o e n hb h
  obtain ⟨_,g,j,nf⟩:=J.ok.nk.mem hb
  have j:s0.heap.get? b=some g:=j
  rw[e] at j;cases j
  obtain ⟨U,e2⟩:=t b { o with slots:=p } e1 nf
  exact⟨U,e2⟩
 .obtain ⟨g,e1⟩:=bs.there b o e h
  by_cases z:b∈as
  .rcases has b z with z|⟨_,z⟩
   .obtain ⟨s,e2,nf⟩:=X b z
    obtain ⟨p,Q⟩:=t b s e2 nf
    exact⟨_,Q⟩
   .rw[z] at e;cases e
  .exact⟨g,l b g e1 z⟩
 .refine (J.hok c o e).oN (fun b u hb q=>l b u q ?_) (fun _ q=>q) fun _ _ q=>q
  rcases hb with rfl|hb
  .exact trk _ _ e
  .exact trk _ _ hb
 .obtain ⟨y,vs,T,B,m,O,M,I,H,i,G,x,v,F⟩:=k3
  refine⟨y,vs,a0,T,B,m,O,M,I,H,G,x,v,F,?_,?_⟩
  .cases r:H' T with
   |none=>rfl
   |some u =>
    obtain ⟨ob,e⟩:=(J.hok T u r).there
    rw[Ob as e (trk T u r)] at i
    cases i
  .cases r:s0.heap.get? T with
   |none=>rfl
   |some u =>
    obtain ⟨g,e1⟩:=bs.there T u r (fun z=>(nomatch z))
    by_cases z:T∈as
    .rcases has T z with z|⟨_,z⟩
     .obtain ⟨_,s,e2,nf⟩:=k2.mem z
      rw[x] at e2;cases e2
      exact absurd v (nf m)
     .rw[z] at r;cases r
    .rw[Ob as e1 z] at i;cases i
def BL{H:Hp}{s:Shared}(I:Inv (nj (CXR P w) P w K mg base N qual scope f cd A outer s0 H0 E) pins σ H s)(os:s'.os=s.os)(bare:AllBare s'.gens)
  (U:Un (frs (envOfC qual scope s0.heap.objs.size f cd::outer)) [] H H' s.heap s'.heap) (ok:HOk P w H' s'.heap) (O:L5 s'.heap H' s.heap a (.ref C)\/Fly s'.heap H' s.heap a (.ref C)) (q:E (.ref C) none H') :
  (nj (CXR P w) P w K mg base N qual scope f cd A outer s0 H0 E).xe (.ref a) s':=by
 have J:Inv (nj (CXR P w) P w K mg base N qual scope f cd A outer s0 H0 E) pins σ H' s':=I.rG os U ok bare fun b hb=>(nomatch hb)
 have up:∀b,s.heap.get? b=none->s0.heap.get? b=none:=fun b n=>by
  cases r:s0.heap.get? b with
  |none=>rfl
  |some u =>
   obtain ⟨R,e1⟩:=I.base.there b u r (fun z=>(nomatch z))
   rw[n] at e1;cases e1
 have p:(A.deeper (envOfC qual scope s0.heap.objs.size f cd)).frames=some (envOfC qual scope s0.heap.objs.size f cd::outer):=J.ok.frames
 have t:s'.heap.FunFrames base (envOfC qual scope s0.heap.objs.size f cd::outer):=J.stack
 have m:∀env∈(envOfC qual scope s0.heap.objs.size f cd::outer),∀b,env.frame=some b->b∈frs (envOfC qual scope s0.heap.objs.size f cd::outer):=fun env c b hb=>Nr.mpr ⟨env,c,hb⟩
 show wpAny _ _ _ _ _ _
 rcases O with ⟨⟨na,g⟩,l,vs,a0,ge,⟨i,M⟩,h,j⟩|⟨⟨na,g⟩,l,vs,a0,T,x,v,ge,i,h,j,G,F,B,y,nT,Q⟩
 .refine wpAny_leaving_firstW (base:=PySem.W.hideAll s'.heap (a::frs (envOfC qual scope s0.heap.objs.size f cd::outer))) p
   (Nx t fun env c b hb=>ox _ (m env c b hb)) rfl ge (fun b o e=>NA _ e) (MV _ (Fk ..)) h j M fun h2 L=>?_
  rw[i] at L
  refine vD J (fun b hb=>?_) L ⟨na,up a g⟩ q
  rcases Mb.mp hb with rfl|hb
  .exact .inr ⟨na,up _ g⟩
  .exact .inl hb
 .refine wpAny_leaving_nextW (a0:=a0) (base:=PySem.W.hideAll s'.heap (a::T::frs (envOfC qual scope s0.heap.objs.size f cd::outer))) (cls:=.ref C) p
   (Nx t fun env c b hb=>ox _ (ox _ (m env c b hb))) rfl
   ⟨l,vs,T,x,v,ge,i,h,j,MV _ (ox _ (Fk ..)),G,F,B,y⟩ (fun b o e=>NA _ e) (MV _ (Fk ..)) fun h2 L=>?_
  refine vD J (fun b hb=>?_) L ⟨na,up a g⟩ q
  rcases Mb.mp hb with rfl|hb
  .exact .inr ⟨na,up _ g⟩
  .rcases Mb.mp hb with rfl|hb
   .exact .inr ⟨nT,up _ Q⟩
   .exact .inl hb
def A1:Passes (CXR P w) (nj (CXR P w) P w K mg base N qual scope f cd A outer s0 H0 E) E:=fun pins σ H s e s' I h=>by
 obtain ⟨a,C,H',rfl,os,bare,U,ok,b,q⟩:=h
 exact BL I os bare U ok (.inr b) q
end
def FP(C:Addr)(E:XK)(c:TA):TS:=fun _ b H=>c b H fun vs e=>vs.length<=1000/\E (.ref C) none e
def Raises(X:Cx)(C:Addr)(E:XK):Prop:=∀(b:List (Addr × Obj)) (c:St) (H:Hp) (s:Shared) (h':Heap) (a:Addr) (us:List Value),Inv X b c H s->Heap.MadeExcOf s.heap h' a (.ref C) us->E (.ref C) none H->X.xe (.ref a) { s with heap:=h' }
theorem wY{P:Program}{w:World}{K:aad}{mg:Str->Option Value}{base:Heap}{N:List Str}{qual:Str}{scope:Scope}{f:Addr}{cd:Value}{A:Around}{outer:List Env}{g:Shared}{h:Hp}{E:XK}{C:Addr} :
  Raises (nj (CXR P w) P w K mg base N qual scope f cd A outer g h E) C E:=fun c i H s h' a us I b q=>by
 obtain ⟨t,ht,_,_⟩:=b.there
 refine BL (s':={ s with heap:=h' }) I rfl I.bare (Un.kept b.keeps) (I.hok.kept b.keeps) (.inl ⟨⟨?_,b.new⟩,_,_,_,ht,⟨rfl,rfl⟩,rfl,rfl⟩) q
 cases r:H a with
 |none=>rfl
 |some u =>
  obtain ⟨ob,e⟩:=(I.hok a u r).there
  rw[b.new] at e;cases e
section
variable {X:Cx}{x:Str}{C:Addr}{YZ:List Value}{B Tf Tz:String}{E:XK}{e:Expr}{es:List Expr}{ta:TA}{np PU MK:Pos}
def tG(O:OwnCls x C YZ Tf X.mg X.base)(FB:ExcBaseFacts B Tf Tz YZ)(p:X.calm=true)(o:Gl X x)(v:Raises X C E)(ha:PA X (e::es) ta)(z:(x == ("__debug__" : Str))=false:=by decide)
  (g:starEach (e::es) X.env=(false,eval e X.env)::starEach es X.env:=by rfl) (F:(backTo PU (starEach es X.env)).any (·.1)=false:=by rfl) :
  PS X (.Raise (some (.Call (.Name x np) (e::es) [] PU)) none MK) (FP C E ta):=by
 intro b s f H D I h
 obtain ⟨j,N,nm,q,bs,hdct,sn,sub,ab,col,dd,k0,k1,k2,k3,k5,mN,u,t,y,T⟩:=O.obj
 refine wpAny_Raise_call_subT (C:=C) (nm:=nm) (q:=q) (N:=N) (bs:=bs) (bm:=j) (hdct:=hdct) (sn:=sn) (sub:=sub) (ab:=ab) (col:=col) (dd:=dd) (k0:=k0) (k1:=k1) (k2:=k2) (k3:=k3) (k5:=k5)
  FB (mN:=mN) (T.hasType FB.hasBase) (I.ok.hd p) (by rw[g];show (false || (backTo PU (starEach es X.env)).any (·.1))=false;rw[F];rfl) y (fh I o O.bound ⟨rfl,?_⟩ z)
 have i:=ha PU b s f H _ I h
 rw[g] at i ⊢
 refine Calls.evalArgs_plain (thn i fun us l ⟨vs,G,c,r,m,q2⟩=>?_)
 exact⟨rfl,by show us.length<=_;rw[<- r.length];exact NN (m3 m),c.bk _ _ u,t.keeps c.bk,T.keeps c.bk,fun h' a n=>v b f G l h' a us c n q2⟩
end
end L2
namespace L2
open PySem PySem.Spec PyProof.Rows
abbrev VB:List Value:=[.type "ValueError",.type "Exception",.type "BaseException",.type "object"]
def bQ(h:Heap)(C:Addr)(ups:List Addr):Prop:=∃N nm q bs hdct sn sub ab col dd k0 k1 k2 k3 k5 mN,
 h.get? C=some (excClassObj nm q C N bs (ups.map Value.ref++VB) hdct sn sub ab col dd k0 k1 k2 k3 k5 "ValueError.__new__")/\h.Ns N mN/\mN "__init__" = none/\OwnTail h VB (ups.map Value.ref++VB)
theorem bQ.keeps{h h':Heap}{C:Addr}{ups:List Addr}(O:bQ h C ups)(c:∀b o,h.get? b=some o->h'.get? b=some o):bQ h' C ups :=
 let ⟨N,nm,q,bs,hdct,sn,sub,ab,col,dd,k0,k1,k2,k3,k5,mN,hC,hN,Sy,T⟩:=O
 ⟨N,nm,q,bs,hdct,sn,sub,ab,col,dd,k0,k1,k2,k3,k5,mN,c _ _ hC,hN.keeps c,Sy,T.keeps c⟩
def bQ.own{h:Heap}{C:Addr}{ups:List Addr}{mg:Str->Option Value}{x:Str}(O:bQ h C ups)(hm:mg x=some (.ref C)):OwnCls x C VB "ValueError.__new__" mg h:=by
 obtain ⟨N,nm,q,bs,hdct,sn,sub,ab,col,dd,k0,k1,k2,k3,k5,mN,c,b,e,T⟩:=O
 exact⟨hm,_,N,nm,q,bs,hdct,sn,sub,ab,col,dd,k0,k1,k2,k3,k5,mN,c,b,e,T⟩
def fL{M:Model}{A:Around}{E:Value->Shared->Prop}{s:Shared}{C D e:Addr}{ups j:List Addr}{c:Obj}{Q:Bool->Shared->Prop}(z:bQ s.heap C ups)(y:bQ s.heap D j)
  (m:s.heap.get? e=some c) (x:c.cls=.ref C) (hb:(C::ups).contains D=true) (l:Q true s):wpAny M A (excMatches (.ref e) (.ref D)) Q E s:=by
 obtain ⟨h,g,d,t,os⟩:=s
 obtain ⟨N,nm,q,bs,hdct,sn,sub,ab,col,dd,k0,k1,k2,k3,k5,mN,n,I,Z,T⟩:=z
 obtain ⟨N',O,B,o,U,J,R,p,P,X,H,l1,l2,G,F,L,i,Y,S,v⟩:=y
 have r:(Value.ref D::(j.map Value.ref++VB)).contains (.type "BaseException")=true:=by
  rw[List.contains_cons,v.hasType (b:=true) rfl,Bool.or_true]
 have u:(Value.ref C::(ups.map Value.ref++VB)).contains (.ref D)=true:=by
  rw[List.contains_iff_mem] at hb ⊢
  rcases Mb.mp hb with rfl|hb
  .exact Fk ..
  .exact ox _ (Mg _ (List.mem_map_of_mem hb))
 have f:=tc_notTuple
 unfold excMatches
 repeat (first|(with_reducible refine wpAny_loadPart_at m ?_;rw[x])|with_reducible refine wpAny_loadPart_at i ?_|(with_reducible refine wpAny_isSubtype_exc i ?_;rw[r])|(with_reducible refine wpAny_isSubtype_exc n ?_;rw[u])|wp_step)
 exact l
section
variable {X:Cx}{pins:List (Addr × Obj)}{σ:St}{H H':Hp}{s s':Shared}{a C:Addr}{a0:Value}{h:Heap}
def dZ{T:Addr}(I:Inv X pins σ H s)(os:s'.os=s.os)(bare:AllBare s'.gens)(U:Un (frs X.stack) [] H H' s.heap s'.heap)(ok:HOk X.prog X.w H' s'.heap)
  (na:H' a=none) (l:s.heap.get? a=none) (nT:H' T=none) (P:s.heap.get? T=none)
  (Y:Heap.FlyingW (PySem.W.hideAll s'.heap (a::T::frs X.stack)) X.stack a (.ref C) a0 h) (E:s'.heap.UpToSlots h) :
  ∃f,Inv X ((a,f)::pins) σ H' { s' with heap:=h }/\f.cls=.ref C/\h.get? a=some f:=by
 obtain ⟨k1,k2,k3,f,vs,T',oT,Z,y,⟨O,_⟩,M,_⟩:=Y
 have r:∀b o,s'.heap.get? b=some o->b≠a->b≠T->b∉frs X.stack->h.get? b=some o:=fun b o e n1 n2 L=>k1 b o (Ob _ e fun z=>by
  rcases Mb.mp z with z|z
  .exact n1 z
  .rcases Mb.mp z with z|z
   .exact n2 z
   .exact L z)
 have old:∀b o,s.heap.get? b=some o->b≠a/\b≠T:=fun b o e=>⟨fun z=>(by rw[z,l] at e;cases e),fun z=>(by rw[z,P] at e;cases e)⟩
 have J:Inv X pins σ H' s':=I.rG os U ok bare fun b hb=>(nomatch hb)
 have un:Un (frs X.stack) [] H H' s.heap h:=by
  refine⟨fun b o e n hb g=>r b o (U.keep b o e n hb g) (old b o e).1 (old b o e).2 hb,fun b o e n hb g=>?_,U.free,fun b o e g=>?_,U.tups,U.frzs,U.tbls⟩
  .obtain ⟨x,e1⟩:=U.slot b o e n hb g
   obtain ⟨_,i,B,nf⟩:=I.stack.mem hb
   rw[e] at B;cases B
   obtain ⟨S,e2⟩:=E b { o with slots:=x } e1 nf
   exact⟨S,e2⟩
  .obtain ⟨i,e1⟩:=U.there b o e g
   by_cases z:b∈frs X.stack
   .obtain ⟨_,G,e2,nf⟩:=J.stack.mem z
    obtain ⟨x,Q⟩:=E b G e2 nf
    exact⟨_,Q⟩
   .exact⟨i,r b i e1 (old b o e).1 (old b o e).2 z⟩
 have trk:∀b u,H' b=some u->b≠a/\b≠T/\b∉frs X.stack:=fun b u e=>⟨fun z=>(by rw[z,na] at e;cases e),fun z=>(by rw[z,nT] at e;cases e),fun z=>(by rw[J.sA b z] at e;cases e)⟩
 have R:HOk X.prog X.w H' h:=fun c o e=>(ok c o e).oN (fun b u hb q=>by
  have t:b≠a/\b≠T/\b∉frs X.stack:=by
   rcases hb with rfl|hb
   .exact trk _ _ e
   .exact trk _ _ hb
  exact r b u q t.1 t.2.1 t.2.2) (fun _ q=>q) fun _ _ q=>q
 have F:Inv X pins σ H' { s' with heap:=h }:=I.rG (s':={ s' with heap:=h }) os un R bare fun b hb=>(nomatch hb)
 refine⟨f,F.oO fun p j=>?_,O,y⟩
 rcases Mb.mp j with rfl|j
 .refine⟨y,na,fun z=>?_,fun z=>?_,fun v z=>by rw[M] at z;cases z⟩
  .obtain ⟨m,⟨o,_,_,e,_⟩,_⟩:=I.loc
   have z:a=X.env.locals:=z
   rw[<- z,l] at e;cases e
  .have z:a∈frs X.stack:=by
    rcases I.ok.stk with e|⟨e,_⟩
    .rw[e];exact z
    .rw[e];unfold frs;rw[Po]
     split
     .exact z
     .exact ox _ z
   obtain ⟨_,o,e,_⟩:=I.stack.mem z
   rw[l] at e;cases e
 .exact F.pin p (L9 _ j)
end
end L2
namespace L2
open PySem PySem.Spec PyProof.Rows
abbrev Cx.held(X:Cx)(a:Addr)(b:Obj):Cx:={ X with A:=X.A.mark (some (.ref a)),calm:=false,pn:=(a,b)::X.pn,xe:=fun _ _=>False }
section
variable {X:Cx}{pins:List (Addr × Obj)}{σ:St}{H:Hp}{s:Shared}{a:Addr}{oe:Obj}
def za{A:Around}{u:Option Value}:(A.mark u).frames=A.frames:=by cases A;rfl
theorem Cx.Ok.held(ok:X.Ok):(X.held a oe).Ok :=
 ⟨ok.mod,ok.kind,ok.glob,ok.blt,ok.above,ok.inj,ok.has,ok.cab,(fun z=>absurd z (by show ¬ (false=true);decide)),za.trans ok.frames,ok.stk,ok.exf,ok.bs,ok.bsz,ok.noex,ok.exfs,ok.nk,ok.frf⟩
theorem Inv.held(I:Inv X ((a,oe)::pins) σ H s):Inv (X.held a oe) pins σ H s :=
 ⟨I.ok.held,I.os,I.bare,I.base,I.loc,I.cell,I.free,I.freeC,fun p b=>I.pin p (by
  have b:p∈((a,oe)::X.pn)++pins:=b
  simp only[List.cons_append,Mb,Mf] at b ⊢
  rcases b with h|h|h
  .exact .inr (.inl h)
  .exact .inl h
  .exact .inr (.inr h)),I.hok,I.len⟩
def Inv.yk(ok:X.Ok)(I:Inv (X.held a oe) pins σ H s):Inv X pins σ H s :=
 ⟨ok,I.os,I.bare,I.base,I.loc,I.cell,I.free,I.freeC,fun p b=>I.pin p (ox _ b),I.hok,I.len⟩
def sh{M:Model}{A:Around}{E:Value->Shared->Prop}{i:Nat}{n:Str}{Z:Pos}{Q:Unit->Shared->Prop}(I:Inv X pins σ H s)(O:X.N.Nodup)(hi:X.N[i]?=some n)(L:X.env.scope.names.lookup n=some .local)
  (h:∀s',Inv X pins (σ.set i none) H s'->Q () s'):wpAny M A (do bindName X.env n .none;unbindBehindTheSuite X.env n Z) Q E s:=by
 obtain ⟨m,hn,hl⟩:=id I.loc
 have U:(X.env.scope.kind == .class || (X.env.scope.kind == .module && X.env.locals != X.env.globals))=false:=by rw[I.ok.kind];rfl
 have T:i<σ.length:=by rw[I.len];exact (Ma.mp hi).1
 have cne:=I.cne
 have Y:∀{a:Addr}{h':Heap},(∃o,s.heap.get? a=some o/\H a=none)->Heap.SameBut a s.heap h'->HOk X.prog X.w H h':=fun {a h'} ha f b ob e=>by
  obtain ⟨_,_,t⟩:=ha
  refine (I.hok b ob e).oN (fun c r l q=>(f.2 c ?_).trans q) (fun _ q=>q) fun _ _ q=>q
  rintro rfl
  rcases l with rfl|l
  .rw[t] at e;cases e
  .rw[t] at l;cases l
 refine wpAny_nameGoes_keeps L hn U fun h' v R f=>?_
 obtain ⟨F,_,_,S,_⟩:=id hn
 refine h _ ⟨I.ok,I.os,I.bare,⟨fun b o e n hb g=>?_,fun b o e n hb g=>?_,I.base.free,fun b o e g=>?_,I.base.tups,I.base.frzs,I.base.tbls⟩,⟨_,R,fun j y u e1 e2 P=>?_⟩,fun y c e=>?_,I.free,I.freeC,fun p J=>?_,Y ⟨F,S,I.free⟩ f,by simpa using I.len⟩
 .exact (f.2 b (MA (Mo (Heap.lt_size e) I.ok.above))).trans (I.base.keep b o e n hb g)
 .obtain ⟨B,e1⟩:=I.base.slot b o e n hb g
  exact⟨B,(f.2 b (MA (Mo (Heap.lt_size e) I.ok.above))).trans e1⟩
 .obtain ⟨G,e1⟩:=I.base.there b o e g
  exact⟨G,(f.2 b (MA (Mo (Heap.lt_size e) I.ok.above))).trans e1⟩
 .by_cases hj:j=i
  .subst hj
   rw[Mj T] at e2
   cases e2
  .rw[KE (MI hj)] at e2
   obtain ⟨x,C,q⟩:=hl j y u e1 e2 P
   refine⟨x,C,?_⟩
   rcases q with ⟨k,e⟩|⟨k,c,e,z⟩
   .refine .inl ⟨k,?_⟩
    have:y≠n:=fun e=>hj (sF O e1 (e▸hi))
    simp [this,e]
   .exact .inr ⟨k,c,e,z.sameBut f (cne y c e)⟩
 .obtain ⟨r,z⟩:=I.cell y c e
  exact⟨r,z.sameBut f (cne y c e)⟩
 .obtain ⟨e,n,ne,nf,d⟩:=I.pin p J
  exact⟨(f.2 p.1 ne).trans e,n,ne,nf,d⟩
end
section
variable {X:Cx}{CX:CXT}{k:Nat}{f:Addr}{fd:FuncData}{ps:List Str}{sp:Sp}{E:XK}{e:Expr}
theorem Ca{XE:Value->Shared->Prop}{b:List (Addr × Obj)}{g:St}{H:Hp}{s:Shared}{Q:VK}{us:List Value}{vs:List V}(F:br X.prog X.w X.K X.mg X.base CX k f fd ps sp)(l:eP k X.A)(hb:Binds X.K fd ps [])
  (I:Inv X b g H s) (r:Vals vs us) (h:sp vs H Q E) (j:∀e s',CX X.stack H s E e s'->XE e s'):wpAny (model X.prog X.w) X.A (call (.ref f) us) (EP X b g Q) XE s:=by
 have hl:(us++[]).length=ps.length:=by rw[ML,<- r.length];exact F.len _ _ _ _ h
 have i:=hb s us I.kIn hl
 rw[ML] at i
 refine wpAny_call (codeAny_mono (F.run X.A X.stack s H ⟨us,[]⟩ us vs Q E l I.xF i r h) fun r s' c=>?_)
 cases r with
 |error e=>exact j e s' c
 |ok m =>
  cases m with
  |ret u=>exact I.after c
  |next=>exact False.elim c
  |brk=>exact False.elim c
  |cont=>exact False.elim c
end
end L2
namespace L3
open PySem L2
abbrev DSX:=List D->DK->(Addr->Prop)->Prop
def j4(S:DSX):Prop:=∀xs (P c:DK) (R b:Addr->Prop),(∀z,P z->c z)->(∀C,R C->b C)->S xs P R->S xs c b
def spX(K:aad)(S:DSX):Sp:=fun vs H Q E=>∃ds,Rps K H ds vs/\gw K H/\S ds (fun x=>∀v H' fp,Same H H'->Rf K H' x v fp->Nw H H' nf [] fp->Q v H') (fun C=>∀H',Same H H'->E (.ref C) none H')
def SX(K:aad)(f:Bool)(b c:aac)(R:Addr->Prop)(t:XK->TS)(g Γn:aac)(d:DS):Prop :=
 ∀⦃B0:Hp⦄ ⦃Dn:Ends⦄ ⦃E:bc⦄ ⦃Ex:XK⦄ ⦃fps:Nat->List Addr⦄ ⦃δ:Dl⦄ ⦃e:St⦄ ⦃H:Hp⦄,(∀C H',Same B0 H'->R C->Ex (.ref C) none H')->EOk K f b c Γn B0 Dn E->Ok K B0 g fps δ e H->d E δ->t Ex Dn e H
section
variable {K:aad}{ρ:Bool}{Γr Γl Γ Tr Uz Γn M:aac}{R:Addr->Prop}{t u:XK->TS}{t0:TS}{d e:DS}{C:Addr}{S:DSX}{ta:TA}{da:DA}
def ST.sx(h:ST K ρ Γr Γl t0 Γ Γn d):SX K ρ Γr Γl R (fun _=>t0) Γ Γn d:=fun _ _ _ _ _ _ _ _ _ k o q=>h k o q
def kX(c:SX K ρ Γr Γl R t Γ Tr d)(b:SX K ρ Γr Γl R u Tr Uz e):SX K ρ Γr Γl R (fun Ex=>wV (t Ex) (u Ex)) Γ Uz (xl d e) :=
 fun {B0 Dn E Ex fps δ f H} x k o h=>c (Dn:={ Dn with nx:=u Ex Dn }) (E:={ E with nx:=e E }) x ⟨fun o h=>b x k o h,k.bk,k.ct,k.rt⟩ o h
def He{c:TT}{g:DT}(f:TR K Γ c g)(j:SX K ρ Γr Γl R t Γ Γn d)(i:SX K ρ Γr Γl R u Γ Γn e):SX K ρ Γr Γl R (fun Ex=>EA c (t Ex) (u Ex)) Γ Γn (Hj g d e) :=
 fun _ _ _ _ _ _ _ _ x k o h=>f.run o (f.mono _ _ _ (fun b z H' s=>cY (fun z=>j x k (o.same s) z) (fun z=>i x k (o.same s) z) z) h)
def Bn(C:Addr)(R:Addr->Prop)(b:DA)(_:bc)(δ:Dl):Prop:=b δ fun xs=>xs.length<=1000/\R C
def tO(ha:AR K Γ ta da):SX K ρ Γr Γl R (fun Ex=>FP C Ex ta) Γ Γn (Bn C R da) :=
 fun {B0 Dn E Ex fps δ b H} x k o h=>ha.run o (ha.mono _ _ _ (fun xs z vs H' s r=>by
  obtain ⟨fp,r⟩:=r
  exact⟨by rw[r.length];exact z.1,x C H' (o.b0.trans s) z.2⟩) h)
def Bz(S:DSX)(R:Addr->Prop)(b:DA)(E:bc)(δ:Dl):Prop:=b δ fun xs=>S xs (fun _=>E.nx δ) R
def Il(e:j4 S)(ha:AR K Γ ta da):SX K ρ Γr Γl R (fun Ex=>v5 (nG (spX K S) [] Ex ta)) Γ Γ (Bz S R da) :=
 fun {B0 Dn E Ex fps δ f H} x k o h=>ha.run o (ha.mono _ _ _ (fun xs z vs H' s r=>⟨xs,by rw[ML];exact r,(o.b0.trans s).now,
  e _ _ _ _ _ (fun _ z v c fp b _ _=>k.nx (o.same (s.trans b)) z) (fun C z c b=>x C c (o.b0.trans (s.trans b)) z) z⟩) h)
def EB(S:DSX)(R:Addr->Prop)(i:Nat)(b:DA)(E:bc)(δ:Dl):Prop:=b δ fun xs=>S xs (fun x=>E.nx (δ.set i (some x))) R
def yp{Ex:XK}{B0:Hp}{fps:Nat->List Addr}{δ:Dl}{c:St}{H:Hp}{Q:VK}(i:j4 S)(ha:AR K Γ ta da)(x:∀C H',Same B0 H'->R C->Ex (.ref C) none H')(o:Ok K B0 Γ fps δ c H)
  (h:da δ fun xs=>S xs (fun z=>∀v H' fp,Same H H'->Rf K H' z v fp->Nw H H' fps [] fp->Q v H') R):nG (spX K S) [] Ex ta c H Q :=
 ha.run o (ha.mono _ _ _ (fun xs z vs l b g=>⟨xs,by rw[ML];exact g,(o.b0.trans b).now,i _ _ _ _ _ (fun u z e H' fp s r n=>z e H' fp (b.trans s) r (n.any.later b)) (fun C z j f=>x C j (o.b0.trans (b.trans f)) z) z⟩) h)
def Es(i:Nat)(b:j4 S)(ha:AR K Γ ta da):SX K ρ Γr Γl R (fun Ex=>jZ (nG (spX K S) [] Ex ta) (eO i)) Γ (i::minus (minus Γ []) [i]) (EB S R i da) :=
 fun {B0 Dn E Ex fps δ c H} x k o h=>yp b ha x o (ha.mono _ _ _ (fun xs z=>b _ _ _ _ _ (fun y z v H' fp s r n=>k.nx (o.Jp (M:=[]) i (fun _ h=>(nomatch h)) s r n) z) (fun _ z=>z) z) h)
def yl{N:List Str}{b:(Addr->Prop)->DS}(c:∀R,SX K true [] [] R t [] Γn (b R))(hd:∀ds P R,S ds P R->b R (qT P) (aJ N ds)) :
  ∀{vs H Q E},spX K S vs H Q E->t E { nx:=fun _ H'=>Q .non H',rt:=Q } (L2.start N vs) H:=by
 rintro vs H Q E ⟨ds,r,tv,h⟩
 obtain ⟨fps,o⟩:=mO (N:=N) r tv
 refine c _ (E:=qT _) (Ex:=E) (fun C H' s z=>z H' s) ⟨fun {fps δ e H'} o z=>?_,fun o (z:False)=>z.elim,fun o (z:False)=>z.elim,fun o r i z=>?_⟩ o (hd ds _ _ h)
 .exact z _ H' [] o.b0 ⟨rfl,rfl⟩ Nw.nil
 .exact z _ _ _ o.b0 r ⟨(i rfl).nd,(i rfl).mu,fun a ha=>.inl ((i rfl).nw a ha)⟩
def noX(S:DSX):DSp:=fun ds P=>S ds P fun _=>False
def EO(b:j4 S):bo (noX S):=fun xs P c k h=>b _ _ _ _ _ k (fun _ z=>z) h
def Fp{Ex:XK}(b:j4 S)(ha:AR K Γ ta da):EM K Γ [] (nG (spX K S) [] Ex ta) (tY (noX S) da) :=
 ⟨fun δ P e k h=>ha.mono _ _ _ (fun y z=>EO b _ _ _ k z) h,fun {B0 fps δ c H Q} o q=>yp (R:=fun _=>False) b ha (fun _ _ _ z=>z.elim) o q⟩
def Ok.gone{B0:Hp}{fps:Nat->List Addr}{δ:Dl}{c:St}{H:Hp}(o:Ok K B0 Γ fps δ c H)(j:Nat)(hj:j∉Γ):Ok K B0 Γ (fun i=>if i=j then [] else fps i) (δ.set j none) (c.set j none) H:=by
 have b:=o.dead j .non hj
 refine⟨by simp [o.len],o.b0,fun i d e=>?_,b.non,b.own,b.dj⟩
 obtain ⟨v,f,g⟩:=b.val i d e
 refine⟨v,?_,g⟩
 by_cases h:i=j
 .subst h
  rw[MU] at e
  by_cases hl:i<δ.length
  .simp [hl] at e
  .simp [hl] at e
 .rw[KE (MI h)] at f ⊢
  exact f
end
end L3
namespace PySem.W
open PySem PySem.Spec PySem.Calls PyProof.Rows
section
variable {prog:Program}{w:World}{A:Around}{E:Value->Shared->Prop}{s:Shared}{K:Frag}{x C:Addr}
def K1{R:Result->Shared->Prop}{f:Value}(hm:mroIn K C (.type "object")=some true)(X:K.In s.heap)(e:Looks (model prog w) s.heap (typeOf (.ref x)) (.ref C))(h:R (.ok (.ret (.ref C))) s) :
  codeAny (model prog w) A (.call (.builtin "getset_descriptor.__get__") ⟨[.builtin "object.__class__",.ref x,f],[]⟩) R s:=by
 obtain ⟨b,g,i,t,os⟩:=s
 have j:(⟨b,g,i,t,os⟩:Shared).TypeIs (.builtin "object.__class__") "getset_descriptor":=F.typeOf_object_class
 have c:Looks (model prog w) b (isSubtype (.ref C) (.type (".".intercalate ("object.__class__".cutAt '.').dropLast))) true:=by
  rw[F.owner_object_class];exact looks_mroIn (M:=model prog w) X hm
 refine codeAny_call_builtin F.slot_gs_get.plain F.entry_gs_get (F.slot_gs_get.check _ _ _ _ _ _ _ _ j (F.args_gs_get _ _ _) ?_)
 repeat (any_goals (first|assumption|with_reducible refine e.at ?_|with_reducible refine c.at ?_|wp_step))
 refine⟨Code.quiet_builtin _ (by decide +kernel),codeAny_builtin F.entry_object_class ?_⟩
 repeat (any_goals (first|assumption|with_reducible refine e.at ?_|with_reducible refine c.at ?_|wp_step))
def EW{c:Tok}{Q:Fin->Shared->Prop}(f:findIn K (.ref C) "__class__" = some (some (.builtin "object.__class__")))(hm:mroIn K C (.type "object")=some true)
  (X:K.In s.heap) (b:Looks (model prog w) s.heap (typeOf (.ref x)) (.ref C)) (h:Q (.done (.ret (.ref C))) s):wpAny (model prog w) A (Builtin.«object.__getattribute__» ⟨[.ref x,.str "__class__" c],[]⟩) Q E s:=by
 obtain ⟨e,g,d,t,os⟩:=s
 have i:=looks_findIn (M:=model prog w) X f
 have n:(⟨e,g,d,t,os⟩:Shared).TypeIs (.builtin "object.__class__") "getset_descriptor":=F.typeOf_object_class
 have m:=F.typeOf_object_class
 have l:=F.slot_gs_get.lookup
 have j:=F.slot_gs_set.lookup
 repeat (any_goals (first|assumption|with_reducible refine b.at ?_|with_reducible refine i.at ?_|wp_step))
 refine K1 hm X b ?_
 repeat (any_goals (first|assumption|wp_step))
def GF{M:Model}{b:Value}{Q:Unit->Shared->Prop}(e:mroIn K C (.type "BaseException")=some true)(X:K.In s.heap)(j:Looks M s.heap (typeOf (.ref x)) (.ref C))(h:Q () s) :
  wpAny M A (checkBuiltinCall "BaseException.__getattribute__" ⟨[.ref x,b],[]⟩) Q E s:=by
 obtain ⟨l,g,d,t,os⟩:=s
 have c:builtinKind "BaseException.__getattribute__" = some .slot:=by decide +kernel
 have f:splitId "BaseException.__getattribute__" = some ("BaseException","__getattribute__"):=by decide +kernel
 have i:=looks_mroIn (M:=M) X e
 have ha:=F.args_bexc_ga (.ref x) b
 simp only[checkBuiltinCall,c,f]
 refine wpAny_bind ?_
 unfold isInstance
 repeat (first|with_reducible refine j.at ?_|with_reducible refine i.at ?_|wp_step)
 exact h
def Fs{Q:Option Value->Shared->Prop}(b:findIn K (.ref C) "__getattribute__" = some (some (.builtin "BaseException.__getattribute__")))(j:findIn K (.ref C) "__getattr__" = some none)
  (i:findIn K (.ref C) "__class__" = some (some (.builtin "object.__class__"))) (hm:mroIn K C (.type "object")=some true) (f:mroIn K C (.type "BaseException")=some true)
  (X:K.In s.heap) (c:Looks (model prog w) s.heap (typeOf (.ref x)) (.ref C)) (h:Q (some (.ref C)) { s with toks:=s.toks+1 }):wpAny (model prog w) A (getAttr? (.ref x) "__class__") Q E s:=by
 obtain ⟨m,g,d,t,os⟩:=s
 have l:=looks_findIn (M:=model prog w) X b
 have L2:=looks_findIn (M:=model prog w) X j
 have n:=F.attr_ValueError.ga.bind (.ref x)
 have e:(Value.builtin "BaseException.__getattribute__" == Value.builtin "object.__getattribute__")=false:=by decide +kernel
 have o:(onTheHeap (Value.ref C) && Value.builtin "BaseException.__getattribute__" == Value.builtin "object.__getattribute__")=false:=by rw[e];rfl
 unfold getAttr? getAttrBy?
 repeat (any_goals (first|assumption|with_reducible refine c.at ?_|with_reducible refine l.at ?_|with_reducible refine L2.at ?_|wp_step))
 refine codeAny_call_builtin F.attr_ValueError.ga.plain F.entry_bexc_ga (GF f X c (EW i hm X c ?_))
 repeat (any_goals (first|assumption|wp_step))
structure yr(K:Frag)(C:Addr):Prop where
 ga:findIn K (.ref C) "__getattribute__" = some (some (.builtin "BaseException.__getattribute__"))
 ge:findIn K (.ref C) "__getattr__" = some none
 cl:findIn K (.ref C) "__class__" = some (some (.builtin "object.__class__"))
 ob:mroIn K C (.type "object")=some true
 be:mroIn K C (.type "BaseException")=some true
 is:(clsIn K C).isSome=true
def ExcAt(x C:Addr)(h:Heap):Prop:=∃o,h.get? x=some o/\o.cls=.ref C
def ExcAt.ty{h:Heap}(M:Model)(p:ExcAt x C h):Looks M h (typeOf (.ref x)) (.ref C):=by
 obtain ⟨o,c,b⟩:=p
 exact b▸(Looks.ld c).andThen .now
def mz(k:yr K C):KitX K (.ref x) (.ref C) (ExcAt x C) where
 ty:=fun M _ _ p=>p.ty M
 it:=fun _ _ X _=>by
  have b:=k.is
  unfold clsIn at b
  split at b
  .rename_i j d' g l f
   intro t o s s' k q
   unfold isType loadHead
   exact wpAny_bind (wpAny_loadPart (k _ _ (X _ _ f)) (wpAny_pure q))
  .cases b
 ne:=fun h i dd r n m X c=>by
  have b:=k.is
  refine Bool.eq_false_iff.mpr fun q=>?_
  have e:C=i:=Value.ref.inj (beq_iff_eq.mp q)
  subst e
  unfold clsIn at b
  split at b
  .rename_i j d' g l f
   have z:=(X _ _ f).symm.trans c
   cases z
  .cases b
 ca:=fun X p q=>Fs k.ga k.ge k.cl k.ob k.be X (p.ty _) q
end
end PySem.W
namespace L2
open PySem PySem.Spec PyProof.Rows
section
variable {X:Cx}{pins:List (Addr × Obj)}{σ:St}{H:Hp}{s:Shared}{a C:Addr}{oe:Obj}
def Inv.excAt(I:Inv (X.held a oe) pins σ H s)(b:oe.cls=.ref C):PySem.W.ExcAt a C s.heap:=⟨oe,(I.pin (a,oe) (Mg _ (Fk ..))).1,b⟩
end
end L2
namespace L2
open PySem PySem.Spec PyProof.Rows
section
variable {X:Cx}{a C:Addr}{oe:Obj}
theorem qe:∀{cs:List Addr}{us:List Value},Vals (cs.map V.ref) us->us=cs.map Value.ref
 |[],us,r=>by cases r;rfl
 |c::cs,us,r=>by
  cases r with
  |cons r b =>
   have e:=qe b
   have e1:_=Value.ref c:=r
   rw[e,e1];rfl
def zq(K : aad)(a C : Addr) : List V -> Hp -> VK -> Prop := fun xs H Q => ∃ b, Q (.bl b) H /\
    ((∃(p:Addr) (cs:List Addr),xs=[.ref a,.ref p]/\H p=some (.tup (cs.map V.ref))/\PySem.W.kitAny K (.ref C) (cs.map Value.ref)=some b)\/∃T,xs=[.ref a,.ty T]/\PySem.W.kitOne K (.ref C) (.type T)=some b)
def yq(i:oe.cls=.ref C)(k:PySem.W.yr X.K C):fR (X.held a oe) (.builtin "isinstance") (zq X.K a C):=by
 intro g s E H xs us Q I r h
 obtain ⟨b,q,⟨p,cs,rfl,x,e⟩|⟨T,rfl,e⟩⟩:=h
 .obtain ⟨u,v,rfl,f,c⟩:=vals2 r
  obtain rfl:u=Value.ref a:=f
  obtain rfl:v=Value.ref p:=c
  obtain ⟨_,L,c,y⟩:=(show bX X.prog X.w H s.heap p (.tup (cs.map V.ref)) from I.hok p _ x)
  obtain rfl:=qe c
  obtain ⟨o,B,l,n,j⟩:=y
  obtain ⟨G,F,J,t⟩:=o
  dsimp only at l j
  subst l j
  exact PySem.W.kia_tup (PySem.W.mz k) I.kIn (I.excAt i) B e (fun z=>nomatch z) fun m=>⟨.bl b,H,I.tok _,rfl,q⟩
 .obtain ⟨u,v,rfl,f,c⟩:=vals2 r
  obtain rfl:u=Value.ref a:=f
  obtain rfl:v=Value.type T:=c
  exact M2 (PySem.W.mz k) I.kIn (I.excAt i) e (fun z=>nomatch z) fun m=>⟨.bl b,H,I.tok _,rfl,q⟩
end
section
variable {P:Program}{w:World}{K:aad}{mg:Str->Option Value}{base:Heap}
def Fun.okX{x qual:Str}{st:Stmt}{f:Addr}{c:FuncData}{N ps:List Str}{k:Nat}{sp:Sp}(F:Fun K x qual st f c)(S:aF N ps (aw st))(len:∀vs H Q E,sp vs H Q E->vs.length=ps.length)
  (j:∀(b:Value) (A:Around) (outer:List Env) (s:Shared) (H:Hp) (vs:List V) (Q:VK) (E:XK),eP k (A.deeper (envOfC qual (aw st) s.heap.objs.size f b))->sp vs H Q E ->
   ∃t,PSs (nj (CXR P w) P w K mg base N qual (aw st) f b A outer s H E) (c0 st) t/\t { nx:=fun _ H'=>Q .non H',rt:=Q } (start N vs) H):br P w K mg base (CXR P w) (k+1) f c ps sp:=by
 obtain ⟨o,n,kV,h,m,p,b,ct,e,rfl,lk,l⟩:=F.ex
 exact GJ lk l S len fun A outer s H vs Q E g i=>j b A outer s H vs Q E g i
end
def bQ.of_lookup{K:aad}{h:Heap}{C:Addr}{ups:List Addr}{c:List Value}{dd:Option Addr}{nm b:Str}{bs:List Value}{ns:Addr}{hd:Bool}{sn:List Str}{sub:List Value}{ab:Bool}{col:Option Bool}{k0 k1 k2 k3 k5:Option Value}(X:K.In h)
  (u:K.lookup C=some ⟨.type "type",dd,.cls ⟨nm,bs,c,ns,b,hd,sn,sub,ab,col,false⟩,#[k0,k1,k2,k3,some (.builtin "ValueError.__new__"),k5]⟩) (hm:c=.ref C::(ups.map Value.ref++VB)) (v:PySem.W.excIn K C VB "ValueError.__new__" = true):bQ h C ups:=by
 subst hm
 unfold PySem.W.excIn at v
 rw[u] at v
 simp only[Ng,beq_iff_eq,Bool.not_eq_true'] at v
 obtain ⟨⟨⟨_,ht⟩,hok⟩,e⟩:=v
 exact⟨ns,nm,b,bs,hd,sn,sub,ab,col,dd,k0,k1,k2,k3,k5,_,X _ _ u,.of_isNs (PySem.W.isNs_of_in X hok),PySem.W.nsMap_none_of_in X hok e,PySem.W.tail_of_in X ht⟩
def Jq{X:Cx}{P:Program}{w:World}:Passes (CXR P w) X E0:=fun _ _ _ _ _ _ _ h=>by
 obtain ⟨_,_,_,_,_,_,_,_,_,q⟩:=h
 exact q.elim
end L2
namespace L3
open PySem L2
def STi(K:aad)(i:Nat)(t:Addr->TS)(c:aac)(d:DS):Prop :=
 ∀⦃a:Addr⦄ ⦃B0:Hp⦄ ⦃Dn:Ends⦄ ⦃E:bc⦄ ⦃fps:Nat->List Addr⦄ ⦃δ:Dl⦄ ⦃b:St⦄ ⦃H:Hp⦄,(∀{fps δ b H},Ok K B0 c fps δ b H->b[i]?=some (some (.ref a))->E.nx δ->Dn.nx b H) ->
  Ok K B0 c fps δ b H->b[i]?=some (some (.ref a))->d E δ->t a Dn b H
section
variable {K:aad}{Γ:aac}{i:Nat}{d e:DS}{C:Addr}
def Hb(j:Nat)(n:Int)(E:bc)(δ:Dl):Prop:=E.nx (δ.set j (some (.int n)))
def yR(j:Nat){c:Addr->TE}{n:Int}(e:∀a b H (Q:VK),b[i]?=some (some (.ref a))->(∀H',Same H H'->Q (.int n) H')->c a b H Q)(hj:j∉Γ:=by decide)(f:j≠i:=by decide) :
  STi K i (fun a=>jZ (c a) (eO j)) Γ (Hb j n) :=
 fun {a B0 Dn E fps δ b H} k o hi h=>e a b H _ hi fun H' s=>k ((o.yS j s (Rf.oB (d:=.int n) rfl) (fun _ _ _ z=>(nomatch z))).sub fun l hl=>bz.mpr ⟨hl,fun q=>hj (by rw[<- Gc.mp q];exact hl)⟩)
  (by rw[KE f];exact hi) h
def Cy{Q:VK}{b:Bool}{a:Addr}{cs:List Addr}{v:TA}{c:St}{H:Hp}(f:∀c H (Q:List V->Hp->Prop),Q (cs.map V.ref) H->v c H Q)(hl:cs.length<=1000)(e:PySem.W.kitAny K (.ref C) (cs.map Value.ref)=some b)
  (hi:c[i]?=some (some (.ref a))) (q:∀H',Same H H'->Q (.bl b) H'):tCB (zq K a C) (bG (b7 i) (bG (Gu v) iu)) c H Q :=
 ⟨_,hi,f _ _ _ ⟨by rw[mo];exact NN (m3 hl),fun p g=>⟨b,q _ (Same.kR g),.inl ⟨p,cs,rfl,az,e⟩⟩⟩⟩
def BS{Q:VK}{b:Bool}{a:Addr}{T:String}{c:St}{H:Hp}(e:PySem.W.kitOne K (.ref C) (.type T)=some b)
  (hi:c[i]?=some (some (.ref a))) (q:Q (.bl b) H):tCB (zq K a C) (bG (b7 i) (bG (tC (.ty T)) iu)) c H Q:=⟨_,hi,b,q,.inr ⟨T,rfl,e⟩⟩
end
def xy{K:aad}{S:DSX}{n:Nat}(b:∀ds P R,S ds P R->ds.length=n){vs:List V}{H:Hp}{Q:VK}{E:XK}(h:spX K S vs H Q E):vs.length=n:=by
 obtain ⟨ds,⟨fp,r⟩,_,h⟩:=h
 rw[r.length];exact b _ _ _ h
end L3
namespace L2
open PySem
theorem PA.nox{X:Cx}{es:List Expr}{t:TA}(h:PA X.nox es t):PA X es t:=fun e b s c H Q I hw =>
 wpAny_mono (h e b s c H Q (I.oh _) hw) (fun _ _ ⟨v,H',f,r,q⟩=>⟨v,H',f.gA,r,q⟩) fun _ _ z=>False.elim z
theorem PS.nox{X:Cx}{st:Stmt}{t:TS}(h:PS X.nox st t):PS X st t:=fun b s c H D I hw =>
 wpAny_mono (h b s c H D (I.oh _) hw) (fun _ _ q=>q.gA) fun _ _ z=>False.elim z
end L2
namespace L2
open PySem PySem.Spec PyProof.Rows
section
end
end L2
namespace L3
open PySem L2
section
end
end L3
namespace L2
open PySem PySem.Spec PyProof.Rows
def XAt(outer:List Env)(s:Shared)(H:Hp)(a C:Addr):Prop:=∃b,s.heap.get? a=some b/\b.cls=.ref C/\H a=none/\a∉frs outer
def Bu(A:Around):Around:={ A with handled:=none }
def cxE(P:Program)(w:World)(K:aad)(mg:Str->Option Value)(base:Heap)(N:List Str)(qual:Str)(c:Scope)(f:Addr)(b:Value)(A:Around)(outer:List Env)(s:Shared)(H:Hp):Cx :=
 { nj CX0 P w K mg base N qual c f b A outer s H (fun _ _ _=>False) with calm:=false,xe:=fun _ _=>False }
structure FnE(P:Program)(w:World)(K:aad)(mg:Str->Option Value)(base:Heap)(k:Nat)(f:Addr)(fd:FuncData)(ps:List Str)(C:Addr)(sp:Addr->Sp):Prop where
 len:∀a vs H Q E,sp a vs H Q E->vs.length=ps.length
 run:∀(a:Addr) (A:Around) (outer:List Env) (s:Shared) (H:Hp) (args:Args) (us:List Value) (vs:List V) (Q:VK) (E:XK),eP k (Bu A)->ya P w K mg base A outer s H->XAt outer s H a C->BindsTo s fd args (ps.zip us)->Vals vs us->sp a vs H Q E ->
  codeAny (model P w) A (.call (.ref f) args) (CR CX0 outer P w H s Q E) s
section
variable {P:Program}{w:World}{K:aad}{mg:Str->Option Value}{base:Heap}
section
variable {N:List Str}{qual:Str}{sc:Scope}{f:Addr}{cdv:Value}{A:Around}{outer:List Env}{s s':Shared}{H H':Hp}{E:XK}{σ':St}{Q:VK}{v:V}{u:Value}
def Jc(J:Inv (cxE P w K mg base N qual sc f cdv A outer s H) [] σ' H' s')(b:RelV v u)(q:Q v H'):CE outer P w H s Q u s':=⟨v,H',J.os,J.bare,J.base,J.hok,b,q⟩
def LP(J:Inv (nj CX0 P w K mg base N qual sc f cdv (Bu A) outer s H E) [] σ' H' s'):Inv (cxE P w K mg base N qual sc f cdv A outer s H) [] σ' H' s' :=
 ⟨⟨J.ok.mod,J.ok.kind,J.ok.glob,J.ok.blt,J.ok.above,J.ok.inj,J.ok.has,J.ok.cab,(fun z=>nomatch z),J.ok.frames,J.ok.stk,J.ok.exf,J.ok.bs,J.ok.bsz,J.ok.noex,J.ok.exfs,J.ok.nk,J.ok.frf⟩,J.os,J.bare,J.base,J.loc,J.cell,J.free,J.freeC,J.pin,J.hok,J.len⟩
end
def Fun.okE{x qual:Str}{st:Stmt}{f:Addr}{h:FuncData}{N ps:List Str}{k:Nat}{C:Addr}{sp:Addr->Sp}(F:Fun K x qual st f h)(S:aF N ps (aw st))(len:∀a vs H Q E,sp a vs H Q E->vs.length=ps.length)
  (O:∀(a:Addr) (e:Value) (A:Around) (outer:List Env) (s:Shared) (H:Hp) (vs:List V) (Q:VK) (E:XK),XAt outer s H a C->sp a vs H Q E ->
   ∃t,PSs (cxE P w K mg base N qual (aw st) f e A outer s H) (c0 st) t/\t { nx:=fun _ H'=>Q .non H',rt:=Q } (start N vs) H):FnE P w K mg base (k+1) f h ps C sp:=by
 refine⟨len,fun a A outer s H args us vs Q E g c B hb r i=>?_⟩
 obtain ⟨X,U,kV,M,T,Y,e,ct,n,rfl,lk,R⟩:=F.ex
 have kp:∀b o,base.get? b=some o->s.heap.get? b=some o:=fun b o z=>(c.bs b o z).1
 have kin:=c.mod.kin.keeps kp
 obtain ⟨t,ht,G⟩:=O a e A outer s H vs Q E B i
 have e1:ya P w K mg base (Bu A) outer s H:=⟨c.frames,c.mod,c.bs,c.bsz,c.nk,c.frf,c.hok,c.bare⟩
 refine codeAny_call_function g.depth (kin _ _ lk) rfl S.co S.gen rfl (PySem.W.codeRec_of kin R) (hb _ _ _ _ (wpAny_newFunctionEnv_cells S.kind (fun y p=>?_) fun env I l j=>?_))
 .exact (S.par y.1 (List.of_mem_zip (show (y.1,y.2)∈_ from p)).1).imp id fun q=>⟨q,PySem.W.cellsFrom_some _ _ _ (.inl q)⟩
 .cases I
  refine⟨(c.mod.nolimit.keeps kp).keeps j.toInCall.keep,codeAny_func (wpAny_mono (ht [] l _ H _ (LP (vO (E:=E) S g.hd e1 (len _ _ _ _ _ i) r j)) G) (fun L s' z=>?_) fun _ _ z=>z.elim)⟩
  match L,z with
  |.ret u,⟨v,σ',H',J,m,q⟩=>exact Jc J m q
  |.next,⟨σ',H',J,q⟩=>exact Jc (v:=V.non) J rfl q
  |.brk,⟨_,_,_,q⟩=>exact q.elim
  |.cont,⟨_,_,_,q⟩=>exact q.elim
end
section
variable {X:Cx}{a C:Addr}
def pV(B:XAt X.outer X.s₀ X.H₀ a C)(hex:X.ex=[])(k:PySem.W.yr X.K C):fR X (.builtin "isinstance") (zq X.K a C):=by
 intro l s J H xs us Q I r h
 have t:PySem.W.ExcAt a C s.heap:=by
  obtain ⟨m,j,g,f,G⟩:=B
  exact⟨m,I.base.keep a m j f G (by rw[hex];exact Mr),g⟩
 obtain ⟨b,q,⟨p,cs,rfl,E,e⟩|⟨T,rfl,e⟩⟩:=h
 .obtain ⟨u,v,rfl,i,c⟩:=vals2 r
  obtain rfl:u=Value.ref a:=i
  obtain rfl:v=Value.ref p:=c
  obtain ⟨_,P,c,F⟩:=(show bX X.prog X.w H s.heap p (.tup (cs.map V.ref)) from I.hok p _ E)
  obtain rfl:=qe c
  obtain ⟨o,j,g,n,f⟩:=F
  obtain ⟨M,L,O,y⟩:=o
  dsimp only at g f
  subst g f
  exact PySem.W.kia_tup (PySem.W.mz k) I.kIn t j e (fun z=>nomatch z) fun x=>⟨.bl b,H,I.tok _,rfl,q⟩
 .obtain ⟨u,v,rfl,i,c⟩:=vals2 r
  obtain rfl:u=Value.ref a:=i
  obtain rfl:v=Value.type T:=c
  exact M2 (PySem.W.mz k) I.kIn t e (fun z=>nomatch z) fun x=>⟨.bl b,H,I.tok _,rfl,q⟩
end
section
variable {X:Cx}{k:Nat}{f a C:Addr}{oe:Obj}{fd:FuncData}{ps:List Str}{sp:Addr->Sp}{E:XK}{x:Str}{p MK:Pos}{e:Expr}{es:List Expr}{t:TA}
def Inv.xAt{b:List (Addr × Obj)}{c:St}{H:Hp}{s:Shared}(I:Inv (X.held a oe) b c H s)(e:oe.cls=.ref C):XAt (X.held a oe).stack s H a C:=by
 obtain ⟨i,h,g,f,_⟩:=I.pin (a,oe) (Mg _ (Fk ..))
 refine⟨oe,i,e,h,fun z=>?_⟩
 rcases Mb.mp (I.qk a z) with q|q
 .exact g q
 .exact f q
theorem yW(F:FnE X.prog X.w X.K X.mg X.base k f fd ps C sp)(y:oe.cls=.ref C)(i:eP k X.A)(o:Gl (X.held a oe) x)(hm:X.mg x=some (.ref f))(n:PySem.W.keepIn X.K (.ref f)=true)(hb:Binds X.K fd ps [])
  (ha:PA (X.held a oe) (e::es) t) (B:(x == ("__debug__" : Str))=false:=by decide) (v:starEach (e::es) (X.held a oe).env=(false,eval e (X.held a oe).env)::starEach es (X.held a oe).env:=by rfl) (G:(backTo MK (starEach es (X.held a oe).env)).any (·.1)=false:=by rfl) :
  PE (X.held a oe) (.Call (.Name x p) (e::es) [] MK) (nG (sp a) [] E t):=by
 intro b s m H Q I h
 refine wpAny_Call_Name_kw (fh I o hm ?_ B)
 refine NM (h₀:=X.base) I.ok.mod.kin n (thn (ha MK b s m H _ I h) fun us g ⟨vs,l,c,r,q⟩=>⟨c.kIn,?_⟩) v G
 have q:sp a (vs++[]) l Q E:=q
 rw[ML] at q
 have hl:(us++[]).length=ps.length:=by rw[ML,<- r.length];exact F.len _ _ _ _ _ q
 have j:=hb g us c.kIn hl
 rw[ML] at j
 refine wpAny_call (codeAny_mono (F.run a _ _ g l ⟨us,[]⟩ us vs Q E ⟨rfl,i.dp,i.un⟩ c.xF (c.xAt y) j r q) fun res s' z=>?_)
 match res,z with
 |.error _,z=>exact False.elim z
 |.ok (.ret u),z=>exact c.after z
end
end L2
namespace L3
open PySem L2
def spE(b:Bool)(a:Addr):Sp:=fun vs H Q _=>vs=[.ref a]/\∀H',Same H H'->Q (.bl b) H'
def BU{b:Bool}{a:Addr}{vs:List V}{H:Hp}{Q:VK}{E:XK}(h:spE b a vs H Q E):vs.length=1:=by rw[h.1];rfl
section
end
end L3
namespace L2
open PySem PySem.Spec PySem.Calls PyProof.Rows
abbrev km(n:Nat):aab:=(List.range n).map fun (k:Nat)=>(k:Int)
theorem BO:∀{vs:List Value}{ns:aab},vs.length=ns.length->(∀(j:Nat) v,vs[j]?=some v->∃z t,ns[j]?=some z/\v=.int z t)->IntsAre vs ns
 |[],[],_,_=>.nil
 |v::vs,n::ns,hl,h=>by
  obtain ⟨z,t,e1,rfl⟩:=h 0 v rfl
  cases e1
  exact .cons _ _ (BO (by simpa using hl) fun j v b=>h (j+1) v (by rw[List.getElem?_cons_succ];exact b))
 |[],_::_,hl,_=>by simp at hl
 |_::_,[],hl,_=>by simp at hl
section
variable {prog:Program}{w:World}{A:Around}{E:Value->Shared->Prop}{s:Shared}
def zR{R:List Value->Shared->Prop}{r:Addr}{n:Nat}{t u v:Tok}(H:A.handled=none)(G:IsRange s.heap r 0 (n:Int) 1 t u v)(O:n<=2 ^ 24)
  (h:∀(h':Heap) (c:Nat) (vs:List Value),(∀b o,s.heap.get? b=some o->h'.get? b=some o)->s.heap.objs.size<h'.objs.size->IntsAre vs (km n)->R vs { s with heap:=h',toks:=c }) :
  wpAny (model prog w) A (collect (.ref r)) R E s:=by
 have hsz:Builtin.Range.rangeSize 0 (n:Int) 1=n:=by unfold Builtin.Range.rangeSize;rw[if_pos (by decide)];split<;>omega
 have C:Builtin.Range.small 0 (n:Int) 1=true:=small_one (by decide) (by decide) (by omega) (by omega)
 have items:∀{acc:Array Value},ItemsOf (fun i v=>∃t,v=.int (0+i*1) t) acc n->IntsAre acc.toList (km n):=fun {acc} g=>by
  refine BO (by rw[MZ,g.1,mo,Mi]) fun j v F=>?_
  have hj:j<n:=by rw[<- g.1,<- MZ];exact (Ma.mp F).1
  obtain ⟨t,rfl⟩:=g.2 j v (by simpa using F)
  exact⟨j,t,by rw[Mc,MS hj];rfl,by simp⟩
 unfold collect
 refine wpAny_bind (wpAny_runValue (codeAny_builtin entry_proto_collect' ?_))
 rw[Around.under_plainId PySem.F.plain_proto_collect _]
 show wpAny _ A.in1 (newList [] >>= fun l=>again (.builtin "list.__iadd__" ⟨[l,.ref r],[]⟩)) _ _ s
 refine wpAny_bind (wpAny_newObj_type ?_)
 refine wpAny_pure ⟨plainId_quiet PySem.F.plain_list_iadd _,codeAny_builtin entry_list_iadd' ?_⟩
 rw[Around.under_plainId PySem.F.plain_list_iadd _]
 have L:(s.heap.push { cls:=.type "list",data:=.seq ([]:List Value).toArray }).get? s.heap.objs.size=some { cls:=.type "list",data:=.seq #[] }:=Heap.get?_push_size _ rfl
 show wpAny _ A.in1 (Builtin.List.listExtendWith (.ref s.heap.objs.size) (.ref r) (.ref s.heap.objs.size)) _ _ _
 have key:=wpAny_extend_range (A:=A) (prog:=prog) (w:=w) (s:={ s with heap:=s.heap.push { cls:=.type "list",data:=.seq ([]:List Value).toArray } })
  (R:=fun (q:Result) (s':Shared)=>∃(h':Heap) (c:Nat) (m:Array Value) (B:Nat),q=.ok (.ret (.ref s.heap.objs.size))/\s'={ s with heap:=h',toks:=c } /\
   (∀b o,s.heap.get? b=some o->h'.get? b=some o)/\h'.get? s.heap.objs.size=some { cls:=.type "list",dict:=none,data:=.seq m B,slots:=#[] }/\IntsAre m.toList (km n))
  H (Heap.get?_push_of_some _ G) C hsz O s.heap.objs.size (.ref s.heap.objs.size) 0 L
  (fun h' c m B z p g=>⟨h',c,m,B,rfl,rfl,fun b o e=>z b o (MA (Heap.lt_size e)) (Heap.get?_push_of_some _ e),p,items g⟩)
 refine wpAny_mono key (fun M s' x=>?_) fun e s' x=>?_
 .cases M with
  |done f =>
   obtain ⟨h',c,m,B,e,rfl,z,p,g⟩:=x
   cases e
   show wpAny _ A (load s.heap.objs.size >>= _) _ _ _
   refine wpAny_bind (wpAny_load p ?_)
   exact wpAny_pure (h h' c m.toList z (Heap.lt_size p) g)
  |again J =>
   refine⟨x.1,codeAny_mono x.2 fun q P y=>?_⟩
   obtain ⟨h',c,m,B,rfl,rfl,z,p,g⟩:=y
   show wpAny _ A (load s.heap.objs.size >>= _) _ _ _
   refine wpAny_bind (wpAny_load p ?_)
   exact wpAny_pure (h h' c m.toList z (Heap.lt_size p) g)
 .obtain ⟨_,_,_,_,I,_⟩:=x
  cases I
def Au(h:Heap)(L:Addr):List (Addr × Obj):=(List.range h.objs.size).filterMap fun a=>if a=L then none else (h.get? a).map fun o=>(a,o)
def oA{h:Heap}{L a:Addr}{o:Obj}:(a,o)∈Au h L↔a≠L/\h.get? a=some o:=by
 unfold Au
 rw[Nr]
 constructor
 .rintro ⟨b,_,e⟩
  by_cases hb:b=L
  .rw[if_pos hb] at e;cases e
  .rw[if_neg hb] at e
   cases q:h.get? b with
   |none=>rw[q] at e;cases e
   |some g=>rw[q] at e;cases e;exact⟨hb,q⟩
 .rintro ⟨f,c⟩
  exact⟨a,Mq.mpr (Heap.lt_size c),by rw[if_neg f,c];rfl⟩
def intOf:Value->Int
 |.int z _=>z
 |_=>0
theorem yn:∀{vs:List Value}{ns:aab},IntsAre vs ns->∀(j:Nat) v,vs[j]?=some v->∃z t,ns[j]?=some z/\v=.int z t
 |_,_,.nil,j,v,h=>by simp at h
 |_,_,.cons n t b,0,v,h=>by cases h;exact⟨n,t,rfl,rfl⟩
 |_,_,.cons n t b,j+1,v,h=>by
  rw[List.getElem?_cons_succ] at h ⊢
  exact yn b j v h
theorem intsAre_map:∀{vs:List Value},(∀v∈vs,∃t,v=.int (intOf v) t)->IntsAre vs (vs.map intOf)
 |[],_=>.nil
 |v::vs,h=>by
  obtain ⟨t,e⟩:=h v Fk
  rw[Ml,e]
  exact .cons _ _ (intsAre_map fun x b=>h x (ox _ b))
theorem Ae:∀{vs:List Value}{ns:aab},IntsAre vs ns->vs.map intOf=ns
 |_,_,.nil=>rfl
 |_,_,.cons n t b=>by rw[Ml,Ae b];rfl
def Bl{Q:Value->Shared->Prop}{r f L:Addr}{n:Nat}{t u v:Tok}{m:Str->Option Value}{key:Nat->Int}(hh:A.handled=none)(hr:IsRange s.heap r 0 (n:Int) 1 t u v)(SQ:n<64)(T:s.heap.Ns L m)
  (turn:∀(j:Nat) (x:Tok) (h:Heap) (q:Nat),j<n->(∀b o,b≠L->s.heap.get? b=some o->h.get? b=some o)->h.Ns L m ->
   wpAny (model prog w) A.in1.in1 (call (.ref f) [.int (j:Int) x]) (fun v R=>∃h' P t',R={ s with heap:=h',toks:=P }/\v=.int (key j) t'/\(∀b o,b≠L->h.get? b=some o->h'.get? b=some o)/\h'.Ns L m) (fun _ _=>False) { s with heap:=h,toks:=q })
  (hQ:∀(h':Heap) (q:Nat) (D:Addr) (out:Array Value) (c:Nat) (H:aab),(∀b o,b≠L->s.heap.get? b=some o->h'.get? b=some o)->h'.Ns L m->h'.get? D=some (seqObj "list" out c)->s.heap.objs.size<=D ->
   IntsAre out.toList H->H.Perm (km n)->H.Pairwise (fun a b=>key a.toNat<=key b.toNat)->Q (.ref D) { s with heap:=h',toks:=q }) :
  wpAny (model prog w) A (call (.builtin "sorted") [.ref r] [(Str.ofString "key",.ref f)]) Q E s:=by
 refine call_function_entry_kw kind_sorted plain_sorted entry_sorted (ksk_s1 _ _) ?_
 unfold Builtin.«sorted»
 refine wpAny_bind (m:=checkCount "sorted" 1 1 _) (wpAny_pure ?_)
 refine wpAny_bind (zR (A:=A.in1) hh hr (by omega) fun g Y vs k1 Xa C=>?_)
 have B:vs.length=n:=by rw[C.length,mo,Mi]
 refine wpAny_bind (wpAny_newList ?_ (by rw[sizeLine_eq];omega))
 have Z:(g.push (seqObj "list" vs.toArray 0)).get? g.objs.size=some (seqObj "list" vs.toArray 0):=Heap.get?_push_size _ rfl
 have k2:∀b o,s.heap.get? b=some o->(g.push (seqObj "list" vs.toArray 0)).get? b=some o:=fun b o e=>Heap.get?_push_of_some _ (k1 b o e)
 have G:s.heap.objs.size<=g.objs.size:=NN Xa
 show wpAny _ _ _ _ _ { s with heap:=g.push (seqObj "list" vs.toArray 0),toks:=Y }
 refine wpAny_bind (wpAny_holding (wpAny_call_entry_kw slot_list_sort ⟨_,Z,rfl⟩ entry_list_sort ?PV (ksk_l1 _ _)))
 show wpAny (model prog w) A.in1.in1 (Builtin.«list.sort» ⟨[.ref g.objs.size],[(Str.ofString "key",.ref f)]⟩) _ _ _
 rw[ksk_t1]
 have M:(g.push (seqObj "list" vs.toArray 0)).Ns L m:=by
  obtain ⟨o,es,ep,e1,e2⟩:=T
  exact⟨o,es,ep,k2 L o e1,e2⟩
 have Xy:L<s.heap.objs.size:=T.lt
 have Xx:g.objs.size≠L:=Nat.ne_of_gt (Mo Xy G)
 refine ksk_sort (kz:=(List.range n).map key) (h₀:=⟨#[],{}⟩) (L:=L) (m:=m) (news:=(Au (g.push (seqObj "list" vs.toArray 0)) L).filter fun p=>decide (p.1≠g.objs.size)) (s:={ s with heap:=g.push (seqObj "list" vs.toArray 0),toks:=Y })
  ⟨M,fun b o e=>by simp [Heap.get?] at e,NL _⟩ (fun p l=>?_) Z Xx (by simp [Heap.get?]) (fun p l=>of_decide_eq_true (M7.mp l).2) (by rw[mo,Mi,B]) (by omega) ?_ ?_
 .obtain ⟨q1,q2⟩:=oA.mp (M7.mp l).1
  exact⟨q2,q1,by simp [Heap.get?]⟩
 .intro i v k y S h q own F N
  obtain ⟨z,x,e1,rfl⟩:=yn C i v y
  have hi:i<n:=by rw[<- B];exact (Ma.mp y).1
  rw[Mc,MS hi] at e1 S
  cases e1
  cases S
  have kh:∀b o,b≠L->s.heap.get? b=some o->h.get? b=some o:=fun b o hb e =>
   (N (b,o) (Mg _ (M7.mpr ⟨oA.mpr ⟨hb,k2 b o e⟩,decide_eq_true (MA (Mo (Heap.lt_size e) G))⟩))).1
  refine wpAny_mono (turn i x h q hi kh F.ns) (fun v R ⟨h',P,t',e1,e2,kk,nn⟩=>?_) fun _ _ z=>z
  exact⟨h',P,t',e1,e2,⟨nn,fun b o e=>by simp [Heap.get?] at e,NL _⟩,fun p l=>⟨kk _ _ (N p l).2.1 (N p l).1,(N p l).2⟩⟩
 .intro h' q out c F N ⟨ps,l,ho,hs⟩
  refine⟨_,rfl,wpAny_pure ⟨_,rfl,?_⟩⟩
  have I:∀p∈ps,(∃t,p.2=.int (intOf p.2) t)/\p.1=key (intOf p.2).toNat:=fun p O=>by
   obtain ⟨j,hj⟩:=List.mem_iff_getElem?.mp (l.mem_iff.mp O)
   obtain ⟨X,U⟩:=List.getElem?_zip_eq_some.mp hj
   obtain ⟨z,x,e1,e2⟩:=yn C j _ U
   have J:j<n:=by rw[<- B];exact (Ma.mp U).1
   rw[Mc,MS J] at e1 X
   cases e1
   refine⟨⟨x,by rw[e2];rfl⟩,?_⟩
   rw[e2]
   show p.1=key (j:Int).toNat
   rw[Md]
   exact (MH X).symm
  refine hQ h' q g.objs.size out c (ps.map fun p=>intOf p.2) (fun b o hb e=>?_) F.ns (N _ Fk).1 G ?_ ?_ ?_
  .exact (N (b,o) (ox _ (M7.mpr ⟨oA.mpr ⟨hb,k2 b o e⟩,decide_eq_true (MA (Mo (Heap.lt_size e) G))⟩))).1
  .rw[ho,show (ps.map fun p=>intOf p.2)=(ps.map Prod.snd).map intOf by rw[MB];rfl]
   refine intsAre_map fun v y=>?_
   obtain ⟨p,O,rfl⟩:=Mh.mp y
   exact (I p O).1
  .refine (l.map fun p=>intOf p.2).trans ?_
   rw[show (((List.range n).map key).zip vs).map (fun p=>intOf p.2)=(((List.range n).map key).zip vs |>.map Prod.snd).map intOf by rw[MB];rfl,List.map_snd_zip (by rw[mo,Mi,B];exact Mm _),Ae C]
  .rw[List.pairwise_map]
   refine hs.imp_of_mem fun {a b} ha hb h=>?_
   rw[<- (I a ha).2,<- (I b hb).2]
   exact h
end
end L2
namespace L2
open PySem PySem.Spec PySem.Calls PyProof.Rows
abbrev rQ(x y:Str)(f e c b:Pos):Expr:=.UnaryOp .USub (.Subscript (.Name x f) (.Name y e) c) b
section
variable {prog:Program}{w:World}{A:Around}{E:Value->Shared->Prop}{s:Shared}
def Fd{Q:Value->Shared->Prop}{f l cr a:Addr}{q x y:Str}{I:Arguments}{scope:Scope}{C B u t:Pos}{r H:Value}{g tz:Tok}{j:Nat}{z:Int}{items:Array Value}
  (O:s.heap.get? f=some (PySem.W.kla_obj "<lambda>" q I (rQ x y C B u t) scope [(x,cr)] r l H)) (PM:s.heap.CodeRec (.ref l) q) (Z:A.depth<recursionLimit) (h:s.heap.NoLimit)
  (QR:s.heap.IsCell cr (some (.ref a))) (hl:s.heap.IsList a items) (L:items[j]?=some (.int z tz)) (hj:j<2 ^ 62)
  (hb:∀v:Value,bindArgs (PySem.W.kla_fn "<lambda>" q I (rQ x y C B u t) scope [(x,cr)] r (.ref l) H) ⟨[v],[]⟩=pure [(y,v)])
  (F:scope.names.lookup y=some .local) (T:scope.names.lookup x=some .free) (U:∀n∈scope.names,n.2≠.cell) (i:scope.kind=.function) (R:scope.isCoroutine=false) (Y:scope.isGenerator=false)
  (RW:(x == ("__debug__" : Str))=false) (X:(y == ("__debug__" : Str))=false) (S:(x == ("__classdict__" : Str))=false)
  (P:∀(h':Heap) (J:Nat) (t':Tok),(∀b o,s.heap.get? b=some o->h'.get? b=some o)->Q (.int (-z) t') { s with heap:=h',toks:=J }) :
  wpAny (model prog w) A (call (.ref f) [.int (j:Int) g]) Q E s:=by
 refine wpAny_call (PySem.W.kla_callFunE Z O rfl R Y rfl PM ?_)
 rw[hb]
 refine wpAny_pure (wpAny_newFunctionEnv U (fun p M=>?_) (fun QG QH G=>⟨h.fresh _ G,?_⟩) i)
 .rw[Gc.mp M];exact F
 have m:∀b o,s.heap.get? b=some o->QG.get? b=some o:=fun b o e=>G.extBut b o (MA (Heap.lt_size e)) (Heap.get?_push_of_some _ e)
 refine PySem.W.kla_codeExpr ?_
 refine UnaryOp_ (Subscript_ ?_)
 refine wpAny_Name (wpAny_loadName_free (c:=cr) (v:=.ref a) i T ?_ (let ⟨o,e,d⟩:=QR;⟨o,m _ o e,d⟩) ?_ S) RW
 .show List.lookup x [(x,cr)]=some cr
  rw[List.lookup_cons_self]
 refine wpAny_Name (wpAny_loadName_local (v:=.int (j:Int) g) i F QH ?_ ?_) X
 .show List.lookup y [(y,Value.int (j:Int) g)]=_
  rw[List.lookup_cons_self]
 refine item_listR (hl.at fun o e=>m _ o e) (by omega) (by omega) (by rw[Md];exact L) ?_
 exact neg_int (P _ _ _ m)
end
end L2
namespace L3
open PySem L2 PySem.Calls PyProof.Rows
def LG(e:TE):TE:=fun c H Q=>e c H fun x b=>∃n:Nat,x=.int (n:Int)/\∀r,b r=none->Q (.ref r) (upd b r (.rng 0 n))
section
variable {X:Cx}
def Kd{e:Expr}{f:TE}{p y:Pos}(r:Gl X "range")(hm:X.mg "range" = none)(u:PE X e f)(i:starEach [e] X.env=[(false,eval e X.env)]:=by rfl) :
  PE X (.Call (.Name "range" p) [e] [] y) (LG f):=by
 intro c s l H Q I h
 refine wpAny_Call_Name_kw (jz I r hm boot_range ?_)
 refine Na ?_ i rfl
 rw[i]
 refine Calls.spliced_cons (thn (u c s l H _ I h) fun v g ⟨x,z,j,m,n,ex,q⟩=>?_)
 subst ex
 obtain ⟨t,rfl⟩:=m
 refine Calls.spliced_nil (call_range_1 ?_)
 have hn:z g.heap.objs.size=none:=j.hok.fresh (Mm _)
 exact⟨.ref g.heap.objs.size,_,j.laid (o:=.rng 0 (n:Int)) (fun b o e=>Heap.get?_push_of_some _ e) (Mm _) ⟨_,_,_,Heap.get?_push_size _ rfl⟩,rfl,q _ hn⟩
end
theorem pI{a b:Int}{t u:Tok}{c:Value}:∀{l:List Value},TriplesOk l->TriplesOk (l++[.int a t,.int b u,c])
 |[],_=>trivial
 |.int _ _::.int _ _::_::e,h=>pI (l:=e) h
theorem uy{g:Pos}{a b:Int}{t u:Tok}{c f:Value}:∀{l:List Value},TriplesOk l->codeAmong g (l++[.int a t,.int b u,c])=some f->codeAmong g l=some f\/f=c
 |[],_,h=>by
  simp only[List.nil_append,codeAmong] at h
  split at h
  .exact .inr (MH h).symm
  .cases h
 |.int l1 t1::.int c1 j::x::i,ht,h=>by
  simp only[List.cons_append,codeAmong] at h ⊢
  split at h
  .rename_i e
   rw[if_pos e];exact .inl h
  .rename_i e
   rw[if_neg e]
   exact uy (l:=i) ht h
section
variable {X:Cx}{x y:Str}{Nh:Arguments}{scope:Scope}{MK p1 p2 p3 p4:Pos}{cr c P:Addr}
def xH(x y:Str)(m:Arguments)(scope:Scope)(i g e c:Pos)(cr:Addr)(b:Value)(f j:Addr):HO :=
 .ext fun h=>∃l,h.get? f=some (PySem.W.kla_obj "<lambda>" zt m (rQ x y i g e c) scope [(x,cr)] b j l)
def BMd(base:Heap)(mg:Str->Option Value):Prop:=∃bm ob,mg "__builtins__" = some (.ref bm)/\bm≠builtinsNs/\base.get? bm=some ob/\ob.cls=.type "module"/\ob.dict=some builtinsNs/\ob.data=.plain
def Ja{h:Heap}{b:Addr}{P:Program}{w:World}{H:Hp}(e:h.CodeRec (.ref b) zt):bX P w H h b (uZ b):=by
 refine⟨e,?_,fun i g ⟨c,o,vs,t,e1,e2,f⟩ k=>?_⟩
 .obtain ⟨c,o,vs,t,e1,e2,f⟩:=e
  cases e1
  exact⟨o,e2⟩
 .cases e1
  exact⟨_,o,vs,t,rfl,k o e2,f⟩
def C8{h:Heap}{f i:Addr}{P:Program}{w:World}{H:Hp}{c b:Value}(g:h.get? f=some (PySem.W.kla_obj "<lambda>" zt Nh (rQ x y p1 p2 p3 p4) scope [(x,cr)] c i b)) :
  bX P w H h f (xH x y Nh scope p1 p2 p3 p4 cr c f i):=⟨⟨b,g⟩,⟨_,g⟩,fun l j ⟨b,e⟩ k=>⟨b,k _ e⟩⟩
def LQ(P:Addr)(F:Addr->Addr->HO):TE:=fun c H Q=>TabAt P H/\∀f b H',Same H H'->H f=none->H' f=some (F f b)->H' b=some (uZ b)->Q (.ref f) H'
theorem JL(SG:closureFor scope X.env=pure [(x,cr)])(RX:X.env.code=.ref c)(PM:PySem.W.codeHdIn X.K c P=true)(hq:X.env.qual++"<lambda>" = zt)(T4:defaultsOf Nh X.env=([],[]))(S8:BMd X.base X.mg) :
  PE X (.Lambda Nh (rQ x y p1 p2 p3 p4) scope MK) (LQ P (xH x y Nh scope p1 p2 p3 p4 cr ((X.mg "__name__").getD .none))):=by
 intro pins s σ H Q I h
 obtain ⟨⟨ps,g,ht,T⟩,q⟩:=h
 have F:s.heap.get? P=some (PySem.W.tabObj ps):=I.hok P _ g
 have KX:X.K.In s.heap:=I.mod.kin.keeps I.bk
 have C:=PySem.W.codeHd_of_K KX PM
 have G:s.heap.Ns mainGlobals X.mg:=I.mod.glob.keeps I.bk
 have S:mainGlobals≠P:=fun e=>by
  obtain ⟨o,es,ep,e1,e2,_⟩:=G
  rw[e,F] at e1;cases e1;cases e2
 obtain ⟨bm,ob,b1,b2,b3,Z,b5,Y⟩:=S8
 have B:=I.bk _ _ b3
 have YC:bm≠mainGlobals:=fun e=>by
  obtain ⟨o,es,ep,e1,e2,_⟩:=G
  rw[<- e,B] at e1;cases e1;rw[Y] at e2;cases e2
 have VY:bm≠P:=fun e=>by rw[e,F] at B;cases B;cases Z
 refine PySem.W.kla_eval T4 ?_
 rw[hq]
 cases hf:codeAmong MK ps.toList with
 |none =>
  refine PySem.W.kla_makeFunction (mg:=X.mg) SG I.ok.glob G RX C F ht hf S ⟨bm,ob,b1,b2,YC,VY,B,Z,b5,Y⟩ fun f RG h' M hx R8 NX WM WI=>?_
  have Yy:s.heap.objs.size<=h'.objs.size:=ME R8 (NN NX)
  have WV:H h'.objs.size=none:=I.hok.fresh Yy
  have Ur:H f=none:=I.hok.fresh R8
  have ZQ:P≠f:=aU g Ur
  have ZP:P≠h'.objs.size:=aU g WV
  have ZN:f≠h'.objs.size:=MA NX
  generalize VU:ps++#[rawInt MK.line,rawInt MK.col,.ref f]=ps' at WI
  have Qh:ps'.toList=ps.toList++[rawInt MK.line,rawInt MK.col,.ref f]:=by rw[<- VU,Array.toList_append]
  have i:∀b u,b≠P->H b=some u->upd (upd (upd H P (.tbl ps')) f (uZ f)) h'.objs.size (xH x y Nh scope p1 p2 p3 p4 cr ((X.mg "__name__").getD .none) h'.objs.size f) b=some u:=fun b u hb e=>by
   rw[aG (aU e WV),aG (aU e Ur),aG hb];exact e
  have XX:upd (upd (upd H P (.tbl ps')) f (uZ f)) h'.objs.size (xH x y Nh scope p1 p2 p3 p4 cr ((X.mg "__name__").getD .none) h'.objs.size f) P=some (.tbl ps'):=by
   rw[aG ZP,aG ZQ,az]
  have Y1:upd (upd (upd H P (.tbl ps')) f (uZ f)) h'.objs.size (xH x y Nh scope p1 p2 p3 p4 cr ((X.mg "__name__").getD .none) h'.objs.size f) f=some (uZ f):=by
   rw[aG ZN,az]
  have O:∀{b u},H b=some u->NT u->b≠P:=fun {b u} e n z=>by
   subst z;rw[g] at e;cases e;exact n
  have l:Same H (upd (upd (upd H P (.tbl ps')) f (uZ f)) h'.objs.size (xH x y Nh scope p1 p2 p3 p4 cr ((X.mg "__name__").getD .none) h'.objs.size f)):=by
   refine⟨fun b u e n=>i b u (O e n) e,fun b E e=>?_,fun P' ⟨E,e,U,g2⟩=>?_⟩
   .by_cases z:b=P
    .subst z;exact⟨_,XX⟩
    .exact⟨E,i b _ z e⟩
   .by_cases z:P'=P
    .subst z
     rw[g] at e;cases e
     refine⟨ps',XX,by rw[Qh];exact pI U,fun O9 p z=>?_⟩
     rw[Qh] at z
     rcases uy U z with z|z
     .obtain ⟨v,L,j⟩:=g2 O9 p z
      exact⟨v,L,i v _ (O j trivial) j⟩
     .exact⟨f,z,Y1⟩
    .exact⟨E,i P' _ z e,U,fun O9 p z=>let ⟨v,L,j⟩:=g2 O9 p z;⟨v,L,i v _ (O j trivial) j⟩⟩
  have up:∀b o,b≠P->s.heap.get? b=some o->(h'.push (PySem.W.kla_obj "<lambda>" zt Nh (rQ x y p1 p2 p3 p4) scope [(x,cr)] ((X.mg "__name__").getD .none) f RG)).get? b=some o:=fun b o hb e=>Heap.get?_push_of_some _ (hx b o hb e)
  have nL:X.env.locals≠P:=fun e=>by
   have:=I.free
   rw[e,g] at this;cases this
  have R:∀{b:Addr},H b=none->b≠P:=fun {b} e z=>by subst z;rw[g] at e;cases e
  refine⟨.ref h'.objs.size,_,?_,rfl,q h'.objs.size f _ l WV az Y1⟩
  refine I.step (g':=s.gens) (d':=s.drawn) (t':=M) (ch:=[]) (fun _ z=>nomatch z) (fun b o _ _ _ e n=>up b o (R n) e) (fun b o _ _ _ e n=>⟨o.slots,up b o (R n) e⟩) (fun b o _ e n=>?_) (fun b o _ e=>?_)
   (fun b xs e=>l.st b _ e trivial) (fun b o u e=>l.st b _ e trivial) (fun b E e=>?_) (fun m hm=>?_) (fun b o e=>?_) I.bare
  .have hb:=Heap.lt_size e
   rw[aG (MA (Mo hb Yy)),aG (MA (Mo hb R8)),aG (R n)];exact n
  .by_cases z:b=P
   .subst z;exact⟨_,Heap.get?_push_of_some _ WI⟩
   .exact⟨o,up b o z e⟩
  .by_cases z:b=P
   .subst z
    rw[g] at e;cases e
    exact⟨#[rawInt MK.line,rawInt MK.col,.ref f],by rw[VU];exact XX⟩
   .exact⟨#[],by rw[i b _ z e];simp⟩
  .obtain ⟨o,es,ep,ho,r⟩:=hm
   exact⟨o,es,ep,up _ o nL ho,r⟩
  .by_cases zf:b=h'.objs.size
   .subst zf
    rw[az] at e;cases e
    exact C8 (Heap.get?_push_size _ rfl)
   rw[aG zf] at e
   by_cases zc:b=f
   .subst zc
    rw[az] at e;cases e
    exact Ja (let ⟨cc,o,vs,t,e1,e2,e3⟩:=WM;⟨cc,o,vs,t,e1,Heap.get?_push_of_some _ e2,e3⟩)
   rw[aG zc] at e
   by_cases J:b=P
   .subst J
    rw[az] at e;cases e
    exact Heap.get?_push_of_some _ WI
   rw[aG J] at e
   refine (I.hok b o e).oN (fun d w' hd z=>up d w' (fun y=>?_) z) (fun d z=>l.st d _ z trivial) fun d xs z=>l.st d _ z trivial
   subst y
   rcases hd with hd|hd
   .exact J hd.symm
   .rw[g] at hd;cases hd
 |some p =>
  obtain ⟨f,rfl,Sj⟩:=T MK p hf
  refine PySem.W.kla_makeFunctionHit (mg:=X.mg) SG I.ok.glob G RX C F ht hf ⟨bm,ob,b1,b2,YC,VY,B,Z,b5,Y⟩ fun RG h' M hk hsz=>?_
  have hn:H h'.objs.size=none:=I.hok.fresh hsz
  have hcf:f≠h'.objs.size:=aU Sj hn
  exact⟨.ref h'.objs.size,_,I.laid (a:=h'.objs.size) (t':=M) (o:=xH x y Nh scope p1 p2 p3 p4 cr ((X.mg "__name__").getD .none) h'.objs.size f) (fun b o e=>Heap.get?_push_of_some _ (hk b o e)) hsz (C8 (Heap.get?_push_size _ rfl)),rfl,
   q _ f _ (Same.kR hn) hn az (by rw[aG hcf];exact Sj)⟩
end
end L3
namespace L3
open PySem L2 PySem.Calls PyProof.Rows
def Kj{h:Heap}{L:Addr}{m c:Str->Option Value}(a:h.Ns L m)(b:h.Ns L c):m=c:=by
 obtain ⟨o,es,ep,e1,e2,_,i⟩:=a
 obtain ⟨j,es',l,f,e,_,g⟩:=b
 rw[e1] at f;cases f
 rw[e2] at e;cases e
 funext x
 rw[<- i x,<- g x]
def y7(K:aad)(P:Addr)(i:Nat):TE:=fun e H Q=>∃(a:Addr) (ns:aab),e[i]?=some (some (.ref a))/\SqL K H a (ns.map V.int)/\ns.length<64/\TabAt P H /\
 ∀(l:Addr) (H':Hp) (c:aab),Same H H'->H l=none->H' l=some (.lst (c.map V.int))->c.Perm (km ns.length)->c.Pairwise (fun a b=>-(ns.getD a.toNat 0)<=-(ns.getD b.toNat 0))->Q (.ref l) H'
section
variable {X:Cx}{K:aad}{x y:Str}{Nh:Arguments}{scope:Scope}{MK p1 p2 p3 p4:Pos}{cr c P:Addr}{i:Nat}{el:Expr}{tl:TE}{ps pr q2 q3 Ry:Pos}
def Aw(hK:X.K=K)(hc:X.calm=true)(hg:Gl X "sorted")(hm:X.mg "sorted" = none)(Vb:Gl X "range")(TN:X.mg "range" = none)(hl:PE X el tl)
  (Y:∀E H Q a xs,E[i]?=some (some (.ref a))->SqL X.K H a xs->Q (.int (xs.length:Int)) H->tl E H Q)
  (hN:X.N[i]?=some x) (hv:Vis X.env.scope x) (hkx:X.env.kindOf x=some .cell) (hcr:X.env.cells.lookup x=some cr) (Sx:X.A.in1.in1.depth<recursionLimit)
  (SG:closureFor scope X.env=pure [(x,cr)]) (RX:X.env.code=.ref c) (PM:PySem.W.codeHdIn X.K c P=true) (hq:X.env.qual++"<lambda>" = zt) (T4:defaultsOf Nh X.env=([],[])) (S8:BMd X.base X.mg)
  (hb:∀(v pm RG:Value) (B:Addr),bindArgs (PySem.W.kla_fn "<lambda>" zt Nh (rQ x y p1 p2 p3 p4) scope [(x,cr)] pm (.ref B) RG) ⟨[v],[]⟩=pure [(y,v)])
  (hy:scope.names.lookup y=some .local) (WD:scope.names.lookup x=some .free) (Ur:∀n∈scope.names,n.2≠.cell) (hk:scope.kind=.function) (Xo:scope.isCoroutine=false) (T1:scope.isGenerator=false)
  (RW:(x == ("__debug__" : Str))=false) (T2:(y == ("__debug__" : Str))=false) (Xm:(x == ("__classdict__" : Str))=false)
  (he:backTo q3 (starEach [Expr.Call (.Name "range" pr) [el] [] q2] X.env)=(false,eval (.Call (.Name "range" pr) [el] [] q2) X.env)::backTo q3 (starEach [] X.env):=by rfl)
  (hs:starEach [el] X.env=[(false,eval el X.env)]:=by rfl)
  (Qn:(backTo q3 (starEach [Expr.Call (.Name "range" pr) [el] [] q2] X.env)).any (·.1)=false:=by rfl)
  (Pc:(backToKw q3 (keywordEach [⟨some "key",.Lambda Nh (rQ x y p1 p2 p3 p4) scope MK,Ry⟩] X.env)).all (·.1.isSome)=true:=by rfl)
  (W6:(backToKw q3 (keywordEach [⟨some "key",.Lambda Nh (rQ x y p1 p2 p3 p4) scope MK,Ry⟩] X.env)).any (·.1.isNone)=false:=by rfl)
  (W4:(backToKw q3 (keywordEach [⟨some "key",.Lambda Nh (rQ x y p1 p2 p3 p4) scope MK,Ry⟩] X.env)).filterMap (·.1)=[("key" : Str)]:=by rfl) :
  PE X (.Call (.Name "sorted" ps) [.Call (.Name "range" pr) [el] [] q2] [⟨some "key",.Lambda Nh (rQ x y p1 p2 p3 p4) scope MK,Ry⟩] q3) (y7 K P i):=by
 subst hK
 intro C s E H Q I h
 obtain ⟨a,ns,Uj,hS,SQ,hT,q⟩:=h
 have hpa:PA X [Expr.Call (.Name "range" pr) [el] [] q2] (bG (LG tl) iu):=aa (Kd Vb TN hl hs) aj
 have hpk:PK X [⟨some "key",.Lambda Nh (rQ x y p1 p2 p3 p4) scope MK,Ry⟩] (bG (LQ P (xH x y Nh scope p1 p2 p3 p4 cr ((X.mg "__name__").getD .none))) iu):=C7 (JL SG RX PM hq T4 S8) EE
 refine wpAny_Call_Name_kw (jz I hg hm boot_sorted ?_)
 refine callWith_kw (thn (hpa q3 C s E H (fun vs H1=>∃r:Addr,vs=[V.ref r]/\H r=none/\H1=upd H r (.rng 0 (ns.length:Int))) I (Y E H _ a _ Uj hS ⟨ns.length,by rw[mo],fun r Z=>⟨r,rfl,Z,rfl⟩⟩)) fun us s1 ⟨vs,H1,I1,r1,r,e1,Z,e2⟩=>?_) he Qn Pc W6
 subst e1 e2
 obtain ⟨u1,rfl,ru⟩:=vals1 r1
 obtain rfl:u1=Value.ref r:=ru
 have X9:Same H (upd H r (.rng 0 (ns.length:Int))):=Same.kR Z
 refine thn (hpk q3 C s1 E _ (fun zs l=>∃f B:Addr,zs=[V.ref f]/\Same (upd H r (.rng 0 (ns.length:Int))) l/\l f=some (xH x y Nh scope p1 p2 p3 p4 cr ((X.mg "__name__").getD .none) f B)/\l B=some (uZ B)) I1 ⟨X9.ti _ hT,fun f B l sm _ R S=>⟨f,B,rfl,sm,R,S⟩⟩) fun ws F ⟨zs,l,g,rz,f,B,e1,X8,R,S⟩=>?_
 subst e1
 obtain ⟨u2,rfl,Wm⟩:=vals1 rz
 obtain rfl:u2=Value.ref f:=Wm
 rw[W4]
 have Wk:=X9.trans X8
 have hS2:=Wk.seq hS
 obtain ⟨m,hn,S3⟩:=g.loc
 obtain ⟨u,rr,look⟩:=S3 i x (.ref a) hN Uj hv
 obtain rfl:u=Value.ref a:=rr
 have QR:F.heap.IsCell cr (some (.ref a)):=by
  rcases look with ⟨z,_⟩|⟨_,c2,z1,z2⟩
  .rw[hkx] at z;cases z
  .rw[hcr] at z1;cases z1;exact z2
 have TK:=g.hok r _ (X8.st r _ az trivial)
 obtain ⟨t1,t2,t3,TK⟩:=TK
 obtain ⟨⟨RG,hfo⟩,_⟩:=g.hok f _ R
 obtain ⟨Xn,_⟩:=g.hok B _ S
 obtain ⟨MO,rv,pl,hz⟩:=g.list hS2
 obtain ⟨oL,esL,epL,YU,eL2,eL3⟩:=id hn
 have nl:∀{b:Addr}{o:Obj},F.heap.get? b=some o->(∀es ep,o.data≠.dict es ep)->b≠X.env.locals:=fun {b o} e d z=>by
  subst z;rw[e] at YU;cases YU;exact d _ _ eL2
 have M:∀{b:Addr}{o:HO},l b=some o->b≠X.env.locals:=fun {b o} e z=>by
  subst z;have:=g.free;rw[e] at this;cases this
 refine Bl (n:=ns.length) (L:=X.env.locals) (m:=m) (key:=fun j=>-(ns.getD j 0)) (I.ok.hd hc) TK SQ hn (fun j t0 hh T hj p J=>?_) fun h' T D out cp O p J hD R8 hi hp hw=>?_
 .obtain ⟨oc,ec,dc⟩:=id QR
  obtain ⟨w1,U,Zp⟩:=rv.get (show (ns.map V.int)[j]?=some (.int (ns.getD j 0)) by rw[Mc,gV,dz hj];rfl)
  obtain ⟨tz,rfl⟩:=Zp
  obtain ⟨oa,ea,ca,na,da⟩:=id pl.isList
  refine Fd (s:={ F with heap:=hh,toks:=T }) (cr:=cr) (a:=a) (items:=MO.toArray) (z:=ns.getD j 0) (tz:=tz) (p _ _ (M R) hfo) ?_ Sx ?_ ⟨oc,p _ _ (nl ec (fun es ep z=>by rw[dc] at z;cases z)) ec,dc⟩ (pl.isList.at fun o e=>p _ o (nl ea (fun es ep z=>by rw[da] at z;cases z)) e) (by simpa using U) (by omega) (fun v=>hb v _ _ _) hy WD Ur hk Xo T1 RW T2 Xm fun h' UA t' kk=>⟨h',UA,t',rfl,rfl,fun b o _ e=>kk b o e,?_⟩
  .obtain ⟨cc,o,vs,t,e1,e2,e3⟩:=Xn
   cases e1
   exact⟨_,o,vs,t,rfl,p _ _ (M S) e2,e3⟩
  .exact g.mod.nolimit.keeps fun b o e=>p b o (fun z=>Nd b (by
    have h1:=Heap.lt_size e
    have h2:=g.ok.bsz
    have h3:=g.ok.above
    rw[<- z] at h3
    exact Mo h1 (ME h2 h3))) (g.bk b o e)
  .obtain ⟨o,es,ep,e1,e2⟩:=J
   exact⟨o,es,ep,kk _ _ e1,e2⟩
 .have WX:l D=none:=g.hok.fresh R8
  have sD:Same l (upd l D (.lst (O.map V.int))):=Same.kR WX
  refine⟨.ref D,upd l D (.lst (O.map V.int)),?_,rfl,q D _ O (Wk.trans sD) (Wk.free WX) az hp hw⟩
  have G:∀b u,l b=some u->upd l D (.lst (O.map V.int)) b=some u:=fun b u e=>by rw[aG (aU e WX)];exact e
  refine g.step (g':=F.gens) (d':=F.drawn) (t':=T) (ch:=[]) (fun _ z=>nomatch z) (fun b o hb _ _ e n=>p b o hb e) (fun b o hb _ _ e n=>⟨o.slots,p b o hb e⟩) (fun b o _ e n=>?_) (fun b o _ e=>?_)
   (fun b xs e=>G b _ e) (fun b o u e=>G b _ e) (fun b qs e=>⟨#[],by rw[G b _ e];simp⟩) (fun m' hm'=>?_) (fun b o e=>?_) g.bare
  .rw[aG (MA (Mo (Heap.lt_size e) R8))];exact n
  .by_cases z:b=X.env.locals
   .subst z
    obtain ⟨o',es,ep,e1,_⟩:=J
    exact⟨o',e1⟩
   .exact⟨o,p b o z e⟩
  .rw[Kj hm' hn];exact J
  .by_cases zD:b=D
   .subst zD
    rw[az] at e;cases e
    have hml:=hp.length_eq
    rw[mo,Mi] at hml
    refine⟨by rw[mo,sizeLine_eq];omega,out.toList,cp,fZ hi,?_⟩
    rw[hD]
   .rw[aG zD] at e
    refine (g.hok b o e).oN (fun d w' hd z=>p d w' ?_ z) (fun d z=>G d _ z) fun d xs z=>G d _ z
    rcases hd with rfl|hd
    .exact M e
    .exact M hd
end
end L3
namespace L3
open PySem L2 PySem.Spec PyProof.Rows
def vz(P:Addr)(H:Hp):Prop:=(∀b,H b=none\/b=P\/∃o xs,H b=some (.frz o (.lst xs)))/\H P=some (.tbl #[])
def vz.tab{P:Addr}{H:Hp}(h:vz P H):TabAt P H:=⟨#[],h.2,trivial,fun c b e=>by simp [codeAmong] at e⟩
theorem D6{t:Program}{w:World}{K:aad}{mg E:Str->Option Value}{CX:CXT}{k:Nat}{L a c P:Addr}{R:FuncData}{x:Str}{sp:Sp}{f:Shared}{vs:List Value}{ns:aab}
  (O:K.In f.heap) (Z:f.heap.Ns mainGlobals mg) (hb:f.heap.Ns builtinsNs E) (G:∀x:Str,x≠"__name__"->E x=bootBuiltins x) (W1:f.heap.NoLimit) (hg:f.gens=#[])
  (ha:f.heap.get? a=some { cls:=.type "list",data:=.seq vs.toArray }) (hi:IntsAre vs ns) (hl:ns.length<=sizeLine) (hr:eP k callerA) (l:f.heap.get? P=some (PySem.W.tabObj #[])) (Vr:K.lookup P=none) (PM:PySem.W.codeHdIn K c P=true)
  (S8:BMd f.heap mg) (F:∀base:Heap,K.In base->base.Ns mainGlobals mg->BMd base mg->br t w K mg base CX k L R [x] sp) (Vl:∀(s:Shared) (u:Value),BindsTo s R ⟨[u],[]⟩ [(x,u)])
  (RA:∀H:Hp,vz P H->SqL K H a (ns.map V.int)->sp [.ref a] H (fun v _=>v=.bl true) fun _ _ _=>False)
  (Xz:∀H e s',CX [] H f (fun _ _ _=>False) e s'->False) :
  codeAny (model t w) callerA (.call (.ref L) ⟨[.ref a],[]⟩) (fun r s'=>r=.ok (.ret (.bool true))/\OldK f.heap s'.heap/\s'.os=f.os/\AllBare s'.gens) f:=by
 have Q:=vo hi
 have Wv:=hi.length
 have C:=PySem.W.codeHd_of_K O PM
 have U:a≠P:=fun z=>by rw[z,l] at ha;cases ha
 have X:∀H:Hp,vz P H->SqL K H a (ns.map V.int)->HOk t w H f.heap->(∀b,H b≠none->b=a\/b=P)->(H a≠none->K.lookup a=none) ->
   codeAny (model t w) callerA (.call (.ref L) ⟨[.ref a],[]⟩) (fun r s'=>r=.ok (.ret (.bool true))/\OldK f.heap s'.heap/\s'.os=f.os/\AllBare s'.gens) f:=by
  intro H I hS hok J hK
  have UI:∀{b:Addr}{o:Obj}{es:Array DictEntry}{ep:Nat},f.heap.get? b=some o->o.data=.dict es ep->H b=none:=fun {b o es ep} e d=>by
   cases q:H b with
   |none=>rfl
   |some u =>
    rcases J b (by rw[q];simp) with z|z
    .subst z
     rw[ha] at e;cases e
     have d':Data.seq vs.toArray _=Data.dict es ep:=d
     cases d'
    .subst z
     rw[l] at e;cases e
     have d':Data.fields #[]=Data.dict es ep:=d
     cases d'
  have B:∀{b:Addr}{m:Str->Option Value},f.heap.Ns b m->(ye f.heap H).Ns b m:=fun {b m} ⟨o,es,ep,e,d,r⟩=>⟨o,es,ep,uK e (UI e d),d,r⟩
  have S:K.In (ye f.heap H):=fun b o e=>uK (O b o e) (by
   cases q:H b with
   |none=>rfl
   |some u =>
    rcases J b (by rw[q];simp) with z|z
    .subst z
     rw[hK (by rw[q];simp)] at e;cases e
    .subst z
     rw[Vr] at e;cases e)
  have hM:Mod K mg (ye f.heap H):=⟨S,B Z,⟨E,B hb,G⟩,let ⟨mc,h1,h2⟩:=W1;⟨mc,B h1,h2⟩⟩
  have e0:ya t w K mg (ye f.heap H) callerA [] f H:=⟨rfl,hM,fun b o e=>IB e,Nat.le_of_eq (D9 _ _),trivial,fun b hb=>absurd (show b∈([]:List Addr) from hb) (by simp),hok,.of_eq hg⟩
  have Xu:BMd (ye f.heap H) mg:=by
   obtain ⟨bm,ob,b1,b2,p,M,b5,b6⟩:=S8
   refine⟨bm,ob,b1,b2,uK p ?_,M,b5,b6⟩
   cases q:H bm with
   |none=>rfl
   |some u =>
    rcases J bm (by rw[q];simp) with z|z
    .subst z;rw[ha] at p;cases p
     exact absurd (show Value.type "list" = Value.type "module" from M) (by decide)
    .subst z;rw[l] at p;cases p;cases M
  refine codeAny_mono ((F _ S (B Z) Xu).run callerA [] f H ⟨[.ref a],[]⟩ [.ref a] [.ref a] _ _ hr e0 (Vl f (.ref a)) (.cons rfl .nil) (RA H I hS)) fun r s' h=>?_
  cases r with
  |error e=>exact (Xz H e s' h).elim
  |ok fl =>
   cases fl with
   |next=>exact False.elim h
   |brk=>exact False.elim h
   |cont=>exact False.elim h
   |ret u =>
    obtain ⟨v,H',os,bare,un,Y,r',q⟩:=h
    have q':v=.bl true:=q
    subst q'
    obtain rfl:u=Value.bool true:=r'
    have keep:∀b o,b≠P->f.heap.get? b=some o->s'.heap.get? b=some o:=fun b o VY e=>by
     cases q:H b with
     |none=>exact un.keep b o e q (by intro z;exact absurd (show b∈([]:List Addr) from z) (by simp)) (by simp)
     |some u =>
      rcases I.1 b with z|z|⟨ob,xs,z⟩
      .rw[q] at z;cases z
      .exact absurd z VY
      .have n:=un.frzs b ob _ z
       obtain ⟨e1,_⟩:=hok b _ z
       obtain ⟨e2,_⟩:=Y b _ n
       rw[e] at e1;cases e1
       exact e2
    obtain ⟨j,hm⟩:=un.tbls P #[] I.2
    have T:s'.heap.get? P=some { cls:=.none,data:=.fields (#[]++j) }:=Y P _ hm
    refine⟨rfl,⟨fun b o e=>?_,fun b o e=>?_⟩,os,bare⟩
    .by_cases z:b=P
     .subst z
      rw[l] at e;cases e
      exact .inr (.inl ⟨(C.tab l).isCodeTable,rfl,#[],j,rfl,T⟩)
     .exact .inl (keep b o z e)
    .by_cases z:b=P
     .subst z;exact⟨_,T⟩
     .exact⟨o,keep b o z e⟩
 cases hk:K.lookup a with
 |some o =>
  have e:=O a o hk
  rw[ha] at e
  cases e
  refine X (fun b=>if b=P then some (.tbl #[]) else none) ⟨fun b=>?_,if_pos rfl⟩ (.inr ⟨_,vs.toArray,_,hk,rfl,rfl,rfl,by rw[Mx,Wv];exact hl,by simpa using Q⟩) (fun b u z=>?_) (fun b z=>?_) fun z=>absurd (if_neg U) z
  .by_cases z:b=P
   .exact .inr (.inl z)
   .exact .inl (if_neg z)
  .by_cases y:b=P
   .have i:=(if_pos y).symm.trans z
    cases i
    subst y
    exact l
   .have i:=(if_neg y).symm.trans z
    cases i
  .by_cases y:b=P
   .exact .inr y
   .exact absurd (if_neg y) z
 |none =>
  refine X (fun b=>if b=a then some (.frz { cls:=.type "list",data:=.seq vs.toArray } (.lst (ns.map V.int))) else if b=P then some (.tbl #[]) else none) ⟨fun b=>?_,by show (if _ then _ else _)=_;rw[if_neg (MI U),if_pos rfl]⟩ (.inl (.inr ⟨{ cls:=.type "list",data:=.seq vs.toArray },if_pos rfl⟩)) (fun b u z=>?_) (fun b z=>?_) fun _=>hk
  .by_cases y:b=a
   .exact .inr (.inr ⟨_,_,if_pos y⟩)
   .by_cases g:b=P
    .exact .inr (.inl g)
    .exact .inl (by show (if _ then _ else _)=_;rw[if_neg y,if_neg g])
  .by_cases y:b=a
   .have i:=(if_pos y).symm.trans z
    cases i
    subst y
    exact⟨ha,by rw[mo];exact hl,vs,_,Q,ha⟩
   .have i:=(if_neg y).symm.trans z
    by_cases g:b=P
    .have n:=(if_pos g).symm.trans i
     cases n
     subst g
     exact l
    .have n:=(if_neg g).symm.trans i
     cases n
  .by_cases y:b=a
   .exact .inl y
   .by_cases g:b=P
    .exact .inr g
    .exact absurd (by show (if _ then _ else _)=_;rw[if_neg y,if_neg g]) z
def GI{l:PySem.W.OpenLaw}{n k:Nat}{q:Program}{Z:List Str}{M:(Str->Option Value)->Heap->Prop}{j:World->Heap->Prop}{d:DefRec}{K:Params->aad}{CX:World->CXT}{sp:World->Sp}{x:Str}{c P:Addr}
  (hn:l.most=some n) (X:n<=sizeLine) (Q:d.params.defaults=[]) (r:eP k callerA)
  (y:∀(w:World) (h:Heap),j w h->(K w.params).In h) (z:∀(w:World) (h:Heap),j w h->h.get? P=some (PySem.W.tabObj #[])) (O:∀w:World,(K w.params).lookup P=none) (PM:∀w:World,PySem.W.codeHdIn (K w.params) c P=true)
  (F:∀(w:World) (mg:Str->Option Value) (g:Addr) (h:Heap),(K w.params).In h->h.Ns mainGlobals mg->mg d.name=some (.ref g) ->
   ∃i:FuncData,(∀(s:Shared) (u:Value),BindsTo s i ⟨[u],[]⟩ [(x,u)]) /\
    ∀base:Heap,(K w.params).In base->base.Ns mainGlobals mg->BMd base mg->br l.prog w (K w.params) mg base (CX w) k g i [x] (sp w))
  (U:∀(w:World) (H:Hp) (a:Addr) (ns:aab),ns.length<=n->vz P H->SqL (K w.params) H a (ns.map V.int)->sp w [.ref a] H (fun v _=>v=.bl true) fun _ _ _=>False)
  (L:∀(w:World) (H:Hp) (s:Shared) (e:Value) (s':Shared),CX w [] H s (fun _ _ _=>False) e s'->False) :
  PySem.W.WalkO q Z M j l.row.toRowW d [] (fun f vs=>PySem.call f vs):=by
 refine Att.yU hn Q fun w s₀ b mg mb g o pm cd I a vs ns G Y ho hd J T R S m t=>?_
 have p:=y w _ Y
 obtain ⟨i,hb,E⟩:=F w mg g _ p G.T.g T
 exact D6 p G.T.g G.T.b G.T.builtins G.T.nolimit t R S (ME m X) r (z w _ Y) (O w) (PM w) (let ⟨bm,ob,b1,b2,b3,b4,b5,b6⟩:=G.T.bmain;⟨bm,ob,b1,b2,b3,b4,b5,b6⟩) E hb (fun H C B=>U w H a ns m C B) fun H e s'=>L w H b e s'
end L3
namespace L3
open PySem L2 PyProof.Rows
section
variable {P:Program}{w:World}{K:aad}{mg:Str->Option Value}{base:Heap}
def K9{H:Hp}{a:Addr}{xs:List V}(b:vz u0 H)(h:SqL K H a xs):Sc K H a xs:=by
 rcases h with (h|⟨o,h⟩)|h
 .rcases b.1 a with z|z|⟨o,ys,z⟩
  .rw[h] at z;cases z
  .subst z
   have:=b.2
   rw[h] at this;cases this
  .rw[h] at z;cases z
 .exact .inl ⟨o,h⟩
 .exact .inr h
def Er(K:aad)(mg:Str->Option Value)(base:Heap):Prop:=∃f b c,mg "falling_places" = some (.ref f)/\(∃h g e,K.lookup f=some ⟨h,g,.func b,e⟩)/\b.code=.ref c/\PySem.W.codeHdIn K c u0=true/\BMd base mg
def Fun.okL{x qual:Str}{st:Stmt}{f c:Addr}{b:FuncData}{N ps:List Str}{k:Nat}{sp:Sp}(F:Fun K x qual st f b)(l:b.code=.ref c)(S:aF N ps (aw st))(len:∀vs H Q E,sp vs H Q E->vs.length=ps.length)
  (n:∀(A:Around) (outer:List Env) (s:Shared) (H:Hp) (vs:List V) (Q:VK) (E:XK),eP k (A.deeper (envOfC qual (aw st) s.heap.objs.size f (.ref c)))->sp vs H Q E ->
   ∃t,PSs (nj CX0 P w K mg base N qual (aw st) f (.ref c) A outer s H E).nox (c0 st) t/\t { nx:=fun _ H'=>Q .non H',rt:=Q } (L2.start N vs) H):br P w K mg base CX0 (k+1) f b ps sp:=by
 obtain ⟨u,r,kV,j,p,v,e,ct,g,rfl,lk,o⟩:=F.ex
 obtain rfl:e=.ref c:=l
 refine GJ lk o S len fun A outer s H vs Q E i m=>?_
 obtain ⟨t,h,q⟩:=n A outer s H vs Q E i m
 exact⟨t,h.nox,q⟩
def Er.of{f:Addr}{b:FuncData}{st:Stmt}{ps:List Str}(T:Er K mg base)(F:FnAt K mg "falling_places" st ps f b):∃c,b.code=.ref c/\PySem.W.codeHdIn K c u0=true/\BMd base mg:=by
 obtain ⟨p,g,c,j,⟨o,n,m,lk⟩,h,l,i⟩:=T
 have e1:=j.symm.trans F.mg
 cases e1
 obtain ⟨_,_,_,_,_,_,_,_,_,rfl,e,_⟩:=F.fn.ex
 rw[lk] at e
 cases e
 exact⟨c,h,l,i⟩
end
section
variable {K:aad}{Γ:aac}{i:Nat}
def K7{δ:Dl}{i:Nat}{x:D}{P:DK}(e:δ[i]?=some (some x))(h:P x):mn i δ P:=by
 unfold mn
 rw[e]
 exact h
def GW(i:Nat):DE:=fun δ P=>mn i δ fun x=>asL x fun ds=>∃ns:aab,ds=ns.map D.int/\ns.length<64/\∀c:aab,c.Perm (km ns.length)->c.Pairwise (fun a b=>ns.getD b.toNat 0<=ns.getD a.toNat 0)->P (dI c)
def AJ(i:Nat):EM K Γ [] (y7 K u0 i) (GW i) :=
 ⟨fun δ P C k h=>by
  obtain ⟨x,e,z⟩:=ib h
  obtain ⟨ds,e2,ns,u,f,z⟩:=cg z
  exact K7 e (jx e2 ⟨ns,u,f,fun c t s=>k _ (z c t s)⟩),
 fun {B0 fps δ y H Q} o h=>by
  obtain ⟨x,e,z⟩:=ib h
  obtain ⟨ds,e2,ns,rfl,f,z⟩:=cg z
  obtain ⟨v,n,r⟩:=o.val i _ e
  obtain ⟨a,xs,B,rfl,g,p,_⟩:=r.seq e2
  obtain ⟨rfl,_⟩:=p.jf cw
  refine⟨a,ns,n,by rw[MB] at g;exact g,f,o.b0.now,fun l H' c m hl j q hw=>?_⟩
  exact z c q (hw.imp fun h=>by omega) _ _ [l] m (Rf.ofInts j) ⟨by simp,fun b hb=>by cases Gc.mp hb;exact .inl ⟨_,j⟩,fun b hb=>by cases Gc.mp hb;exact .inl hl⟩⟩
end
end L3
namespace L3
open PySem L2
section
end
end L3
namespace L2
open PySem PySem.Spec PyProof.Rows SeqAt MeetsSeq
section
end
end L2
namespace L3
open PySem
open L2 hiding D Rf Rfs Rp dI dT
section
end
end L3
namespace L2
open PySem PySem.Spec PyProof.Rows
section
end
end L2
namespace L3
open PySem L2
section
variable {K:aad}{d e:DS}
variable {B0:Hp}{H:Hp}
def Ed{N:List Str}{ds:List D}{vs:List V}{g:Nat->List Addr}{a b:Addr}(o:Ok K B0 [0,1] g (ds.map some) (vs.map some) H)(ha:vs[0]?=some (.ref a))(hb:vs[1]?=some (.ref b)){x y:D}(j:ds[0]?=some x)(h:ds[1]?=some y) :
  Ok K B0 [0,1] g (aJ N ((ds.set 0 (.pin a x)).set 1 (.pin b y))) (L2.start N vs) H:=by
 have hl:vs.length=ds.length:=by have:=o.len;rwa [mo,mo] at this
 have c:Ok K B0 [0,1] g ((ds.map some).set 0 (some (.pin a x))) (vs.map some) H:=o.nW (x:=x) (by rw[Mc,j];rfl) fun v f r=>⟨by rw[Mc,ha] at f;cases f;rfl,r⟩
 have c:Ok K B0 [0,1] g (((ds.map some).set 0 (some (.pin a x))).set 1 (some (.pin b y))) (vs.map some) H:=c.nW (x:=y) (by rw[KE (by decide),Mc,h];rfl) fun v f r=>⟨by rw[Mc,hb] at f;cases f;rfl,r⟩
 have e:((ds.map some).set 0 (some (.pin a x))).set 1 (some (.pin b y))=((ds.set 0 (.pin a x)).set 1 (.pin b y)).map some:=by rw[NO,NO]
 rw[e] at c
 have l:((ds.set 0 (.pin a x)).set 1 (.pin b y)).length=ds.length:=by rw[Mv,Mv]
 generalize (ds.set 0 (.pin a x)).set 1 (.pin b y)=ds1 at *
 unfold aJ L2.start
 refine⟨by rw[Mt,Mt,mo,mo,Mw,Mw];omega,c.b0,fun i d q=>?_,fun i q=>?_,c.own,c.dj⟩
 .by_cases hi:i<ds1.length
  .rw[Mp (by simpa using hi)] at q
   rw[Mp (by rw[mo];omega)]
   exact c.val i d q
  .rw[MD (by simpa using hi),MQ] at q
   split at q<;>cases q
 .refine c.non i fun d z=>q d ?_
  have:i<ds1.length:=by simpa using (Ma.mp z).1
  rw[Mp (by simpa using this)]
  exact z
end
end L3
namespace L2
open PySem PySem.Spec PyProof.Rows
section
end
end L2
namespace L3
open PySem L2
section
end
end L3
namespace L2
open PySem PySem.Spec PyProof.Rows
section
end
end L2
namespace L3
open PySem L2
section
end
end L3
namespace L2
open PySem PySem.Spec PyProof.Rows PySem.Builtin PySem.Builtin.Str
section
end
end L2
namespace L2
open PySem PySem.Spec PyProof.Rows PySem.Builtin PySem.Builtin.Str
section
end
end L2
namespace L3
open PySem L2 PySem.Builtin PySem.Builtin.Str
section
end
end L3
namespace L3
open PySem PySem.Builtin PySem.Builtin.Str
end L3
namespace L3
open PySem L2 PySem.Builtin PySem.Builtin.Str
end L3
namespace L2
open PySem PySem.Spec PyProof.Rows PySem.Builtin PySem.Builtin.Str
section
end
section
end
section
end
end L2
namespace L3
open PySem L2 PySem.Builtin PySem.Builtin.Str
section
end
end L3
namespace L3
open PySem L2 PySem.Builtin PySem.Builtin.Str
end L3
namespace L2
open PySem PySem.Spec PyProof.Rows PySem.Builtin PySem.Builtin.Str
section
end
end L2
namespace L3
open PySem L2 PySem.Builtin PySem.Builtin.Str
section
end
end L3
namespace L3
open PySem L2 PySem.Builtin PySem.Builtin.Str
end L3
namespace L3
open PySem L2 PySem.Builtin PySem.Builtin.Str
end L3
namespace L3
open PySem L2 PySem.Builtin PySem.Builtin.Str
end L3
namespace L2
open PySem PySem.Spec PyProof.Rows
section
end
end L2
namespace L3
open PySem L2
section
end
end L3
namespace L3
open PySem L2
section
end
end L3
namespace Tal
def lines:Nat->aaa
 |0=>[[]]
 |w+1=>(lines w).map (fun l=>0::l)++(lines w).map (fun l=>1::l)
def AO(x:Int)(w:Nat):aaa:=(lines w).filter fun r=>decide (r.sum=x)
def sub:aab->aab->aab
 |a::as,b::bs=>(a - b)::sub as bs
 |[],_=>[]
 |_::_,[]=>[]
theorem sub_len:∀{a b:aab},b.length=a.length->(sub a b).length=a.length
 |[],_,_=>rfl
 |a::as,[],h=>by simp at h
 |a::as,b::bs,h=>by show (sub as bs).length+1=as.length+1;rw[sub_len (by simpa using h)]
theorem oZ:∀{a b:aab}{i:Nat},b.length=a.length->(sub a b).getD i 0=a.getD i 0 - b.getD i 0
 |[],[],i,_=>by simp [sub]
 |[],b::bs,_,h=>by simp at h
 |a::as,[],_,h=>by simp at h
 |a::as,b::bs,0,h=>by simp [sub]
 |a::as,b::bs,i+1,h=>by
  have:=oZ (a:=as) (b:=bs) (i:=i) (by simpa using h)
  simpa [sub] using this
theorem mW:∀{w:Nat}{l:aab},l∈lines w->l.length=w/\∀z∈l,z=0\/z=1
 |0,l,h=>by
  rw[lines,Gc] at h
  subst h
  exact⟨rfl,fun z b=>absurd b Mr⟩
 |w+1,l,h=>by
  rw[lines,Mf,Mh,Mh] at h
  rcases h with ⟨m,hm,rfl⟩|⟨m,hm,rfl⟩
  all_goals
   have:=mW hm
   refine⟨by rw[Me,this.1],fun z b=>?_⟩
   rcases Mb.mp b with e|e
   .subst e;simp
   .exact this.2 z e
theorem qA:∀{l:aab},(∀z∈l,z=0\/z=1)->l∈lines l.length
 |[],_=>by simp [lines]
 |x::l,h=>by
  have:=qA (l:=l) (fun z b=>h z (ox _ b))
  rw[Me,lines,Mf,Mh,Mh]
  rcases h x Fk with e|e
  .exact .inl ⟨l,this,by rw[e]⟩
  .exact .inr ⟨l,this,by rw[e]⟩
def lA{x:Int}{w:Nat}{l:aab}:l∈AO x w↔l∈lines w/\l.sum=x:=by
 rw[AO,M7,decide_eq_true_eq]
end Tal
namespace Tal
def Ok:aab->aab->aaa->Prop
 |[],left,[]=>∀x∈left,x=0
 |r::rs,left,t::b=>t∈AO r left.length/\Ok rs (sub left t) b
 |_,_,_=>False
theorem Gy:∀{R left:aab}{T:aaa},Ok R left T->T.length=R.length
 |[],left,[],h=>rfl
 |[],left,_::_,h=>h.elim
 |_::_,left,[],h=>h.elim
 |r::rs,left,t::b,h=>by rw[Me,Me,Gy h.2]
def cols(w:Nat)(T:aaa):aab:=(List.range w).map fun k=>(T.map fun r=>r.getD k 0).sum
def eh{w:Nat}{T:aaa}:(cols w T).length=w:=by rw[cols,mo,Mi]
def jg{w k:Nat}{T:aaa}(h:k<w):(cols w T).getD k 0=(T.map fun r=>r.getD k 0).sum:=by
 rw[cols,gV,Mc,MS h];rfl
def mC{a b:aab}(h:a.length=b.length)(k:∀i,i<a.length->a.getD i 0=b.getD i 0):a=b:=by
 refine NJ h fun i c e=>?_
 have:=k i c
 rw[gV,gV,dz c,dz e] at this
 exact this
def FE{w:Nat}{t:aab}{T:aaa}(ht:t.length=w):sub (cols w (t::T)) t=cols w T:=by
 refine mC (by rw[sub_len (by rw[eh,ht]),eh,eh]) fun i hi=>?_
 rw[sub_len (by rw[eh,ht]),eh] at hi
 rw[oZ (by rw[eh,ht]),jg hi,jg hi,Ml,MF]
 omega
theorem G6{w:Nat}:∀{T:aaa},(∀t∈T,t.length=w/\∀z∈t,z=0\/z=1)->Ok (T.map List.sum) (cols w T) T
 |[],_=>by
  show ∀x∈cols w [],x=0
  intro x b
  rw[cols,Mh] at b
  obtain ⟨k,_,rfl⟩:=b
  rfl
 |t::T,h=>by
  have ht:=h t Fk
  refine⟨lA.mpr ⟨?_,rfl⟩,?_⟩
  .rw[eh,<- ht.1];exact qA ht.2
  .rw[FE ht.1];exact G6 fun u c=>h u (ox _ c)
theorem A7:∀{R left:aab}{T:aaa},Ok R left T->R=T.map List.sum/\left=cols left.length T/\∀t∈T,t.length=left.length/\∀z∈t,z=0\/z=1
 |[],left,[],h=>by
  refine⟨rfl,?_,fun _ h=>absurd h Mr⟩
  refine mC (by rw[eh]) fun i hi=>?_
  rw[jg hi,h (left.getD i 0) (by rw[gV,dz hi];exact MJ hi)]
  rfl
 |[],left,_::_,h=>h.elim
 |_::_,left,[],h=>h.elim
 |r::rs,left,t::f,h=>by
  have m:=lA.mp h.1
  have b:=mW m.1
  have ih:=A7 h.2
  rw[sub_len b.1] at ih
  refine⟨by rw[Ml,m.2,<- ih.1],?_,fun u c=>?_⟩
  .refine mC (by rw[eh]) fun i hi=>?_
   have e:=congrArg (fun l=>l.getD i 0) ih.2.1
   rw[oZ b.1,jg hi] at e
   rw[jg hi,Ml,MF]
   omega
  .rcases Mb.mp c with e|e
   .rw[e];exact b
   .exact ih.2.2 u e
end Tal
namespace PySem.SeqAt
open PySem PyProof.Rows
open PySem.AutoSeq1 (wpAny_loadPart')
open MeetsSeq MeetsSeq2 MeetsSeq3
end PySem.SeqAt
namespace L2
open PySem PySem.Spec PyProof.Rows
open PySem.SeqAt
section
end
section
end
end L2
namespace L3
open PySem L2
section
end
end L3
namespace Tal
theorem ux{w k:Nat}{l:aab}(h:l∈lines w):l.getD k 0=0\/l.getD k 0=1:=by
 rw[gV]
 cases e:l[k]? with
 |none=>exact .inl rfl
 |some x=>exact (mW h).2 x (MP e)
end Tal
namespace L3
open PySem L2
section
end
end L3
namespace L3
open PySem L2
section
variable {K:aad}{Γ:aac}{H:Hp}
def AH(d:DE)(δ:Dl)(P:DK):Prop:=d δ fun x=>∃a y,x=.pin a y/\P (.raw (.ref a))
def ER.rawOf{t:TE}{d:DE}(h:ER K Γ t d):EM K Γ [] t (AH d) :=
 ⟨fun δ P i k q=>h.mono _ _ _ (fun x ⟨a,y,e,z⟩=>⟨a,y,e,k _ z⟩) q,fun {B0 fps δ g H Q} o q=>h.run o (h.mono _ _ _ (fun x z v f b c=>by
  obtain ⟨a,y,rfl,z⟩:=z
  obtain ⟨fp,e,_⟩:=c
  exact z v f [] b ⟨e,rfl⟩ Nw.nil) q)⟩
end
end L3
namespace L2
open PySem PySem.Spec PyProof.Rows
section
end
end L2
namespace L3
open PySem L2
section
end
end L3
namespace L3
open PySem
open L2 hiding D Rf Rfs Rp dI dT
theorem tP:∀{l:aab}{b:Nat}{v:Int},b<l.length->(l.set b v).sum=l.sum+(v - l.getD b 0)
 |[],b,v,h=>by simp at h
 |x::l,0,v,h=>by simp;omega
 |x::l,b+1,v,h=>by
  have:=tP (l:=l) (b:=b) (v:=v) (by simpa using h)
  simp only[Oo,MF,this,List.getD_cons_succ]
  omega
def js(t:aaa)(a:Nat):Int:=(rowAt t a).sum
def jH(t:aaa)(c:Nat):Int:=(t.map fun r=>r.getD c 0).sum
def En{t:aaa}{n m a b c:Nat}{v:Int}(e:bK n m t)(ha:a<n)(hb:b<m):js (setCell t a b v) c=js t c + if a=c then v - cellAt t a b else 0:=by
 have hl:=e.1
 have f:=e.row ha
 unfold js rowAt setCell cellAt
 by_cases h:a=c
 .subst h
  rw[if_pos rfl,gV (l:=t.set a _),Mj (by omega),M3,tP (by rw[show (t.getD a []).length=m from f];exact hb)]
 .rw[if_neg h,gV (l:=t.set a _),KE h,<- gV];omega
def Fv{t:aaa}{n m a b c:Nat}{v:Int}(f:bK n m t)(ha:a<n)(hb:b<m):jH (setCell t a b v) c=jH t c+if b=c then v - cellAt t a b else 0:=by
 have hl:=f.1
 have g:=f.row ha
 unfold jH setCell cellAt
 rw[NO,tP (by rw[mo];omega)]
 have e:(t.map fun r=>r.getD c 0).getD a 0=(t.getD a []).getD c 0:=by
  rw[gV,Mc,dz (by omega),gV (l:=t),dz (by omega)]
  rfl
 rw[e]
 have i:(t.getD a []).length=m:=g
 by_cases h:b=c
 .subst h
  rw[if_pos rfl,gV (l:=List.set _ _ _),Mj (by omega),M3]
 .rw[if_neg h,gV (l:=List.set _ _ _),KE h,<- gV];omega
end L3
namespace L3
namespace Fl
def sN(n:Nat)(f:Nat->Int):Int:=((List.range n).map f).sum
def BB{f:Nat->Int}:sN 0 f=0:=rfl
def cC{n:Nat}{f:Nat->Int}:sN (n+1) f=sN n f+f n:=by
 unfold sN;rw[List.range_succ,MC,List.sum_append];simp
def aZ{n:Nat}{f g:Nat->Int}(h:∀i,i<n->f i=g i):sN n f=sN n g:=by
 unfold sN;congr 1;exact Pn fun i hi=>h i (Mq.mp hi)
theorem iB{f g:Nat->Int}:∀{n:Nat},sN n (fun i=>f i+g i)=sN n f+sN n g
 |0=>rfl
 |n+1=>by rw[cC,cC,cC,iB];omega
theorem tD{f g:Nat->Int}:∀{n:Nat},sN n (fun i=>f i - g i)=sN n f - sN n g
 |0=>rfl
 |n+1=>by rw[cC,cC,cC,tD];omega
theorem bE:∀{n:Nat},sN n (fun _=>0)=0
 |0=>rfl
 |n+1=>by rw[cC,bE];rfl
theorem sC{m:Nat}{f:Nat->Nat->Int}:∀{n:Nat},sN n (fun i=>sN m fun j=>f i j)=sN m fun j=>sN n fun i=>f i j
 |0=>(bE (n:=m)).symm
 |n+1=>by
  rw[cC,sC,<- iB]
  exact aZ fun j _=>cC.symm
theorem mS{f:Nat->Int}:∀{n:Nat},(∀i,i<n->0<=f i)->0<=sN n f
 |0,_=>OH _
 |n+1,h=>by
  rw[cC]
  have:=mS (f:=f) (n:=n) fun i hi=>h i (by omega)
  have:=h n (by omega)
  omega
theorem xn{f:Nat->Int}{k:Nat}:∀{n:Nat},(∀i,i<n->0<=f i)->k<n->0<f k->0<sN n f
 |0,_,h,_=>by omega
 |n+1,h,g,c=>by
  rw[cC]
  have a:=mS (f:=f) (n:=n) fun i hi=>h i (by omega)
  have b:=h n (by omega)
  rcases Nat.lt_or_ge k n with z|z
  .have:=xn (fun i hi=>h i (by omega)) z c
   omega
  .have e:k=n:=by omega
   subst e;omega
def uw{l:aab}:l.sum=sN l.length fun i=>l.getD i 0:=by
 unfold sN
 congr 1
 refine NJ (by simp) fun i b c=>?_
 rw[NI,NQ,gV,dz b];rfl
def wQ{t:aaa}{n m a:Nat}(h:bK n m t)(ha:a<n):js t a=sN m fun j=>cellAt t a j:=by
 unfold js;rw[uw,show (rowAt t a).length=m from h.row ha]
def si{t:aaa}{n m b:Nat}(h:bK n m t):jH t b=sN n fun i=>cellAt t i b:=by
 unfold jH;rw[uw,mo,h.1]
 refine aZ fun i hi=>?_
 have c:i<t.length:=by rw[h.1];exact hi
 unfold cellAt
 rw[gV,Mc,dz c,gV (l:=t),dz c]
 rfl
theorem yj{f:Nat->Int}:∀{n:Nat}{R:aac},R.Nodup->(∀r∈R,r<n)->(R.map f).sum=sN n fun i=>if i∈R then f i else 0
 |n,[],_,_=>by simp [bE]
 |n,r::R,nd,h=>by
  obtain ⟨n1,n2⟩:=Mn.mp nd
  rw[Ml,MF,yj n2 fun x j=>h x (ox _ j)]
  have l:=h r Fk
  have e:sN n (fun i=>if i∈r::R then f i else 0)=sN n (fun i=>(if i=r then f i else 0)+if i∈R then f i else 0):=aZ fun i _=>by
   by_cases c:i=r
   .subst c
    rw[if_pos Fk,if_pos rfl,if_neg n1];omega
   .rw[if_neg c]
    by_cases b:i∈R
    .rw[if_pos (ox _ b),if_pos b];omega
    .rw[if_neg (fun z=>by rcases Mb.mp z with z|z;exact c z;exact b z),if_neg b];omega
  rw[e,iB]
  congr 1
  have one:∀n:Nat,r<n->sN n (fun i=>if i=r then f i else 0)=f r:=by
   intro n
   induction n with
   |zero=>intro z;omega
   |succ k ih =>
    intro m
    rw[cC]
    rcases Nat.lt_or_ge r k with z|z
    .rw[ih z,if_neg (by omega)];omega
    .have e:k=r:=by omega
     subst e
     rw[if_pos rfl]
     have:sN k (fun i=>if i=k then f i else 0)=0:=by
      rw[aZ (g:=fun _=>0) fun i hi=>if_neg (by omega)];exact bE
     rw[this];omega
  exact (one n l).symm
def Cut(n m:Nat)(b cols:aab)(low high:aaa)(R C:aac):Prop :=
 sN m (fun j=>if j∈C then cols.getD j 0 else 0)+sN n (fun i=>sN m fun j=>(if i∈R/\j∉C then cellAt high i j else 0) - (if i∉R/\j∈C then cellAt low i j else 0))<sN n fun i=>if i∈R then b.getD i 0 else 0
structure St(n m:Nat)(rows cols:aab)(low high:aaa)(t:aaa)(w r:aab):Prop where
 rt:bK n m t
 wl:w.length=n
 rl:r.length=m
 bd:∀i j,i<n->j<m->cellAt low i j<=cellAt t i j/\cellAt t i j<=cellAt high i j
 rs:∀i,i<n->rows.getD i 0=w.getD i 0+js t i
 cs:∀j,j<m->cols.getD j 0=r.getD j 0+jH t j
 rp:∀j,j<m->0<=r.getD j 0
 ng:∀i,i<n->w.getD i 0<0->∀j,j<m->cellAt t i j=cellAt low i j
def JK{n m:Nat}{f cols:aab}{low high t:aaa}{w r:aab}{R C:aac}(s:St n m f cols low high t w r)
  (x:∀i,i<n->0<w.getD i 0->i∈R) (v:∀i∈R,i<n/\(0<w.getD i 0\/∃j,j<m/\cellAt low i j<cellAt t i j)) (u:∀i∈R,∀j,j<m->cellAt t i j<cellAt high i j->j∈C) (p:∀j∈C,r.getD j 0<=0)
  (o:∀j∈C,∀i,i<n->cellAt low i j<cellAt t i j->i∈R) (k:Nat) (h:k<n) (hw:0<w.getD k 0):Cut n m f cols low high R C:=by
 unfold Cut
 have e1:sN n (fun i=>if i∈R then f.getD i 0 else 0)=sN n (fun i=>if i∈R then w.getD i 0 else 0)+sN n fun i=>sN m fun j=>if i∈R then cellAt t i j else 0:=by
  rw[<- iB]
  refine aZ fun i hi=>?_
  by_cases z:i∈R
  .rw[if_pos z,if_pos z,s.rs i hi,wQ s.rt hi]
   congr 1
   exact aZ fun j _=>(if_pos z).symm
  .rw[if_neg z,if_neg z,aZ (g:=fun _=>0) fun j _=>if_neg z,bE];rfl
 have e2:sN m (fun j=>if j∈C then cols.getD j 0 else 0)=sN m (fun j=>if j∈C then r.getD j 0 else 0)+sN n fun i=>sN m fun j=>if j∈C then cellAt t i j else 0:=by
  rw[sC,<- iB]
  refine aZ fun j hj=>?_
  by_cases z:j∈C
  .rw[if_pos z,if_pos z,s.cs j hj,si s.rt]
   congr 1
   exact aZ fun i _=>(if_pos z).symm
  .rw[if_neg z,if_neg z,aZ (g:=fun _=>0) fun i _=>if_neg z,bE];rfl
 have B:sN n (fun i=>sN m fun j=>if i∈R then cellAt t i j else 0)=sN n (fun i=>sN m fun j=>if j∈C then cellAt t i j else 0)+sN n (fun i=>sN m fun j=>(if i∈R/\j∉C then cellAt high i j else 0) - (if i∉R/\j∈C then cellAt low i j else 0)):=by
  rw[<- iB]
  refine aZ fun i hi=>?_
  rw[<- iB]
  refine aZ fun j hj=>?_
  have b:=s.bd i j hi hj
  by_cases e:i∈R<;>by_cases c:j∈C
  .rw[if_pos e,if_pos c,if_neg (fun q=>q.2 c),if_neg (fun q=>q.1 e)];omega
  .rw[if_pos e,if_neg c,if_pos ⟨e,c⟩,if_neg (fun q=>q.1 e)]
   have:¬ cellAt t i j<cellAt high i j:=fun q=>c (u i e j hj q)
   omega
  .rw[if_neg e,if_pos c,if_neg (fun q=>q.2 c),if_pos ⟨e,c⟩]
   have:¬ cellAt low i j<cellAt t i j:=fun q=>e (o j c i hi q)
   omega
  .rw[if_neg e,if_neg c,if_neg (fun q=>e q.1),if_neg (fun q=>c q.2)];omega
 have E:0<sN n fun i=>if i∈R then w.getD i 0 else 0:=by
  refine xn (k:=k) (fun i hi=>?_) h ?_
  .by_cases z:i∈R
   .rw[if_pos z]
    rcases (v i z).2 with q|⟨j,hj,q⟩
    .omega
    .rcases Int.lt_or_le (w.getD i 0) 0 with y|y
     .have:=s.ng i hi y j hj;omega
     .exact y
   .rw[if_neg z];exact OH _
  .rw[if_pos (x k h hw)];exact hw
 have l:sN m (fun j=>if j∈C then r.getD j 0 else 0)=0:=by
  rw[aZ (g:=fun _=>0) fun j hj=>?_,bE]
  by_cases z:j∈C
  .rw[if_pos z]
   have:=p j z
   have:=s.rp j hj
   omega
  .rw[if_neg z]
 rw[e1,e2,B,l]
 omega
def filled{n m:Nat}{b cols:aab}{low high t:aaa}{w r:aab}(s:St n m b cols low high t w r)(c:b.length=n)(e:cols.length=m)(g:b.sum=cols.sum)(h:∀i,i<n->w.getD i 0<=0) :
  (∀i,i<n->js t i=b.getD i 0)/\∀j,j<m->jH t j=cols.getD j 0:=by
 have e1:b.sum=sN n (fun i=>w.getD i 0)+sN n fun i=>sN m fun j=>cellAt t i j:=by
  rw[uw,c,<- iB]
  exact aZ fun i hi=>by rw[s.rs i hi,wQ s.rt hi]
 have e2:cols.sum=sN m (fun j=>r.getD j 0)+sN n fun i=>sN m fun j=>cellAt t i j:=by
  rw[uw,e,sC,<- iB]
  exact aZ fun j hj=>by rw[s.cs j hj,si s.rt]
 have a1:=mS (f:=fun j=>r.getD j 0) (n:=m) s.rp
 have a2:0<=sN n (fun i=>0 - w.getD i 0):=mS fun i hi=>by have:=h i hi;omega
 rw[tD,bE] at a2
 refine⟨fun i hi=>?_,fun j hj=>?_⟩
 .have:=s.rs i hi
  have hw:=h i hi
  rcases Int.lt_or_le (w.getD i 0) 0 with z|z
  .have p:0<sN n (fun i=>0 - w.getD i 0):=xn (k:=i) (fun i hi=>by have:=h i hi;omega) hi (by omega)
   rw[tD,bE] at p
   omega
  .omega
 .have:=s.cs j hj
  have c:=s.rp j hj
  rcases Int.lt_or_le 0 (r.getD j 0) with z|z
  .have p:=xn (f:=fun j=>r.getD j 0) (k:=j) s.rp hj z
   omega
  .omega
def cellsOf:List (Nat × Nat)->List (Nat × Nat)
 |[]=>[]
 |[p]=>[p]
 |p::q::r=>p::(p.1,q.2)::cellsOf (q::r)
def kC:List (Nat × Nat)->Nat->List (Nat × Nat)
 |[],_=>[]
 |[p],c=>[p,(p.1,c)]
 |p::q::r,c=>p::(p.1,q.2)::kC (q::r) c
theorem uA{s c:Nat}:∀{ps:List (Nat × Nat)},cellsOf (ps++[(s,c)])=kC ps c++[(s,c)]
 |[]=>rfl
 |[p]=>rfl
 |p::q::r=>by
  show p::(p.1,q.2)::cellsOf (q::r++[(s,c)])=p::(p.1,q.2)::kC (q::r) c++[(s,c)]
  rw[uA];rfl
theorem vG{s c b:Nat}:∀{ps:List (Nat × Nat)},kC (ps++[(s,c)]) b=kC ps c++[(s,c),(s,b)]
 |[]=>rfl
 |[p]=>rfl
 |p::q::r=>by
  show p::(p.1,q.2)::kC (q::r++[(s,c)]) b=p::(p.1,q.2)::kC (q::r) c++[(s,c),(s,b)]
  rw[vG];rfl
def Lk(L:Nat->Nat->Prop):List (Nat × Nat)->Prop
 |p::q::r=>L p.1 q.2/\Lk L (q::r)
 |_=>True
theorem CZ{L:Nat->Nat->Prop}{s c:Nat}:∀{ps:List (Nat × Nat)},Lk L ps->(∀p,ps.getLast?=some p->L p.1 c)->Lk L (ps++[(s,c)])
 |[],_,_=>trivial
 |[p],_,h=>⟨h p rfl,trivial⟩
 |p::q::r,h,k=>⟨h.1,CZ (ps:=q::r) h.2 fun z e=>k z (by rw[Nv];exact e)⟩
def ap:Int->List (Nat × Nat)->aaa->aaa
 |_,[],t=>t
 |x,p::r,t=>ap (-x) r (setCell t p.1 p.2 (cellAt t p.1 p.2+x))
def dl:Int->List (Nat × Nat)->Nat->Nat->Int
 |_,[],_,_=>0
 |x,p::r,a,b=>(if p.1=a/\p.2=b then x else 0)+dl (-x) r a b
def dlr:Int->List (Nat × Nat)->Nat->Int
 |_,[],_=>0
 |x,p::r,a=>(if p.1=a then x else 0)+dlr (-x) r a
def dlc:Int->List (Nat × Nat)->Nat->Int
 |_,[],_=>0
 |x,p::r,b=>(if p.2=b then x else 0)+dlc (-x) r b
theorem Jk{n m:Nat}:∀{ps:List (Nat × Nat)}{x:Int}{t:aaa},bK n m t->(∀p∈ps,p.1<n/\p.2<m)->bK n m (ap x ps t)/\(∀a b,cellAt (ap x ps t) a b=cellAt t a b+dl x ps a b)/\(∀a,js (ap x ps t) a=js t a+dlr x ps a)/\∀b,jH (ap x ps t) b=jH t b+dlc x ps b
 |[],x,t,h,_=>⟨h,fun a b=>by simp [ap,dl],fun a=>by simp [ap,dlr],fun b=>by simp [ap,dlc]⟩
 |p::ps,x,t,h,f=>by
  obtain ⟨c,e⟩:=f p Fk
  have j:bK n m (setCell t p.1 p.2 (cellAt t p.1 p.2+x)):=h.setCell c
  obtain ⟨k1,k2,k3,g⟩:=Jk (ps:=ps) (x:=-x) j fun q i=>f q (ox _ i)
  refine⟨k1,fun a b=>?_,fun a=>?_,fun b=>?_⟩
  .show cellAt (ap (-x) ps _) a b=_
   rw[k2,px h c e]
   show _=cellAt t a b+((if p.1=a/\p.2=b then x else 0)+dl (-x) ps a b)
   by_cases z:p.1=a/\p.2=b
   .rw[if_pos z,if_pos z]
    obtain ⟨rfl,rfl⟩:=z
    omega
   .rw[if_neg z,if_neg z];omega
  .show js (ap (-x) ps _) a=_
   rw[k3,En h c e]
   show _=js t a+((if p.1=a then x else 0)+dlr (-x) ps a)
   by_cases z:p.1=a
   .rw[if_pos z,if_pos z];omega
   .rw[if_neg z,if_neg z];omega
  .show jH (ap (-x) ps _) b=_
   rw[g,Fv h c e]
   show _=jH t b+((if p.2=b then x else 0)+dlc (-x) ps b)
   by_cases z:p.2=b
   .rw[if_pos z,if_pos z];omega
   .rw[if_neg z,if_neg z];omega
theorem CY{x:Int}{a:Nat}:∀{ps:List (Nat × Nat)}{p:Nat × Nat},ps.getLast?=some p->dlr x (cellsOf ps) a=if p.1=a then x else 0
 |[],p,e=>by simp at e
 |[q],p,e=>by
  obtain rfl:q=p:=by simpa using e
  show (if q.1=a then x else 0)+0=_
  omega
 |q::q2::r,p,e=>by
  show (if q.1=a then x else 0)+((if q.1=a then -x else 0)+dlr (- -x) (cellsOf (q2::r)) a)=_
  rw[Int.neg_neg,CY (ps:=q2::r) (p:=p) (by rw[Nv] at e;exact e)]
  by_cases z:q.1=a
  .rw[if_pos z,if_pos z];omega
  .rw[if_neg z,if_neg z];omega
theorem Ce{x:Int}{b:Nat}:∀{ps:List (Nat × Nat)}{p:Nat × Nat},dlc x (cellsOf (p::ps)) b=if p.2=b then x else 0
 |[],p=>by
  show (if p.2=b then x else 0)+0=_
  omega
 |q::r,p=>by
  show (if p.2=b then x else 0)+((if q.2=b then -x else 0)+dlc (- -x) (cellsOf (q::r)) b)=_
  rw[Int.neg_neg,Ce (ps:=r) (p:=q)]
  by_cases z:q.2=b
  .rw[if_pos z,if_pos z];omega
  .rw[if_neg z,if_neg z];omega
theorem Bg{x:Int}{a b:Nat}:∀{ps:List (Nat × Nat)},(∀p∈ps,p.1≠a)->dl x (cellsOf ps) a b=0
 |[],_=>rfl
 |[p],h=>by
  show (if p.1=a/\p.2=b then x else 0)+0=0
  rw[if_neg (fun z=>h p Fk z.1)];rfl
 |p::q::r,h=>by
  show (if p.1=a/\p.2=b then x else 0)+((if p.1=a/\q.2=b then -x else 0)+dl (- -x) (cellsOf (q::r)) a b)=0
  rw[if_neg (fun z=>h p Fk z.1),if_neg (fun z=>h p Fk z.1),Int.neg_neg,Bg (ps:=q::r) fun z c=>h z (ox _ c)];rfl
theorem EH{x:Int}{a b:Nat}{L:Nat->Nat->Prop}:∀{ps:List (Nat × Nat)},(ps.map Prod.fst).Nodup->(ps.map Prod.snd).Nodup->Lk L ps->dl x (cellsOf ps) a b=0\/(dl x (cellsOf ps) a b=x/\(a,b)∈ps)\/(dl x (cellsOf ps) a b=-x/\L a b/\∃p∈ps,p.1=a)
 |[],_,_,_=>.inl rfl
 |[p],_,_,_=>by
  show (if p.1=a/\p.2=b then x else 0)+0=0\/((if p.1=a/\p.2=b then x else 0)+0=x/\_)\/_
  by_cases z:p.1=a/\p.2=b
  .right;left
   rw[if_pos z]
   refine⟨by omega,?_⟩
   rw[<- z.1,<- z.2];exact Fk
  .left;rw[if_neg z];rfl
 |p::q::r,n1,n2,hl=>by
  have e:dl x (cellsOf (p::q::r)) a b=(if p.1=a/\p.2=b then x else 0)+((if p.1=a/\q.2=b then -x else 0)+dl (- -x) (cellsOf (q::r)) a b):=rfl
  rw[e,Int.neg_neg]
  rw[Ml] at n1 n2
  obtain ⟨n,o⟩:=Mn.mp n1
  obtain ⟨m,s⟩:=Mn.mp n2
  by_cases z:p.1=a
  .have h:dl x (cellsOf (q::r)) a b=0:=Bg fun y g w=>n (by rw[z,<- w];exact Mh.mpr ⟨y,g,rfl⟩)
   rw[h]
   by_cases f:p.2=b
   .have c:q.2≠b:=fun w=>m (by rw[f,<- w];exact Mh.mpr ⟨q,Fk,rfl⟩)
    right;left
    rw[if_pos ⟨z,f⟩,if_neg (fun w=>c w.2)]
    refine⟨by omega,?_⟩
    rw[<- z,<- f];exact Fk
   .rw[if_neg (fun w=>f w.2)]
    by_cases c:q.2=b
    .right;right
     rw[if_pos ⟨z,c⟩]
     refine⟨by omega,?_,p,Fk,z⟩
     rw[<- z,<- c];exact hl.1
    .left;rw[if_neg (fun w=>c w.2)];rfl
  .rw[if_neg (fun w=>z w.1),if_neg (fun w=>z w.1),M1,M1]
   rcases EH (x:=x) (a:=a) (b:=b) o s hl.2 with w|w|w
   .exact .inl w
   .exact .inr (.inl ⟨w.1,ox _ w.2⟩)
   .obtain ⟨l,j,y,g,i⟩:=w
    exact .inr (.inr ⟨l,j,y,ox _ g,i⟩)
def Al(Q0 Q1:Nat × Nat->Prop):List (Nat × Nat)->Prop
 |[]=>True
 |p::r=>Q0 p/\Al Q1 Q0 r
theorem JB{Q0 Q1:Nat × Nat->Prop}:∀{cs:List (Nat × Nat)},(∀(j:Nat) p,cs[j]?=some p->if j % 2=0 then Q0 p else Q1 p)->Al Q0 Q1 cs
 |[],_=>trivial
 |p::r,h=>by
  refine⟨by have:=h 0 p rfl;simpa using this,JB fun j q e=>?_⟩
  have:=h (j+1) q (by simpa using e)
  by_cases z:j % 2=0
  .rw[if_pos z];rw[if_neg (by omega)] at this;exact this
  .rw[if_neg z];rw[if_pos (by omega)] at this;exact this
theorem Jv{Q0 Q1:Nat × Nat->Prop}:∀{cs:List (Nat × Nat)},Al Q0 Q1 cs->∀(j:Nat) p,cs[j]?=some p->if j % 2=0 then Q0 p else Q1 p
 |[],_,j,p,e=>by simp at e
 |q::r,h,0,p,e=>by
  obtain rfl:q=p:=by simpa using e
  exact h.1
 |q::r,h,j+1,p,e=>by
  have:=Jv h.2 j p (by simpa using e)
  by_cases z:j % 2=0
  .rw[if_pos z] at this;rw[if_neg (by omega)];exact this
  .rw[if_neg z] at this;rw[if_pos (by omega)];exact this
theorem A3{Q0 Q1:Nat × Nat->Prop}:∀{ps:List (Nat × Nat)},Al Q0 Q1 (cellsOf ps)↔(∀p∈ps,Q0 p)/\Lk (fun a b=>Q1 (a,b)) ps
 |[]=>⟨fun _=>⟨fun p h=>(nomatch h),trivial⟩,fun _=>trivial⟩
 |[p]=>⟨fun h=>⟨fun q e=>by cases Gc.mp e;exact h.1,trivial⟩,fun h=>⟨h.1 p Fk,trivial⟩⟩
 |p::q::r=>by
  have ih:=A3 (Q0:=Q0) (Q1:=Q1) (ps:=q::r)
  refine⟨fun h=>?_,fun h=>?_⟩
  .obtain ⟨i,g,f⟩:Q0 p/\Q1 (p.1,q.2)/\Al Q0 Q1 (cellsOf (q::r)):=h
   obtain ⟨k1,k2⟩:=ih.mp f
   exact⟨fun z c=>by rcases Mb.mp c with y|y;rw[y];exact i;exact k1 z y,g,k2⟩
  .exact⟨h.1 p Fk,h.2.1,ih.mpr ⟨fun z c=>h.1 z (ox _ c),h.2.2⟩⟩
end Fl
end L3
namespace L3
open PySem L2
section
end
section
end
section
end
end L3
namespace L2
open PySem PySem.Spec PyProof.Rows PySem.Calls
theorem uk:∀{us:List Value}{ns:aab},us.length=ns.length->(∀(j:Nat) (v:Value),us[j]?=some v->∃i t,ns[j]?=some i/\v=Value.int i t)->IntsAre us ns
 |[],[],_,_=>.nil
 |[],_::_,h,_=>by simp at h
 |_::_,[],h,_=>by simp at h
 |u::us,n::ns,h,k=>by
  obtain ⟨i,t,e1,rfl⟩:=k 0 u rfl
  obtain rfl:n=i:=by simpa using e1
  exact .cons n t (uk (by simpa using h) fun j v e=>k (j+1) v (by simpa using e))
section
variable {prog:Program}{w:World}{A:Around}{E:Value->Shared->Prop}{s:Shared}
def xZ{d:Addr}{kvs:List (Key × Value)}{ns:aab}{Q:Value->Shared->Prop}(hd:s.heap.DictOf (cK prog w) d kvs)(lo:(d == sysModules)=false)(G:A.handled=none)(z:kvs.map (·.1)=ns.map Sum.inl)(O:ns.length<64)
  (h:∀(h':Heap) (l:Nat) (a:Addr) (e:Nat) (out:Array Value) (g:aab),(∀b u,s.heap.get? b=some u->h'.get? b=some u)->s.heap.get? a=none->(∃c:Heap,(∀b u,s.heap.get? b=some u->c.get? b=some u)/\a=c.objs.size)->h'.get? a=some (seqObj "list" out e)->IntsAre out.toList g->g.Perm ns->g.Pairwise (·<=·)->Q (.ref a) { s with heap:=h',toks:=l }) :
  wpAny (model prog w) A (call (.builtin "sorted") [.ref d]) Q E s:=by
 obtain ⟨ep,n⟩:=hd.dictAt
 have L:kvs.length=ns.length:=by have:=congrArg List.length z;simpa using this
 have C:kvs.length<=sizeLine:=by rw[sizeLine_eq];omega
 refine Calls.call_function_entry kind_sorted plain_sorted entry_sorted (args_sorted1 _) ?_
 unfold Builtin.«sorted»
 refine wpAny_bind (m:=checkCount "sorted" 1 1 _) (wpAny_pure ?_)
 refine wpAny_bind (PySem.W.kdu_collect (A:=A.in1) (PySem.W.kdl_dict (knd:=cK prog w) (kvs:=kvs) (ep:=ep) lo) G n C fun h' l acc p F=>?_)
 have hl:acc.toList.length=kvs.length:=by rw[MZ];exact F.1
 have I:IntsAre acc.toList ns:=uk (by rw[hl,L]) fun j v e=>by
  obtain ⟨k,x,e1,e2⟩:=F.2 j v (by rw[<- Array.getElem?_toList];exact e)
  have f:(kvs.map (·.1))[j]?=some k:=by rw[Mc,e1];rfl
  rw[z,Mc] at f
  cases e4:ns[j]? with
  |none=>rw[e4] at f;cases f
  |some i =>
   rw[e4] at f
   obtain rfl:Sum.inl i=k:=MH f
   rw[Ay] at e2
   rcases bY e2 with ⟨M,t,o,B⟩|⟨y,t,o,B⟩
   .cases o
    exact⟨i,t,rfl,B⟩
   .cases o
 refine wpAny_bind (wpAny_newList ?_ (by rw[hl];exact C))
 have q:(h'.push (seqObj "list" acc.toList.toArray 0)).get? h'.objs.size=some (seqObj "list" acc.toList.toArray 0):=Heap.get?_push_size _ rfl
 show wpAny _ _ _ _ _ { s with heap:=h'.push (seqObj "list" acc.toList.toArray 0),toks:=l }
 refine wpAny_bind (wpAny_holding (wpAny_call_entry slot_list_sort ⟨_,q,rfl⟩ entry_list_sort (list_sort_tree q I (by rw[hl];omega) fun out g a1 a2 J=>⟨_,rfl,?_⟩) (args_list_sort _)))
 obtain ⟨e,H⟩:=sortedHeap_at (out:=out) q
 refine wpAny_pure ⟨_,rfl,h _ l h'.objs.size e out g (fun b u hb=>?_) ?_ ⟨h',p,rfl⟩ H a1 a2 J⟩
 .have c:=p b u hb
  have r:=Heap.lt_size c
  rw[sortedHeap_old (MA r) (by rw[size_push'];exact Nat.lt_succ_of_lt r),Heap.get?_push_ne _ _ _ (MA r)]
  exact c
 .cases e0:s.heap.get? h'.objs.size with
  |none=>rfl
  |some u=>exact absurd (Heap.lt_size (p _ u e0)) (Nd _)
end
section
variable {X:Cx}{pins:List (Addr × Obj)}{σ:St}{H:Hp}{s:Shared}
def Di{h':Heap}{a:Addr}{o:HO}{t':Nat}(I:Inv X pins σ H s)(k:∀b u,s.heap.get? b=some u->h'.get? b=some u)(f:s.heap.get? a=none)(hn:H a=none)(g:bX X.prog X.w (upd H a o) h' a o) :
  Inv X pins σ (upd H a o) { s with heap:=h',toks:=t' } :=
 I.un { keep := fun b u q _ _ _ => k b u q
        slot:=fun b u q _ _ _=>⟨u.slots,k b u q⟩
        free:=fun b u q n _=>by rw[aG (fun z=>by subst z;rw[f] at q;cases q)];exact n
        there:=fun b u q _=>⟨u,k b u q⟩
        tups:=fun b xs q=>by rw[aG (aU q hn)];exact q
        frzs:=fun b u xs q=>by rw[aG (aU q hn)];exact q
        tbls:=fun b ps q=>⟨#[],by rw[aG (aU q hn),q];simp⟩ }
  fun b u e=>by
   by_cases hb:b=a
   .subst hb;rw[az] at e;cases e;exact g
   .rw[aG hb] at e
    exact (I.hok b u e).oN (fun c v _ q=>k c v q) (fun c q=>by rw[aG (aU q hn)];exact q) fun c xs q=>by rw[aG (aU q hn)];exact q
def oS(t:X.calm=true):fR X (.builtin "sorted") (fun xs H Q=>∃(a:Addr) (kvs:List (Key × V)) (ns:aab),xs=[.ref a]/\H a=some (.dK kvs)/\kvs.map (·.1)=ns.map Sum.inl/\ns.length<64 /\
  ∀(l:Addr) (c:aab),H l=none->c.Perm ns->c.Pairwise (·<=·)->Q (.ref l) (upd H l (.lst (c.map V.int)))):=by
 intro pins s σ H xs us Q I r h
 obtain ⟨a,kvs,ns,rfl,v,p,n,q⟩:=h
 obtain ⟨u,rfl,g⟩:=vals1 r
 obtain rfl:u=Value.ref a:=g
 obtain ⟨_,lo,vs,m,hd⟩:=Jm I.hok v
 refine xZ hd lo (I.ok.hd t) (by rw[<- m.keys];exact p) n fun h' f b e out c k1 k2 j k3 a1 a2 x=>?_
 obtain ⟨y,i,q2⟩:=j
 have hn:H b=none:=(I.hok.kept i).fresh (Nat.le_of_eq q2.symm)
 have z:=a2.length_eq
 refine⟨.ref b,_,Di (t':=f) (o:=.lst (c.map V.int)) I k1 k2 hn ⟨?_,out.toList,e,fZ a1,?_⟩,rfl,q _ c hn a2 x⟩
 .rw[mo];exact small (by omega)
 .exact k3
def DQ{c:List Stmt}{t:TS}(G:aac)(n:∀i∈G,∀x,X.N[i]?=some x->X.env.scope.names.lookup x=none)(h:PSs X c t) :
  PSs X c (fun Dn b H=>∃σ':St,σ'.length=b.length/\(∀i,i∉G->σ'[i]?=b[i]?)/\t Dn σ' H):=by
 intro pins s b H D I q
 obtain ⟨σ',hl,l,q⟩:=q
 obtain ⟨m,hm,lk⟩:=I.loc
 refine h pins s σ' H D ⟨I.ok,I.os,I.bare,I.base,⟨m,hm,fun i x v f g j=>?_⟩,I.cell,I.free,I.freeC,I.pin,I.hok,by rw[hl];exact I.len⟩ q
 by_cases hi:i∈G
 .have e:=n i hi x f
  rcases j with z|z|z<;>rw[e] at z<;>cases z
 .rw[l i hi] at g
  exact lk i x v f g j
end
end L2
namespace L3
open PySem L2
section
variable {K:aad}{ρ:Bool}{Γr Γl Γ:aac}{te tx:TE}{de dx:DE}
variable {B0:Hp}{fps:Nat->List Addr}{δ:Dl}{σ:St}{H:Hp}{C:Addr}{f:Str}
def Ok.lend(o:Ok K B0 Γ fps δ σ H){i:Nat}{y:D}{v:V}{fp:List Addr}(hl:i<δ.length)(b:σ[i]?=some (some v))(r:Rf K H y v fp) :
  Ok K H [] (fun j=>if j=i then fp else fps j) (δ.set i (some y)) σ H:=by
 refine⟨by rw[Mv];exact o.len,SB.refl o.b0.now,fun j d e=>?_,fun j q=>?_,fun _ h=>(nomatch h),fun _ h=>(nomatch h)⟩
 .by_cases hj:j=i
  .subst hj
   rw[Mj hl] at e;cases e
   exact⟨v,b,by show Rf K H y v (if j=j then fp else fps j);rw[if_pos rfl];exact r⟩
  .rw[KE (MI hj)] at e
   show ∃v,_/\Rf K H d v (if j=i then fp else fps j)
   rw[if_neg hj]
   exact o.val j d e
 .by_cases hj:j=i
  .subst hj;exact absurd (Mj hl) (q y)
  .show (if j=i then fp else fps j)=[]
   rw[if_neg hj]
   exact o.non j fun d z=>q d (by rw[KE (MI hj)];exact z)
def Fu(i e c:Nat)(δ:Dl)(P:D->Prop):Prop:=∃(s C:Addr) (ns:List Str) (a1 a2:Addr) (e1 e2:D) (b:List D),δ[i]?=some (some (.pin s (.ins C ns (.raw (.ref a1)::.raw (.ref a2)::b))))/\δ[e]?=some (some (.pin a1 e1))/\δ[c]?=some (some (.pin a2 e2))/\P (.ins C ns (e1::e2::b))
def Fu.mono{i c b:Nat}{P e:D->Prop}(h:Fu i c b δ P)(k:∀y,P y->e y):Fu i c b δ e :=
 let ⟨s,C,ns,a1,a2,e1,e2,Nm,h0,h1,h2,p⟩:=h;⟨s,C,ns,a1,a2,e1,e2,Nm,h0,h1,h2,k _ p⟩
def Fu.out{i f c:Nat}{P:D->Prop}(h:Fu i f c δ P)(o:Ok K B0 Γ fps δ σ H):∃y v fp,P y/\i<δ.length/\σ[i]?=some (some v)/\Rf K H y v fp:=by
 obtain ⟨s,C,ns,a1,a2,e1,e2,M,b,q,n,p⟩:=h
 obtain ⟨v,l,e,a,dx,xs,F,t,m,_,r⟩:=o.val i _ b
 obtain ⟨z,u,L,J,rfl,_,⟨rfl,_⟩,r⟩:=r
 obtain ⟨x,g,I,G,rfl,_,⟨rfl,_⟩,r⟩:=r
 obtain ⟨E,_,rfl,j⟩:=o.val f _ q
 obtain ⟨B,_,rfl,q2⟩:=o.val c _ n
 exact⟨_,v,_,p,(Ma.mp b).1,l,a,dx,_,_,t,m,rfl,.ref a1,_,_,_,rfl,rfl,j,.ref a2,_,_,_,rfl,rfl,q2,r⟩
def JD(i c b:Nat)(d:DE)(δ:Dl)(P:DK):Prop:=Fu i c b δ fun y=>d (δ.set i (some y)) P
def xU(i g f:Nat)(h:EM K [] [] te de):EM K Γ [] te (JD i g f de) :=
 ⟨fun δ P j k q=>q.mono fun y z=>h.mono _ _ _ k z,fun o q=>by
  obtain ⟨y,v,fp,p,hl,e,r⟩:=q.out o
  exact h.run (o.lend hl e r) (h.mono _ _ _ (fun x z b H' fp' s c n=>z b H' fp' s c n.any) p)⟩
def sr(i e c:Nat)(h:ER K [] te de):ER K Γ te (JD i e c de) :=
 ⟨fun δ P f k q=>q.mono fun y z=>h.mono _ _ _ k z,fun o q=>by
  obtain ⟨y,v,fp,p,hl,b,r⟩:=q.out o
  exact h.run (o.lend hl b r) p⟩
def J0(i c b:Nat)(d:DT)(δ:Dl)(P:Bool->Prop):Prop:=Fu i c b δ fun y=>d (δ.set i (some y)) P
def B3(i g f:Nat){c:TT}{b:DT}(h:TR K [] c b):TR K Γ c (J0 i g f b) :=
 ⟨fun δ P j k q=>q.mono fun y z=>h.mono _ _ _ k z,fun o q=>by
  obtain ⟨y,v,fp,p,hl,e,r⟩:=q.out o
  exact h.run (o.lend hl e r) p⟩
def Ls(i:Nat)(C:Addr)(ns:List Str)(k:Nat)(δ:Dl)(P:DK):Prop:=∃s ds y,δ[i]?=some (some (.pin s (.ins C ns ds)))/\ds[k]?=some y/\P y
def HZ(i:Nat)(ns:List Str)(k:Nat)(p:Cls K C)(hn:bM K C f)(hi:ns[k]?=some f:=by rfl)(hd:ns.Nodup:=by decide +kernel)(h:i∈Γ:=by decide):EM K Γ [i] (xE K (b7 i) f) (Ls i C ns k) :=
 ⟨fun δ P F m ⟨s,ds,y,e,c,q⟩=>⟨s,ds,y,e,c,m _ q⟩,fun {B0 fps δ σ H Q} o q=>by
  obtain ⟨s,ds,y,e,c,q⟩:=q
  obtain ⟨v,n,rfl,a,dx,xs,E,x,t,j,r⟩:=o.val i _ e
  cases x
  have nd:=(o.own i h).1
  rw[j] at nd
  obtain ⟨w,g,u,B,sub,z⟩:=r.yc (Mn.mp nd).2 c
  have l:∀b∈g,b∈fps i:=fun b hb=>by rw[j];exact ox _ (sub b hb)
  exact⟨.ref s,n,s,C,dx,_,w,rfl,t,p,hn,bq hd hi u,q w H g (Same.refl H) B ⟨z,fun b hb=>((o.own i h).2 b (l b hb)).2,fun b hb=>.inr ⟨i,Gc.mpr rfl,l b hb⟩⟩⟩⟩
theorem Rfs.setM{H:Hp}:∀{ds:List D}{xs:List V}{f:List Addr}{m:Nat}{d:D},Rfs K H ds xs f->f.Nodup->ds[m]?=some d ->
  ∃x g,xs[m]?=some x/\Rf K H d x g/\g.Nodup/\(∀a∈g,a∈f)/\∀(b:Addr) (H':Hp) (d':D),b∈g->(∀u,H b=some u->¬ Im u)->(∀a u,a≠b->H a=some u->H' a=some u)->Rf K H' d' x g->Rfs K H' (ds.set m d') xs f
 |[],_,_,_,_,_,_,e=>by simp at e
 |d::ds,xs,f,0,d',h,nd,e=>by
  obtain ⟨x,r,i,q,rfl,rfl,p,o⟩:=h
  obtain ⟨n1,n2,j⟩:=Ms.mp nd
  obtain rfl:d=d':=by simpa using e
  refine⟨x,i,rfl,p,n1,fun a ha=>Mg _ ha,fun b H' d' hb hm c n=>⟨x,r,i,q,rfl,rfl,n,o.mono (fun a ha u e=>c a u (fun z=>j b hb a ha z.symm) e) fun a u e l=>c a u (fun z=>hm u (z▸e) l) e⟩⟩
 |d::ds,xs,f,m+1,d',h,nd,e=>by
  obtain ⟨x,r,i,q,rfl,rfl,p,o⟩:=h
  obtain ⟨n1,n2,j⟩:=Ms.mp nd
  obtain ⟨y,g,e1,t,s,sub,k⟩:=Rfs.setM (m:=m) o n2 (by simpa using e)
  exact⟨y,g,by simpa using e1,t,s,fun a ha=>L9 _ (sub a ha),fun b H' d' hb hm c n=>⟨x,r,i,q,rfl,rfl,p.mono (fun a ha u e=>c a u (fun z=>j a ha b (sub b hb) z) e) (fun a u e l=>c a u (fun z=>hm u (z▸e) l) e),k b H' d' hb hm c n⟩⟩
def Ok.fld(o:Ok K B0 Γ fps δ σ H){i k:Nat}{s C:Addr}{ns:List Str}{ds:List D}{d:D}(hi:i∈Γ)(e:δ[i]?=some (some (.pin s (.ins C ns ds))))(E:ds[k]?=some d) :
  ∃dx xs x g,σ[i]?=some (some (.ref s))/\H s=some (.ins C dx (ns.zip xs))/\xs[k]?=some x/\Rf K H d x g/\g.Nodup/\(∀a∈g,a∈fps i/\a≠s) /\
   ∀(b:Addr) (H':Hp) (d':D),b∈g->(∀a u,a≠b->H a=some u->H' a=some u)->Mu H' b->Rf K H' d' x g->Ok K B0 Γ (fun j=>if j=i then fps i else fps j) (δ.set i (some (.pin s (.ins C ns (ds.set k d'))))) σ H':=by
 obtain ⟨v,n,rfl,a,dx,xs,B,F,p,h,r⟩:=o.val i _ e
 cases F
 have own:=o.own i hi
 rw[h] at own
 obtain ⟨nd,mu⟩:=own
 obtain ⟨n1,n2⟩:=Mn.mp nd
 obtain ⟨x,g,ex,rg,ng,sub,M⟩:=r.setM n2 E
 refine⟨dx,xs,x,g,n,p,ex,rg,ng,fun a ha=>⟨by rw[h];exact ox _ (sub a ha),fun z=>n1 (z▸sub a ha)⟩,fun b H' d' hb f J t=>?_⟩
 have bs:s≠b:=fun z=>n1 (by rw[z];exact sub b hb)
 have I:∀u,H b=some u->¬ Im u:=(mu b (ox _ (sub b hb))).2.lM
 have G:∀c∈fps i,Mu H' c:=fun c m=>by
  by_cases l:c=b
  .rw[l];exact J
  .rcases (mu c (by rw[<- h];exact m)).2 with ⟨y,z⟩|⟨y,z⟩|⟨y,z⟩|⟨O,L,fs,z⟩
   .exact .inl ⟨y,f _ _ l z⟩
   .exact .inr (.inl ⟨y,f _ _ l z⟩)
   .exact .inr (.inr (.inl ⟨y,f _ _ l z⟩))
   .exact .inr (.inr (.inr ⟨O,L,fs,f _ _ l z⟩))
 refine o.write hi (d':=.pin s (.ins C ns (ds.set k d'))) (fp':=fps i) n ⟨rfl,s,dx,xs,B,rfl,f _ _ bs p,h,M b H' d' hb I f t⟩ (by rw[h];exact nd) G (fun a ha=>.inl ha) fun c u m q=>f c u (fun z=>m (by rw[z,h];exact ox _ (sub b hb))) q
def Im.nt{u:HO}(b:Im u):NT u:=by rcases b with ⟨_,rfl⟩|⟨_,_,rfl⟩|⟨_,_,rfl⟩<;>trivial
theorem Rfs.Ji{H:Hp}:∀{ds:List D}{xs:List V}{f:List Addr}{m:Nat}{d:D},Rfs K H ds xs f->f.Nodup->ds[m]?=some d ->
  ∃x g,xs[m]?=some x/\Rf K H d x g/\g.Nodup/\(∀a∈g,a∈f)/\∀(b:Addr) (H':Hp) (d':D),b∈g->(∀u,H b=some u->¬ Im u)->(∀a u,a≠b->H a=some u->NT u->H' a=some u)->Rf K H' d' x g->Rfs K H' (ds.set m d') xs f
 |[],_,_,_,_,_,_,e=>by simp at e
 |d::ds,xs,f,0,d',h,nd,e=>by
  obtain ⟨x,r,j,s,rfl,rfl,q,p⟩:=h
  obtain ⟨n1,n2,l⟩:=Ms.mp nd
  obtain rfl:d=d':=by simpa using e
  refine⟨x,j,rfl,q,n1,fun a ha=>Mg _ ha,fun b H' d' hb hm c o=>⟨x,r,j,s,rfl,rfl,o,p.lL (fun a ha u e n=>c a u (fun z=>l b hb a ha z.symm) e n) fun a u e i=>c a u (fun z=>hm u (z▸e) i) e i.nt⟩⟩
 |d::ds,xs,f,m+1,d',h,nd,e=>by
  obtain ⟨x,r,j,s,rfl,rfl,q,p⟩:=h
  obtain ⟨n1,n2,l⟩:=Ms.mp nd
  obtain ⟨y,g,e1,v,t,sub,k⟩:=Rfs.Ji (m:=m) p n2 (by simpa using e)
  exact⟨y,g,by simpa using e1,v,t,fun a ha=>L9 _ (sub a ha),fun b H' d' hb hm c o=>⟨x,r,j,s,rfl,rfl,q.lL (fun a ha u e n=>c a u (fun z=>l a ha b (sub b hb) z) e n) (fun a u e i=>c a u (fun z=>hm u (z▸e) i) e i.nt),k b H' d' hb hm c o⟩⟩
def Ok.LY(o:Ok K B0 Γ fps δ σ H){i k:Nat}{s C:Addr}{ns:List Str}{ds:List D}{d:D}(hi:i∈Γ)(e:δ[i]?=some (some (.pin s (.ins C ns ds))))(G:ds[k]?=some d) :
  ∃dx xs x g,σ[i]?=some (some (.ref s))/\H s=some (.ins C dx (ns.zip xs))/\xs[k]?=some x/\Rf K H d x g/\g.Nodup/\(∀a∈g,a∈fps i/\a≠s) /\
   ∀(b:Addr) (H':Hp) (d':D),b∈g->SB K B0 H'->(∀a u,a≠b->H a=some u->NT u->H' a=some u)->Mu H' b->Rf K H' d' x g->Ok K B0 Γ (fun j=>if j=i then fps i else fps j) (δ.set i (some (.pin s (.ins C ns (ds.set k d'))))) σ H':=by
 obtain ⟨v,p,rfl,a,dx,xs,F,I,q,h,r⟩:=o.val i _ e
 cases I
 have own:=o.own i hi
 rw[h] at own
 obtain ⟨nd,mu⟩:=own
 obtain ⟨n1,n2⟩:=Mn.mp nd
 obtain ⟨x,g,ex,rg,ng,sub,P⟩:=r.Ji n2 G
 refine⟨dx,xs,x,g,p,q,ex,rg,ng,fun a ha=>⟨by rw[h];exact ox _ (sub a ha),fun z=>n1 (z▸sub a ha)⟩,fun b H' d' hb t f M E=>?_⟩
 have bs:s≠b:=fun z=>n1 (by rw[z];exact sub b hb)
 have L:∀u,H b=some u->¬ Im u:=(mu b (ox _ (sub b hb))).2.lM
 have J:∀c∈fps i,Mu H' c:=fun c m=>by
  by_cases l:c=b
  .rw[l];exact M
  .rcases (mu c (by rw[<- h];exact m)).2 with ⟨y,z⟩|⟨y,z⟩|⟨y,z⟩|⟨Q,O,fs,z⟩
   .exact .inl ⟨y,f _ _ l z trivial⟩
   .exact .inr (.inl ⟨y,f _ _ l z trivial⟩)
   .exact .inr (.inr (.inl ⟨y,f _ _ l z trivial⟩))
   .exact .inr (.inr (.inr ⟨Q,O,fs,f _ _ l z trivial⟩))
 refine o.xu hi (d':=.pin s (.ins C ns (ds.set k d'))) (fp':=fps i) p ⟨rfl,s,dx,xs,F,rfl,f _ _ bs q trivial,h,P b H' d' hb L f E⟩ (by rw[h];exact nd) J (fun a ha=>.inl ha) t fun c u m B n=>f c u (fun z=>m (by rw[z,h];exact ox _ (sub b hb))) B n
def Ok.G4(o:Ok K B0 Γ fps δ σ H){i:Nat}(hi:i∈Γ){b:Addr}(hb:b∈fps i):Same B0 (fun a=>if a=b then none else H a)/\Same (fun a=>if a=b then none else H a) H:=by
 have key:∀a u,B0 a=some u->a≠b:=fun a u e z=>by
  have:=((o.own i hi).2 b hb).1
  rw[z,this] at e;cases e
 refine⟨⟨fun b u e n=>?_,fun b ps e=>?_,fun P t=>?_⟩,Same.all fun c u e=>?_⟩
 .show (if _ then _ else _)=_
  rw[if_neg (key b u e)]
  exact o.b0.st b u e n
 .obtain ⟨f,z⟩:=o.b0.tb b ps e
  refine⟨f,?_⟩
  show (if _ then _ else _)=_
  rw[if_neg (key b _ e)];exact z
 .obtain ⟨s,p,_⟩:=id t
  obtain ⟨ps,e,m,l⟩:=o.b0.ti P t
  refine⟨ps,?_,m,fun r q z=>?_⟩
  .show (if _ then _ else _)=_
   rw[if_neg (key P _ p)];exact e
  .obtain ⟨c,h,g⟩:=l r q z
   refine⟨c,h,?_⟩
   show (if _ then _ else _)=_
   rw[if_neg (fun j=>xg g (by rw[j];exact ((o.own i hi).2 b hb).2))];exact g
 .by_cases z:c=b
  .simp only[if_pos z] at e;cases e
  .simp only[if_neg z] at e;exact e
def BV{es:List D}{j:Nat}{x:D}:(es.set j x).map D.toV=(es.map D.toV).set j x.toV:=NO
def Cg{es:List D}{j:Nat}{x:D}(h:es.all D.aP=true)(c:x.aP=true):(es.set j x).all D.aP=true:=by
 rw[M4] at h ⊢
 intro y b
 rcases Ni b with z|z
 .exact h y z
 .rw[z];exact c
def Lx(i:Nat)(C:Addr)(ns:List Str)(k:Nat)(b dx:DE)(E:bc)(δ:Dl):Prop:=∃s ds es,δ[i]?=some (some (.pin s (.ins C ns ds)))/\ds[k]?=some (.lst es)/\es.all D.aP=true /\
 b δ fun x=>x.aP=true/\dx δ fun y=>asI [y] fun m=>∃j,ixN es.length m=some j/\E.nx (δ.set i (some (.pin s (.ins C ns (ds.set k (.lst (es.set j x)))))))
def Cq(i:Nat)(ns:List Str)(k:Nat)(R:Cls K C)(hn:bM K C f)(B:ER K Γ te de)(r:ER K Γ tx dx)(n:ns[k]?=some f:=by rfl)(hd:ns.Nodup:=by decide +kernel)(hi:i∈Γ:=by decide) :
  ST K ρ Γr Γl (jZ te (AB (xE K (b7 i) f) tx sJ)) Γ Γ (Lx i C ns k de dx):=by
 intro B0 Dn E fps δ σ H O o h
 obtain ⟨s,ds,es,e,G,t,h⟩:=h
 refine B.run o (B.mono _ _ _ (fun x z v H1 c l=>?_) h)
 obtain ⟨p,z⟩:=z
 obtain ⟨YQ,l⟩:=l
 obtain ⟨rfl,_⟩:=l.aP p
 obtain ⟨QZ,xs,w,g,P,F,hw,_⟩:=(o.same c).fld hi e G
 refine⟨.ref s,P,s,C,QZ,_,w,rfl,F,R,hn,bq hd n hw,r.run (o.same c) (r.mono _ _ _ (fun y z u H2 q L=>?_) z)⟩
 obtain ⟨m,rfl,j,U,z⟩:=bC z
 have M:=(o.same c).same q
 obtain ⟨YV,Z,I,g2,Ul,X,Y,rg,ng,V1,KK⟩:=M.fld hi e G
 have S:ns.zip xs=ns.zip Z:=by
  have:=(q.st _ _ F trivial).symm.trans X
  injection this with this
  injection this
 have T:w=I:=by
  have l1:=bq hd n hw
  have l2:=bq hd n Y
  rw[S,l2] at l1
  exact (MH l1).symm
 subst T
 obtain ⟨b,ys,fq,rfl,hb,rfl,J⟩:=id rg
 obtain ⟨rfl,rfl⟩:=J.jf t
 refine⟨b,_,m,j,rfl,L.int,hb,by rw[mo];exact U,?_⟩
 rw[<- BV]
 exact O.nx (KK b _ (.lst (es.set j x)) Fk (fun a u ha Q=>by rw[aG ha];exact Q) (.inl ⟨_,az⟩) ⟨b,_,[],rfl,az,rfl,Rfs.pG (Cg t p)⟩) z
def Ki(i:Nat)(C:Addr)(ns:List Str)(k:Nat)(dx b:DE)(E:bc)(δ:Dl):Prop:=∃s ds kvs,δ[i]?=some (some (.pin s (.ins C ns ds)))/\ds[k]?=some (.dic kvs) /\
 b δ fun x=>x.aP=true/\dx δ fun y=>asI [y] fun n=>kvs.length<1000/\E.nx (δ.set i (some (.pin s (.ins C ns (ds.set k (.dic (putK kvs (.inl n) x.toV)))))))
def GD(i:Nat)(ns:List Str)(k:Nat)(O:Cls K C)(hn:bM K C f)(q:ER K Γ tx dx)(r:ER K Γ te de)(l:ns[k]?=some f:=by rfl)(hd:ns.Nodup:=by decide +kernel)(hi:i∈Γ:=by decide) :
  ST K ρ Γr Γl (F0 (xE K (b7 i) f) tx te) Γ Γ (Ki i C ns k dx de):=by
 intro B0 Dn E fps δ σ H J o h
 obtain ⟨s,ds,kvs,e,B,h⟩:=h
 refine r.run o (r.mono _ _ _ (fun x z v H1 c j=>?_) h)
 obtain ⟨m,z⟩:=z
 obtain ⟨YQ,j⟩:=j
 obtain ⟨rfl,_⟩:=j.aP m
 obtain ⟨X,xs,w,g,L,t,hw,_⟩:=(o.same c).fld hi e B
 refine⟨.ref s,L,s,C,X,_,w,rfl,t,O,hn,bq hd l hw,q.run (o.same c) (q.mono _ _ _ (fun y z u Y p G=>?_) z)⟩
 obtain ⟨n,rfl,hl,z⟩:=bC z
 have I:=(o.same c).same p
 obtain ⟨YV,U,F,Z,Ul,S,T,rg,ng,V1,KK⟩:=I.fld hi e B
 have P:ns.zip xs=ns.zip U:=by
  have:=(p.st _ _ t trivial).symm.trans S
  injection this with this
  injection this
 have Q:w=F:=by
  have l1:=bq hd l hw
  have l2:=bq hd l T
  rw[P,l2] at l1
  exact (MH l1).symm
 subst Q
 obtain ⟨b,rfl,hb,R,rfl⟩:=id rg
 refine⟨b,upd Y b (.dK (putK kvs (.inl n) x.toV)),rfl,?_,J.nx (KK b _ (.dic (putK kvs (.inl n) x.toV)) Fk (fun a u ha M=>by rw[aG ha];exact M) (.inr (.inl ⟨_,az⟩)) ⟨b,rfl,az,wt R (iP m),rfl⟩) z⟩
 rw[G.int]
 exact Dp.k (k:=Sum.inl n) hb (m3 (NN hl))
theorem yI{v:V}:∀{ns:List Str}{xs:List V}{k:Nat}{f:Str},ns.Nodup->ns[k]?=some f->k<xs.length->j3 f v (ns.zip xs)=ns.zip (xs.set k v)
 |[],_,k,f,_,e,_=>by simp at e
 |_::_,[],k,f,_,_,h=>by simp at h
 |n::ns,x::xs,0,f,hd,e,h=>by
  obtain rfl:n=f:=by simpa using e
  rw[Om,j3,if_pos rfl];rfl
 |n::ns,x::xs,k+1,f,hd,e,h=>by
  obtain ⟨g,c⟩:=Mn.mp hd
  have b:ns[k]?=some f:=by simpa using e
  have i:n≠f:=fun z=>g (by rw[z];exact MP b)
  rw[Om,j3,if_neg i,yI c b (by simpa using h)];rfl
def LK(i:Nat)(C:Addr)(ns:List Str)(k:Nat)(b:DE)(E:bc)(δ:Dl):Prop:=∃s ds y,δ[i]?=some (some (.pin s (.ins C ns ds)))/\ds[k]?=some y/\y.aP=true /\
 b δ fun x=>x.aP=true/\E.nx (δ.set i (some (.pin s (.ins C ns (ds.set k x)))))
theorem Rfs.Ly{H H':Hp}{x:D}(j:x.aP=true):∀{ds:List D}{xs:List V}{b:List Addr}{k:Nat}{y:D},Rfs K H ds xs b->ds[k]?=some y->y.aP=true->(∀a∈b,∀o,H a=some o->H' a=some o)->(∀a o,H a=some o->Im o->H' a=some o)->Rfs K H' (ds.set k x) (xs.set k x.toV) b
 |[],_,_,_,_,_,e,_,_,_=>by simp at e
 |d::ds,xs,b,0,y,h,e,c,k1,k2=>by
  obtain ⟨w,r,l,i,rfl,rfl,g,f⟩:=h
  obtain rfl:d=y:=by simpa using e
  obtain ⟨_,rfl⟩:=g.aP c
  exact⟨x.toV,r,[],i,rfl,rfl,Rf.oB j,f.mono (fun a ha=>k1 a (by simpa using ha)) k2⟩
 |d::ds,xs,b,k+1,y,h,e,c,k1,k2=>by
  obtain ⟨w,r,l,i,rfl,rfl,g,f⟩:=h
  exact⟨w,r.set k x.toV,l,i,rfl,rfl,g.mono (fun a ha=>k1 a (Mg _ ha)) k2,Rfs.Ly j f (by simpa using e) c (fun a ha=>k1 a (L9 _ ha)) k2⟩
def Ii(i:Nat)(ns:List Str)(k:Nat)(b:Cls K C)(hn:bM K C f)(q:ER K Γ te de)(M:ns[k]?=some f:=by rfl)(hd:ns.Nodup:=by decide +kernel)(hl:ns.length<=100:=by decide)(hi:i∈Γ:=by decide) :
  ST K ρ Γr Γl (AE K (b7 i) te f) Γ Γ (LK i C ns k de):=by
 intro B0 Dn E fps δ σ H G o h
 obtain ⟨s,ds,y,e,t,J,h⟩:=h
 refine q.run o (q.mono _ _ _ (fun x z v B F l=>?_) h)
 obtain ⟨n,z⟩:=z
 obtain ⟨S,l⟩:=l
 obtain ⟨rfl,_⟩:=l.aP n
 have m:=o.same F
 obtain ⟨v,p,rfl,a,dx,xs,P,Q,O,j,r⟩:=m.val i _ e
 cases Q
 have own:=m.own i hi
 rw[j] at own
 obtain ⟨nd,mu⟩:=own
 obtain ⟨n1,n2⟩:=Mn.mp nd
 have L:k<xs.length:=by rw[r.length];exact (Ma.mp t).1
 refine⟨.ref s,p,s,C,dx,_,rfl,O,b,hn,by rw[List.length_zip];omega,?_⟩
 rw[yI hd M L]
 have keep:∀c u,c≠s->B c=some u->upd B s (.ins C dx (ns.zip (xs.set k x.toV))) c=some u:=fun c u b g=>by rw[aG b];exact g
 have R:=(mu s Fk).2.lM
 refine G.nx (m.write hi (d':=.pin s (.ins C ns (ds.set k x))) (fp':=fps i) p ⟨rfl,s,dx,_,P,rfl,az,j,r.Ly n t J (fun c b u g=>keep c u (fun z=>n1 (z▸b)) g) fun c u g I=>keep c u (fun z=>R u (z▸g) I) g⟩ (by rw[j];exact nd) (fun c b=>?_) (fun c b=>.inl b) fun c u b g=>keep c u (fun z=>b (by rw[z,j];exact Fk)) g) z
 exact (mu c (by rw[<- j];exact b)).2.upd (.inr (.inr (.inr ⟨_,_,_,rfl⟩)))
end
end L3
namespace L3
open PySem L2
section
variable {K:aad}{ρ:Bool}{Γr Γl Γ Γn:aac}{te ta t1 t2:TE}{de da dx d1 d2:DE}
variable {B0:Hp}{fps:Nat->List Addr}{δ:Dl}{σ:St}{H:Hp}{C:Addr}{f:Str}
def Le(i f e j:Nat)(C:Addr)(ns:List Str)(k:Nat)(l g h:DE)(E:bc)(δ:Dl):Prop:=∃s ds b,δ[i]?=some (some (.pin s (.ins C ns ds)))/\ds[k]?=some (.lst b)/\j<δ.length /\
 Fu i f e δ fun y=>l (δ.set i (some y)) fun z=>asI [z] fun m=>∃r es,ixN b.length m=some r/\b[r]?=some (.lst es)/\es.all D.aP=true /\
  g ((δ.set i (some y)).set j (some (.lst es))) fun x=>x.aP=true/\h ((δ.set i (some y)).set j (some (.lst es))) fun z=>asI [z] fun c=>∃q,ixN es.length c=some q /\
   E.nx ((δ.set j none).set i (some (.pin s (.ins C ns (ds.set k (.lst (b.set r (.lst (es.set q x)))))))))
def Ok.look(o:Ok K B0 Γ fps δ σ H){j:Nat}{y:D}{v:V}{fp:List Addr}(hl:j<δ.length)(r:Rf K H y v fp) :
  Ok K H [] (fun l=>if l=j then fp else fps l) (δ.set j (some y)) (σ.set j (some v)) H:=by
 refine⟨by rw[Mv,Mv];exact o.len,SB.refl o.b0.now,fun l d e=>?_,fun l q=>?_,fun _ h=>(nomatch h),fun _ h=>(nomatch h)⟩
 .by_cases hj:l=j
  .subst hj
   rw[Mj hl] at e;cases e
   exact⟨v,Mj (by rw[o.len];exact hl),by show Rf K H y v (if l=l then fp else fps l);rw[if_pos rfl];exact r⟩
  .rw[KE (MI hj)] at e
   rw[KE (MI hj)]
   show ∃v,_/\Rf K H d v (if l=j then fp else fps l)
   rw[if_neg hj]
   exact o.val l d e
 .by_cases hj:l=j
  .subst hj;exact absurd (Mj hl) (q y)
  .show (if l=j then fp else fps l)=[]
   rw[if_neg hj]
   exact o.non l fun d z=>q d (by rw[KE (MI hj)];exact z)
def IA(i g1 g2 j:Nat)(ns:List Str)(k:Nat)(hc:Cls K C)(hn:bM K C f)(h1:ER K [] t1 d1)(he:ER K [] te de)(h2:ER K [] t2 d2)(p:ns[k]?=some f:=by rfl)(hd:ns.Nodup:=by decide +kernel)(hi:i∈Γ:=by decide)(hj:j∉Γ:=by decide)(QY:i≠j:=by decide) :
  ST K ρ Γr Γl (wV (jZ (tOp (yg K) (xE K (b7 i) f) t1) (eO j)) (jZ te (AB (b7 j) t2 sJ))) Γ Γ (Le i g1 g2 j C ns k d1 de d2):=by
 intro B0 Dn E fps δ σ H kk o h
 obtain ⟨s,ds,n,e,Q,S4,h⟩:=h
 obtain ⟨y,vy,fy,h,S7,Yn,X⟩:=h.out o
 obtain ⟨QZ,xs,w,g,hv,hH,hw,_⟩:=o.fld hi e Q
 refine⟨.ref s,hv,s,C,QZ,_,w,rfl,hH,hc,hn,bq hd p hw,h1.run (o.lend S7 Yn X) (h1.mono _ _ _ (fun z q u H2 F r2=>?_) h)⟩
 obtain ⟨m,rfl,r,es,er,YT,J,q⟩:=bC q
 have I:=o.same F
 obtain ⟨YV,Ug,w2,g2,Ul,Uw,Uk,rg,ng,V1,KK⟩:=I.fld hi e Q
 have ez:ns.zip xs=ns.zip Ug:=by
  have:=(F.st _ _ hH trivial).symm.trans Uw
  injection this with this
  injection this
 have ew:w=w2:=by
  have l1:=bq hd p hw
  have l2:=bq hd p Uk
  rw[ez,l2] at l1
  exact (MH l1).symm
 subst ew
 obtain ⟨b,ys,fq,rfl,hb,rfl,Z⟩:=id rg
 obtain ⟨nb,nq⟩:=Mn.mp ng
 obtain ⟨x,gx,ex,Y,nx,sub,KK2⟩:=Z.setM nq YT
 obtain ⟨c,zs,fz,rfl,hcH,rfl,rz⟩:=id Y
 obtain ⟨rfl,rfl⟩:=rz.jf J
 refine⟨b,ys,m,.ref c,rfl,r2.int,.inl (.inl hb),by unfold atI;rw[Z.length,er];exact ex,?_⟩
 have oL:=(I.lend S7 Yn (X.same F)).look (j:=j) (by rw[Mv];exact S4) Y
 show jZ te (AB (b7 j) t2 sJ) Dn (σ.set j (some (.ref c))) H2
 refine he.run oL (he.mono _ _ _ (fun x z v H3 U G=>?_) q)
 obtain ⟨Qk,z⟩:=z
 obtain ⟨fp3,G⟩:=G
 obtain ⟨rfl,_⟩:=G.aP Qk
 have W9:j<σ.length:=by rw[o.len];exact S4
 refine⟨.ref c,Mj W9,h2.run (oL.same U |>.sub fun _ h=>h) (h2.mono _ _ _ (fun y2 z u2 T s4 r4=>?_) z)⟩
 obtain ⟨m2,rfl,q,eq,z⟩:=bC z
 have B:=U.trans s4
 have o4:=I.same B
 have o5:=o4.JF (σ':=σ.set j (some (.ref c))) j hj (by rw[Mv]) (fun l hl=>KE (MI hl))
 have P:(δ.set j none)[i]?=some (some (.pin s (.ins C ns ds))):=by rw[KE (MI QY)];exact e
 obtain ⟨dx5,Zd,w5,g5,hv5,L,Z9,Zu,ZK,abj,S⟩:=o5.fld hi P Q
 have M:ns.zip Ug=ns.zip Zd:=by
  have:=(B.st _ _ Uw trivial).symm.trans L
  injection this with this
  injection this
 have O:V.ref b=w5:=by
  have l1:=bq hd p Uk
  have l2:=bq hd p Z9
  rw[M,l2] at l1
  exact (MH l1).symm
 subst O
 obtain ⟨b',ys5,YO,eb,YD,rfl,Zs⟩:=id Zu
 cases eb
 rw[B.st _ _ hb trivial] at YD;cases YD
 obtain ⟨ZO,ZG⟩:=Mn.mp ZK
 obtain ⟨x5,gx5,YR,Zo,nx5,Wb,R⟩:=Zs.setM ZG YT
 rw[ex] at YR;cases YR
 obtain ⟨c',zs5,fz5,ec,YB,rfl,Zn⟩:=id Zo
 cases ec
 obtain ⟨rfl,rfl⟩:=Zn.jf J
 refine⟨c,_,m2,q,rfl,r4.int,YB,by rw[mo];exact eq,?_⟩
 rw[<- BV]
 have YX:c∈YO:=Wb c Fk
 have cb:b≠c:=fun z=>ZO (by rw[z];exact YX)
 have keep:∀a u,a≠c->T a=some u->upd T c (.lst ((es.set q x).map D.toV)) a=some u:=fun a u ha t=>by rw[aG ha];exact t
 have Tx:∀u,T c=some u->¬ Im u:=fun u t im=>by rw[YB] at t;cases t;rcases im with ⟨_,z⟩|⟨_,_,z⟩|⟨_,_,z⟩<;>cases z
 refine kk.nx (S c _ (.lst (n.set r (.lst (es.set q x)))) (ox _ YX) keep (.inl ⟨_,az⟩) ⟨b,ys,YO,rfl,keep _ _ cb (B.st _ _ hb trivial),rfl,R c _ _ Fk Tx keep ⟨c,_,[],rfl,az,rfl,Rfs.pG (Cg J Qk)⟩⟩) z
def K0(j i h g:Nat)(C:Addr)(ns:List Str)(k:Nat)(S:DSI)(E:bc)(δ:Dl):Prop:=∃s ds kvs c b,δ[i]?=some (some (.pin s (.ins C ns ds)))/\ds[k]?=some (.dic kvs)/\δ[h]?=some (some c)/\δ[g]?=some (some b) /\
 S [c,b,.dic kvs] fun r f=>∃e,f=.dic e/\E.nx ((δ.set i (some (.pin s (.ins C ns (ds.set k (.dic e)))))).set j (some r))
def yF{S:DSI}{Ex:XK}(j i m c:Nat)(ns:List Str)(k:Nat)(hS:GC S)(Z:Cls K C)(hn:bM K C f)(Y:ns[k]?=some f:=by rfl)(hd:ns.Nodup:=by decide +kernel)(hi:i∈Γ:=by decide)(hj:j∉Γ:=by decide)(h1:m≠i:=by decide)(h2:c≠i:=by decide) :
  ST K ρ Γr Γl (jZ (nG (spI K 2 S) [] Ex (bG (b7 m) (bG (b7 c) (bG (xE K (b7 i) f) iu)))) (eO j)) Γ Γ (K0 j i m c C ns k S):=by
 intro B0 Dn E fps δ σ H T o h
 obtain ⟨s,ds,kvs,J,I,e,ek,e1,e2,h⟩:=h
 obtain ⟨v1,WG,O⟩:=o.val m _ e1
 obtain ⟨y,Ul,M⟩:=o.val c _ e2
 obtain ⟨QZ,xs,w,g,U,hH,hw,rg,ng,V1,KK⟩:=o.LY hi e ek
 obtain ⟨b,rfl,hb,QD,rfl⟩:=id rg
 have p:=(V1 b Fk).1
 have ZT:=((o.own i hi).2 b p).2
 have d1:b∉fps m:=o.dj i hi m h1 b p
 have d2:b∉fps c:=o.dj i hi c h2 b p
 refine⟨v1,WG,y,Ul,.ref s,U,s,C,QZ,_,.ref b,rfl,hH,Z,hn,bq hd Y hw,?_⟩
 refine⟨fun a=>if a=b then none else H a,(fun l=>match l with|0=>fps m|1=>fps c|2=>[b]|_=>[]),[J,I,.dic kvs],⟨rfl,⟨(o.G4 hi p).2,o.b0.tv.same (o.G4 hi p).1⟩,fun l d q=>?_,fun l q=>?_,fun l hl=>?_,fun l hl l' SN a ha=>?_⟩,⟨b,rfl⟩,hS _ _ _ (fun r x' z=>?_) h⟩
 .match l,q with
  |0,q=>cases q;exact⟨v1,rfl,O⟩
  |1,q=>cases q;exact⟨y,rfl,M⟩
  |2,q=>cases q;exact⟨_,rfl,rg⟩
  |l+3,q=>simp at q
 .match l,q with
  |0,q=>exact absurd rfl (q _)
  |1,q=>exact absurd rfl (q _)
  |2,q=>exact absurd rfl (q _)
  |l+3,q=>rfl
 .cases Gc.mp hl
  refine⟨by simp,fun a ha=>?_⟩
  cases Gc.mp ha
  exact⟨if_pos rfl,ZT⟩
 .cases Gc.mp hl
  cases Gc.mp ha
  match l',SN with
  |0,_=>exact d1
  |1,_=>exact d2
  |2,z=>exact absurd rfl z
  |l+3,_=>exact Mr
 .obtain ⟨SW,rfl,z⟩:=z
  intro w H' fp' fpw v B t L nb fb Q9 nw fw
  cases t
  obtain ⟨b',eb,G,Xc,rfl⟩:=id L
  cases eb
  have keep:∀a u,a≠b->H a=some u->NT u->H' a=some u:=fun a u ha X n=>B.st a u (by show (if a=b then none else H a)=_;rw[if_neg ha];exact X) n
  have R:=KK b H' (.dic SW) Fk ⟨(o.G4 hi p).1.trans B,o.b0.tv⟩ keep (.inr (.inl ⟨_,G⟩)) ⟨b,rfl,G,Xc,rfl⟩
  refine T.nx ((R.yS j (Same.refl H') Q9 fun l hl a ha q=>?_).sub fun l hl=>bz.mpr ⟨hl,fun z=>hj (by rw[<- Gc.mp z];exact hl)⟩) z
  obtain ⟨P,q2,q3⟩:=fw a ha
  have QF:a≠b:=fun z=>q3 (by rw[z];exact Fk)
  have F:(if a=b then none else H a)=none:=P
  rw[if_neg QF] at F
  have Q:a∈fps l:=by
   have:a∈(if l=i then fps i else fps l):=q
   by_cases x:l=i
   .rw[if_pos x] at this;rw[x];exact this
   .rw[if_neg x] at this;exact this
  exact o.dom Q F
abbrev DSG:=D->List D->Addr × D->Addr × D->(D->Prop)->Prop
def F2(S:DSG):Prop:=∀x ds g1 g2 (P b:D->Prop),(∀z,P z->b z)->S x ds g1 g2 P->S x ds g1 g2 b
def spG(K:aad)(S:DSG):Sp:=fun vs H Q _=>∃(B:Hp) (s:Addr) (x:D) (f:List Addr) (ws:List V) (ds:List D) (e c:Addr × D),vs=.ref s::ws/\SB K B H/\Rf K H x (.ref s) f/\f.Nodup/\(∀a∈f,B a=none/\Mu H a)/\Rps K B ds ws/\Rp K B e.2 (.ref e.1)/\Rp K B c.2 (.ref c.1) /\
 S x ds e c fun g=>∀H' fp',Same B H'->Rf K H' g (.ref s) fp'->fp'.Nodup->(∀b∈fp',B b=none/\Mu H' b)->Q .non H'
def Hg{S:DSG}{n:Nat}(h:∀x ds c b P,S x ds c b P->ds.length+1=n){vs:List V}{H:Hp}{Q:VK}{E:XK}(k:spG K S vs H Q E):vs.length=n:=by
 obtain ⟨B,s,x,f,ws,ds,c,b,rfl,_,_,_,_,⟨fp,r⟩,_,_,e⟩:=k
 rw[Me,r.length,h _ _ _ _ _ e]
def Lr(i e c:Nat)(C:Addr)(m:Str)(S:DSG)(f:DA)(E:bc)(δ:Dl):Prop:=∃s ns ds a1 a2 e1 e2,δ[i]?=some (some (.pin s (.ins C ns ds)))/\δ[e]?=some (some (.pin a1 e1))/\δ[c]?=some (some (.pin a2 e2))/\m∉ns /\
 f δ fun xs=>S (.ins C ns ds) xs (a1,e1) (a2,e2) fun b=>E.nx (δ.set i (some (.pin s b)))
def HI{S:DSG}{Ex:XK}{w:TA}{L:DA}{m:Str}(i x t:Nat)(hS:F2 S)(p:AS K Γ w L)(hi:i∈Γ:=by decide)(n1:x≠i:=by decide)(n2:t≠i:=by decide) :
  ST K ρ Γr Γl (v5 (Ab C m (spG K S) [] Ex (b7 i) w)) Γ Γ (Lr i x t C m S L):=by
 intro B0 Dn E fps δ σ H Y o h
 obtain ⟨s,ns,ds,a1,a2,e1,e2,e,G,F,hm,h⟩:=h
 obtain ⟨v,B,rfl,a,dx,xs,fq,ea,hH,ef,r⟩:=o.val i _ e
 cases ea
 refine⟨.ref s,B,s,dx,_,rfl,hH,fi hm,p.run o (p.mono _ _ _ (fun ys z vs l fp R U ZS=>?_) h)⟩
 have c:=o.same R
 obtain ⟨v',P,X⟩:=c.val i _ e
 rw[B] at P;cases P
 obtain ⟨w1,_,rfl,k1⟩:=c.val x _ G
 obtain ⟨w2,_,rfl,k2⟩:=c.val t _ F
 have own:=c.own i hi
 have M:∀{d:D}{v:V}{g:List Addr},Rf K l d v g->(∀a∈g,a∉fps i)->Rf K (fun a=>if a∈fps i then none else l a) d v g:=fun p hd=>p.mono (fun a ha u f=>by rw[if_neg (hd a ha)];exact f) fun a u f y=>by
  rw[if_neg (fun z=>(own.2 a z).2.lM u f y)];exact f
 have Wa:Rfs K (fun a=>if a∈fps i then none else l a) ys vs fp:=U.mono (fun a ha u f=>by rw[if_neg (ZS i hi a ha)];exact f) fun a u f y=>by
  rw[if_neg (fun z=>(own.2 a z).2.lM u f y)];exact f
 refine⟨fun a=>if a∈fps i then none else l a,s,.ins C ns ds,fps i,vs,ys,(a1,e1),(a2,e2),by rw[ML],⟨(c.less hi).2,c.b0.tv.same (c.less hi).1⟩,X.2,own.1,fun a ha=>⟨if_pos ha,(own.2 a ha).2⟩,⟨fp,Wa⟩,⟨_,M k1 fun a ha=>fun z=>c.dj i hi x n1 a z ha⟩,⟨_,M k2 fun a ha=>fun z=>c.dj i hi t n2 a z ha⟩,hS _ _ _ _ _ _ (fun Q z H' fp' I T nx J=>?_) z⟩
 .refine Y.nx (c.xu hi (d':=.pin s Q) (fp':=fp') B ⟨rfl,T⟩ nx (fun a ha=>(J a ha).2) (fun a ha=>?_) ⟨(c.less hi).1.trans I,c.b0.tv⟩ fun b u hb f n=>I.st b u (by show (if b∈fps i then none else l b)=_;rw[if_neg hb];exact f) n) z
  have:=(J a ha).1
  by_cases O:a∈fps i
  .exact .inl O
  .have q:(if a∈fps i then none else l a)=none:=this
   rw[if_neg O] at q
   exact .inr ⟨c.b0.free q,fun j Z=>c.dom Z q⟩
def Ok.Jx{B:Hp}(o:Ok K B [] fps δ σ B){a:Addr}{e:D}(r:Rp K B e (.ref a)):∃b,Ok K B [] b (δ++[some (.pin a e)]) (σ++[some (.ref a)]) B:=by
 obtain ⟨fp,r⟩:=r
 refine⟨fun j=>if j=δ.length then fp else fps j,by rw[Mt,Mt,o.len];rfl,o.b0,fun j d q=>?_,fun j q=>?_,fun _ h=>(nomatch h),fun _ h=>(nomatch h)⟩
 .by_cases hj:j=δ.length
  .subst hj
   rw[MD (Mm _),Nat.sub_self] at q
   cases q
   refine⟨.ref a,?_,rfl,?_⟩
   .rw[MD (Nat.le_of_eq o.len),o.len,Nat.sub_self];rfl
   .show Rf K B e (.ref a) (if δ.length=δ.length then fp else fps δ.length)
    rw[if_pos rfl];exact r
  .have hl:j<δ.length:=by
    have:=(Ma.mp q).1
    rw[Mt,List.length_singleton] at this;omega
   rw[Mp hl] at q
   obtain ⟨v,f,c⟩:=o.val j d q
   refine⟨v,?_,?_⟩
   .rw[Mp (by rw[o.len];exact hl)];exact f
   .show Rf K B d v (if j=δ.length then fp else fps j)
    rw[if_neg hj];exact c
 .by_cases hj:j=δ.length
  .subst hj
   exact absurd (by rw[MD (Mm _),Nat.sub_self];rfl) (q (.pin a e))
  .show (if j=δ.length then fp else fps j)=[]
   rw[if_neg hj]
   refine o.non j fun d z=>q d ?_
   rw[Mp (Ma.mp z).1];exact z
def Ok.LM{B:Hp}(o:Ok K B [] fps δ σ B)(f:SB K B H){s:Addr}{x:D}{c:List Addr}(r:Rf K H x (.ref s) c)(nd:c.Nodup)(e:∀a∈c,B a=none/\Mu H a):∃b,Ok K B [0] b (some (.pin s x)::δ) (some (.ref s)::σ) H:=by
 have g:=o.same f.toSame
 refine⟨fun j=>match j with|0=>c|l+1=>fps l,by rw[Me,Me,o.len],f,fun j d q=>?_,fun j q=>?_,fun j hj=>?_,fun j hj l hl a ha=>?_⟩
 .match j,q with
  |0,q=>cases q;exact⟨_,rfl,rfl,r⟩
  |l+1,q=>exact g.val l d (by simpa using q)
 .match j,q with
  |0,q=>exact absurd rfl (q _)
  |l+1,q=>exact o.non l fun d z=>q d (by simpa using z)
 .cases Gc.mp hj
  exact⟨nd,e⟩
 .cases Gc.mp hj
  match l,hl with
  |0,z=>exact absurd rfl z
  |l+1,_=>exact fun z=>o.dom z (e a ha).1
abbrev uP(n:Nat)(s:Addr)(x:D)(ds:List D)(c b:Addr × D):Dl:=some (.pin s x)::(((ds.map some++List.replicate n none)++[some (.pin c.1 c.2)])++[some (.pin b.1 b.2)])
def wC{B:Hp}{n:Nat}{s:Addr}{x:D}{f:List Addr}{ws:List V}{ds:List D}{e c:Addr × D}(h:SB K B H)(r:Rf K H x (.ref s) f)(nd:f.Nodup)(m:∀a∈f,B a=none/\Mu H a)(i:Rps K B ds ws)(p:Rp K B e.2 (.ref e.1))(o:Rp K B c.2 (.ref c.1)) :
  ∃b,Ok K B [0] b (uP n s x ds e c) (some (.ref s)::(((ws.map some++List.replicate n none)++[some (.ref e.1)])++[some (.ref c.1)])) H:=by
 have hl:ws.length=ds.length:=let ⟨_,q⟩:=i;q.length
 obtain ⟨t,g⟩:=mO (N:=List.replicate (ds.length+n) "") i h.tv
 have e1:aJ (List.replicate (ds.length+n) "") ds=ds.map some++List.replicate n none:=by
  unfold aJ;rw[Mw,Nat.add_sub_cancel_left]
 have e2:L2.start (List.replicate (ds.length+n) "") ws=ws.map some++List.replicate n none:=by
  unfold L2.start;rw[Mw,hl,Nat.add_sub_cancel_left]
 rw[e1,e2] at g
 obtain ⟨u,l⟩:=g.Jx p
 obtain ⟨v,j⟩:=l.Jx o
 exact j.LM h r nd m
abbrev JE(s:Addr)(P:D->Prop):bc:=⟨fun δ=>iW δ 0 fun a x=>a=s/\P x,fun _ _=>False,fun _=>False,fun _=>False⟩
def xa(G:aac)(t:TS):TS:=fun Dn σ H=>∃σ':St,σ'.length=σ.length/\(∀i,i∉G->σ'[i]?=σ[i]?)/\t Dn σ' H
theorem rf{N:List Str}{m n:Nat}{s:Addr}{ws:List V}{a1 a2:Addr}(hw:ws.length=m)(c:N.length=m+n+3){G:aac}(e:G=[m+n+1,m+n+2]) :
  (some (V.ref s)::(((ws.map some++List.replicate n none)++[some (.ref a1)])++[some (.ref a2)])).length=(L2.start N (.ref s::ws)).length/\∀i,i∉G->(some (V.ref s)::(((ws.map some++List.replicate n none)++[some (.ref a1)])++[some (.ref a2)]))[i]?=(L2.start N (.ref s::ws))[i]?:=by
 subst e
 unfold L2.start
 have b:N.length - (V.ref s::ws).length=n+2:=by rw[Me,c,hw];omega
 rw[b]
 refine⟨by simp [hw],fun i hi=>?_⟩
 simp only[Mb,Mr,or_false,not_or] at hi
 cases i with
 |zero=>rfl
 |succ i =>
  show ((ws.map some++List.replicate n none)++[some (.ref a1)]++[some (.ref a2)])[i]?=(ws.map some++List.replicate (n+2) none)[i]?
  by_cases g:i<m
  .rw[M0,M0,Mp (by rw[mo];omega),Mp (by rw[mo];omega)]
  .by_cases f:i<m+n
   .rw[M0,Mp (by rw[Mt,mo,Mw];omega),MD (by rw[mo];omega),MD (by rw[mo];omega),MQ,MQ,if_pos (by rw[mo];omega),if_pos (by rw[mo];omega)]
   .rw[List.getElem?_eq_none (by simp [hw];omega),List.getElem?_eq_none (by simp [hw];omega)]
def IJ{N:List Str}{S:DSG}{t:TS}{d:DS}{G:aac}(m n:Nat)(y:ST K true [0] [] t [0] [0] d)(C:N.length=m+n+3)(F:G=[m+n+1,m+n+2])(hd:∀s x ds c b P,S x ds c b P->ds.length=m/\d (JE s P) (uP n s x ds c b)) :
  ∀{vs H Q E},spG K S vs H Q E->xa G t { nx:=fun _ H'=>Q .non H',rt:=Q } (L2.start N vs) H:=by
 rintro vs H Q E ⟨B,s,x,R,ws,ds,c,b,rfl,l,p,nx,L,g,J,I,h⟩
 obtain ⟨hl,q⟩:=hd s x ds c b _ h
 obtain ⟨j,o⟩:=wC (n:=n) l p nx L g J I
 have hw:ws.length=m:=by obtain ⟨_,r⟩:=g;rw[r.length];exact hl
 obtain ⟨e1,e2⟩:=rf (s:=s) (a1:=c.1) (a2:=b.1) hw C F
 refine⟨_,e1,e2,y (E:=JE s _) ⟨fun {U T X H'} f z=>?_,fun o (z:False)=>z.elim,fun o (z:False)=>z.elim,fun o r i (z:False)=>z.elim⟩ o q⟩
 obtain ⟨a,M,e,rfl,z⟩:=cN z
 obtain ⟨v,O,rfl,u⟩:=f.val 0 _ e
 have own:=f.own 0 (Gc.mpr rfl)
 exact z H' _ f.b0.toSame u own.1 own.2
abbrev DSO:=D->Addr × D->Addr × D->DK->Prop
def F8(S:DSO):Prop:=∀x g1 g2 (P b:DK),(∀z,P z->b z)->S x g1 g2 P->S x g1 g2 b
def spO(K:aad)(S:DSO):Sp:=fun vs H Q _=>∃(B:Hp) (s:Addr) (x:D) (e:List Addr) (c b:Addr × D),vs=[.ref s]/\SB K B H/\Rf K H x (.ref s) e/\e.Nodup/\(∀a∈e,B a=none/\Mu H a)/\Rp K B c.2 (.ref c.1)/\Rp K B b.2 (.ref b.1) /\
 S x c b fun r=>∀w H' fpw,Same B H'->Rf K H' r w fpw->fpw.Nodup->(∀a∈fpw,B a=none/\Mu H' a)->Q w H'
def HK{S:DSO}{vs:List V}{H:Hp}{Q:VK}{E:XK}(k:spO K S vs H Q E):vs.length=1:=by
 obtain ⟨B,s,x,e,c,b,rfl,_⟩:=k;rfl
def IU{N:List Str}{S:DSO}{t:TS}{d:DS}{G:aac}(n:Nat)(j:ST K true [] [] t [0] Γn d)(y:N.length=n+3)(l:G=[n+1,n+2])(hd:∀s x c b P,S x c b P->d (qT P) (uP n s x [] c b)) :
  ∀{vs H Q E},spO K S vs H Q E->xa G t { nx:=fun _ H'=>Q .non H',rt:=Q } (L2.start N vs) H:=by
 rintro vs H Q E ⟨B,s,x,C,c,b,rfl,f,g,nx,v,u,p,h⟩
 have q:=hd s x c b _ h
 obtain ⟨e,o⟩:=wC (n:=n) (ds:=[]) (ws:=[]) f g nx v ⟨[],rfl,rfl⟩ u p
 obtain ⟨e1,e2⟩:=rf (m:=0) (n:=n) (N:=N) (s:=s) (a1:=c.1) (a2:=b.1) (ws:=[]) rfl (by omega) (G:=G) (by rw[l];simp)
 refine⟨_,e1,e2,j (E:=qT _) ⟨fun {fps δ σ H'} o z=>z _ H' [] o.b0.toSame ⟨rfl,rfl⟩ Nb fun _ h=>(nomatch h),fun o (z:False)=>z.elim,fun o (z:False)=>z.elim,fun o r i z=>z _ _ _ o.b0.toSame r (i rfl).nd fun a ha=>⟨(i rfl).nw a ha,(i rfl).mu a ha⟩⟩ o q⟩
def LD(C:Addr)(m:Str)(i:DSp)(h:DSO)(δ:Dl)(P:DK):Prop:=∃f e c b,δ[0]?=some (some f)/\δ[1]?=some (some e)/\δ[2]?=some (some c)/\δ[3]?=some (some b)/\c.isRef=true/\b.isRef=true /\
 ∀a2 g,i [f,e,.pin a2 c,.pin g b] fun x=>(∃ns dd,x=.ins C ns dd/\m∉ns)/\h x (a2,c) (g,b) P
def IL{u:DSp}{t:DSO}{E E':XK}{m:Str}(F:bo u)(G:F8 t):EM K Γ [] (Ab C m (spO K t) [] E (GP C (spN K C u) [] E' (bG (b7 0) (bG (b7 1) (bG (b7 2) (bG (b7 3) iu))))) iu) (LD C m u t) :=
 ⟨fun δ P P' k ⟨l,j,i,g,s,e1,e2,q,f,c,h⟩=>⟨l,j,i,g,s,e1,e2,q,f,c,fun a2 b=>F _ _ _ (fun x z=>⟨z.1,G _ _ _ _ _ k z.2⟩) (h a2 b)⟩,fun {B0 fps δ σ H Q} o h=>by
  obtain ⟨l,j,i,g,s,e1,e2,q,X,U,h⟩:=h
  obtain ⟨n,O,T⟩:=o.val 0 _ s
  obtain ⟨v1,M,S⟩:=o.val 1 _ e1
  obtain ⟨v2,L,f⟩:=o.val 2 _ e2
  obtain ⟨v3,J,c⟩:=o.val 3 _ q
  obtain ⟨a2,rfl⟩:=f.isRef X
  obtain ⟨b,rfl⟩:=c.isRef U
  refine⟨n,O,v1,M,.ref a2,L,.ref b,J,fun x dx Y RW QC=>?_⟩
  have sx:Same H (upd H dx (.own x)):=Same.kR RW
  have B:(upd H dx (.own x)) x=none:=by rw[aG (MI QC)];exact Y
  refine⟨x,dx,[n,v1,.ref a2,.ref b],[l,j,.pin a2 i,.pin b g],upd H dx (.own x),rfl,B,rfl,⟨_,n,_,_,_,rfl,rfl,T.same sx,v1,_,_,_,rfl,rfl,S.same sx,.ref a2,_,_,_,rfl,rfl,⟨rfl,f.same sx⟩,.ref b,_,_,[],rfl,rfl,⟨rfl,c.same sx⟩,rfl,rfl⟩,(o.b0.trans sx).now,F _ _ _ ?_ (h a2 b)⟩
  rintro d ⟨⟨ns,dd,rfl,hm⟩,z⟩ R4 xs Tq y H' e I p Z Rj v
  cases e
  refine⟨rfl,x,dx,_,rfl,p,fi hm,upd H dx (.own x),x,.ins C ns dd,x::y,(a2,i),(b,g),rfl,⟨I,(o.b0.trans sx).now⟩,⟨x,dx,xs,y,rfl,p,rfl,Z⟩,Mn.mpr ⟨fun h=>(v x h).2.1 rfl,Rj⟩,fun a ha=>?_,⟨_,f.same sx⟩,⟨_,c.same sx⟩,G _ _ _ _ _ (fun r z w H3 fpw Zm R nd fr=>?_) z⟩
  .rcases Mb.mp ha with e|h
   .rw[e];exact⟨B,.inr (.inr (.inr ⟨_,_,_,p⟩))⟩
   .exact⟨(v a h).1,(v a h).2.2⟩
  .exact z w H3 fpw (sx.trans Zm) R ⟨nd,fun a ha=>(fr a ha).2,fun a ha=>.inl (sx.free (fr a ha).1)⟩⟩
abbrev endsN(C s:Addr)(P:D->Prop):bc:=⟨fun δ=>iW δ 0 fun a x=>a=s/\(∃ns dd,x=.ins C ns dd)/\P x,fun _ _=>False,fun _=>False,fun _=>False⟩
def Iz(K:aad)(C:Addr)(S:DSp):Sp:=fun vs H Q _=>∃(x dx:Addr) (ws:List V) (ds:List D) (B0:Hp),vs=.ref x::ws/\B0 x=none/\H=upd B0 x (.ins C dx [])/\Rps K B0 ds ws/\gw K B0 /\
 S ds fun d=>∀(ns:List Str) (xs:List V) (dd:List D) (b:List Addr) (c:Addr) (H':Hp),d=.ins C ns dd->Same B0 H'->H' x=some (.ins C c (ns.zip xs))->Rfs K H' dd xs b->b.Nodup->(∀a∈b,B0 a=none/\a≠x/\Mu H' a)->Q .non H'
def Ey{S:DSp}{n:Nat}(h:∀ds P,S ds P->ds.length=n){vs:List V}{H:Hp}{Q:VK}{E:XK}(k:Iz K C S vs H Q E):vs.length=n+1:=by
 obtain ⟨x,dx,ws,ds,B0,rfl,_,_,r,_,b⟩:=k
 obtain ⟨fp,r⟩:=r
 rw[Me,r.length,h _ _ b]
def FX{S:DSp}{E:XK}{w:TA}{n:DA}(j:bo S)(hi:∀ds P,S ds P->S ds fun d=>(∃ns dd,d=.ins C ns dd)/\P d)(c:AR K Γ w n):EM K Γ [] (GP C (Iz K C S) [] E w) (tY S n) :=
 ⟨fun δ P I k h=>c.mono _ _ _ (fun y z=>j _ _ _ k z) h,
 fun {B0 fps δ σ H Q} o q=>c.run o (c.mono _ _ _ (fun ys z vs g b r=>by
  intro x dx i u B
  have sx:Same g (upd g dx (.own x)):=Same.kR u
  refine⟨x,dx,vs,ys,upd g dx (.own x),by rw[ML],by rw[aG (MI B)];exact i,rfl,r.same sx,(o.b0.trans (b.trans sx)).now,j _ _ _ ?_ (hi _ _ z)⟩
  rintro d ⟨⟨ns,dd,rfl⟩,z⟩ G xs F m v H' e p l s t f
  cases e
  refine⟨rfl,z (.ref x) H' (x::m) (b.trans (sx.trans p)) ⟨x,v,xs,m,rfl,l,rfl,s⟩ ⟨Mn.mpr ⟨fun h=>(f x h).2.1 rfl,t⟩,fun a ha=>?_,fun a ha=>?_⟩⟩
  .rcases Mb.mp ha with e|h
   .rw[e];exact .inr (.inr (.inr ⟨_,_,_,l⟩))
   .exact (f a h).2.2
  .rcases Mb.mp ha with e|h
   .rw[e];exact .inl (b.free i)
   .exact .inl (b.free (sx.free (f a h).1))) q)⟩
def INB(K:aad)(C:Addr)(ns0:List Str)(t:TS)(d:List D->Dl->DK->Prop):Prop :=
 ∀⦃B0:Hp⦄ ⦃fps:Nat->List Addr⦄ ⦃δ:Dl⦄ ⦃σ:St⦄ ⦃H:Hp⦄ ⦃x dx:Addr⦄ ⦃xs0:List V⦄ ⦃ds0:List D⦄ ⦃fq0:List Addr⦄ ⦃R:Hp->Prop⦄ ⦃W:VK⦄,Ok K B0 [] fps (none::δ) σ H->σ[0]?=some (some (.ref x))->H x=some (.ins C dx (ns0.zip xs0))->B0 x=none->ns0.length=xs0.length->Rfs K H ds0 xs0 fq0->fq0.Nodup ->
  (∀a∈fq0,B0 a=none/\a≠x/\Mu H a)->(∀i,∀a∈fps i,B0 a≠none) ->
  d ds0 δ (fun y=>∀(ns:List Str) (xs:List V) (dd:List D) (b:List Addr) (c:Addr) (H':Hp),y=.ins C ns dd->Same B0 H'->H' x=some (.ins C c (ns.zip xs))->Rfs K H' dd xs b->b.Nodup->(∀a∈b,B0 a=none/\a≠x/\Mu H' a)->R H')->t { nx:=fun _ H'=>R H',rt:=W } σ H
def uz{ns0:List Str}{t:TS}{d:List D->Dl->DK->Prop}(r:Cls K C)(hn:bM K C f)(b:EM K [] [] ta da)(p:f∉ns0:=by decide +kernel)(hl:ns0.length<100:=by decide)(h:INB K C (ns0++[f]) t d) :
  INB K C ns0 (wV (AE K (b7 0) ta f) t) (fun ds0 δ P=>da (none::δ) fun y=>d (ds0++[y]) δ P):=by
 intro B0 fps δ σ H x dx xs0 ds0 fq0 R W o c l hb g m F n e q
 refine ue (Dn:={ nx:=t { nx:=fun _ H'=>R H',rt:=W },rt:=W }) r hn b o c l hb g m F n (fun i z=>e i x z hb) p hl (b.mono _ _ _ (fun y z H' v G j E B u s=>?_) q)
 exact h j c E hb (by simp [g]) B u s e z
def Gw{ns0:List Str}{t:TS}{d:DS}(B:ST K true [0] [] t [0] [0] d):INB K C ns0 t (fun ds0 δ P=>∀s,d (endsN C s P) (some (.pin s (.ins C ns0 ds0))::δ)):=by
 intro B0 fps δ σ H x dx xs0 ds0 fq0 R W o I m hb Z F O f n q
 have u:Ok K B0 [0] (fun j=>match j with|0=>x::fq0|l+1=>fps (l+1)) (some (.pin x (.ins C ns0 ds0))::δ) σ H:=by
  refine⟨o.len,o.b0,fun j d e=>?_,fun j e=>?_,fun j hj=>?_,fun j hj l hl a ha=>?_⟩
  .match j,e with
   |0,e=>cases e;exact⟨.ref x,I,rfl,x,dx,xs0,fq0,rfl,m,rfl,F⟩
   |l+1,e=>exact o.val (l+1) d (by simpa using e)
  .match j,e with
   |0,e=>exact absurd rfl (e _)
   |l+1,e=>exact o.non (l+1) fun d z=>e d (by simpa using z)
  .cases Gc.mp hj
   refine⟨Mn.mpr ⟨fun z=>(f x z).2.1 rfl,O⟩,fun a ha=>?_⟩
   rcases Mb.mp ha with z|z
   .rw[z];exact⟨hb,.inr (.inr (.inr ⟨_,_,_,m⟩))⟩
   .exact⟨(f a z).1,(f a z).2.2⟩
  .cases Gc.mp hj
   match l,hl with
   |0,z=>exact absurd rfl z
   |l+1,_ =>
    intro z
    rcases Mb.mp ha with y|y
    .exact n (l+1) a z (by rw[y];exact hb)
    .exact n (l+1) a z (f a y).1
 refine B (E:=endsN C x _) ⟨fun {X U Y S} g z=>?_,fun o (z:False)=>z.elim,fun o (z:False)=>z.elim,fun o r i (z:False)=>z.elim⟩ u (q x)
 obtain ⟨a,y,e,rfl,⟨ns,dd,rfl⟩,z⟩:=cN z
 obtain ⟨v,T,rfl,b,Q,xs,J,M,G,L,p⟩:=g.val 0 _ e
 cases M
 have own:=g.own 0 (Gc.mpr rfl)
 rw[L] at own
 obtain ⟨n1,n2⟩:=Mn.mp own.1
 exact z ns xs dd J Q S rfl g.b0.toSame G p n2 fun c h=>⟨(own.2 c (ox _ h)).1,fun z=>n1 (z▸h),(own.2 c (ox _ h)).2⟩
def Hn{N:List Str}{S:DSp}{t:TS}{d:List D->Dl->DK->Prop}(c:INB K C [] t d)(hd:∀ds P,S ds P->d [] (aJ (N.drop 1) ds) P)(g:1<=N.length) :
  ∀{vs H Q E},Iz K C S vs H Q E->t { nx:=fun _ H'=>Q .non H',rt:=Q } (L2.start N vs) H:=by
 rintro vs H Q E ⟨x,dx,ws,ds,B0,rfl,hb,rfl,r,tv,h⟩
 obtain ⟨fps,o⟩:=mO (N:=N.drop 1) r tv
 have sx:Same B0 (upd B0 x (.ins C dx [])):=Same.kR hb
 have b:=o.same sx
 have f:L2.start N (.ref x::ws)=some (.ref x)::L2.start (N.drop 1) ws:=by
  unfold L2.start
  rw[Ml,List.cons_append,Me,Nk,show N.length - (ws.length+1)=N.length - 1 - ws.length by omega]
 rw[f]
 refine c (B0:=B0) (fps:=fun i=>match i with|0=>[]|j+1=>fps j) (δ:=aJ (N.drop 1) ds) (x:=x) (dx:=dx) (xs0:=[]) (ds0:=[]) (fq0:=[]) (R:=fun H'=>Q .non H') ⟨by rw[Me,Me,b.len],⟨sx,tv⟩,fun i dd e=>?_,fun i e=>?_,fun _ h=>(nomatch h),fun _ h=>(nomatch h)⟩ rfl az hb rfl ⟨rfl,rfl⟩ Nb (fun _ h=>(nomatch h)) (fun i a ha=>?_) (hd ds _ h)
 .cases i with
  |zero=>simp at e
  |succ j=>exact b.val j dd (by simpa using e)
 .cases i with
  |zero=>rfl
  |succ j=>exact b.non j fun dd z=>e dd (by simpa using z)
 .cases i with
  |zero=>nomatch ha
  |succ j=>exact o.dom ha
def xk(xs:List D)(P:DK):Prop:=match xs with|[x]=>ui x fun kvs=>∃ns:aab,kvs.map (·.1)=ns.map Sum.inl/\ns.length<64/\∀b:aab,b.Perm ns->b.Pairwise (·<=·)->P (dI b)|_=>False
def sM{kvs:List (Key × V)}{P:DK}:xk [.dic kvs] P↔∃ns:aab,kvs.map (·.1)=ns.map Sum.inl/\ns.length<64/\∀b:aab,b.Perm ns->b.Pairwise (·<=·)->P (dI b):=M8
def CB:nE K (fun xs H Q=>∃(a:Addr) (kvs:List (Key × V)) (ns:aab),xs=[.ref a]/\H a=some (.dK kvs)/\kvs.map (·.1)=ns.map Sum.inl/\ns.length<64/\∀(l:Addr) (c:aab),H l=none->c.Perm ns->c.Pairwise (·<=·)->Q (.ref l) (upd H l (.lst (c.map V.int)))) xk :=
 ⟨fun xs P j k h=>by
  unfold xk at h ⊢
  revert h
  split
  .exact fun h=>by obtain ⟨kvs,rfl,ns,e,z⟩:=gD h;exact⟨ns,e,z.1,fun c a b=>k _ (z.2 c a b)⟩
  .exact id,
 fun {H xs vs Q} r h=>by
  unfold xk at h
  split at h
  .obtain ⟨v,rfl,f⟩:=r.one
   obtain ⟨kvs,rfl,ns,e,z⟩:=gD h
   obtain ⟨fp,a,rfl,ha,_,_⟩:=f
   exact⟨a,kvs,ns,rfl,ha,e,z.1,fun l c hl g i=>z.2 c g i _ _ [l] (Same.kR hl) (Rf.ofInts az) (Nw.one hl az).any⟩
  .exact h.elim⟩
end
end L3
namespace L3
open PySem L2
def rC{X:Cx}{b:List Stmt}{t:TS}(G:aac)(c:∀i∈G,∀x,X.N[i]?=some x->X.env.scope.names.lookup x=none)(h:PSs X b t):PSs X b (xa G t):=DQ G c h
end L3
namespace L3
namespace Fl
open PySem L2
def mQ{l:aab}{i j:Nat}{v:Int}(h:i<l.length):(l.set i v).getD j 0=if i=j then v else l.getD j 0:=by
 rw[gV,MU,gV]
 by_cases e:i=j
 .rw[if_pos e,if_pos e,if_pos h];rfl
 .rw[if_neg e,if_neg e]
structure Wy(n m:Nat)(low high t:aaa)(w:aab)(g:Nat)(ps:List (Nat × Nat)):Prop where
 hd:∃p r,ps=p::r/\p.2=g
 rg:∀p∈ps,p.1<n/\p.2<m
 n1:(ps.map Prod.fst).Nodup
 n2:(ps.map Prod.snd).Nodup
 up:∀p∈ps,cellAt t p.1 p.2<cellAt high p.1 p.2
 lk:Lk (fun a b=>cellAt low a b<cellAt t a b) ps
 ls:∃p,ps.getLast?=some p/\0<w.getD p.1 0
theorem t8{n m:Nat}:∀{ps:List (Nat × Nat)},(∀p∈ps,p.1<n/\p.2<m)->∀p∈cellsOf ps,p.1<n/\p.2<m
 |[],_,p,h=>nomatch h
 |[q],k,p,h=>by cases Gc.mp h;exact k q Fk
 |q::q2::r,k,p,h=>by
  rcases Mb.mp h with e|h
  .rw[e];exact k q Fk
  .rcases Mb.mp h with e|h
   .rw[e];exact⟨(k q Fk).1,(k q2 (ox _ Fk)).2⟩
   .exact t8 (ps:=q2::r) (fun z b=>k z (ox _ b)) p h
theorem Gq{L c:Nat->Nat->Prop}:∀{ps:List (Nat × Nat)},Lk L ps->Lk c ps->Lk (fun a b=>L a b/\c a b) ps
 |[],_,_=>trivial
 |[_],_,_=>trivial
 |p::q::r,h,k=>⟨⟨h.1,k.1⟩,Gq (ps:=q::r) h.2 k.2⟩
def Hw{n m:Nat}{f cols:aab}{low high t:aaa}{w r:aab}{g:Nat}{ps:List (Nat × Nat)}{p:Nat × Nat}{x:Int}(s:St n m f cols low high t w r)(hw:Wy n m low high t w g ps)(B:ps.getLast?=some p)(T:1<=x)
  (R:x<=w.getD p.1 0) (S:x<=r.getD g 0) (al:Al (fun c=>x<=cellAt high c.1 c.2 - cellAt t c.1 c.2) (fun c=>x<=cellAt t c.1 c.2 - cellAt low c.1 c.2) (cellsOf ps)) :
  St n m f cols low high (ap x (cellsOf ps) t) (w.set p.1 (w.getD p.1 0 - x)) (r.set g (r.getD g 0 - x))/\p.1<n/\g<m:=by
 have Q:p∈ps:=List.mem_of_getLast? B
 obtain ⟨pn,U⟩:=hw.rg p Q
 obtain ⟨q,X,I,F⟩:=hw.hd
 have E:g<m:=by rw[<- F];exact (hw.rg q (by rw[I];exact Fk)).2
 obtain ⟨a1,a2⟩:=A3.mp al
 obtain ⟨k1,k2,k3,L⟩:=Jk (x:=x) s.rt (t8 hw.rg)
 have P:=Gq hw.lk a2
 refine⟨⟨k1,by rw[Mv];exact s.wl,by rw[Mv];exact s.rl,fun i j hi hj=>?_,fun i hi=>?_,fun j hj=>?_,fun j hj=>?_,fun i hi hn j hj=>?_⟩,pn,E⟩
 .have b:=s.bd i j hi hj
  rw[k2]
  rcases EH (x:=x) (a:=i) (b:=j) hw.n1 hw.n2 P with z|⟨z,O⟩|⟨z,J,_⟩
  .rw[z];omega
  .have:=a1 (i,j) O
   dsimp only at this
   rw[z];omega
  .dsimp only at J
   rw[z];omega
 .rw[k3,CY B,mQ (by rw[s.wl];exact pn),s.rs i hi]
  by_cases z:p.1=i
  .rw[if_pos z,if_pos z,<- z];omega
  .rw[if_neg z,if_neg z];omega
 .rw[L,I,Ce,mQ (by rw[s.rl];exact E),s.cs j hj,F]
  by_cases z:g=j
  .rw[if_pos z,if_pos z,<- z];omega
  .rw[if_neg z,if_neg z];omega
 .rw[mQ (by rw[s.rl];exact E)]
  by_cases z:g=j
  .rw[if_pos z];omega
  .rw[if_neg z];exact s.rp j hj
 .rw[mQ (by rw[s.wl];exact pn)] at hn
  by_cases z:p.1=i
  .rw[if_pos z] at hn;omega
  .rw[if_neg z] at hn
   rw[k2]
   have e:dl x (cellsOf ps) i j=0:=by
    have st:∀y∈ps,y.1=i->∃b,b<m/\cellAt low i b<cellAt t i b\/0<w.getD i 0:=by
     intro y v e
     have:∀{o:List (Nat × Nat)},Lk (fun a b=>cellAt low a b<cellAt t a b) o->(∀z∈o,z.1<n/\z.2<m)->y∈o->o.getLast?=some p->y=p\/∃b,b<m/\cellAt low y.1 b<cellAt t y.1 b:=by
      intro o
      induction o with
      |nil=>intro _ _ h;nomatch h
      |cons a l ih =>
       intro H G u C
       cases l with
       |nil =>
        cases Gc.mp u
        left;simpa using C
       |cons b l =>
        rcases Mb.mp u with e|u
        .right
         rw[e]
         exact⟨b.2,(G b (ox _ Fk)).2,H.1⟩
        .exact ih H.2 (fun z M=>G z (ox _ M)) u (by rw[Nv] at C;exact C)
     rcases this hw.lk hw.rg v B with q|⟨b,hb,q⟩
     .exact absurd (by rw[<- q];exact e) z
     .exact⟨b,.inl ⟨hb,by rw[<- e];exact q⟩⟩
    refine Bg fun y v e=>?_
    obtain ⟨b,q⟩:=st y v e
    rcases q with ⟨hb,q⟩|q
    .have:=s.ng i hi hn b hb;omega
    .omega
   rw[e,s.ng i hi hn j hj];omega
def oV:Option Nat->V|none=>.non|some c=>.int (c:Int)
def oD:Option Nat->D|none=>.non|some g=>.int (g:Int)
def kA(as:List (Nat × Option Nat)):List (Key × V):=as.map fun p=>(Sum.inl (p.1:Int),oV p.2)
abbrev kys(as:List (Nat × Option Nat)):aac:=as.map Prod.fst
def CJ{as:List (Nat × Option Nat)}:(kA as).map (·.1)=((kys as).map fun (c:Nat)=>(c:Int)).map Sum.inl:=by
 unfold kA;rw[MB,MB,MB];rfl
theorem xN:∀{as:List (Nat × Option Nat)}{c:Nat},c∉kys as->ju (kA as) (.inl (c:Int))=none
 |[],c,_=>rfl
 |p::as,c,h=>by
  rw[kys,Ml,Mb,not_or] at h
  show ju ((Sum.inl (p.1:Int),oV p.2)::kA as) _=none
  rw[kP (fun z=>h.1 (by have:=Sum.inl.inj z;omega)),xN h.2]
theorem su:∀{as:List (Nat × Option Nat)}{c:Nat}{o:Option Nat},(kys as).Nodup->(c,o)∈as->ju (kA as) (.inl (c:Int))=some (oV o)
 |[],c,o,_,h=>nomatch h
 |p::as,c,o,nd,h=>by
  rw[kys,Ml] at nd
  obtain ⟨n1,n2⟩:=Mn.mp nd
  show ju ((Sum.inl (p.1:Int),oV p.2)::kA as) _=_
  rcases Mb.mp h with e|h
  .subst e;exact md rfl
  .rw [kP (fun z => n1 (by have : p.1 = c := by have := Sum.inl.inj z; omega
                           rw[this];exact Mh.mpr ⟨_,h,rfl⟩)),su n2 h]
def Lv{as:List (Nat × Option Nat)}{c:Nat}:(ju (kA as) (.inl (c:Int))).isSome=decide (c∈kys as):=by
 by_cases h:c∈kys as
 .rw[decide_eq_true h]
  induction as with
  |nil=>nomatch h
  |cons p as ih =>
   show (ju ((Sum.inl (p.1:Int),oV p.2)::kA as) _).isSome=_
   by_cases e:p.1=c
   .rw[md (by rw[e])];rfl
   .rw[kP (fun z=>e (by have:=Sum.inl.inj z;omega))]
    rw[kys,Ml] at h
    rcases Mb.mp h with z|z
    .exact absurd z.symm e
    .exact ih z
 .rw[decide_eq_false h,xN h];rfl
def EG{as:List (Nat × Option Nat)}{c:Nat}{o:Option Nat}(h:c∉kys as):putK (kA as) (.inl (c:Int)) (oV o)=kA (as++[(c,o)]):=by
 rw[FY _ (xN h)]
 unfold kA;rw[MC];rfl
def jE{B:Nat}{l:aac}(nd:l.Nodup)(h:∀a∈l,a<B):l.length<=B:=Mat.zi nd h
structure Rc(n m:Nat)(low high t:aaa)(w:aab)(as bs:List (Nat × Option Nat))(rk ck:Nat->Nat)(D:Nat):Prop where
 na:(kys as).Nodup
 nb:(kys bs).Nodup
 la:∀i∈kys as,i<n/\rk i<=D
 lb:∀j∈kys bs,j<m/\ck j<=D
 pa:∀i o,(i,o)∈as->(o=none/\0<w.getD i 0)\/∃c,o=some c/\c∈kys bs/\ck c<rk i/\cellAt low i c<cellAt t i c
 pb:∀j o,(j,o)∈bs->∃s,o=some s/\s∈kys as/\rk s<ck j/\cellAt t s j<cellAt high s j
 st:∀i,i<n->0<w.getD i 0->i∈kys as
abbrev nw(b:List (Nat × Nat)):List (Nat × Option Nat):=b.map fun p=>(p.1,some p.2)
def fk{b:List (Nat × Nat)}:kys (nw b)=b.map Prod.fst:=by unfold kys nw;rw[MB];rfl
def cj{as bs:List (Nat × Option Nat)}:kys (as++bs)=kys as++kys bs:=MC
variable {n m:Nat}{low high t:aaa}{w r:aab}{as bs:List (Nat × Option Nat)}{rk ck:Nat->Nat}{D:Nat}
def Rc.up(h:Rc n m low high t w as bs rk ck D){b:List (Nat × Nat)}(nd:(kys bs++b.map Prod.fst).Nodup)(hn:∀p∈b,p.2∈kys as/\p.1<m/\cellAt t p.2 p.1<cellAt high p.2 p.1) :
  Rc n m low high t w as (bs++nw b) rk (fun c=>if c∈b.map Prod.fst then D+1 else ck c) (D+1):=by
 obtain ⟨y,x,v⟩:=Ms.mp nd
 have old:∀c∈kys bs,c∉b.map Prod.fst:=fun c u z=>v c u c z rfl
 refine⟨h.na,by rw[cj,fk];exact nd,fun i hi=>⟨(h.la i hi).1,by have:=(h.la i hi).2;omega⟩,fun j hj=>?_,fun i o e=>?_,fun j o e=>?_,h.st⟩
 .rw[cj,fk] at hj
  rcases Mf.mp hj with z|z
  .show j<m/\(if j∈b.map Prod.fst then D+1 else ck j)<=D+1
   rw[if_neg (old j z)]
   have:=h.lb j z;omega
  .obtain ⟨p,f,rfl⟩:=Mh.mp z
   show p.1<m/\(if p.1∈b.map Prod.fst then D+1 else ck p.1)<=D+1
   rw[if_pos z]
   exact⟨(hn p f).2.1,Mm _⟩
 .rcases h.pa i o e with z|⟨c,e1,e2,l,g⟩
  .exact .inl z
  .refine .inr ⟨c,e1,by rw[cj];exact Mg _ e2,?_,g⟩
   show (if c∈b.map Prod.fst then D+1 else ck c)<rk i
   rw[if_neg (old c e2)];exact l
 .rcases Mf.mp e with z|z
  .obtain ⟨s,e1,e2,l,g⟩:=h.pb j o z
   refine⟨s,e1,e2,?_,g⟩
   show rk s<if j∈b.map Prod.fst then D+1 else ck j
   rw[if_neg (old j (Mh.mpr ⟨_,z,rfl⟩))];exact l
  .obtain ⟨p,f,q⟩:=Mh.mp z
   cases q
   obtain ⟨r,q2,q3⟩:=hn p f
   refine⟨p.2,rfl,r,?_,q3⟩
   show rk p.2<if p.1∈b.map Prod.fst then D+1 else ck p.1
   rw[if_pos (Mh.mpr ⟨p,f,rfl⟩)]
   have:=(h.la p.2 r).2;omega
def Rc.down(h:Rc n m low high t w as bs rk ck D){b:List (Nat × Nat)}(nd:(kys as++b.map Prod.fst).Nodup)(hn:∀p∈b,p.2∈kys bs/\p.1<n/\cellAt low p.1 p.2<cellAt t p.1 p.2) :
  Rc n m low high t w (as++nw b) bs (fun i=>if i∈b.map Prod.fst then D+1 else rk i) ck (D+1):=by
 obtain ⟨y,x,v⟩:=Ms.mp nd
 have old:∀c∈kys as,c∉b.map Prod.fst:=fun c u z=>v c u c z rfl
 refine⟨by rw[cj,fk];exact nd,h.nb,fun j hj=>?_,fun i hi=>⟨(h.lb i hi).1,by have:=(h.lb i hi).2;omega⟩,fun j o e=>?_,fun i o e=>?_,fun i hi hw=>by rw[cj];exact Mg _ (h.st i hi hw)⟩
 .rw[cj,fk] at hj
  rcases Mf.mp hj with z|z
  .show j<n/\(if j∈b.map Prod.fst then D+1 else rk j)<=D+1
   rw[if_neg (old j z)]
   have:=h.la j z;omega
  .obtain ⟨p,f,rfl⟩:=Mh.mp z
   show p.1<n/\(if p.1∈b.map Prod.fst then D+1 else rk p.1)<=D+1
   rw[if_pos z]
   exact⟨(hn p f).2.1,Mm _⟩
 .rcases Mf.mp e with z|z
  .rcases h.pa j o z with q|⟨c,e1,e2,l,g⟩
   .exact .inl q
   .refine .inr ⟨c,e1,e2,?_,g⟩
    show ck c<if j∈b.map Prod.fst then D+1 else rk j
    rw[if_neg (old j (Mh.mpr ⟨_,z,rfl⟩))];exact l
  .obtain ⟨p,f,q⟩:=Mh.mp z
   cases q
   obtain ⟨r,q2,q3⟩:=hn p f
   refine .inr ⟨p.2,rfl,r,?_,q3⟩
   show ck p.2<if p.1∈b.map Prod.fst then D+1 else rk p.1
   rw[if_pos (Mh.mpr ⟨p,f,rfl⟩)]
   have:=(h.lb p.2 r).2;omega
 .obtain ⟨s,e1,e2,l,g⟩:=h.pb i o e
  refine⟨s,e1,by rw[cj];exact Mg _ e2,?_,g⟩
  show (if s∈b.map Prod.fst then D+1 else rk s)<ck i
  rw[if_neg (old s e2)];exact l
structure Cl(n m:Nat)(low high t:aaa)(r:aab)(layer:aac)(as bs:List (Nat × Option Nat))(goal:Option Nat):Prop where
 ly:∀l∈layer,l∈kys as
 cr:∀i∈kys as,i∉layer->∀j,j<m->cellAt t i j<cellAt high i j->j∈kys bs
 cc:∀j∈kys bs,∀i,i<n->cellAt low i j<cellAt t i j->i∈kys as
 gl:match goal with|none=>∀c∈kys bs,r.getD c 0<=0|some g=>g∈kys bs/\0<r.getD g 0
structure Wp(n m:Nat)(low high t:aaa)(bs:List (Nat × Option Nat))(rk ck:Nat->Nat)(g:Nat)(ps:List (Nat × Nat))(c:Nat):Prop where
 hd:(ps=[]/\c=g)\/∃p l,ps=p::l/\p.2=g
 ci:c∈kys bs
 rg:∀p∈ps,p.1<n/\p.2<m
 rk:∀p∈ps,ck c<rk p.1/\ck c<ck p.2
 n1:(ps.map Prod.fst).Nodup
 n2:(ps.map Prod.snd).Nodup
 up:∀p∈ps,cellAt t p.1 p.2<cellAt high p.1 p.2
 lk:Lk (fun a b=>cellAt low a b<cellAt t a b) ps
 ls:∀p,ps.getLast?=some p->cellAt low p.1 c<cellAt t p.1 c
def Wp.step(h:Rc n m low high t w as bs rk ck D){g c s:Nat}{ps:List (Nat × Nat)}(q:Wp n m low high t bs rk ck g ps c)(e:(c,some s)∈bs) :
  s∈kys as/\((s,none)∈as->Wy n m low high t w g (ps++[(s,c)]))/\∀i,(s,some i)∈as->Wp n m low high t bs rk ck g (ps++[(s,c)]) i/\ck i<ck c:=by
 obtain ⟨s',e1,e2,F,C⟩:=h.pb c (some s) e
 cases e1
 have x:=(h.la s e2).1
 have B:=(h.lb c q.ci).1
 have rg:∀p∈ps++[(s,c)],p.1<n/\p.2<m:=fun p f=>by
  rcases Mf.mp f with z|z
  .exact q.rg p z
  .cases Gc.mp z;exact⟨x,B⟩
 have n1:((ps++[(s,c)]).map Prod.fst).Nodup:=by
  rw[MC]
  refine Ms.mpr ⟨q.n1,by simp,fun a ha b hb z=>?_⟩
  obtain ⟨p,f,rfl⟩:=Mh.mp ha
  have:b=s:=by simpa using hb
  have:=(q.rk p f).1
  rw[z,‹b=s›] at this;omega
 have n2:((ps++[(s,c)]).map Prod.snd).Nodup:=by
  rw[MC]
  refine Ms.mpr ⟨q.n2,by simp,fun a ha b hb z=>?_⟩
  obtain ⟨p,f,rfl⟩:=Mh.mp ha
  have:b=c:=by simpa using hb
  have:=(q.rk p f).2
  rw[z,‹b=c›] at this;omega
 have up:∀p∈ps++[(s,c)],cellAt t p.1 p.2<cellAt high p.1 p.2:=fun p f=>by
  rcases Mf.mp f with z|z
  .exact q.up p z
  .cases Gc.mp z;exact C
 have lk:=CZ (s:=s) q.lk q.ls
 have hd:∃p l,ps++[(s,c)]=p::l/\p.2=g:=by
  rcases q.hd with ⟨o,j⟩|⟨p,l,o,j⟩
  .subst o;exact⟨(s,c),[],rfl,j⟩
  .subst o;exact⟨p,l++[(s,c)],rfl,j⟩
 refine⟨e2,fun z=>⟨hd,rg,n1,n2,up,lk,(s,c),by simp,?_⟩,fun i z=>?_⟩
 .rcases h.pa s none z with ⟨_,y⟩|⟨_,y,_⟩
  .exact y
  .cases y
 .rcases h.pa s (some i) z with ⟨y,_⟩|⟨G,y,u,E,r⟩
  .cases y
  .cases y
   refine⟨⟨.inr hd,u,rg,fun p f=>?_,n1,n2,up,lk,fun p f=>?_⟩,by omega⟩
   .rcases Mf.mp f with v|v
    .have:=q.rk p v;omega
    .cases Gc.mp v
     show ck i<rk s/\ck i<ck c
     omega
   .have:p=(s,c):=by simpa using f.symm
    rw[this];exact r
end Fl
end L3
namespace L3
open PySem L2
section
end
end L3
namespace L3.Fl
def Kv{n m:Nat}{c cols:aab}{low high t:aaa}{R C:aac}(ht:bK n m t)(bd:∀i j,i<n->j<m->cellAt low i j<=cellAt t i j/\cellAt t i j<=cellAt high i j)(rs:∀i,i<n->js t i=c.getD i 0)(cs:∀j,j<m->jH t j=cols.getD j 0):¬ Cut n m c cols low high R C:=by
 unfold Cut
 have e1:sN n (fun i=>if i∈R then c.getD i 0 else 0)=sN n fun i=>sN m fun j=>if i∈R then cellAt t i j else 0:=aZ fun i hi=>by
  by_cases z:i∈R
  .rw[if_pos z,<- rs i hi,wQ ht hi]
   exact aZ fun j _=>(if_pos z).symm
  .rw[if_neg z,aZ (g:=fun _=>0) fun j _=>if_neg z,bE]
 have e2:sN m (fun j=>if j∈C then cols.getD j 0 else 0)=sN n fun i=>sN m fun j=>if j∈C then cellAt t i j else 0:=by
  rw[sC]
  refine aZ fun j hj=>?_
  by_cases z:j∈C
  .rw[if_pos z,<- cs j hj,si ht]
   exact aZ fun i _=>(if_pos z).symm
  .rw[if_neg z,aZ (g:=fun _=>0) fun i _=>if_neg z,bE]
 rw[e1,e2,<- iB]
 refine Int.not_lt.mpr ?_
 have le:∀(n:Nat) (f g:Nat->Int),(∀i,i<n->f i<=g i)->sN n f<=sN n g:=by
  intro n
  induction n with
  |zero=>intro f g _;exact OH _
  |succ k ih =>
   intro f g h
   rw[cC,cC]
   have:=ih f g fun i hi=>h i (by omega)
   have:=h k (by omega)
   omega
 refine le _ _ _ fun i hi=>?_
 rw[<- iB]
 refine le _ _ _ fun j hj=>?_
 have b:=bd i j hi hj
 by_cases l:i∈R<;>by_cases e:j∈C
 .rw[if_pos l,if_pos e,if_neg (fun q=>q.2 e),if_neg (fun q=>q.1 l)];omega
 .rw[if_pos l,if_neg e,if_pos ⟨l,e⟩,if_neg (fun q=>q.1 l)];omega
 .rw[if_neg l,if_pos e,if_neg (fun q=>q.2 e),if_pos ⟨l,e⟩];omega
 .rw[if_neg l,if_neg e,if_neg (fun q=>l q.1),if_neg (fun q=>e q.2)];omega
end L3.Fl
namespace L2
open PySem PySem.Spec PyProof.Rows
open Sem (wp)
section
end
section
end
end L2
namespace L2
open PySem PySem.Spec PyProof.Rows
section
end
end L2
namespace L3
open PySem L2
section
end
end L3
namespace L3
open PySem L2
section
variable {K:aad}{Γ:aac}
def EM.free{b:TE}{c:DE}(h:EM K [] [] b c):EM K Γ [] b c:=⟨h.mono,fun o z=>h.run (o.sub fun _ h=>(nomatch h)) z⟩
end
end L3
namespace L2
open PySem
def Iq{X:Cx}{K:aad}(h:X.K=K):SlR X (Kr K):=by subst h;exact KJ
end L2
namespace L3
open PySem L2
section
variable {K:aad}{ρ:Bool}{Γr Γl Γ:aac}
def xx(i j:Nat)(E:bc)(δ:Dl):Prop:=zN δ i fun es=>j<δ.length/\1<=es.length/\(∀d∈es.drop 1,∃e,d=D.lst e)/\E.nx ((δ.set j none).set i none)
def DG(i j:Nat)(hi:i∈Γ:=by decide)(hj:j∉Γ:=by decide)(QY:i≠j:=by decide) :
  ST K ρ Γr Γl (FG (KO K (tSl (Kr K) (b7 i) (GR (tC (.int 1))) xo)) (eO j) (v5 (Kt K "list" Bp (b7 j)))) Γ (minus Γ [i]) (xx i j):=by
 intro B0 Dn E fps δ g H kk o h
 obtain ⟨es,e,S4,hes,Uv,hE⟩:=Ds h
 obtain ⟨v,h1,a,xs0,rfl,h2,P⟩:=o.val i _ e
 have NV:=P.length
 have cut:uX xs0 (some 1) none=xs0.drop 1:=by
  unfold uX
  rw[HT.uH,show HT.sIx xs0.length 0 (some 1)=min 1 xs0.length from HT.sk _ _ 1,show min 1 xs0.length=1 by omega]
  exact Nl (by rw[Nk];omega)
 have U:∀m,m<(xs0.drop 1).length->∃c,(xs0.drop 1)[m]?=some (.ref c)/\(∃l,H c=some (.lst l))/\c∈fps i:=fun m hm=>by
  rw[Nk] at hm
  obtain ⟨d,hd⟩:∃d,es[1+m]?=some d:=⟨_,dz (by omega)⟩
  obtain ⟨e',rfl⟩:=Uv d (MP (i:=m) (by rw[List.getElem?_drop];exact hd))
  obtain ⟨v,f,hv,rv,hf⟩:=P.get hd
  obtain ⟨c,l,fz,rfl,t,rfl,_⟩:=rv
  exact⟨c,by rw[List.getElem?_drop];exact hv,⟨l,t⟩,hf c Fk⟩
 refine⟨.ref a,h1,1,rfl,a,xs0,rfl,.inl (.inl h2),fun z=>?_,fun p L=>?_⟩
 .have:=z.1
  rw[show HT.sIx xs0.length 0 (some 1)=min 1 xs0.length from HT.sk _ _ 1] at this
  omega
 rw[cut]
 obtain ⟨ws,ew⟩:∃ws,xs0.drop 1=ws:=⟨_,rfl⟩
 rw[ew] at U ⊢
 obtain ⟨b,e2⟩:∃b,upd H p (.tup ws)=b:=⟨_,rfl⟩
 have R:Same H b:=by rw[<- e2];exact Same.kR L
 have S:b p=some (.tup ws):=by rw[<- e2];exact az
 rw[e2]
 have np:p∉fps i:=fun z=>o.dom z L
 have o2:=o.same R
 refine⟨p,rfl,⟨ws,.inl (.inl S)⟩,fun n m σ' H'=>m=ws.length - n/\σ'.length=g.length/\(∀k,k≠j->σ'[k]?=g[k]?)/\(∀c u,c∉fps i->b c=some u->H' c=some u)/\(∀c∈fps i,(∃z,b c=some (.lst z))->∃z,H' c=some (.lst z)),⟨ws.length,rfl,rfl,fun _ _=>rfl,fun _ _ _ h=>h,fun _ _ h=>h⟩,?_⟩
 rintro n m σ' H' ⟨rfl,C,J,keep,lst⟩
 have B:=keep p _ np S
 by_cases NX:n<ws.length
 .obtain ⟨c,T,⟨Z,h4⟩,O⟩:=U n NX
  refine .inr ⟨⟨ws,.ref c,.inl (.inl B),T⟩,fun Y F=>∃G,G < ws.length - n/\G=ws.length - (n+1)/\Y.length=g.length/\(∀k,k≠j->Y[k]?=g[k]?)/\(∀c u,c∉fps i->b c=some u->F c=some u)/\(∀c∈fps i,(∃z,b c=some (.lst z))->∃z,F c=some (.lst z)),fun _ _ q=>q,fun x F r=>?_⟩
  obtain ⟨rfl,r⟩:=r
  have ex:=r ws (.inl (.inl B))
  rw[T] at ex;cases ex
  obtain ⟨z,I⟩:=lst c O ⟨Z,R.st _ _ h4 trivial⟩
  refine⟨.ref c,Mj (by rw[C,o.len];exact S4),.inl ⟨rfl,z,.inl (.inl I)⟩,c,z,rfl,rfl,I,ws.length - (n+1),by omega,rfl,by rw[Mv];exact C,fun k M=>by rw[KE (MI M)];exact J k M,fun b' u X s=>?_,fun Q Sj Z6=>?_⟩
  .rw[aG (fun z=>X (by rw[z];exact O))]
   exact keep b' u X s
  .by_cases z:Q=c
   .subst z;exact⟨[],az⟩
   .rw[aG z];exact lst Q Sj Z6
 .refine .inl ⟨⟨ws,.inl (.inl B),by omega⟩,?_⟩
  have o3:=o2.JF j hj C J
  have y:(if i=j then [] else fps i)=fps i:=by rw[if_neg QY]
  refine kk.nx (o3.drop hi fun c u t s=>keep c u (fun z=>t ?_) s) hE
  rw[y]
  exact z
end
end L3
namespace L3
namespace Rg
open Fl
section
end
end Rg
end L3
namespace L3
open PySem L2
section
end
end L3
namespace L3
namespace Rg
open Fl
section
end
end Rg
end L3
namespace L3
open PySem L2
section
end
end L3
namespace L3
open PySem L2
section
end
end L3
namespace L3
open PySem L2
section
variable {K:aad}{Γ:aac}{H:Hp}
def IK(i:Nat)(h:i∉Γ:=by decide):ES K Γ (b7 i) (CI i):=⟨fun δ P f k h=>by obtain ⟨a,x,e,z⟩:=cN h;exact yt e (k _ z),fun {B0 fps δ c H Q} o q=>by
 obtain ⟨a,x,e,q⟩:=cN q
 obtain ⟨v,e1,r⟩:=o.val i _ e
 exact⟨v,e1,q v H _ (Same.refl H) r.2 fun j hj b hb z=>o.dj j hj i (fun y=>h (by rw[y];exact hj)) b z hb⟩⟩
end
end L3
namespace L3
open PySem
open L2 hiding D Rf Rfs Rp dI dT
section
variable {K:aad}{Γ:aac}
def Ln(i k:Nat)(δ:Dl)(P:DK):Prop:=∃ds y,δ[i]?=some (some (.tup ds))/\ds[k]?=some y/\P y
def pS{b:Type}{xs:List b}{k:Nat}{w:b}(h:xs[k]?=some w):atI xs (k:Int)=some w:=by
 have hl:k<xs.length:=(Ma.mp h).1
 unfold atI
 rw[cB (by omega) (by omega)]
 simpa using h
def CV(i k:Nat)(h:i∈Γ:=by decide):EM K Γ [i] (tOp (tN K) (b7 i) (tC (.int (k:Int)))) (Ln i k) :=
 ⟨fun δ P s f ⟨ds,y,e,c,q⟩=>⟨ds,y,e,c,f _ q⟩,fun {B0 fps δ p H Q} o q=>by
  obtain ⟨ds,y,e,c,q⟩:=q
  obtain ⟨v,g,a,xs,rfl,ha,r⟩:=o.val i _ e
  obtain ⟨w,j,l,n,sub,m⟩:=r.yc (o.own i h).1 c
  exact⟨.ref a,g,a,xs,k,w,rfl,rfl,by first|exact .inl ha|exact .inl (.inl ha)|exact ha,pS l,q w H j (Same.refl H) n ⟨m,fun b hb=>((o.own i h).2 b (sub b hb)).2,fun b hb=>.inr ⟨i,Gc.mpr rfl,sub b hb⟩⟩⟩⟩
def KA(i:Nat)(δ:Dl)(P:List D->Prop):Prop:=∃x y z,δ[i]?=some (some (.tup [x,y,z]))/\P [y,z]
def Ag(i:Nat)(h:i∈Γ:=by decide):AM K Γ [i] (bG (tOp (tN K) (b7 i) (tC (.int 1))) (bG (tOp (tN K) (b7 i) (tC (.int 2))) iu)) (KA i) :=
 ⟨fun δ P L p ⟨x,y,z,e,q⟩=>⟨x,y,z,e,p _ q⟩,fun {B0 fps δ u H Q} o q=>by
  obtain ⟨x,y,z,e,q⟩:=q
  obtain ⟨v,g,a,xs,rfl,ha,r⟩:=o.val i _ e
  have own:=o.own i h
  obtain ⟨m,E,J,I,rfl,l,q0,r⟩:=r
  obtain ⟨v1,C,s,G,rfl,rfl,n,r⟩:=r
  obtain ⟨c,B,j,F,rfl,rfl,q2,r⟩:=r
  obtain ⟨rfl,rfl⟩:=r
  rw[l] at own
  obtain ⟨nd,mu⟩:=own
  have t:=(Ms.mp nd).2.1
  have f:SqT K H a [m,v1,c]:=by first|exact .inl ha|exact .inl (.inl ha)|exact ha
  refine⟨.ref a,g,a,_,1,v1,rfl,rfl,f,pS (k:=1) rfl,.ref a,g,a,_,2,c,rfl,rfl,f,pS (k:=2) rfl,q _ H _ (Same.refl H) ⟨v1,_,s,j++[],rfl,rfl,n,c,_,j,[],rfl,rfl,q2,rfl,rfl⟩ ⟨t,fun b hb=>(mu b (L9 _ hb)).2,fun b hb=>.inr ⟨i,Gc.mpr rfl,?_⟩⟩⟩
  rw[l];exact L9 _ hb⟩
end
end L3
namespace L3
open PySem L2
section
end
end L3
namespace L3
open PySem L2
section
end
end L3
namespace L2
open PySem PySem.Spec PyProof.Rows
def ItE(K:aad)(a:Addr):It :=
 ⟨fun i H=>∃xs x,SqL K H a xs/\xs[i]?=some x,
 fun i H v H'=>∃p x,v=.ref p/\H p=none/\H'=upd H p (.tup [.int i,x])/\∀xs,SqL K H a xs->xs[i]?=some x,
 fun i H=>∃xs,SqL K H a xs/\xs.length<=i⟩
def Gm(a e it:Addr)(i:Nat)(h:Heap):Prop:=(∃old,IsEnum h e it i old)/\h.IsListIter it a i
def D8{P:Program}{w:World}{K:aad}{QL:List Expr}{Z:Nat}{MK:Pos}(a e it:Addr):Turn P w K (.Tuple QL Z MK) (ItE K a) [e,it] e (Gm a e it) where
 mem:=by simp
 obj:=fun i h st c b=>by
  obtain ⟨⟨old,f⟩,⟨o1,e1,c1,q1⟩⟩:=st
  simp only[Mb,Mr,or_false] at b
  rcases b with rfl|rfl
  .exact⟨_,f,fun v z=>by cases z⟩
  .exact⟨_,e1,fun v z=>by rw[q1] at z;cases z⟩
 keep:=fun i h h' st k=>by
  obtain ⟨⟨old,f⟩,g⟩:=st
  exact⟨⟨old,k _ (by simp) _ f⟩,g.at fun o e=>k _ (by simp) o e⟩
 item:=by
  intro X J hw L b i l s T H E I j st G
  subst J hw L
  obtain ⟨xs,x,r,O⟩:=G
  obtain ⟨UT,M,C,Yl⟩:=I.list r
  obtain ⟨u,hu,ru⟩:=M.get O
  obtain ⟨⟨old,f⟩,g⟩:=st
  obtain ⟨oi,R,ci,_⟩:=id g
  have ne:e≠it:=JW f R rfl ci (by decide)
  refine wpAny_pyNext_enum_item f g C.isList (x:=u) (by simpa using hu) ne fun Q Y t1 pr hsz F=>?_
  refine⟨.ref s.heap.objs.size,rfl,wpAny_letOwnedTupleGo_enum Y fun h2 U B=>?_⟩
  have S:e<s.heap.objs.size:=Heap.lt_size f
  have Z4:it<s.heap.objs.size:=Heap.lt_size R
  have pz:s.heap.objs.size≠e:=Nat.ne_of_gt S
  have hn:H s.heap.objs.size=none:=I.hok.fresh (Mm _)
  have k2:∀c o,c∉[e,it]->s.heap.get? c=some o->h2.get? c=some o:=fun c o b q=>by
   simp only[Mb,Mr,or_false,not_or] at b
   exact B.extBut c o b.1 (F c o b.1 b.2 q)
  have y:Same H (upd H s.heap.objs.size (.tup [.int i,x])):=fun c o q=>by rw[aG (aU q hn)];exact q
  refine⟨.ref s.heap.objs.size,upd H s.heap.objs.size (.tup [.int i,x]),?_,rfl,⟨s.heap.objs.size,x,rfl,hn,rfl,fun zs hz=>by rw[I.Ak hz r];exact O⟩,⟨⟨_,U⟩,t1.at fun o q=>B.extBut _ _ ne.symm q⟩,fun c b=>?_⟩
  .refine I.CO (t':=s.toks+1) j k2 (fun c o q n=>by rw[aG (MA (Heap.lt_size q))];exact n) y fun c o q=>?_
   by_cases p:c=s.heap.objs.size
   .subst p
    rw[az] at q
    cases q
    exact⟨by simp only[Me,Oi];rw[sizeLine_eq];decide,[.int i s.toks,u],.cons ⟨_,rfl⟩ (.cons ru .nil),⟨_,B.extBut _ _ pz pr,rfl,0,rfl⟩⟩
   .rw[aG p] at q
    refine (I.hok c o q).oN (fun d t hd q=>k2 d t (fun hm=>?_) q) (fun d q=>y d _ q) fun d ds q=>y d _ q
    have m:=(j d hm).1
    rcases hd with rfl|hd
    .rw[m] at q;cases q
    .rw[m] at hd;cases hd
  .have:=(j c b).1
   have p:c≠s.heap.objs.size:=by
    simp only[Mb,Mr,or_false] at b
    rcases b with rfl|rfl
    .exact MA S
    .exact MA Z4
   rw[aG p];exact this
 done:=by
  intro X J hw L b i l s T H E I j st G
  subst J hw L
  obtain ⟨xs,r,RT⟩:=G
  obtain ⟨UT,M,C,Yl⟩:=I.list r
  have l1:=M.length
  obtain ⟨⟨old,f⟩,g⟩:=st
  refine wpAny_pyNext_enum_end (I.ok.hd b) f g C.isList (by simp;omega) fun Q F=>⟨rfl,?_⟩
  have k2:∀c o,c∉[e,it]->s.heap.get? c=some o->Q.get? c=some o:=fun c o b q=>by
   simp only[Mb,Mr,or_false,not_or] at b
   exact F c o b.2 q
  refine I.CO (t':=s.toks) j k2 (fun _ _ _ n=>n) (Same.refl H) fun c o q=>?_
  refine (I.hok c o q).oN (fun d t hd q=>k2 d t (fun hm=>?_) q) (fun d q=>q) fun d ds q=>q
  have m:=(j d hm).1
  rcases hd with rfl|hd
  .rw[m] at q;cases q
  .rw[m] at hd;cases hd
 self:=fun _ _ _ _ _ st h=>let ⟨⟨_,z⟩,_⟩:=st;wpAny_pyIter_enum z h
section
variable {X:Cx}
def Gh(K:aad)(e:TA):TI:=fun c H R=>e c H fun vs b=>∃a,vs=[.ref a]/\(∃xs,SqL K b a xs)/\R (ItE K a) b
theorem IX{Q:List Expr}{t:Nat}{u:Pos}{a:Expr}{j:TA}{p o:Pos}(F:Gl X "enumerate")(hm:X.mg "enumerate" = none)(ha:PA X [a] j)(E:starEach [a] X.env=[(false,eval a X.env)]:=by rfl) :
  PI X (.Tuple Q t u) (.Call (.Name "enumerate" p) [a] [] o) (Gh X.K j):=by
 intro b s i H R I h
 refine Call_ (jz I F hm boot_enumerate (Na (thn (ha o b s i H _ I h) fun us e ⟨vs,g,f,x,y⟩=>?_) (by rw[E];rfl) (by rfl)))
 obtain ⟨l1,rfl,⟨xs,C⟩,q⟩:=y
 cases x with
 |cons v r =>
 cases r
 obtain rfl:_=Value.ref l1:=v
 obtain ⟨Y,U,z,T⟩:=f.list C
 refine call_enumerate_list z.isList fun h' l t1 hsz B=>?_
 have S:Inv X b i g { e with heap:=h' }:=f.kept (t':=e.toks) B
 refine wpAny_pyIter_enum l ⟨_,_,Gm l1 (e.heap.objs.size+1) e.heap.objs.size,ItE X.K l1,g,rfl,S,D8 _ _ _,⟨⟨_,l⟩,t1⟩,fun c m=>?_,q⟩
 simp only[Mb,Mr,or_false] at m
 have n:e.heap.objs.size<=c:=by rcases m with rfl|rfl<;>first|exact Nat.le_add_right _ _|exact Mm _
 obtain ⟨P,O,M,L,J,G⟩:=f.Hu (H':=g) n (f.hok.fresh n)
 exact⟨P,O,M,L,J,G⟩
def G3{K:aad}{i:List Expr}{c:Nat}{e:Pos}{a:Expr}{b:TA}{p j:Pos}(h:X.K=K)(g:Gl X "enumerate")(hm:X.mg "enumerate" = none)(ha:PA X [a] b)(f:starEach [a] X.env=[(false,eval a X.env)]:=by rfl) :
  PI X (.Tuple i c e) (.Call (.Name "enumerate" p) [a] [] j) (Gh K b):=by subst h;exact IX g hm ha f
end
end L2
namespace L3
open PySem L2
section
variable {K:aad}{Γ:aac}{ta:TE}{da:DE}
def Gz(b:DE)(δ:Dl)(P:List D->Prop):Prop:=b δ fun x=>asL x fun xs=>P (xs.mapIdx fun i d=>.tup [.int i,d])
def IV(ha:ES K Γ ta da):IT K Γ (Gh K (bG ta iu)) (Gz da) :=
 ⟨fun δ P P' k h=>ha.mono _ _ _ (fun x z=>by
   obtain ⟨xs,e1,z⟩:=cg z;exact jx e1 (k _ z)) h,
 fun {B0 fps δ σ H R} o h=>ha.run o (ha.mono _ _ _ (fun x z v Z C G y n1=>by
  obtain ⟨xs,ex,z⟩:=cg z
  obtain ⟨a,as,fa,rfl,m,O,X⟩:=y.seq ex
  refine⟨a,rfl,⟨as,m⟩,z (ItE K a) Z C G n1 fun B sB U J=>?_⟩
  have Y:Rf K B x (.ref a) C:=y.mono (fun p n u e=>by rw[U p n];exact e) J
  obtain ⟨a',g,T,e1,r,E,_⟩:=Y.seq ex
  cases e1
  have l:∀{c:Addr}{s:List V}{f:Hp},SqL K B c s->Same B f->SqL K f c s:=fun h b=>b.seq h
  have la:=E.length
  have F:(xs.mapIdx fun i d=>D.tup [.int i,d]).length=xs.length:=List.length_mapIdx
  refine⟨fun {i f} b hi=>?_,fun {i f u H4 d} b L hd=>?_,fun {i f} b hi=>?_⟩
  .rw[F] at hi
   exact⟨g,g[i]'(by omega),l r b,dz _⟩
  .obtain ⟨p,j,rfl,n,rfl,S⟩:=L
   have I:=S g (l r b)
   obtain ⟨d1,q,e1,t1,_⟩:=E.get' I
   rw[List.getElem?_mapIdx,e1] at hd
   cases hd
   have t:Same f (upd f p (.tup [.int i,j])):=Same.kR n
   refine⟨t,q,⟨p,_,rfl,az,.int i,[j],[],q,rfl,rfl,⟨rfl,rfl⟩,j,[],q,[],rfl,(ML _).symm,(t1.same b).same t,rfl,rfl⟩,fun c Q=>?_⟩
   obtain ⟨u,M,_⟩:=t1.dom c Q;rw[M];intro z;cases z
  .rw[F] at hi
   exact⟨g,l r b,by omega⟩) h)⟩
end
end L3
namespace L2
open PySem PySem.Spec PyProof.Rows
section
end
end L2
namespace L3
open PySem L2
section
end
end L3
namespace Tal
end Tal
namespace L2
open PySem PySem.Spec PyProof.Rows
section
variable {X:Cx}{k k':Nat}{f:Addr}{fd:FuncData}{ps:List Str}{sp:Sp}{x:Str}{st:Stmt}{e a b PR iter:Expr}{es:List Expr}{t:TA}{te ta tb:TE}{p MK O9 tp:Pos}{wi:TI}{scope:Scope}
def wcl(F:br X.prog X.w X.K X.mg X.base CX0 k f fd ps sp)(b:eP k' X.A)(E:FnAt X.K X.mg x st ps f fd)(ha:PA X (e::es) t)(c:k<=k':=by decide)(g:Gl X x:=by exact rfl)
  (i:(x == ("__debug__" : Str))=false:=by decide) (h:starEach (e::es) X.env=(false,eval e X.env)::starEach es X.env:=by rfl) (j:(backTo MK (starEach es X.env)).any (·.1)=false:=by rfl):PE X (.Call (.Name x p) (e::es) [] MK) (nG sp [] E0 t) :=
 mZ F (b.mono c) g E.mg E.fn.kp E.bd .nil tZ ha i h j
def wst(i:Nat)(h:X.N.Nodup)(g:PE X e te)(hi:X.N[i]?=some x:=by exact rfl)(b:Loc X.env.scope x:=by first|exact Or.inl rfl|exact Or.inr rfl)(c:swapsWith e (some (.Name x O9)) MK.line X.env=pure false:=by rfl)
  (f:X.fn x=true\/X.env.scope.names.lookup x=some .local:=by first|exact .inl rfl|exact .inr rfl|assumption):PS X (.Assign [.Name x O9] e MK) (jZ te (eO i)):=A5 h hi b g c f
def wpg(i:Nat)(e:X.N.Nodup)(hi:X.N[i]?=some x:=by exact rfl)(b:Loc X.env.scope x:=by first|exact Or.inl rfl|exact Or.inr rfl)
  (c:X.fn x=true\/X.env.scope.names.lookup x=some .local:=by first|exact .inl rfl|exact .inr rfl|assumption):PG X (.Name x MK) (eO i):=gO e hi b c
def wix(K:aad)(ha:PE X a ta)(hb:PE X b tb)(h:X.K=K:=by exact rfl)(c:yb b:=by exact fun _ _=>rfl):PE X (.Subscript a b MK) (tOp (yg K) ta tb):=Jz (Gx h) ha hb c
def wit(K:aad)(ha:PE X a ta)(hb:PE X b tb)(h:X.K=K:=by exact rfl)(c:yb b:=by exact fun _ _=>rfl):PE X (.Subscript a b MK) (tOp (tN K) ta tb):=Jz (HV h) ha hb c
def wil{b:Expr}(K:aad)(ha:PE X a ta)(h:X.K=K:=by exact rfl):PI X b a (zk K ta):=FH h ha
def wln(K:aad)(hm:X.mg "len" = none)(ha:PE X a ta)(h:X.K=K:=by exact rfl)(c:Gl X "len":=by rfl)(b:starEach [a] X.env=(false,eval a X.env)::starEach [] X.env:=by rfl)(e:(backTo MK (starEach [] X.env)).any (·.1)=false:=by rfl) :
  PE X (.Call (.Name "len" p) [a] [] MK) (tCB (fun xs H Q=>∃p ys,xs=[.ref p]/\(SqL K H p ys\/SqT K H p ys)/\Q (.int ys.length) H) (bG ta iu)):=aQ (DX h) c hm PySem.boot_len (aa ha aj b) (by decide) (by decide) b e
def wfo{c:List Stmt}{g:TG}{tb:TS}{b:Expr}(hi:PI X b iter wi)(h:PG X b g)(hb:PSs X c tb)(f:PassesOwn (model X.prog X.w) X.A X.env X.xe:=by exact PassesOwn.never)(i:X.calm=true:=by exact rfl)(e:∀x,foldedSetIterable iter X.env x=pure x:=by intro _;rfl):PS X (.For b iter c [] MK) (FG wi g tb):=KH f i hi h hb e
def wco(sc0:Scope)(x:Str)(cap:List Str)(idx:aac)(hi:PI X (.Name x tp) iter wi)(g:∀cs C fp s₀ H₀,PE (cxC X ([x]++cap) scope cs C fp s₀ H₀) PR te)(h:By sc0 scope [x] cap=true:=by decide +kernel)(e:X.env.scope=sc0:=by exact rfl)(ci:idx.map (fun i=>X.N[i]?)=cap.map some:=by exact rfl)(nd:qy ([x]++cap)=true:=by decide +kernel)
  (b:∀cs C fp s₀ H₀,Loc (cxC X ([x]++cap) scope cs C fp s₀ H₀).env.scope x:=by exact fun _ _ _ _ _=>by first|exact Or.inl rfl|exact Or.inr rfl)
  (f:∀cs C fp s₀ H₀,(cxC X ([x]++cap) scope cs C fp s₀ H₀).fn x=true\/(cxC X ([x]++cap) scope cs C fp s₀ H₀).env.scope.names.lookup x=some .local:=by exact fun _ _ _ _ _=>by first|exact .inl rfl|exact .inr rfl)
  (j:X.calm=true:=by rfl) (c:∀x,foldedSetIterable iter X.env x=pure x:=by intro _;rfl):PE X (.ListComp PR [⟨.Name x tp,iter,[],0⟩] scope MK) (qF wi (eO 0) te [x].length idx) :=
 yA (tn:=[x]) (bt.of h e ci) hi (ma.name (Nat.zero_lt_one)) (fun cs C fp s₀ H₀=>gO (i:=0) (bU nd) rfl (b cs C fp s₀ H₀) (f cs C fp s₀ H₀)) g j c
end
end L2
namespace L2
open PySem PySem.Spec PyProof.Rows
def tR{M:Model}{A:Around}{E:Value->Shared->Prop}{s:Shared}{C D e:Addr}{ups j:List Addr}{c:Obj}{Q:Bool->Shared->Prop}(G:bQ s.heap C ups)(F:bQ s.heap D j)
  (n:s.heap.get? e=some c) (B:c.cls=.ref C) (hb:(C::ups).contains D=false) (m:Q false s):wpAny M A (excMatches (.ref e) (.ref D)) Q E s:=by
 obtain ⟨h,g,d,t,os⟩:=s
 obtain ⟨N,nm,q,bs,hdct,sn,sub,ab,col,dd,k0,k1,k2,k3,k5,mN,o,O,Sy,T⟩:=G
 obtain ⟨N',S,H,p,Z,P,X,r,U,Tq,L,l1,l2,J,I,R,i,To,Y,y⟩:=F
 have v:(Value.ref D::(j.map Value.ref++VB)).contains (.type "BaseException")=true:=by
  rw[List.contains_cons,y.hasType (b:=true) rfl,Bool.or_true]
 have x:(Value.ref C::(ups.map Value.ref++VB)).contains (.ref D)=false:=by
  rw[Bool.eq_false_iff] at hb ⊢
  intro z
  refine hb ?_
  rw[List.contains_iff_mem] at z ⊢
  rcases Mb.mp z with z|z
  .cases z;exact Fk ..
  .rcases Mf.mp z with z|z
   .obtain ⟨u,l,e⟩:=Mh.mp z
    cases e
    exact ox _ l
   .exfalso
    revert z
    unfold VB
    simp
 have f:=tc_notTuple
 unfold excMatches
 repeat (first|(with_reducible refine wpAny_loadPart_at n ?_;rw[B])|with_reducible refine wpAny_loadPart_at i ?_|(with_reducible refine wpAny_isSubtype_exc i ?_;rw[v])|(with_reducible refine wpAny_isSubtype_exc o ?_;rw[x])|wp_step)
 exact m
section
variable {X:Cx}{k:Nat}{f C1 C2:Addr}{fd:FuncData}{ps:List Str}{sp:Sp}{x1 x2 y n:Str}{p ZI ZH cp ep Up S1 MK:Pos}{e:Expr}{es:List Expr}{ta:TA}{b1 b2:Stmt}{Sm Sl:List Stmt}{i:Nat}{up1 up2:List Addr}{h3:List ExceptHandler}
def JC(i:Nat)(l j:Addr)(sp:Sp)(g:TA)(f e:Addr->TS):TS:=fun Dn c H=>g c H fun vs h=>sp vs h (fun _ b=>Dn.nx c b) fun cls _ b=>(cls=.ref l/\∀a,b a=none ->
 f a { nx:=fun σ' H'=>Dn.nx (σ'.set i none) H',rt:=fun _ _=>False } (c.set i (some (.ref a))) b)\/(cls=.ref j/\∀a,b a=none ->
 e a { nx:=fun σ' H'=>Dn.nx (σ'.set i none) H',rt:=fun _ _=>False } (c.set i (some (.ref a))) b)
def Ij{M L:Addr->TS}(t:X.stack=X.env::X.outer)(Vc:X.env.frame=some X.env.locals)(F:br X.prog X.w X.K X.mg X.base (CXR X.prog X.w) k f fd ps sp)(hr:eP k X.A)(Xb:Gl X y)(WY:X.mg y=some (.ref f))
  (W7:PySem.W.keepIn X.K (.ref f)=true) (hb:Binds X.K fd ps []) (ha:PA X.nox (e::es) ta) (O1:bQ X.base C1 up1) (O2:bQ X.base C2 up2) (Yt:X.mg x1=some (.ref C1)) (Yx:Gl X x1) (TN:X.mg x2=some (.ref C2)) (Vb:Gl X x2) (U5:(C2::up2).contains C1=false)
  (hN:X.N.Nodup) (hi:X.N[i]?=some n) (G:X.env.scope.names.lookup n=some .local) (WL:∀a l,l.cls=.ref C1->PSs (X.held a l) (b1::Sm) (M a)) (Sh:∀a l,l.cls=.ref C2->PSs (X.held a l) (b2::Sl) (L a))
  (YA:(x1 == ("__debug__" : Str))=false:=by decide) (hd2:(x2 == ("__debug__" : Str))=false:=by decide) (T2:(y == ("__debug__" : Str))=false:=by decide) (P:starEach (e::es) X.env=(false,eval e X.env)::starEach es X.env:=by rfl) (Qh:(backTo cp (starEach es X.env)).any (·.1)=false:=by rfl)
  (TB:swapsWith (.Call (.Name y p) (e::es) [] cp) none ep.line X.env=pure false:=by rfl) :
  PS X (.Try [.Expr (.Call (.Name y p) (e::es) [] cp) ep] (.ExceptHandler (some (.Name x1 ZI)) (some n) (b1::Sm) Up::.ExceptHandler (some (.Name x2 ZH)) (some n) (b2::Sl) S1::h3) [] [] MK) (JC i C1 C2 sp ta M L):=by
 intro c s j H Dn I h
 refine wpAny_Try_except (wpAny_execs_cons (wpAny_Expr_any ?_ I.quiet TB))
 refine wpAny_Call_Name_kw (fh I Xb WY ?_ T2)
 refine NM (h₀:=X.base) I.ok.mod.kin W7 (wpAny_mono (ha cp c s j H _ (I.oh _) h) (fun us s1 q1=>?_) fun _ _ z=>z.elim) P Qh
 obtain ⟨vs,H1,g,r,q⟩:=q1
 have g:Inv X c j H1 s1:=g.gA
 refine⟨g.kIn,wpAny_mono (Ca (XE:=fun ev s'=>CXR X.prog X.w X.stack H1 s1 _ ev s') F hr hb g r q fun _ _ z=>z) (fun u s2 z=>?_) fun ev s' z=>?_⟩
 .obtain ⟨v,H2,I2,_,q2⟩:=z
  exact wpAny_execs_nil (wpAny_execs_nil ⟨j,H2,I2,q2⟩)
 obtain ⟨a,C',H',rfl,os,bare,U,ok,C,O⟩:=z
 rcases O with ⟨O,q⟩|⟨O,q⟩
 .cases O
  obtain ⟨⟨na,Q⟩,l,ws,a0,T,oT,ts,ge,gc,gd,g1,g2,g3,g4,g5,nT,R⟩:=C
  have J:Inv X c j H' s':=g.rG os U ok bare fun b hb=>(nomatch hb)
  have QD:Heap.FlyingW (PySem.W.hideAll s'.heap (a::T::frs X.stack)) (X.env::X.outer) a (.ref C1) a0 s'.heap:=by
   refine⟨fun b o e=>NA _ e,MV _ (Fk ..),?_,l,ws,T,oT,ts,ge,gc,gd,g1,MV _ (ox _ (Fk ..)),g2,g3,g4,g5⟩
   rw[<- t]
   exact Nx J.stack fun env P b hb=>ox _ (ox _ (Nr.mpr ⟨env,P,hb⟩))
  have Q7:X.A.frames=some (X.env::X.outer):=by rw[<- t];exact J.ok.frames
  refine wpAny_looks_onW Q7 Vc QD fun Sv Ou Y=>?_
  refine wpAny_landsW Ou fun QW B Z=>?_
  obtain ⟨E,m,c5,e5⟩:=dZ g os bare U ok na Q nT R (by rw[t] at B ⊢;exact B) (Y.trans Z)
  have SR:Inv (X.held a E) c j H' { s' with heap:=QW }:=m.held
  refine wpAny_handleBy_cons (codeAny_handlers_test (fh (X:=X.held a E) SR Yx Yt ?_ YA)) (by intro q;cases q)
  refine fL (O1.keeps m.bk) (O1.keeps m.bk) e5 c5 (by simp) ?_
  refine codeAny_handlers_suite_as ?_
  refine lands_againW B fun Rz S PB=>?_
  obtain ⟨x,I6,c6,e6⟩:=dZ g os bare U ok na Q nT R (by rw[t] at S ⊢;exact S) ((Y.trans Z).trans PB)
  have S9:Inv (X.held a x) c j H' { s' with heap:=Rz }:=I6.held
  refine kB (X:=X.held a x) (v:=.ref a) S9 hN hi (.inl G) rfl (fun s7 I7=>?_) (.inr G)
  refine wpAny_mono (WL a x c6 c s7 _ H' _ I7 (q a na)) (fun C s8 q8=>?_) fun _ _ z=>z.elim
  cases C with
  |next =>
   obtain ⟨σ',H8,I8,q8⟩:=q8
   exact sh (I8.yk J.ok) hN hi G fun s9 I9=>⟨_,H8,I9,q8⟩
  |brk=>obtain ⟨_,_,_,z⟩:=q8;exact False.elim z
  |cont=>obtain ⟨_,_,_,z⟩:=q8;exact False.elim z
  |ret u=>obtain ⟨_,_,_,_,_,z⟩:=q8;exact False.elim z
 .cases O
  obtain ⟨⟨na,Q⟩,l,ws,a0,T,oT,ts,ge,gc,gd,g1,g2,g3,g4,g5,nT,R⟩:=C
  have J:Inv X c j H' s':=g.rG os U ok bare fun b hb=>(nomatch hb)
  have QD:Heap.FlyingW (PySem.W.hideAll s'.heap (a::T::frs X.stack)) (X.env::X.outer) a (.ref C2) a0 s'.heap:=by
   refine⟨fun b o e=>NA _ e,MV _ (Fk ..),?_,l,ws,T,oT,ts,ge,gc,gd,g1,MV _ (ox _ (Fk ..)),g2,g3,g4,g5⟩
   rw[<- t]
   exact Nx J.stack fun env P b hb=>ox _ (ox _ (Nr.mpr ⟨env,P,hb⟩))
  have Q7:X.A.frames=some (X.env::X.outer):=by rw[<- t];exact J.ok.frames
  refine wpAny_looks_onW Q7 Vc QD fun Sv Ou Y=>?_
  refine wpAny_landsW Ou fun QW B Z=>?_
  obtain ⟨E,m,c5,e5⟩:=dZ g os bare U ok na Q nT R (by rw[t] at B ⊢;exact B) (Y.trans Z)
  have SR:Inv (X.held a E) c j H' { s' with heap:=QW }:=m.held
  refine wpAny_handleBy_cons (codeAny_handlers_test (fh (X:=X.held a E) SR Yx Yt ?_ YA)) (by intro q;cases q)
  refine tR (O2.keeps m.bk) (O1.keeps m.bk) e5 c5 U5 ?_
  simp only[MY,if_false]
  refine wpAny_handleBy_cons (codeAny_handlers_test (fh (X:=X.held a E) SR Vb TN ?_ hd2)) (by intro q;cases q)
  refine fL (O2.keeps m.bk) (O2.keeps m.bk) e5 c5 (by simp) ?_
  refine codeAny_handlers_suite_as ?_
  refine lands_againW B fun Rz S PB=>?_
  obtain ⟨x,I6,c6,e6⟩:=dZ g os bare U ok na Q nT R (by rw[t] at S ⊢;exact S) ((Y.trans Z).trans PB)
  have S9:Inv (X.held a x) c j H' { s' with heap:=Rz }:=I6.held
  refine kB (X:=X.held a x) (v:=.ref a) S9 hN hi (.inl G) rfl (fun s7 I7=>?_) (.inr G)
  refine wpAny_mono (Sh a x c6 c s7 _ H' _ I7 (q a na)) (fun C s8 q8=>?_) fun _ _ z=>z.elim
  cases C with
  |next =>
   obtain ⟨σ',H8,I8,q8⟩:=q8
   exact sh (I8.yk J.ok) hN hi G fun s9 I9=>⟨_,H8,I9,q8⟩
  |brk=>obtain ⟨_,_,_,z⟩:=q8;exact False.elim z
  |cont=>obtain ⟨_,_,_,z⟩:=q8;exact False.elim z
  |ret u=>obtain ⟨_,_,_,_,_,z⟩:=q8;exact False.elim z
def Cj(i:Nat)(l j:Addr)(sp:Sp)(g:TA)(f e:Addr->TS):TS:=fun Dn c H=>g c H fun vs h=>sp vs h (fun _ b=>Dn.nx c b) fun cls _ b=>(cls=.ref l/\∀a,b a=none ->
 f a { nx:=fun _ _=>False,rt:=Dn.rt } (c.set i (some (.ref a))) b)\/(cls=.ref j/\∀a,b a=none ->
 e a { nx:=fun _ _=>False,rt:=Dn.rt } (c.set i (some (.ref a))) b)
def Eg{x:Str}{np hp:Pos}{D:Addr}{Tt:List Addr}{Uc:Stmt}{Sn:List Stmt}{M L:Addr->TS}(m:X.stack=X.env::X.outer)(Vc:X.env.frame=some X.env.locals)(F:br X.prog X.w X.K X.mg X.base (CXR X.prog X.w) k f fd ps sp)(hr:eP k X.A)(Xb:Gl X y)(WY:X.mg y=some (.ref f))
  (W7:PySem.W.keepIn X.K (.ref f)=true) (hb:Binds X.K fd ps []) (ha:PA X.nox (e::es) ta) (O1:bQ X.base C1 up1) (O2:bQ X.base C2 up2) (OD:bQ X.base D Tt) (Ys:X.mg x=some (.ref D)) (Yw:Gl X x) (VX:(C1::up1).contains D=true) (Vk:(C2::up2).contains D=true)
  (hN:X.N.Nodup) (hi:X.N[i]?=some n) (G:X.env.scope.names.lookup n=some .local) (WL:∀a l,l.cls=.ref C1->PSs (X.held a l) (Uc::Sn) (M a)) (Sh:∀a l,l.cls=.ref C2->PSs (X.held a l) (Uc::Sn) (L a))
  (RW:(x == ("__debug__" : Str))=false:=by decide) (T2:(y == ("__debug__" : Str))=false:=by decide) (P:starEach (e::es) X.env=(false,eval e X.env)::starEach es X.env:=by rfl) (Qh:(backTo cp (starEach es X.env)).any (·.1)=false:=by rfl)
  (TB:swapsWith (.Call (.Name y p) (e::es) [] cp) none ep.line X.env=pure false:=by rfl) :
  PS X (.Try [.Expr (.Call (.Name y p) (e::es) [] cp) ep] [.ExceptHandler (some (.Name x np)) (some n) (Uc::Sn) hp] [] [] MK) (Cj i C1 C2 sp ta M L):=by
 intro c s j H Dn I h
 refine wpAny_Try_except (wpAny_execs_cons (wpAny_Expr_any ?_ I.quiet TB))
 refine wpAny_Call_Name_kw (fh I Xb WY ?_ T2)
 refine NM (h₀:=X.base) I.ok.mod.kin W7 (wpAny_mono (ha cp c s j H _ (I.oh _) h) (fun us s1 q1=>?_) fun _ _ z=>z.elim) P Qh
 obtain ⟨vs,H1,g,r,q⟩:=q1
 have g:Inv X c j H1 s1:=g.gA
 refine⟨g.kIn,wpAny_mono (Ca (XE:=fun ev s'=>CXR X.prog X.w X.stack H1 s1 _ ev s') F hr hb g r q fun _ _ z=>z) (fun u s2 z=>?_) fun ev s' z=>?_⟩
 .obtain ⟨v,H2,I2,_,q2⟩:=z
  exact wpAny_execs_nil (wpAny_execs_nil ⟨j,H2,I2,q2⟩)
 obtain ⟨a,C',H',rfl,os,bare,U,ok,E,O⟩:=z
 rcases O with ⟨O,q⟩|⟨O,q⟩
 .cases O
  obtain ⟨⟨na,Q⟩,l,ws,a0,T,oT,ts,ge,gc,gd,g1,g2,g3,g4,g5,nT,R⟩:=E
  have J:Inv X c j H' s':=g.rG os U ok bare fun b hb=>(nomatch hb)
  have QD:Heap.FlyingW (PySem.W.hideAll s'.heap (a::T::frs X.stack)) (X.env::X.outer) a (.ref C1) a0 s'.heap:=by
   refine⟨fun b o e=>NA _ e,MV _ (Fk ..),?_,l,ws,T,oT,ts,ge,gc,gd,g1,MV _ (ox _ (Fk ..)),g2,g3,g4,g5⟩
   rw[<- m]
   exact Nx J.stack fun env P b hb=>ox _ (ox _ (Nr.mpr ⟨env,P,hb⟩))
  have Q7:X.A.frames=some (X.env::X.outer):=by rw[<- m];exact J.ok.frames
  refine wpAny_looks_onW Q7 Vc QD fun Sv Ou Z=>?_
  refine wpAny_landsW Ou fun QW B Oq=>?_
  obtain ⟨S,C,c5,e5⟩:=dZ g os bare U ok na Q nT R (by rw[m] at B ⊢;exact B) (Z.trans Oq)
  have SR:Inv (X.held a S) c j H' { s' with heap:=QW }:=C.held
  refine wpAny_handleBy_cons (codeAny_handlers_test (fh (X:=X.held a S) SR Yw Ys ?_ RW)) (by intro q;cases q)
  refine fL (O1.keeps C.bk) (OD.keeps C.bk) e5 c5 VX ?_
  refine codeAny_handlers_suite_as ?_
  refine lands_againW B fun Rz Y PB=>?_
  obtain ⟨t,I6,c6,e6⟩:=dZ g os bare U ok na Q nT R (by rw[m] at Y ⊢;exact Y) ((Z.trans Oq).trans PB)
  have S9:Inv (X.held a t) c j H' { s' with heap:=Rz }:=I6.held
  refine kB (X:=X.held a t) (v:=.ref a) S9 hN hi (.inl G) rfl (fun s7 I7=>?_) (.inr G)
  refine wpAny_mono (WL a t c6 c s7 _ H' _ I7 (q a na)) (fun E s8 q8=>?_) fun _ _ z=>z.elim
  cases E with
  |next=>obtain ⟨_,_,_,z⟩:=q8;exact False.elim z
  |brk=>obtain ⟨_,_,_,z⟩:=q8;exact False.elim z
  |cont=>obtain ⟨_,_,_,z⟩:=q8;exact False.elim z
  |ret u =>
   obtain ⟨x8,Za,H8,I8,r8,q8⟩:=q8
   exact sh (I8.yk J.ok) hN hi G fun s9 I9=>⟨x8,_,H8,I9,r8,q8⟩
 .cases O
  obtain ⟨⟨na,Q⟩,l,ws,a0,T,oT,ts,ge,gc,gd,g1,g2,g3,g4,g5,nT,R⟩:=E
  have J:Inv X c j H' s':=g.rG os U ok bare fun b hb=>(nomatch hb)
  have QD:Heap.FlyingW (PySem.W.hideAll s'.heap (a::T::frs X.stack)) (X.env::X.outer) a (.ref C2) a0 s'.heap:=by
   refine⟨fun b o e=>NA _ e,MV _ (Fk ..),?_,l,ws,T,oT,ts,ge,gc,gd,g1,MV _ (ox _ (Fk ..)),g2,g3,g4,g5⟩
   rw[<- m]
   exact Nx J.stack fun env P b hb=>ox _ (ox _ (Nr.mpr ⟨env,P,hb⟩))
  have Q7:X.A.frames=some (X.env::X.outer):=by rw[<- m];exact J.ok.frames
  refine wpAny_looks_onW Q7 Vc QD fun Sv Ou Z=>?_
  refine wpAny_landsW Ou fun QW B Oq=>?_
  obtain ⟨S,C,c5,e5⟩:=dZ g os bare U ok na Q nT R (by rw[m] at B ⊢;exact B) (Z.trans Oq)
  have SR:Inv (X.held a S) c j H' { s' with heap:=QW }:=C.held
  refine wpAny_handleBy_cons (codeAny_handlers_test (fh (X:=X.held a S) SR Yw Ys ?_ RW)) (by intro q;cases q)
  refine fL (O2.keeps C.bk) (OD.keeps C.bk) e5 c5 Vk ?_
  refine codeAny_handlers_suite_as ?_
  refine lands_againW B fun Rz Y PB=>?_
  obtain ⟨t,I6,c6,e6⟩:=dZ g os bare U ok na Q nT R (by rw[m] at Y ⊢;exact Y) ((Z.trans Oq).trans PB)
  have S9:Inv (X.held a t) c j H' { s' with heap:=Rz }:=I6.held
  refine kB (X:=X.held a t) (v:=.ref a) S9 hN hi (.inl G) rfl (fun s7 I7=>?_) (.inr G)
  refine wpAny_mono (Sh a t c6 c s7 _ H' _ I7 (q a na)) (fun E s8 q8=>?_) fun _ _ z=>z.elim
  cases E with
  |next=>obtain ⟨_,_,_,z⟩:=q8;exact False.elim z
  |brk=>obtain ⟨_,_,_,z⟩:=q8;exact False.elim z
  |cont=>obtain ⟨_,_,_,z⟩:=q8;exact False.elim z
  |ret u =>
   obtain ⟨x8,Za,H8,I8,r8,q8⟩:=q8
   exact sh (I8.yk J.ok) hN hi G fun s9 I9=>⟨x8,_,H8,I9,r8,q8⟩
end
section
variable {X:Cx}{a C:Addr}{oe:Obj}
def LN(K:aad)(a C:Addr):List V->Hp->VK->Prop:=fun xs H Q=>∃b D,Q (.bl b) H/\xs=[.ref a,.ref D]/\PySem.W.kitOne K (.ref C) (.ref D)=some b
def wg(i:oe.cls=.ref C)(k:PySem.W.yr X.K C):fR (X.held a oe) (.builtin "isinstance") (LN X.K a C):=by
 intro c s j H xs us Q I r h
 obtain ⟨b,D,q,rfl,e⟩:=h
 obtain ⟨u,v,rfl,g,f⟩:=vals2 r
 obtain rfl:u=Value.ref a:=g
 obtain rfl:v=Value.ref D:=f
 exact M2 (PySem.W.mz k) I.kIn (I.excAt i) e (fun z=>nomatch z) fun l=>⟨.bl b,H,I.tok _,rfl,q⟩
end
end L2
namespace L3
open PySem L2
section
variable {K:aad}{ρ:Bool}{Γr Γl Γ:aac}{C1 C2:Addr}{S:DSX}{ta:TA}{da:DA}{t1 t2:Addr->TS}{V6 V5:DS}
def GH(i:Nat)(j h:Addr)(S:DSX)(e:DA)(f g:DS)(E:bc)(δ:Dl):Prop:=i<δ.length/\e δ fun xs=>S xs (fun _=>E.nx δ) fun c =>
 (c=j/\f { nx:=fun b=>E.nx (b.set i none),rt:=fun _ _=>False,bk:=fun _=>False,ct:=fun _=>False } (δ.set i none))\/(c=h/\g { nx:=fun b=>E.nx (b.set i none),rt:=fun _ _=>False,bk:=fun _=>False,ct:=fun _=>False } (δ.set i none))
def Ia(i:Nat)(n:j4 S)(ha:AR K Γ ta da)(l:STi K i t1 Γ V6)(j:STi K i t2 Γ V5)(hi:i∉Γ:=by decide):ST K ρ Γr Γl (JC i C1 C2 (spX K S) ta t1 t2) Γ Γ (GH i C1 C2 S da V6 V5) :=
 fun {B0 Dn E fps δ q H} k o h=>ha.run o (ha.mono _ _ _ (fun xs z vs r e m=>⟨xs,m,(o.b0.trans e).now,n _ _ _ _ _ (fun _ z v p fp c _ _=>k.nx (o.same (e.trans c)) z)
  (fun s z p c=>z.imp (fun z=>⟨congrArg Value.ref z.1,fun a _=>l (E:={ nx:=fun b=>E.nx (b.set i none),rt:=fun _ _=>False,bk:=fun _=>False,ct:=fun _=>False })
   (fun g _ f=>k.nx (g.gone i hi) f) ((o.same (e.trans c)).dead i (.ref a) hi) (Mj (by rw[o.len];exact h.1)) z.2⟩)
   (fun z=>⟨congrArg Value.ref z.1,fun a _=>j (E:={ nx:=fun b=>E.nx (b.set i none),rt:=fun _ _=>False,bk:=fun _=>False,ct:=fun _=>False })
   (fun g _ f=>k.nx (g.gone i hi) f) ((o.same (e.trans c)).dead i (.ref a) hi) (Mj (by rw[o.len];exact h.1)) z.2⟩)) z⟩) h.2)
def wR(i:Nat)(f e:Addr)(S:DSX)(c:DA)(E:bc)(δ:Dl):Prop:=i<δ.length/\c δ fun xs=>S xs (fun _=>E.nx δ) fun b=>(b=f\/b=e)/\E.rt (.bl true) (δ.set i none)
def Ee(i:Nat)(p:j4 S)(ha:AR K Γ ta da)(e1:PySem.W.kitOne K (.ref C1) (.type "ValueError")=some true)(e2:PySem.W.kitOne K (.ref C2) (.type "ValueError")=some true)(hi:i∉Γ:=by decide)(n:∀j∈Γr,j∈Γ:=by decide) :
  ST K ρ Γr Γl (Cj i C1 C2 (spX K S) ta (fun a=>Az (tCB (zq K a C1) (bG (b7 i) (bG (tC (.ty "ValueError")) iu)))) (fun a=>Az (tCB (zq K a C2) (bG (b7 i) (bG (tC (.ty "ValueError")) iu))))) Γ Γ (wR i C1 C2 S da) :=
 fun {B0 Dn E fps δ l H} k o h=>ha.run o (ha.mono _ _ _ (fun xs z vs q c m=>⟨xs,m,(o.b0.trans c).now,p _ _ _ _ _ (fun _ z v g fp b _ _=>k.nx (o.same (c.trans b)) z)
  (fun r z g b=>by
   have f:∀a,Dn.rt (.bl true) g:=fun a=>k.rt (((o.same (c.trans b)).dead i (.ref a) hi).sub n) (Rf.oB (d:=.bl true) rfl) (fun _=>⟨Nb,fun _ h=>(nomatch h),fun _ h=>(nomatch h),fun _ _ _ h=>(nomatch h)⟩) z.2
   have e:∀a,(l.set i (some (V.ref a)))[i]?=some (some (.ref a)):=fun a=>Mj (by rw[o.len];exact h.1)
   rcases z.1 with rfl|rfl
   .exact .inl ⟨rfl,fun a _=>BS e1 (e a) (f a)⟩
   .exact .inr ⟨rfl,fun a _=>BS e2 (e a) (f a)⟩) z⟩) h.2)
end
section
variable {K:aad}{a C:Addr}{XT XS:List Addr}{v1 v2:TA}{Q:VK}{H:Hp}{nx:St->Hp->Prop}
def CP(e1:PySem.W.kitAny K (.ref C) (XT.map Value.ref)=some false)(e2:PySem.W.kitAny K (.ref C) (XS.map Value.ref)=some false)
  (e:∀σ H (Q:List V->Hp->Prop),Q (XT.map V.ref) H->v1 σ H Q) (f:∀σ H (Q:List V->Hp->Prop),Q (XS.map V.ref) H->v2 σ H Q) (l1:XT.length<=1000) (l2:XS.length<=1000) (q:∀H',Same H H'->Q (.bl false) H') :
  wV (EA (tB (tCB (zq K a C) (bG (b7 0) (bG (Gu v1) iu)))) (Az (tC (.bl true))) Cc)
   (Az (tCB (zq K a C) (bG (b7 0) (bG (Gu v2) iu)))) { nx:=nx,rt:=Q } [some (.ref a)] H:=by
 refine Cy e l1 e1 rfl fun h c=>⟨_,rfl,?_⟩
 exact Cy f l2 e2 rfl fun g b=>q _ (c.trans b)
end
end L3
namespace L3
open PySem
open L2 hiding D Rf Rfs Rp dI dT
section
variable {K:aad}{ρ:Bool}{Γr Γl Γ Γn:aac}{t:TS}{d:DS}{B0:Hp}{fps:Nat->List Addr}{δ:Dl}{σ:St}{H:Hp}
abbrev DSA:=List D->(D->D->D->Prop)->Prop
def G8(S:DSA):Prop:=∀xs (P b:D->D->D->Prop),(∀r x y,P r x y->b r x y)->S xs P->S xs b
def Jt(K:aad)(vs:List V)(B:Hp)(Q:VK)(r f e:D):Prop :=
 ∀H' fp c v u,Same B H'->vs[0]?=some v->vs[1]?=some u->Rf K H' f v fp->Rf K H' e u c->fp.Nodup->c.Nodup->(∀b∈fp,B b=none/\Mu H' b/\b∉c)->(∀b∈c,B b=none/\Mu H' b)->Q r.toV H'
def spA(K:aad)(S:DSA):Sp:=fun vs H Q _=>∃B c ds,Ok K B [0,1] c (ds.map some) (vs.map some) H/\(∃a b,vs[0]?=some (.ref a)/\vs[1]?=some (.ref b))/\S ds (Jt K vs B Q)
def Iv{S:DSA}{n:Nat}(b:∀ds P,S ds P->ds.length=n){vs:List V}{H:Hp}{Q:VK}{E:XK}(h:spA K S vs H Q E):vs.length=n:=by
 obtain ⟨B,c,ds,o,_,h⟩:=h
 have:=o.len
 rw[mo,mo] at this
 rw[this];exact b _ _ h
abbrev Jb(a b:Addr)(P:D->D->D->Prop):bc:=⟨fun _=>False,fun r δ=>r.aP=true/\iW δ 0 fun e x=>e=a/\iW δ 1 fun c y=>c=b/\P r x y,fun _=>False,fun _=>False⟩
def Io{N:List Str}{S:DSA}(s:ST K true [0,1] [] t [0,1] Γn d)(hd:∀ds P a b x y,S ds P->ds[0]?=some x->ds[1]?=some y->d (Jb a b P) (aJ N ((ds.set 0 (.pin a x)).set 1 (.pin b y))))(C:∀ds P,S ds P->1<ds.length) :
  ∀{vs H Q E},spA K S vs H Q E->t { nx:=fun _ H'=>Q .non H',rt:=Q } (L2.start N vs) H:=by
 rintro vs H Q E ⟨B,X,ds,o,⟨a,b,ha,hb⟩,h⟩
 have M:=C _ _ h
 obtain ⟨x,j⟩:∃x,ds[0]?=some x:=⟨_,dz (by omega)⟩
 obtain ⟨y,i⟩:∃x,ds[1]?=some x:=⟨_,dz M⟩
 refine s (E:=Jb a b (Jt K vs B Q)) ⟨fun _ (z:False)=>z.elim,fun _ (z:False)=>z.elim,fun _ (z:False)=>z.elim,fun {fps δ σ H' x v fp} c r _ z=>?_⟩ (Ed o ha hb j i) (hd ds _ a b x y h j i)
 obtain ⟨n,z⟩:=z
 obtain ⟨L,R,e,G,q⟩:=cN z
 subst G
 obtain ⟨J,O,I,F,p⟩:=cN q
 subst F
 obtain ⟨v,U,m⟩:=c.val 0 _ e
 obtain rfl:v=.ref L:=m.1
 obtain ⟨u,T,l⟩:=c.val 1 _ I
 obtain rfl:u=.ref J:=l.1
 rw[(r.aP n).1]
 have f:0∈[0,1]:=by decide
 have g:1∈[0,1]:=by decide
 exact p H' (fps 0) (fps 1) _ _ c.b0.toSame ha hb m.2 l.2 (c.own 0 f).1 (c.own 1 g).1 (fun b hb=>⟨((c.own 0 f).2 b hb).1,((c.own 0 f).2 b hb).2,c.dj 0 f 1 (by decide) b hb⟩) (fun b hb=>(c.own 1 g).2 b hb)
def JM(i:Nat)(S:DSA)(f:DT)(E:bc)(δ:Dl):Prop:=f δ fun c=>if c=true then ∃w x y,δ[i]?=some (some (.tup [w,x,y]))/\(w.aP=true/\x.isRef=true/\y.isRef=true)/\S [x,y] (fun r e b=>r=.bl true/\E.nx (δ.set i (some (.tup [w,e,b])))) else E.nx δ
theorem JV{S:DSA}{Ex:XK}{M:TT}{dk:DT}(i:Nat)(hS:G8 S)(X:TR K Γ M dk)(hi:i∈Γ:=by decide) :
  ST K ρ Γr Γl (EA (KD M (K3 (tB (nG (spA K S) [] Ex (bG (tOp (tN K) (b7 i) (tC (.int 1))) (bG (tOp (tN K) (b7 i) (tC (.int 2))) iu)))))) (Az (tC (.bl false))) Cc) Γ Γ (JM i S dk):=by
 intro B0 Dn E fps δ σ H k o h
 refine X.run o (X.mono _ _ _ (fun c z s P=>?_) h)
 cases c with
 |false=>exact k.nx (o.same P) z
 |true =>
  obtain ⟨w,x,y,e,⟨L,zx,zy⟩,z⟩:=z
  have f:=o.same P
  obtain ⟨v,J,a,xs,rfl,ha,r⟩:=f.val i _ e
  have own:=f.own i hi
  obtain ⟨v0,r0,f0,g0,rfl,C,q0,r⟩:=r
  obtain ⟨v1,R,f1,Z,rfl,rfl,T,r⟩:=r
  obtain ⟨v2,Q,f2,Y,rfl,rfl,q2,r⟩:=r
  obtain ⟨rfl,rfl⟩:=r
  obtain ⟨rfl,rfl⟩:=q0.aP L
  rw[List.nil_append,ML] at C
  obtain ⟨p,rfl⟩:=T.isRef zx
  obtain ⟨g,rfl⟩:=q2.isRef zy
  have nd:=own.1
  rw[C] at nd
  obtain ⟨ZM,Ss,UK⟩:=Ms.mp nd
  have O:SqT K s a [w.toV,.ref p,.ref g]:=by first|exact .inl ha|exact .inl (.inl ha)|exact ha
  refine⟨.ref a,J,a,_,1,.ref p,rfl,rfl,O,pS (k:=1) rfl,.ref a,J,a,_,2,.ref g,rfl,rfl,O,pS (k:=2) rfl,?_⟩
  have UN:∀b∈f1,b∈fps i:=fun b hb=>by rw[C];exact Mg _ hb
  have UM:∀b∈f2,b∈fps i:=fun b hb=>by rw[C];exact L9 _ hb
  refine⟨fun b=>if b∈fps i then none else s b,fun l=>match l with|0=>f1|1=>f2|_=>[],[x,y],⟨rfl,⟨(f.less hi).2,f.b0.tv.same (f.less hi).1⟩,fun l d e=>?_,fun l e=>?_,fun l hl=>?_,fun l hl m hm c t=>?_⟩,⟨p,g,rfl,rfl⟩,hS _ _ _ (fun r' x' y' F=>?_) z⟩
  .match l,e with
   |0,e=>cases e;exact⟨_,rfl,T⟩
   |1,e=>cases e;exact⟨_,rfl,q2⟩
   |n+2,e=>cases e
  .match l,e with
   |0,e=>exact absurd rfl (e x)
   |1,e=>exact absurd rfl (e y)
   |n+2,e=>rfl
  .rcases Mb.mp hl with rfl|hl
   .exact⟨ZM,fun b hb=>⟨if_pos (UN b hb),(own.2 b (UN b hb)).2⟩⟩
   .cases Gc.mp hl
    exact⟨Ss,fun b hb=>⟨if_pos (UM b hb),(own.2 b (UM b hb)).2⟩⟩
  .rcases Mb.mp hl with rfl|hl
   .match m,hm with
    |0,hm=>exact absurd rfl hm
    |1,_=>exact fun z=>UK c t c z rfl
    |n+2,_=>exact Mr
   .cases Gc.mp hl
    match m,hm with
    |0,_=>exact fun z=>UK c z c t rfl
    |1,hm=>exact absurd rfl hm
    |n+2,_=>exact Mr
  .intro H' fp B v' u' G Z Y R Q n1 n2 I U
   cases Z
   cases Y
   obtain ⟨rfl,F⟩:=F
   refine⟨true,rfl,?_⟩
   have fresh:∀b,(if b∈fps i then none else s b)=none->b∈fps i\/(B0 b=none/\∀j,b∉fps j):=fun b hb=>by
    by_cases q:b∈fps i
    .exact .inl q
    .rw[if_neg q] at hb
     exact .inr ⟨f.b0.free hb,fun j z=>f.dom z hb⟩
   have na:a∉fps i:=fun z=>(own.2 a z).2.lM _ ha (.inl ⟨_,rfl⟩)
   have T8:H' a=some (.tup [w.toV,.ref p,.ref g]):=G.st a _ (by show (if a∈fps i then none else s a)=_;rw[if_neg na];exact ha) trivial
   refine k.nx (f.xu hi (d':=.tup [w,x',y']) (fp':=fp++B) J ⟨a,_,rfl,T8,w.toV,_,[],fp++B,rfl,rfl,Rf.oB L,.ref p,_,fp,B,rfl,rfl,R,.ref g,[],B,[],rfl,(ML _).symm,Q,rfl,rfl⟩ (Ms.mpr ⟨n1,n2,fun b hb c t z=>(I b hb).2.2 (by rw[z];exact t)⟩) (fun b hb=>?_) (fun b hb=>?_) ⟨(f.less hi).1.trans G,f.b0.tv⟩ (fun b u hb e n=>G.st b u (by show (if b∈fps i then none else s b)=some u;rw[if_neg hb];exact e) n)) F
   .rcases Mf.mp hb with q|q
    .exact (I b q).2.1
    .exact (U b q).2
   .rcases Mf.mp hb with q|q
    .exact fresh b (I b q).1
    .exact fresh b (U b q).1
def yN(i j:Nat){G:Nat->DS}(hb:STA K i j t Γ G)(hi:i∈Γ:=by decide)(hj:j∉Γ:=by decide)(M:i≠j:=by decide) :
  STk K i (FG (zk K (b7 i)) (eO j) t) Γ Γ (Jg i j G):=by
 intro B0 Dn E fps δ σ H k o h
 obtain ⟨L,W,u,turn⟩:=h
 obtain ⟨ds,e,_⟩:=dq (turn 0 δ u)
 obtain ⟨a0,xs0,fq0,r,S,_⟩:=o.wM e
 refine⟨.ref a0,r,a0,rfl,⟨xs0,.inl (.inl S)⟩,fun n m σ H=>m=L - n/\∃fps δ,Ok K B0 Γ fps δ σ H/\W n δ/\σ[i]?=some (some (.ref a0)),⟨L,rfl,fps,δ,o,u,r⟩,?_⟩
 rintro n m O8 H2 ⟨rfl,QK,X,c,P,f⟩
 obtain ⟨s,e2,⟨hL,J⟩,z⟩:=dq (turn n X P)
 obtain ⟨a1,xs,fq,B,q2,q3,q4⟩:=c.wM e2
 rw[f] at B;cases B
 have R:=q4.length
 by_cases O:n<L
 .rw[if_pos O] at z
  obtain ⟨es,F,z⟩:=iO z
  obtain ⟨a,X1,b,ys,fe,y,v,Z,l,Y,_⟩:=ko (es':=[]) c hi e2 F
  rw[f] at y;cases y
  rw[q2] at v;cases v
  refine .inr ⟨⟨xs,.ref b,.inl (.inl q2),l⟩,fun σ H=>∃C,C < L - n/\C=L - (n+1)/\∃fps δ,Ok K B0 Γ fps δ σ H/\W (n+1) δ/\σ[i]?=some (some (.ref a0)),fun σ' H' q=>q,fun x H3 p=>?_⟩
  obtain ⟨rfl,p⟩:=p
  have ex:=p xs (.inl (.inl q2))
  rw[l] at ex;cases ex
  refine hb (E:={ E with nx:=fun g=>W (n+1) (g.set j none) }) (m:=n) (fun {fps δ σ H} I z=>?_) ⟨by rw[OL];exact c.dead j (.ref b) hj,hi,hj,s,es,xs,b,?_,F,?_,?_,q2,l,?_⟩ z
  .obtain ⟨U,T,Ze,b3,k1,k2,k3,Q,k5,k6,k7⟩:=I.al
   exact⟨L - (n+1),by omega,rfl,_,_,I.ok,z,Q⟩
  .rw[KE (MI M)];exact e2
  .rw[Mj J]
  .rw[KE (MI M)];exact f
  .rw[Mj (by rw[c.len];exact J)]
 .rw[if_neg O] at z
  exact .inl ⟨⟨xs,.inl (.inl q2),by omega⟩,k (by rw[f,r]) c z⟩
end
end L3
namespace L3
open PySem L2
section
variable {K:aad}{h:Heap}{mg:Str->Option Value}{x m q:Str}{st:Stmt}{ps:List Str}{f C M:Addr}{oc:Value}{od an:Option Addr}{osl:Array (Option Value)}{kV doc pm cdv ct:Value}
abbrev Gn(x q:Str)(st:Stmt)(ps:List Str):Prop:=∀(kV doc pm:Value) (an:Option Addr) (cdv ct:Value) (us:List Value),us.length=ps.length->bindArgs (PySem.W.fnOf x q (gh st) (c0 st) (aw st) .none kV doc pm an cdv ct) ⟨us,[]⟩=pure (ps.zip us)
def fnA(X:K.In h)(G:h.Ns mainGlobals mg)(a:PySem.W.nsIn K mainGlobals x=some (some (.ref f)))(l:K.lookup f=some ⟨oc,od,.func (PySem.W.fnOf x x (gh st) (c0 st) (aw st) .none kV doc pm an cdv ct),osl⟩)(c:PySem.W.codeIn K cdv x=true)(k:PySem.W.keepIn K (.ref f)=true)(b:Gn x x st ps):∃f e,FnAt K mg x st ps f e :=
 ⟨f,_,mF l c k,MM X G a,(mF l c k).binds b⟩
def mtA(a:PySem.W.findIn K (.ref C) m=some (some (.ref f)))(i:PySem.W.isFn K (.ref f)=true)(l:K.lookup f=some ⟨oc,od,.func (PySem.W.fnOf m q (gh st) (c0 st) (aw st) .none kV doc pm an cdv ct),osl⟩)(c:PySem.W.codeIn K cdv q=true)(k:PySem.W.keepIn K (.ref f)=true)(b:Gn m q st ps):∃f e,ql K C m q st ps f e :=
 ⟨f,_,mF l c k,⟨a,i,k⟩,(mF l c k).binds b⟩
def mkA(X:K.In h)(G:h.Ns mainGlobals mg)(e:PySem.W.nsIn K mainGlobals x=some (some (.ref C)))(g:PySem.W.makesIn K C=true)(a:PySem.W.findIn K (.ref C) "__init__" = some (some (.ref f)))(i:PySem.W.isFn K (.ref f)=true)(j:PySem.W.keepIn K (.ref C)=true)(l:K.lookup f=some ⟨oc,od,.func (PySem.W.fnOf "__init__" q (gh st) (c0 st) (aw st) .none kV doc pm an cdv ct),osl⟩)(c:PySem.W.codeIn K cdv q=true)(k:PySem.W.keepIn K (.ref f)=true)(b:Gn "__init__" q st ps):∃f m,Bx K mg x C q st ps f m :=
 ⟨f,_,mF l c k,⟨g,a,i,j⟩,(mF l c k).binds b,MM X G e⟩
structure XC(K:aad)(C M:Addr):Prop where
 obj:∀base,K.In base->bQ base C [M]
 exk:PySem.W.yr K C
variable {dd:Option Addr}{nm qn:Str}{bs:List Value}{ns:Addr}{hd:Bool}{sn:List Str}{sub:List Value}{ab:Bool}{col:Option Bool}{k0 k1 k2 k3 k5:Option Value}
def xoA(u:K.lookup C=some ⟨.type "type",dd,.cls ⟨nm,bs,.ref C::VB,ns,qn,hd,sn,sub,ab,col,false⟩,#[k0,k1,k2,k3,some (.builtin "ValueError.__new__"),k5]⟩)(v:PySem.W.excIn K C VB "ValueError.__new__" = true):∀base,K.In base->bQ base C []:=fun _ hb=>bQ.of_lookup (ups:=[]) hb u rfl v
def xcA(u:K.lookup C=some ⟨.type "type",dd,.cls ⟨nm,bs,.ref C::.ref M::VB,ns,qn,hd,sn,sub,ab,col,false⟩,#[k0,k1,k2,k3,some (.builtin "ValueError.__new__"),k5]⟩)(v:PySem.W.excIn K C VB "ValueError.__new__" = true)(ga:PySem.W.findIn K (.ref C) "__getattribute__" = some (some (.builtin "BaseException.__getattribute__")))(ge:PySem.W.findIn K (.ref C) "__getattr__" = some none)(cl:PySem.W.findIn K (.ref C) "__class__" = some (some (.builtin "object.__class__")))(ob:PySem.W.mroIn K C (.type "object")=some true)(be:PySem.W.mroIn K C (.type "BaseException")=some true):XC K C M :=
 ⟨fun _ hb=>bQ.of_lookup (ups:=[M]) hb u rfl v,⟨ga,ge,cl,ob,be,by unfold PySem.W.clsIn;rw[u];rfl⟩⟩
end
end L3
namespace Mine
open PySem L3
open L2 hiding D Rf Rfs Rp dI dT
open PyProof.Rows hiding St
open L3.Fl hiding St
local macro_rules | `(tactic| walk_at "o") => `(tactic| first | exact Or.inl rfl | exact Or.inr rfl)
local macro_rules | `(tactic| walk_at "s") => `(tactic| exact ⟨rfl, rfl, rfl, by decide +kernel, rfl, by decide +kernel, by decide +kernel⟩)
local macro_rules | `(tactic| walk_at "v1") => `(tactic| simp only [IW,xb,GO,De,AH,sM,oD,Gz,xx,JM,GH,wR,EL,xl,F4,IM,KU,Hj,Kq,Ax,Ga,zX,Cd,JT,vIf,mn,vC,vOp,vUn,BN,F9,FV,vJ,Fx,J9,vOr,JO,FF,Eh,Bh,Ef,ra,JZ,KZ,tY,Ks,FI,EC,Co,zI,BE,BQ,ur,Af,zS,xS,Fm,uN,zJ,yx,iF,xT,vIs,BD,GU,B5,BM,BK,C6,FW,Fb,FK,Ge,F5,FA,Fn,Gj,Em,zz,D.t6,CD,D.aP,G9,Ai,BR,wD,we,vL,FC,zu,BP,Hs,z5,z7,vS,wm,wy,iR,m7,vSl,v8,vN,uB,sT,uC,nX,t5,t9,Hf,iW,CI,Gi,Lb,FQ,Ha,vt,A6,sL,wq,uq,vH,BF,wk,zN,wG,wA,BY,Ej,C5,D.toV,Option.some.injEq,forall_eq',C9,Aa,EX,Hb,Bn,Bz,EB,noX,Ei,EI,FZ,Fo,Aj,kill,List.foldl_nil,List.foldl_cons,List.set_cons_zero,List.set_cons_succ,List.getElem?_cons_zero,List.getElem?_cons_succ,List.getElem?_nil,qT,yJ,Bool.false_eq_true,Bool.not_false,Bool.not_true,if_true,if_false,ite_true,ite_false,true_and,and_true,List.length_cons,List.length_nil,decide_eq_true_eq,Bool.not_eq_true',decide_eq_false_iff_not,List.length_map,Bool.true_eq_false,eq_self,not_true_eq_false,not_false_eq_true,Int.reduceToNat,Int.reduceEq,Int.reduceLT,Int.reduceLE,Int.reducePow,Int.reduceAdd,Int.reduceMul,Int.reduceSub,Int.reduceNeg,Int.toNat_natCast])
local macro_rules | `(tactic| walk_at "vb1") => `(tactic| simp only [IW,xb,GO,De,AH,sM,oD,Gz,xx,JM,GH,wR,EL,xl,F4,IM,KU,Hj,Kq,Ax,Ga,zX,Cd,JT,vIf,mn,vC,vOp,vUn,BN,F9,FV,vJ,Fx,J9,vOr,JO,FF,Eh,Bh,Ef,ra,JZ,KZ,tY,Ks,FI,EC,Co,zI,BE,BQ,ur,Af,zS,xS,Fm,uN,zJ,yx,iF,xT,vIs,BD,GU,B5,BM,BK,C6,FW,Fb,FK,Ge,F5,FA,Fn,Gj,Em,zz,D.t6,CD,D.aP,G9,Ai,BR,wD,we,vL,FC,zu,BP,Hs,z5,z7,vS,wm,wy,iR,m7,vSl,v8,vN,uB,sT,uC,nX,t5,t9,Hf,iW,CI,Gi,Lb,FQ,Ha,vt,A6,sL,wq,uq,vH,BF,wk,zN,wG,wA,BY,Ej,C5,D.toV,Option.some.injEq,forall_eq',C9,Aa,EX,Hb,Bn,Bz,EB,noX,Ei,EI,FZ,Fo,Aj,kill,List.foldl_nil,List.foldl_cons,List.set_cons_zero,List.set_cons_succ,List.getElem?_cons_zero,List.getElem?_cons_succ,List.getElem?_nil,qT,yJ,Bool.false_eq_true,Bool.not_false,Bool.not_true,if_true,if_false,ite_true,ite_false,true_and,and_true,List.length_cons,List.length_nil,decide_eq_true_eq,Bool.not_eq_true',decide_eq_false_iff_not,List.length_map,Bool.true_eq_false,eq_self,not_true_eq_false,not_false_eq_true,Int.reduceToNat,Int.reduceEq,Int.reduceLT,Int.reduceLE,Int.reducePow,Int.reduceAdd,Int.reduceMul,Int.reduceSub,Int.reduceNeg,Int.toNat_natCast,jW,dP,List.reduceReplicate,List.replicate_succ,List.replicate_zero,List.map_cons,List.map_nil,Option.getD_some,List.cons_append,List.nil_append,Nat.reduceAdd])
local macro_rules | `(tactic| walk_at "v") => `(tactic| try (walk_at "v1"))
local macro_rules | `(tactic| walk_at "vb") => `(tactic| try (walk_at "vb1"))
local macro_rules | `(tactic| walk_at "cd") => `(tactic| first | exact ⟨by decide,100,by decide,by decide⟩ | exact ⟨by omega,100,by omega,by decide⟩ | omega | decide | rfl | exact ⟨by decide,by decide,by decide⟩ | exact ⟨64,64,by omega,by omega,by decide⟩ | exact ⟨200,200,by omega,by omega,by decide⟩ | exact cw)
local macro_rules | `(tactic| walk_at "go") => `(tactic| repeat (first | (walk_at "v1") | ((with_reducible refine And.intro ?k1 ?_); (case k1 => walk_at "cd"))))
local macro_rules | `(tactic| walk_at "gb") => `(tactic| repeat (first | (walk_at "vb1") | ((with_reducible refine And.intro ?k1 ?_); (case k1 => walk_at "cd"))))
def top (i:Nat):Stmt:=PySem.Challenge.pw_evenmix_k44_fates.main.body.getD i (.Pass ⟨0,0,0,0⟩)
def DF(i j:Nat):Stmt:=(match top i with|.ClassDef _ _ _ b _ _ _ _ _ _ _=>b|_=>[]).getD j (.Pass ⟨0,0,0,0⟩)
abbrev mV:Stmt:=top 16
abbrev qH:List Str:=["row"]
abbrev kF:List Str:=["row"]
def Bq:aF qH kF (aw mV):=by walk_at "s"
abbrev bx:Stmt:=top 17
abbrev gK:List Str:=["row"]
abbrev bZ:List Str:=["row"]
def oK:aF gK bZ (aw bx):=by walk_at "s"
abbrev eA:Stmt:=top 18
abbrev iV:List Str:=["one","other"]
abbrev en:List Str:=["one","other"]
def rX:aF iV en (aw eA):=by walk_at "s"
abbrev jn:Stmt:=top 19
abbrev n6:List Str:=["one","other"]
abbrev jh:List Str:=["one","other"]
def Am:aF n6 jh (aw jn):=by walk_at "s"
abbrev k8:Stmt:=top 20
abbrev oC:List Str:=["row","heads","head","number"]
abbrev jB:List Str:=["row"]
def il:aF oC jB (aw k8):=by walk_at "s"
abbrev cX:Stmt:=top 21
abbrev fu:List Str:=["one","other","above"]
abbrev b9:List Str:=["one","other"]
def iG:aF fu b9 (aw cX):=by walk_at "s"
abbrev kU:Stmt:=top 23
abbrev ow:List Str:=["number","many"]
abbrev jy:List Str:=["number","many"]
def yZ:aF ow jy (aw kU):=by walk_at "s"
abbrev dM:Stmt:=top 24
abbrev iZ:List Str:=["table"]
abbrev dF:List Str:=["table"]
def sd:aF iZ dF (aw dM):=by walk_at "s"
abbrev eE:Stmt:=top 25
abbrev jb:List Str:=["table"]
abbrev dO:List Str:=["table"]
def rN:aF jb dO (aw eE):=by walk_at "s"
abbrev dB:Stmt:=top 26
abbrev fX:List Str:=["table"]
abbrev cF:List Str:=["table"]
def om:aF fX cF (aw dB):=by walk_at "s"
abbrev d9:Stmt:=top 27
abbrev jk:List Str:=["table"]
abbrev dW:List Str:=["table"]
def rJ:aF jk dW (aw d9):=by walk_at "s"
abbrev iq:Stmt:=top 28
abbrev me:List Str:=["table","place"]
abbrev ip:List Str:=["table","place"]
def wN:aF me ip (aw iq):=by walk_at "s"
abbrev fg:Stmt:=top 30
abbrev ir:List Str:=["rows","columns","low","high"]
abbrev c7:List Str:=["rows","columns","low","high"]
def qj:aF ir c7 (aw fg):=by walk_at "s"
abbrev dS:Stmt:=top 31
abbrev je:List Str:=["low","high"]
abbrev eB:List Str:=["low","high"]
def rW:aF je eB (aw dS):=by walk_at "s"
abbrev gj:Stmt:=DF 32 0
abbrev i6:List Str:=["self","rows","columns","low","high"]
abbrev dU:List Str:=["self","rows","columns","low","high"]
def rT:aF i6 dU (aw gj):=by walk_at "s"
abbrev dA:Stmt:=DF 32 1
abbrev jN:List Str:=["self","reach","low#","high#"]
abbrev cE:List Str:=["self"]
def jm:aF jN cE (aw dA):=by walk_at "s"
abbrev dG:Stmt:=DF 32 2
abbrev mB:List Str:=["self","way","goal","start","amount","step","row","low#","high#"]
abbrev eD:List Str:=["self","way"]
def cq:aF mB eD (aw dG):=by walk_at "s"
abbrev ff:Stmt:=DF 32 3
abbrev ix:List Str:=["self","way","step","row","column"]
abbrev c8:List Str:=["self","way","step"]
def gH:aF ix c8 (aw ff):=by walk_at "s"
abbrev iI:Stmt:=DF 33 0
abbrev lF:List Str:=["self","filling","raising","lowering","layer","row","fresh"]
abbrev fM:List Str:=["self","filling"]
def cJ:aF lF fM (aw iI):=by walk_at "s"
abbrev jP:Stmt:=DF 33 1
abbrev l9:List Str:=["self","cells","column","row"]
abbrev hX:List Str:=["self"]
def fJ:aF l9 hX (aw jP):=by walk_at "s"
abbrev kG:Stmt:=top 34
abbrev qx:List Str:=["lesser","greater"]
abbrev kE:List Str:=["lesser","greater"]
def Be:aF qx kE (aw kG):=by walk_at "s"
abbrev oX:Stmt:=top 35
abbrev tU:List Str:=["layer","ways","reached","fresh","source","place"]
abbrev mD:List Str:=["layer","ways","reached"]
def m6:aF tU mD (aw oX):=by walk_at "s"
abbrev cz:Stmt:=top 36
abbrev fV:List Str:=["columns","rooms","free"]
abbrev cy:List Str:=["columns","rooms"]
def i5:aF fV cy (aw cz):=by walk_at "s"
abbrev kM:Stmt:=top 38
abbrev qc:List Str:=["sums","many"]
abbrev kD:List Str:=["sums","many"]
def Bj:aF qc kD (aw kM):=by walk_at "s"
abbrev cO:Stmt:=top 39
abbrev gI:List Str:=["sums","level"]
abbrev cV:List Str:=["sums","level"]
def oP:aF gI cV (aw cO):=by walk_at "s"
abbrev jJ:Stmt:=top 40
abbrev mv:List Str:=["rows","columns","many"]
abbrev gX:List Str:=["rows","columns"]
def pD:aF mv gX (aw jJ):=by walk_at "s"
abbrev fU:Stmt:=top 41
abbrev iY:List Str:=["rows","columns","left","table","number","row"]
abbrev dJ:List Str:=["rows","columns"]
def cx:aF iY dJ (aw fU):=by walk_at "s"
abbrev eR:Stmt:=top 42
abbrev kf:List Str:=["places","many"]
abbrev eX:List Str:=["places","many"]
def uo:aF kf eX (aw eR):=by walk_at "s"
abbrev mY:Stmt:=top 44
abbrev qI:List Str:=["rows","columns","cell","noughts","ones","without","having"]
abbrev kn:List Str:=["rows","columns","cell"]
def jw:aF qI kn (aw mY):=by walk_at "s"
abbrev fP:Stmt:=top 45
abbrev kY:List Str:=["rows","columns","number"]
abbrev fW:List Str:=["rows","columns","number"]
def uW:aF kY fW (aw fP):=by walk_at "s"
abbrev gM:Stmt:=top 46
abbrev j6:List Str:=["table","cell","turned"]
abbrev eY:List Str:=["table","cell"]
def lY:aF j6 eY (aw gM):=by walk_at "s"
abbrev jT:Stmt:=top 48
abbrev mI:List Str:=["_law_found"]
abbrev ig:List Str:=["_law_found"]
def xP:aF mI ig (aw jT):=by walk_at "s"
abbrev lp:Stmt:=top 49
abbrev nY:List Str:=["_law_script","_law_many","_law_found","_law_number","_law_cell","_law_k"]
abbrev ji:List Str:=["_law_script","_law_many"]
def eC:aF nY ji (aw lp):=by walk_at "s"
abbrev jU:Stmt:=top 50
abbrev l4:List Str:=["_law_cell"]
abbrev ik:List Str:=["_law_cell"]
def wX:aF l4 ik (aw jU):=by walk_at "s"
abbrev fA:Stmt:=top 51
abbrev oE:List Str:=["_law_script","_law_deck_here","_law_high","_law_wide","_law_kind","_law_found","_law_k","_law_cell","_law_many","_law_at","_law_line","_law_spot"]
abbrev i7:List Str:=["_law_script","_law_deck_here"]
def bF:aF oE i7 (aw fA):=by walk_at "s"
abbrev gG:Stmt:=top 52
abbrev nV:List Str:=["_law_table","_law_columns","_law_j"]
abbrev jc:List Str:=["_law_table"]
def mL:aF nV jc (aw gG):=by walk_at "s"
abbrev iM:Stmt:=top 53
abbrev kS:List Str:=["_law_some","_law_many","_law_k"]
abbrev fQ:List Str:=["_law_some","_law_many"]
def nB:aF kS fQ (aw iM):=by walk_at "s"
abbrev gB:Stmt:=top 54
abbrev nU:List Str:=["_law_some","_law_others","_law_rows","_law_columns","_law_low","_law_high","_law_room","_law_k","_law_j"]
abbrev jC:List Str:=["_law_some","_law_others","_law_rows","_law_columns","_law_low","_law_high"]
def fE:aF nU jC (aw gB):=by walk_at "s"
abbrev lC:Stmt:=top 55
abbrev oz:List Str:=["_law_found","_law_sums_here","_law_cell","_law_due","_law_line","_law_number"]
abbrev jA:List Str:=["_law_found","_law_sums_here","_law_cell","_law_due"]
def mf:aF oz jA (aw lC):=by walk_at "s"
abbrev fF:Stmt:=top 56
abbrev mr:List Str:=["_law_sums_here","_law_number","_law_cell","_law_other","_law_found"]
abbrev hZ:List Str:=["_law_sums_here","_law_number","_law_cell","_law_other"]
def ph:aF mr hZ (aw fF):=by walk_at "s"
abbrev jI:Stmt:=top 57
abbrev gT:List Str:=["_law_found","_law_sums_here","_law_cell","_law_least","_law_most","_law_low"]
abbrev ie:List Str:=["_law_found","_law_sums_here","_law_cell"]
def eJ:aF gT ie (aw jI):=by walk_at "s"
abbrev k9:Stmt:=top 58
abbrev oq:List Str:=["_law_sums_here","_law_cell","_law_got","_law_error"]
abbrev jv:List Str:=["_law_sums_here","_law_cell"]
def ic:aF oq jv (aw k9):=by walk_at "s"
abbrev cA:Stmt:=top 59
abbrev pE:List Str:=["_law_error"]
abbrev bh:List Str:=["_law_error"]
def jl:aF pE bh (aw cA):=by walk_at "s"
abbrev iK:Stmt:=top 60
abbrev lD:List Str:=["_law_sums_here","_law_cell","_law_error"]
abbrev fS:List Str:=["_law_sums_here","_law_cell"]
def nF:aF lD fS (aw iK):=by walk_at "s"
abbrev gQ:Stmt:=top 61
abbrev j8:List Str:=["_law_sums_here","_law_cell","_law_rows","_law_columns","_law_at","_law_spot"]
abbrev eV:List Str:=["_law_sums_here","_law_cell"]
def eF:aF j8 eV (aw gQ):=by walk_at "s"
abbrev m9:Stmt:=top 62
abbrev qz:List Str:=["_law_sums_here","_law_cell","_law_high","_law_wide","_law_row"]
abbrev kK:List Str:=["_law_sums_here","_law_cell"]
def kT:aF qz kK (aw m9):=by walk_at "s"
abbrev gW:Stmt:=top 63
abbrev mG:List Str:=["_law_one","_law_other","_law_held","_law_line"]
abbrev gZ:List Str:=["_law_one","_law_other"]
def iJ:aF mG gZ (aw gW):=by walk_at "s"
abbrev gN:Stmt:=top 64
abbrev kd:List Str:=["_law_sums_here","_law_cell","_law_due","_law_handed"]
abbrev eU:List Str:=["_law_sums_here","_law_cell","_law_due"]
def mP:aF kd eU (aw gN):=by walk_at "s"
abbrev lX:Stmt:=top 65
abbrev FO:List Str:=["_law_script","_law_deck_here","_law_sums_here","_law_spoiled_here","_law_odd_here","_law_k","_law_cell","_law_handed","_law_found","_law_kind","_law_part","_law_again"]
abbrev uE:List Str:=["_law_script"]
def iz:aF FO uE (aw lX):=by walk_at "s"
structure Txt(K:aad)(mg:Str->Option Value)(base:Heap):Prop where
 len_:mg "len" = none
 isinstance_:mg "isinstance" = none
 int_:mg "int" = none
 bool_:mg "bool" = none
 list_:mg "list" = none
 range_:mg "range" = none
 min_:mg "min" = none
 max_:mg "max" = none
 sum_:mg "sum" = none
 sorted_:mg "sorted" = none
 tuple_:mg "tuple" = none
 zip_:mg "zip" = none
 any_:mg "any" = none
 str_:mg "str" = none
 ValueError_:mg "ValueError" = none
 enumerate_:mg "enumerate" = none
 lam_:L3.Er K mg base
structure Cs where
 (MixError NoTable NoBottom NotAlike NoStep NoMix NotEven NoSwap NoBounds NoPlace NoSums TooGreat NoNumber NoText Filling Reach:Addr)
structure Fns(K:aad)(mg:Str->Option Value)(c:Cs):Prop where
 h_falling:∃f fd,FnAt K mg "falling" mV kF f fd
 h_falling_places:∃f fd,FnAt K mg "falling_places" bx bZ f fd
 h_places_below:∃f fd,FnAt K mg "places_below" eA en f fd
 h_less_row:∃f fd,FnAt K mg "less_row" jn jh f fd
 h_heads_of:∃f fd,FnAt K mg "heads_of" k8 jB f fd
 h_first_head_above:∃f fd,FnAt K mg "first_head_above" cX b9 f fd
 h_is_place:∃f fd,FnAt K mg "is_place" kU jy f fd
 h_copied_table:∃f fd,FnAt K mg "copied_table" dM dF f fd
 h_sums_of_rows:∃f fd,FnAt K mg "sums_of_rows" eE dO f fd
 h_sums_of_columns:∃f fd,FnAt K mg "sums_of_columns" dB cF f fd
 h_turned_table:∃f fd,FnAt K mg "turned_table" d9 dW f fd
 h_column_of:∃f fd,FnAt K mg "column_of" iq ip f fd
 h_table_between:∃f fd,FnAt K mg "table_between" fg c7 f fd
 h_check_bounds:∃f fd,FnAt K mg "check_bounds" dS eB f fd
 h_Filling_init:∃f fd,Bx K mg "Filling" c.Filling "Filling.__init__" gj dU f fd
 h_Filling_outcome:∃f fd,ql K c.Filling "outcome" "Filling.outcome" dA cE f fd
 h_Filling_pour:∃f fd,ql K c.Filling "pour" "Filling.pour" dG eD f fd
 h_Filling_slack:∃f fd,ql K c.Filling "slack" "Filling.slack" ff c8 f fd
 h_Reach_init:∃f fd,Bx K mg "Reach" c.Reach "Reach.__init__" iI fM f fd
 h_Reach_way:∃f fd,ql K c.Reach "way" "Reach.way" jP hX f fd
 h_ways_up:∃f fd,FnAt K mg "ways_up" kG kE f fd
 h_spread:∃f fd,FnAt K mg "spread" oX mD f fd
 h_first_with_room:∃f fd,FnAt K mg "first_with_room" cz cy f fd
 h_heap_of:∃f fd,FnAt K mg "heap_of" kM kD f fd
 h_how_many_reach:∃f fd,FnAt K mg "how_many_reach" cO cV f fd
 h_ones_with:∃f fd,FnAt K mg "ones_with" jJ gX f fd
 h_filled_table:∃f fd,FnAt K mg "filled_table" fU dJ f fd
 h_row_of_ones:∃f fd,FnAt K mg "row_of_ones" eR eX f fd
 h_fate_of:∃f fd,FnAt K mg "fate_of" mY kn f fd
 h_full_table:∃f fd,FnAt K mg "full_table" fP fW f fd
 h_turned_cell:∃f fd,FnAt K mg "turned_cell" gM eY f fd
 h_law_whole:∃f fd,FnAt K mg "_law_whole" jT ig f fd
 h_law_deck:∃f fd,FnAt K mg "_law_deck" lp ji f fd
 h_law_shape:∃f fd,FnAt K mg "_law_shape" jU ik f fd
 h_law_ones:∃f fd,FnAt K mg "_law_ones" fA i7 f fd
 h_law_sums:∃f fd,FnAt K mg "_law_sums" gG jc f fd
 h_law_rising:∃f fd,FnAt K mg "_law_rising" iM fQ f fd
 h_law_bars:∃f fd,FnAt K mg "_law_bars" gB jC f fd
 h_law_lies:∃f fd,FnAt K mg "_law_lies" lC jA f fd
 h_law_frame:∃f fd,FnAt K mg "_law_frame" fF hZ f fd
 h_law_right:∃f fd,FnAt K mg "_law_right" jI ie f fd
 h_law_seen:∃f fd,FnAt K mg "_law_seen" k9 jv f fd
 h_law_other_class:∃f fd,FnAt K mg "_law_other_class" cA bh f fd
 h_law_caught:∃f fd,FnAt K mg "_law_caught" iK fS f fd
 h_law_spoiled:∃f fd,FnAt K mg "_law_spoiled" gQ eV f fd
 h_law_odd:∃f fd,FnAt K mg "_law_odd" m9 kK f fd
 h_law_apart:∃f fd,FnAt K mg "_law_apart" gW gZ f fd
 h_law_refused:∃f fd,FnAt K mg "_law_refused" gN eU f fd
 h_law:∃f fd,FnAt K mg "law" lX uE f fd
structure Exs(K:aad)(mg:Str->Option Value)(base:Heap)(c:Cs):Prop where
 m_MixError:mg "MixError" = some (.ref c.MixError)
 m_NoTable:mg "NoTable" = some (.ref c.NoTable)
 m_NoBottom:mg "NoBottom" = some (.ref c.NoBottom)
 m_NotAlike:mg "NotAlike" = some (.ref c.NotAlike)
 m_NoStep:mg "NoStep" = some (.ref c.NoStep)
 m_NoMix:mg "NoMix" = some (.ref c.NoMix)
 m_NotEven:mg "NotEven" = some (.ref c.NotEven)
 m_NoSwap:mg "NoSwap" = some (.ref c.NoSwap)
 m_NoBounds:mg "NoBounds" = some (.ref c.NoBounds)
 m_NoPlace:mg "NoPlace" = some (.ref c.NoPlace)
 m_NoSums:mg "NoSums" = some (.ref c.NoSums)
 m_TooGreat:mg "TooGreat" = some (.ref c.TooGreat)
 m_NoNumber:mg "NoNumber" = some (.ref c.NoNumber)
 m_NoText:mg "NoText" = some (.ref c.NoText)
 m_Filling:mg "Filling" = some (.ref c.Filling)
 m_Reach:mg "Reach" = some (.ref c.Reach)
 i_Filling:Ih K c.Filling
 n_Filling_low:bM K c.Filling "low"
 n_Filling_high:bM K c.Filling "high"
 n_Filling_table:bM K c.Filling "table"
 n_Filling_wants:bM K c.Filling "wants"
 n_Filling_rooms:bM K c.Filling "rooms"
 i_Reach:Ih K c.Reach
 n_Reach_rows:bM K c.Reach "rows"
 n_Reach_columns:bM K c.Reach "columns"
 n_Reach_goal:bM K c.Reach "goal"
 o_MixError:bQ base c.MixError []
 o_NoBounds:bQ base c.NoBounds [c.MixError]
 k_NoBounds:PySem.W.yr K c.NoBounds
 o_NoPlace:bQ base c.NoPlace [c.MixError]
 k_NoPlace:PySem.W.yr K c.NoPlace
 o_NoSums:bQ base c.NoSums [c.MixError]
 k_NoSums:PySem.W.yr K c.NoSums
 t1:PySem.W.kitAny K (.ref c.NoPlace) ([c.NoTable,c.NoBottom,c.NotAlike,c.NoStep,c.NoMix,c.NotEven].map Value.ref)=some false
 t2:PySem.W.kitAny K (.ref c.NoPlace) ([c.NoSwap,c.NoBounds,c.TooGreat,c.NoNumber,c.NoText].map Value.ref)=some false
 t3:PySem.W.kitAny K (.ref c.NoSums) ([c.NoTable,c.NoBottom,c.NotAlike,c.NoStep,c.NoMix,c.NotEven].map Value.ref)=some false
 t4:PySem.W.kitAny K (.ref c.NoSums) ([c.NoSwap,c.NoBounds,c.TooGreat,c.NoNumber,c.NoText].map Value.ref)=some false
 p_NoPlace_NoSums:PySem.W.kitOne K (.ref c.NoPlace) (.ref c.NoSums)=some false
 p_NoSums_NoPlace:PySem.W.kitOne K (.ref c.NoSums) (.ref c.NoPlace)=some false
 ne_NoSums_NoPlace:[c.NoSums,c.MixError].contains c.NoPlace=false
 v_NoSums:PySem.W.kitOne K (.ref c.NoSums) (.type "ValueError")=some true
 v_NoPlace:PySem.W.kitOne K (.ref c.NoPlace) (.type "ValueError")=some true
section
variable {P:Program}{w:World}{K:aad}{mg:Str->Option Value}{base:Heap}
def kQ:DSp:=fun ds P=>∃ns,ds=[dI ns]/\ns.length<64/\P (dI (uL ns))
def xM:bo kQ:=by
 intro xs P b k h
 unfold kQ at h ⊢
 grind
def zZ:∀ds P,kQ ds P->ds.length=1:=by
 intro ds P h
 obtain ⟨_,e,_⟩:=h
 rw[e];rfl
def A4{c:Cs}{f:Addr}{b:FuncData}(F:FnAt K mg "falling" mV kF f b)(o:Fns K mg c)(T:Txt K mg base)(xs:Exs K mg base c):br P w K mg base CX0 1 f b kF (spP K kQ):=by
 refine F.fn.ok Bq (fun vs H Q E h=>aR zZ h) (fun l A outer s H vs Q E n h=>?_)
 refine⟨_,(av (aB (Dk (rS (K:=K) rfl) (by rfl) T.sorted_ boot_sorted (aa (pv 0) aj) (C7 fG EE)))),bb (Γn:=[]) (N:=qH) (aI (M:=[]) (wO (ai (ES.er (af 0)) au))) (fun ds P i=>?_) h⟩
 obtain ⟨ns,rfl,hl,j⟩:=i
 rw[show aJ qH [dI ns]=[some (dI ns)] from rfl]
 walk_at "v"
 refine⟨hl,fun m e g=>?_⟩
 rw[sv e g]
 exact j
def cR:DSp:=fun ds P=>∃ns:aab,ds=[dI ns]/\ns.length<64/\∀c:aab,c.Perm (km ns.length)->c.Pairwise (fun a b=>ns.getD b.toNat 0<=ns.getD a.toNat 0)->P (dI c)
def iD:bo cR:=by
 intro xs P i k h
 obtain ⟨ns,e,g,h⟩:=h
 exact⟨ns,e,g,fun b f c=>k _ (h b f c)⟩
def nR:∀ds P,cR ds P->ds.length=1:=by
 intro ds P h
 obtain ⟨_,e,_⟩:=h
 rw[e];rfl
def jK{c:Cs}{f:Addr}{g:FuncData}(F:FnAt K mg "falling_places" bx bZ f g)(r:Fns K mg c)(T:Txt K mg base)(xs:Exs K mg base c):br P w K mg base CX0 1 f g bZ (spP K cR):=by
 obtain ⟨c_,n,m,o⟩:=T.lam_.of F
 refine L3.Fun.okL F.fn n oK (fun vs H Q E h=>aR nR h) (fun A outer s H vs Q E j h=>?_)
 refine⟨_,(av (aB (Aw (K:=K) (i:=0) (cr:=s.heap.objs.size+1) rfl rfl rfl T.sorted_ rfl T.range_ (wln K T.len_ (pv 0)) (fun p H Q a xs e b q=>⟨_,e,_,_,rfl,.inl b,q⟩) rfl (Or.inr (Or.inl rfl)) rfl rfl (by have:=j.dp;show _<_;exact Nat.lt_of_le_of_lt (ME (Nat.le_add_right _ _) (Nat.le_add_right _ _)) this) rfl rfl m rfl rfl o (fun _ _ _ _=>rfl) rfl rfl (by decide +kernel) rfl rfl rfl (by decide) (by decide) (by decide)))),bb (Γn:=[]) (N:=gK) (aI (M:=[]) (AJ 0)) (fun ds P b=>?_) h⟩
 obtain ⟨ns,rfl,hl,l⟩:=b
 rw[show aJ gK [dI ns]=[some (dI ns)] from rfl]
 walk_at "v"
 exact⟨ns,rfl,hl,l⟩
def bD(one b:aab):aac:=(List.range one.length).filter fun p=>decide (one.getD p 0<b.getD p 0)
def bO:DSp:=fun ds P=>∃one b,ds=[dI one,dI b]/\one.length<=1000/\one.length=b.length/\P (dI ((bD one b).map fun (p:Nat)=>(p:Int)))
def dE:bo bO:=by
 intro xs P b k h
 unfold bO at h ⊢
 grind
def qt:∀ds P,bO ds P->ds.length=2:=by
 intro ds P h
 obtain ⟨_,_,e,_⟩:=h
 rw[e];rfl
def fj{c:Cs}{f:Addr}{e:FuncData}(F:FnAt K mg "places_below" eA en f e)(t:Fns K mg c)(T:Txt K mg base)(xs:Exs K mg base c):br P w K mg base CX0 1 f e en (spP K bO):=by
 refine F.fn.ok rX (fun vs H Q E h=>aR qt h) (fun o A outer s H vs Q E q h=>?_)
 refine⟨_,(av (aB (w8 rfl (bt.of (sc0:=(aw eA)) (tn:=["place"]) (cap:=["one","other"]) (idx:=[0,1]) (by decide +kernel) rfl rfl) (bu rfl T.range_ (aa (wln K T.len_ (pv 0)) aj)) (ma.name (by decide)) (fun _ _ _ _ _=>gO (i:=0) (bU (l:=["place","one","other"]) (by decide +kernel)) rfl (by walk_at "o") (by first|exact .inl rfl|exact .inr rfl)) (fun _ _ _ _ _=>yf (aM sG (wix K (pv 1) (pv 0)) (wix K (pv 2) (pv 0)) (aW _))) (fun _ _ _ _ _=>(pv 0)) (by intro _;rfl)))),bb (Γn:=[]) (N:=iV) (aI (M:=[]) (sy (cm (ai (EM.er (aS bI (ai (ES.er (af 0)) au))) au)) (aN 0) (aL (EM.er (ay nh (ES.er (aA (af 1) (ES.er (af 0)))) (ES.er (aA (af 2) (ES.er (af 0))))))) (ER.aP (ES.er (af 0))))) (fun ds P j=>?_) h⟩
 obtain ⟨one,b,rfl,hl,r,m⟩:=j
 rw[show aJ iV [dI one,dI b]=[some (dI one),some (dI b)] from rfl]
 walk_at "v"
 refine Dm (lo:=0) (n:=one.length) (p:=fun p=>decide (one.getD p 0<b.getD p 0)) (g:=fun (p:Nat)=>.int (p:Int)) (fun R h=>?_) hl (fun i hi R h=>?_) ?_
 .walk_at "go";exact h
 .walk_at "gb"
  rw[M1]
  refine aO (by omega) (aO (by omega) ?_)
  walk_at "gb"
  split
  .rename_i c
   rw[decide_eq_true c] at h
   exact h
  .rename_i c
   rw[decide_eq_false c] at h
   exact h
 .rw[kW];exact m
def lE(ns:aab):aab:=(List.range ns.length).map fun (i:Nat)=>Maj.gp ns (i+1)
def lG{ns:aab}:(lE ns).length=ns.length:=by unfold lE;rw[mo,Mi]
def vV{ns:aab}{i:Nat}(h:i<ns.length):(lE ns).getD i 0=Maj.gp ns (i+1):=by
 unfold lE
 rw[gV,Mc,MS h];rfl
def gF:DSp:=fun ds P=>∃ns,ds=[dI ns]/\ns.length<64/\P (dI (lE ns))
def nA:bo gF:=by
 intro xs P b k h
 unfold gF at h ⊢
 grind
def x6:∀ds P,gF ds P->ds.length=1:=by
 intro ds P h
 obtain ⟨_,e,_⟩:=h
 rw[e];rfl
def yM{c:Cs}{f:Addr}{g:FuncData}(F:FnAt K mg "heads_of" k8 jB f g)(m:Fns K mg c)(T:Txt K mg base)(xs:Exs K mg base c):br P w K mg base CX0 2 f g jB (spP K gF):=by
 obtain ⟨z,B,l⟩:=m.h_falling
 have u:=A4 (P:=P) (w:=w) l m T xs
 refine F.fn.ok il (fun vs H Q E h=>aR x6 h) (fun t A outer s H vs Q E n h=>?_)
 refine⟨_,(ak (wst 1 il.nd (bR aj)) (ak (wst 2 il.nd aq) (ak (wfo (wil K (wcl u n l (aa (pv 0) aj))) (wpg 3 il.nd) (ak (wst 2 il.nd (aH bN (pv 2) (pv 3))) (av (cZ (mi MG MX MW df (pv 1) (aa (pv 2) aj)))))) (av (aB (pv 1)))))),bb (Γn:=[1]) (N:=oC) (ax (ST.post (Γn:=[1]) (cG (M:=[]) 1 (bS bf))) (ax (ST.post (Γn:=[1]) (aK 2 (EM.es ar))) (ax (eG (bL (EM.es (aD (S:=kQ) xM (ai (ES.er (af 0)) au)))) (aN 3) (ax (ST.post (Γn:=[1]) (aK 2 (EM.es (ay bJ (ES.er (af 2)) (ES.er (af 3)))))) (ST.post (Γn:=[1]) (dn (M:=[]) 1 (ER.aP (ES.er (af 2))))))) (aI (M:=[1]) (gf 1))))) (fun ds P o=>?_) h⟩
 obtain ⟨ns,rfl,hl,p⟩:=o
 rw[show aJ oC [dI ns]=[some (dI ns),none,none,none] from rfl]
 walk_at "go"
 refine⟨ns,rfl,hl,?_⟩
 walk_at "v"
 have v:=qU ns
 refine fK (as:=uL ns) (f:=L3.D.int) (fun i δ=>∃b:Option D,δ=[some (dI ns),some (dI ((List.range i).map fun (j:Nat)=>Maj.gp ns (j+1))),some (.int (Maj.gp ns i)),b]) ⟨none,rfl⟩ ?_ ?_
 .rintro i a δ N e ⟨b,rfl⟩ q
  obtain ⟨y,x⟩:=Ma.mp e
  have r:Maj.gp ns i+a=Maj.gp ns (i+1):=by
   unfold Maj.gp
   rw[List.take_add_one,e,List.sum_append];simp
  walk_at "go"
  rw[r,oU]
  have er:(List.range (i+1)).map (fun (j:Nat)=>Maj.gp ns (j+1))=(List.range i).map (fun (j:Nat)=>Maj.gp ns (j+1))++[Maj.gp ns (i+1)]:=by rw[List.range_succ,MC];rfl
  exact⟨by rw[Mi];omega,q _ ⟨some (.int a),by rw[er]⟩⟩
 .rintro δ ⟨b,rfl⟩
  walk_at "v"
  rw[v]
  exact p
def KN(one b:aab):D:=match Maj.above one b with|[]=>.non|p::_=>.int ((p:Int)+1)
def zL{one b:aab}(h:one.length=b.length):bD (lE b) (lE one)=Maj.above one b:=by
 unfold bD Maj.above
 rw[lG,h]
 refine List.filter_congr fun p c=>?_
 have:=Mq.mp c
 rw[vV (by omega),vV (by omega)]
def cf:DSp:=fun ds P=>∃one b,ds=[dI one,dI b]/\one.length<64/\one.length=b.length/\P (KN one b)
def lT:bo cf:=by
 intro xs P b k h
 unfold cf at h ⊢
 grind
def mj:∀ds P,cf ds P->ds.length=2:=by
 intro ds P h
 obtain ⟨_,_,e,_⟩:=h
 rw[e];rfl
theorem nv{c:Cs}{f:Addr}{n:FuncData}(F:FnAt K mg "first_head_above" cX b9 f n)(j:Fns K mg c)(T:Txt K mg base)(xs:Exs K mg base c):br P w K mg base CX0 3 f n b9 (spP K cf):=by
 obtain ⟨x,z,q⟩:=j.h_places_below
 have u:=fj (P:=P) (w:=w) q j T xs
 obtain ⟨v,y,l⟩:=j.h_heads_of
 have o:=yM (P:=P) (w:=w) l j T xs
 refine F.fn.ok iG (fun vs H Q E h=>aR mj h) (fun t A outer s H vs Q E i h=>?_)
 refine⟨_,(ak (wst 2 iG.nd (wcl u i q (aa (wcl o i l (aa (pv 1) aj)) (aa (wcl o i l (aa (pv 0) aj)) aj)))) (ak (bB (aM (AA i.units) (pv 2) (bR aj) (aW _)) (av (aB lq)) aV) (av (aB (aH bN (wix K (pv 2) aq) aq))))),bb (Γn:=[]) (N:=fu) (ax (ST.post (Γn:=[]) (aK 2 (EM.es (aD (S:=bO) dE (ai (EM.er (aD (S:=gF) nA (ai (ES.er (af 1)) au))) (ai (EM.er (aD (S:=gF) nA (ai (ES.er (af 0)) au))) au)))))) (ax (bP (aL (EM.er (ay Gk (ES.er (af 2)) (EM.er (bS bf))))) (aI (M:=[]) lx) aX) (aI (M:=[]) (ay bJ (ES.er (aA (af 2) (EM.er ar))) (EM.er ar))))) (fun ds P r=>?_) h⟩
 obtain ⟨one,b,rfl,hl,m,g⟩:=r
 rw[show aJ fu [dI one,dI b]=[some (dI one),some (dI b),none] from rfl]
 walk_at "v"
 refine⟨b,rfl,by omega,⟨one,rfl,hl,?_⟩⟩
 refine⟨lE b,lE one,rfl,by rw[lG];omega,by rw[lG,lG,m],?_⟩
 rw[zL m]
 unfold KN at g
 walk_at "go"
 refine kN (ys:=[]) ?_
 walk_at "v"
 cases e:Maj.above one b with
 |nil =>
  rw[e] at g
  rw[if_pos (by rfl)]
  exact g
 |cons p ps =>
  rw[e] at g
  rw[if_neg (by simp)]
  walk_at "v"
  rw[Ml,Ml]
  walk_at "v"
  exact g
def fm:DSp:=fun ds P=>∃one b:aab,ds=[dI one,dI b]/\one.length=b.length/\one.length<=1000/\P (dI ((List.range one.length).map fun (i:Nat)=>one.getD i 0 - b.getD i 0))
def ke:bo fm:=by
 intro xs P b k h
 unfold fm at h ⊢
 grind
def xj:∀ds P,fm ds P->ds.length=2:=by
 intro ds P h
 obtain ⟨_,_,e,_⟩:=h
 rw[e];rfl
def rq{c:Cs}{f:Addr}{e:FuncData}(F:FnAt K mg "less_row" jn jh f e)(q:Fns K mg c)(T:Txt K mg base)(xs:Exs K mg base c):br P w K mg base CX0 1 f e jh (spP K fm):=by
 refine F.fn.ok Am (fun vs H Q E h=>aR xj h) (fun m A outer s H vs Q E o h=>?_)
 refine⟨_,(av (aB (wco (aw jn) "place" ["one","other"] [0,1] (bu rfl T.range_ (aa (wln K T.len_ (pv 0)) aj)) (fun _ _ _ _ _=>(aH iw (wix K (pv 1) (pv 0)) (wix K (pv 2) (pv 0))))))),bb (Γn:=[]) (N:=n6) (aI (M:=[]) (bw (cm (ai (EM.er (aS bI (ai (ES.er (af 0)) au))) au)) (aN 0) (ay bJ (ES.er (aA (af 1) (ES.er (af 0)))) (ES.er (aA (af 2) (ES.er (af 0))))))) (fun ds P j=>?_) h⟩
 obtain ⟨one,b,rfl,p,hl,l⟩:=j
 rw[show aJ n6 [dI one,dI b]=[some (dI one),some (dI b)] from rfl]
 walk_at "v"
 refine gk (lo:=0) (n:=one.length) (g:=fun (i:Nat)=>.int (one.getD i 0 - b.getD i 0)) (fun R h=>?_) hl (fun i hi R h=>?_) ?_
 .walk_at "go";exact h
 .walk_at "gb"
  rw[M1]
  refine aO (by omega) (aO (by omega) ?_)
  walk_at "gb"
  exact h
 .rw[kW];exact l
def gz:DSp:=fun ds P=>∃x m,ds=[.int x,.int m]/\P (.bl (decide (0<=x/\x<m)))
def nJ:bo gz:=by
 intro xs P b k h
 unfold gz at h ⊢
 grind
def xp:∀ds P,gz ds P->ds.length=2:=by
 intro ds P h
 obtain ⟨_,_,e,_⟩:=h
 rw[e];rfl
def zg{c:Cs}{f:Addr}{g:FuncData}(F:FnAt K mg "is_place" kU jy f g)(n:Fns K mg c)(T:Txt K mg base)(xs:Exs K mg base c):br P w K mg base CX0 1 f g jy (spP K gz):=by
 refine F.fn.ok yZ (fun vs H Q E h=>aR xp h) (fun j A outer s H vs Q E l h=>?_)
 refine⟨_,(av (aB (GV Jf sG aq (pv 0) (pv 1)))),bb (Γn:=[]) (N:=ow) (aI (M:=[]) (yX nh nh (EM.er ar) (ES.er (af 0)) (ES.er (af 1)))) (fun ds P i=>?_) h⟩
 obtain ⟨x,m,rfl,b⟩:=i
 rw[show aJ ow [.int x,.int m]=[some (.int x),some (.int m)] from rfl]
 walk_at "v"
 split
 .rename_i c
  have e:decide (0<=x/\x<m)=decide (x<m):=by rw[ND,decide_eq_true_eq,decide_eq_true_eq];exact⟨fun z=>z.2,fun z=>⟨c,z⟩⟩
  rw[e] at b
  exact b
 .rename_i c
  rw[decide_eq_false (fun z=>c z.1)] at b
  exact b
def cU:DSp:=fun ds P=>∃t,ds=[dT t]/\t.length<=1000/\P (dT t)
def jR:bo cU:=by
 intro xs P b k h
 unfold cU at h ⊢
 grind
def qN:∀ds P,cU ds P->ds.length=1:=by
 intro ds P h
 obtain ⟨_,e,_⟩:=h
 rw[e];rfl
def lK{c:Cs}{f:Addr}{b:FuncData}(F:FnAt K mg "copied_table" dM dF f b)(l:Fns K mg c)(T:Txt K mg base)(xs:Exs K mg base c):br P w K mg base CX0 1 f b dF (spP K cU):=by
 refine F.fn.ok sd (fun vs H Q E h=>aR qN h) (fun j A outer s H vs Q E e h=>?_)
 refine⟨_,(av (aB (wco (aw dM) "row" [] [] (wil K (pv 0)) (fun _ _ _ _ _=>(cP (dQ (K:=K) rfl) (by rfl) T.list_ boot_list (aa (pv 0) aj)))))),bb (Γn:=[]) (N:=iZ) (aI (M:=[]) (bw (bL (af 0)) (aN 0) (aS l6 (ai (ES.er (af 0)) au)))) (fun ds P g=>?_) h⟩
 obtain ⟨t,rfl,hl,i⟩:=g
 rw[show aJ iZ [dT t]=[some (dT t)] from rfl]
 walk_at "v"
 refine vF (t:=t) (fun R h=>h) hl (fun r e R h=>by walk_at "gb";exact h) ?_
 exact i
def cW:DSp:=fun ds P=>∃t,ds=[dT t]/\t.length<=1000/\P (dI (t.map List.sum))
def jO:bo cW:=by
 intro xs P b k h
 unfold cW at h ⊢
 grind
def qJ:∀ds P,cW ds P->ds.length=1:=by
 intro ds P h
 obtain ⟨_,e,_⟩:=h
 rw[e];rfl
def lO{c:Cs}{f:Addr}{b:FuncData}(F:FnAt K mg "sums_of_rows" eE dO f b)(m:Fns K mg c)(T:Txt K mg base)(xs:Exs K mg base c):br P w K mg base CX0 1 f b dO (spP K cW):=by
 refine F.fn.ok rN (fun vs H Q E h=>aR qJ h) (fun l A outer s H vs Q E e h=>?_)
 refine⟨_,(av (aB (wco (aw eE) "row" [] [] (wil K (pv 0)) (fun _ _ _ _ _=>(aQ (cQ (K:=K) rfl rfl) (by rfl) T.sum_ boot_sum (aa (pv 0) aj)))))),bb (Γn:=[]) (N:=jb) (aI (M:=[]) (bw (bL (af 0)) (aN 0) (aS l7 (ai (ES.er (af 0)) au)))) (fun ds P i=>?_) h⟩
 obtain ⟨t,rfl,hl,j⟩:=i
 rw[show aJ jb [dT t]=[some (dT t)] from rfl]
 walk_at "v"
 refine kH (t:=t) (g:=fun r=>.int r.sum) (fun R h=>h) hl (fun r e R h=>?_) ?_
 .walk_at "gb"
  exact h
 .rw[kW];exact j
def ia:DSp:=fun ds P=>∃(t:aaa) (j:Nat),ds=[dT t,.int j]/\t.length<=1000/\(∀r∈t,j<r.length)/\P (dI (qZ t j))
def sV:bo ia:=by
 intro xs P b k h
 unfold ia at h ⊢
 grind
def u9:∀ds P,ia ds P->ds.length=2:=by
 intro ds P h
 obtain ⟨_,_,e,_⟩:=h
 rw[e];rfl
def xQ{c:Cs}{f:Addr}{e:FuncData}(F:FnAt K mg "column_of" iq ip f e)(n:Fns K mg c)(T:Txt K mg base)(xs:Exs K mg base c):br P w K mg base CX0 1 f e ip (spP K ia):=by
 refine F.fn.ok wN (fun vs H Q E h=>aR u9 h) (fun m A outer s H vs Q E b h=>?_)
 refine⟨_,(av (aB (wco (aw iq) "row" ["place"] [1] (wil K (pv 0)) (fun _ _ _ _ _=>(wix K (pv 0) (pv 1)))))),bb (Γn:=[]) (N:=me) (aI (M:=[]) (bw (bL (af 0)) (aN 0) (ER.aP (ES.er (aA (af 0) (ES.er (af 1))))))) (fun ds P i=>?_) h⟩
 obtain ⟨t,j,rfl,hl,hj,l⟩:=i
 rw[show aJ me [dT t,.int j]=[some (dT t),some (.int j)] from rfl]
 walk_at "v"
 refine kH (t:=t) (g:=fun r=>.int (r.getD j 0)) (fun R h=>h) hl (fun r b R h=>?_) ?_
 .walk_at "gb"
  have:=hj r b
  refine aO (by omega) ?_
  rw[Md]
  exact⟨rfl,h⟩
 .rw[kW];exact l
def turned(m:Nat)(t:aaa):aaa:=(List.range m).map fun (j:Nat)=>qZ t j
def b8:DSp:=fun ds P=>∃(t:aaa) (n m:Nat),ds=[dT t]/\bK n m t/\1<=n/\n<=1000/\m<=1000/\P (dT (turned m t))
def fN:bo b8:=by
 intro xs P b k h
 unfold b8 at h ⊢
 grind
def qq:∀ds P,b8 ds P->ds.length=1:=by
 intro ds P h
 obtain ⟨_,_,_,e,_⟩:=h
 rw[e];rfl
def lR{c:Cs}{f:Addr}{l:FuncData}(F:FnAt K mg "turned_table" d9 dW f l)(p:Fns K mg c)(T:Txt K mg base)(xs:Exs K mg base c):br P w K mg base CX0 2 f l dW (spP K b8):=by
 obtain ⟨z,B,o⟩:=p.h_column_of
 have y:=xQ (P:=P) (w:=w) o p T xs
 refine F.fn.ok rJ (fun vs H Q E h=>aR qq h) (fun x A outer s H vs Q E b h=>?_)
 refine⟨_,(av (aB (wco (aw d9) "place" ["table"] [0] (bu rfl T.range_ (aa (wln K T.len_ (wix K (pv 0) aq)) aj)) (fun _ _ _ _ _=>(wcl y b o (aa (pv 1) (aa (pv 0) aj))))))),bb (Γn:=[]) (N:=jk) (aI (M:=[]) (bw (cm (ai (EM.er (aS bI (ai (ES.er (aA (af 0) (EM.er ar))) au))) au)) (aN 0) (aD (S:=ia) sV (ai (ES.er (af 1)) (ai (ES.er (af 0)) au))))) (fun ds P q=>?_) h⟩
 obtain ⟨t,n,m,rfl,e,hn,C,hm,u⟩:=q
 rw[show aJ jk [dT t]=[some (dT t)] from rfl]
 have ht:=e.1
 have v:=e.row (i:=0) (by omega)
 walk_at "v"
 refine gk (lo:=0) (n:=m) (g:=fun (j:Nat)=>dI (qZ t j)) (fun R h=>?_) hm (fun j hj R h=>?_) ?_
 .walk_at "v"
  refine fc (by omega) ?_
  walk_at "v"
  rw[v]
  exact⟨by omega,h⟩
 .walk_at "gb"
  rw[M1]
  exact⟨t,j,rfl,by omega,fun r b=>by rw[e.2 r b];exact hj,h⟩
 .rw[G0];exact u
def cD:DSp:=fun ds P=>∃(t:aaa) (n m:Nat),ds=[dT t]/\bK n m t/\1<=n/\n<=1000/\m<=1000/\P (dI ((turned m t).map List.sum))
def mK:bo cD:=by
 intro xs P b k h
 unfold cD at h ⊢
 grind
def nr:∀ds P,cD ds P->ds.length=1:=by
 intro ds P h
 obtain ⟨_,_,_,e,_⟩:=h
 rw[e];rfl
def ot{c:Cs}{f:Addr}{g:FuncData}(F:FnAt K mg "sums_of_columns" dB cF f g)(b:Fns K mg c)(T:Txt K mg base)(xs:Exs K mg base c):br P w K mg base CX0 3 f g cF (spP K cD):=by
 obtain ⟨y,B,j⟩:=b.h_sums_of_rows
 have u:=lO (P:=P) (w:=w) j b T xs
 obtain ⟨x,z,i⟩:=b.h_turned_table
 have v:=lR (P:=P) (w:=w) i b T xs
 refine F.fn.ok om (fun vs H Q E h=>aR nr h) (fun q A outer s H vs Q E e h=>?_)
 refine⟨_,(av (aB (wcl u e j (aa (wcl v e i (aa (pv 0) aj)) aj)))),bb (Γn:=[]) (N:=fX) (aI (M:=[]) (aD (S:=cW) jO (ai (EM.er (aD (S:=b8) fN (ai (ES.er (af 0)) au))) au))) (fun ds P l=>?_) h⟩
 obtain ⟨t,n,m,rfl,o,hn,r,hm,p⟩:=l
 rw[show aJ fX [dT t]=[some (dT t)] from rfl]
 walk_at "v"
 refine⟨t,n,m,rfl,o,hn,r,hm,?_⟩
 exact⟨turned m t,rfl,by unfold turned;rw[mo,Mi];exact hm,p⟩
def Low(n m:Nat)(low high:aaa):Prop:=∀i j,i<n->j<m->cellAt low i j<=cellAt high i j
def wu{a b:aab}:bD a b=[]↔∀j,j<a.length->b.getD j 0<=a.getD j 0:=by
 unfold bD
 rw[ON]
 refine⟨fun h j hj=>?_,fun h j hj=>?_⟩
 .have:=h j (Mq.mpr hj)
  simp at this
  exact this
 .have:=h j (Mq.mp hj)
  simp
  exact this
def jq(c:Cs):DSX:=fun ds P R=>∃(low high:aaa) (n m:Nat),ds=[dT low,dT high]/\bK n m low/\bK n m high/\n<=50/\m<=50/\(Low n m low high->P .non)/\(¬ Low n m low high->R c.NoBounds)
def pM{c:Cs}:j4 (jq c):=by
 intro xs P r R q k f h
 obtain ⟨a,b,n,m,e,p,o,l,j,i,g⟩:=h
 exact⟨a,b,n,m,e,p,o,l,j,fun z=>k _ (i z),fun z=>f _ (g z)⟩
def p8{c:Cs}:∀ds P R,jq c ds P R->ds.length=2:=by
 intro ds P R h
 obtain ⟨_,_,_,_,e,_⟩:=h
 rw[e];rfl
def rP{c:Cs}{f:Addr}{u:FuncData}(F:FnAt K mg "check_bounds" dS eB f u)(x:Fns K mg c)(T:Txt K mg base)(xs:Exs K mg base c):br P w K mg base (CXR P w) 2 f u eB (spX K (jq c)):=by
 obtain ⟨U,X,v⟩:=x.h_places_below
 have I:=fj (P:=P) (w:=w) v x T xs
 refine F.fn.okX rW (fun vs H Q E h=>xy p8 h) (fun G A outer s H vs Q E r h=>?_)
 refine⟨_,(ak (bB (PT.nox (c3 (aQ (DV (K:=K) rfl rfl) (by rfl) T.any_ boot_any (aa (wco (aw dS) "row" ["low","high"] [0,1] (bu rfl T.range_ (aa (wln K T.len_ (pv 0)) aj)) (fun _ _ _ _ _=>(kZ (uI r.units) (wcl I r v (aa (wix K (pv 2) (pv 0)) (aa (wix K (pv 1) (pv 0)) aj))) (bR aj) (aW _)))) aj)))) (av (tG (xs.o_NoBounds.own xs.m_NoBounds) Pw rfl rfl wY (aa cM aj))) aV)
   aV),yl (Γn:=[]) (N:=je) (fun R=>(kX (He (mM (EM.er (aS K4 (ai (EM.er (bw (cm (ai (EM.er (aS bI (ai (ES.er (af 0)) au))) au)) (aN 0) (ay yE (EM.er (aD (S:=bO) dE (ai (ES.er (aA (af 2) (ES.er (af 0)))) (ai (ES.er (aA (af 1) (ES.er (af 0)))) au)))) (EM.er (bS bf))))) au)))) (tO (ai (EM.er cS) au)) (ST.sx aX)) (ST.sx aX))) (fun ds P R y=>?_) h⟩
 obtain ⟨low,high,n,m,rfl,t,o,M,O,C,B⟩:=y
 rw[show aJ je [dT low,dT high]=[some (dT low),some (dT high)] from rfl]
 have l1:=t.1
 have l2:=o.1
 walk_at "go"
 refine gk (lo:=0) (n:=n) (g:=fun (i:Nat)=>.bl (decide (bD (rowAt high i) (rowAt low i)≠[]))) (fun R h=>?_) (by omega) (fun i hi R h=>?_) ?_
 .walk_at "go"
  rw[l1]
  exact h
 .walk_at "gb"
  rw[M1]
  have L:=t.row hi
  have J:=o.row hi
  refine fc (by omega) (fc (by omega) ?_)
  rw[Md]
  refine⟨_,_,rfl,by omega,by omega,?_⟩
  walk_at "gb"
  refine kN (xs:=(bD (rowAt high i) (rowAt low i)).map fun (p:Nat)=>(p:Int)) (ys:=[]) ?_
  have e:decide ((bD (rowAt high i) (rowAt low i)).map (fun (p:Nat)=>(p:Int))=[])=decide (bD (rowAt high i) (rowAt low i)=[]):=by
   rw[ND,decide_eq_true_eq,decide_eq_true_eq,List.map_eq_nil_iff]
  rw[decide_not] at h
  rw[e]
  exact h
 rw[show (List.range n).map (fun (i:Nat)=>L3.D.bl (decide (bD (rowAt high i) (rowAt low i)≠[])))=((List.range n).map fun (i:Nat)=>decide (bD (rowAt high i) (rowAt low i)≠[])).map L3.D.bl by rw[MB];rfl]
 walk_at "go"
 have key:(((List.range n).map fun (i:Nat)=>decide (bD (rowAt high i) (rowAt low i)≠[])).any id=true)↔¬ Low n m low high:=by
  rw[List.any_eq_true]
  refine⟨fun ⟨b,hb,e⟩ l=>?_,fun h=>?_⟩
  .obtain ⟨i,hi,rfl⟩:=Mh.mp hb
   have hi:=Mq.mp hi
   have e:bD (rowAt high i) (rowAt low i)≠[]:=by simpa using e
   exact e (wu.mpr fun j hj=>l i j hi (by rw[o.row hi] at hj;exact hj))
  .refine Classical.byContradiction fun hn=>h fun i j hi hj=>?_
   have:bD (rowAt high i) (rowAt low i)=[]:=Classical.byContradiction fun z=>hn ⟨true,Mh.mpr ⟨i,Mq.mpr hi,decide_eq_true z⟩,rfl⟩
   exact wu.mp this j (by rw[o.row hi];exact hj)
 by_cases l:Low n m low high
 .have e:((List.range n).map fun (i:Nat)=>decide (bD (rowAt high i) (rowAt low i)≠[])).any id=false:=by
   cases q:((List.range n).map fun (i:Nat)=>decide (bD (rowAt high i) (rowAt low i)≠[])).any id with
   |false=>rfl
   |true=>exact absurd l (key.mp q)
  rw[e]
  walk_at "go"
  exact C l
 .rw[key.mpr l]
  walk_at "go"
  exact B l
abbrev dN(rs:aac):D:=dI (rs.map fun (r:Nat)=>(r:Int))
abbrev nT(ws:List aac):aaa:=ws.map fun l=>l.map fun (x:Nat)=>(x:Int)
def upL(n:Nat)(a b:aaa):List aac:=(List.range n).map fun p=>bD (rowAt a p) (rowAt b p)
def iQ:DSp:=fun ds P=>∃(a b:aaa) (n m:Nat),ds=[dT a,dT b]/\bK n m a/\bK n m b/\n<=50/\m<=50/\P (dT (nT (upL n a b)))
def oH:bo iQ:=by
 intro xs P b k h
 unfold iQ at h ⊢
 grind
def zb:∀ds P,iQ ds P->ds.length=2:=by
 intro ds P h
 obtain ⟨_,_,_,_,e,_⟩:=h
 rw[e];rfl
def Bd{c:Cs}{f:Addr}{q:FuncData}(F:FnAt K mg "ways_up" kG kE f q)(t:Fns K mg c)(T:Txt K mg base)(xs:Exs K mg base c):br P w K mg base CX0 2 f q kE (spP K iQ):=by
 obtain ⟨J,L,r⟩:=t.h_places_below
 have z:=fj (P:=P) (w:=w) r t T xs
 refine F.fn.ok Be (fun vs H Q E h=>aR zb h) (fun y A outer s H vs Q E u h=>?_)
 refine⟨_,(av (aB (wco (aw kG) "place" ["lesser","greater"] [0,1] (bu rfl T.range_ (aa (wln K T.len_ (pv 0)) aj)) (fun _ _ _ _ _=>(wcl z u r (aa (wix K (pv 1) (pv 0)) (aa (wix K (pv 2) (pv 0)) aj))))))),bb (Γn:=[]) (N:=qx) (aI (M:=[]) (bw (cm (ai (EM.er (aS bI (ai (ES.er (af 0)) au))) au)) (aN 0) (aD (S:=bO) dE (ai (ES.er (aA (af 1) (ES.er (af 0)))) (ai (ES.er (aA (af 2) (ES.er (af 0)))) au))))) (fun ds P v=>?_) h⟩
 obtain ⟨a,b,n,m,rfl,o,j,G,I,e⟩:=v
 rw[show aJ qx [dT a,dT b]=[some (dT a),some (dT b)] from rfl]
 have l1:=o.1
 have l2:=j.1
 walk_at "go"
 refine gk (lo:=0) (n:=n) (g:=fun (i:Nat)=>dN (bD (rowAt a i) (rowAt b i))) (fun R h=>?_) (by omega) (fun i hi R h=>?_) ?_
 .walk_at "go"
  rw[l1]
  exact h
 .walk_at "gb"
  rw[M1]
  have C:=o.row hi
  have B:=j.row hi
  refine fc (by omega) (fc (by omega) ?_)
  rw[Md]
  exact⟨_,_,rfl,by omega,by omega,h⟩
 unfold nT upL at e
 rw[MB,show (dT ((List.range n).map ((fun l=>l.map fun (x:Nat)=>(x:Int)) ∘ fun p=>bD (rowAt a p) (rowAt b p))))=L3.D.lst ((List.range n).map fun (i:Nat)=>dN (bD (rowAt a i) (rowAt b i))) by show L3.D.lst (List.map dI _)=_;rw[MB];rfl] at e
 exact e
def dC:DSp:=fun ds P=>∃(cs:aac) (r:aab),ds=[dN cs,dI r]/\cs.length<=100/\(∀c∈cs,c<r.length)/\(∀c∈cs,0<r.getD c 0->P (.int (c:Int)))/\((∀c∈cs,¬ 0<r.getD c 0)->P .non)
def lW:bo dC:=by
 intro xs P l k h
 obtain ⟨a,b,e,j,i,g,f⟩:=h
 exact⟨a,b,e,j,i,fun c z y=>k _ (g c z y),fun z=>k _ (f z)⟩
def nc:∀ds P,dC ds P->ds.length=2:=by
 intro ds P h
 obtain ⟨_,_,e,_⟩:=h
 rw[e];rfl
theorem nZ{c:Cs}{f:Addr}{j:FuncData}(F:FnAt K mg "first_with_room" cz cy f j)(B:Fns K mg c)(T:Txt K mg base)(xs:Exs K mg base c):br P w K mg base CX0 1 f j cy (spP K dC):=by
 refine F.fn.ok i5 (fun vs H Q E h=>aR nc h) (fun y A outer s H vs Q E b h=>?_)
 refine⟨_,(ak (CS rfl (bt.of (sc0:=(aw cz)) (tn:=["column"]) (cap:=["rooms"]) (idx:=[1]) (by decide +kernel) rfl rfl) i5.nd rfl (by walk_at "o") (wil K (pv 0)) (ma.name (by decide)) (fun _ _ _ _ _=>gO (i:=0) (bU (l:=["column","rooms"]) (by decide +kernel)) rfl (by walk_at "o") (by first|exact .inl rfl|exact .inr rfl)) (fun _ _ _ _ _=>yf (aM zE (wix K (pv 1) (pv 0)) aq (aW _))) (fun _ _ _ _ _=>(pv 0))) (av (aB (uf (aM (uI b.units) (pv 2) (bR aj) (aW _)) (wix K (pv 2) aq) lq)))),bb (Γn:=[]) (N:=fV) (ax (ST.post (Γn:=[]) (aK 2 (EM.es (sy (bL (af 0)) (aN 0) (aL (EM.er (ay nh (ES.er (aA (af 1) (ES.er (af 0)))) (EM.er ar)))) (ER.aP (ES.er (af 0))))))) (aI (M:=[]) (Et (aL (EM.er (ay yE (ES.er (af 2)) (EM.er (bS bf))))) (ER.aP (ES.er (aA (af 2) (EM.er ar)))) lx))) (fun ds P o=>?_) h⟩
 obtain ⟨cs,r,rfl,hl,b,t,u⟩:=o
 rw[show aJ fV [dN cs,dI r]=[some (dN cs),some (dI r),none] from rfl]
 walk_at "go"
 refine oM (as:=cs) (f:=fun (c:Nat)=>.int (c:Int)) (p:=fun c=>decide (0<r.getD c 0)) (g:=fun (c:Nat)=>.int (c:Int)) (fun R h=>?_) (by omega) (fun i hi R h=>?_) ?_
 .walk_at "go"
  rw[MB] at *
  exact h
 .walk_at "gb"
  have:=b i hi
  refine aO (by omega) ?_
  rw[Md]
  walk_at "gb"
  by_cases z:0<r.getD i 0
  .rw[if_pos z]
   rw[decide_eq_true z] at h
   exact h
  .rw[if_neg z]
   rw[decide_eq_false z] at h
   exact h
 cases e:cs.filter (fun c=>decide (0<r.getD c 0)) with
 |nil =>
  walk_at "go"
  refine kN (xs:=[]) (ys:=[]) ?_
  walk_at "go"
  refine u fun c n z=>?_
  rw[ON] at e
  exact e c n (by simpa using z)
 |cons q l =>
  have m:q∈cs.filter (fun c=>decide (0<r.getD c 0)):=by rw[e];exact Fk
  obtain ⟨x,v⟩:=M7.mp m
  rw[show L3.D.lst ((q::l).map fun (c:Nat)=>L3.D.int (c:Int))=dI ((q::l).map fun (c:Nat)=>(c:Int)) by show _=L3.D.lst (List.map L3.D.int _);rw[MB];rfl]
  walk_at "go"
  refine kN (ys:=[]) ?_
  rw[decide_eq_false (by simp)]
  walk_at "go"
  refine aO (by simp only[Ml,Me];omega) ⟨rfl,?_⟩
  exact t q x (of_decide_eq_true v)
abbrev jF(p:Nat × Nat):D:=.tup [.int (p.1:Int),.int (p.2:Int)]
abbrev z6(c:Cs)(low high t:aaa)(w r:aab):D:=.ins c.Filling ["low","high","table","wants","rooms"] [dT low,dT high,dT t,dI w,dI r]
abbrev u6(c:Cs)(al b:Addr)(t:aaa)(w r:aab):D:=.ins c.Filling ["low","high","table","wants","rooms"] [.raw (.ref al),.raw (.ref b),dT t,dI w,dI r]
def lg{ps:List (Nat × Nat)}{k:Nat}{p:Nat × Nat}{P:DK}(e:ps[k]?=some p)(h:P (jF p)):asO (atI (ps.map jF) (k:Int)) P:=by
 have hl:=(Ma.mp e).1
 refine (x9 ?_).mpr h
 unfold atI
 rw[cB (by omega) (by rw[mo];omega),Md]
 show (ps.map jF)[k]?=_
 rw[Mc,e];rfl
def iC(c:Cs):DSp:=fun ds P=>∃(low high t:aaa) (w r:aab) (n m k:Nat) (cs:List (Nat × Nat)) (p:Nat × Nat),ds=[z6 c low high t w r,.lst (cs.map jF),.int (k:Int)]/\bK n m low/\bK n m high/\bK n m t/\cs[k]?=some p/\p.1<n/\p.2<m/\P (.int (if k % 2=0 then cellAt high p.1 p.2 - cellAt t p.1 p.2 else cellAt t p.1 p.2 - cellAt low p.1 p.2))
def og{c:Cs}:bo (iC c):=by
 intro xs P u k h
 obtain ⟨a1,a2,s,r,q,p,o,n,m,t,e,l,j,i,g,f,b,h⟩:=h
 exact⟨a1,a2,s,r,q,p,o,n,m,t,e,l,j,i,g,f,b,k _ h⟩
def pN{c:Cs}:∀ds P,iC c ds P->ds.length=3:=by
 intro ds P h
 obtain ⟨_,_,_,_,_,_,_,_,_,_,e,_⟩:=h
 rw[e];rfl
def qQ{c:Cs}{f:Addr}{i:FuncData}(F:ql K c.Filling "slack" "Filling.slack" ff c8 f i)(y:Fns K mg c)(T:Txt K mg base)(xs:Exs K mg base c):br P w K mg base CX0 1 f i c8 (spP K (iC c)):=by
 refine F.fn.ok gH (fun vs H Q E h=>aR pN h) (fun q A outer s H vs Q E x h=>?_)
 refine⟨_,(ak (wst 3 gH.nd (wit K (wix K (pv 1) (pv 2)) aq)) (ak (wst 4 gH.nd (wit K (wix K (pv 1) (pv 2)) aq)) (ak (bB (aM ku (aH bH (pv 2) aq) aq (aW _)) (av (aB (aH iw (wix K (wix K (aY (K:=K) rfl (pv 0) rfl) (pv 3)) (pv 4)) (wix K (wix K (aY (K:=K) rfl (pv 0) rfl) (pv 3)) (pv 4))))) aV) (av (aB (aH iw (wix K (wix K (aY (K:=K) rfl (pv 0) rfl) (pv 3)) (pv 4)) (wix K (wix K (aY (K:=K) rfl (pv 0) rfl) (pv 3)) (pv 4)))))))),bb (Γn:=[]) (N:=ix) (ax (ST.post (Γn:=[]) (aK 3 (bT (aA (af 1) (ES.er (af 2))) (EM.er ar)))) (ax (ST.post (Γn:=[]) (aK 4 (bT (aA (af 1) (ES.er (af 2))) (EM.er ar)))) (ax (bP (aL (EM.er (ay qR (EM.er (ay aT (ES.er (af 2)) (EM.er ar))) (EM.er ar)))) (aI (M:=[]) (ay bJ (ES.er (aA (aA (bW ["low","high","table","wants","rooms"] 1 xs.i_Filling.cl xs.n_Filling_high (af 0)) (ES.er (af 3))) (ES.er (af 4)))) (ES.er (aA (aA (bW ["low","high","table","wants","rooms"] 2 xs.i_Filling.cl xs.n_Filling_table (af 0)) (ES.er (af 3))) (ES.er (af 4)))))) aX) (aI (M:=[]) (ay bJ (ES.er (aA (aA (bW ["low","high","table","wants","rooms"] 2 xs.i_Filling.cl xs.n_Filling_table (af 0)) (ES.er (af 3))) (ES.er (af 4)))) (ES.er (aA (aA (bW ["low","high","table","wants","rooms"] 0 xs.i_Filling.cl xs.n_Filling_low (af 0)) (ES.er (af 3))) (ES.er (af 4))))))))) (fun ds P j=>?_) h⟩
 obtain ⟨low,high,t,w,r,n,m,k,cs,p,rfl,l,o,g,e,v,u,b⟩:=j
 rw[show aJ ix [z6 c low high t w r,.lst (cs.map jF),.int (k:Int)]=[some (z6 c low high t w r),some (.lst (cs.map jF)),some (.int (k:Int)),none,none] from rfl]
 walk_at "go"
 refine lg e ?_
 walk_at "go"
 refine lg e ?_
 walk_at "go"
 by_cases z:k % 2=0
 .rw[if_pos (by omega)]
  rw[if_pos z] at b
  refine kJ o (by omega) (by omega) ?_
  rw[Md,Md]
  refine kJ g (by omega) (by omega) ?_
  rw[Md,Md]
  exact b
 .rw[if_neg (by omega)]
  rw[if_neg z] at b
  refine kJ g (by omega) (by omega) ?_
  rw[Md,Md]
  refine kJ l (by omega) (by omega) ?_
  rw[Md,Md]
  exact b
open L3.Fl in
def uO:DSI:=fun ds P=>∃(ls:aac) (ws:List aac) (as:List (Nat × Option Nat)) (B:Nat),ds=[dN ls,dT (nT ws),.dic (kA as)]/\B<=50/\(∀l∈ls,l<ws.length)/\(∀v∈ws,v.length<=50/\∀p∈v,p<B)/\(kys as).Nodup/\(∀p∈kys as,p<B) /\
 ∀Nn:List (Nat × Nat),(kys as++Nn.map Prod.fst).Nodup->(∀p∈Nn,p.2∈ls/\p.1∈ws.getD p.2 [])->(∀s∈ls,∀p∈ws.getD s [],p∈kys as++Nn.map Prod.fst)->P (dN (Nn.map Prod.fst)) (.dic (kA (as++nw Nn)))
def qW:GC uO:=by
 intro xs P q k h
 obtain ⟨a1,a2,o,n,e,m,l,j,i,g,h⟩:=h
 exact⟨a1,a2,o,n,e,m,l,j,i,g,fun p f c b=>k _ _ (h p f c b)⟩
def sE:∀ds P,uO ds P->ds.length=3:=by
 intro ds P h
 obtain ⟨_,_,_,_,e,_⟩:=h
 rw[e];rfl
def D0{c:Cs}{f:Addr}{S:FuncData}(F:FnAt K mg "spread" oX mD f S)(A_:Fns K mg c)(T:Txt K mg base)(xs:Exs K mg base c):br P w K mg base CX0 1 f S mD (spI K 2 uO):=by
 refine F.fn.ok m6 (fun vs H Q E h=>Ho sE h) (fun cdv A outer s H vs Q E R h=>?_)
 refine⟨_,(ak (wst 3 m6.nd (bR aj)) (ak (wfo (wil K (pv 0)) (wpg 4 m6.nd) (av (wfo (wil K (wix K (pv 1) (pv 4))) (wpg 5 m6.nd) (av (bB (K5 (Dx (zY R) (pv 5) (pv 2)) (by with_unfolding_all rfl)) (ak (CF (zY R) (pv 2) (pv 5) (pv 4) rfl) (av (cZ (mi MG MX MW df (pv 3) (aa (pv 5) aj))))) aV))))) (av (aB (pv 3))))),Hk (Γn:=[3,2]) (N:=tU) (p:=2) (ax (ST.post (Γn:=[3,2]) (cG (M:=[]) 3 (bS bf))) (ax (eG (bL (af 0)) (aN 4) (eG (bL (aA (af 1) (ES.er (af 4)))) (aN 5) (bP (mM (EM.er (DW (ES.er (af 5)) (mT 2)))) (ax (JU 2 (EF 2 (ES.er (af 5)) (ES.er (af 4)))) (ST.post (Γn:=[3,2]) (dn (M:=[]) 3 (ER.aP (ES.er (af 5)))))) aX))) (aI (M:=[3]) (gf 3)))) (fun ds P a x hS n=>?_) (by decide) (fun ds P h=>by have:=sE ds P h;omega) h⟩
 obtain ⟨ls,ws,as,B,rfl,hB,hl,hw,na,ba,hP⟩:=hS
 cases n
 simp only[Px,Oo]
 rw[show aJ tU [dN ls,dT (nT ws),.pin a (.dic (L3.Fl.kA as))]=[some (dN ls),some (dT (nT ws)),some (.pin a (.dic (L3.Fl.kA as))),none,none,none] from rfl]
 walk_at "go"
 have lw:(nT ws).length=ws.length:=by unfold nT;rw[mo]
 have le:∀b:List (Nat × Nat),(kys as++b.map Prod.fst).Nodup->(∀p∈b,p.2∈ls/\p.1∈ws.getD p.2 [])->(kA (as++nw b)).length<=50/\b.length<=50:=fun b h1 h2=>by
  have:=jE (B:=B) h1 fun q g=>by
   rcases Mf.mp g with z|z
   .exact ba q z
   .obtain ⟨p,m,rfl⟩:=Mh.mp z
    obtain ⟨k1,k2⟩:=h2 p m
    have X:=hl _ k1
    refine (hw (ws.getD p.2 []) ?_).2 _ k2
    rw[gV,dz X]
    exact MJ X
  rw[Mt,mo,mo] at this
  refine⟨?_,by omega⟩
  unfold kA nw
  rw[mo,Mt,mo];omega
 rw[show List.map L3.D.int (List.map (fun (r:Nat)=>(r:Int)) ls)=ls.map (fun (r:Nat)=>L3.D.int (r:Int)) by rw[MB];rfl]
 refine fK (as:=ls) (f:=fun (r:Nat)=>L3.D.int (r:Int)) (fun i δ=>∃(b:List (Nat × Nat)) (J j:Option D),δ=[some (dN ls),some (dT (nT ws)),some (L3.D.pin a (L3.D.dic (kA (as++nw b)))),some (dN (b.map Prod.fst)),J,j]/\(kys as++b.map Prod.fst).Nodup/\(∀p∈b,p.2∈ls/\p.1∈ws.getD p.2 [])/\∀s∈ls.take i,∀p∈ws.getD s [],p∈kys as++b.map Prod.fst) ⟨[],none,none,by simp [nw],by simpa using na,fun p h=>(nomatch h),fun s h=>by simp at h⟩ ?_ ?_
 .rintro i s δ N e ⟨b,J,j,rfl,nd,hn,l⟩ hN
  have u:s∈ls:=MP e
  have G:=hl s u
  have ew:rowAt (nT ws) s=(ws.getD s []).map fun (x:Nat)=>(x:Int):=by
   unfold rowAt nT
   rw[gV,Mc,dz G,gV,dz G];rfl
  obtain ⟨v,t⟩:∃v,ws.getD s []=v:=⟨_,rfl⟩
  have Z:v∈ws:=by rw[<- t,gV,dz G];exact MJ G
  walk_at "go"
  refine fc (by omega) ?_
  rw[Md,ew,t]
  walk_at "go"
  rw[show List.map L3.D.int (List.map (fun (r:Nat)=>(r:Int)) v)=v.map (fun (r:Nat)=>L3.D.int (r:Int)) by rw[MB];rfl]
  refine fK (as:=v) (f:=fun (r:Nat)=>L3.D.int (r:Int)) (fun k δ=>∃(b:List (Nat × Nat)) (j:Option D),δ=[some (dN ls),some (dT (nT ws)),some (L3.D.pin a (L3.D.dic (kA (as++nw b)))),some (dN (b.map Prod.fst)),some (.int (s:Int)),j]/\(kys as++b.map Prod.fst).Nodup/\(∀p∈b,p.2∈ls/\p.1∈ws.getD p.2 [])/\(∀s∈ls.take i,∀p∈ws.getD s [],p∈kys as++b.map Prod.fst)/\∀p∈v.take k,p∈kys as++b.map Prod.fst) ⟨b,j,rfl,nd,hn,l,fun p h=>by simp at h⟩ ?_ ?_
  .rintro k p δ N' U ⟨b,j,rfl,nd,hn,l,C⟩ Y
   have m:p∈v:=MP U
   obtain ⟨l1,l2⟩:=le b nd hn
   have L:∀q,q∈v.take (k+1)->q∈v.take k\/q=p:=fun q g=>by
    rw[List.take_succ,U] at g
    rcases Mf.mp g with z|z
    .exact .inl z
    .exact .inr (by simpa using z)
   have O:kys (as++nw b)=kys as++b.map Prod.fst:=by rw[cj,fk]
   walk_at "go"
   rw[Lv,O]
   by_cases hi:p∈kys as++b.map Prod.fst
   .rw[decide_eq_true hi]
    walk_at "go"
    refine Y _ ⟨b,_,rfl,nd,hn,l,fun q g=>?_⟩
    rcases L q g with z|z
    .exact C q z
    .rw[z];exact hi
   .rw[decide_eq_false hi]
    walk_at "go"
    have ep:putK (kA (as++nw b)) (.inl (p:Int)) (.int (s:Int))=kA (as++nw (b++[(p,s)])):=by
     have:=EG (as:=as++nw b) (c:=p) (o:=some s) (by rw[O];exact hi)
     rw[show oV (some s)=V.int (s:Int) from rfl] at this
     rw[this]
     unfold nw
     rw[MC,<- M0];rfl
    rw[ep,oU]
    have ef:(b.map Prod.fst).map (fun (r:Nat)=>(r:Int))++[(p:Int)]=((b++[(p,s)]).map Prod.fst).map fun (r:Nat)=>(r:Int):=by
     rw[MC,MC];rfl
    rw[ef]
    refine Y _ ⟨b++[(p,s)],_,rfl,?_,fun q g=>?_,fun s' I q g=>?_,fun q g=>?_⟩
    .rw[MC,<- M0]
     refine Ms.mpr ⟨nd,by simp,fun x n y hy z=>?_⟩
     have:y=p:=by simpa using hy
     rw[z,this] at n;exact hi n
    .rcases Mf.mp g with z|z
     .exact hn q z
     .cases Gc.mp z
      exact⟨u,by rw[t];exact m⟩
    .rw[MC,<- M0]
     exact Mg _ (l s' I q g)
    .rw[MC,<- M0]
     rcases L q g with z|z
     .exact Mg _ (C q z)
     .rw[z];exact L9 _ (by simp)
  .rintro δ ⟨b,j,rfl,nd,hn,l,C⟩
   refine hN _ ⟨b,_,_,rfl,nd,hn,fun s' I q g=>?_⟩
   rw[List.take_succ,e] at I
   rcases Mf.mp I with z|z
   .exact l s' z q g
   .have:s'=s:=by simpa using z
    rw[this,t] at g
    exact C q (by rw[O0];exact g)
 .rintro δ ⟨b,J,j,rfl,nd,hn,l⟩
  walk_at "go"
  exact hP b nd hn fun s u p m=>l s (by rw[O0];exact u) p m
abbrev yL(c:Cs)(as bs:List (Nat × Option Nat))(b:Option Nat):D:=.ins c.Reach ["rows","columns","goal"] [.dic (kA as),.dic (kA bs),oD b]
def Bm{as:List (Nat × Option Nat)}{i:Nat}(h:i∈kys as):∃o,(i,o)∈as:=by
 obtain ⟨p,b,rfl⟩:=Mh.mp h
 exact⟨p.2,b⟩
theorem Ac{c:Nat}:∀{ps:List (Nat × Nat)},(kC ps c).length=2*ps.length
 |[]=>rfl
 |[p]=>rfl
 |p::q::r=>by
  show (kC (q::r) c).length+1+1=_
  rw[Ac];simp only[Me];omega
def my(c:Cs):DSp:=fun ds P=>∃(low high t:aaa) (w:aab) (as bs:List (Nat × Option Nat)) (rk b:Nat->Nat) (n m B g:Nat),ds=[yL c as bs (some g)]/\Rc n m low high t w as bs rk b B/\g∈kys bs/\n<=50/\∀ps,Wy n m low high t w g ps->P (.lst ((cellsOf ps).map jF))
def um{c:Cs}:bo (my c):=by
 intro xs P t k h
 obtain ⟨a1,a2,p,o,n,m,l,j,i,s,q,r,e,g,f,b,h⟩:=h
 exact⟨a1,a2,p,o,n,m,l,j,i,s,q,r,e,g,f,b,fun ps z=>k _ (h ps z)⟩
def vk{c:Cs}:∀ds P,my c ds P->ds.length=1:=by
 intro ds P h
 obtain ⟨_,_,_,_,_,_,_,_,_,_,_,_,e,_⟩:=h
 rw[e];rfl
def xD{c:Cs}{f:Addr}{C:FuncData}(F:ql K c.Reach "way" "Reach.way" jP hX f C)(A_:Fns K mg c)(T:Txt K mg base)(xs:Exs K mg base c):br P w K mg base CX0 1 f C hX (spP K (my c)):=by
 refine F.fn.ok fJ (fun vs H Q E h=>aR vk h) (fun X A outer s H vs Q E z h=>?_)
 refine⟨_,(ak (wst 1 fJ.nd (bR aj)) (ak (wst 2 fJ.nd (aY (K:=K) rfl (pv 0) rfl)) (ak (uM PassesOwn.never (aM xO (pv 2) lq (aW _)) (ak (wst 3 fJ.nd (BW (zY z) (aY (K:=K) rfl (pv 0) rfl) (pv 2) (fun _ _=>rfl))) (ak (cZ (mi MG MX MW df (pv 1) (aa (c4 (aa (pv 3) (aa (pv 2) aj))) aj))) (ak (wst 2 fJ.nd (BW (zY z) (aY (K:=K) rfl (pv 0) rfl) (pv 3) (fun _ _=>rfl))) (av (bB (aM xO (pv 2) lq (aW _)) (av (cZ (mi MG MX MW df (pv 1) (aa (c4 (aa (pv 3) (aa (pv 2) aj))) aj)))) aV)))))) (av (aB (pv 1)))))),bb (Γn:=[1]) (N:=l9) (ax (ST.post (Γn:=[1]) (cG (M:=[]) 1 (bS bf))) (ax (ST.post (Γn:=[1]) (aK 2 (bW ["rows","columns","goal"] 2 xs.i_Reach.cl xs.n_Reach_goal (af 0)))) (ax (tE (aL (EM.er (ay AK (ES.er (af 2)) (EM.er lx)))) (ax (ST.post (Γn:=[1]) (aK 3 (EM.es (ER.flat (Ck (ES.er (bW ["rows","columns","goal"] 1 xs.i_Reach.cl xs.n_Reach_columns (af 0))) (ES.er (af 2))))))) (ax (ST.post (Γn:=[1]) (dn (M:=[]) 1 (fo (aE (ER.flat (ES.er (af 3))) (aE (ER.flat (ES.er (af 2))) bf))))) (ax (ST.post (Γn:=[1]) (aK 2 (EM.es (ER.flat (Ck (ES.er (bW ["rows","columns","goal"] 0 xs.i_Reach.cl xs.n_Reach_rows (af 0))) (ES.er (af 3))))))) (bP (aL (EM.er (ay AK (ES.er (af 2)) (EM.er lx)))) (ST.post (Γn:=[1]) (dn (M:=[]) 1 (fo (aE (ER.flat (ES.er (af 3))) (aE (ER.flat (ES.er (af 2))) bf))))) aX))))) (aI (M:=[1]) (gf 1))))) (fun ds P R=>?_) h⟩
 obtain ⟨low,high,t,w,as,bs,rk,l,n,m,B,g,rfl,j,O,Z,S⟩:=R
 rw[show aJ l9 [yL c as bs (some g)]=[some (yL c as bs (some g)),none,none,none] from rfl]
 walk_at "go"
 refine⟨fun u δ=>(∃(ps:List (Nat × Nat)) (b:Nat) (i:Option D),u=l b + 1/\δ=[some (yL c as bs (some g)),some (.lst ((kC ps b).map jF)),some (.int (b:Int)),i]/\Wp n m low high t bs rk l g ps b)\/(∃(ps:List (Nat × Nat)) (i:Option D),u=0/\δ=[some (yL c as bs (some g)),some (.lst ((cellsOf ps).map jF)),some .non,i]/\Wy n m low high t w g ps),⟨l g+1,.inl ⟨[],g,none,rfl,rfl,⟨.inl ⟨rfl,rfl⟩,O,fun p h=>(nomatch h),fun p h=>(nomatch h),Nb,Nb,fun p h=>(nomatch h),trivial,fun p h=>by simp at h⟩⟩⟩,?_⟩
 rintro u δ (⟨ps,b,i,rfl,rfl,hw⟩|⟨ps,i,rfl,rfl,hw⟩)
 .obtain ⟨o,x⟩:=Bm hw.ci
  obtain ⟨s,e1,_⟩:=j.pb b o x
  subst e1
  obtain ⟨I,Y,y⟩:=Wp.step j hw x
  obtain ⟨G,r⟩:=Bm I
  have hl:=Ac (c:=b) (ps:=ps)
  have VU:ps.length<=50:=by
   have:=jE (B:=n) hw.n1 fun q J=>by
    obtain ⟨p,L,rfl⟩:=Mh.mp J
    exact (hw.rg p L).1
   rw[mo] at this;omega
  walk_at "go"
  refine xX (v:=.int (s:Int)) (su j.nb x) ?_
  walk_at "go"
  cases G with
  |none =>
   refine xX (v:=.non) (su j.na r) ?_
   walk_at "go"
   rw[show (kC ps b).map jF++[L3.D.tup [L3.D.int (s:Int),L3.D.int (b:Int)]]=(cellsOf (ps++[(s,b)])).map jF by rw[uA,MC];rfl]
   exact⟨0,by omega,.inr ⟨ps++[(s,b)],_,rfl,rfl,Y r⟩⟩
  |some e =>
   obtain ⟨U,h2⟩:=y e r
   refine xX (v:=.int (e:Int)) (su j.na r) ?_
   walk_at "go"
   refine⟨by rw[Mt,mo,List.length_singleton];omega,?_⟩
   rw[show (kC ps b).map jF++[L3.D.tup [L3.D.int (s:Int),L3.D.int (b:Int)]]++[L3.D.tup [L3.D.int (s:Int),L3.D.int (e:Int)]]=(kC (ps++[(s,b)]) e).map jF by rw[vG,MC,M0];rfl]
   exact⟨l e+1,by omega,.inl ⟨ps++[(s,b)],e,_,rfl,rfl,U⟩⟩
 .walk_at "go"
  exact S ps hw
def kq{a b:aab}{p:Nat}:p∈bD a b↔p<a.length/\a.getD p 0<b.getD p 0:=by
 unfold bD
 rw[M7,Mq,decide_eq_true_eq]
def wd{a b:aab}:(bD a b).length<=a.length:=by
 unfold bD
 exact ME (List.length_filter_le _ _) (by rw[Mi];exact Mm _)
def zo{a b:aab}:(bD a b).Nodup:=List.nodup_range.filter _
def Fy{n s:Nat}{a b:aaa}(h:s<n):(upL n a b).getD s []=bD (rowAt a s) (rowAt b s):=by
 unfold upL
 rw[gV,Mc,MS h];rfl
def uQ{m s:Nat}{t:aaa}(h:s<m):rowAt (turned m t) s=qZ t s:=by
 unfold rowAt turned
 rw[gV,Mc,MS h];rfl
def B8{t:aaa}{s:Nat}:(qZ t s).length=t.length:=by unfold qZ;rw[mo]
def B4{t:aaa}{s p:Nat}(h:p<t.length):(qZ t s).getD p 0=cellAt t p s:=by
 unfold qZ cellAt
 rw[gV,Mc,dz h,gV (l:=t),dz h];rfl
def qX{n m:Nat}{t:aaa}(h:bK n m t):bK m n (turned m t):=⟨by unfold turned;rw[mo,Mi],fun r b=>by
 obtain ⟨j,_,rfl⟩:=Mh.mp b
 rw[B8];exact h.1⟩
def eN(c:Cs):DSp:=fun ds P=>∃(low high t:aaa) (w r:aab) (n m:Nat),ds=[z6 c low high t w r]/\bK n m low/\bK n m high/\bK n m t/\w.length=n/\r.length=m/\1<=n/\n<=50/\1<=m/\m<=50 /\
 ∀(b:aac) (as bs:List (Nat × Option Nat)) (e:Option Nat) (rk f:Nat->Nat) (B:Nat),Rc n m low high t w as bs rk f B->Cl n m low high t r b as bs e->(e=none->b=[])->P (yL c as bs e)
def sg{c:Cs}:bo (eN c):=by
 intro xs P C k h
 obtain ⟨a1,a2,B,z,y,x,v,e,u,t,s,r,q,p,o,n,m,h⟩:=h
 exact⟨a1,a2,B,z,y,x,v,e,u,t,s,r,q,p,o,n,m,fun a b c d e f g l j i=>k _ (h a b c d e f g l j i)⟩
def tj{c:Cs}:∀ds P,eN c ds P->ds.length=1:=by
 intro ds P h
 obtain ⟨_,_,_,_,_,_,_,e,_⟩:=h
 rw[e];rfl
def ub{c:Cs}:∀ds P,(eN c) ds P->(eN c) ds fun d=>(∃ns dd,d=.ins c.Reach ns dd)/\P d:=by
 intro ds P h
 unfold eN at h ⊢
 obtain ⟨a1,a2,B,z,y,x,v,e,u,t,s,r,q,p,o,n,m,h⟩:=h;exact⟨a1,a2,B,z,y,x,v,e,u,t,s,r,q,p,o,n,m,fun a b c d e f g l j i=>⟨⟨_,_,rfl⟩,h a b c d e f g l j i⟩⟩
def va{c:Cs}{f:Addr}{fd:FuncData}(F:Bx K mg "Reach" c.Reach "Reach.__init__" iI fM f fd)(L:Fns K mg c)(T:Txt K mg base)(xs:Exs K mg base c):br P w K mg base CX0 3 f fd fM (Iz K c.Reach (eN c)):=by
 obtain ⟨f0,d0,P9⟩:=L.h_ways_up
 have QS:=Bd (P:=P) (w:=w) P9 L T xs
 obtain ⟨f1,d1,M6⟩:=L.h_places_below
 have Nt:=fj (P:=P) (w:=w) M6 L T xs
 obtain ⟨f2,d2,Ny⟩:=L.h_turned_table
 have NZ:=lR (P:=P) (w:=w) Ny L T xs
 obtain ⟨f3,d3,Qx⟩:=L.h_spread
 have Rm:=D0 (P:=P) (w:=w) Qx L T xs
 obtain ⟨f4,d4,OK⟩:=L.h_first_with_room
 have P1:=nZ (P:=P) (w:=w) OK L T xs
 refine F.fn.ok cJ (fun vs H Q E h=>Ey tj h) (fun cdv A outer s H vs Q E J h=>?_)
 refine⟨_,(ak (iH (K:=K) rfl (pv 0) yQ rfl) (ak (iH (K:=K) rfl (pv 0) yQ rfl) (ak (iH (K:=K) rfl (pv 0) lq rfl) (ak (wst 2 cJ.nd (wcl QS J P9 (aa (aY (K:=K) rfl (pv 1) rfl) (aa (aY (K:=K) rfl (pv 1) rfl) aj)))) (ak (wst 3 cJ.nd (wcl QS J P9 (aa (wcl NZ J Ny (aa (aY (K:=K) rfl (pv 1) rfl) aj)) (aa (wcl NZ J Ny (aa (aY (K:=K) rfl (pv 1) rfl) aj)) aj)))) (ak (wst 4 cJ.nd (wcl Nt J M6 (aa (aH Gp (bR (aa aq aj)) (wln K T.len_ (aY (K:=K) rfl (pv 1) rfl))) (aa (aY (K:=K) rfl (pv 1) rfl) aj)))) (ak (wfo (wil K (pv 4)) (wpg 5 cJ.nd) (av (CF (zY J) (aY (K:=K) rfl (pv 0) rfl) (pv 5) lq rfl))) (av (uM PassesOwn.never (PW.pt (tM (aM (uI J.units) (pv 4) (bR aj) (aW _)) (pP (aM FR (aY (K:=K) rfl (pv 0) rfl) lq (aW _))))) (ak (wst 6 cJ.nd (wcl Rm J Qx (aa (pv 4) (aa (pv 2) (aa (aY (K:=K) rfl (pv 0) rfl) aj))))) (ak (iH (K:=K) rfl (pv 0) (wcl P1 J OK (aa (pv 6) (aa (aY (K:=K) rfl (pv 1) rfl) aj))) rfl) (av (wst 4 cJ.nd (wcl Rm J Qx (aa (pv 6) (aa (pv 3) (aa (aY (K:=K) rfl (pv 0) rfl) aj))))))))))))))))),Hn (N:=lF) (uz xs.i_Reach.cl xs.n_Reach_rows BH (h:=uz xs.i_Reach.cl xs.n_Reach_columns BH (h:=uz xs.i_Reach.cl xs.n_Reach_goal lx (h:=Gw (ax (ST.post (Γn:=[0]) (aK 2 (EM.es (aD (S:=iQ) oH (ai (ES.er (bW ["low","high","table","wants","rooms"] 2 xs.i_Filling.cl xs.n_Filling_table (af 1))) (ai (ES.er (bW ["low","high","table","wants","rooms"] 1 xs.i_Filling.cl xs.n_Filling_high (af 1))) au)))))) (ax (ST.post (Γn:=[0]) (aK 3 (EM.es (aD (S:=iQ) oH (ai (EM.er (aD (S:=b8) fN (ai (ES.er (bW ["low","high","table","wants","rooms"] 0 xs.i_Filling.cl xs.n_Filling_low (af 1))) au))) (ai (EM.er (aD (S:=b8) fN (ai (ES.er (bW ["low","high","table","wants","rooms"] 2 xs.i_Filling.cl xs.n_Filling_table (af 1))) au))) au)))))) (ax (ST.post (Γn:=[0]) (aK 4 (EM.es (aD (S:=bO) dE (ai (EM.er (ay Jr (EM.er (bS (aE ar bf))) (EM.er (aS bI (ai (ES.er (bW ["low","high","table","wants","rooms"] 3 xs.i_Filling.cl xs.n_Filling_wants (af 1))) au))))) (ai (ES.er (bW ["low","high","table","wants","rooms"] 3 xs.i_Filling.cl xs.n_Filling_wants (af 1))) au)))))) (ax (eG (bL (af 4)) (aN 5) (GD 0 ["rows","columns","goal"] 0 xs.i_Reach.cl xs.n_Reach_rows (ES.er (af 5)) (EM.er lx))) (tE (xC (aL (EM.er (ay yE (ES.er (af 4)) (EM.er (bS bf))))) (aL (EM.er (ay Jy (KY ["rows","columns","goal"] 2 xs.i_Reach.cl xs.n_Reach_goal (mT 0)) (EM.er lx))))) (ax (yF 6 0 4 2 ["rows","columns","goal"] 1 qW xs.i_Reach.cl xs.n_Reach_columns) (ax (Ii 0 ["rows","columns","goal"] 2 xs.i_Reach.cl xs.n_Reach_goal (EM.er (aD (S:=dC) lW (ai (ES.er (af 6)) (ai (ES.er (bW ["low","high","table","wants","rooms"] 4 xs.i_Filling.cl xs.n_Filling_rooms (af 1))) au))))) (yF 4 0 6 3 ["rows","columns","goal"] 0 qW xs.i_Reach.cl xs.n_Reach_rows)))))))))))) (fun ds P hS=>?_) (by decide) h⟩
 obtain ⟨low,high,t,w,r,n,m,rfl,hL,hH,Z,lw,lr,n1,Y,m1,m5,hP⟩:=hS
 rw[show aJ (lF.drop 1) [z6 c low high t w r]=[some (z6 c low high t w r),none,none,none,none,none] from rfl]
 have V9:∀s,s<n->∀p,p∈(upL n t high).getD s []↔p<m/\cellAt t s p<cellAt high s p:=fun s G p=>by
  rw[Fy G,kq,show (rowAt t s).length=m from Z.row G]
 have XR:∀s,s<m->∀p,p∈(upL m (turned m low) (turned m t)).getD s []↔p<n/\cellAt low p s<cellAt t p s:=fun s G p=>by
  rw[Fy G,kq,uQ G,uQ G,B8,hL.1]
  refine and_congr_right fun x=>?_
  rw[B4 (by rw[hL.1];exact x),B4 (by rw[Z.1];exact x)]
 have Yb:bK m n (turned m low):=qX hL
 have Zq:bK m n (turned m t):=qX Z
 have Yi:(upL n t high).length=n:=by unfold upL;rw[mo,Mi]
 have ldn:(upL m (turned m low) (turned m t)).length=m:=by unfold upL;rw[mo,Mi]
 have Yo:∀v∈upL n t high,v.length<=50/\∀p∈v,p<m:=fun v hv=>by
  obtain ⟨s,G,rfl⟩:=Mh.mp hv
  have G:=Mq.mp G
  have e:=Z.row G
  exact⟨ME wd (by rw[e];exact m5),fun p x=>by have:=(kq.mp x).1;rw[e] at this;exact this⟩
 have Xj:∀v∈upL m (turned m low) (turned m t),v.length<=50/\∀p∈v,p<n:=fun v hv=>by
  obtain ⟨s,G,rfl⟩:=Mh.mp hv
  have G:=Mq.mp G
  have e:=Yb.row G
  exact⟨ME wd (by rw[e];exact Y),fun p x=>by have:=(kq.mp x).1;rw[e] at this;exact this⟩
 generalize VQ:upL n t high=upW at V9 Yi Yo
 generalize T3:upL m (turned m low) (turned m t)=dnW at XR ldn Xj
 walk_at "go"
 intro O
 walk_at "go"
 refine⟨t,high,n,m,rfl,Z,hH,Y,m5,?_⟩
 refine⟨low,n,m,rfl,hL,n1,by omega,by omega,?_⟩
 refine⟨t,n,m,rfl,Z,n1,by omega,by omega,?_⟩
 refine⟨turned m low,turned m t,m,n,rfl,Yb,Zq,m5,Y,?_⟩
 rw[VQ,T3]
 refine⟨by decide,⟨rfl,by omega,by omega⟩,?_⟩
 rw[An]
 refine⟨List.replicate w.length 0,w,rfl,by rw[Mw];omega,Mw,?_⟩
 have UQ:∀p,p∈bD (List.replicate w.length 0) w↔p<n/\0<w.getD p 0:=fun p=>by
  rw[kq,Mw,lw]
  refine and_congr_right fun x=>?_
  rw[gV (l:=List.replicate n 0),MQ,if_pos (by omega)];rfl
 have Tg:(bD (List.replicate w.length 0) w).Nodup:=zo
 generalize bD (List.replicate w.length 0) w=ly at UQ Tg
 refine jx rfl ?_
 have Yu:ly.length<=50:=ME (jE Tg fun p x=>((UQ p).mp x).1) Y
 rw[show List.map L3.D.int (List.map (fun (r:Nat)=>(r:Int)) ly)=ly.map (fun (r:Nat)=>L3.D.int (r:Int)) by rw[MB];rfl]
 refine fK (as:=ly) (f:=fun (r:Nat)=>L3.D.int (r:Int)) (fun i δ=>∃X:Option D,δ=[some (.pin O (yL c ((ly.take i).map fun p=>(p,none)) [] none)),some (z6 c low high t w r),some (dT (nT upW)),some (dT (nT dnW)),some (dN ly),X,none]) ⟨none,rfl⟩ ?_ ?_
 .rintro i p δ N e ⟨X,rfl⟩ hN
  have hi:=(Ma.mp e).1
  have R:kys ((ly.take i).map fun p=>(p,(none:Option Nat)))=ly.take i:=by unfold kys;rw[MB];exact List.map_id _
  have x:p∉ly.take i:=fun z=>by
   have:=Tg
   rw[<- NB i ly] at this
   obtain ⟨_,_,h3⟩:=Ms.mp this
   refine h3 p z p ?_ rfl
   rw[M5 hi]
   have:=(Ma.mp e).2
   rw[this];exact Fk
  refine⟨O,_,kA ((ly.take i).map fun p=>(p,none)),rfl,rfl,rfl,?_⟩
  have lk:(kA ((ly.take i).map fun p=>(p,(none:Option Nat)))).length<1000:=by
   unfold kA;rw[mo,mo,MT];omega
  refine⟨lk,?_⟩
  show N _
  have ep:putK (kA ((ly.take i).map fun p=>(p,(none:Option Nat)))) (.inl (p:Int)) (L3.D.toV L3.D.non)=kA ((ly.take (i+1)).map fun p=>(p,none)):=by
   rw[show L3.D.toV L3.D.non=oV none from rfl,EG (by rw[R];exact x),List.take_succ,e,MC];rfl
  rw[ep]
  exact hN _ ⟨_,rfl⟩
 .rintro δ ⟨X,rfl⟩
  rw[O0]
  have R:kys (ly.map fun p=>(p,(none:Option Nat)))=ly:=by unfold kys;rw[MB];exact List.map_id _
  have Zv:Rc n m low high t w (ly.map fun p=>(p,none)) [] (fun _=>0) (fun _=>0) 0:=⟨by rw[R];exact Tg,Nb,fun i hi=>⟨((UQ i).mp (by rw[R] at hi;exact hi)).1,Mm _⟩,fun j hj=>(nomatch hj),fun i o e=>by
   obtain ⟨p,x,q⟩:=Mh.mp e
   cases q
   exact .inl ⟨rfl,((UQ _).mp x).2⟩,fun j o e=>(nomatch e),fun i hi hw=>by rw[R];exact (UQ i).mpr ⟨hi,hw⟩⟩
  have cl0:Cl n m low high t r ly (ly.map fun p=>(p,none)) [] none:=⟨fun l hl=>by rw[R];exact hl,fun i hi hn=>absurd (by rw[R] at hi;exact hi) hn,fun j hj=>(nomatch hj),fun c hc=>(nomatch hc)⟩
  refine⟨fun μ δ=>∃(b:aac) (as bs:List (Nat × Option Nat)) (C:Option Nat) (rk ck:Nat->Nat) (B:Nat) (X o6:Option D),μ=2*(m - bs.length)+(if b=[] then 0 else 1)/\δ=[some (.pin O (yL c as bs C)),some (z6 c low high t w r),some (dT (nT upW)),some (dT (nT dnW)),some (dN b),X,o6]/\Rc n m low high t w as bs rk ck B/\Cl n m low high t r b as bs C,⟨_,ly,_,[],none,_,_,0,_,none,rfl,rfl,Zv,cl0⟩,?_⟩
  rintro μ δ ⟨b,as,bs,C,rk,ck,B,X,o6,rfl,rfl,M,U⟩
  walk_at "go"
  refine kN (xs:=b.map fun (r:Nat)=>(r:Int)) (ys:=[]) ?_
  walk_at "go"
  by_cases hl:b=[]
  .rw[if_neg (by rw[hl];simp)]
   exact⟨⟨_,_,rfl⟩,hP b as bs C rk ck B M U fun _=>hl⟩
  rw[if_pos (by rw[List.map_eq_nil_iff];exact hl)]
  cases C with
  |some g =>
   walk_at "go"
   exact⟨⟨_,_,rfl⟩,hP b as bs (some g) rk ck B M U fun z=>by cases z⟩
  |none =>
  walk_at "go"
  rw[if_neg hl]
  refine⟨O,_,kA bs,dN b,dT (nT upW),rfl,rfl,rfl,rfl,b,upW,bs,m,rfl,m5,fun l hl=>by rw[Yi];exact (M.la l (U.ly l hl)).1,Yo,M.nb,fun p x=>(M.lb p x).1,fun y nd hn hc=>⟨_,rfl,?_⟩⟩
  have up2:∀p∈y,p.2∈kys as/\p.1<m/\cellAt t p.2 p.1<cellAt high p.2 p.1:=fun p x=>by
   obtain ⟨q1,q2⟩:=hn p x
   have q3:=U.ly _ q1
   exact⟨q3,(V9 p.2 (M.la _ q3).1 p.1).mp q2⟩
  have I:=M.up nd up2
  generalize hck:(fun c=>if c∈y.map Prod.fst then B+1 else ck c)=ck2 at I
  have HQ:bs.length+y.length<=m:=by
   have:=jE (B:=m) I.nb fun p x=>(I.lb p x).1
   rw[mo,Mt,mo] at this
   exact this
  have lt:∀u:List (Nat × Nat),(∀p∈u,p.2∈y.map Prod.fst)->2*(m - (bs++nw y).length)+(if u.map Prod.fst=[] then 0 else 1)<2*(m - bs.length)+1:=fun u h2=>by
   rw[Mt,mo]
   cases y with
   |nil =>
    cases u with
    |nil=>simp
    |cons q l=>exact absurd (h2 q Fk) (by simp)
   |cons q l =>
    simp only[Me] at HQ ⊢
    split<;>omega
  have Tp:∀u:List (Nat × Nat),(∀p∈u,p.2∈y.map Prod.fst/\p.1∈dnW.getD p.2 [])->∀p∈u,p.2∈kys (bs++nw y)/\p.1<n/\cellAt low p.1 p.2<cellAt t p.1 p.2:=fun u h2 p x=>by
   obtain ⟨q1,q2⟩:=h2 p x
   have q3:p.2∈kys (bs++nw y):=by rw[cj,fk];exact L9 _ q1
   exact⟨q3,(XR p.2 (I.lb _ q3).1 p.1).mp q2⟩
  have YW:∀u:List (Nat × Nat),∀i∈kys (as++nw u),i∉u.map Prod.fst->∀j,j<m->cellAt t i j<cellAt high i j->j∈kys (bs++nw y):=fun u i hi Sy j hj NX=>by
   rw[cj,fk] at hi ⊢
   have Yv:i∈kys as:=(Mf.mp hi).resolve_right Sy
   by_cases S7:i∈b
   .exact hc i S7 j ((V9 i (M.la i Yv).1 j).mpr ⟨hj,NX⟩)
   .exact Mg _ (U.cr i Yv S7 j hj NX)
  have YY:∀u:List (Nat × Nat),(∀s∈y.map Prod.fst,∀p∈dnW.getD s [],p∈kys as++u.map Prod.fst)->∀j∈kys (bs++nw y),∀i,i<n->cellAt low i j<cellAt t i j->i∈kys (as++nw u):=fun u h2 j hj i hi NX=>by
   have hjm:=(I.lb j hj).1
   rw[cj,fk] at hj ⊢
   rcases Mf.mp hj with z|z
   .exact Mg _ (U.cc j z i hi NX)
   .exact h2 j z i ((XR j hjm i).mpr ⟨hi,NX⟩)
  refine⟨O,_,L3.D.non,rfl,rfl,rfl,?_⟩
  walk_at "go"
  have gl0:∀c∈kys bs,r.getD c 0<=0:=U.gl
  refine⟨y.map Prod.fst,r,rfl,by rw[mo];omega,fun q hq=>by rw[lr];exact (I.lb q (by rw[cj,fk];exact L9 _ hq)).1,fun g hg Xa=>?_,fun U5=>?_⟩
  .refine⟨rfl,?_⟩
   refine⟨O,_,kA as,dN (y.map Prod.fst),dT (nT dnW),rfl,rfl,rfl,rfl,y.map Prod.fst,dnW,as,n,rfl,Y,fun l hl=>?_,Xj,I.na,fun p x=>(I.la p x).1,fun u Ss R5 Vk=>⟨_,rfl,?_⟩⟩
   .rw[ldn]
    exact (I.lb l (by rw[cj,fk];exact L9 _ hl)).1
   exact⟨_,lt u (fun p x=>(R5 p x).1),u.map Prod.fst,as++nw u,bs++nw y,some g,_,ck2,_,_,_,rfl,rfl,I.down Ss (Tp u R5),⟨fun l hl=>by rw[cj,fk];exact L9 _ hl,YW u,YY u Vk,⟨by rw[cj,fk];exact L9 _ hg,Xa⟩⟩⟩
  .refine⟨rfl,?_⟩
   refine⟨O,_,kA as,dN (y.map Prod.fst),dT (nT dnW),rfl,rfl,rfl,rfl,y.map Prod.fst,dnW,as,n,rfl,Y,fun l hl=>?_,Xj,I.na,fun p x=>(I.la p x).1,fun u Ss R5 Vk=>⟨_,rfl,?_⟩⟩
   .rw[ldn]
    exact (I.lb l (by rw[cj,fk];exact L9 _ hl)).1
   exact⟨_,lt u (fun p x=>(R5 p x).1),u.map Prod.fst,as++nw u,bs++nw y,none,_,ck2,_,_,_,rfl,rfl,I.down Ss (Tp u R5),⟨fun l hl=>by rw[cj,fk];exact L9 _ hl,YW u,YY u Vk,fun q hq=>by
    rw[cj,fk] at hq
    rcases Mf.mp hq with z|z
    .exact gl0 q z
    .have:=U5 q z;omega⟩⟩
theorem AG{p:Nat × Nat}:∀{l:List (Nat × Nat)},(cellsOf (p::l))[0]?=some p
 |[]=>rfl
 |_::_=>rfl
theorem sX:∀{ps:List (Nat × Nat)},(cellsOf ps).getLast?=ps.getLast?
 |[]=>rfl
 |[p]=>rfl
 |p::q::r=>by
  have ih:=sX (ps:=q::r)
  have:cellsOf (q::r)≠[]:=by cases r<;>exact List.cons_ne_nil _ _
  show (p::(p.1,q.2)::cellsOf (q::r)).getLast?=_
  cases e:cellsOf (q::r) with
  |nil=>exact absurd e this
  |cons a l=>rw[Nv,Nv,<- e,ih,Nv]
theorem wz:∀{ps:List (Nat × Nat)},(cellsOf ps).length<=2*ps.length
 |[]=>Mm _
 |[p]=>by show 1<=2*1;omega
 |p::q::r=>by
  have ih:=wz (ps:=q::r)
  show (cellsOf (q::r)).length+1+1<=_
  simp only[Me] at ih ⊢;omega
def HX{ps:List (Nat × Nat)}{p:Nat × Nat}{P:DK}(e:ps.getLast?=some p)(h:P (jF p)):asO (atI (ps.map jF) (-1)) P:=by
 have b:ps≠[]:=fun z=>by rw[z] at e;cases e
 have hl:0<ps.length:=List.length_pos_iff.mpr b
 refine (x9 ?_).mpr h
 have:ixN (ps.map jF).length (-1)=some (ps.length - 1):=by
  unfold ixN
  rw[mo,if_neg (by omega),if_pos (by omega)]
  congr 1;omega
 unfold atI
 rw[this]
 show (ps.map jF)[ps.length - 1]?=_
 rw[Mc,<- List.getLast?_eq_getElem?,e];rfl
def slA(low high t:aaa)(cs:List (Nat × Nat))(k:Nat):Int:=if k % 2=0 then cellAt high (cs.getD k (0,0)).1 (cs.getD k (0,0)).2 - cellAt t (cs.getD k (0,0)).1 (cs.getD k (0,0)).2 else cellAt t (cs.getD k (0,0)).1 (cs.getD k (0,0)).2 - cellAt low (cs.getD k (0,0)).1 (cs.getD k (0,0)).2
theorem G5:∀{l:aab}{i:Nat}{v:Int},i<l.length->v<l.getD i 0->0<l.getD i 0->((l.set i v).map Int.toNat).sum<(l.map Int.toNat).sum
 |[],i,v,h,_,_=>by simp at h
 |x::l,0,v,_,c,b=>by
  replace c:v<x:=c
  replace b:0<x:=b
  simp only[Px,Ml,MF]
  omega
 |x::l,i+1,v,h,c,b=>by
  have:=G5 (l:=l) (i:=i) (v:=v) (by simpa using h) c b
  simp only[Oo,Ml,MF]
  omega
def mu(w:aab):Nat:=(w.map Int.toNat).sum
def jo(c:Cs):DSG:=fun x ds j i P=>∃(low high t:aaa) (w r b cols:aab) (al f:Addr) (g n m:Nat) (ps:List (Nat × Nat)),x=u6 c al f t w r/\ds=[.lst ((cellsOf ps).map jF)]/\j=(al,dT low)/\i=(f,dT high)/\bK n m low/\bK n m high/\Fl.St n m b cols low high t w r/\Wy n m low high t w g ps/\0<r.getD g 0/\n<=50 /\
 ∀t' e h,Fl.St n m b cols low high t' e h->mu e < mu w->P (u6 c al f t' e h)
def oF{c:Cs}:F2 (jo c):=by
 intro x ds H G P I k h
 obtain ⟨a1,a2,B,z,y,v,u,t,s,F,C,E,b,e1,e2,r,q,p,o,n,m,l,j,h⟩:=h
 exact⟨a1,a2,B,z,y,v,u,t,s,F,C,E,b,e1,e2,r,q,p,o,n,m,l,j,fun t' g i f e=>k _ (h t' g i f e)⟩
def qG{c:Cs}:∀x ds f b P,jo c x ds f b P->ds.length+1=2:=by
 intro x ds f b P h
 obtain ⟨_,_,_,_,_,_,_,_,_,_,_,_,_,_,e,_⟩:=h
 rw[e];rfl
def rO{c:Cs}{f:Addr}{fd:FuncData}(F:ql K c.Filling "pour" "Filling.pour" dG eD f fd)(A_:Fns K mg c)(T:Txt K mg base)(xs:Exs K mg base c):br P w K mg base CX0 2 f fd eD (spG K (jo c)):=by
 obtain ⟨f0,d0,Oe⟩:=A_.h_Filling_slack
 have Qj:=qQ (P:=P) (w:=w) Oe A_ T xs
 refine F.fn.ok cq (fun vs H Q E h=>Hg qG h) (fun cdv A outer s H vs Q E hr h=>?_)
 refine⟨_,rC [7,8] (fun i hi x Y=>by
  rcases (show i=7\/i=8 by simpa using hi) with rfl|rfl<;>(obtain rfl:=MH Y;rfl)) ((ak (wst 2 cq.nd (wit K (wix K (pv 1) aq) aq)) (ak (wst 3 cq.nd (wit K (wix K (pv 1) (CQ xV aq)) aq)) (ak (wst 4 cq.nd (aQ (p9 (K:=K) rfl rfl) (by rfl) T.min_ boot_min (aa (aH GL (bR (aa (wix K (aY (K:=K) rfl (pv 0) rfl) (pv 3)) (aa (wix K (aY (K:=K) rfl (pv 0) rfl) (pv 2)) aj))) (wco (aw dG) "step" ["self","way"] [0,1] (bu rfl T.range_ (aa (wln K T.len_ (pv 1)) aj)) (fun _ _ _ _ _=>(CU (pv 1) xs.i_Filling.cl Oe.mt Qj (hr.mono (by decide)) Oe.bd .nil tZ (aa (pv 2) (aa (pv 0) aj)))))) aj))) (ak (wfo (bu rfl T.range_ (aa (wln K T.len_ (pv 1)) aj)) (wpg 5 cq.nd) (ak (wst 6 cq.nd (wix K (aY (K:=K) rfl (pv 0) rfl) (wit K (wix K (pv 1) (pv 5)) aq))) (av (j7 (aH bN (wix K (pv 6) (wit K (wix K (pv 1) (pv 5)) aq)) (uf (aM ku (aH bH (pv 5) aq) aq (aW _)) (pv 4) (CQ xV (pv 4)))) (lB (pv 6) (wit K (wix K (pv 1) (pv 5)) aq) set_list))))) (ak (j7 (aH iw (wix K (aY (K:=K) rfl (pv 0) rfl) (pv 3)) (pv 4)) (lB (aY (K:=K) rfl (pv 0) rfl) (pv 3) set_list)) (av (j7 (aH iw (wix K (aY (K:=K) rfl (pv 0) rfl) (pv 2)) (pv 4)) (lB (aY (K:=K) rfl (pv 0) rfl) (pv 2) set_list))))))))),IJ (N:=mB) 1 5 (ax (ST.post (Γn:=[0]) (aK 2 (bT (aA (af 1) (EM.er ar)) (EM.er ar)))) (ax (ST.post (Γn:=[0]) (aK 3 (bT (aA (af 1) (EM.er (Cv BC (EM.er ar)))) (EM.er ar)))) (ax (ST.post (Γn:=[0]) (aK 4 (EM.es (xU 0 7 8 (aS AF (ai (EM.er (ay Js (EM.er (bS (aE (ER.aP (ES.er (aA (bW ["low","high","table","wants","rooms"] 3 xs.i_Filling.cl xs.n_Filling_wants (af 0)) (ES.er (af 3))))) (aE (ER.aP (ES.er (aA (bW ["low","high","table","wants","rooms"] 4 xs.i_Filling.cl xs.n_Filling_rooms (af 0)) (ES.er (af 2))))) bf)))) (EM.er (bw (cm (ai (EM.er (aS bI (ai (ES.er (af 1)) au))) au)) (aN 0) (B9 (C:=c.Filling) ["low","high","table","wants","rooms"] og (ES.er (af 1)) (ai (ES.er (af 2)) (ai (ES.er (af 0)) au))))))) au)))))) (ax (eG (cm (ai (EM.er (aS bI (ai (ES.er (af 1)) au))) au)) (aN 5) (IA 0 7 8 6 ["low","high","table","wants","rooms"] 2 xs.i_Filling.cl xs.n_Filling_table (ES.er (bT (aA (af 1) (ES.er (af 5))) (EM.er ar))) (EM.er (ay bJ (ES.er (aA (af 6) (ES.er (bT (aA (af 1) (ES.er (af 5))) (EM.er ar))))) (EM.er (Et (aL (EM.er (ay qR (EM.er (ay aT (ES.er (af 5)) (EM.er ar))) (EM.er ar)))) (ER.aP (ES.er (af 4))) (Cv BC (ES.er (af 4))))))) (ES.er (bT (aA (af 1) (ES.er (af 5))) (EM.er ar))))) (ax (Cq 0 ["low","high","table","wants","rooms"] 3 xs.i_Filling.cl xs.n_Filling_wants (sr 0 7 8 (EM.er (ay bJ (ES.er (aA (bW ["low","high","table","wants","rooms"] 3 xs.i_Filling.cl xs.n_Filling_wants (af 0)) (ES.er (af 3)))) (ES.er (af 4))))) (sr 0 7 8 (ES.er (af 3)))) (Cq 0 ["low","high","table","wants","rooms"] 4 xs.i_Filling.cl xs.n_Filling_rooms (sr 0 7 8 (EM.er (ay bJ (ES.er (aA (bW ["low","high","table","wants","rooms"] 4 xs.i_Filling.cl xs.n_Filling_rooms (af 0)) (ES.er (af 2)))) (ES.er (af 4))))) (sr 0 7 8 (ES.er (af 2))))))))) rfl rfl (fun l x ds g1 g2 P hS=>?_) h⟩
 obtain ⟨low,high,t,w,r,rows,cols,al,e,g,n,m,ps,rfl,rfl,rfl,rfl,hL,hH,S,G,hg,n5,hP⟩:=hS
 refine⟨rfl,?_⟩
 rw[show uP 5 l (u6 c al e t w r) [L3.D.lst ((cellsOf ps).map jF)] (al,dT low) (e,dT high)=[some (.pin l (u6 c al e t w r)),some (.lst ((cellsOf ps).map jF)),none,none,none,none,none,some (.pin al (dT low)),some (.pin e (dT high))] from rfl]
 have Tn:∃M l0,ps=M::l0/\M.2=g:=G.hd
 obtain ⟨M,l0,YS,eg⟩:=Tn
 obtain ⟨pl,XO,Zg⟩:=G.ls
 have QE:(cellsOf ps)[0]?=some M:=by rw[YS];exact AG
 have SG:(cellsOf ps).getLast?=some pl:=by rw[sX];exact XO
 have TK:=t8 G.rg
 have Wo:pl∈ps:=List.mem_of_getLast? XO
 obtain ⟨pln,plm⟩:=G.rg pl Wo
 have gm:g<m:=by rw[<- eg];exact (G.rg M (by rw[YS];exact Fk)).2
 have VU:ps.length<=50:=by
  have:=jE (B:=n) G.n1 fun q hq=>by
   obtain ⟨p,J,rfl⟩:=Mh.mp hq
   exact (G.rg p J).1
  rw[mo] at this;omega
 have Z:(cellsOf ps).length<=100:=ME wz (by omega)
 have Y5:Al (fun q=>cellAt t q.1 q.2<cellAt high q.1 q.2) (fun q=>cellAt low q.1 q.2<cellAt t q.1 q.2) (cellsOf ps):=A3.mpr ⟨G.up,G.lk⟩
 have u:=fun x U xw xr al=>Hw (x:=x) S G XO U xw xr al
 have lw:=S.wl
 have lr:=S.rl
 have hT:=S.rt
 generalize Tn:cellsOf ps=cs at QE SG TK Z Y5 u
 walk_at "go"
 refine lg (k:=0) QE ?_
 walk_at "go"
 refine HX SG ?_
 walk_at "go"
 rw[eg]
 refine⟨l,c.Filling,_,al,e,dT low,dT high,[dT t,dI w,dI r],rfl,rfl,rfl,?_⟩
 walk_at "go"
 refine aO (by omega) ?_
 rw[Md]
 refine⟨rfl,?_⟩
 refine aO (by omega) ?_
 rw[Md]
 refine⟨rfl,by decide,?_⟩
 have Wf:∀k,k<cs.length->∃p,cs[k]?=some p/\slA low high t cs k=if k % 2=0 then cellAt high p.1 p.2 - cellAt t p.1 p.2 else cellAt t p.1 p.2 - cellAt low p.1 p.2:=fun k o=>⟨cs[k],dz o,by unfold slA;rw[gV,dz o];rfl⟩
 refine gk (lo:=0) (n:=cs.length) (g:=fun (k:Nat)=>.int (slA low high t cs k)) (fun R h=>?_) (by omega) (fun k o R h=>?_) ?_
 .walk_at "go"
  exact h
 .walk_at "gb"
  obtain ⟨p,ep,es⟩:=Wf k o
  have J:=TK p (MP ep)
  rw[M1]
  rw[es] at h
  exact⟨low,high,t,w,r,n,m,k,cs,p,rfl,hL,hH,hT,ep,J.1,J.2,h⟩
 rw[show (List.range cs.length).map (fun (k:Nat)=>L3.D.int (slA low high t cs k))=((List.range cs.length).map fun k=>slA low high t cs k).map L3.D.int by rw[MB];rfl]
 refine⟨⟨rfl,cw,by rw[mo,mo,Mi];simp only[Me,Oi];omega⟩,?_⟩
 rw[show L3.D.lst ([L3.D.int (w.getD pl.1 0),L3.D.int (r.getD g 0)]++((List.range cs.length).map fun k=>slA low high t cs k).map L3.D.int)=dI ([w.getD pl.1 0,r.getD g 0]++(List.range cs.length).map fun k=>slA low high t cs k) by show _=L3.D.lst (List.map L3.D.int _);rw[MC];rfl]
 refine nX.mpr ⟨by simp,fun x Y RT=>?_⟩
 have x2:=RT (w.getD pl.1 0) (by simp)
 have x3:=RT (r.getD g 0) (by simp)
 have x4:∀k,k<cs.length->x<=slA low high t cs k:=fun k o=>RT _ (L9 _ (Mh.mpr ⟨k,Mq.mpr o,rfl⟩))
 have U:1<=x:=by
  rcases Mf.mp Y with z|z
  .simp only[Mb,Mr,or_false] at z
   omega
  .obtain ⟨k,o,rfl⟩:=Mh.mp z
   have o:=Mq.mp o
   obtain ⟨p,ep,es⟩:=Wf k o
   have q:=Jv Y5 k p ep
   rw[es]
   by_cases y:k % 2=0
   .rw[if_pos y] at q ⊢;omega
   .rw[if_neg y] at q ⊢;omega
 obtain ⟨Xw,_,_⟩:=u x U x2 x3 (JB fun j p ep=>by
  have hj:=(Ma.mp ep).1
  obtain ⟨p',T9,es⟩:=Wf j hj
  rw[ep] at T9;cases T9
  have:=x4 j hj
  rw[es] at this
  by_cases y:j % 2=0
  .rw[if_pos y] at this ⊢;exact this
  .rw[if_neg y] at this ⊢;exact this)
 clear u
 refine⟨by omega,?_⟩
 refine gn (lo:=0) (n:=cs.length) (fun k δ=>∃(b:aaa) (X:Option D),δ=[some (.pin l (u6 c al e b w r)),some (.lst (cs.map jF)),some (.int (g:Int)),some (.int (pl.1:Int)),some (.int x),X,none,some (.pin al (dT low)),some (.pin e (dT high))]/\bK n m b/\ap (if k % 2=0 then x else -x) (cs.drop k) b=ap x cs t) ⟨t,none,rfl,hT,rfl⟩ ?_ ?_
 .rintro k δ N o ⟨b,X,rfl,O,I⟩ hN
  rw[M1]
  have L:cs[k]?=some cs[k]:=dz o
  obtain ⟨p,J⟩:∃p,cs[k]=p:=⟨_,rfl⟩
  rw[J] at L
  obtain ⟨pn,pm⟩:=TK p (MP L)
  have hrl:=O.row pn
  have NX:=O.1
  rw[M5 o,J] at I
  refine⟨l,_,b.map dI,rfl,rfl,by simp only[Mv,Me,Oi];omega,l,c.Filling,_,al,e,dT low,dT high,[dT b,dI w,dI r],rfl,rfl,rfl,?_⟩
  walk_at "go"
  refine lg L ?_
  walk_at "go"
  refine⟨p.1,(rowAt b p.1).map L3.D.int,by rw[cB (by omega) (by omega),Md],?_,cw,?_⟩
  .rw[Mc,show b[p.1]?=some (rowAt b p.1) by unfold rowAt;rw[gV,dz (by omega)];rfl];rfl
  walk_at "go"
  refine lg L ?_
  walk_at "go"
  refine aO (by omega) ?_
  rw[Md]
  walk_at "go"
  have Pa:∀v:Int,ap (if (k+1) % 2=0 then x else -x) (cs.drop (k+1)) (setCell b p.1 p.2 v)=ap x cs t->N [some (.pin l (L3.D.ins c.Filling ["low","high","table","wants","rooms"] [.raw (.ref al),.raw (.ref e),.lst ((b.map dI).set p.1 (.lst (((rowAt b p.1).map L3.D.int).set p.2 (.int v)))),dI w,dI r])),some (.lst (cs.map jF)),some (.int (g:Int)),some (.int (pl.1:Int)),some (.int x),some (.int (k:Int)),none,some (.pin al (dT low)),some (.pin e (dT high))]:=fun v hv=>by
   rw[qo,show L3.D.lst (((rowAt b p.1).set p.2 v).map L3.D.int)=dI ((rowAt b p.1).set p.2 v) from rfl,<- NO]
   exact hN _ ⟨setCell b p.1 p.2 v,_,rfl,O.setCell pn,hv⟩
  have Y4:∀y:Int,ap y (p::cs.drop (k+1)) b=ap (-y) (cs.drop (k+1)) (setCell b p.1 p.2 (cellAt b p.1 p.2+y)):=fun y=>rfl
  by_cases y:k % 2=0
  .rw[if_pos y,Y4] at I
   rw[if_pos (by omega)]
   refine lg L ?_
   walk_at "go"
   exact⟨p.2,by rw[cB (by omega) (by omega),Md],Pa _ (by rw[if_neg (by omega)];exact I)⟩
  .rw[if_neg y,Y4,Int.neg_neg] at I
   rw[if_neg (by omega)]
   refine lg L ?_
   walk_at "go"
   exact⟨p.2,by rw[cB (by omega) (by omega),Md],Pa _ (by rw[if_pos (by omega)];exact I)⟩
 .rintro δ ⟨b,X,rfl,O,I⟩
  rw[N9] at I
  replace I:b=ap x cs t:=I
  subst I
  walk_at "go"
  refine⟨l,_,w.map L3.D.int,rfl,rfl,cw,l,c.Filling,_,al,e,dT low,dT high,[dT (ap x cs t),dI w,dI r],rfl,rfl,rfl,?_⟩
  walk_at "go"
  refine aO (by omega) ?_
  rw[Md]
  refine⟨rfl,l,c.Filling,_,al,e,dT low,dT high,[dT (ap x cs t),dI w,dI r],rfl,rfl,rfl,?_⟩
  walk_at "go"
  refine⟨pl.1,by rw[cB (by omega) (by omega),Md],?_⟩
  rw[qo]
  refine⟨l,_,r.map L3.D.int,rfl,rfl,cw,l,c.Filling,_,al,e,dT low,dT high,[dT (ap x cs t),dI (w.set pl.1 (w.getD pl.1 0 - x)),dI r],rfl,rfl,rfl,?_⟩
  walk_at "go"
  refine aO (by omega) ?_
  rw[Md]
  refine⟨rfl,l,c.Filling,_,al,e,dT low,dT high,[dT (ap x cs t),dI (w.set pl.1 (w.getD pl.1 0 - x)),dI r],rfl,rfl,rfl,?_⟩
  walk_at "go"
  refine⟨g,by rw[cB (by omega) (by omega),Md],?_⟩
  rw[qo]
  exact hP _ _ _ Xw (G5 (by omega) (by omega) Zg)
def wa(a b:aab):aab:=(List.range a.length).map fun (i:Nat)=>a.getD i 0 - b.getD i 0
def zQ{a b:aab}:(wa a b).length=a.length:=by unfold wa;rw[mo,Mi]
def less_get{a b:aab}{i:Nat}(h:i<a.length):(wa a b).getD i 0=a.getD i 0 - b.getD i 0:=by
 unfold wa
 rw[gV,Mc,MS h];rfl
def cT(c:Cs):DSp:=fun ds P=>∃(b cols:aab) (low:aaa) (al e:Addr) (d:D) (n m:Nat),ds=[dI b,dI cols,.pin al (dT low),.pin e d]/\bK n m low/\b.length=n/\cols.length=m/\1<=n/\n<=50/\m<=50/\P (u6 c al e low (wa b (low.map List.sum)) (wa cols ((turned m low).map List.sum)))
def pj{c:Cs}:bo (cT c):=by
 intro xs P s k h
 obtain ⟨a1,a2,r,q,p,o,n,m,e,l,j,i,g,f,b,h⟩:=h
 exact⟨a1,a2,r,q,p,o,n,m,e,l,j,i,g,f,b,k _ h⟩
def qK{c:Cs}:∀ds P,cT c ds P->ds.length=4:=by
 intro ds P h
 obtain ⟨_,_,_,_,_,_,_,_,e,_⟩:=h
 rw[e];rfl
def DU{c:Cs}:∀ds P,(cT c) ds P->(cT c) ds fun d=>(∃ns dd,d=.ins c.Filling ns dd)/\P d:=by
 intro ds P h
 unfold cT at h ⊢
 obtain ⟨a1,a2,r,q,p,o,n,m,e,l,j,i,g,f,b,h⟩:=h;exact⟨a1,a2,r,q,p,o,n,m,e,l,j,i,g,f,b,⟨_,_,rfl⟩,h⟩
def sf{c:Cs}{f:Addr}{o:FuncData}(F:Bx K mg "Filling" c.Filling "Filling.__init__" gj dU f o)(e:Fns K mg c)(T:Txt K mg base)(xs:Exs K mg base c):br P w K mg base CX0 4 f o dU (spN K c.Filling (cT c)):=by
 obtain ⟨R,Z,r⟩:=e.h_copied_table
 have z:=lK (P:=P) (w:=w) r e T xs
 obtain ⟨O,Y,j⟩:=e.h_less_row
 have q:=rq (P:=P) (w:=w) j e T xs
 obtain ⟨M,X,t⟩:=e.h_sums_of_rows
 have B:=lO (P:=P) (w:=w) t e T xs
 obtain ⟨L,U,p⟩:=e.h_sums_of_columns
 have y:=ot (P:=P) (w:=w) p e T xs
 refine F.fn.ok rT (fun vs H Q E h=>HA qK h) (fun x A outer s H vs Q E g h=>?_)
 refine⟨_,(ak (iH (K:=K) rfl (pv 0) (pv 3) rfl) (ak (iH (K:=K) rfl (pv 0) (pv 4) rfl) (ak (iH (K:=K) rfl (pv 0) (wcl z g r (aa (pv 3) aj)) rfl) (ak (iH (K:=K) rfl (pv 0) (wcl q g j (aa (pv 1) (aa (wcl B g t (aa (pv 3) aj)) aj))) rfl) (av (iH (K:=K) rfl (pv 0) (wcl q g j (aa (pv 2) (aa (wcl y g p (aa (pv 3) aj)) aj))) rfl)))))),Lc (N:=i6) (pT xs.i_Filling.cl xs.n_Filling_low (ER.rawOf (ES.er (af 3))) (pT xs.i_Filling.cl xs.n_Filling_high (ER.rawOf (ES.er (af 4))) (pT xs.i_Filling.cl xs.n_Filling_table (aD (S:=cU) jR (ai (mT 3) au)) (pT xs.i_Filling.cl xs.n_Filling_wants (aD (S:=fm) ke (ai (ES.er (af 1)) (ai (EM.er (aD (S:=cW) jO (ai (mT 3) au))) au))) (HU xs.i_Filling.cl xs.n_Filling_rooms (aD (S:=fm) ke (ai (ES.er (af 2)) (ai (EM.er (aD (S:=cD) mK (ai (mT 3) au))) au)))))))) (fun ds P u=>?_) (by decide) (by decide +kernel) (by decide) h⟩
 obtain ⟨b,cols,low,al,i,d,n,m,rfl,l,I,J,n1,C,G,v⟩:=u
 rw[show aJ (i6.drop 1) [dI b,dI cols,.pin al (dT low),.pin i d]=[some (dI b),some (dI cols),some (.pin al (dT low)),some (.pin i d)] from rfl]
 have l1:=l.1
 walk_at "go"
 refine⟨al,_,rfl,?_⟩
 walk_at "go"
 refine⟨i,_,rfl,?_⟩
 walk_at "go"
 refine⟨low,rfl,by omega,?_⟩
 walk_at "go"
 refine⟨low,rfl,by omega,?_⟩
 refine⟨b,_,rfl,by rw[mo];omega,by omega,?_⟩
 walk_at "go"
 refine⟨low,n,m,rfl,l,n1,by omega,by omega,?_⟩
 refine⟨cols,_,rfl,by unfold turned;rw[mo,mo,Mi];omega,by omega,?_⟩
 exact v
def uD{c:aab}{l:aac}(p:c.Perm (l.map fun (x:Nat)=>(x:Int)))(o:c.Pairwise (·<=·))(nd:l.Nodup):∃R:aac,c=R.map (fun (x:Nat)=>(x:Int))/\R.Perm l/\R.Pairwise (· < ·):=by
 have m:∀x∈c,0<=x:=fun x f=>by
  obtain ⟨y,_,rfl⟩:=Mh.mp (p.mem_iff.mp f)
  omega
 have e:(c.map Int.toNat).map (fun (x:Nat)=>(x:Int))=c:=by
  rw[MB]
  conv=>rhs;rw[<- List.map_id c]
  exact Pn fun x f=>by show ((x.toNat:Nat):Int)=x;have:=m x f;omega
 have g:(c.map Int.toNat).Perm l:=by
  have:=p.map Int.toNat
  rw[MB] at this
  rw [show l.map (Int.toNat ∘ fun (x : Nat) => (x : Int)) = l by conv => rhs; rw [<- List.map_id l]
                                                                 exact Pn fun x _=>rfl] at this
  exact this
 refine⟨c.map Int.toNat,e.symm,g,?_⟩
 have j:(c.map Int.toNat).Nodup:=g.nodup_iff.mpr nd
 have i:(c.map Int.toNat).Pairwise (·<=·):=List.pairwise_map.mpr (o.imp fun {a b} h=>by omega)
 exact (i.and j).imp fun {a b} h=>by omega
def DP{n m:Nat}{c cols:aab}{low high:aaa}{j:Nat}(e:bK n m low)(hj:j<m)(h:cols.getD j 0<jH low j):Cut n m c cols low high [] [j]:=by
 unfold Cut
 have e1:sN n (fun i=>if i∈([]:aac) then c.getD i 0 else 0)=0:=by
  rw[aZ (g:=fun _=>0) fun i _=>if_neg Mr,bE]
 have e2:sN m (fun b=>if b∈[j] then cols.getD b 0 else 0)=cols.getD j 0:=by
  rw[<- yj (f:=fun b=>cols.getD b 0) (by simp) (by simpa using hj)];simp
 have l:sN n (fun i=>sN m fun b=>(if i∈([]:aac)/\b∉[j] then cellAt high i b else 0) - (if i∉([]:aac)/\b∈[j] then cellAt low i b else 0))=0 - jH low j:=by
  rw[si e]
  conv=>rhs;rw[<- bE (n:=n)]
  rw[<- tD]
  refine aZ fun i _=>?_
  have:sN m (fun b=>(if i∈([]:aac)/\b∉[j] then cellAt high i b else 0) - (if i∉([]:aac)/\b∈[j] then cellAt low i b else 0))=sN m (fun _=>0) - sN m (fun b=>if b∈[j] then cellAt low i b else 0):=by
   rw[<- tD]
   refine aZ fun b _=>?_
   rw[if_neg (fun z=>Mr z.1)]
   congr 1
   by_cases z:b∈[j]
   .rw[if_pos z,if_pos ⟨Mr,z⟩]
   .rw[if_neg z,if_neg (fun y=>z y.2)]
  rw[this,bE,<- yj (f:=fun b=>cellAt low i b) (by simp) (by simpa using hj)]
  simp
 rw[e1,e2,l];omega
def CW{a b:Int}:eqV (V.int a) (V.int b)=true↔a=b:=by
 show decide (a=b)=true↔_
 rw[decide_eq_true_eq]
theorem zd{M:Int}:∀{l:aab},M∈l->∃j,j<l.length/\l.getD j 0=M/\∀k,k<j->l.getD k 0≠M
 |[],h=>nomatch h
 |x::l,h=>by
  by_cases e:x=M
  .exact⟨0,by simp,e,fun k b=>by omega⟩
  .obtain ⟨j,g,f,c⟩:=zd (l:=l) ((Mb.mp h).resolve_left (fun z=>e z.symm))
   refine⟨j+1,by simpa using g,f,fun k b=>?_⟩
   cases k with
   |zero=>exact e
   |succ k=>exact c k (by omega)
structure Bt(n m:Nat)(rows cols:aab)(low high t:aaa):Prop where
 rt:bK n m t
 bd:∀i j,i<n->j<m->cellAt low i j<=cellAt t i j/\cellAt t i j<=cellAt high i j
 rs:∀i,i<n->js t i=rows.getD i 0
 cs:∀j,j<m->jH t j=cols.getD j 0
structure Ct(n m:Nat)(rows cols:aab)(low high:aaa)(R Cs:aac):Prop where
 up1:R.Pairwise (· < ·)
 up2:Cs.Pairwise (· < ·)
 l1:∀i∈R,i<n
 l2:∀j∈Cs,j<m
 cut:Cut n m rows cols low high R Cs
def jM(c:Cs):DSO:=fun x g f P=>∃(low high:aaa) (w r b cols:aab) (al e:Addr) (n m:Nat),x=u6 c al e low w r/\g=(al,dT low)/\f=(e,dT high)/\bK n m low/\bK n m high/\Low n m low high/\1<=n/\n<=50/\1<=m/\m<=50/\b.length=n/\cols.length=m/\b.sum=cols.sum/\w.length=n/\r.length=m /\
 (∀i,i<n->b.getD i 0=w.getD i 0+js low i)/\(∀j,j<m->cols.getD j 0=r.getD j 0+jH low j) /\
 (∀t,Bt n m b cols low high t->P (.tup [.str "table",dT t]))/\∀R Cs,Ct n m b cols low high R Cs->P (.tup [.str "cut",dN R,dN Cs])
def mh{c:Cs}:F8 (jM c):=by
 intro x O M P Q k h
 obtain ⟨a1,a2,G,F,E,B,y,v,u,L,e1,e2,s,r,q,p,o,n,m,l,j,i,H,I,J,g,f,e,b⟩:=h
 exact⟨a1,a2,G,F,E,B,y,v,u,L,e1,e2,s,r,q,p,o,n,m,l,j,i,H,I,J,g,f,fun t z=>k _ (e t z),fun R C z=>k _ (b R C z)⟩
def ok_Filling_outcome{c:Cs}{f:Addr}{fd:FuncData}(F:ql K c.Filling "outcome" "Filling.outcome" dA cE f fd)(I:Fns K mg c)(T:Txt K mg base)(xs:Exs K mg base c):br P w K mg base CX0 5 f fd cE (spO K (jM c)):=by
 obtain ⟨f0,d0,Y⟩:=I.h_Reach_init
 have Q3:=va (P:=P) (w:=w) Y I T xs
 obtain ⟨f1,d1,OA⟩:=I.h_Filling_pour
 have Qv:=rO (P:=P) (w:=w) OA I T xs
 obtain ⟨f2,d2,Ph⟩:=I.h_Reach_way
 have Rt:=xD (P:=P) (w:=w) Ph I T xs
 refine F.fn.ok jm (fun vs H Q E h=>HK h) (fun cdv A outer s H vs Q E hr h=>?_)
 refine⟨_,rC [2,3] (fun i hi x hx=>by
  rcases (show i=2\/i=3 by simpa using hi) with rfl|rfl<;>(obtain rfl:=MH hx;rfl)) ((ak (bB (aM sG (aQ (p9 (K:=K) rfl rfl) (by rfl) T.min_ boot_min (aa (aY (K:=K) rfl (pv 0) rfl) aj)) aq (aW _)) (av (aB (c4 (aa cM (aa (bR aj) (aa (bR (aa (mi MG PySem.F.slot_list_index PySem.F.type_list_index FJ (aY (K:=K) rfl (pv 0) rfl) (aa (aQ (p9 (K:=K) rfl rfl) (by rfl) T.min_ boot_min (aa (aY (K:=K) rfl (pv 0) rfl) aj)) aj)) aj)) aj)))))) aV) (ak (uM PassesOwn.never (aM zE (aQ (D3 (K:=K) rfl rfl) (by rfl) T.max_ boot_max (aa (aY (K:=K) rfl (pv 0) rfl) aj)) aq (aW _)) (ak (wst 1 jm.nd (BX Y.mkk Q3 (hr.mono (by decide)) rfl Y.mg Y.bd .nil tZ (aa (pv 0) aj))) (ak (bB (aM FR (aY (K:=K) rfl (pv 1) rfl) lq (aW _)) (av (aB (c4 (aa cM (aa (aQ (oS rfl) (by rfl) T.sorted_ boot_sorted (aa (aY (K:=K) rfl (pv 1) rfl) aj)) (aa (aQ (oS rfl) (by rfl) T.sorted_ boot_sorted (aa (aY (K:=K) rfl (pv 1) rfl) aj)) aj)))))) aV) (av (cZ (CU (pv 0) xs.i_Filling.cl OA.mt Qv (hr.mono (by decide)) OA.bd .nil tZ (aa (y8 (pv 1) xs.i_Reach.cl Ph.mt Rt (hr.mono (by decide)) Ph.bd .nil tZ) aj))))))) (av (aB (c4 (aa cM (aa (aY (K:=K) rfl (pv 0) rfl) aj)))))))),IU (Γn:=[]) (N:=jN) 1 (ax (bP (B3 0 2 3 (aL (EM.er (ay nh (EM.er (aS AF (ai (ES.er (bW ["low","high","table","wants","rooms"] 4 xs.i_Filling.cl xs.n_Filling_rooms (af 0))) au))) (EM.er ar))))) (aI (M:=[]) (xU 0 2 3 (fo (aE cS (aE (bS bf) (aE (bS (aE (Ep (ES.er (bW ["low","high","table","wants","rooms"] 4 xs.i_Filling.cl xs.n_Filling_rooms (af 0))) (EM.er (aS AF (ai (ES.er (bW ["low","high","table","wants","rooms"] 4 xs.i_Filling.cl xs.n_Filling_rooms (af 0))) au)))) bf)) bf)))))) aX) (ax (tE (B3 0 2 3 (aL (EM.er (ay nh (EM.er (aS Kb (ai (ES.er (bW ["low","high","table","wants","rooms"] 3 xs.i_Filling.cl xs.n_Filling_wants (af 0))) au))) (EM.er ar))))) (ax (ST.post (Γn:=[0]) (aK 1 (EM.es (xU 0 2 3 (FX sg ub (ai (ES.er (af 0)) au)))))) (ax (bP (aL (EM.er (ay Jy (ES.er (bW ["rows","columns","goal"] 2 xs.i_Reach.cl xs.n_Reach_goal (af 1))) (EM.er lx)))) (aI (M:=[]) (fo (aE cS (aE (aS CB (ai (ES.er (bW ["rows","columns","goal"] 0 xs.i_Reach.cl xs.n_Reach_rows (af 1))) au)) (aE (aS CB (ai (ES.er (bW ["rows","columns","goal"] 1 xs.i_Reach.cl xs.n_Reach_columns (af 1))) au)) bf))))) aX) (HI 0 2 3 oF (Hy (EM.es (B9 (C:=c.Reach) ["rows","columns","goal"] um (ES.er (af 1)) au)) Kw))))) (aI (M:=[0]) (fo (dD cS (dD (HZ 0 ["low","high","table","wants","rooms"] 2 xs.i_Filling.cl xs.n_Filling_table) bf)))))) rfl rfl (fun v x g1 g2 P hS=>?_) h⟩
 obtain ⟨low,high,w,r,u,cols,al,l,n,m,rfl,rfl,rfl,U,hH,TQ,n1,S,m1,m5,lr,lc,P7,lw,ZY,hrs,Tn,hT,YL⟩:=hS
 rw[show uP 1 v (u6 c al l low w r) [] (al,dT low) (l,dT high)=[some (.pin v (u6 c al l low w r)),none,some (.pin al (dT low)),some (.pin l (dT high))] from rfl]
 refine⟨v,c.Filling,_,al,l,dT low,dT high,[dT low,dI w,dI r],rfl,rfl,rfl,?_⟩
 walk_at "go"
 intro M hM RT
 have Zt:∀j,j<m->M<=r.getD j 0:=fun j hj=>RT _ (by rw[gV,dz (by omega)];exact MJ _)
 by_cases O:M<0
 .rw[if_pos O]
  refine⟨v,c.Filling,_,al,l,dT low,dT high,[dT low,dI w,dI r],rfl,rfl,rfl,?_⟩
  walk_at "go"
  refine mE rfl ⟨cw,by omega,fun M' YJ W2=>?_⟩
  obtain ⟨j,hj,ej,hf⟩:=zd YJ
  have hMM:=W2 M hM
  have at_:∀k,k<r.length->(r.map L3.D.int)[k]?=some (.int (r.getD k 0)):=fun k G=>by
   rw[Mc,dz G,gV,dz G];rfl
  refine⟨j,⟨_,at_ j hj,?_⟩,fun k z G ez=>?_,by decide,by decide,?_⟩
  .rw[ej];exact CW.mpr rfl
  .rw[at_ k (by omega)] at ez
   cases ez
   exact Bool.eq_false_iff.mpr fun q=>hf k G (CW.mp q)
  .have:=Tn j (by omega)
   exact YL [] [j] ⟨.nil,List.pairwise_singleton _ _,fun i hi=>(nomatch hi),fun q hq=>by cases Gc.mp hq;omega,DP U (by omega) (by omega)⟩
 rw[if_neg O]
 have Zj:Fl.St n m u cols low high low w r:=⟨U,lw,ZY,fun i j hi hj=>⟨OH _,TQ i j hi hj⟩,hrs,Tn,fun j hj=>by have:=Zt j hj;omega,fun i hi _ j hj=>rfl⟩
 refine⟨fun μ δ=>∃(t:aaa) (w r:aab) (o1:Option D),μ=mu w/\δ=[some (.pin v (u6 c al l t w r)),o1,some (.pin al (dT low)),some (.pin l (dT high))]/\Fl.St n m u cols low high t w r,⟨_,low,w,r,none,rfl,rfl,Zj⟩,?_⟩
 rintro μ δ ⟨t,w,r,o1,rfl,rfl,y⟩
 have lw:=y.wl
 refine⟨v,c.Filling,_,al,l,dT low,dT high,[dT t,dI w,dI r],rfl,rfl,rfl,?_⟩
 walk_at "go"
 intro M hM R8
 have Zf:∀i,i<n->w.getD i 0<=M:=fun i hi=>R8 _ (by rw[gV,dz (by omega)];exact MJ _)
 by_cases O:0<M
 .rw[if_pos O]
  obtain ⟨k,G,ek⟩:∃k,k<n/\w.getD k 0=M:=by
   obtain ⟨k,G,e⟩:=Oc hM
   exact⟨k,by omega,by rw[gV,dz G];exact e⟩
  refine⟨v,c.Filling,_,al,l,dT low,dT high,[dT t,dI w,dI r],rfl,rfl,rfl,?_⟩
  walk_at "go"
  refine⟨low,high,t,w,r,n,m,rfl,U,hH,y.rt,y.wl,y.rl,n1,S,m1,m5,fun Z as bs L rk ck B b J hg=>?_⟩
  cases L with
  |none =>
   have Yu:=hg rfl
   walk_at "go"
   have la:(kys as).length<=50:=ME (jE b.na fun p hp=>(b.la p hp).1) S
   have lb:(kys bs).length<=50:=ME (jE b.nb fun p hp=>(b.lb p hp).1) m5
   refine⟨(kys as).map fun (p:Nat)=>(p:Int),CJ,by rw[mo];omega,fun ms p1 p2=>?_⟩
   refine⟨(kys bs).map fun (p:Nat)=>(p:Int),CJ,by rw[mo];omega,fun ms2 q1 q2=>?_⟩
   obtain ⟨R,rfl,rp,ru⟩:=uD p1 p2 b.na
   obtain ⟨Cs,rfl,X,cu⟩:=uD q1 q2 b.nb
   walk_at "go"
   refine YL R Cs ⟨ru,cu,fun i hi=>(b.la i (rp.mem_iff.mp hi)).1,fun j hj=>(b.lb j (X.mem_iff.mp hj)).1,JK y (fun i hi hw=>rp.mem_iff.mpr (b.st i hi hw)) (fun i hi=>?_) (fun i hi j hj NX=>X.mem_iff.mpr (J.cr i (rp.mem_iff.mp hi) (by rw[Yu];exact Mr) j hj NX)) (fun j hj=>J.gl j (X.mem_iff.mp hj)) (fun j hj i hi NX=>rp.mem_iff.mpr (J.cc j (X.mem_iff.mp hj) i hi NX)) k G (by omega)⟩
   have QI:=rp.mem_iff.mp hi
   refine⟨(b.la i QI).1,?_⟩
   obtain ⟨o,ho⟩:=Bm QI
   rcases b.pa i o ho with z|⟨c',_,z2,_,z4⟩
   .exact .inl z.2
   .exact .inr ⟨c',(b.lb c' z2).1,z4⟩
  |some g =>
   walk_at "go"
   refine⟨v,_,_,al,l,dT low,dT high,rfl,rfl,rfl,by decide +kernel,?_⟩
   walk_at "go"
   refine⟨low,high,t,w,as,bs,rk,ck,n,m,B,g,rfl,b,J.gl.1,S,fun ps hW=>?_⟩
   refine⟨low,high,t,w,r,u,cols,al,l,g,n,m,ps,rfl,rfl,rfl,rfl,U,hH,y,hW,J.gl.2,S,fun t' w' r' RQ RS=>?_⟩
   exact⟨mu w',RS,t',w',r',_,rfl,rfl,RQ⟩
 .rw[if_neg O]
  walk_at "go"
  refine⟨v,_,dT t,rfl,rfl,?_⟩
  walk_at "go"
  have fl:=filled y lr lc P7 fun i hi=>by have:=Zf i hi;omega
  exact hT t ⟨y.rt,y.bd,fl.1,fl.2⟩
def iA(c:Cs):DSX:=fun ds P R=>∃(b cols:aab) (low high:aaa) (n m:Nat),ds=[dI b,dI cols,dT low,dT high]/\bK n m low/\bK n m high/\1<=n/\n<=50/\1<=m/\m<=50/\b.length=n/\cols.length=m /\
 (¬ Low n m low high->R c.NoBounds)/\(Low n m low high->b.sum≠cols.sum->P (.tup [.str "unlike",.int b.sum,.int cols.sum])) /\
 (Low n m low high->b.sum=cols.sum->∀t,Bt n m b cols low high t->P (.tup [.str "table",dT t]))/\(Low n m low high->b.sum=cols.sum->∀U V,Ct n m b cols low high U V->P (.tup [.str "cut",dN U,dN V]))
def jd{c:Cs}:j4 (iA c):=by
 intro xs P F R E k b h
 obtain ⟨a1,a2,v,u,s,r,e,p,o,n,m,l,j,i,g,f,x,B,C⟩:=h
 exact⟨a1,a2,v,u,s,r,e,p,o,n,m,l,j,i,g,fun z=>b _ (f z),fun z y=>k _ (x z y),fun z y t q=>k _ (B z y t q),fun z y U V q=>k _ (C z y U V q)⟩
def pJ{c:Cs}:∀ds P R,iA c ds P R->ds.length=4:=by
 intro ds P R h
 obtain ⟨_,_,_,_,_,_,e,_⟩:=h
 rw[e];rfl
def p7{c:Cs}{f:Addr}{C:FuncData}(F:FnAt K mg "table_between" fg c7 f C)(g:Fns K mg c)(T:Txt K mg base)(xs:Exs K mg base c):br P w K mg base (CXR P w) 6 f C c7 (spX K (iA c)):=by
 obtain ⟨f0,d0,q⟩:=g.h_check_bounds
 have Z:=rP (P:=P) (w:=w) q g T xs
 obtain ⟨f1,d1,y⟩:=g.h_Filling_outcome
 have P2:=ok_Filling_outcome (P:=P) (w:=w) y g T xs
 obtain ⟨f2,d2,p⟩:=g.h_Filling_init
 have Y:=sf (P:=P) (w:=w) p g T xs
 refine F.fn.okX qj (fun vs H Q E h=>xy pJ h) (fun X A outer s H vs Q E x h=>?_)
 refine⟨_,(ak (cZ (mZ Z (x.mono (by decide)) rfl q.mg q.fn.kp q.bd .nil A1 (PA.nox (aa (pv 2) (aa (pv 3) aj))))) (PSs.nox (ak (bB (aM rA (aQ (cQ (K:=K) rfl rfl) (by rfl) T.sum_ boot_sum (aa (pv 0) aj)) (aQ (cQ (K:=K) rfl rfl) (by rfl) T.sum_ boot_sum (aa (pv 1) aj)) (aW _)) (av (aB (c4 (aa cM (aa (aQ (cQ (K:=K) rfl rfl) (by rfl) T.sum_ boot_sum (aa (pv 0) aj)) (aa (aQ (cQ (K:=K) rfl rfl) (by rfl) T.sum_ boot_sum (aa (pv 1) aj)) aj)))))) aV) (av (aB (y8 (BX p.mkk Y (x.mono (by decide)) rfl p.mg p.bd .nil tZ (aa (pv 0) (aa (pv 1) (aa (pv 2) (aa (pv 3) aj))))) xs.i_Filling.cl y.mt P2 (x.mono (by decide)) y.bd .nil tZ)))))),yl (Γn:=[]) (N:=ir) (fun R=>(kX (Il pM (ai (ES.er (af 2)) (ai (ES.er (af 3)) au))) (ST.sx (ax (bP (aL (EM.er (ay yC (EM.er (aS l7 (ai (ES.er (af 0)) au))) (EM.er (aS l7 (ai (ES.er (af 1)) au)))))) (aI (M:=[]) (fo (aE cS (aE (aS l7 (ai (ES.er (af 0)) au)) (aE (aS l7 (ai (ES.er (af 1)) au)) bf))))) aX) (aI (M:=[]) (IL pj mh)))))) (fun ds P R O=>?_) h⟩
 obtain ⟨b,cols,low,high,n,m,rfl,l,B,n1,r,I,t,u,v,S,J,L,U⟩:=O
 rw[show aJ ir [dI b,dI cols,dT low,dT high]=[some (dI b),some (dI cols),some (dT low),some (dT high)] from rfl]
 walk_at "go"
 refine⟨low,high,n,m,rfl,l,B,r,t,fun o=>?_,fun hb=>S hb⟩
 walk_at "go"
 by_cases e:b.sum=cols.sum
 .rw[if_neg (fun z=>z e)]
  refine⟨dI b,dI cols,dT low,dT high,rfl,rfl,rfl,rfl,rfl,rfl,fun a2 G=>?_⟩
  refine⟨b,cols,low,a2,G,dT high,n,m,rfl,l,u,v,n1,r,t,⟨_,_,rfl,by decide +kernel⟩,?_⟩
  have l1:=l.1
  refine⟨low,high,_,_,b,cols,a2,G,n,m,rfl,rfl,rfl,l,B,o,n1,r,I,t,u,v,e,by rw[zQ];exact u,by rw[zQ];exact v,fun i hi=>?_,fun j hj=>?_,L o e,U o e⟩
  .rw[less_get (by omega)]
   have:(low.map List.sum).getD i 0=js low i:=by
    unfold js rowAt
    rw[gV,Mc,dz (by omega),gV,dz (by omega)];rfl
   rw[this];omega
  .rw[less_get (by omega)]
   have:((turned m low).map List.sum).getD j 0=jH low j:=by
    unfold turned jH
    rw[gV,Mc,Mc,MS hj];rfl
   rw[this];omega
 .rw[if_pos e]
  walk_at "go"
  exact J o e
def reach(ns:aab)(m:Int):Int:=((ns.filter fun n=>decide (m<=n)).length:Nat)
def cL:DSp:=fun ds P=>∃ns m,ds=[dI ns,.int m]/\ns.length<=1000/\P (.int (reach ns m))
def nz:bo cL:=by
 intro xs P b k h
 unfold cL at h ⊢
 grind
def nN:∀ds P,cL ds P->ds.length=2:=by
 intro ds P h
 obtain ⟨_,_,e,_⟩:=h
 rw[e];rfl
def pW{c:Cs}{f:Addr}{b:FuncData}(F:FnAt K mg "how_many_reach" cO cV f b)(r:Fns K mg c)(T:Txt K mg base)(xs:Exs K mg base c):br P w K mg base CX0 1 f b cV (spP K cL):=by
 refine F.fn.ok oP (fun vs H Q E h=>aR nN h) (fun o A outer s H vs Q E q h=>?_)
 refine⟨_,(av (aB (wln K T.len_ (w8 rfl (bt.of (sc0:=(aw cO)) (tn:=["number"]) (cap:=["level"]) (idx:=[1]) (by decide +kernel) rfl rfl) (wil K (pv 0)) (ma.name (by decide)) (fun _ _ _ _ _=>gO (i:=0) (bU (l:=["number","level"]) (by decide +kernel)) rfl (by walk_at "o") (by first|exact .inl rfl|exact .inr rfl)) (fun _ _ _ _ _=>yf (aM Je (pv 0) (pv 1) (aW _))) (fun _ _ _ _ _=>(pv 0)) (by intro _;rfl))))),bb (Γn:=[]) (N:=gI) (aI (M:=[]) (aS bI (ai (EM.er (sy (bL (af 0)) (aN 0) (aL (EM.er (ay nh (ES.er (af 0)) (ES.er (af 1))))) (ER.aP (ES.er (af 0))))) au))) (fun ds P e=>?_) h⟩
 obtain ⟨ns,m,rfl,hl,j⟩:=e
 rw[show aJ gI [dI ns,.int m]=[some (dI ns),some (.int m)] from rfl]
 walk_at "v"
 refine Ao (ns:=ns) (p:=fun n=>decide (m<=n)) (g:=L3.D.int) (fun R h=>h) hl (fun n hn R h=>?_) ?_
 .walk_at "vb"
  by_cases c:m<=n
  .rw[decide_eq_true c] at h;rw[if_pos c];exact h
  .rw[decide_eq_false c] at h;rw[if_neg c];exact h
 .rw[uN,mo];exact j
def fO(ns:aab)(m:Nat):aab:=(List.range m).map fun (k:Nat)=>reach ns (1+(k:Int))
def kI:DSp:=fun ds P=>∃(ns:aab) (m:Nat),ds=[dI ns,.int m]/\ns.length<=1000/\m<=8/\P (dI (fO ns m))
def yd:bo kI:=by
 intro xs P b k h
 unfold kI at h ⊢
 grind
def yY:∀ds P,kI ds P->ds.length=2:=by
 intro ds P h
 obtain ⟨_,_,e,_⟩:=h
 rw[e];rfl
def A2{c:Cs}{f:Addr}{j:FuncData}(F:FnAt K mg "heap_of" kM kD f j)(o:Fns K mg c)(T:Txt K mg base)(xs:Exs K mg base c):br P w K mg base CX0 2 f j kD (spP K kI):=by
 obtain ⟨u,v,l⟩:=o.h_how_many_reach
 have t:=pW (P:=P) (w:=w) l o T xs
 refine F.fn.ok Bj (fun vs H Q E h=>aR yY h) (fun r A outer s H vs Q E p h=>?_)
 refine⟨_,(av (aB (wco (aw kM) "level" ["sums"] [0] (Dh rfl T.range_ (aa aq (aa (aH bN (pv 1) aq) aj))) (fun _ _ _ _ _=>(wcl t p l (aa (pv 1) (aa (pv 0) aj))))))),bb (Γn:=[]) (N:=qc) (aI (M:=[]) (bw (I0 (ai (EM.er ar) (ai (EM.er (ay bJ (ES.er (af 1)) (EM.er ar))) au))) (aN 0) (aD (S:=cL) nz (ai (ES.er (af 1)) (ai (ES.er (af 0)) au))))) (fun ds P q=>?_) h⟩
 obtain ⟨ns,m,rfl,hl,hm,b⟩:=q
 rw[show aJ qc [dI ns,.int m]=[some (dI ns),some (.int m)] from rfl]
 walk_at "v"
 have e:(((m:Int)+1) - 1).toNat=m:=by omega
 refine gk (lo:=1) (n:=m) (g:=fun (k:Nat)=>.int (reach ns (1+(k:Int)))) (fun R h=>?_) (by omega) (fun i hi R h=>?_) ?_
 .walk_at "v"
  rw[e]
  exact⟨by omega,h⟩
 .walk_at "vb"
  exact⟨ns,_,rfl,hl,h⟩
 .unfold fO at b;rw[dI,MB] at b;exact b
def Sg(m:Nat)(f:Nat->Int):Int:=((List.range m).map f).sum
def wI{f:Nat->Int}:Sg 0 f=0:=rfl
def dy{m:Nat}{f:Nat->Int}:Sg (m+1) f=Sg m f+f m:=by
 unfold Sg
 rw[List.range_succ,MC,List.sum_append]
 simp
def c9{m:Nat}{f g:Nat->Int}(h:∀j,j<m->f j=g j):Sg m f=Sg m g:=by
 unfold Sg
 exact congrArg List.sum (Pn fun j hj=>h j (Mq.mp hj))
theorem jY{f g:Nat->Int}:∀{m:Nat},Sg m (fun j=>f j+g j)=Sg m f+Sg m g
 |0=>rfl
 |m+1=>by rw[dy,dy,dy,jY];omega
theorem pk{f g:Nat->Int}:∀{m:Nat},(∀j,j<m->f j<=g j)->Sg m f<=Sg m g
 |0,_=>OH _
 |m+1,h=>by
  rw[dy,dy]
  have:=pk (m:=m) fun j hj=>h j (by omega)
  have:=h m (by omega)
  omega
theorem eM:∀{m:Nat},Sg m (fun _=>0)=0
 |0=>rfl
 |m+1=>by rw[dy,eM];rfl
theorem n0{f:Nat->Int}{p:Nat}{v:Int}:∀{m:Nat},p<m->Sg m (fun j=>if j=p then v else f j)=Sg m f+v - f p
 |0,h=>by omega
 |m+1,h=>by
  rw[dy,dy]
  by_cases e:p=m
  .subst e
   rw[if_pos rfl,c9 (g:=f) fun j hj=>if_neg (by omega)]
   omega
  .rw[if_neg (fun z=>e z.symm),n0 (by omega)]
   omega
def bV(m:Nat):aab->(Nat->Int)->Prop
 |[],c=>∀j,j<m->c j=0
 |r::rs,c=>∃b:Nat->Int,(∀j,j<m->b j=0\/b j=1)/\Sg m b=r/\bV m rs fun j=>c j - b j
theorem bV.congr{m:Nat}:∀{rs:aab}{c f:Nat->Int},bV m rs c->(∀j,j<m->c j=f j)->bV m rs f
 |[],c,f,h,e=>fun j hj=>by rw[<- e j hj];exact h j hj
 |r::rs,c,f,⟨b,l,i,g⟩,e=>⟨b,l,i,g.congr fun j hj=>by rw[e j hj]⟩
theorem bV.swap{m:Nat}{g f:Int}{rs:aab}{c:Nat->Int}:bV m (g::f::rs) c->bV m (f::g::rs) c
 |⟨e,o,n,b,l,i,h⟩=>⟨b,l,i,e,o,n,h.congr fun j _=>by show c j - e j - b j=c j - b j - e j;omega⟩
theorem bV.perm{m:Nat}{rs e:aab}(p:rs.Perm e):∀{c:Nat->Int},bV m rs c->bV m e c:=by
 induction p with
 |nil=>exact fun h=>h
 |cons x _ ih=>exact fun ⟨b,i,g,f⟩=>⟨b,i,g,ih f⟩
 |swap x y l=>exact fun h=>h.swap
 |trans _ _ j n=>exact fun h=>n (j h)
theorem bV.nonneg{m:Nat}:∀{rs:aab}{c:Nat->Int},bV m rs c->∀j,j<m->0<=c j
 |[],c,h,j,hj=>by rw[h j hj];omega
 |r::rs,c,⟨b,g,i,f⟩,j,hj=>by
  have:=bV.nonneg f j hj
  rcases g j hj with e|e<;>omega
theorem bV.sums{m:Nat}:∀{rs:aab}{c:Nat->Int},bV m rs c->rs.sum=Sg m c
 |[],c,h=>by rw[c9 (g:=fun _=>0) h,eM];rfl
 |r::rs,c,⟨b,i,f,e⟩=>by
  rw[MF,e.sums,<- f,<- jY]
  exact c9 fun j _=>by omega
theorem bV.head{m:Nat}{ys:aab}:∀{xs:aab}{c:Nat->Int},bV m (xs++ys) c->xs.sum<=Sg m fun j=>min (c j) (xs.length:Int)
 |[],c,h=>by
  have:Sg m (fun _=>0)<=Sg m fun j=>min (c j) (([]:aab).length:Int):=pk fun j hj=>by
   have:=h.nonneg j hj
   simp only[Oi]
   omega
  rw[eM] at this
  exact this
 |r::xs,c,⟨b,i,g,f⟩=>by
  have ih:=bV.head (xs:=xs) f
  rw[MF,<- g]
  refine Int.le_trans (Int.add_le_add_left ih _) ?_
  rw[<- jY]
  refine pk fun j hj=>?_
  rw[Me]
  rcases i j hj with e|e<;>rw[e]<;>omega
theorem bV.move{m p q:Nat}(g:p<m)(f:q<m)(s:p≠q):∀{rs:aab}{c:Nat->Int},bV m rs c->c q<c p->bV m rs fun j=>if j=p then c p - 1 else if j=q then c q+1 else c j
 |[],c,h,u=>by have:=h p g;have:=h q f;omega
 |r::rs,c,⟨b,i,n,l⟩,u=>by
  by_cases hb:b p=1/\b q=0
  .refine⟨fun j=>if j=p then 0 else if j=q then 1 else b j,fun j hj=>?_,?_,l.congr fun j hj=>?_⟩
   .by_cases e1:j=p
    .simp only[if_pos e1];exact .inl trivial
    by_cases e2:j=q
    .simp only[if_neg e1,if_pos e2];exact .inr trivial
    .simp only[if_neg e1,if_neg e2];exact i j hj
   .rw[n0 g,n0 f,n,if_neg s]
    omega
   .by_cases e1:j=p
    .subst e1
     simp only[if_true];omega
    by_cases e2:j=q
    .subst e2
     simp only[if_neg e1,if_true];omega
    .simp only[if_neg e1,if_neg e2]
  .have t:c q - b q<c p - b p:=by
    rcases i p g with e|e<;>rcases i q f with o|o<;>first|omega|exact absurd ⟨e,o⟩ hb
   refine⟨b,i,n,(bV.move g f s l t).congr fun j hj=>?_⟩
   by_cases e1:j=p
   .subst e1
    simp only[if_true];omega
   by_cases e2:j=q
   .subst e2
    simp only[if_neg e1,if_true];omega
   .simp only[if_neg e1,if_neg e2]
def ind(T:Nat->Bool)(j:Nat):Int:=if T j=true then 1 else 0
def Jj{T:Nat->Bool}{j:Nat}:ind T j=0\/ind T j=1:=by unfold ind;split<;>simp
theorem bV.Ka{m:Nat}{rs:aab}{c:Nat->Int}{r:Int}{T:Nat->Bool}(I:Sg m (ind T)=r)(H:∀j k,j<m->k<m->T j=true->T k=false->c k<=c j):∀(d:Nat) (b:Nat->Int),(∀j,j<m->b j=0\/b j=1)->Sg m b=r->bV m rs (fun j=>c j - b j) ->
  Sg m (fun j=>if T j=true/\b j=0 then 1 else 0)=(d:Int)->bV m rs fun j=>c j - ind T j:=by
 have y:∀{f:Nat->Int}{m:Nat},(∀j,j<m->0<=f j)->0<Sg m f->∃j,j<m/\0<f j:=by
  intro f m
  induction m with
  |zero=>intro _ h;exact absurd h (by rw[wI];omega)
  |succ m ih =>
   intro s h
   by_cases e:0<f m
   .exact⟨m,by omega,e⟩
   .rw[dy] at h
    obtain ⟨j,l,i⟩:=ih (fun j hj=>s j (by omega)) (by omega)
    exact⟨j,by omega,i⟩
 have C:∀{f:Nat->Int}{m:Nat},(∀j,j<m->0<=f j)->Sg m f=0->∀j,j<m->f j=0:=by
  intro f m
  induction m with
  |zero=>intro _ _ j hj;omega
  |succ m ih =>
   intro s h j hj
   rw[dy] at h
   have l:0<=Sg m f:=by
    have:=pk (m:=m) (f:=fun _=>0) (g:=f) fun j hj=>s j (by omega)
    rw[eM] at this;exact this
   have i:=s m (by omega)
   by_cases e:j=m
   .subst e;omega
   .exact ih (fun j hj=>s j (by omega)) (by omega) j (by omega)
 have x:∀b:Nat->Int,(∀j,j<m->b j=0\/b j=1)->Sg m b=r->Sg m (fun j=>if T j=true/\b j=0 then 1 else 0)=Sg m fun j=>if T j=false/\b j=1 then 1 else 0:=by
  intro b l i
  have e1:Sg m (fun j=>ind T j+if T j=false/\b j=1 then 1 else 0)=Sg m fun j=>b j+if T j=true/\b j=0 then 1 else 0:=c9 fun j hj=>by
   unfold ind
   rcases l j hj with e|e<;>cases T j<;>simp [e]
  rw[jY,jY,I,i] at e1
  omega
 intro d
 induction d with
 |zero =>
  intro b l i v hd
  have F:=C (m:=m) (f:=fun j=>if T j=true/\b j=0 then 1 else 0) (fun j _=>by split<;>omega) hd
  have E:=C (m:=m) (f:=fun j=>if T j=false/\b j=1 then 1 else 0) (fun j _=>by split<;>omega) (by rw[<- x b l i];exact hd)
  refine v.congr fun j hj=>?_
  have n:=F j hj
  have o:=E j hj
  unfold ind
  rcases l j hj with e|e<;>cases hTj:T j<;>simp_all
 |succ d ih =>
  intro b l i v hd
  obtain ⟨p,t,G⟩:=y (m:=m) (f:=fun j=>if T j=true/\b j=0 then 1 else 0) (fun j _=>by split<;>omega) (by rw[hd];omega)
  obtain ⟨q,u,q2⟩:=y (m:=m) (f:=fun j=>if T j=false/\b j=1 then 1 else 0) (fun j _=>by split<;>omega) (by rw[<- x b l i,hd];omega)
  have n:T p=true/\b p=0:=by
   by_cases e:T p=true/\b p=0
   .exact e
   .rw[if_neg e] at G;omega
  have o:T q=false/\b q=1:=by
   by_cases e:T q=false/\b q=1
   .exact e
   .rw[if_neg e] at q2;omega
  have B:p≠q:=fun z=>by rw[z,o.1] at n;exact absurd n.1 (by simp)
  have L:=H p q t u n.1 o.1
  refine ih (fun j=>if j=p then 1 else if j=q then 0 else b j) (fun j hj=>?_) ?_ ((v.move t u B (by omega)).congr fun j hj=>?_) ?_
  .by_cases e1:j=p
   .simp only[if_pos e1];exact .inr trivial
   by_cases e2:j=q
   .simp only[if_neg e1,if_pos e2];exact .inl trivial
   .simp only[if_neg e1,if_neg e2];exact l j hj
  .rw[n0 t,n0 u,i,if_neg B,n.2,o.2]
   omega
  .by_cases e1:j=p
   .subst e1
    simp only[if_true];omega
   by_cases e2:j=q
   .subst e2
    simp only[if_neg e1,if_true];omega
   .simp only[if_neg e1,if_neg e2]
  .have J:Sg m (fun j=>if T j=true/\(if j=p then 1 else if j=q then 0 else b j)=0 then (1:Int) else 0)=Sg m fun j=>if j=p then 0 else if T j=true/\b j=0 then 1 else 0:=c9 fun j hj=>by
    by_cases e1:j=p
    .simp [e1]
    by_cases e2:j=q
    .subst e2
     simp [e1,o.1]
    .simp only[if_neg e1,if_neg e2]
   rw[J,n0 t,hd,if_pos n]
   omega
def bV.next{m:Nat}{rs:aab}{c:Nat->Int}{r:Int}{T:Nat->Bool}(h:bV m (r::rs) c)(i:Sg m (ind T)=r)(e:∀j k,j<m->k<m->T j=true->T k=false->c k<=c j):bV m rs fun j=>c j - ind T j:=by
 obtain ⟨b,o,n,l⟩:=h
 have p:0<=Sg m fun j=>if T j=true/\b j=0 then (1:Int) else 0:=by
  have:=pk (m:=m) (f:=fun _=>0) (g:=fun j=>if T j=true/\b j=0 then (1:Int) else 0) fun j _=>by split<;>omega
  rw[eM] at this;exact this
 exact bV.Ka i e _ b o n l (Od p).symm
def bV.bound{m:Nat}{rs:aab}{c:Nat->Int}{r:Int}(h:bV m (r::rs) c):0<=r/\r<=m:=by
 obtain ⟨b,f,l,i⟩:=h
 have e1:Sg m (fun _=>0)<=Sg m b:=pk fun j hj=>by rcases f j hj with e|e<;>omega
 have e2:Sg m b<=Sg m fun _=>1:=pk fun j hj=>by rcases f j hj with e|e<;>omega
 have g:∀m:Nat,Sg m (fun _=>1)=(m:Int):=fun m=>by
  induction m with
  |zero=>rfl
  |succ m ih=>rw[dy,ih];omega
 rw[eM] at e1
 rw[g] at e2
 omega
def nS{c m:Int}{ns:aab}:reach (c::ns) m=(if m<=c then 1 else 0)+reach ns m:=by
 unfold reach
 rw[List.filter_cons]
 by_cases h:m<=c
 .rw[if_pos (by simpa using h),if_pos h,Me];omega
 .rw[if_neg (by simpa using h),if_neg h];omega
theorem uc{a b:Int}(h:a<=b):∀{ns:aab},reach ns b<=reach ns a
 |[]=>by simp [reach]
 |c::ns=>by
  have:=uc h (ns:=ns)
  rw[nS,nS]
  by_cases e:b<=c
  .rw[if_pos e,if_pos (by omega)];omega
  .rw[if_neg e];split<;>omega
def wB{ns:aab}{m:Nat}:(fO ns m).Pairwise (·>=·):=by
 unfold fO
 rw[List.pairwise_map]
 exact (List.pairwise_lt_range (n:=m)).imp fun h=>uc (by omega)
theorem B6{c:Int}(b:0<=c):∀(k:Nat),Sg k (fun l=>if 1+(l:Int)<=c then 1 else 0)=min c k
 |0=>by rw[wI];omega
 |k+1=>by
  rw[dy,B6 b k]
  split<;>omega
theorem zm{k:Nat}:∀{ns:aab},(∀c∈ns,0<=c)->Sg k (fun l=>reach ns (1+(l:Int)))=(ns.map fun c=>min c (k:Int)).sum
 |[],_=>by
  rw[NP,c9 (g:=fun _=>0) (fun j _=>by simp [reach]),eM];rfl
 |c::ns,h=>by
  rw[Ml,MF,<- zm fun x b=>h x (ox _ b),<- B6 (h c Fk),<- jY]
  exact c9 fun j _=>nS
def pY{f:Int->Int}{ns:aab}:Sg ns.length (fun j=>f (ns.getD j 0))=(ns.map f).sum:=by
 unfold Sg
 congr 1
 refine NJ (by simp) fun i c b=>?_
 rw[mo] at b
 rw[NI,NI,NQ,gV,dz b,M3]
def vw{ns:aab}{m k:Nat}(h:∀c∈ns,0<=c)(b:k<=m):((fO ns m).take k).sum=(ns.map fun c=>min c (k:Int)).sum:=by
 rw[<- zm h]
 unfold fO Sg
 rw[<- List.map_take,List.take_range,NS b]
def bV.heads{b cols fs:aab}(h:bV cols.length b fun j=>cols.getD j 0)(e:fs.Perm b){k:Nat}(f:k<=b.length):(fs.take k).sum<=((fO cols b.length).take k).sum:=by
 have l:∀c∈cols,0<=c:=fun c g=>by
  obtain ⟨j,hj,rfl⟩:=Oc g
  have:=h.nonneg j hj
  rwa [gV,dz hj,M3] at this
 have i:bV cols.length (fs.take k++fs.drop k) fun j=>cols.getD j 0:=by rw[NB];exact h.perm e.symm
 have:=i.head
 rw[MT,e.length_eq,NS f] at this
 rw[vw l f,<- pY]
 exact this
theorem bV.II{m:Nat}:∀{t:aaa},(∀r∈t,r.length=m)->(∀r∈t,∀v∈r,v=0\/v=1)->bV m (t.map List.sum) fun j=>(t.map fun r=>r.getD j 0).sum
 |[],_,_=>fun j _=>rfl
 |r::t,e,c=>by
  have hl:=e r Fk
  refine⟨fun j=>r.getD j 0,fun j hj=>?_,?_,(bV.II (fun x b=>e x (ox _ b)) fun x b=>c x (ox _ b)).congr fun j hj=>?_⟩
  .refine c r Fk _ ?_
   show r.getD j 0∈r
   rw[gV,dz (by omega),M3]
   exact MJ _
  .rw[<- hl,pY (f:=fun x=>x),List.map_id']
  .show _=(List.map _ (r::t)).sum - r.getD j 0
   rw[Ml,MF];omega
def ij(ps:aab)(m:Nat):aab:=(List.range m).map fun (j:Nat)=>if (j:Int)∈ps then 1 else 0
def xh{ps:aab}{m:Nat}:(ij ps m).length=m:=by unfold ij;rw[mo,Mi]
def Gb{ps:aab}{m j:Nat}(hj:j<m):(ij ps m).getD j 0=ind (fun (j:Nat)=>decide ((j:Int)∈ps)) j:=by
 unfold ij ind
 rw[gV,Mc,MS hj]
 simp
theorem vp{ps:aab}{m:Nat}(nd:ps.Nodup)(hm:∀x∈ps,0<=x/\x<m):(ij ps m).sum=ps.length:=by
 have e:((List.range m).filter fun (j:Nat)=>decide ((j:Int)∈ps)).length=ps.length:=by
  have:(((List.range m).filter fun (j:Nat)=>decide ((j:Int)∈ps)).map fun (j:Nat)=>(j:Int)).Perm ps:=by
   refine (List.perm_ext_iff_of_nodup (OP _ (fun a b f=>by show (a:Int)≠b;omega) (List.nodup_range.filter _)) nd).mpr fun x=>?_
   constructor
   .intro c
    obtain ⟨i,hi,rfl⟩:=Mh.mp c
    exact of_decide_eq_true (M7.mp hi).2
   .intro c
    have:=hm x c
    exact Mh.mpr ⟨x.toNat,M7.mpr ⟨Mq.mpr (by omega),decide_eq_true (by rw[Od this.1];exact c)⟩,Od this.1⟩
  have:=this.length_eq
  rwa [mo] at this
 rw[<- e]
 unfold ij
 clear e
 induction List.range m with
 |nil=>rfl
 |cons j l ih =>
  rw[Ml,MF,ih,List.filter_cons]
  by_cases h:(j:Int)∈ps
  .rw[if_pos h,if_pos (by simpa using h),Me];omega
  .rw[if_neg h,if_neg (by simpa using h)];omega
def bV.turn{m k:Nat}{rs:aab}{r:Int}{left fp:aab}(h:bV m (r::rs) fun j=>left.getD j 0)(l:r=(k:Int))(s:k<=m)(c:fp.Perm (km m))(g:fp.Pairwise fun a b=>left.getD b.toNat 0<=left.getD a.toNat 0) :
  (ij (fp.take k) m).sum=r/\bV m rs fun j=>left.getD j 0 - (ij (fp.take k) m).getD j 0:=by
 have nd:fp.Nodup:=c.nodup_iff.mpr (OP _ (fun a b y=>by show (a:Int)≠b;omega) List.nodup_range)
 have t:∀x∈fp,0<=x/\x<m:=fun x e=>by
  obtain ⟨i,hi,rfl⟩:=Mh.mp (c.mem_iff.mp e)
  have:=Mq.mp hi
  omega
 have v:fp.length=m:=by rw[c.length_eq,mo,Mi]
 have f:(ij (fp.take k) m).sum=r:=by
  rw[vp (nd.sublist (List.take_sublist ..)) fun x e=>t x (N3 e),MT,l,v,NS s]
 refine⟨f,(h.next (T:=fun (j:Nat)=>decide ((j:Int)∈fp.take k)) ?_ fun a b ha hb o n=>?_).congr fun j hj=>?_⟩
 .rw[<- f]
  unfold ij Sg ind
  simp only[decide_eq_true_eq]
 .have q:=of_decide_eq_true o
  have p:=of_decide_eq_false n
  have u:(b:Int)∈fp.drop k:=by
   have:(b:Int)∈fp:=c.mem_iff.mpr (Mh.mpr ⟨b,Mq.mpr hb,rfl⟩)
   rw[<- NB k fp] at this
   rcases Mf.mp this with z|z
   .exact absurd z p
   .exact z
  rw[<- NB k fp] at g
  exact (List.pairwise_append.mp g).2.2 _ q _ u
 .rw[Gb hj]
def LR{ns:aab}{x:Int}:inD (.int x) (ns.map L3.D.int)=decide (x∈ns):=by
 have:inD (.int x) (ns.map L3.D.int)=true↔x∈ns:=by
  unfold inD inV
  rw[List.any_eq_true]
  constructor
  .rintro ⟨v,c,e⟩
   obtain ⟨d,hd,rfl⟩:=Mh.mp c
   obtain ⟨z,b,rfl⟩:=Mh.mp hd
   have f:(z == x)=true:=e
   rw[<- eq_of_beq f];exact b
  .intro h
   exact⟨.int x,Mh.mpr ⟨.int x,Mh.mpr ⟨x,h,rfl⟩,rfl⟩,by show (x == x)=true;exact beq_self_eq_true _⟩
 by_cases h:x∈ns
 .rw[decide_eq_true h];exact this.mpr h
 .rw[decide_eq_false h]
  cases e:inD (.int x) (ns.map L3.D.int) with
  |false=>rfl
  |true=>exact absurd (this.mp e) h
def ED{b:Bool}{x:Int}{ns:aab}{P:DK}(h:P (.bl (if b then !decide (x∈ns) else decide (x∈ns)))):vIn b (.int x) (dI ns) P:=by
 refine⟨rfl,cw,?_⟩
 rw[LR]
 exact h
def eS:DSp:=fun ds P=>∃(ps:aab) (n:Nat),ds=[dI ps,.int n]/\n<=1000/\P (dI (ij ps n))
def qO:bo eS:=by
 intro xs P b k h
 unfold eS at h ⊢
 grind
def rV:∀ds P,eS ds P->ds.length=2:=by
 intro ds P h
 obtain ⟨_,_,e,_⟩:=h
 rw[e];rfl
def tu{c:Cs}{f:Addr}{b:FuncData}(F:FnAt K mg "row_of_ones" eR eX f b)(o:Fns K mg c)(T:Txt K mg base)(xs:Exs K mg base c):br P w K mg base CX0 1 f b eX (spP K eS):=by
 refine F.fn.ok uo (fun vs H Q E h=>aR rV h) (fun l A outer s H vs Q E m h=>?_)
 refine⟨_,(av (aB (wco (aw eR) "place" ["places"] [0] (bu rfl T.range_ (aa (pv 1) aj)) (fun _ _ _ _ _=>(uf (aM (AV (K:=K) rfl) (pv 0) (pv 1) (by with_unfolding_all rfl)) aq aq))))),bb (Γn:=[]) (N:=kf) (aI (M:=[]) (bw (cm (ai (ES.er (af 1)) au)) (aN 0) (Et (aL (EM.er (ay DM (ES.er (af 0)) (ES.er (af 1))))) ar ar))) (fun ds P e=>?_) h⟩
 obtain ⟨ps,n,rfl,hn,j⟩:=e
 rw[show aJ kf [dI ps,.int n]=[some (dI ps),some (.int n)] from rfl]
 walk_at "v"
 refine gk (lo:=0) (n:=n) (g:=fun (i:Nat)=>.int (if (i:Int)∈ps then 1 else 0)) (fun R h=>?_) hn (fun i hi R h=>?_) ?_
 .walk_at "go";exact h
 .walk_at "gb"
  rw[M1]
  refine ED ?_
  simp only[MY,if_false]
  walk_at "gb"
  by_cases h':(i:Int)∈ps
  .rw[if_pos h'] at h ⊢
   exact h
  .rw[if_neg h'] at h ⊢
   exact h
 .rw[kW];exact j
def Jd(b cols:aab)(t:aaa):Prop:=bK b.length cols.length t/\(∀r∈t,∀v∈r,v=0\/v=1)/\t.map List.sum=b/\∀j,j<cols.length->(t.map fun r=>r.getD j 0).sum=cols.getD j 0
def fY:DSp:=fun ds P=>∃b cols:aab,ds=[dI b,dI cols]/\cols.length<64/\b.length<=100/\bV cols.length b (fun j=>cols.getD j 0)/\∀t,Jd b cols t->P (dT t)
def Bb{ns:aab}{k:Nat}:L3.cutD (ns.map L3.D.int) none (some (k:Int))=(ns.take k).map L3.D.int:=by
 unfold L3.cutD
 rw[mo,HT.uH,HT.sk,OO,Nat.sub_zero,List.map_take]
 rcases Nat.le_total k ns.length with h|h
 .rw[NS h]
 .rw[Nat.min_eq_right h,Nl (by rw[mo];exact Mm _),Nl (by rw[mo];exact h)]
def zK{f:Nat->Int}{m j:Nat}(h:j<m):((List.range m).map f).getD j 0=f j:=by
 rw[gV,Mc,MS h];rfl
def pU:bo fY:=by
 intro xs P i k h
 obtain ⟨b,cols,e,g,f,c,h⟩:=h
 exact⟨b,cols,e,g,f,c,fun t ht=>k _ (h t ht)⟩
def p6:∀ds P,fY ds P->ds.length=2:=by
 intro ds P h
 obtain ⟨_,_,e,_⟩:=h
 rw[e];rfl
def rM{c:Cs}{f:Addr}{O:FuncData}(F:FnAt K mg "filled_table" fU dJ f O)(l:Fns K mg c)(T:Txt K mg base)(xs:Exs K mg base c):br P w K mg base CX0 2 f O dJ (spP K fY):=by
 obtain ⟨f0,d0,R⟩:=l.h_row_of_ones
 have QN:=tu (P:=P) (w:=w) R l T xs
 obtain ⟨f1,d1,X⟩:=l.h_less_row
 have O3:=rq (P:=P) (w:=w) X l T xs
 obtain ⟨f2,d2,U⟩:=l.h_falling_places
 have N4:=jK (P:=P) (w:=w) U l T xs
 refine F.fn.ok cx (fun vs H Q E h=>aR p6 h) (fun cdv A outer s H vs Q E C h=>?_)
 refine⟨_,(ak (wst 2 cx.nd (pv 1)) (ak (wst 3 cx.nd (bR aj)) (ak (wfo (wil K (pv 0)) (wpg 4 cx.nd) (ak (wst 5 cx.nd (wcl QN C R (aa (mJ (p5 (K:=K) rfl) (wcl N4 C U (aa (pv 2) aj)) pH (oY (pv 4))) (aa (wln K T.len_ (pv 2)) aj)))) (ak (wst 2 cx.nd (wcl O3 C X (aa (pv 2) (aa (pv 5) aj)))) (av (cZ (mi MG MX MW df (pv 3) (aa (pv 5) aj))))))) (av (aB (pv 3)))))),bb (Γn:=[3]) (N:=iY) (ax (ST.post (Γn:=[]) (aK 2 (af 1))) (ax (ST.post (Γn:=[3]) (cG (M:=[]) 3 (bS bf))) (ax (eG (bL (af 0)) (aN 4) (ax (ST.post (Γn:=[5,3]) (cG (M:=[]) 5 (aD (S:=eS) qO (ai (EM.er (C4 (EM.er (aD (S:=cR) iD (ai (ES.er (af 2)) au))) or_none (or_some (ES.er (af 4))))) (ai (EM.er (aS bI (ai (ES.er (af 2)) au))) au))))) (ax (ST.post (Γn:=[5,3]) (aK 2 (EM.es (aD (S:=fm) ke (ai (ES.er (af 2)) (ai (dY 5) au)))))) (ST.post (Γn:=[3]) (dn (M:=[5]) 3 (gf 5)))))) (aI (M:=[3]) (gf 3))))) (fun ds P Z=>?_) h⟩
 obtain ⟨b,cols,rfl,SQ,Rl,Vp,hP⟩:=Z
 rw[show aJ iY [dI b,dI cols]=[some (dI b),some (dI cols),none,none,none,none] from rfl]
 walk_at "go"
 refine fK (as:=b) (f:=L3.D.int) (fun i δ=>∃(left:aab) (t:aaa) (y u:Option D),δ=[some (dI b),some (dI cols),some (dI left),some (dT t),y,u]/\left.length=cols.length/\bK i cols.length t/\(∀r∈t,∀v∈r,v=0\/v=1)/\t.map List.sum=b.take i/\(∀j,j<cols.length->left.getD j 0+(t.map fun r=>r.getD j 0).sum=cols.getD j 0)/\bV cols.length (b.drop i) (fun j=>left.getD j 0))
  ⟨cols,[],none,none,rfl,rfl,⟨rfl,fun _ h=>(nomatch h)⟩,fun _ h=>(nomatch h),rfl,fun j _=>by simp,by rw[OO];exact Vp⟩ ?_ ?_
 .rintro i r δ N e ⟨left,t,y,u,rfl,hl,n,G,p,I,g⟩ hN
  obtain ⟨hi,B⟩:=Ma.mp e
  rw[M5 hi,B] at g
  have hb:=g.bound
  obtain ⟨k,rfl⟩:∃k:Nat,r=(k:Int):=⟨r.toNat,by omega⟩
  have TU:k<=cols.length:=by omega
  walk_at "go"
  refine⟨left,rfl,by omega,fun fp L hw=>?_⟩
  rw[hl] at L
  walk_at "go"
  have J:=g.turn rfl TU L hw
  rw[Bb]
  try refine⟨cw,?_⟩
  refine⟨fp.take k,cols.length,by rw[hl],by omega,?_⟩
  have Y:=xh (ps:=fp.take k) (m:=cols.length)
  refine⟨left,ij (fp.take k) cols.length,rfl,by omega,by omega,?_⟩
  walk_at "go"
  try refine⟨by have:=n.1;omega,?_⟩
  rw[show List.map dI t++[dI (ij (fp.take k) cols.length)]=(t++[ij (fp.take k) cols.length]).map dI by rw[MC];rfl]
  refine hN _ ⟨_,_,_,_,rfl,by rw[mo,Mi];exact hl,⟨by rw[Mt,n.1];rfl,fun x z=>?_⟩,fun x z v o=>?_,?_,fun j hj=>?_,J.2.congr fun j hj=>?_⟩
  .rcases Mf.mp z with q|q
   .exact n.2 x q
   .rw[Gc.mp q];exact Y
  .rcases Mf.mp z with q|q
   .exact G x q v o
   .rw[Gc.mp q] at o
    unfold ij at o
    obtain ⟨j,_,rfl⟩:=Mh.mp o
    split
    .exact .inr rfl
    .exact .inl rfl
  .rw[MC,p,List.take_add_one,e]
   show b.take i++[(ij (fp.take k) cols.length).sum]=b.take i++[(k:Int)]
   rw[J.1]
  .rw[hl,zK hj,MC,List.sum_append,<- I j hj]
   simp
   omega
  .rw[hl,zK hj]
 .rintro δ ⟨left,t,y,u,rfl,hl,n,G,p,I,g⟩
  rw[N9] at g
  rw[O0] at p
  walk_at "v"
  refine hP t ⟨n,G,p,fun j hj=>?_⟩
  have:=I j hj
  have h0:left.getD j 0=0:=g j hj
  omega
def Fits(m:Nat)(b:aab)(c:Nat->Int):Prop:=∀k:List Bool,k.length=b.length->Maj.kO k b<=Sg m fun j=>min (c j) (Maj.cnt k:Int)
def Dv{m:Nat}{T:Nat->Bool}{c:Nat->Int}{k:Int}:Sg m (fun j=>min (c j - ind T j) k)=Sg m (fun j=>min (c j) k) - Sg m fun j=>if T j=true/\c j<=k then 1 else 0:=by
 have:Sg m (fun j=>min (c j) k)=Sg m (fun j=>min (c j - ind T j) k+if T j=true/\c j<=k then 1 else 0):=c9 fun j _=>by
  unfold ind
  cases T j
  .simp
  .by_cases h:c j<=k
   .simp only[if_true,h,and_self];omega
   .simp only[if_true,h,and_false,if_false];omega
 rw[this,jY];omega
def LJ{m:Nat}{c:Nat->Int}{k:Int}:Sg m (fun j=>min (c j) (k+1))=Sg m (fun j=>min (c j) k)+Sg m fun j=>if k<c j then 1 else 0:=by
 rw[<- jY]
 refine c9 fun j _=>?_
 split<;>omega
def Fits.next{m:Nat}{r:Int}{b:aab}{c:Nat->Int}{T:Nat->Bool}(h:Fits m (r::b) c)(s:Sg m (ind T)=r)(p:∀j k,j<m->k<m->T j=true->T k=false->c k<=c j):Fits m b fun j=>c j - ind T j:=by
 intro k f
 rw[Dv]
 generalize o:(Maj.cnt k:Int)=q
 have u:=h (false::k) (by simp [f])
 have t:=h (true::k) (by simp [f])
 have e1:Maj.kO (false::k) (r::b)=Maj.kO k b:=rfl
 have e2:Maj.kO (true::k) (r::b)=r+Maj.kO k b:=rfl
 have x:(Maj.cnt (false::k):Int)=q:=o
 have v:(Maj.cnt (true::k):Int)=q+1:=by show ((Maj.cnt k+1:Nat):Int)=q+1;omega
 rw[e1,x] at u
 rw[e2,v,LJ] at t
 by_cases i:∃j,j<m/\T j=true/\c j<=q
 .obtain ⟨n,e,l,y⟩:=i
  have:Sg m (fun j=>if T j=true/\c j<=q then (1:Int) else 0)+Sg m (fun j=>if q<c j then (1:Int) else 0)=Sg m (ind T):=by
   rw[<- jY]
   refine c9 fun j hj=>?_
   unfold ind
   cases ht:T j
   .have:=p n j e hj l ht
    simp
    omega
   .by_cases h:c j<=q
    .simp [h]<;>omega
    .simp [h]<;>omega
  rw[s] at this
  omega
 .have:Sg m (fun j=>if T j=true/\c j<=q then (1:Int) else 0)=0:=by
   rw[c9 (g:=fun _=>0) fun j hj=>if_neg fun z=>i ⟨j,hj,z⟩,eM]
  omega
def Ko{m:Nat}(c:Nat->Int):∃fp:aab,fp.Perm ((List.range m).map fun (k:Nat)=>(k:Int))/\fp.Pairwise fun a b=>c b.toNat<=c a.toNat:=by
 refine⟨((List.range m).map fun (k:Nat)=>(k:Int)).mergeSort fun a b=>decide (c b.toNat<=c a.toNat),List.mergeSort_perm _ _,?_⟩
 have:=List.pairwise_mergeSort (le:=fun a b:Int=>decide (c b.toNat<=c a.toNat)) (fun a b d f e=>by simp only[decide_eq_true_eq] at *;omega) (fun a b=>by simp only[Bool.or_eq_true,decide_eq_true_eq];omega) ((List.range m).map fun (k:Nat)=>(k:Int))
 exact this.imp fun h=>by simpa using h
def IH{m k:Nat}{c:Nat->Int}{fp:aab}(p:k<=m)(e:fp.Perm ((List.range m).map fun (k:Nat)=>(k:Int)))(g:fp.Pairwise fun a b=>c b.toNat<=c a.toNat) :
  Sg m (ind fun (j:Nat)=>decide ((j:Int)∈fp.take k))=(k:Int)/\∀a b:Nat,a<m->b<m->decide ((a:Int)∈fp.take k)=true->decide ((b:Int)∈fp.take k)=false->c b<=c a:=by
 have nd:fp.Nodup:=e.nodup_iff.mpr (OP _ (fun a b t=>by show (a:Int)≠b;omega) List.nodup_range)
 have q:∀x∈fp,0<=x/\x<m:=fun x f=>by
  obtain ⟨i,hi,rfl⟩:=Mh.mp (e.mem_iff.mp f)
  have:=Mq.mp hi
  omega
 have s:fp.length=m:=by rw[e.length_eq,mo,Mi]
 constructor
 .have:=vp (ps:=fp.take k) (m:=m) (nd.sublist (List.take_sublist ..)) fun x f=>q x (N3 f)
  rw[MT,s,NS p] at this
  rw[<- this]
  unfold ij Sg ind
  simp only[decide_eq_true_eq]
 .intro a b ha hb l h
  have o:=of_decide_eq_true l
  have n:=of_decide_eq_false h
  have r:(b:Int)∈fp.drop k:=by
   have:(b:Int)∈fp:=e.mem_iff.mpr (Mh.mpr ⟨b,Mq.mpr hb,rfl⟩)
   rw[<- NB k fp] at this
   rcases Mf.mp this with z|z
   .exact absurd z n
   .exact z
  rw[<- NB k fp] at g
  exact (List.pairwise_append.mp g).2.2 _ o _ r
theorem sU{f:Nat->Int}:∀{m:Nat},(∀j,j<m->0<=f j)->Sg m f=0->∀j,j<m->f j=0
 |0,_,_,j,hj=>by omega
 |m+1,b,h,j,hj=>by
  rw[dy] at h
  have i:0<=Sg m f:=by
   have:=pk (m:=m) (f:=fun _=>0) (g:=f) fun j hj=>b j (by omega)
   rw[eM] at this;exact this
  have c:=b m (by omega)
  by_cases e:j=m
  .subst e;omega
  .exact sU (f:=f) (m:=m) (fun j hj=>b j (by omega)) (by omega) j (by omega)
def IY{m:Nat}{c:Nat->Int}:Sg m (fun j=>min (c j) 1)<=m:=by
 have:∀m:Nat,Sg m (fun j=>min (c j) 1)<=(m:Int):=fun m=>by
  induction m with
  |zero=>rw[wI];omega
  |succ m ih=>rw[dy];omega
 exact this m
theorem ug:∀{xs:aab},Maj.kO (List.replicate xs.length false) xs=0
 |[]=>rfl
 |x::xs=>by rw[Me,Nj,Maj.kO,ug]
theorem wF:∀{n:Nat},Maj.cnt (List.replicate n false)=0
 |0=>rfl
 |n+1=>by rw[Nj,Maj.cnt,wF]
theorem bV.GN{m:Nat}:∀{b:aab}{c:Nat->Int},(∀r∈b,0<=r)->(∀j,j<m->0<=c j)->b.sum=Sg m c->Fits m b c->bV m b c
 |[],c,_,h,g,_=>sU h g.symm
 |r::l,c,o,h,g,p=>by
  have E:=o r Fk
  have v:=p (true::List.replicate l.length false) (by simp)
  have e1:Maj.kO (true::List.replicate l.length false) (r::l)=r:=by rw[Maj.kO,ug];simp
  have e2:(Maj.cnt (true::List.replicate l.length false):Int)=1:=by rw[Maj.cnt,wF];simp
  rw[e1,e2] at v
  obtain ⟨k,rfl⟩:∃k:Nat,r=(k:Int):=⟨r.toNat,by omega⟩
  have z:k<=m:=by have:=IY (m:=m) (c:=c);omega
  obtain ⟨fp,t,u⟩:=Ko (m:=m) c
  obtain ⟨f,q2⟩:=IH z t u
  refine⟨ind fun (j:Nat)=>decide ((j:Int)∈fp.take k),fun j _=>Jj,f,bV.GN (fun x s=>o x (ox _ s)) (fun j hj=>?_) ?_ (p.next f q2)⟩
  .-- a column taken from has one
   show 0<=c j - ind _ j
   by_cases q:c j=0
   .-- then Tu top k would have a nought: k is more than those that have one
    by_cases ht:decide ((j:Int)∈fp.take k)=true
    .exfalso
     have B:Sg m (fun i=>min (c i) 1)<Sg m (ind fun (j:Nat)=>decide ((j:Int)∈fp.take k)):=by
      have C:∀i,i<m->min (c i) 1<=ind (fun (j:Nat)=>decide ((j:Int)∈fp.take k)) i:=fun i hi=>by
       unfold ind
       by_cases n:decide ((i:Int)∈fp.take k)=true
       .rw[if_pos n];omega
       .rw[if_neg n]
        have:=q2 j i hj hi ht (by simpa using n)
        omega
      have y:Sg m (fun i=>min (c i) 1)<=Sg m (fun i=>if i=j then 0 else ind (fun (j:Nat)=>decide ((j:Int)∈fp.take k)) i):=pk fun i hi=>by
       by_cases e:i=j
       .rw[if_pos e,e,q];omega
       .rw[if_neg e];exact C i hi
      rw[n0 hj] at y
      have:ind (fun (j:Nat)=>decide ((j:Int)∈fp.take k)) j=1:=by unfold ind;rw[if_pos ht]
      omega
     rw[f] at B
     omega
    .unfold ind;rw[if_neg ht];have:=h j hj;omega
   .have:=h j hj
    rcases Jj (T:=fun (j:Nat)=>decide ((j:Int)∈fp.take k)) (j:=j) with e|e<;>rw[e]<;>omega
  .rw[MF] at g
   have:Sg m c=Sg m (fun j=>(c j - ind (fun (j:Nat)=>decide ((j:Int)∈fp.take k)) j)+ind (fun (j:Nat)=>decide ((j:Int)∈fp.take k)) j):=c9 fun j _=>by omega
   rw[this,jY,f] at g
   omega
def lQ(b cols:aab):Prop:=bV cols.length b (fun j=>cols.getD j 0)
def Wit(b cols ps:aab):Prop:=ps.Pairwise (· < ·)/\(∀p∈ps,0<=p/\p<b.length)/\(cols.map fun c=>min c (ps.length:Int)).sum<(ps.map fun p=>b.getD p.toNat 0).sum/\ps.length<=b.length
theorem vW{a b:aab}(h:a.Perm b):a.sum=b.sum:=by
 induction h with
 |nil=>rfl
 |cons x _ ih=>rw[MF,MF,ih]
 |swap x y l=>rw[MF,MF,MF,MF];omega
 |trans _ _ e c=>exact e.trans c
def Dd{m:Nat}:(km m).Pairwise (· < ·):=by
 unfold km
 exact OP _ (fun a b h=>by show (a:Int)<b;omega) List.pairwise_lt_range
def yD{m:Nat}{x:Int}(h:x∈km m):0<=x/\x<m:=by
 unfold km at h
 obtain ⟨i,hi,rfl⟩:=Mh.mp h
 have:=Mq.mp hi
 omega
def CN{ns:aab}:((km ns.length).map fun p=>ns.getD p.toNat 0)=ns:=by
 unfold km
 rw[MB]
 refine NJ (by rw[mo,Mi]) fun j c b=>?_
 rw[NI,NQ]
 show ns.getD ((j:Int).toNat) 0=_
 rw[Md,gV,dz b];rfl
theorem oy{k:Int}:∀{ns:aab},(ns.map fun c=>min c k).sum<=ns.sum
 |[]=>OH _
 |n::ns=>by
  rw[Ml,MF,MF]
  have:=oy (k:=k) (ns:=ns)
  omega
def pX{b cols:aab}(h:lQ b cols):b.sum=cols.sum:=by
 have h':bV cols.length b (fun j=>cols.getD j 0):=h
 rw[h'.sums]
 have:=pY (f:=fun x:Int=>x) (ns:=cols)
 rw[List.map_id'] at this
 exact this
def Iu{b cols:aab}(h:b.sum<cols.sum):Wit cols b (km cols.length):=by
 refine⟨Dd,fun p c=>yD c,?_,by unfold km;rw[mo,Mi];exact Mm _⟩
 rw[CN]
 exact Int.lt_of_le_of_lt oy h
def Hv{c fp:aab}(e:fp.Perm (km c.length))(f:fp.Pairwise fun a b=>c.getD b.toNat 0<=c.getD a.toNat 0):uL c=fp.map fun p=>c.getD p.toNat 0:=by
 refine (sv ?_ ?_).symm
 .have:=e.map fun p=>c.getD p.toNat 0
  rw[CN] at this
  exact this
 .exact OP _ (fun a b h=>h) f
def zC{b cols:aab}(f:∀c∈cols,0<=c){k:Nat}(e:k<=b.length):Maj.gp (fO cols b.length) k=(cols.map fun c=>min c (k:Int)).sum:=by
 have g:uL (fO cols b.length)=fO cols b.length:=(sv (List.Perm.refl _) wB).symm
 unfold Maj.gp
 rw[g,vw f e]
def HE{f cols fp ps:aab}{k:Nat}(n:∀c∈cols,0<=c)(m:k<=f.length)(i:fp.Perm (km f.length))(l:fp.Pairwise fun a b=>f.getD b.toNat 0<=f.getD a.toNat 0)
  (q:Maj.gp (fO cols f.length) k<Maj.gp f k) (g:ps.Perm (fp.take k)) (j:ps.Pairwise (·<=·)):Wit f cols ps:=by
 have nd:fp.Nodup:=i.nodup_iff.mpr (Dd.imp fun h=>by omega)
 have o:ps.Nodup:=g.nodup_iff.mpr (nd.sublist (List.take_sublist ..))
 have r:fp.length=f.length:=by rw[i.length_eq];unfold km;rw[mo,Mi]
 have pl:ps.length=k:=by rw[g.length_eq,MT];omega
 refine⟨(List.pairwise_and_iff.mpr ⟨j,o⟩).imp fun h=>by have:=h.1;have:=h.2;omega,fun p h=>yD (i.mem_iff.mp (N3 (g.mem_iff.mp h))),?_,by omega⟩
 rw[pl,<- zC n m]
 have e:Maj.gp f k=(ps.map fun p=>f.getD p.toNat 0).sum:=by
  unfold Maj.gp
  rw[Hv i l,<- List.map_take]
  exact (vW (g.map fun p=>f.getD p.toNat 0)).symm
 rw[<- e]
 exact q
theorem Bs:∀{m:List Bool},Maj.cnt m<=m.length
 |[]=>Mm _
 |true::m=>by have:=Bs (m:=m);show Maj.cnt m+1<=m.length+1;omega
 |false::m=>by have:=Bs (m:=m);show Maj.cnt m<=m.length+1;omega
def Ea{one b:aab}(h:Maj.above one b=[]){p:Nat}(c:p<one.length):Maj.gp one (p+1)<=Maj.gp b (p+1):=by
 unfold Maj.above at h
 rw[ON] at h
 have:=h p (Mq.mpr c)
 rw[decide_eq_true_eq] at this
 omega
def G7{one b:aab}{p:Nat}{l:aac}(h:Maj.above one b=p::l):p<one.length/\Maj.gp b (p+1)<Maj.gp one (p+1):=by
 have:p∈Maj.above one b:=by rw[h];exact Fk
 unfold Maj.above at this
 have:=M7.mp this
 exact⟨Mq.mp this.1,of_decide_eq_true this.2⟩
def HB{b cols:aab}(l:∀r∈b,0<=r)(i:∀c∈cols,0<=c)(h:Maj.above b (fO cols b.length)=[])(o:¬ b.sum<cols.sum):lQ b cols:=by
 have key:∀k:Nat,k<=b.length->Maj.gp b k<=(cols.map fun c=>min c (k:Int)).sum:=fun k e=>by
  rw[<- zC i e]
  cases k with
  |zero=>unfold Maj.gp;rw[List.take_zero,List.take_zero];exact OH _
  |succ p=>exact Ea h (by omega)
 have g:∀j,j<cols.length->0<=cols.getD j 0:=fun j hj=>by
  rw[gV,dz hj];exact i _ (MJ _)
 have n:b.sum=cols.sum:=by
  have t:=key b.length (Mm _)
  have s:Maj.gp b b.length=b.sum:=by
   unfold Maj.gp
   rw[Nl (by rw[(gy b).length_eq];exact Mm _)]
   exact vW (gy b)
  have q:=oy (k:=(b.length:Int)) (ns:=cols)
  omega
 refine bV.GN l g ?_ fun k e=>?_
 .have:=pY (f:=fun x:Int=>x) (ns:=cols)
  rw[List.map_id'] at this
  rw[this,n]
 .have:=pY (f:=fun x:Int=>min x (Maj.cnt k:Int)) (ns:=cols)
  rw[this]
  exact Int.le_trans (Maj.HP e) (key _ (by have:=Bs (m:=k);omega))
def wc{ns:aab}{m:Nat}:(fO ns m).length=m:=by unfold fO;rw[mo,Mi]
def Kk{b cols:aab}(h:bV cols.length b (fun j=>cols.getD j 0)):Maj.above b (fO cols b.length)=[]:=by
 unfold Maj.above
 rw[ON]
 intro p c
 have f:=Mq.mp c
 try rw[wc] at f
 rw[decide_eq_true_eq]
 have:=h.heads (gy b) (k:=p+1) (by omega)
 have e:uL (fO cols b.length)=fO cols b.length:=(sv (List.Perm.refl _) wB).symm
 unfold Maj.gp
 rw[e]
 omega
def jQ:DSp:=fun ds P=>∃b cols:aab,ds=[dI b,dI cols]/\b.length<=8/\cols.length<=8/\(∀r∈b,0<=r)/\(∀c∈cols,0<=c)/\(lQ b cols->∀t,Jd b cols t->P (.tup [.str "table",dT t]))/\(¬ lQ b cols->(∀ps,Wit b cols ps->P (.tup [.str "rows",dI ps]))/\∀ps,Wit cols b ps->P (.tup [.str "columns",dI ps]))
def ua:bo jQ:=by
 intro xs P n k h
 obtain ⟨b,cols,e,m,l,j,i,g,f⟩:=h
 exact⟨b,cols,e,m,l,j,i,fun r t ht=>k _ (g r t ht),fun r=>⟨fun ps c=>k _ ((f r).1 ps c),fun ps c=>k _ ((f r).2 ps c)⟩⟩
def vc:∀ds P,jQ ds P->ds.length=2:=by
 intro ds P h
 obtain ⟨_,_,e,_⟩:=h
 rw[e];rfl
theorem wU{c:Cs}{f:Addr}{q:FuncData}(F:FnAt K mg "ones_with" jJ gX f q)(e:Fns K mg c)(T:Txt K mg base)(xs:Exs K mg base c):br P w K mg base CX0 4 f q gX (spP K jQ):=by
 obtain ⟨f0,d0,x⟩:=e.h_first_head_above
 have U:=nv (P:=P) (w:=w) x e T xs
 obtain ⟨f1,d1,r⟩:=e.h_heap_of
 have L:=A2 (P:=P) (w:=w) r e T xs
 obtain ⟨f2,d2,v⟩:=e.h_filled_table
 have O:=rM (P:=P) (w:=w) v e T xs
 obtain ⟨f3,d3,y⟩:=e.h_falling_places
 have Y:=jK (P:=P) (w:=w) y e T xs
 refine F.fn.ok pD (fun vs H Q E h=>aR vc h) (fun J A outer s H vs Q E g h=>?_)
 refine⟨_,(ak (bB (aM sG (aQ (cQ (K:=K) rfl rfl) (by rfl) T.sum_ boot_sum (aa (pv 0) aj)) (aQ (cQ (K:=K) rfl rfl) (by rfl) T.sum_ boot_sum (aa (pv 1) aj)) (aW _)) (av (aB (c4 (aa cM (aa (zh rfl rfl T.list_ rfl T.range_ (wln K T.len_ (pv 1))) aj))))) aV) (ak (wst 2 pD.nd (wcl U g x (aa (pv 0) (aa (wcl L g r (aa (pv 1) (aa (wln K T.len_ (pv 0)) aj))) aj)))) (ak (bB (aM xO (pv 2) lq (aW _)) (av (aB (c4 (aa cM (aa (aQ (xm (K:=K) rfl) (by rfl) T.sorted_ boot_sorted (aa (mJ (p5 (K:=K) rfl) (wcl Y g y (aa (pv 0) aj)) pH (oY (pv 2))) aj)) aj))))) aV) (av (aB (c4 (aa cM (aa (wcl O g v (aa (pv 0) (aa (pv 1) aj))) aj)))))))),bb (Γn:=[]) (N:=mv) (ax (bP (aL (EM.er (ay nh (EM.er (aS l7 (ai (ES.er (af 0)) au))) (EM.er (aS l7 (ai (ES.er (af 1)) au)))))) (aI (M:=[]) (fo (aE cS (aE (Bw (EM.er (aS bI (ai (ES.er (af 1)) au)))) bf)))) aX) (ax (ST.post (Γn:=[]) (aK 2 (EM.es (aD (S:=cf) lT (ai (ES.er (af 0)) (ai (EM.er (aD (S:=kI) yd (ai (ES.er (af 1)) (ai (EM.er (aS bI (ai (ES.er (af 0)) au))) au)))) au)))))) (ax (bP (aL (EM.er (ay AK (ES.er (af 2)) (EM.er lx)))) (aI (M:=[]) (fo (aE cS (aE (aS K6 (ai (EM.er (C4 (EM.er (aD (S:=cR) iD (ai (ES.er (af 0)) au))) or_none (or_some (ES.er (af 2))))) au)) bf)))) aX) (aI (M:=[]) (fo (aE cS (aE (aD (S:=fY) pU (ai (ES.er (af 0)) (ai (ES.er (af 1)) au))) bf))))))) (fun ds P G=>?_) h⟩
 obtain ⟨b,cols,rfl,j,C,R,u,I,o⟩:=G
 rw[show aJ mv [dI b,dI cols]=[some (dI b),some (dI cols),none] from rfl]
 walk_at "go"
 by_cases i:b.sum<cols.sum
 .rw[if_pos i]
  have hn:¬ lQ b cols:=fun h=>by have:=pX h;omega
  walk_at "go"
  exact (o hn).2 _ (Iu i)
 rw[if_neg i]
 walk_at "go"
 refine⟨cols,b.length,rfl,by omega,j,?_⟩
 refine⟨b,fO cols b.length,rfl,by omega,wc.symm,?_⟩
 unfold KN
 cases QF:Maj.above b (fO cols b.length) with
 |nil =>
  have n:=HB R u QF i
  walk_at "go"
  refine⟨b,cols,rfl,by omega,by omega,n,fun t ht=>?_⟩
  walk_at "go"
  exact I n t ht
 |cons p l =>
  have hn:¬ lQ b cols:=fun h=>by rw[Kk h] at QF;cases QF
  obtain ⟨Z,X⟩:=G7 QF
  walk_at "go"
  refine⟨b,rfl,by omega,fun fp m q2=>?_⟩
  walk_at "go"
  rw[show ((p:Int)+1)=((p+1:Nat):Int) by omega,Bb]
  have fl:fp.length=b.length:=by rw[m.length_eq];unfold km;rw[mo,Mi]
  refine iR.mpr ⟨by rw[MT];omega,fun ps B z=>⟨by omega,?_⟩⟩
  exact (o hn).1 _ (HE u (by omega) m q2 X B z)
def bp(n m:Nat)(x:Int):aaa:=List.replicate n (List.replicate m x)
def iT{n m:Nat}{x:Int}:bK n m (bp n m x):=⟨by unfold bp;rw[Mw],fun r b=>by rw[List.eq_of_mem_replicate b,Mw]⟩
def eL:DSp:=fun ds P=>∃(b cols:aab) (x:Int),ds=[dI b,dI cols,.int x]/\b.length<=8/\cols.length<=8/\P (dT (bp b.length cols.length x))
def lP:bo eL:=by
 intro xs P b k h
 unfold eL at h ⊢
 grind
def tw:∀ds P,eL ds P->ds.length=3:=by
 intro ds P h
 obtain ⟨_,_,_,e,_⟩:=h
 rw[e];rfl
def vh{c:Cs}{f:Addr}{e:FuncData}(F:FnAt K mg "full_table" fP fW f e)(q:Fns K mg c)(T:Txt K mg base)(xs:Exs K mg base c):br P w K mg base CX0 1 f e fW (spP K eL):=by
 refine F.fn.ok uW (fun vs H Q E h=>aR tw h) (fun l A outer s H vs Q E m h=>?_)
 refine⟨_,(av (aB (wco (aw fP) "row" ["columns","number"] [1,2] (wil K (pv 0)) (fun _ _ _ _ _=>(aH Gp (bR (aa (pv 2) aj)) (wln K T.len_ (pv 1))))))),bb (Γn:=[]) (N:=kY) (aI (M:=[]) (bw (bL (af 0)) (aN 0) (ay Jr (EM.er (bS (aE (ER.aP (ES.er (af 2))) bf))) (EM.er (aS bI (ai (ES.er (af 1)) au)))))) (fun ds P i=>?_) h⟩
 obtain ⟨b,cols,x,rfl,o,n,j⟩:=i
 rw[show aJ kY [dI b,dI cols,.int x]=[some (dI b),some (dI cols),some (.int x)] from rfl]
 walk_at "go"
 refine gY (as:=b) (f:=L3.D.int) (g:=fun _=>dI (List.replicate cols.length x)) (fun R h=>h) (by omega) (fun r p R h=>?_) ?_
 .walk_at "gb"
  refine⟨⟨rfl,by omega,by simp;omega⟩,?_⟩
  rw[An]
  exact h
 .rw[show b.map (fun _=>dI (List.replicate cols.length x))=(bp b.length cols.length x).map dI by unfold bp;rw[Pz];exact List.map_const ..]
  exact j
def fD(t:aaa)(i j:Nat):aaa:=setCell t i j (1 - cellAt t i j)
def du:DSp:=fun ds P=>∃(t:aaa) (i j n m:Nat),ds=[dT t,.tup [.int i,.int j]]/\bK n m t/\1<=n/\n<=8/\m<=8/\i<n/\j<m/\P (dT (fD t i j))
def ki:bo du:=by
 intro xs P b k h
 unfold du at h ⊢
 grind
def rR:∀ds P,du ds P->ds.length=2:=by
 intro ds P h
 obtain ⟨_,_,_,_,_,e,_⟩:=h
 rw[e];rfl
def tT{c:Cs}{f:Addr}{g:FuncData}(F:FnAt K mg "turned_cell" gM eY f g)(o:Fns K mg c)(T:Txt K mg base)(xs:Exs K mg base c):br P w K mg base CX0 2 f g eY (spP K du):=by
 obtain ⟨C,G,l⟩:=o.h_copied_table
 have y:=lK (P:=P) (w:=w) l o T xs
 refine F.fn.ok lY (fun vs H Q E h=>aR rR h) (fun x A outer s H vs Q E q h=>?_)
 refine⟨_,(ak (wst 2 lY.nd (wcl y q l (aa (pv 0) aj))) (ak (j7 (aH iw aq (wix K (wix K (pv 2) (wit K (pv 1) aq)) (wit K (pv 1) aq))) (lB (wix K (pv 2) (wit K (pv 1) aq)) (wit K (pv 1) aq) set_list)) (av (aB (pv 2))))),bb (Γn:=[2]) (N:=j6) (ax (ST.post (Γn:=[2]) (cG (M:=[]) 2 (aD (S:=cU) jR (ai (ES.er (af 0)) au)))) (ax (qY 2 (ay bJ (EM.er ar) (sR (sR (dY 2) (ES.er (bT (af 1) (EM.er ar)))) (ES.er (bT (af 1) (EM.er ar))))) (ES.er (bT (af 1) (EM.er ar))) (ES.er (bT (af 1) (EM.er ar)))) (aI (M:=[2]) (gf 2)))) (fun ds P r=>?_) h⟩
 obtain ⟨t,i,j,n,m,rfl,e,n1,z,B,hi,hj,u⟩:=r
 rw[show aJ j6 [dT t,.tup [.int i,.int j]]=[some (dT t),some (.tup [.int i,.int j]),none] from rfl]
 have lt:=e.1
 have p:=e.row hi
 walk_at "go"
 refine⟨t,rfl,by omega,?_⟩
 refine oR (t:=t) (a:=i) (b:=j) (v:=1 - cellAt t i j) rfl (fun R h=>?_) (fun R h=>?_) (fun R h=>?_) (by omega) (by rw[Md,p];omega) ?_
 .walk_at "go"
  refine kJ e (by omega) (by omega) ?_
  walk_at "go"
  exact h
 .walk_at "go"
  exact h
 .walk_at "go"
  exact h
 walk_at "go"
 exact u
def bg{n m i j:Nat}{x:Int}(hi:i<n)(hj:j<m):cellAt (bp n m x) i j=x:=by
 unfold cellAt bp
 rw[gV,gV,MQ,if_pos hi,M3,MQ,if_pos hj];rfl
def mX(c:Cs):DSX:=fun ds P R=>∃(b cols:aab) (x y:Int),ds=[dI b,dI cols,.tup [.int x,.int y]]/\1<=b.length/\b.length<=8/\1<=cols.length/\cols.length<=8/\(∀r∈b,0<=r)/\(∀c∈cols,0<=c) /\
 (¬ ((0<=x/\x<b.length)/\0<=y/\y<cols.length)->R c.NoPlace)/\(((0<=x/\x<b.length)/\0<=y/\y<cols.length)->¬ lQ b cols->R c.NoSums) /\
 (((0<=x/\x<b.length)/\0<=y/\y<cols.length)->lQ b cols->∀i j:Nat,x=i->y=j ->
  (∀U V,Ct b.length cols.length b cols (bp b.length cols.length 0) (fD (bp b.length cols.length 1) i j) U V->P (.tup [.str "one",dN U,dN V])) /\
  (∀t U V,Bt b.length cols.length b cols (bp b.length cols.length 0) (fD (bp b.length cols.length 1) i j) t->Ct b.length cols.length b cols (fD (bp b.length cols.length 0) i j) (bp b.length cols.length 1) U V->P (.tup [.str "zero",dN U,dN V])) /\
  ∀t t',Bt b.length cols.length b cols (bp b.length cols.length 0) (fD (bp b.length cols.length 1) i j) t->Bt b.length cols.length b cols (fD (bp b.length cols.length 0) i j) (bp b.length cols.length 1) t'->P (.tup [.str "free",dT t,dT t']))
def iL{c:Cs}:j4 (mX c):=by
 intro xs P B R y k g h
 obtain ⟨a1,a2,x,v,e,u,s,r,p,o,n,m,l,f⟩:=h
 exact⟨a1,a2,x,v,e,u,s,r,p,o,n,fun z=>g _ (m z),fun z q=>g _ (l z q),fun z q i j e1 e2=>⟨fun U V w=>k _ ((f z q i j e1 e2).1 U V w),fun t U V w b=>k _ ((f z q i j e1 e2).2.1 t U V w b),fun t t' w b=>k _ ((f z q i j e1 e2).2.2 t t' w b)⟩⟩
def ze{c:Cs}:∀ds P R,mX c ds P R->ds.length=3:=by
 intro ds P R h
 obtain ⟨_,_,_,_,e,_⟩:=h
 rw[e];rfl
def oo{c:Cs}{f:Addr}{fd:FuncData}(F:FnAt K mg "fate_of" mY kn f fd)(g:Fns K mg c)(T:Txt K mg base)(xs:Exs K mg base c):br P w K mg base (CXR P w) 7 f fd kn (spX K (mX c)):=by
 obtain ⟨B,d0,L⟩:=g.h_full_table
 have PZ:=vh (P:=P) (w:=w) L g T xs
 obtain ⟨v,d1,p⟩:=g.h_table_between
 have O7:=p7 (P:=P) (w:=w) p g T xs
 obtain ⟨f2,d2,J⟩:=g.h_turned_cell
 have Pr:=tT (P:=P) (w:=w) J g T xs
 obtain ⟨f3,d3,I⟩:=g.h_is_place
 have Qr:=zg (P:=P) (w:=w) I g T xs
 obtain ⟨f4,d4,Qc⟩:=g.h_ones_with
 have Rn:=wU (P:=P) (w:=w) Qc g T xs
 refine F.fn.okX jw (fun vs H Q E h=>xy ze h) (fun cdv A outer s H vs Q E l h=>?_)
 refine⟨_,(ak (bB (PT.nox (PW.pt (lN (dX (c3 (wcl Qr l I (aa (wit K (pv 2) aq) (aa (wln K T.len_ (pv 0)) aj))))) (j5 (dX (c3 (wcl Qr l I (aa (wit K (pv 2) aq) (aa (wln K T.len_ (pv 1)) aj))))))))) (av (tG (xs.o_NoPlace.own xs.m_NoPlace) Pw rfl rfl wY (aa cM aj))) aV) (ak (bB (PT.nox (aM rA (wit K (wcl Rn l Qc (aa (pv 0) (aa (pv 1) aj))) aq) cM (aW _))) (av (tG (xs.o_NoSums.own xs.m_NoSums) Pw rfl rfl wY (aa cM aj))) aV) (ak (PS.nox (wst 3 jw.nd (wcl PZ l L (aa (pv 0) (aa (pv 1) (aa aq aj)))))) (ak (PS.nox (wst 4 jw.nd (wcl PZ l L (aa (pv 0) (aa (pv 1) (aa aq aj)))))) (ak (A5 (i:=5) jw.nd rfl (by walk_at "o") (mZ O7 (l.mono (by decide)) rfl p.mg p.fn.kp p.bd .nil A1 (PA.nox (aa (pv 0) (aa (pv 1) (aa (pv 3) (aa (wcl Pr l J (aa (pv 4) (aa (pv 2) aj))) aj))))))) (ak (PS.nox (bB (aM ku (wit K (pv 5) aq) cM (aW _)) (av (aB (c4 (aa cM (aa (wit K (pv 5) aq) (aa (wit K (pv 5) aq) aj)))))) aV)) (ak (A5 (i:=6) jw.nd rfl (by walk_at "o") (mZ O7 (l.mono (by decide)) rfl p.mg p.fn.kp p.bd .nil A1 (PA.nox (aa (pv 0) (aa (pv 1) (aa (wcl Pr l J (aa (pv 3) (aa (pv 2) aj))) (aa (pv 4) aj))))))) (PSs.nox (ak (bB (aM ku (wit K (pv 6) aq) cM (aW _)) (av (aB (c4 (aa cM (aa (wit K (pv 6) aq) (aa (wit K (pv 6) aq) aj)))))) aV) (av (aB (c4 (aa cM (aa (wit K (pv 5) aq) (aa (wit K (pv 6) aq) aj))))))))))))))),yl (Γn:=[6,5,4,3]) (N:=qI) (fun R=>(kX (He (lS (eQ (mM (EM.er (aD (S:=gz) nJ (ai (ES.er (bT (af 2) (EM.er ar))) (ai (EM.er (aS bI (ai (ES.er (af 0)) au))) au)))))) (eQ (mM (EM.er (aD (S:=gz) nJ (ai (ES.er (bT (af 2) (EM.er ar))) (ai (EM.er (aS bI (ai (ES.er (af 1)) au))) au))))))) (tO (ai (EM.er cS) au)) (ST.sx aX)) (kX (He (aL (EM.er (ay yC (EM.er (La (aD (S:=jQ) ua (ai (ES.er (af 0)) (ai (ES.er (af 1)) au))) (EM.er ar))) (EM.er cS)))) (tO (ai (EM.er cS) au)) (ST.sx aX)) (kX (ST.sx (ST.post (Γn:=[3]) (cG (M:=[]) 3 (aD (S:=eL) lP (ai (ES.er (af 0)) (ai (ES.er (af 1)) (ai (EM.er ar) au))))))) (kX (ST.sx (ST.post (Γn:=[4,3]) (cG (M:=[]) 4 (aD (S:=eL) lP (ai (ES.er (af 0)) (ai (ES.er (af 1)) (ai (EM.er ar) au))))))) (kX (Es 5 jd (ai (ES.er (af 0)) (ai (ES.er (af 1)) (ai (dY 3) (ai (EM.er (aD (S:=du) ki (ai (dY 4) (ai (ES.er (af 2)) au)))) au))))) (kX (ST.sx (bP (aL (EM.er (ay qR (AN (dY 5) (EM.er ar)) (EM.er cS)))) (aI (M:=[5]) (fo (dD cS (Ag 5)))) aX)) (kX (Es 6 jd (ai (ES.er (af 0)) (ai (ES.er (af 1)) (ai (EM.er (aD (S:=du) ki (ai (dY 3) (ai (ES.er (af 2)) au)))) (ai (dY 4) au))))) (ST.sx (ax (bP (aL (EM.er (ay qR (AN (dY 6) (EM.er ar)) (EM.er cS)))) (aI (M:=[6]) (fo (dD cS (Ag 6)))) aX) (aI (M:=[5,6]) (fo (dD cS (dD (CV 5 1) (dD (CV 6 1) bf))))))))))))))) (fun ds P R hS=>?_) h⟩
 obtain ⟨e,cols,x,y,rfl,n1,r,X,u,Q6,QE,Z,RY,hP⟩:=hS
 rw[show aJ qI [dI e,dI cols,.tup [.int x,.int y]]=[some (dI e),some (dI cols),some (.tup [.int x,.int y]),none,none,none,none] from rfl]
 walk_at "go"
 refine⟨x,_,rfl,?_⟩
 walk_at "go"
 by_cases o:0<=x/\x<e.length
 .by_cases q:0<=y/\y<cols.length
  .rw[if_neg (by simp [o])]
   refine⟨y,_,rfl,?_⟩
   walk_at "go"
   rw[if_neg (by simp [q])]
   refine⟨e,cols,rfl,r,u,Q6,QE,fun Y t ht=>?_,fun hn=>⟨fun ps _=>?_,fun ps _=>?_⟩⟩
   .walk_at "go"
    obtain ⟨i,rfl⟩:∃i:Nat,x=i:=⟨x.toNat,by omega⟩
    obtain ⟨j,rfl⟩:∃j:Nat,y=j:=⟨y.toNat,by omega⟩
    obtain ⟨p1,p2,p3⟩:=hP ⟨o,q⟩ Y i j rfl rfl
    have hi:i<e.length:=by omega
    have hj:j<cols.length:=by omega
    have O:e.sum=cols.sum:=pX Y
    have B:=iT (n:=e.length) (m:=cols.length) (x:=0)
    have v:=iT (n:=e.length) (m:=cols.length) (x:=1)
    have w1:Low e.length cols.length (bp e.length cols.length 0) (fD (bp e.length cols.length 1) i j):=fun a b ha hb=>by
     unfold fD
     rw[px v hi hj,bg ha hb,bg ha hb,bg hi hj];split<;>omega
    have w2:Low e.length cols.length (fD (bp e.length cols.length 0) i j) (bp e.length cols.length 1):=fun a b ha hb=>by
     unfold fD
     rw[px B hi hj,bg ha hb,bg ha hb,bg hi hj];split<;>omega
    refine⟨e,cols,0,rfl,r,u,?_⟩
    refine⟨e,cols,1,rfl,r,u,?_⟩
    refine⟨_,i,j,_,_,rfl,v,n1,r,u,hi,hj,?_⟩
    refine⟨e,cols,_,_,_,_,rfl,B,v.setCell hi,n1,by omega,X,by omega,rfl,rfl,fun z=>absurd w1 z,fun _ z=>absurd O z,fun _ _ t1 C=>?_,fun _ _ U V C=>?_⟩
    .walk_at "go"
     rw[if_neg (by decide)]
     refine⟨_,i,j,_,_,rfl,B,n1,r,u,hi,hj,?_⟩
     refine⟨e,cols,_,_,_,_,rfl,B.setCell hi,v,n1,by omega,X,by omega,rfl,rfl,fun z=>absurd w2 z,fun _ z=>absurd O z,fun _ _ t2 G=>?_,fun _ _ U V G=>?_⟩
     .walk_at "go"
      rw[if_neg (by decide)]
      exact⟨_,_,rfl,rfl,_,_,rfl,rfl,by decide,p3 t1 t2 C G⟩
     .walk_at "go"
      exact⟨_,_,_,rfl,by show 3<=1000;decide,p2 t1 U V C G⟩
    .walk_at "go"
     exact⟨_,_,_,rfl,by show 3<=1000;decide,p1 U V C⟩
   .walk_at "go"
    rw[if_pos (by decide)]
    exact⟨by decide,RY ⟨o,q⟩ hn⟩
   .walk_at "go"
    rw[if_pos (by decide)]
    exact⟨by decide,RY ⟨o,q⟩ hn⟩
  .rw[if_neg (by simp [o])]
   refine⟨y,_,rfl,?_⟩
   walk_at "go"
   rw[if_pos (by simpa using q)]
   exact⟨by decide,Z fun z=>q z.2⟩
 .rw[if_pos (by simpa using o)]
  exact⟨by decide,Z fun z=>o z.1⟩
def fH:DSp:=fun ds P=>∃i,ds=[.int i]/\P (.bl true)
def mx:bo fH:=by
 intro xs P b k h
 unfold fH at h ⊢
 grind
def vf:∀ds P,fH ds P->ds.length=1:=by
 intro ds P h
 obtain ⟨_,e,_⟩:=h
 rw[e];rfl
def pK{c:Cs}{f:Addr}{b:FuncData}(F:FnAt K mg "_law_whole" jT ig f b)(m:Fns K mg c)(T:Txt K mg base)(xs:Exs K mg base c):br P w K mg base CX0 1 f b ig (spP K fH):=by
 refine F.fn.ok xP (fun vs H Q E h=>aR vf h) (fun j A outer s H vs Q E l h=>?_)
 refine⟨_,(av (aB (tq (aQ (eI (K:=K) rfl) (by rfl) T.isinstance_ boot_isinstance (aa (pv 0) (aa (jS (v:=.ty "int") rfl T.int_ boot_int rfl) aj))) (qg (Km (aQ (eI (K:=K) rfl) (by rfl) T.isinstance_ boot_isinstance (aa (pv 0) (aa (jS (v:=.ty "bool") rfl T.bool_ boot_bool rfl) aj)))))))),bb (Γn:=[]) (N:=mI) (aI (M:=[]) (pw (EM.er (iU HD (ES.er (af 0)))) (IZ (EM.er (iU El (ES.er (af 0))))))) (fun ds P e=>?_) h⟩
 obtain ⟨i,rfl,g⟩:=e
 rw[show aJ mI [.int i]=[some (.int i)] from rfl]
 walk_at "v"
 exact g
def iX:DSp:=fun ds P=>∃(ns:aab) (k:Nat),ds=[.scr ns,.int (k:Int)]/\ns.length<=63/\k<=100/\∀b:aab,b.length=k->(∀x∈b,0<=x/\x<2 ^ 60)->P (dI b)
def uU:bo iX:=by
 intro xs P b k h
 unfold iX at h ⊢
 grind
def wK:∀ds P,iX ds P->ds.length=2:=by
 intro ds P h
 obtain ⟨_,_,e,_⟩:=h
 rw[e];rfl
def yz{c:Cs}{f:Addr}{p:FuncData}(F:FnAt K mg "_law_deck" lp ji f p)(O:Fns K mg c)(T:Txt K mg base)(xs:Exs K mg base c):br P w K mg base CX0 1 f p ji (spP K iX):=by
 refine F.fn.ok eC (fun vs H Q E h=>aR wK h) (fun G A outer s H vs Q E J h=>?_)
 refine⟨_,(ak (wst 2 eC.nd (bR aj)) (ak (wst 3 eC.nd (aH bN aq (wln K T.len_ (pv 0)))) (ak (wfo (wil K (pv 0)) (wpg 4 eC.nd) (av (wst 3 eC.nd (aH bH (aH bN (aH pZ (pv 3) aq) (pv 4)) aq)))) (ak (wfo (bu rfl T.range_ (aa (pv 1) aj)) (wpg 5 eC.nd) (ak (wst 3 eC.nd (aH bH (aH bN (aH bN (aH pZ (pv 3) aq) aq) (pv 5)) aq)) (av (bB (aM sG (pv 5) (wln K T.len_ (pv 0)) (aW _)) (av (cZ (mi MG MX MW df (pv 2) (aa (aH bH (wix K (pv 0) (pv 5)) (aH AL aq aq)) aj)))) (av (cZ (mi MG MX MW df (pv 2) (aa (pv 3) aj)))))))) (av (aB (pv 2))))))),bb (Γn:=[2]) (N:=nY) (ax (ST.post (Γn:=[2]) (cG (M:=[]) 2 (bS bf))) (ax (ST.post (Γn:=[2]) (aK 3 (EM.es (ay bJ (EM.er ar) (EM.er (aS bI (ai (ES.er (af 0)) au))))))) (ax (eG (bL (af 0)) (aN 4) (ST.post (Γn:=[2]) (aK 3 (EM.es (ay aT (EM.er (ay bJ (EM.er (ay aT (ES.er (af 3)) (EM.er ar))) (ES.er (af 4)))) (EM.er ar)))))) (ax (eG (cm (ai (ES.er (af 1)) au)) (aN 5) (ax (ST.post (Γn:=[2]) (aK 3 (EM.es (ay aT (EM.er (ay bJ (EM.er (ay bJ (EM.er (ay aT (ES.er (af 3)) (EM.er ar))) (EM.er ar))) (ES.er (af 5)))) (EM.er ar))))) (bP (aL (EM.er (ay nh (ES.er (af 5)) (EM.er (aS bI (ai (ES.er (af 0)) au)))))) (ST.post (Γn:=[2]) (dn (M:=[]) 2 (ay aT (ES.er (aA (af 0) (ES.er (af 5)))) (EM.er (ay aT (EM.er ar) (EM.er ar)))))) (ST.post (Γn:=[2]) (dn (M:=[]) 2 (ER.aP (ES.er (af 3)))))))) (aI (M:=[2]) (gf 2)))))) (fun ds P B=>?_) h⟩
 obtain ⟨ns,k,rfl,I,L,C⟩:=B
 rw[show aJ nY [.scr ns,.int (k:Int)]=[some (.scr ns),some (.int (k:Int)),none,none,none,none] from rfl]
 walk_at "go"
 refine fK (as:=ns) (f:=L3.D.int) (fun i δ=>∃(y:Int) (g:Option D),δ=[some (.scr ns),some (.int (k:Int)),some (dI []),some (.int y),g,none]/\0<=y/\y<2 ^ 32) ⟨_,none,rfl,by omega,by omega⟩ ?_ ?_
 .rintro i a δ N e ⟨y,g,rfl,o,m⟩ l
  walk_at "go"
  have h:=emod_lt (x:=y*48271+a) (n:=2147483629) (by decide)
  exact l _ ⟨_,_,rfl,h.1,by have:=h.2;omega⟩
 .rintro δ ⟨y,g,rfl,o,m⟩
  walk_at "go"
  refine gn (lo:=0) (n:=k) (fun i δ=>∃(y:Int) (b:aab) (j:Option D),δ=[some (.scr ns),some (.int (k:Int)),some (dI b),some (.int y),g,j]/\0<=y/\y<2 ^ 32/\b.length=i/\∀x∈b,0<=x/\x<2 ^ 60) ⟨y,[],none,rfl,o,m,rfl,fun x h=>(nomatch h)⟩ ?_ ?_
  .rintro i δ N hi ⟨y,b,j,rfl,r,q,hl,hd⟩ l
   rw[M1]
   walk_at "go"
   have h:=emod_lt (x:=y*69621+7+i) (n:=2147483647) (by decide)
   have step:∀v:Int,0<=v->v<2 ^ 60->N [some (.scr ns),some (.int (k:Int)),some (dI (b++[v])),some (.int ((y*69621+7+i) % 2147483647)),g,some (.int (i:Int))]:=fun v t v1=>l _ ⟨_,_,_,rfl,h.1,by have:=h.2;omega,by rw[Mt,hl];rfl,fun x u=>by
    rcases Mf.mp u with z|z
    .exact hd x z
    .cases Gc.mp z;exact⟨t,v1⟩⟩
   split
   .rename_i c
    refine aO (by omega) ?_
    walk_at "go"
    have v:=emod_lt (x:=ns.getD i 0) (n:=1000000000000000000) (by decide)
    rw[oU]
    exact step _ v.1 (by have:=v.2;omega)
   .rw[oU]
    exact⟨by omega,step _ h.1 (by have:=h.2;omega)⟩
  .rintro δ ⟨y,b,j,rfl,r,q,hl,hd⟩
   walk_at "go"
   exact C b hl hd
def gS:DSp:=fun ds P=>∃x:Int,ds=[.int x]/\0<=x/\∀n m:Nat,1<=n->n<=8->1<=m->m<=8->P (dI [(n:Int),(m:Int)])
def tW:bo gS:=by
 intro xs P b k h
 unfold gS at h ⊢
 grind
def vi:∀ds P,gS ds P->ds.length=1:=by
 intro ds P h
 obtain ⟨_,e,_⟩:=h
 rw[e];rfl
def xt{c:Cs}{f:Addr}{e:FuncData}(F:FnAt K mg "_law_shape" jU ik f e)(v:Fns K mg c)(T:Txt K mg base)(xs:Exs K mg base c):br P w K mg base CX0 1 f e ik (spP K gS):=by
 refine F.fn.ok wX (fun vs H Q E h=>aR vi h) (fun l A outer s H vs Q E o h=>?_)
 refine⟨_,(ak (bB (aM ku (aH bH (pv 0) aq) aq (aW _)) (av (aB (bR (aa (aH bN aq (aH bH (aH cH (pv 0) aq) aq)) (aa (aH bN aq (aH bH (aH cH (pv 0) aq) aq)) aj))))) aV) (av (aB (bR (aa (aH bN aq (aH bH (aH cH (pv 0) aq) aq)) (aa (aH bN aq (aH bH (aH cH (pv 0) aq) aq)) aj)))))),bb (Γn:=[]) (N:=l4) (ax (bP (aL (EM.er (ay qR (EM.er (ay aT (ES.er (af 0)) (EM.er ar))) (EM.er ar)))) (aI (M:=[]) (bS (aE (ay bJ (EM.er ar) (EM.er (ay aT (EM.er (ay aT (ES.er (af 0)) (EM.er ar))) (EM.er ar)))) (aE (ay bJ (EM.er ar) (EM.er (ay aT (EM.er (ay aT (ES.er (af 0)) (EM.er ar))) (EM.er ar)))) bf)))) aX) (aI (M:=[]) (bS (aE (ay bJ (EM.er ar) (EM.er (ay aT (EM.er (ay aT (ES.er (af 0)) (EM.er ar))) (EM.er ar)))) (aE (ay bJ (EM.er ar) (EM.er (ay aT (EM.er (ay aT (ES.er (af 0)) (EM.er ar))) (EM.er ar)))) bf))))) (fun ds P i=>?_) h⟩
 obtain ⟨x,rfl,m,j⟩:=i
 rw[show aJ l4 [.int x]=[some (.int x)] from rfl]
 have a1:=emod_lt (x:=x / 16) (n:=8) (by omega)
 have a2:=emod_lt (x:=x / 128) (n:=8) (by omega)
 have u:=emod_lt (x:=x / 16) (n:=5) (by omega)
 have t:=emod_lt (x:=x / 128) (n:=5) (by omega)
 have g:∀a b:Int,1<=a->a<=8->1<=b->b<=8->P (L3.D.lst [L3.D.int a,L3.D.int b]):=fun a b p q r s=>by
  have:=j a.toNat b.toNat (by omega) (by omega) (by omega) (by omega)
  rw[Od (by omega),Od (by omega)] at this
  exact this
 walk_at "go"
 split
 .walk_at "go"
  exact g _ _ (by omega) (by omega) (by omega) (by omega)
 .walk_at "go"
  exact g _ _ (by omega) (by omega) (by omega) (by omega)
def oj(m:Nat)(t:aaa):aab:=(List.range m).map fun (j:Nat)=>jH t j
def gJ:DSp:=fun ds P=>∃(t:aaa) (n m:Nat),ds=[dT t]/\bK n m t/\1<=n/\n<=8/\1<=m/\m<=8/\P (.lst [dI (t.map List.sum),dI (oj m t)])
def nD:bo gJ:=by
 intro xs P b k h
 unfold gJ at h ⊢
 grind
def xK:∀ds P,gJ ds P->ds.length=1:=by
 intro ds P h
 obtain ⟨_,_,_,e,_⟩:=h
 rw[e];rfl
def qV{c:Cs}{f:Addr}{o:FuncData}(F:FnAt K mg "_law_sums" gG jc f o)(I:Fns K mg c)(T:Txt K mg base)(xs:Exs K mg base c):br P w K mg base CX0 1 f o jc (spP K gJ):=by
 refine F.fn.ok mL (fun vs H Q E h=>aR xK h) (fun x A outer s H vs Q E e h=>?_)
 refine⟨_,(ak (wst 1 mL.nd (bR aj)) (ak (wfo (bu rfl T.range_ (aa (wln K T.len_ (wix K (pv 0) aq)) aj)) (wpg 2 mL.nd) (av (cZ (mi MG MX MW df (pv 1) (aa (aQ (cQ (K:=K) rfl rfl) (by rfl) T.sum_ boot_sum (aa (wco (aw gG) "_law_line" ["_law_j"] [2] (wil K (pv 0)) (fun _ _ _ _ _=>(wix K (pv 0) (pv 1)))) aj)) aj))))) (av (aB (bR (aa (wco (aw gG) "_law_line" [] [] (wil K (pv 0)) (fun _ _ _ _ _=>(aQ (cQ (K:=K) rfl rfl) (by rfl) T.sum_ boot_sum (aa (pv 0) aj)))) (aa (pv 1) aj))))))),bb (Γn:=[1]) (N:=nV) (ax (ST.post (Γn:=[1]) (cG (M:=[]) 1 (bS bf))) (ax (eG (cm (ai (EM.er (aS bI (ai (ES.er (aA (af 0) (EM.er ar))) au))) au)) (aN 2) (ST.post (Γn:=[1]) (dn (M:=[]) 1 (aS l7 (ai (EM.er (bw (bL (af 0)) (aN 0) (ER.aP (ES.er (aA (af 0) (ES.er (af 1))))))) au))))) (aI (M:=[1]) (bS (dD (bw (bL (af 0)) (aN 0) (aS l7 (ai (ES.er (af 0)) au))) (dD (gf 1) bf)))))) (fun ds P q=>?_) h⟩
 obtain ⟨t,n,m,rfl,l,n1,y,B,z,u⟩:=q
 rw[show aJ nV [dT t]=[some (dT t),none,none] from rfl]
 have lt:=l.1
 have p:=l.row (i:=0) (by omega)
 walk_at "go"
 refine fc (by omega) ?_
 walk_at "go"
 rw[show (rowAt t 0).length=m from p]
 refine gn (lo:=0) (n:=m) (fun j δ=>∃(b:Option D),δ=[some (dT t),some (dI (oj j t)),b]) ⟨none,rfl⟩ ?_ ?_
 .rintro j δ N hj ⟨b,rfl⟩ v
  have G:(oj j t).length=j:=by unfold oj;rw[mo,Mi]
  rw[M1]
  walk_at "go"
  refine kH (t:=t) (g:=fun r=>.int (r.getD j 0)) (fun R h=>h) (by omega) (fun r e R h=>?_) ?_
  .have C:=l.2 r e
   walk_at "gb"
   refine aO (by omega) ?_
   rw[Md]
   exact⟨rfl,h⟩
  rw[show t.map (fun r=>L3.D.int (r.getD j 0))=(t.map fun r=>r.getD j 0).map L3.D.int by rw[MB];rfl]
  walk_at "go"
  rw[oU,show oj j t++[(t.map fun r=>r.getD j 0).sum]=oj (j+1) t by unfold oj;rw[List.range_succ,MC];rfl]
  exact v _ ⟨_,rfl⟩
 .rintro δ ⟨b,rfl⟩
  walk_at "go"
  refine kH (t:=t) (g:=fun r=>.int r.sum) (fun R h=>h) (by omega) (fun r e R h=>by walk_at "gb";exact h) ?_
  rw[show t.map (fun r=>L3.D.int r.sum)=(t.map List.sum).map L3.D.int by rw[MB];rfl]
  walk_at "go"
  exact u
def Kf{ns:aab}{k:Nat}(h:k<=ns.length):L3.cutD (ns.map L3.D.int) (some (k:Int)) none=(ns.drop k).map L3.D.int:=by
 unfold L3.cutD
 rw[mo,HT.uH,HT.sk,List.map_drop,NS h,Nl (by rw[Nk,mo];exact Mm _)]
def fI{A R:DS}{E:bc}{δ:Dl}(h:∀b,b=R->xl A b E δ):xl A R E δ:=h R rfl
def EN{t:aaa}:((t.map dI).mapIdx fun i d=>L3.D.tup [.int i,d])=(List.range t.length).map fun (i:Nat)=>L3.D.tup [.int (i:Int),dI (rowAt t i)]:=by
 refine NJ (by simp) fun i e c=>?_
 have b:i<t.length:=by simpa using c
 rw[List.getElem_mapIdx,NI,NI,NQ]
 unfold rowAt
 rw[gV,dz b];rfl
def D5{n m:Nat}{t:aaa}{r:aab}(h:nu n m t)(hl:r.length=m)(c:∀x∈r,x=0\/x=1):nu (n+1) m (t++[r]) :=
 ⟨⟨by rw[Mt,h.1.1];rfl,fun x b=>by
  rcases Mf.mp b with z|z
  .exact h.1.2 x z
  .rw[Gc.mp z];exact hl⟩,fun x b=>by
  rcases Mf.mp b with z|z
  .exact h.2 x z
  .rw[Gc.mp z];exact c⟩
def B2{t:aaa}{r:aab}:L3.D.lst (t.map dI++[dI r])=dT (t++[r]):=by
 show _=L3.D.lst ((t++[r]).map dI)
 rw[MC];rfl
def lz:DSp:=fun ds P=>∃(ns b:aab),ds=[.scr ns,dI b]/\ns.length<=63/\b.length=16/\(∀x∈b,0<=x/\x<2 ^ 60)/\∀(t:aaa) (n m:Nat),nu n m t->1<=n->n<=8->1<=m->m<=8->P (dT t)
def vg:bo lz:=by
 intro xs P o k h
 obtain ⟨ns,g,e,f,c,b,h⟩:=h
 exact⟨ns,g,e,f,c,b,fun t n m a1 a2 l j i=>k _ (h t n m a1 a2 l j i)⟩
def wW:∀ds P,lz ds P->ds.length=2:=by
 intro ds P h
 obtain ⟨_,_,e,_⟩:=h
 rw[e];rfl
def zF{c:Cs}{f:Addr}{fd:FuncData}(F:FnAt K mg "_law_ones" fA i7 f fd)(A_:Fns K mg c)(T:Txt K mg base)(xs:Exs K mg base c):br P w K mg base CX0 2 f fd i7 (spP K lz):=by
 obtain ⟨f0,d0,Qd⟩:=A_.h_law_shape
 have Ro:=xt (P:=P) (w:=w) Qd A_ T xs
 refine F.fn.ok bF (fun vs H Q E h=>aR wW h) (fun cdv A outer s H vs Q E I h=>?_)
 refine⟨_,(ak (j7 (wcl Ro I Qd (aa (wix K (pv 1) aq) aj)) (Iw (K:=K) rfl rfl (oI (wpg 2 bF.nd) (oI (wpg 3 bF.nd) CH)))) (ak (wst 4 bF.nd (aH bH (wix K (pv 1) aq) aq)) (ak (wst 5 bF.nd (bR aj)) (ak (wfo (bu rfl T.range_ (aa (pv 2) aj)) (wpg 6 bF.nd) (ak (wst 7 bF.nd (wix K (pv 1) (aH bN aq (pv 6)))) (ak (wst 8 bF.nd (aH bH (pv 7) (aH bN (pv 3) aq))) (av (bB (aM ku (pv 4) aq (aW _)) (av (cZ (mi MG MX MW df (pv 5) (aa (wco (aw fA) "_law_j" ["_law_cell"] [7] (bu rfl T.range_ (aa (pv 3) aj)) (fun _ _ _ _ _=>(aH bH (aH cH (aH cH (pv 1) aq) (aH bN aq (aH pZ aq (pv 0)))) aq))) aj)))) (av (cZ (mi MG MX MW df (pv 5) (aa (wco (aw fA) "_law_j" ["_law_many"] [8] (bu rfl T.range_ (aa (pv 3) aj)) (fun _ _ _ _ _=>(cP qB (by rfl) T.int_ boot_int (aa (kZ sG (pv 0) (pv 1) (aW _)) aj)))) aj))))))))) (ak (bB (aM ku (pv 4) aq (aW _)) (av (uj (i:=5) (bt.of (sc0:=(aw fA)) (tn:=["_law_k","_law_line"]) (cap:=["_law_wide"]) (idx:=[3]) (by decide +kernel) rfl rfl) bF.nd rfl (by walk_at "o") (G3 (K:=K) rfl rfl T.enumerate_ (aa (pv 5) aj)) (ma.tup (pq.cons (by decide) (pq.cons (by decide) pq.nil))) (fun _ _ _ _ _=>Ip (K:=K) (n:=2) rfl rfl (oI (gO (i:=0) (bU (l:=["_law_k","_law_line","_law_wide"]) (by decide +kernel)) rfl (by walk_at "o") (by first|exact .inl rfl|exact .inr rfl)) (oI (gO (i:=1) (bU (l:=["_law_k","_law_line","_law_wide"]) (by decide +kernel)) rfl (by walk_at "o") (by first|exact .inl rfl|exact .inr rfl)) CH))) (fun _ _ _ _ _=>(aH GL (mJ (p5 (K:=K) rfl) (pv 1) (oY (aH bH (pv 0) (pv 2))) pH) (mJ (p5 (K:=K) rfl) (pv 1) pH (oY (aH bH (pv 0) (pv 2)))))))) aV) (ak (bB (aM rA (pv 4) aq (aW _)) (av (wfo (bu rfl T.range_ (aa (wln K T.len_ (pv 0)) aj)) (wpg 9 bF.nd) (ak (wst 10 bF.nd (wix K (pv 5) (aH bH (pv 9) (pv 2)))) (ak (wst 11 bF.nd (aH bH (aH cH (pv 9) (pv 2)) (pv 3))) (av (j7 (aH bH (aH bN (wix K (pv 10) (pv 11)) (aH cH (wix K (pv 0) (pv 9)) aq)) aq) (lB (pv 10) (pv 11) set_list))))))) aV) (av (aB (pv 5))))))))),bb (Γn:=[5]) (N:=oE) (ax (HS (EM.es (aD (S:=gS) tW (ai (ES.er (aA (af 1) (EM.er ar))) au))) (JY (pA (aN 2) (pA (aN 3) Cr)))) (ax (ST.post (Γn:=[]) (aK 4 (EM.es (ay aT (ES.er (aA (af 1) (EM.er ar))) (EM.er ar))))) (ax (ST.post (Γn:=[5]) (cG (M:=[]) 5 (bS bf))) (ax (eG (cm (ai (ES.er (af 2)) au)) (aN 6) (ax (ST.post (Γn:=[5]) (aK 7 (aA (af 1) (EM.er (ay bJ (EM.er ar) (ES.er (af 6))))))) (ax (ST.post (Γn:=[5]) (aK 8 (EM.es (ay aT (ES.er (af 7)) (EM.er (ay bJ (ES.er (af 3)) (EM.er ar))))))) (bP (aL (EM.er (ay qR (ES.er (af 4)) (EM.er ar)))) (ST.post (Γn:=[5]) (dn (M:=[]) 5 (bw (cm (ai (ES.er (af 3)) au)) (aN 0) (ay aT (EM.er (ay aT (EM.er (ay aT (ES.er (af 1)) (EM.er ar))) (EM.er (ay bJ (EM.er ar) (EM.er (ay aT (EM.er ar) (ES.er (af 0)))))))) (EM.er ar))))) (ST.post (Γn:=[5]) (dn (M:=[]) 5 (bw (cm (ai (ES.er (af 3)) au)) (aN 0) (aS Lf (ai (EM.er (ay nh (ES.er (af 0)) (ES.er (af 1)))) au))))))))) (ax (bP (aL (EM.er (ay qR (ES.er (af 4)) (EM.er ar)))) (ST.post (Γn:=[5]) (cG (M:=[]) 5 (EM.free (bw (IV (af 5)) (Kg (pA (aN 0) (pA (aN 1) Cr))) (ay Js (EM.er (C4 (ES.er (af 1)) (or_some (EM.er (ay aT (ES.er (af 0)) (ES.er (af 2))))) or_none)) (EM.er (C4 (ES.er (af 1)) or_none (or_some (EM.er (ay aT (ES.er (af 0)) (ES.er (af 2)))))))))))) aX) (ax (bP (aL (EM.er (ay yC (ES.er (af 4)) (EM.er ar)))) (eG (cm (ai (EM.er (aS bI (ai (ES.er (af 0)) au))) au)) (aN 9) (Gd 5 10 (EM.er (ay aT (ES.er (af 9)) (ES.er (af 2)))) (ID (HF 11 (EM.er (ay aT (EM.er (ay aT (ES.er (af 9)) (ES.er (af 2)))) (ES.er (af 3))))) (Hi (EM.er (ay aT (EM.er (ay bJ (ES.er (aA (af 10) (ES.er (af 11)))) (EM.er (ay aT (ES.er (aA (af 0) (ES.er (af 9)))) (EM.er ar))))) (EM.er ar))) (ES.er (af 11)))))) aX) (aI (M:=[5]) (gf 5)))))))) (fun ds P hS=>?_) h⟩
 obtain ⟨ns,o,rfl,hz,hl,hd,hP⟩:=hS
 rw[show aJ oE [.scr ns,dI o]=[some (.scr ns),some (dI o),none,none,none,none,none,none,none,none,none,none] from rfl]
 have dg:∀k,0<=o.getD k 0/\o.getD k 0<2 ^ 60:=fun k=>by
  rw[gV]
  cases e:o[k]? with
  |none=>exact⟨OH _,by decide⟩
  |some z=>exact hd z (MP e)
 refine fI fun J e1=>?_
 walk_at "go"
 refine aO (by omega) ?_
 refine⟨_,rfl,(dg _).1,fun n m n1 Z m1 m8=>?_⟩
 walk_at "go"
 simp only[Ml,NP]
 walk_at "go"
 subst e1
 refine fI fun J e1=>?_
 walk_at "go"
 refine aO (by omega) ?_
 walk_at "go"
 have k0:=emod_lt (x:=o.getD 1 0) (n:=4) (by decide)
 generalize o.getD 1 0 % 4=q at k0 ⊢
 subst e1
 refine fI fun J e1=>?_
 walk_at "go"
 subst e1
 refine fI fun J e1=>?_
 walk_at "go"
 refine gn (lo:=0) (n:=n) (fun i δ=>∃(t:aaa) (C B y:Option D),δ=[some (.scr ns),some (dI o),some (.int (n:Int)),some (.int (m:Int)),some (.int q),some (dT t),C,B,y,none,none,none]/\nu i m t) ⟨[],none,none,none,rfl,⟨⟨rfl,fun r h=>(nomatch h)⟩,fun r h=>(nomatch h)⟩⟩ ?_ ?_
 .rintro i δ N hi ⟨t,C,B,y,rfl,p⟩ L
  rw[M1]
  have lt:=p.1.1
  walk_at "go"
  refine aO (by omega) ?_
  walk_at "go"
  have Y3:∀g:Nat->Int,(∀j,j<m->g j=0\/g j=1)->nu (i+1) m (t++[(List.range m).map g]):=fun g hg=>D5 p (by rw[mo,Mi]) fun x U=>by
   obtain ⟨j,hj,rfl⟩:=Mh.mp U
   exact hg j (Mq.mp hj)
  by_cases h0:q=0
  .rw[if_pos h0]
   refine gk (lo:=0) (n:=m) (g:=fun (j:Nat)=>.int (o.getD (8+(i:Int)).toNat 0 / 16 / (1+3*(0+(j:Int))) % 2)) (fun R h=>?_) (by omega) (fun j hj R h=>?_) ?_
   .walk_at "go"
    exact h
   .walk_at "gb"
    exact h
   rw[kW]
   refine⟨by omega,L _ ⟨_,_,_,_,by rw[B2],Y3 _ fun j hj=>by omega⟩⟩
  .rw[if_neg h0]
   refine gk (lo:=0) (n:=m) (g:=fun (j:Nat)=>.int (if (0+(j:Int))<o.getD (8+(i:Int)).toNat 0 % ((m:Int)+1) then 1 else 0)) (fun R h=>?_) (by omega) (fun j hj R h=>?_) ?_
   .walk_at "go"
    exact h
   .walk_at "gb"
    exact h
   rw[kW]
   refine⟨by omega,L _ ⟨_,_,_,_,by rw[B2],Y3 _ fun j hj=>by split<;>omega⟩⟩
 rintro δ ⟨t,C,B,y,rfl,p⟩
 subst e1
 dsimp only
 refine fI fun J e1=>?_
 have lt:=p.1.1
 have Nm:∀u:aaa,nu n m u->J { nx:=fun _=>P L3.D.non,rt:=fun x _=>P x,bk:=fun _=>False,ct:=fun _=>False } [some (.scr ns),some (dI o),some (.int (n:Int)),some (.int (m:Int)),some (.int q),some (dT u),C,B,y,none,none,none]:=fun u X=>by
  subst e1
  have lu:=X.1.1
  refine fI fun R2 e2=>?_
  walk_at "go"
  by_cases h1:q=1
  .rw[if_neg (fun z=>z h1)]
   subst e2
   walk_at "go"
   exact hP u n m X n1 Z m1 m8
  .rw[if_pos h1]
   refine⟨by omega,?_⟩
   refine gn (lo:=0) (n:=ns.length) (fun k δ=>∃(v:aaa) (O Y:Option D),δ=[some (.scr ns),some (dI o),some (.int (n:Int)),some (.int (m:Int)),some (.int q),some (dT v),C,B,y,O,none,Y]/\nu n m v) ⟨u,none,none,rfl,X⟩ ?_ ?_
   .rintro k δ N hk ⟨v,O,Y,rfl,G⟩ L
    have lv:=G.1.1
    rw[M1]
    have a1:=emod_lt (x:=(k:Int)) (n:=(n:Int)) (by omega)
    have a2:=emod_lt (x:=(k:Int) / n) (n:=(m:Int)) (by omega)
    obtain ⟨a,ha⟩:∃a:Nat,(k:Int) % n=a:=⟨((k:Int) % n).toNat,by omega⟩
    obtain ⟨b,hb⟩:∃b:Nat,(k:Int) / n % m=b:=⟨((k:Int) / n % m).toNat,by omega⟩
    have lr:=G.1.row (i:=a) (by omega)
    walk_at "v"
    refine DC (t:=v) (a:=a) rfl (fun R h=>?_) (by simp only[Me,Oi,Mv];omega) (by omega) ?_
    .walk_at "go"
     rw[ha]
     exact h
    rw[Md]
    walk_at "go"
    rw[hb]
    refine IQ (t:=v) (r:=rowAt v a) (b:=b) (v:=(cellAt v a b+ns.getD k 0 / 5) % 2) rfl rfl (fun R h=>?_) (fun R h=>?_) (by omega) ?_
    .walk_at "go"
     refine aO (by omega) ?_
     rw[Md]
     refine aO (by omega) ?_
     rw[Md]
     walk_at "go"
     exact h
    .walk_at "go"
     exact h
    walk_at "go"
    exact L _ ⟨_,_,_,rfl,G.set (a:=a) (b:=b) (by omega) (by omega)⟩
   .rintro δ ⟨v,O,Y,rfl,G⟩
    subst e2
    dsimp only
    walk_at "go"
    exact hP v n m G n1 Z m1 m8
 walk_at "go"
 by_cases h2:q=2
 .rw[if_pos h2]
  refine gY (as:=List.range n) (f:=fun (i:Nat)=>L3.D.tup [.int (i:Int),dI (rowAt t i)]) (g:=fun (i:Nat)=>dI ((rowAt t i).drop ((i:Int) % m).toNat++(rowAt t i).take ((i:Int) % m).toNat)) (fun R h=>?_) (by rw[Mi];omega) (fun i hi R h=>?_) ?_
  .walk_at "go"
   rw[EN,lt]
   exact h
  .have hi:=Mq.mp hi
   have lr:=p.1.row hi
   have a1:=emod_lt (x:=(i:Int)) (n:=(m:Int)) (by omega)
   obtain ⟨a,ha⟩:∃a:Nat,(i:Int) % m=a:=⟨((i:Int) % m).toNat,by omega⟩
   rw[ha,Md] at h
   walk_at "gb"
   rw[ha,Bb,Kf (by omega),KQ]
   exact⟨⟨cw,cw,by rw[mo,mo,Nk,MT];omega⟩,h⟩
  rw[G0]
  refine Nm _ ⟨⟨by rw[mo,Mi],fun r I=>?_⟩,fun r I x U=>?_⟩
  .obtain ⟨i,hi,rfl⟩:=Mh.mp I
   have lr:=p.1.row (Mq.mp hi)
   rw[Mt,Nk,MT]
   omega
  .obtain ⟨i,hi,rfl⟩:=Mh.mp I
   have hi:=Mq.mp hi
   have hm:rowAt t i∈t:=by
    unfold rowAt
    rw[gV,dz (by omega)]
    exact MJ _
   rcases Mf.mp U with z|z
   .exact p.2 _ hm x (List.mem_of_mem_drop z)
   .exact p.2 _ hm x (N3 z)
 .rw[if_neg h2]
  exact Nm t p
def i8{f:Addr}{e:FuncData}(F:FnAt K mg "_law_other_class" cA bh f e)(T:Txt K mg base){c:Cs}(xs:Exs K mg base c):FnE P w K mg base 1 f e bh c.NoPlace (spE false):=by
 refine F.fn.okE (k:=0) jl (fun a vs H Q E h=>BU h) (fun a g A outer s H vs Q E b h=>?_)
 obtain ⟨rfl,q⟩:=h
 refine⟨_,(ak (bB (c3 (aQ (pV b rfl xs.k_NoPlace) (by rfl) T.isinstance_ boot_isinstance (aa (pv 0) (aa (c4 (aa (bA (v:=.ref c.NoTable) rfl xs.m_NoTable rfl) (aa (bA (v:=.ref c.NoBottom) rfl xs.m_NoBottom rfl) (aa (bA (v:=.ref c.NotAlike) rfl xs.m_NotAlike rfl) (aa (bA (v:=.ref c.NoStep) rfl xs.m_NoStep rfl) (aa (bA (v:=.ref c.NoMix) rfl xs.m_NoMix rfl) (aa (bA (v:=.ref c.NotEven) rfl xs.m_NotEven rfl) aj))))))) aj)))) (av (aB fG)) aV) (av (aB (aQ (pV b rfl xs.k_NoPlace) (by rfl) T.isinstance_ boot_isinstance (aa (pv 0) (aa (c4 (aa (bA (v:=.ref c.NoSwap) rfl xs.m_NoSwap rfl) (aa (bA (v:=.ref c.NoBounds) rfl xs.m_NoBounds rfl) (aa (bA (v:=.ref c.TooGreat) rfl xs.m_TooGreat rfl) (aa (bA (v:=.ref c.NoNumber) rfl xs.m_NoNumber rfl) (aa (bA (v:=.ref c.NoText) rfl xs.m_NoText rfl) aj)))))) aj)))))),?_⟩
 exact CP xs.t1 xs.t2 (fun _ _ _ h=>h) (fun _ _ _ h=>h) (by simp) (by simp) q
def jG{f:Addr}{e:FuncData}(F:FnAt K mg "_law_other_class" cA bh f e)(T:Txt K mg base){c:Cs}(xs:Exs K mg base c):FnE P w K mg base 1 f e bh c.NoSums (spE false):=by
 refine F.fn.okE (k:=0) jl (fun a vs H Q E h=>BU h) (fun a g A outer s H vs Q E b h=>?_)
 obtain ⟨rfl,q⟩:=h
 refine⟨_,(ak (bB (c3 (aQ (pV b rfl xs.k_NoSums) (by rfl) T.isinstance_ boot_isinstance (aa (pv 0) (aa (c4 (aa (bA (v:=.ref c.NoTable) rfl xs.m_NoTable rfl) (aa (bA (v:=.ref c.NoBottom) rfl xs.m_NoBottom rfl) (aa (bA (v:=.ref c.NotAlike) rfl xs.m_NotAlike rfl) (aa (bA (v:=.ref c.NoStep) rfl xs.m_NoStep rfl) (aa (bA (v:=.ref c.NoMix) rfl xs.m_NoMix rfl) (aa (bA (v:=.ref c.NotEven) rfl xs.m_NotEven rfl) aj))))))) aj)))) (av (aB fG)) aV) (av (aB (aQ (pV b rfl xs.k_NoSums) (by rfl) T.isinstance_ boot_isinstance (aa (pv 0) (aa (c4 (aa (bA (v:=.ref c.NoSwap) rfl xs.m_NoSwap rfl) (aa (bA (v:=.ref c.NoBounds) rfl xs.m_NoBounds rfl) (aa (bA (v:=.ref c.TooGreat) rfl xs.m_TooGreat rfl) (aa (bA (v:=.ref c.NoNumber) rfl xs.m_NoNumber rfl) (aa (bA (v:=.ref c.NoText) rfl xs.m_NoText rfl) aj)))))) aj)))))),?_⟩
 exact CP xs.t3 xs.t4 (fun _ _ _ h=>h) (fun _ _ _ h=>h) (by simp) (by simp) q
def uF{U:aac}{n:Nat}(h:U.Pairwise (· < ·))(hn:∀x∈U,x<n):U.length<=n :=
 Mat.zi (h.imp fun z=>MA z) hn
def yc{U:aac}{k:Nat}(b:k<U.length):(U.map fun (r:Nat)=>(r:Int)).getD k 0=((U[k]:Nat):Int):=by
 rw[gV,Mc,dz b];rfl
def eK:DSp:=fun ds P=>∃(U:aac) (n:Nat),ds=[dN U,.int (n:Int)]/\n<=8/\U.Pairwise (· < ·)/\(∀x∈U,x<n)/\P (.bl true)
def lJ:bo eK:=by
 intro xs P b k h
 unfold eK at h ⊢
 grind
def tH:∀ds P,eK ds P->ds.length=2:=by
 intro ds P h
 obtain ⟨_,_,e,_⟩:=h
 rw[e];rfl
def ve{c:Cs}{f:Addr}{l:FuncData}(F:FnAt K mg "_law_rising" iM fQ f l)(o:Fns K mg c)(T:Txt K mg base)(xs:Exs K mg base c):br P w K mg base CX0 2 f l fQ (spP K eK):=by
 obtain ⟨G,I,m⟩:=o.h_law_whole
 have x:=pK (P:=P) (w:=w) m o T xs
 refine F.fn.ok nB (fun vs H Q E h=>aR tH h) (fun u A outer s H vs Q E p h=>?_)
 refine⟨_,(ak (bB (dX (c3 (aQ (eI (K:=K) rfl) (by rfl) T.isinstance_ boot_isinstance (aa (pv 0) (aa (jS (v:=.ty "list") rfl T.list_ boot_list rfl) aj))))) (av (aB fG)) aV) (ak (wfo (bu rfl T.range_ (aa (wln K T.len_ (pv 0)) aj)) (wpg 2 nB.nd) (av (bB (PW.pt (lN (dX (c3 (wcl x p m (aa (wix K (pv 0) (pv 2)) aj)))) (lN (dX (Ft Jf sG aq (wix K (pv 0) (pv 2)) (pv 1))) (j5 (PW.pt (tM (aM zE (pv 2) aq (aW _)) (pP (aM Je (wix K (pv 0) (aH iw (pv 2) aq)) (wix K (pv 0) (pv 2)) (aW _))))))))) (av (aB fG)) aV))) (av (aB fG)))),bb (Γn:=[]) (N:=kS) (ax (bP (eQ (mM (EM.er (iU tS (ES.er (af 0)))))) (aI (M:=[]) iE) aX) (ax (eG (cm (ai (EM.er (aS bI (ai (ES.er (af 0)) au))) au)) (aN 2) (bP (lS (eQ (mM (EM.er (aD (S:=fH) mx (ai (ES.er (aA (af 0) (ES.er (af 2)))) au))))) (lS (eQ (aL (EM.er (yX nh nh (EM.er ar) (ES.er (aA (af 0) (ES.er (af 2)))) (ES.er (af 1)))))) (xC (aL (EM.er (ay nh (ES.er (af 2)) (EM.er ar)))) (aL (EM.er (ay nh (ES.er (aA (af 0) (EM.er (ay bJ (ES.er (af 2)) (EM.er ar))))) (ES.er (aA (af 0) (ES.er (af 2)))))))))) (aI (M:=[]) iE) aX)) (aI (M:=[]) iE))) (fun ds P q=>?_) h⟩
 obtain ⟨U,n,rfl,y,g,hn,t⟩:=q
 rw[show aJ kS [dN U,.int (n:Int)]=[some (dN U),some (.int (n:Int)),none] from rfl]
 have C:=uF g hn
 walk_at "go"
 refine gn (lo:=0) (n:=U.length) (fun i δ=>∃(e:Option D),δ=[some (dN U),some (.int (n:Int)),e]) ⟨none,rfl⟩ ?_ ?_
 .rintro k δ N b ⟨e,rfl⟩ j
  rw[M1]
  have B:(U.map fun (r:Nat)=>(r:Int)).length=U.length:=mo ..
  have J:=hn _ (MJ b)
  walk_at "go"
  refine aO (by omega) ?_
  rw[Md,yc b]
  refine⟨_,rfl,?_⟩
  walk_at "go"
  refine aO (by omega) ?_
  rw[Md,yc b]
  walk_at "go"
  rw[if_pos (Int.natCast_nonneg _),if_neg (fun z=>z (by omega))]
  by_cases k0:0<k
  .rw[if_pos (by omega)]
   have lt:=List.pairwise_iff_getElem.mp g (k - 1) k (by omega) b (by omega)
   refine aO (by omega) ?_
   rw[show ((k:Int) - 1).toNat=k - 1 by omega,yc (by omega)]
   refine aO (by omega) ?_
   rw[Md,yc b]
   walk_at "go"
   rw[if_neg (by omega)]
   exact j _ ⟨_,rfl⟩
  .rw[if_neg (by omega)]
   exact j _ ⟨_,rfl⟩
 .rintro δ ⟨e,rfl⟩
  walk_at "go"
  exact t
def LZ{U:aac}{k:Nat}:((k:Int)∈U.map fun (r:Nat)=>(r:Int))↔k∈U:=by
 rw[Mh]
 exact ⟨fun ⟨a, ha, e⟩ => by have : a = k := by omega
                             rw[<- this];exact ha,fun h=>⟨k,h,rfl⟩⟩
def vK{b:Bool}{k:Nat}{U:aac}{P:DK}(h:P (.bl (if b then !decide (k∈U) else decide (k∈U)))):vIn b (.int (k:Int)) (dN U) P:=by
 refine ED ?_
 rw[show decide ((k:Int)∈U.map fun (r:Nat)=>(r:Int))=decide (k∈U) from decide_eq_decide.mpr LZ]
 exact h
theorem F3{f:Nat->Int}{c:Nat}:∀{m:Nat},c<m->sN m (fun j=>if j=c then f j else 0)=f c
 |0,h=>by omega
 |m+1,h=>by
  rw[cC]
  rcases Nat.lt_or_ge c m with z|z
  .rw[F3 z,if_neg (by omega)];omega
  .have e:c=m:=by omega
   subst e
   rw[if_pos rfl,aZ (g:=fun _=>0) (fun i hi=>if_neg (by omega)),bE];omega
theorem wJ{f:Nat->Int}{m:Nat}:∀{U:aac},U.Pairwise (· < ·)->(∀x∈U,x<m)->(U.map f).sum=sN m fun j=>if j∈U then f j else 0
 |[],_,_=>by
  rw[aZ (g:=fun _=>0) (fun i _=>if_neg (Mr)),bE];rfl
 |c::U,l,hn=>by
  obtain ⟨e,b⟩:=Py.mp l
  rw[Ml,MF,wJ b (fun x h=>hn x (ox _ h)),<- F3 (f:=f) (hn c Fk),<- iB]
  refine aZ fun j _=>?_
  by_cases z:j=c
  .subst z
   rw[if_pos rfl,if_neg (fun h=>Nd _ (e j h)),if_pos Fk];omega
  .rw[if_neg z]
   by_cases y:j∈U
   .rw[if_pos y,if_pos (ox _ y)];omega
   .rw[if_neg y,if_neg (fun h=>(Mb.mp h).elim z y)];rfl
def gC(low high:aaa)(U V:aac)(i j:Nat):Int:=(if i∈U/\j∉V then cellAt high i j else 0) - (if i∉U/\j∈V then cellAt low i j else 0)
def i9:DSp:=fun ds P=>∃(b cols:aab) (low high:aaa) (n m:Nat) (U V:aac),ds=[dN U,dN V,dI b,dI cols,dT low,dT high]/\bK n m low/\bK n m high/\1<=n/\n<=8/\1<=m/\m<=8/\b.length=n/\cols.length=m/\Ct n m b cols low high U V/\P (.bl true)
def uY:bo i9:=by
 intro xs P b k h
 unfold i9 at h ⊢
 grind
def xG:∀ds P,i9 ds P->ds.length=6:=by
 intro ds P h
 obtain ⟨_,_,_,_,_,_,_,_,e,_⟩:=h
 rw[e];rfl
def yP{c:Cs}{f:Addr}{G:FuncData}(F:FnAt K mg "_law_bars" gB jC f G)(J:Fns K mg c)(T:Txt K mg base)(xs:Exs K mg base c):br P w K mg base CX0 3 f G jC (spP K i9):=by
 obtain ⟨f0,d0,u⟩:=J.h_law_rising
 have I:=ve (P:=P) (w:=w) u J T xs
 refine F.fn.ok fE (fun vs H Q E h=>aR xG h) (fun cdv A outer s H vs Q E y h=>?_)
 refine⟨_,(ak (bB (PW.pt (lN (dX (c3 (wcl I y u (aa (pv 0) (aa (wln K T.len_ (pv 2)) aj))))) (j5 (dX (c3 (wcl I y u (aa (pv 1) (aa (wln K T.len_ (pv 3)) aj)))))))) (av (aB fG)) aV) (ak (wst 6 fE.nd (aQ (cQ (K:=K) rfl rfl) (by rfl) T.sum_ boot_sum (aa (wco (aw gB) "_law_j" ["_law_columns"] [3] (wil K (pv 1)) (fun _ _ _ _ _=>(wix K (pv 1) (pv 0)))) aj))) (ak (wfo (bu rfl T.range_ (aa (wln K T.len_ (pv 2)) aj)) (wpg 7 fE.nd) (av (wfo (bu rfl T.range_ (aa (wln K T.len_ (pv 3)) aj)) (wpg 8 fE.nd) (ak (bB (PW.pt (tM (aM (AV (K:=K) rfl) (pv 7) (pv 0) (by with_unfolding_all rfl)) (pP (aM (qE (K:=K) rfl) (pv 8) (pv 1) (by with_unfolding_all rfl))))) (av (wst 6 fE.nd (aH bN (pv 6) (wix K (wix K (pv 5) (pv 7)) (pv 8))))) aV) (av (bB (PW.pt (tM (aM (qE (K:=K) rfl) (pv 7) (pv 0) (by with_unfolding_all rfl)) (pP (aM (AV (K:=K) rfl) (pv 8) (pv 1) (by with_unfolding_all rfl))))) (av (wst 6 fE.nd (aH iw (pv 6) (wix K (wix K (pv 4) (pv 7)) (pv 8))))) aV)))))) (av (aB (kZ zE (aQ (cQ (K:=K) rfl rfl) (by rfl) T.sum_ boot_sum (aa (wco (aw gB) "_law_k" ["_law_rows"] [2] (wil K (pv 0)) (fun _ _ _ _ _=>(wix K (pv 1) (pv 0)))) aj)) (pv 6) (aW _))))))),bb (Γn:=[]) (N:=nU) (ax (bP (lS (eQ (mM (EM.er (aD (S:=eK) lJ (ai (ES.er (af 0)) (ai (EM.er (aS bI (ai (ES.er (af 2)) au))) au)))))) (eQ (mM (EM.er (aD (S:=eK) lJ (ai (ES.er (af 1)) (ai (EM.er (aS bI (ai (ES.er (af 3)) au))) au))))))) (aI (M:=[]) iE) aX) (ax (ST.post (Γn:=[]) (aK 6 (EM.es (aS l7 (ai (EM.er (bw (bL (af 1)) (aN 0) (ER.aP (ES.er (aA (af 1) (ES.er (af 0))))))) au))))) (ax (eG (cm (ai (EM.er (aS bI (ai (ES.er (af 2)) au))) au)) (aN 7) (eG (cm (ai (EM.er (aS bI (ai (ES.er (af 3)) au))) au)) (aN 8) (ax (bP (xC (aL (EM.er (ay DM (ES.er (af 7)) (ES.er (af 0))))) (aL (EM.er (ay DM (ES.er (af 8)) (ES.er (af 1)))))) (ST.post (Γn:=[]) (aK 6 (EM.es (ay bJ (ES.er (af 6)) (ES.er (aA (aA (af 5) (ES.er (af 7))) (ES.er (af 8)))))))) aX) (bP (xC (aL (EM.er (ay DM (ES.er (af 7)) (ES.er (af 0))))) (aL (EM.er (ay DM (ES.er (af 8)) (ES.er (af 1)))))) (ST.post (Γn:=[]) (aK 6 (EM.es (ay bJ (ES.er (af 6)) (ES.er (aA (aA (af 4) (ES.er (af 7))) (ES.er (af 8)))))))) aX)))) (aI (M:=[]) (ay nh (EM.er (aS l7 (ai (EM.er (bw (bL (af 0)) (aN 0) (ER.aP (ES.er (aA (af 1) (ES.er (af 0))))))) au))) (ES.er (af 6))))))) (fun ds P hS=>?_) h⟩
 obtain ⟨b,cols,low,high,n,m,U,V,rfl,B,C,n1,L,m1,O,v,x,e,hP⟩:=hS
 rw[show aJ nU [dN U,dN V,dI b,dI cols,dT low,dT high]=[some (dN U),some (dN V),some (dI b),some (dI cols),some (dT low),some (dT high),none,none,none] from rfl]
 have ll:=B.1
 have lh:=C.1
 have lU:=uF e.up1 e.l1
 have lV:=uF e.up2 e.l2
 have cut:=e.cut
 unfold Cut at cut
 rw[<- wJ (f:=fun j=>cols.getD j 0) e.up2 e.l2,<- wJ (f:=fun i=>b.getD i 0) e.up1 e.l1] at cut
 walk_at "go"
 refine⟨U,n,by rw[v],L,e.up1,e.l1,?_⟩
 walk_at "go"
 refine⟨V,m,by rw[x],O,e.up2,e.l2,?_⟩
 walk_at "go"
 refine gY (as:=V) (f:=fun (r:Nat)=>L3.D.int (r:Int)) (g:=fun (r:Nat)=>.int (cols.getD r 0)) (fun R h=>?_) (by omega) (fun j hj R h=>?_) ?_
 .walk_at "go"
  rw[MB]
  exact h
 .have:=e.l2 j hj
  walk_at "gb"
  refine aO (by omega) ?_
  rw[Md]
  exact⟨rfl,h⟩
 rw[show V.map (fun (r:Nat)=>L3.D.int (cols.getD r 0))=(V.map fun (r:Nat)=>cols.getD r 0).map L3.D.int by rw[MB];rfl]
 walk_at "go"
 rw[v]
 refine gn (lo:=0) (n:=n) (fun i δ=>∃(t o:Option D),δ=[some (dN U),some (dN V),some (dI b),some (dI cols),some (dT low),some (dT high),some (.int ((V.map fun j=>cols.getD j 0).sum+sN i fun i=>sN m fun j=>gC low high U V i j)),t,o]) ⟨none,none,by rw[BB,Int.add_zero]⟩ ?_ ?_
 .rintro i δ N hi ⟨t,o,rfl⟩ hN
  rw[M1]
  walk_at "go"
  rw[x]
  refine gn (lo:=0) (n:=m) (fun j δ=>∃(o:Option D),δ=[some (dN U),some (dN V),some (dI b),some (dI cols),some (dT low),some (dT high),some (.int ((V.map fun j=>cols.getD j 0).sum+(sN i fun i=>sN m fun j=>gC low high U V i j)+sN j fun j=>gC low high U V i j)),some (.int (i:Int)),o]) ⟨o,by rw[BB,Int.add_zero]⟩ ?_ ?_
  .rintro j δ N' hj ⟨o,rfl⟩ To
   rw[M1]
   have X:=B.row hi
   have Y:=C.row hi
   have q:∀z:Int,z=(V.map fun j=>cols.getD j 0).sum+(sN i fun i=>sN m fun j=>gC low high U V i j)+(sN j fun j=>gC low high U V i j)+gC low high U V i j->N' [some (dN U),some (dN V),some (dI b),some (dI cols),some (dT low),some (dT high),some (.int z),some (.int (i:Int)),some (.int (j:Int))]:=fun z Z=>To _ ⟨some (.int (j:Int)),by rw[Z,cC (n:=j),<- Int.add_assoc]⟩
   walk_at "go"
   refine vK ?_
   by_cases l:i∈U
   .simp only[MY,if_false,decide_eq_true l]
    walk_at "go"
    refine vK ?_
    by_cases p:j∈V
    .simp only[if_true,decide_eq_true p,NW]
     walk_at "go"
     refine vK ?_
     simp only[if_true,decide_eq_true l,NW]
     walk_at "go"
     refine q _ ?_
     rw[show gC low high U V i j=0 by unfold gC;rw[if_neg (fun z=>z.2 p),if_neg (fun z=>z.1 l)];rfl,Int.add_zero]
    .simp only[if_true,decide_eq_false p,Bool.not_false]
     walk_at "go"
     refine fc (by omega) ?_
     rw[Md]
     walk_at "go"
     refine aO (by omega) ?_
     rw[Md]
     walk_at "go"
     refine vK ?_
     simp only[if_true,decide_eq_true l,NW]
     walk_at "go"
     refine q _ ?_
     rw[show gC low high U V i j=(rowAt high i).getD j 0 by unfold gC;rw[if_pos ⟨l,p⟩,if_neg (fun z=>z.1 l)];exact Int.sub_zero _]
   .simp only[MY,if_false,decide_eq_false l]
    walk_at "go"
    refine vK ?_
    simp only[if_true,decide_eq_false l,Bool.not_false]
    walk_at "go"
    refine vK ?_
    by_cases p:j∈V
    .simp only[MY,if_false,decide_eq_true p]
     walk_at "go"
     refine fc (by omega) ?_
     rw[Md]
     walk_at "go"
     refine aO (by omega) ?_
     rw[Md]
     walk_at "go"
     refine q _ ?_
     rw[show gC low high U V i j=0 - (rowAt low i).getD j 0 by unfold gC;rw[if_neg (fun z=>l z.1),if_pos ⟨l,p⟩]]
     omega
    .simp only[MY,if_false,decide_eq_false p]
     walk_at "go"
     refine q _ ?_
     rw[show gC low high U V i j=0 by unfold gC;rw[if_neg (fun z=>l z.1),if_neg (fun z=>p z.2)];rfl,Int.add_zero]
  .rintro δ ⟨o,rfl⟩
   walk_at "go"
   exact hN _ ⟨_,o,by rw[cC (n:=i),<- Int.add_assoc]⟩
 .rintro δ ⟨t,o,rfl⟩
  walk_at "go"
  refine gY (as:=U) (f:=fun (r:Nat)=>L3.D.int (r:Int)) (g:=fun (r:Nat)=>.int (b.getD r 0)) (fun R h=>?_) (by omega) (fun j hj R h=>?_) ?_
  .walk_at "go"
   rw[MB]
   exact h
  .have:=e.l1 j hj
   walk_at "gb"
   refine aO (by omega) ?_
   rw[Md]
   exact⟨rfl,h⟩
  rw[show U.map (fun (r:Nat)=>L3.D.int (b.getD r 0))=(U.map fun (r:Nat)=>b.getD r 0).map L3.D.int by rw[MB];rfl]
  walk_at "go"
  have z:(V.map fun j=>cols.getD j 0).sum+(sN n fun i=>sN m fun j=>gC low high U V i j)<(U.map fun r=>b.getD r 0).sum:=cut
  rw[decide_eq_true z]
  exact hP
theorem pO:∀{rs left:aab},bV left.length rs (fun j=>left.getD j 0)↔∃T,Tal.Ok rs left T
 |[],left=>by
  constructor
  .intro h
   refine⟨[],fun x f=>?_⟩
   obtain ⟨i,hi,rfl⟩:=Oc f
   have z:left.getD i 0=0:=h i hi
   rw[gV,dz hi] at z
   exact z
  .rintro ⟨T,h⟩
   cases T with
   |nil =>
    intro j hj
    show left.getD j 0=0
    rw[gV,dz hj]
    exact h _ (MJ hj)
   |cons _ _=>exact h.elim
 |r::rs,left=>by
  constructor
  .rintro ⟨b,s,p,o⟩
   have lb:((List.range left.length).map b).length=left.length:=by rw[mo,Mi]
   have hb:∀z∈(List.range left.length).map b,z=0\/z=1:=fun z e=>by
    obtain ⟨j,hj,rfl⟩:=Mh.mp e
    exact s j (Mq.mp hj)
   have hl:=Tal.qA hb
   rw[lb] at hl
   have t:=Tal.sub_len lb
   have n:bV (Tal.sub left ((List.range left.length).map b)).length rs (fun j=>(Tal.sub left ((List.range left.length).map b)).getD j 0):=by
    rw[t]
    refine o.congr fun j hj=>?_
    rw[Tal.oZ lb]
    show _=_ - ((List.range left.length).map b).getD j 0
    rw[gV (l:=(List.range left.length).map b),Mc,MS hj]
    rfl
   obtain ⟨T,g⟩:=pO.mp n
   exact⟨_::T,Tal.lA.mpr ⟨hl,p⟩,g⟩
  .rintro ⟨T,h⟩
   cases T with
   |nil=>exact h.elim
   |cons l T =>
    have m:=Tal.lA.mp h.1
    have c:=Tal.mW m.1
    refine⟨fun j=>l.getD j 0,fun j _=>Tal.ux m.1,?_,?_⟩
    .rw[<- m.2,uw,c.1];rfl
    .have q:=pO.mpr ⟨T,h.2⟩
     rw[Tal.sub_len c.1] at q
     exact q.congr fun j _=>Tal.oZ c.1
def Gv{c cols:aab}{low high t:aaa}(h:Bt c.length cols.length c cols low high t)(hl:∀i j,i<c.length->j<cols.length->0<=cellAt low i j)(n:∀i j,i<c.length->j<cols.length->cellAt high i j<=1):Tal.Ok c cols t:=by
 have own:=Tal.G6 (w:=cols.length) (T:=t) fun r f=>by
  refine⟨h.rt.2 r f,fun z m=>?_⟩
  obtain ⟨i,hi,rfl⟩:=Oc f
  obtain ⟨j,hj,rfl⟩:=Oc m
  have l:i<c.length:=by have:=h.rt.1;omega
  have g:j<cols.length:=by have:=h.rt.2 _ f;omega
  have b:=h.bd i j l g
  have e:cellAt t i j=t[i][j]:=by
   unfold cellAt
   rw[gV,gV,dz hi,M3,dz hj];rfl
  have:=hl i j l g
  have:=n i j l g
  omega
 have e1:t.map List.sum=c:=by
  refine Tal.mC (by rw[mo,h.rt.1]) fun i hi=>?_
  rw[mo] at hi
  rw[<- h.rs i (by rw[<- h.rt.1];exact hi)]
  unfold js rowAt
  rw[gV,gV,Mc,dz hi];rfl
 have e2:Tal.cols cols.length t=cols:=by
  refine Tal.mC Tal.eh fun j hj=>?_
  rw[Tal.eh] at hj
  rw[Tal.jg hj,<- h.cs j hj];rfl
 rw[e1,e2] at own
 exact own
def EY{b cols:aab}{low high t:aaa}(h:Tal.Ok b cols t)(hb:∀i j,i<b.length->j<cols.length->cellAt t i j=0\/cellAt t i j=1->cellAt low i j<=cellAt t i j/\cellAt t i j<=cellAt high i j):Bt b.length cols.length b cols low high t:=by
 obtain ⟨e1,e2,g⟩:=Tal.A7 h
 have lt:=Tal.Gy h
 have rt:bK b.length cols.length t:=⟨lt,fun r f=>(g r f).1⟩
 refine⟨rt,fun i j hi hj=>hb i j hi hj ?_,fun i hi=>?_,fun j hj=>?_⟩
 .have c:i<t.length:=by omega
  have f:=(g _ (MJ c))
  have l:j<(t[i]).length:=by omega
  have e:cellAt t i j=t[i][j]:=by
   unfold cellAt
   rw[gV,gV,dz c,M3,dz l];rfl
  rw[e]
  exact f.2 _ (MJ l)
 .conv=>rhs;rw[e1]
  have c:i<t.length:=by omega
  unfold js rowAt
  rw[gV,gV,Mc,dz c];rfl
 .conv=>rhs;rw[e2]
  rw[Tal.jg hj];rfl
def Ct.no{n m:Nat}{c cols:aab}{low high:aaa}{U V:aac}(h:Ct n m c cols low high U V){t:aaa}(b:Bt n m c cols low high t):False:=Kv b.rt b.bd b.rs b.cs h.cut
def iS{n m i j a b:Nat}{x:Int}(hi:i<n)(hj:j<m)(ha:a<n)(hb:b<m):cellAt (fD (bp n m x) i j) a b=if i=a/\j=b then 1 - x else x:=by
 unfold fD
 rw[px iT hi hj,bg hi hj,bg ha hb]
section
variable {rows cols:aab}{i j:Nat}(hi:i<rows.length)(hj:j<cols.length)
include hi hj
def Fw{U V:aac}(h:Ct rows.length cols.length rows cols (bp rows.length cols.length 0) (fD (bp rows.length cols.length 1) i j) U V):¬ ∃T,Tal.Ok rows cols T/\cellAt T i j=0:=by
 rintro ⟨T,c,e⟩
 refine (h.no (EY c fun a b ha hb q=>?_)).elim
 rw[bg ha hb,iS hi hj ha hb]
 split
 .rename_i w
  obtain ⟨rfl,rfl⟩:=w
  omega
 .omega
def DJ{U V:aac}(h:Ct rows.length cols.length rows cols (fD (bp rows.length cols.length 0) i j) (bp rows.length cols.length 1) U V):¬ ∃T,Tal.Ok rows cols T/\cellAt T i j=1:=by
 rintro ⟨T,c,e⟩
 refine (h.no (EY c fun a b ha hb q=>?_)).elim
 rw[bg ha hb,iS hi hj ha hb]
 split
 .rename_i w
  obtain ⟨rfl,rfl⟩:=w
  omega
 .omega
def wo{t:aaa}(h:Bt rows.length cols.length rows cols (bp rows.length cols.length 0) (fD (bp rows.length cols.length 1) i j) t):Tal.Ok rows cols t/\cellAt t i j=0:=by
 refine⟨Gv h (fun a b ha hb=>by rw[bg ha hb];omega) (fun a b ha hb=>by rw[iS hi hj ha hb];split<;>omega),?_⟩
 have b:=h.bd i j hi hj
 rw[bg hi hj,iS hi hj hi hj,if_pos ⟨rfl,rfl⟩] at b
 omega
def Eb{t:aaa}(h:Bt rows.length cols.length rows cols (fD (bp rows.length cols.length 0) i j) (bp rows.length cols.length 1) t):Tal.Ok rows cols t/\cellAt t i j=1:=by
 refine⟨Gv h (fun a b ha hb=>by rw[iS hi hj ha hb];split<;>omega) (fun a b ha hb=>by rw[bg ha hb];omega),?_⟩
 have b:=h.bd i j hi hj
 rw[bg hi hj,iS hi hj hi hj,if_pos ⟨rfl,rfl⟩] at b
 omega
end
def pB{c cols:aab}{t:aaa}(h:Tal.Ok c cols t):nu c.length cols.length t/\(∀a,a<c.length->js t a=c.getD a 0)/\∀b,b<cols.length->jH t b=cols.getD b 0:=by
 have b:=EY (low:=bp c.length cols.length 0) (high:=bp c.length cols.length 1) h fun i j hi hj q=>by rw[bg hi hj,bg hi hj];omega
 exact⟨⟨b.rt,fun r f x e=>((Tal.A7 h).2.2 r f).2 x e⟩,b.rs,b.cs⟩
def Ic{c cols:aab}{t:aaa}(h:nu c.length cols.length t)(e:∀a,a<c.length->js t a=c.getD a 0)(f:∀b,b<cols.length->jH t b=cols.getD b 0):Tal.Ok c cols t :=
 Gv (low:=bp c.length cols.length 0) (high:=bp c.length cols.length 1) ⟨h.1,fun i j hi hj=>by have:=h.cell hi hj;rw[bg hi hj,bg hi hj];omega,e,f⟩ (fun a b ha hb=>by rw[bg ha hb];omega) (fun a b ha hb=>by rw[bg ha hb];omega)
def gE:DSp:=fun ds P=>∃(t:aaa) (c cols:aab) (a b:Nat) (v:Int),ds=[dT t,.lst [dI c,dI cols],.tup [.int (a:Int),.int (b:Int)],.int v]/\1<=c.length/\c.length<=8/\1<=cols.length/\cols.length<=8/\a<c.length/\b<cols.length/\Tal.Ok c cols t/\cellAt t a b=v/\P (.bl true)
def nM:bo gE:=by
 intro xs P b k h
 unfold gE at h ⊢
 grind
def xI:∀ds P,gE ds P->ds.length=4:=by
 intro ds P h
 obtain ⟨_,_,_,_,_,_,e,_⟩:=h
 rw[e];rfl
def zr{c:Cs}{f:Addr}{z:FuncData}(F:FnAt K mg "_law_lies" lC jA f z)(n:Fns K mg c)(T:Txt K mg base)(xs:Exs K mg base c):br P w K mg base CX0 2 f z jA (spP K gE):=by
 obtain ⟨f0,d0,B⟩:=n.h_law_sums
 have PD:=qV (P:=P) (w:=w) B n T xs
 obtain ⟨f1,d1,C⟩:=n.h_law_whole
 have Pd:=pK (P:=P) (w:=w) C n T xs
 refine F.fn.ok mf (fun vs H Q E h=>aR xI h) (fun cdv A outer s H vs Q E p h=>?_)
 refine⟨_,(ak (bB (PW.pt (lN (dX (c3 (aQ (eI (K:=K) rfl) (by rfl) T.isinstance_ boot_isinstance (aa (pv 0) (aa (jS (v:=.ty "list") rfl T.list_ boot_list rfl) aj))))) (j5 (aM rA (wln K T.len_ (pv 0)) (wln K T.len_ (wix K (pv 1) aq)) (aW _))))) (av (aB fG)) aV) (ak (wfo (wil K (pv 0)) (wpg 4 mf.nd) (ak (bB (PW.pt (lN (dX (c3 (aQ (eI (K:=K) rfl) (by rfl) T.isinstance_ boot_isinstance (aa (pv 4) (aa (jS (v:=.ty "list") rfl T.list_ boot_list rfl) aj))))) (j5 (aM rA (wln K T.len_ (pv 4)) (wln K T.len_ (wix K (pv 1) aq)) (aW _))))) (av (aB fG)) aV) (av (wfo (wil K (pv 4)) (wpg 5 mf.nd) (av (bB (PW.pt (lN (dX (c3 (wcl Pd p C (aa (pv 5) aj)))) (j5 (aM (qE (K:=K) rfl) (pv 5) (bR (aa aq (aa aq aj))) (by with_unfolding_all rfl))))) (av (aB fG)) aV)))))) (av (aB (tq (kZ (AA p.units) (wcl PD p B (aa (pv 0) aj)) (pv 1) (aW _)) (qg (kZ ku (wix K (wix K (pv 0) (wit K (pv 2) aq)) (wit K (pv 2) aq)) (pv 3) (aW _)))))))),bb (Γn:=[]) (N:=oz) (ax (bP (lS (eQ (mM (EM.er (iU tS (ES.er (af 0)))))) (aL (EM.er (ay yC (EM.er (aS bI (ai (ES.er (af 0)) au))) (EM.er (aS bI (ai (ES.er (aA (af 1) (EM.er ar))) au))))))) (aI (M:=[]) iE) aX) (ax (eG (bL (af 0)) (aN 4) (ax (bP (lS (eQ (mM (EM.er (iU tS (ES.er (af 4)))))) (aL (EM.er (ay yC (EM.er (aS bI (ai (ES.er (af 4)) au))) (EM.er (aS bI (ai (ES.er (aA (af 1) (EM.er ar))) au))))))) (aI (M:=[]) iE) aX) (eG (bL (af 4)) (aN 5) (bP (lS (eQ (mM (EM.er (aD (S:=fH) mx (ai (ES.er (af 5)) au))))) (aL (EM.er (ay DM (ES.er (af 5)) (EM.er (bS (aE ar (aE ar bf)))))))) (aI (M:=[]) iE) aX)))) (aI (M:=[]) (pw (EM.er (ay Gk (EM.er (aD (S:=gJ) nD (ai (ES.er (af 0)) au))) (ES.er (af 1)))) (ay qR (ES.er (aA (aA (af 0) (ES.er (bT (af 2) (EM.er ar)))) (ES.er (bT (af 2) (EM.er ar))))) (ES.er (af 3))))))) (fun ds P R=>?_) h⟩
 obtain ⟨t,g,cols,a,b,v,rfl,n1,G,J,I,ha,hb,X,O,U⟩:=R
 rw[show aJ oz [dT t,.lst [dI g,dI cols],.tup [.int (a:Int),.int (b:Int)],.int v]=[some (dT t),some (.lst [dI g,dI cols]),some (.tup [.int (a:Int),.int (b:Int)]),some (.int v),none,none] from rfl]
 obtain ⟨m,rs,cs⟩:=pB X
 have lt:=m.1.1
 walk_at "go"
 rw[if_neg (by omega)]
 walk_at "go"
 refine fK (as:=t) (f:=dI) (fun i δ=>∃(o l:Option D),δ=[some (dT t),some (.lst [dI g,dI cols]),some (.tup [.int (a:Int),.int (b:Int)]),some (.int v),o,l]) ⟨none,none,rfl⟩ ?_ ?_
 .rintro i r δ N e ⟨o,l,rfl⟩ Y
  have hm:=MP e
  have lr:=m.1.2 r hm
  walk_at "go"
  rw[if_neg (by omega)]
  walk_at "go"
  refine fK (as:=r) (f:=L3.D.int) (fun k δ=>∃(l:Option D),δ=[some (dT t),some (.lst [dI g,dI cols]),some (.tup [.int (a:Int),.int (b:Int)]),some (.int v),some (dI r),l]) ⟨_,rfl⟩ ?_ ?_
  .rintro k x δ N' Z ⟨l,rfl⟩ To
   have L:=m.2 r hm x (MP Z)
   walk_at "go"
   refine⟨_,rfl,?_⟩
   walk_at "go"
   refine ED (ns:=[0,1]) ?_
   have TN:x∈([0,1]:aab):=by simp only[Mb,Mr,or_false];exact L
   rw[if_pos rfl,decide_eq_true TN]
   walk_at "go"
   exact To _ ⟨_,rfl⟩
  .rintro δ ⟨l,rfl⟩
   walk_at "go"
   exact Y _ ⟨_,_,rfl⟩
 .rintro δ ⟨o,l,rfl⟩
  walk_at "go"
  refine⟨t,g.length,cols.length,rfl,m.1,n1,G,J,I,?_⟩
  walk_at "go"
  have e1:t.map List.sum=g:=by
   refine NJ (by rw[mo];omega) fun i y q=>?_
   have:=rs i (by omega)
   unfold js rowAt at this
   rw[gV,dz (by omega),gV,dz q] at this
   rw[NI]
   exact this
  have e2:oj cols.length t=cols:=by
   refine NJ (by unfold oj;rw[mo,Mi]) fun j y q=>?_
   have:=cs j (by omega)
   rw[gV,dz q] at this
   have u:(oj cols.length t)[j]?=some (jH t j):=by unfold oj;rw[Mc,MS (by omega)];rfl
   rw[dz y] at u
   exact (MH u).trans this
  rw[e1,e2]
  refine m4 (xs:=[g,cols]) (ys:=[g,cols]) ?_
  rw[if_neg (by decide),decide_eq_true rfl]
  walk_at "go"
  refine kJ m.1 (by omega) (by omega) ?_
  walk_at "go"
  rw[decide_eq_true O]
  exact U
def fB:DSp:=fun ds P=>∃(c cols:aab) (x y:Int) (a b:Nat),ds=[.lst [dI c,dI cols],.int x,.tup [.int (a:Int),.int (b:Int)],.int y]/\c.length<=8/\cols.length<=8/\a<c.length/\b<cols.length/\P (dT (setCell (bp c.length cols.length x) a b y))
def mq:bo fB:=by
 intro xs P b k h
 unfold fB at h ⊢
 grind
def uR:∀ds P,fB ds P->ds.length=4:=by
 intro ds P h
 obtain ⟨_,_,_,_,_,_,e,_⟩:=h
 rw[e];rfl
def xJ{c:Cs}{f:Addr}{o:FuncData}(F:FnAt K mg "_law_frame" fF hZ f o)(J:Fns K mg c)(T:Txt K mg base)(xs:Exs K mg base c):br P w K mg base CX0 1 f o hZ (spP K fB):=by
 refine F.fn.ok ph (fun vs H Q E h=>aR uR h) (fun z A outer s H vs Q E I h=>?_)
 refine⟨_,(ak (uj (i:=4) (bt.of (sc0:=(aw fF)) (tn:=["_law_k"]) (cap:=["_law_sums_here","_law_number"]) (idx:=[0,1]) (by decide +kernel) rfl rfl) ph.nd rfl (by walk_at "o") (wil K (wix K (pv 0) aq)) (ma.name (by decide)) (fun _ _ _ _ _=>gO (i:=0) (bU (l:=["_law_k","_law_sums_here","_law_number"]) (by decide +kernel)) rfl (by walk_at "o") (by first|exact .inl rfl|exact .inr rfl)) (fun _ _ _ _ _=>(yA (bt.of (sc0:=(Fg _ (aw fF))) (tn:=["_law_j"]) (cap:=["_law_number"]) (idx:=[2]) (by decide +kernel) rfl rfl) (wil K (wix K (pv 1) aq)) (ma.name (by decide)) (fun _ _ _ _ _=>gO (i:=0) (bU (l:=["_law_j","_law_number"]) (by decide +kernel)) rfl (by walk_at "o") (by first|exact .inl rfl|exact .inr rfl)) (fun _ _ _ _ _=>(pv 1))))) (ak (j7 (pv 3) (lB (wix K (pv 4) (wit K (pv 2) aq)) (wit K (pv 2) aq) set_list)) (av (aB (pv 4))))),bb (Γn:=[4]) (N:=mr) (ax (ST.post (Γn:=[4]) (cG (M:=[]) 4 (bw (bL (aA (af 0) (EM.er ar))) (aN 0) (bw (bL (aA (af 1) (EM.er ar))) (aN 0) (ER.aP (ES.er (af 1))))))) (ax (qY 4 (ER.aP (ES.er (af 3))) (ES.er (bT (af 2) (EM.er ar))) (ES.er (bT (af 2) (EM.er ar)))) (aI (M:=[4]) (gf 4)))) (fun ds P q=>?_) h⟩
 obtain ⟨e,cols,x,y,a,b,rfl,C,G,ha,hb,u⟩:=q
 rw[show aJ mr [.lst [dI e,dI cols],.int x,.tup [.int (a:Int),.int (b:Int)],.int y]=[some (.lst [dI e,dI cols]),some (.int x),some (.tup [.int (a:Int),.int (b:Int)]),some (.int y),none] from rfl]
 have j:=iT (n:=e.length) (m:=cols.length) (x:=x)
 have lt:=j.1
 have p:=j.row ha
 walk_at "go"
 refine gY (as:=e) (f:=L3.D.int) (g:=fun _=>dI (List.replicate cols.length x)) (fun R h=>?_) (by omega) (fun r B R h=>?_) ?_
 .walk_at "go"
  exact h
 .walk_at "gb"
  refine gY (as:=cols) (f:=L3.D.int) (g:=fun _=>.int x) (fun R h=>?_) (by omega) (fun r B R h=>?_) ?_
  .walk_at "gb"
   exact h
  .walk_at "gb"
   exact h
  rw[show cols.map (fun _=>L3.D.int x)=(List.replicate cols.length x).map L3.D.int by rw[Pz];exact List.map_const ..]
  exact h
 rw[show e.map (fun _=>dI (List.replicate cols.length x))=(bp e.length cols.length x).map dI by unfold bp;rw[Pz];exact List.map_const ..]
 refine oR (t:=bp e.length cols.length x) (a:=a) (b:=b) (v:=y) rfl (fun R h=>?_) (fun R h=>?_) (fun R h=>?_) (by omega) (by rw[Md,p];omega) ?_
 .walk_at "go"
  exact h
 .walk_at "go"
  exact h
 .walk_at "go"
  exact h
 walk_at "go"
 exact u
def vZ{n m a b:Nat}{x:Int}(ha:a<n)(hb:b<m):fD (bp n m x) a b=setCell (bp n m x) a b (1 - x):=by
 unfold fD
 rw[bg ha hb]
def zM{n m a b:Nat}{x:Int}(ha:a<n):setCell (bp n m x) a b x=bp n m x:=by
 unfold setCell bp
 rw[gV,MQ,if_pos ha,M3,List.set_replicate_self,List.set_replicate_self]
def Told(c cols:aab)(a b:Nat)(x:D):Prop:=(∃u v,x=.tup [.str "free",dT u,dT v]/\Tal.Ok c cols u/\cellAt u a b=0/\Tal.Ok c cols v/\cellAt v a b=1)\/(∃U V,x=.tup [.str "zero",dN U,dN V]/\Ct c.length cols.length c cols (fD (bp c.length cols.length 0) a b) (bp c.length cols.length 1) U V)\/(∃U V,x=.tup [.str "one",dN U,dN V]/\Ct c.length cols.length c cols (bp c.length cols.length 0) (fD (bp c.length cols.length 1) a b) U V)
def fC:DSp:=fun ds P=>∃(x:D) (c cols:aab) (a b:Nat),ds=[x,.lst [dI c,dI cols],.tup [.int (a:Int),.int (b:Int)]]/\1<=c.length/\c.length<=8/\1<=cols.length/\cols.length<=8/\a<c.length/\b<cols.length/\Told c cols a b x/\P (.bl true)
def lZ:bo fC:=by
 intro xs P b k h
 unfold fC at h ⊢
 grind
def vj:∀ds P,fC ds P->ds.length=3:=by
 intro ds P h
 obtain ⟨_,_,_,_,_,e,_⟩:=h
 rw[e];rfl
def xW{c:Cs}{f:Addr}{G:FuncData}(F:FnAt K mg "_law_right" jI ie f G)(l:Fns K mg c)(T:Txt K mg base)(xs:Exs K mg base c):br P w K mg base CX0 4 f G ie (spP K fC):=by
 obtain ⟨y,d0,B⟩:=l.h_law_frame
 have J:=xJ (P:=P) (w:=w) B l T xs
 obtain ⟨t,d1,L⟩:=l.h_law_bars
 have RK:=yP (P:=P) (w:=w) L l T xs
 obtain ⟨f2,d2,C⟩:=l.h_law_lies
 have I:=zr (P:=P) (w:=w) C l T xs
 refine F.fn.ok eJ (fun vs H Q E h=>aR vj h) (fun cdv A outer s H vs Q E o h=>?_)
 refine⟨_,(ak (bB (PW.pt (lN (dX (c3 (aQ (eI (K:=K) rfl) (by rfl) T.isinstance_ boot_isinstance (aa (pv 0) (aa (jS (v:=.ty "tuple") rfl T.tuple_ boot_tuple rfl) aj))))) (j5 (aM rA (wln K T.len_ (pv 0)) aq (aW _))))) (av (aB fG)) aV) (ak (bB (aM ku (wit K (pv 0) aq) cM (aW _)) (av (aB (tq (wcl I o C (aa (wit K (pv 0) aq) (aa (pv 1) (aa (pv 2) (aa aq aj))))) (qg (wcl I o C (aa (wit K (pv 0) aq) (aa (pv 1) (aa (pv 2) (aa aq aj))))))))) aV) (ak (wst 3 eJ.nd aq) (ak (wst 4 eJ.nd aq) (ak (bB (aM ku (wit K (pv 0) aq) cM (aW _)) (ak (wst 3 eJ.nd aq) (av (wst 4 eJ.nd aq))) (av (bB (aM rA (wit K (pv 0) aq) cM (aW _)) (av (aB fG)) aV))) (ak (wst 5 eJ.nd (wcl J o B (aa (pv 1) (aa aq (aa (pv 2) (aa (pv 3) aj)))))) (av (aB (wcl RK o L (aa (wit K (pv 0) aq) (aa (wit K (pv 0) aq) (aa (wix K (pv 1) aq) (aa (wix K (pv 1) aq) (aa (pv 5) (aa (wcl J o B (aa (pv 1) (aa aq (aa (pv 2) (aa (pv 4) aj))))) aj))))))))))))))),bb (Γn:=[]) (N:=gT) (ax (bP (lS (eQ (mM (EM.er (iU kit_tuple (ES.er (af 0)))))) (aL (EM.er (ay yC (EM.er (aS bI (ai (ES.er (af 0)) au))) (EM.er ar))))) (aI (M:=[]) iE) aX) (ax (bP (aL (EM.er (ay qR (ES.er (bT (af 0) (EM.er ar))) (EM.er cS)))) (aI (M:=[]) (pw (EM.er (aD (S:=gE) nM (ai (ES.er (bT (af 0) (EM.er ar))) (ai (ES.er (af 1)) (ai (ES.er (af 2)) (ai (EM.er ar) au)))))) (aD (S:=gE) nM (ai (ES.er (bT (af 0) (EM.er ar))) (ai (ES.er (af 1)) (ai (ES.er (af 2)) (ai (EM.er ar) au))))))) aX) (ax (ST.post (Γn:=[]) (aK 3 (EM.es ar))) (ax (ST.post (Γn:=[]) (aK 4 (EM.es ar))) (ax (bP (aL (EM.er (ay qR (ES.er (bT (af 0) (EM.er ar))) (EM.er cS)))) (ax (ST.post (Γn:=[]) (aK 3 (EM.es ar))) (ST.post (Γn:=[]) (aK 4 (EM.es ar)))) (bP (aL (EM.er (ay yC (ES.er (bT (af 0) (EM.er ar))) (EM.er cS)))) (aI (M:=[]) iE) aX)) (ax (ST.post (Γn:=[]) (aK 5 (EM.es (aD (S:=fB) mq (ai (ES.er (af 1)) (ai (EM.er ar) (ai (ES.er (af 2)) (ai (ES.er (af 3)) au)))))))) (aI (M:=[]) (aD (S:=i9) uY (ai (ES.er (bT (af 0) (EM.er ar))) (ai (ES.er (bT (af 0) (EM.er ar))) (ai (ES.er (aA (af 1) (EM.er ar))) (ai (ES.er (aA (af 1) (EM.er ar))) (ai (ES.er (af 5)) (ai (EM.er (aD (S:=fB) mq (ai (ES.er (af 1)) (ai (EM.er ar) (ai (ES.er (af 2)) (ai (ES.er (af 4)) au)))))) au)))))))))))))) (fun ds P hS=>?_) h⟩
 obtain ⟨x,e,cols,a,b,rfl,n1,i,q,j,ha,hb,X,r⟩:=hS
 have y:=iT (n:=e.length) (m:=cols.length) (x:=0)
 have t:=iT (n:=e.length) (m:=cols.length) (x:=1)
 rcases X with ⟨u,v,rfl,Z,R,Y,O⟩|⟨U,V,rfl,p⟩|⟨U,V,rfl,p⟩
 .rw[show aJ gT [.tup [.str "free",dT u,dT v],.lst [dI e,dI cols],.tup [.int (a:Int),.int (b:Int)]]=[some (.tup [.str "free",dT u,dT v]),some (.lst [dI e,dI cols]),some (.tup [.int (a:Int),.int (b:Int)]),none,none,none] from rfl]
  refine fI fun g e1=>?_
  walk_at "go"
  first|rw[if_neg (by decide)]|skip
  subst e1
  refine fI fun g e1=>?_
  walk_at "go"
  first|rw[if_pos rfl]|skip
  refine⟨u,e,cols,a,b,0,rfl,n1,i,q,j,ha,hb,Z,R,?_⟩
  walk_at "go"
  exact⟨v,e,cols,a,b,1,rfl,n1,i,q,j,ha,hb,Y,O,r⟩
 .rw[show aJ gT [.tup [.str "zero",dN U,dN V],.lst [dI e,dI cols],.tup [.int (a:Int),.int (b:Int)]]=[some (.tup [.str "zero",dN U,dN V]),some (.lst [dI e,dI cols]),some (.tup [.int (a:Int),.int (b:Int)]),none,none,none] from rfl]
  refine fI fun g e1=>?_
  walk_at "go"
  first|rw[if_neg (by decide)]|skip
  subst e1
  refine fI fun g e1=>?_
  walk_at "go"
  rw[if_neg (by decide)]
  subst e1
  refine fI fun g e1=>?_
  walk_at "go"
  subst e1
  refine fI fun g e1=>?_
  walk_at "go"
  subst e1
  refine fI fun g e1=>?_
  walk_at "go"
  first|rw[if_pos rfl]|skip
  subst e1
  refine fI fun g e1=>?_
  walk_at "go"
  refine⟨e,cols,0,1,a,b,rfl,i,j,ha,hb,?_⟩
  subst e1
  walk_at "go"
  refine⟨e,cols,1,1,a,b,rfl,i,j,ha,hb,?_⟩
  walk_at "go"
  rw[vZ (x:=0) ha hb] at p
  exact⟨e,cols,_,_,e.length,cols.length,U,V,rfl,y.setCell ha,t.setCell ha,n1,i,q,j,rfl,rfl,by rw[zM ha];exact p,r⟩
 .rw[show aJ gT [.tup [.str "one",dN U,dN V],.lst [dI e,dI cols],.tup [.int (a:Int),.int (b:Int)]]=[some (.tup [.str "one",dN U,dN V]),some (.lst [dI e,dI cols]),some (.tup [.int (a:Int),.int (b:Int)]),none,none,none] from rfl]
  refine fI fun g e1=>?_
  walk_at "go"
  first|rw[if_neg (by decide)]|skip
  subst e1
  refine fI fun g e1=>?_
  walk_at "go"
  rw[if_neg (by decide)]
  subst e1
  refine fI fun g e1=>?_
  walk_at "go"
  subst e1
  refine fI fun g e1=>?_
  walk_at "go"
  subst e1
  refine fI fun g e1=>?_
  walk_at "go"
  rw[if_neg (by decide)]
  first|rw[if_neg (fun z=>z rfl)]|skip
  subst e1
  refine fI fun g e1=>?_
  walk_at "go"
  refine⟨e,cols,0,0,a,b,rfl,i,j,ha,hb,?_⟩
  subst e1
  walk_at "go"
  refine⟨e,cols,1,0,a,b,rfl,i,j,ha,hb,?_⟩
  walk_at "go"
  rw[vZ (x:=1) ha hb] at p
  exact⟨e,cols,_,_,e.length,cols.length,U,V,rfl,y.setCell ha,t.setCell ha,n1,i,q,j,rfl,rfl,by rw[zM ha];exact p,r⟩
def Rej(b cols:aab)(x y v:Int):Prop:=(¬ ((0<=x/\x<b.length)/\0<=y/\y<cols.length)/\v=1)\/(((0<=x/\x<b.length)/\0<=y/\y<cols.length)/\¬ lQ b cols/\v=2)
def jt:DSp:=fun ds P=>∃(b cols:aab) (x y v:Int),ds=[.lst [dI b,dI cols],.tup [.int x,.int y]]/\1<=b.length/\b.length<=8/\1<=cols.length/\cols.length<=8/\(∀r∈b,0<=r)/\(∀c∈cols,0<=c)/\Rej b cols x y v/\P (.int v)
def u5:bo jt:=by
 intro xs P b k h
 unfold jt at h ⊢
 grind
def xY:∀ds P,jt ds P->ds.length=2:=by
 intro ds P h
 obtain ⟨_,_,_,_,_,e,_⟩:=h
 rw[e];rfl
def yw{c:Cs}{f:Addr}{t:FuncData}(F:FnAt K mg "_law_seen" k9 jv f t)(p:Fns K mg c)(T:Txt K mg base)(xs:Exs K mg base c):br P w K mg base CX0 8 f t jv (spP K jt):=by
 obtain ⟨f0,d0,j⟩:=p.h_fate_of
 have Y:=oo (P:=P) (w:=w) j p T xs
 obtain ⟨u,B,e⟩:=p.h_law_other_class
 have OI:FnE P w K mg base 1 u B bh c.NoPlace (spE false):=i8 e T xs
 have Z:FnE P w K mg base 1 u B bh c.NoSums (spE false):=jG e T xs
 refine F.fn.ok ic (fun vs H Q E h=>aR xY h) (fun S A outer s H vs Q E o h=>?_)
 refine⟨_,(ak (wst 2 ic.nd aq) (ak (Ij (i:=3) rfl rfl Y (o.mono (by decide)) rfl j.mg j.fn.kp j.bd (aa (wix K (pv 0) aq) (aa (wix K (pv 0) aq) (aa (pv 1) aj))) xs.o_NoPlace xs.o_NoSums xs.m_NoPlace rfl xs.m_NoSums rfl xs.ne_NoSums_NoPlace ic.nd rfl rfl (fun a I g=>(av (wst 2 ic.nd (aH bN aq (aH pZ aq (cP qB (by rfl) T.int_ boot_int (aa (Jn (aQ (wg g xs.k_NoPlace) (by rfl) T.isinstance_ boot_isinstance (aa (pv 3) (aa (bA (v:=.ref c.NoSums) rfl xs.m_NoSums rfl) aj))) (qg (yW (E:=E0) OI g (o.mono (by decide)) rfl e.mg e.fn.kp e.bd (aa (pv 3) aj)))) aj))))))) (fun a I g=>(av (wst 2 ic.nd (aH bN aq (aH pZ aq (cP qB (by rfl) T.int_ boot_int (aa (Jn (aQ (wg g xs.k_NoSums) (by rfl) T.isinstance_ boot_isinstance (aa (pv 3) (aa (bA (v:=.ref c.NoPlace) rfl xs.m_NoPlace rfl) aj))) (qg (yW (E:=E0) Z g (o.mono (by decide)) rfl e.mg e.fn.kp e.bd (aa (pv 3) aj)))) aj)))))))) (av (aB (pv 2))))),bb (Γn:=[]) (N:=oq) (ax (ST.post (Γn:=[]) (aK 2 (EM.es ar))) (ax (Ia 3 iL (ai (ES.er (aA (af 0) (EM.er ar))) (ai (ES.er (aA (af 0) (EM.er ar))) (ai (ES.er (af 1)) au))) (yR 2 (n:=1) (fun a C H Q hi q=>⟨_,hi,false,_,⟨false,rfl,⟨_,hi,rfl,fun H' s=>.inr ⟨false,rfl,⟨4,0,rfl,rfl,⟨64,64,by decide,by decide,by decide⟩,⟨1,0,rfl,rfl,q _ s⟩⟩⟩⟩⟩,rfl,xs.p_NoPlace_NoSums⟩)) (yR 2 (n:=2) (fun a C H Q hi q=>⟨_,hi,false,_,⟨false,rfl,⟨_,hi,rfl,fun H' s=>.inr ⟨false,rfl,⟨4,0,rfl,rfl,⟨64,64,by decide,by decide,by decide⟩,⟨2,0,rfl,rfl,q _ s⟩⟩⟩⟩⟩,rfl,xs.p_NoSums_NoPlace⟩))) (aI (M:=[]) (ER.aP (ES.er (af 2)))))) (fun ds P R=>?_) h⟩
 obtain ⟨b,cols,x,y,v,rfl,n1,J,O,L,X,U,m,r⟩:=R
 rw[show aJ oq [.lst [dI b,dI cols],.tup [.int x,.int y]]=[some (.lst [dI b,dI cols]),some (.tup [.int x,.int y]),none,none] from rfl]
 walk_at "go"
 refine⟨b,cols,x,y,rfl,n1,J,O,L,X,U,fun z=>?_,fun z q=>?_,fun z q=>?_⟩
 .rcases m with ⟨_,rfl⟩|⟨q,_⟩
  .exact .inl ⟨rfl,r⟩
  .exact absurd q z
 .rcases m with ⟨l,_⟩|⟨_,_,rfl⟩
  .exact absurd z l
  .exact .inr ⟨rfl,r⟩
 .rcases m with ⟨l,_⟩|⟨_,G,_⟩
  .exact absurd z l
  .exact absurd q G
def gg:DSp:=fun ds P=>∃(b cols:aab) (x y v:Int),ds=[.lst [dI b,dI cols],.tup [.int x,.int y]]/\1<=b.length/\b.length<=8/\1<=cols.length/\cols.length<=8/\(∀r∈b,0<=r)/\(∀c∈cols,0<=c)/\Rej b cols x y v/\P (.bl true)
def rL:bo gg:=by
 intro xs P b k h
 unfold gg at h ⊢
 grind
def t7:∀ds P,gg ds P->ds.length=2:=by
 intro ds P h
 obtain ⟨_,_,_,_,_,e,_⟩:=h
 rw[e];rfl
def vd{c:Cs}{f:Addr}{l:FuncData}(F:FnAt K mg "_law_caught" iK fS f l)(m:Fns K mg c)(T:Txt K mg base)(xs:Exs K mg base c):br P w K mg base CX0 8 f l fS (spP K gg):=by
 obtain ⟨R,S,e⟩:=m.h_fate_of
 have O:=oo (P:=P) (w:=w) e m T xs
 refine F.fn.ok nF (fun vs H Q E h=>aR t7 h) (fun I A outer s H vs Q E C h=>?_)
 refine⟨_,(ak (Eg (i:=2) rfl rfl O (C.mono (by decide)) rfl e.mg e.fn.kp e.bd (aa (wix K (pv 0) aq) (aa (wix K (pv 0) aq) (aa (pv 1) aj))) xs.o_NoPlace xs.o_NoSums xs.o_MixError xs.m_MixError rfl (by simp) (by simp) nF.nd rfl rfl (fun a p g=>(av (aB (aQ (yq g xs.k_NoPlace) (by rfl) T.isinstance_ boot_isinstance (aa (pv 2) (aa (jS (v:=.ty "ValueError") rfl T.ValueError_ (by rfl) rfl) aj)))))) (fun a p g=>(av (aB (aQ (yq g xs.k_NoSums) (by rfl) T.isinstance_ boot_isinstance (aa (pv 2) (aa (jS (v:=.ty "ValueError") rfl T.ValueError_ (by rfl) rfl) aj))))))) (av (aB fG))),bb (Γn:=[]) (N:=lD) (ax (Ee 2 iL (ai (ES.er (aA (af 0) (EM.er ar))) (ai (ES.er (aA (af 0) (EM.er ar))) (ai (ES.er (af 1)) au))) xs.v_NoPlace xs.v_NoSums) (aI (M:=[]) iE)) (fun ds P G=>?_) h⟩
 obtain ⟨b,cols,x,y,v,rfl,n1,r,u,t,L,J,B,j⟩:=G
 rw[show aJ lD [.lst [dI b,dI cols],.tup [.int x,.int y]]=[some (.lst [dI b,dI cols]),some (.tup [.int x,.int y]),none] from rfl]
 walk_at "go"
 refine⟨b,cols,x,y,rfl,n1,r,u,t,L,J,fun z=>?_,fun z q=>?_,fun z q=>?_⟩
 .exact⟨.inl rfl,j⟩
 .exact⟨.inr rfl,j⟩
 .rcases B with ⟨n,_⟩|⟨_,o,_⟩
  .exact absurd z n
  .exact absurd q o
theorem zV:∀{xs:aab}{i:Nat}{v:Int},i<xs.length->(xs.set i v).sum=xs.sum+v - xs.getD i 0
 |x::xs,0,v,_=>by simp;omega
 |x::xs,i+1,v,h=>by
  have:=zV (xs:=xs) (i:=i) (v:=v) (by simpa using h)
  simp only[Oo,MF,List.getD_cons_succ]
  omega
theorem GX:∀{l:aab},(∀v∈l,v=0\/v=1)->l.sum<=l.length
 |[],_=>by simp
 |x::l,h=>by
  have e:=h x Fk
  have c:=GX (l:=l) fun v b=>h v (ox _ b)
  rw[MF,Me]
  omega
def eZ:DSp:=fun ds P=>∃(b cols:aab) (x:Int),ds=[.lst [dI b,dI cols],.int x]/\1<=b.length/\b.length<=8/\1<=cols.length/\cols.length<=8/\(∀r∈b,0<=r)/\(∀c∈cols,0<=c)/\lQ b cols/\0<=x/\x<2 ^ 60/\∀r c:aab,r.length=b.length->c.length=cols.length->(∀z∈r,0<=z)->(∀z∈c,0<=z)->¬ lQ r c->P (.lst [dI r,dI c])
def qr:bo eZ:=by
 intro xs P b k h
 unfold eZ at h ⊢
 grind
def rY:∀ds P,eZ ds P->ds.length=2:=by
 intro ds P h
 obtain ⟨_,_,_,e,_⟩:=h
 rw[e];rfl
def tK{c:Cs}{f:Addr}{I:FuncData}(F:FnAt K mg "_law_spoiled" gQ eV f I)(A_:Fns K mg c)(T:Txt K mg base)(xs:Exs K mg base c):br P w K mg base CX0 1 f I eV (spP K eZ):=by
 refine F.fn.ok eF (fun vs H Q E h=>aR rY h) (fun Y A outer s H vs Q E hr h=>?_)
 refine⟨_,(ak (wst 2 eF.nd (cP (dQ (K:=K) rfl) (by rfl) T.list_ boot_list (aa (wix K (pv 0) aq) aj))) (ak (wst 3 eF.nd (cP (dQ (K:=K) rfl) (by rfl) T.list_ boot_list (aa (wix K (pv 0) aq) aj))) (ak (wst 4 eF.nd (aH bH (aH cH (pv 1) aq) (wln K T.len_ (pv 2)))) (ak (bB (aM ku (aH bH (pv 1) aq) aq (aW _)) (av (j7 (aH bN (wix K (pv 2) (pv 4)) aq) (lB (pv 2) (pv 4) set_list))) (ak (wst 5 eF.nd (aH bH (aH cH (pv 1) aq) (wln K T.len_ (pv 3)))) (ak (j7 (aH iw (aH bN (aH bN (wix K (pv 3) (pv 5)) (wln K T.len_ (pv 3))) aq) (wix K (pv 2) (pv 4))) (lB (pv 3) (pv 5) set_list)) (av (j7 (aH bN (wln K T.len_ (pv 3)) aq) (lB (pv 2) (pv 4) set_list)))))) (av (aB (bR (aa (pv 2) (aa (pv 3) aj))))))))),bb (Γn:=[3,2]) (N:=j8) (ax (ST.post (Γn:=[2]) (cG (M:=[]) 2 (aS l6 (ai (ES.er (aA (af 0) (EM.er ar))) au)))) (ax (ST.post (Γn:=[3,2]) (cG (M:=[]) 3 (aS l6 (ai (ES.er (aA (af 0) (EM.er ar))) au)))) (ax (ST.post (Γn:=[3,2]) (aK 4 (EM.es (ay aT (EM.er (ay aT (ES.er (af 1)) (EM.er ar))) (EM.er (aS bI (ai (dY 2) au))))))) (ax (bP (aL (EM.er (ay qR (EM.er (ay aT (ES.er (af 1)) (EM.er ar))) (EM.er ar)))) (nP 2 (ay bJ (sR (dY 2) (ES.er (af 4))) (EM.er ar)) (ES.er (af 4))) (ax (ST.post (Γn:=[3,2]) (aK 5 (EM.es (ay aT (EM.er (ay aT (ES.er (af 1)) (EM.er ar))) (EM.er (aS bI (ai (dY 3) au))))))) (ax (nP 3 (ay bJ (EM.er (ay bJ (EM.er (ay bJ (sR (dY 3) (ES.er (af 5))) (EM.er (aS bI (ai (dY 3) au))))) (EM.er ar))) (sR (dY 2) (ES.er (af 4)))) (ES.er (af 5))) (nP 2 (ay bJ (EM.er (aS bI (ai (dY 3) au))) (EM.er ar)) (ES.er (af 4)))))) (aI (M:=[2,3]) (bS (dD (gf 2) (dD (gf 3) bf)))))))) (fun ds P U=>?_) h⟩
 obtain ⟨e,cols,x,rfl,n1,n8,m1,m8,y,u,C,x0,x1,G⟩:=U
 rw[show aJ j8 [.lst [dI e,dI cols],.int x]=[some (.lst [dI e,dI cols]),some (.int x),none,none,none,none] from rfl]
 obtain ⟨t,S⟩:=pO.mp C
 obtain ⟨l,rs,cs⟩:=pB S
 have ha:=emod_lt (x:=x / 2) (n:=(e.length:Int)) (by omega)
 have hb:=emod_lt (x:=x / 16) (n:=(cols.length:Int)) (by omega)
 obtain ⟨a,L⟩:∃a:Nat,x / 2 % (e.length:Int)=a:=⟨(x / 2 % (e.length:Int)).toNat,by omega⟩
 obtain ⟨b,J⟩:∃b:Nat,x / 16 % (cols.length:Int)=b:=⟨(x / 16 % (cols.length:Int)).toNat,by omega⟩
 rw[L] at ha
 rw[J] at hb
 have ga:0<=e.getD a 0:=by
  rw[gV,dz (by omega)]
  exact y _ (MJ _)
 have gb:0<=cols.getD b 0:=by
  rw[gV,dz (by omega)]
  exact u _ (MJ _)
 have gm:e.getD a 0<=cols.length:=by
  rw[<- rs a (by omega)]
  have m:=l.1.row (i:=a) (by omega)
  rw[<- m]
  refine GX fun v o=>l.2 (rowAt t a) ?_ v o
  have:=l.1.1
  unfold rowAt
  rw[gV,dz (by omega)]
  exact MJ _
 walk_at "go"
 rw[L]
 by_cases B:x % 2=0
 .rw[if_pos B]
  refine lj (r:=e) (a:=(a:Int)) (v:=e.getD a 0+1) rfl (fun R h=>?_) (fun R h=>?_) (by omega) ?_
  .walk_at "go"
   refine aO (by omega) ?_
   rw[Md]
   walk_at "go"
   exact h
  .walk_at "go"
   exact h
  rw[Md]
  walk_at "go"
  refine G _ _ (by rw[Mv]) rfl (fun z g=>?_) u fun hn=>?_
  .rcases Ni g with q|q
   .exact y z q
   .omega
  .have O:=pX hn
   have s2:=pX C
   rw[zV (by omega)] at O
   omega
 .rw[if_neg B]
  walk_at "go"
  rw[J]
  refine lj (r:=cols) (a:=(b:Int)) (v:=cols.getD b 0+cols.length+1 - e.getD a 0) rfl (fun R h=>?_) (fun R h=>?_) (by omega) ?_
  .walk_at "go"
   refine aO (by omega) ?_
   rw[Md]
   walk_at "go"
   refine aO (by omega) ?_
   rw[Md]
   walk_at "go"
   exact h
  .walk_at "go"
   exact h
  rw[Md]
  walk_at "go"
  refine lj (r:=e) (a:=(a:Int)) (v:=cols.length+1) rfl (fun R h=>?_) (fun R h=>?_) (by omega) ?_
  .walk_at "go"
   rw[Mv]
   exact h
  .walk_at "go"
   exact h
  rw[Md]
  walk_at "go"
  refine G _ _ (by rw[Mv]) (by rw[Mv]) (fun z g=>?_) (fun z g=>?_) fun hn=>?_
  .rcases Ni g with q|q
   .exact y z q
   .omega
  .rcases Ni g with q|q
   .exact u z q
   .omega
  .obtain ⟨t',p⟩:=pO.mp hn
   obtain ⟨j,Z,X⟩:=pB p
   rw[Mv,Mv] at j
   have m:=j.1.row (i:=a) (by omega)
   have l':=j.1.1
   have:=Z a (by rw[Mv];omega)
   rw[gV,Mj (by omega)] at this
   have q:js t' a<=(rowAt t' a).length:=by
    refine GX fun v o=>j.2 (rowAt t' a) ?_ v o
    unfold rowAt
    rw[gV,dz (by omega)]
    exact MJ _
   rw[this,m] at q
   simp only[M3] at q
   omega
def kj:DSp:=fun ds P=>∃(c cols:aab) (x:Int),ds=[.lst [dI c,dI cols],.int x]/\1<=c.length/\c.length<=8/\1<=cols.length/\cols.length<=8/\0<=x/\x<2 ^ 60/\∀a b:Int,¬ ((0<=a/\a<c.length)/\0<=b/\b<cols.length)->P (.tup [.int a,.int b])
def wL:bo kj:=by
 intro xs P b k h
 unfold kj at h ⊢
 grind
def zO:∀ds P,kj ds P->ds.length=2:=by
 intro ds P h
 obtain ⟨_,_,_,e,_⟩:=h
 rw[e];rfl
def AQ{c:Cs}{f:Addr}{i:FuncData}(F:FnAt K mg "_law_odd" m9 kK f i)(G:Fns K mg c)(T:Txt K mg base)(xs:Exs K mg base c):br P w K mg base CX0 1 f i kK (spP K kj):=by
 refine F.fn.ok kT (fun vs H Q E h=>aR zO h) (fun m A outer s H vs Q E u h=>?_)
 refine⟨_,(ak (wst 2 kT.nd (wln K T.len_ (wix K (pv 0) aq))) (ak (wst 3 kT.nd (wln K T.len_ (wix K (pv 0) aq))) (ak (wst 4 kT.nd (wix K (bR (aa (aH bH (aH cH (pv 1) aq) (pv 2)) (aa (CQ xV aq) (aa (aH iw aq (pv 2)) (aa (pv 2) (aa (aH AL aq aq) (aa (aH iw aq (aH AL aq aq)) aj))))))) (aH bH (pv 1) aq))) (ak (bB (aM zE (aH bH (pv 1) aq) aq (aW _)) (av (aB (c4 (aa (pv 4) (aa (aH bH (aH cH (pv 1) aq) (pv 3)) aj))))) aV) (av (aB (c4 (aa (pv 4) (aa (wix K (bR (aa (CQ xV aq) (aa (pv 3) (aa (aH iw aq (pv 3)) (aa (aH bN (pv 3) aq) aj))))) (aH bH (aH cH (pv 1) aq) aq)) aj))))))))),bb (Γn:=[4]) (N:=qz) (ax (ST.post (Γn:=[]) (aK 2 (EM.es (aS bI (ai (ES.er (aA (af 0) (EM.er ar))) au))))) (ax (ST.post (Γn:=[]) (aK 3 (EM.es (aS bI (ai (ES.er (aA (af 0) (EM.er ar))) au))))) (ax (ST.post (Γn:=[4]) (cG (M:=[]) 4 (ER.aP (ES.er (aA (EM.es (bS (aE (ay aT (EM.er (ay aT (ES.er (af 1)) (EM.er ar))) (ES.er (af 2))) (aE (Cv BC (EM.er ar)) (aE (ay bJ (EM.er ar) (ES.er (af 2))) (aE (ER.aP (ES.er (af 2))) (aE (ay aT (EM.er ar) (EM.er ar)) (aE (ay bJ (EM.er ar) (EM.er (ay aT (EM.er ar) (EM.er ar)))) bf)))))))) (EM.er (ay aT (ES.er (af 1)) (EM.er ar)))))))) (ax (bP (aL (EM.er (ay nh (EM.er (ay aT (ES.er (af 1)) (EM.er ar))) (EM.er ar)))) (aI (M:=[4]) (fo (dD (gf 4) (aE (ay aT (EM.er (ay aT (ES.er (af 1)) (EM.er ar))) (ES.er (af 3))) bf)))) aX) (aI (M:=[4]) (fo (dD (gf 4) (aE (ER.aP (ES.er (aA (EM.es (bS (aE (Cv BC (EM.er ar)) (aE (ER.aP (ES.er (af 3))) (aE (ay bJ (EM.er ar) (ES.er (af 3))) (aE (ay bJ (ES.er (af 3)) (EM.er ar)) bf)))))) (EM.er (ay aT (EM.er (ay aT (ES.er (af 1)) (EM.er ar))) (EM.er ar)))))) bf)))))))) (fun ds P j=>?_) h⟩
 obtain ⟨e,cols,x,rfl,n1,q,t,r,p,o,b⟩:=j
 rw[show aJ qz [.lst [dI e,dI cols],.int x]=[some (.lst [dI e,dI cols]),some (.int x),none,none,none] from rfl]
 have v:=emod_lt (x:=x) (n:=6) (by decide)
 have B:=emod_lt (x:=x / 6) (n:=4) (by decide)
 have g:FN x 128:=by walk_at "cd"
 have l:FN x 6:=by walk_at "cd"
 have C:=emod_lt (x:=x / 128) (n:=(cols.length:Int)) (by omega)
 walk_at "go"
 have q6:x % 6=0\/x % 6=1\/x % 6=2\/x % 6=3\/x % 6=4\/x % 6=5:=by omega
 rcases q6 with z|z|z|z|z|z<;>rw[z]
 .refine⟨rfl,by decide,l,?_⟩
  have q4:x / 6 % 4=0\/x / 6 % 4=1\/x / 6 % 4=2\/x / 6 % 4=3:=by omega
  rcases q4 with y|y|y|y<;>rw[y]
  .exact⟨rfl,by decide,b _ _ (by omega)⟩
  .exact⟨rfl,by decide,b _ _ (by omega)⟩
  .exact⟨rfl,by decide,b _ _ (by omega)⟩
  .exact⟨rfl,by decide,b _ _ (by omega)⟩
 .exact⟨rfl,g,by omega,by decide,b _ _ (by omega)⟩
 .exact⟨rfl,g,by omega,by decide,b _ _ (by omega)⟩
 .exact⟨rfl,g,by omega,by decide,b _ _ (by omega)⟩
 .exact⟨rfl,g,by omega,by decide,b _ _ (by omega)⟩
 .exact⟨rfl,g,by omega,by decide,b _ _ (by omega)⟩
def gU:DSA:=fun ds P=>∃t u:aaa,ds=[dT t,dT u]/\1<=t.length/\t.length<=8/\1<=u.length/\u.length<=8/\(∀r∈u,r.length<=8)/\∀xs ys,P (.bl true) (.lst xs) (.lst ys)
def sI:G8 gU:=by
 intro xs P b k h
 unfold gU at h ⊢
 grind
def nK:∀ds P,gU ds P->ds.length=2:=by
 intro ds P h
 unfold gU at h
 grind
def yo{c:Cs}{f:Addr}{j:FuncData}(F:FnAt K mg "_law_apart" gW gZ f j)(G:Fns K mg c)(T:Txt K mg base)(xs:Exs K mg base c):br P w K mg base CX0 1 f j gZ (spA K gU):=by
 refine F.fn.ok iJ (fun vs H Q E h=>Iv nK h) (fun v A outer s H vs Q E g h=>?_)
 refine⟨_,(ak (uj (i:=2) (bt.of (sc0:=(aw gW)) (tn:=["_law_line"]) (cap:=[]) (idx:=[]) (by decide +kernel) rfl rfl) iJ.nd rfl (by walk_at "o") (wil K (pv 1)) (ma.name (by decide)) (fun _ _ _ _ _=>gO (i:=0) (bU (l:=["_law_line"]) (by decide +kernel)) rfl (by walk_at "o") (by first|exact .inl rfl|exact .inr rfl)) (fun _ _ _ _ _=>(cP (dQ (K:=K) rfl) (by rfl) T.list_ boot_list (aa (pv 0) aj)))) (ak (wfo (wil K (pv 0)) (wpg 3 iJ.nd) (av (cZ (Ap MG PySem.F.slot_list_clear PySem.F.type_list_clear uG (pv 3))))) (ak (bB (aM (uI g.units) (pv 1) (pv 2) (aW _)) (av (aB fG)) aV) (ak (wfo (wil K (pv 1)) (wpg 3 iJ.nd) (av (cZ (Ap MG PySem.F.slot_list_clear PySem.F.type_list_clear uG (pv 3))))) (av (aB fG)))))),Io (Γn:=[0,1]) (N:=mG) (ax (ST.post (Γn:=[0,1]) (aK 2 (EM.es (EM.free (bw (bL (IK 1)) (aN 0) (aS l6 (ai (ES.er (af 0)) au))))))) (ax (Ci 0 (yN 0 3 vP)) (ax (bP (aL (EM.er (ay yE (mT 1) (ES.er (af 2))))) (aI (M:=[]) iE) aX) (ax (Ci 1 (yN 1 3 vP)) (aI (M:=[]) iE))))) (fun ds P a b x y p o n=>?_) (fun ds P h=>by have:=nK ds P h;omega) h⟩
 obtain ⟨t,u,rfl,n1,z,m,B,C,q⟩:=p
 cases o
 cases n
 simp only[Px,Oo]
 rw[show aJ mG [.pin a (dT t),.pin b (dT u)]=[some (.pin a (dT t)),some (.pin b (dT u)),none,none] from rfl]
 refine fI fun e e1=>?_
 walk_at "go"
 refine vF (t:=u) (fun R h=>by walk_at "go";exact h) (by omega) (fun r g R h=>by walk_at "gb";exact h) ?_
 walk_at "go"
 subst e1
 refine fI fun e e1=>?_
 walk_at "go"
 refine uv (t:=t) rfl (by simp only[Me,Mv];omega) (by decide) n1 ?_
 walk_at "go"
 subst e1
 refine fI fun e e1=>?_
 walk_at "go"
 refine m4 (xs:=u) (ys:=u) ?_
 rw[if_pos rfl,decide_eq_true rfl]
 walk_at "go"
 subst e1
 refine fI fun e e1=>?_
 walk_at "go"
 refine uv (t:=u) rfl (by simp only[Me,Mv];omega) (by decide) m ?_
 walk_at "go"
 subst e1
 walk_at "go"
 exact q _ _
def cI:DSp:=fun ds P=>∃(b cols:aab) (x y v:Int),ds=[.lst [dI b,dI cols],.tup [.int x,.int y],.int v]/\1<=b.length/\b.length<=8/\1<=cols.length/\cols.length<=8/\(∀r∈b,0<=r)/\(∀c∈cols,0<=c)/\Rej b cols x y v/\P (.bl true)
def gv:bo cI:=by
 intro xs P b k h
 unfold cI at h ⊢
 grind
def rZ:∀ds P,cI ds P->ds.length=3:=by
 intro ds P h
 obtain ⟨_,_,_,_,_,e,_⟩:=h
 rw[e];rfl
def sP{c:Cs}{f:Addr}{n:FuncData}(F:FnAt K mg "_law_refused" gN eU f n)(e:Fns K mg c)(T:Txt K mg base)(xs:Exs K mg base c):br P w K mg base CX0 9 f n eU (spP K cI):=by
 obtain ⟨I,L,r⟩:=e.h_law_caught
 have C:=vd (P:=P) (w:=w) r e T xs
 obtain ⟨G,J,o⟩:=e.h_law_seen
 have B:=yw (P:=P) (w:=w) o e T xs
 refine F.fn.ok mP (fun vs H Q E h=>aR rZ h) (fun z A outer s H vs Q E g h=>?_)
 refine⟨_,(ak (wst 3 mP.nd (bR (aa (cP (dQ (K:=K) rfl) (by rfl) T.list_ boot_list (aa (wix K (pv 0) aq) aj)) (aa (cP (dQ (K:=K) rfl) (by rfl) T.list_ boot_list (aa (wix K (pv 0) aq) aj)) aj)))) (av (aB (tq (kZ ku (wcl B g o (aa (pv 3) (aa (pv 1) aj))) (pv 2) (aW _)) (tq (wcl C g r (aa (pv 3) (aa (pv 1) aj))) (qg (kZ (AA g.units) (pv 3) (pv 0) (aW _)))))))),bb (Γn:=[]) (N:=kd) (ax (ST.post (Γn:=[]) (aK 3 (EM.es (bS (aE (aS l6 (ai (ES.er (aA (af 0) (EM.er ar))) au)) (aE (aS l6 (ai (ES.er (aA (af 0) (EM.er ar))) au)) bf)))))) (aI (M:=[]) (pw (EM.er (ay qR (EM.er (aD (S:=jt) u5 (ai (ES.er (af 3)) (ai (ES.er (af 1)) au)))) (ES.er (af 2)))) (pw (EM.er (aD (S:=gg) rL (ai (ES.er (af 3)) (ai (ES.er (af 1)) au)))) (ay Gk (ES.er (af 3)) (ES.er (af 0))))))) (fun ds P t=>?_) h⟩
 obtain ⟨b,cols,x,y,v,rfl,n1,i,l,j,q,p,m,u⟩:=t
 rw[show aJ kd [.lst [dI b,dI cols],.tup [.int x,.int y],.int v]=[some (.lst [dI b,dI cols]),some (.tup [.int x,.int y]),some (.int v),none] from rfl]
 walk_at "go"
 refine⟨b,cols,x,y,v,rfl,n1,i,l,j,q,p,m,?_⟩
 walk_at "go"
 refine⟨b,cols,x,y,v,rfl,n1,i,l,j,q,p,m,?_⟩
 walk_at "go"
 refine m4 (xs:=[b,cols]) (ys:=[b,cols]) ?_
 rw[if_neg (by decide),decide_eq_true rfl]
 exact u
open Classical in
noncomputable def fwd(rows cols:aab)(i j:Nat):Str:=if (∃T,Tal.Ok rows cols T/\cellAt T i j=0) then (if (∃T,Tal.Ok rows cols T/\cellAt T i j=1) then "free" else "zero") else "one"
def HH{b cols:aab}{i j:Nat}(h:¬ ∃T,Tal.Ok b cols T/\cellAt T i j=0):("one" : Str)=fwd b cols i j:=by unfold fwd;rw[if_neg h]
def GQ{b cols:aab}{i j:Nat}(h:∃T,Tal.Ok b cols T/\cellAt T i j=0)(h':¬ ∃T,Tal.Ok b cols T/\cellAt T i j=1):("zero" : Str)=fwd b cols i j:=by unfold fwd;rw[if_pos h,if_neg h']
def ET{b cols:aab}{i j:Nat}(h:∃T,Tal.Ok b cols T/\cellAt T i j=0)(h':∃T,Tal.Ok b cols T/\cellAt T i j=1):("free" : Str)=fwd b cols i j:=by unfold fwd;rw[if_pos h,if_pos h']
def rD{A R:DS}{E:bc}{δ:Dl}(h:∀b c,b=R->c=E->xl A b c δ):xl A R E δ:=h R E rfl rfl
def rj:DSp:=fun ds P=>∃ns,ds=[.scr ns]/\ns.length<=63/\P (.bl true)
def GZ{ns:aab}{P:DK}(hl:ns.length<=63)(h:P (.bl true)):rj [.scr ns] P:=⟨ns,rfl,hl,h⟩
def LA:bo rj:=by
 intro xs P b k h
 unfold rj at h ⊢
 grind
def Ht:∀ds P,rj ds P->ds.length=1:=by
 intro ds P h
 obtain ⟨_,e,_⟩:=h
 rw[e];rfl
def Kz{c:Cs}{f:Addr}{fd:FuncData}(F:FnAt K mg "law" lX uE f fd)(o:Fns K mg c)(T:Txt K mg base)(xs:Exs K mg base c):br P w K mg base CX0 10 f fd uE (spP K rj):=by
 obtain ⟨f0,d0,QA⟩:=o.h_law_deck
 have RJ:=yz (P:=P) (w:=w) QA o T xs
 obtain ⟨f1,d1,Oy⟩:=o.h_law_sums
 have PD:=qV (P:=P) (w:=w) Oy o T xs
 obtain ⟨f2,d2,Pu⟩:=o.h_law_spoiled
 have QO:=tK (P:=P) (w:=w) Pu o T xs
 obtain ⟨f3,d3,QT⟩:=o.h_law_odd
 have Sb:=AQ (P:=P) (w:=w) QT o T xs
 obtain ⟨f4,d4,Qz⟩:=o.h_law_ones
 have RI:=zF (P:=P) (w:=w) Qz o T xs
 obtain ⟨f5,d5,B⟩:=o.h_fate_of
 have Ol:=oo (P:=P) (w:=w) B o T xs
 obtain ⟨f6,d6,N7⟩:=o.h_law_refused
 have OQ:=sP (P:=P) (w:=w) N7 o T xs
 obtain ⟨f7,d7,Pe⟩:=o.h_law_right
 have Qa:=xW (P:=P) (w:=w) Pe o T xs
 obtain ⟨f8,d8,Qe⟩:=o.h_law_apart
 have Rq:=yo (P:=P) (w:=w) Qe o T xs
 refine F.fn.ok iz (fun vs H Q E h=>aR Ht h) (fun cdv A outer s H vs Q E g h=>?_)
 refine⟨_,(ak (wst 1 iz.nd (wcl RJ g QA (aa (pv 0) (aa aq aj)))) (ak (wst 2 iz.nd (wcl PD g Oy (aa (wcl RI g Qz (aa (pv 0) (aa (pv 1) aj))) aj))) (ak (wst 3 iz.nd (wcl QO g Pu (aa (pv 2) (aa (wix K (pv 1) aq) aj)))) (ak (wst 4 iz.nd (wcl Sb g QT (aa (pv 2) (aa (wix K (pv 1) aq) aj)))) (ak (bB (PW.pt (lN (dX (c3 (wcl OQ g N7 (aa (pv 2) (aa (pv 4) (aa aq aj)))))) (j5 (dX (c3 (wcl OQ g N7 (aa (pv 3) (aa (pv 4) (aa aq aj))))))))) (av (aB fG)) aV) (ak (wfo (bu rfl T.range_ (aa aq aj)) (wpg 5 iz.nd) (ak (wst 6 iz.nd (c4 (aa (aH bH (wix K (pv 1) (aH bN aq (pv 5))) (wln K T.len_ (wix K (pv 2) aq))) (aa (aH bH (aH cH (wix K (pv 1) (aH bN aq (pv 5))) aq) (wln K T.len_ (wix K (pv 2) aq))) aj)))) (ak (wst 7 iz.nd (bR (aa (cP (dQ (K:=K) rfl) (by rfl) T.list_ boot_list (aa (wix K (pv 2) aq) aj)) (aa (cP (dQ (K:=K) rfl) (by rfl) T.list_ boot_list (aa (wix K (pv 2) aq) aj)) aj)))) (ak (wst 8 iz.nd (mZ Ol (g.mono (by decide)) rfl B.mg B.fn.kp B.bd .nil Jq (aa (wix K (pv 7) aq) (aa (wix K (pv 7) aq) (aa (pv 6) aj))))) (ak (bB (PW.pt (lN (dX (c3 (wcl Qa g Pe (aa (pv 8) (aa (pv 2) (aa (pv 6) aj)))))) (lN (aM (uI g.units) (pv 7) (pv 2) (aW _)) (j5 (dX (c3 (wcl OQ g N7 (aa (pv 3) (aa (pv 6) (aa aq aj)))))))))) (av (aB fG)) aV) (ak (wst 9 iz.nd (wit K (pv 8) aq)) (ak (bB (PW.pt (tM (aM ku (pv 9) cM (aW _)) (pP (dX (c3 (wcl Rq g Qe (aa (wit K (pv 8) aq) (aa (wit K (pv 8) aq) aj)))))))) (av (aB fG)) aV) (ak (wfo (IE (K:=K) rfl (mJ (Iq (K:=K) rfl) (pv 8) (oY aq) pH)) (wpg 10 iz.nd) (av (cZ (Ap MG PySem.F.slot_list_clear PySem.F.type_list_clear uG (pv 10))))) (ak (wst 11 iz.nd (mZ Ol (g.mono (by decide)) rfl B.mg B.fn.kp B.bd .nil Jq (aa (wix K (pv 2) aq) (aa (wix K (pv 2) aq) (aa (pv 6) aj))))) (av (bB (PW.pt (lN (aM rA (wit K (pv 11) aq) (pv 9) (aW _)) (j5 (dX (c3 (wcl Qa g Pe (aa (pv 11) (aa (pv 2) (aa (pv 6) aj))))))))) (av (aB fG)) aV))))))))))) (av (aB fG)))))))),bb (Γn:=[]) (N:=FO) (ax (ST.post (Γn:=[]) (aK 1 (EM.es (aD (S:=iX) uU (ai (ES.er (af 0)) (ai (EM.er ar) au)))))) (ax (ST.post (Γn:=[]) (aK 2 (EM.es (aD (S:=gJ) nD (ai (EM.er (aD (S:=lz) vg (ai (ES.er (af 0)) (ai (ES.er (af 1)) au)))) au))))) (ax (ST.post (Γn:=[]) (aK 3 (EM.es (aD (S:=eZ) qr (ai (ES.er (af 2)) (ai (ES.er (aA (af 1) (EM.er ar))) au)))))) (ax (ST.post (Γn:=[]) (aK 4 (EM.es (aD (S:=kj) wL (ai (ES.er (af 2)) (ai (ES.er (aA (af 1) (EM.er ar))) au)))))) (ax (bP (lS (eQ (mM (EM.er (aD (S:=cI) gv (ai (ES.er (af 2)) (ai (ES.er (af 4)) (ai (EM.er ar) au))))))) (eQ (mM (EM.er (aD (S:=cI) gv (ai (ES.er (af 3)) (ai (ES.er (af 4)) (ai (EM.er ar) au)))))))) (aI (M:=[]) iE) aX) (ax (eG (cm (ai (EM.er ar) au)) (aN 5) (ax (ST.post (Γn:=[]) (aK 6 (EM.es (fo (aE (ay aT (ES.er (aA (af 1) (EM.er (ay bJ (EM.er ar) (ES.er (af 5)))))) (EM.er (aS bI (ai (ES.er (aA (af 2) (EM.er ar))) au)))) (aE (ay aT (EM.er (ay aT (ES.er (aA (af 1) (EM.er (ay bJ (EM.er ar) (ES.er (af 5)))))) (EM.er ar))) (EM.er (aS bI (ai (ES.er (aA (af 2) (EM.er ar))) au)))) bf)))))) (ax (ST.post (Γn:=[]) (aK 7 (EM.es (bS (aE (aS l6 (ai (ES.er (aA (af 2) (EM.er ar))) au)) (aE (aS l6 (ai (ES.er (aA (af 2) (EM.er ar))) au)) bf)))))) (ax (ST.post (Γn:=[8]) (cG (M:=[]) 8 (Fp iL (ai (ES.er (aA (af 7) (EM.er ar))) (ai (ES.er (aA (af 7) (EM.er ar))) (ai (ES.er (af 6)) au)))))) (ax (bP (lS (eQ (mM (EM.er (aD (S:=fC) lZ (ai (dY 8) (ai (ES.er (af 2)) (ai (ES.er (af 6)) au))))))) (lS (aL (EM.er (ay yE (ES.er (af 7)) (ES.er (af 2))))) (eQ (mM (EM.er (aD (S:=cI) gv (ai (ES.er (af 3)) (ai (ES.er (af 6)) (ai (EM.er ar) au))))))))) (aI (M:=[]) iE) aX) (ax (ST.post (Γn:=[8]) (aK 9 (EM.es (ER.aP (AN (dY 8) (EM.er ar)))))) (ax (JV 8 sI (aL (EM.er (ay qR (ES.er (af 9)) (EM.er cS))))) (ax (ST.post (Γn:=[]) (DG 8 10)) (ax (ST.post (Γn:=[]) (aK 11 (EM.es (Fp iL (ai (ES.er (aA (af 2) (EM.er ar))) (ai (ES.er (aA (af 2) (EM.er ar))) (ai (ES.er (af 6)) au))))))) (bP (lS (aL (EM.er (ay yC (ES.er (bT (af 11) (EM.er ar))) (ES.er (af 9))))) (eQ (mM (EM.er (aD (S:=fC) lZ (ai (ES.er (af 11)) (ai (ES.er (af 2)) (ai (ES.er (af 6)) au)))))))) (aI (M:=[]) iE) aX)))))))))) (aI (M:=[]) iE))))))) (fun ds P hS=>?_) h⟩
 obtain ⟨ns,rfl,hz,hP⟩:=hS
 rw[show aJ FO [.scr ns]=[some (.scr ns),none,none,none,none,none,none,none,none,none,none,none] from rfl]
 refine fI fun I e1=>?_
 walk_at "go"
 refine⟨ns,16,rfl,hz,by omega,fun p ld hd=>?_⟩
 have Z:∀j,j<16->0<=p.getD j 0/\p.getD j 0<2 ^ 60:=fun j hj=>by
  rw[gV,dz (by omega)]
  exact hd _ (MJ _)
 walk_at "go"
 subst e1
 refine fI fun I e1=>?_
 walk_at "go"
 refine⟨ns,p,rfl,hz,ld,hd,fun t n m C n1 n8 m1 m8=>?_⟩
 have lt:=C.1.1
 walk_at "go"
 refine⟨t,n,m,rfl,C.1,n1,n8,m1,m8,?_⟩
 walk_at "go"
 obtain ⟨e,er⟩:∃e,t.map List.sum=e:=⟨_,rfl⟩
 obtain ⟨cols,O⟩:∃cols,oj m t=cols:=⟨_,rfl⟩
 have lr:e.length=n:=by rw[<- er,mo,lt]
 have lc:cols.length=m:=by rw[<- O];unfold oj;rw[mo,Mi]
 have ZC:Tal.Ok e cols t:=by
  refine Ic (by rw[lr,lc];exact C) (fun a ha=>?_) (fun b hb=>?_)
  .rw[<- er,gV,Mc,dz (by omega)]
   unfold js rowAt
   rw[gV,dz (by omega)];rfl
  .rw[<- O]
   unfold oj
   rw[gV,Mc,MS (by omega)];rfl
 rw[er,O]
 have nn:∀(l:aab),(∀v∈l,v=0\/v=1)->0<=l.sum:=fun l=>by
  induction l with
  |nil=>intro _;simp
  |cons a r ih =>
   intro h
   have h1:=h a Fk
   have h2:=ih fun v hv=>h v (ox _ hv)
   rw[MF]
   omega
 have Q6:∀r∈e,0<=r:=fun r g=>by
  rw[<- er] at g
  obtain ⟨l,hl,rfl⟩:=Mh.mp g
  exact nn l (C.2 l hl)
 have QE:∀r∈cols,0<=r:=fun r g=>by
  rw[<- O] at g
  unfold oj at g
  obtain ⟨b,hb,rfl⟩:=Mh.mp g
  refine nn _ fun v hv=>?_
  obtain ⟨l,hl,rfl⟩:=Mh.mp hv
  have:=C.1.2 l hl
  have hb:=Mq.mp hb
  rw[gV,dz (by omega)]
  exact C.2 l hl _ (MJ _)
 have UC:lQ e cols:=pO.mpr ⟨t,ZC⟩
 have Vu:∀(a b:Nat) (P':DK),a<n->b<m->(∀w X Y,w=fwd e cols a b->Told e cols a b (.tup [.str w,.lst X,.lst Y])->(w = "free"->∃u v,X=u.map dI/\Y=v.map dI/\nu n m u/\nu n m v)->P' (.tup [.str w,.lst X,.lst Y]))->noX (mX c) [dI e,dI cols,.tup [.int (a:Int),.int (b:Int)]] P':=fun a b P' ha hb hh=>by
  have G:a<e.length:=by omega
  have J:b<cols.length:=by omega
  refine⟨e,cols,a,b,rfl,by omega,by omega,by omega,by omega,Q6,QE,fun z=>absurd ⟨⟨by omega,by omega⟩,by omega,by omega⟩ z,fun _ z=>absurd UC z,fun _ _ i j ei ej=>?_⟩
  have ei:i=a:=by omega
  have ej:j=b:=by omega
  subst ei
  subst ej
  refine⟨fun U V h=>?_,fun u U V h h'=>?_,fun u v h h'=>?_⟩
  .exact hh _ _ _ (HH (Fw G J h)) (.inr (.inr ⟨U,V,rfl,h⟩)) fun z=>absurd z (by decide)
  .exact hh _ _ _ (GQ ⟨u,wo G J h⟩ (DJ G J h')) (.inr (.inl ⟨U,V,rfl,h'⟩)) fun z=>absurd z (by decide)
  .have L:=wo G J h
   have q2:=Eb G J h'
   have o1:=(pB L.1).1
   have o2:=(pB q2.1).1
   rw[lr,lc] at o1 o2
   exact hh _ _ _ (ET ⟨u,L⟩ ⟨v,q2⟩) (.inl ⟨u,v,rfl,L.1,L.2,q2.1,q2.2⟩) fun _=>⟨u,v,rfl,rfl,o1,o2⟩
 subst e1
 refine fI fun I e1=>?_
 walk_at "go"
 refine aO (by omega) ?_
 refine⟨e,cols,_,rfl,by omega,by omega,by omega,by omega,Q6,QE,UC,(Z 2 (by omega)).1,(Z 2 (by omega)).2,fun r R l1 l2 Uo VX hn=>?_⟩
 walk_at "go"
 subst e1
 refine fI fun I e1=>?_
 walk_at "go"
 refine aO (by omega) ?_
 refine⟨e,cols,_,rfl,by omega,by omega,by omega,by omega,(Z 3 (by omega)).1,(Z 3 (by omega)).2,fun x y Yd=>?_⟩
 walk_at "go"
 subst e1
 refine fI fun I e1=>?_
 walk_at "go"
 refine⟨e,cols,x,y,1,rfl,by omega,by omega,by omega,by omega,Q6,QE,.inl ⟨Yd,rfl⟩,?_⟩
 walk_at "go"
 refine⟨r,R,x,y,1,rfl,by omega,by omega,by omega,by omega,Uo,VX,.inl ⟨by rw[l1,l2];exact Yd,rfl⟩,?_⟩
 walk_at "go"
 subst e1
 refine fI fun I e1=>?_
 walk_at "go"
 refine gn (lo:=0) (n:=3) (fun i δ=>∃(o5 o6 o7 o9 Te:Option D),δ=[some (.scr ns),some (dI p),some (.lst [dI e,dI cols]),some (.lst [dI r,dI R]),some (.tup [.int x,.int y]),o5,o6,o7,none,o9,none,Te]) ⟨_,_,_,_,_,rfl⟩ ?_ ?_
 .rintro i δ N hi ⟨o5,o6,o7,o9,Te,rfl⟩ hN
  rw[M1]
  refine rD fun R2 E2 e2 f2=>?_
  walk_at "go"
  refine aO (by omega) ?_
  walk_at "go"
  refine aO (by omega) ?_
  walk_at "go"
  have a1:=emod_lt (x:=p.getD (4+(i:Int)).toNat 0) (n:=(e.length:Int)) (by omega)
  have a2:=emod_lt (x:=p.getD (4+(i:Int)).toNat 0 / 8) (n:=(cols.length:Int)) (by omega)
  obtain ⟨a,ea⟩:∃a:Nat,p.getD (4+(i:Int)).toNat 0 % (e.length:Int)=a:=⟨(p.getD (4+(i:Int)).toNat 0 % (e.length:Int)).toNat,by omega⟩
  obtain ⟨b,eb⟩:∃b:Nat,p.getD (4+(i:Int)).toNat 0 / 8 % (cols.length:Int)=b:=⟨(p.getD (4+(i:Int)).toNat 0 / 8 % (cols.length:Int)).toNat,by omega⟩
  rw[ea] at a1 ⊢
  rw[eb] at a2 ⊢
  subst e2
  refine rD fun R2 E3 e2 f3=>?_
  walk_at "go"
  subst e2
  refine rD fun R2 E4 e2 f4=>?_
  walk_at "go"
  refine Vu a b _ (by omega) (by omega) fun w X Y hw ht hf=>?_
  walk_at "go"
  subst e2
  refine rD fun R2 E5 e2 f5=>?_
  walk_at "go"
  refine⟨_,e,cols,a,b,rfl,by omega,by omega,by omega,by omega,by omega,by omega,ht,?_⟩
  walk_at "go"
  refine m4 (xs:=[e,cols]) (ys:=[e,cols]) ?_
  rw[if_pos rfl,decide_eq_true rfl]
  walk_at "go"
  refine⟨r,R,a,b,2,rfl,by omega,by omega,by omega,by omega,Uo,VX,.inr ⟨⟨⟨by omega,by omega⟩,by omega,by omega⟩,hn,rfl⟩,?_⟩
  walk_at "go"
  subst e2
  refine rD fun R2 E6 e2 f6=>?_
  walk_at "go"
  subst e2
  refine rD fun R2 E7 e2 f7=>?_
  have Nm:∀xs ys,R2 E7 [some (.scr ns),some (dI p),some (.lst [dI e,dI cols]),some (.lst [dI r,dI R]),some (.tup [.int x,.int y]),some (.int (i:Int)),some (.tup [.int (a:Int),.int (b:Int)]),some (.lst [dI e,dI cols]),some (.tup [.str w,.lst xs,.lst ys]),some (.str w),none,Te]:=fun xs ys=>by
   subst e2
   refine rD fun R3 E8 e3 f8=>?_
   walk_at "go"
   refine⟨fun d hd=>?_,?_⟩
   .rcases Mb.mp hd with rfl|hd
    .exact⟨_,rfl⟩
    .rw[Gc.mp hd];exact⟨_,rfl⟩
   subst e3
   refine rD fun R3 E9 e3 f9=>?_
   walk_at "go"
   refine Vu a b _ (by omega) (by omega) fun w' X' Y' hw' WJ Yz=>?_
   walk_at "go"
   subst e3
   walk_at "go"
   rw[if_neg (fun z=>z (by rw[hw,hw']))]
   refine⟨_,e,cols,a,b,rfl,by omega,by omega,by omega,by omega,by omega,by omega,WJ,?_⟩
   walk_at "go"
   subst f9 f8 f7 f6 f5 f4 f3 f2
   exact hN _ ⟨_,_,_,_,_,rfl⟩
  walk_at "go"
  by_cases Q7:w = "free"
  .rw[if_pos (by rw[Q7])]
   obtain ⟨u,v,rfl,rfl,ou,ov⟩:=hf Q7
   refine⟨_,_,_,rfl,⟨rfl,rfl,rfl⟩,u,v,rfl,by have:=ou.1.1;omega,by have:=ou.1.1;omega,by have:=ov.1.1;omega,by have:=ov.1.1;omega,fun q hq=>by have:=ov.1.2 q hq;omega,fun xs ys=>⟨rfl,?_⟩⟩
   exact Nm xs ys
  .rw[if_neg (by simpa using Q7)]
   exact Nm X Y
 .rintro δ ⟨o5,o6,o7,o9,Te,rfl⟩
  subst e1
  dsimp only
  walk_at "go"
  exact hP
end
end Mine
set_option maxHeartbeats 16000000
namespace Mine
open PySem L2 PyProof.Rows
def all_mk{l:PySem.W.OpenLaw}{w:World}{K:aad}{h:Heap}{mg:Str->Option Value}{F p M:Addr}(X:K.In h)(G:h.Ns mainGlobals mg)(Vd:mg "law" = some (.ref F))
  {ZE J Wr Y:Option Addr}{Zl Wg:Array (Option Value)}{ZF Z2 H Zz L I Ws Z U UE P S:Value}
  {n x z C q u y r o j i E B t g m:Addr}
  (q0:∃f b,FnAt K mg "falling" mV kF f b)
  (a1:PySem.W.nsIn K mainGlobals "falling_places" = some (some (.ref p))) (l1:K.lookup p=some ⟨ZF,ZE,.func (PySem.W.fnOf "falling_places" "falling_places" (gh bx) (c0 bx) (aw bx) .none Z2 H Zz J L I),Zl⟩) (c1:PySem.W.codeIn K L "falling_places" = true) (k1:PySem.W.keepIn K (.ref p)=true)
  (q2:∃f b,FnAt K mg "places_below" eA en f b)
  (q3:∃f b,FnAt K mg "less_row" jn jh f b)
  (q4:∃f b,FnAt K mg "heads_of" k8 jB f b)
  (q5:∃f b,FnAt K mg "first_head_above" cX b9 f b)
  (q6:∃f b,FnAt K mg "is_place" kU jy f b)
  (q7:∃f b,FnAt K mg "copied_table" dM dF f b)
  (q8:∃f b,FnAt K mg "sums_of_rows" eE dO f b)
  (q9:∃f b,FnAt K mg "sums_of_columns" dB cF f b)
  (q10:∃f b,FnAt K mg "turned_table" d9 dW f b)
  (q11:∃f b,FnAt K mg "column_of" iq ip f b)
  (q12:∃f b,FnAt K mg "table_between" fg c7 f b)
  (q13:∃f b,FnAt K mg "check_bounds" dS eB f b)
  (q14:∃f b,Bx K mg "Filling" g "Filling.__init__" gj dU f b)
  (q15:∃f b,ql K g "outcome" "Filling.outcome" dA cE f b)
  (q16:∃f b,ql K g "pour" "Filling.pour" dG eD f b)
  (q17:∃f b,ql K g "slack" "Filling.slack" ff c8 f b)
  (q18:∃f b,Bx K mg "Reach" m "Reach.__init__" iI fM f b)
  (q19:∃f b,ql K m "way" "Reach.way" jP hX f b)
  (q20:∃f b,FnAt K mg "ways_up" kG kE f b)
  (q21:∃f b,FnAt K mg "spread" oX mD f b)
  (q22:∃f b,FnAt K mg "first_with_room" cz cy f b)
  (q23:∃f b,FnAt K mg "heap_of" kM kD f b)
  (q24:∃f b,FnAt K mg "how_many_reach" cO cV f b)
  (q25:∃f b,FnAt K mg "ones_with" jJ gX f b)
  (q26:∃f b,FnAt K mg "filled_table" fU dJ f b)
  (q27:∃f b,FnAt K mg "row_of_ones" eR eX f b)
  (q28:∃f b,FnAt K mg "fate_of" mY kn f b)
  (q29:∃f b,FnAt K mg "full_table" fP fW f b)
  (q30:∃f b,FnAt K mg "turned_cell" gM eY f b)
  (q31:∃f b,FnAt K mg "_law_whole" jT ig f b)
  (q32:∃f b,FnAt K mg "_law_deck" lp ji f b)
  (q33:∃f b,FnAt K mg "_law_shape" jU ik f b)
  (q34:∃f b,FnAt K mg "_law_ones" fA i7 f b)
  (q35:∃f b,FnAt K mg "_law_sums" gG jc f b)
  (q36:∃f b,FnAt K mg "_law_rising" iM fQ f b)
  (q37:∃f b,FnAt K mg "_law_bars" gB jC f b)
  (q38:∃f b,FnAt K mg "_law_lies" lC jA f b)
  (q39:∃f b,FnAt K mg "_law_frame" fF hZ f b)
  (q40:∃f b,FnAt K mg "_law_right" jI ie f b)
  (q41:∃f b,FnAt K mg "_law_seen" k9 jv f b)
  (q42:∃f b,FnAt K mg "_law_other_class" cA bh f b)
  (q43:∃f b,FnAt K mg "_law_caught" iK fS f b)
  (q44:∃f b,FnAt K mg "_law_spoiled" gQ eV f b)
  (q45:∃f b,FnAt K mg "_law_odd" m9 kK f b)
  (q46:∃f b,FnAt K mg "_law_apart" gW gZ f b)
  (q47:∃f b,FnAt K mg "_law_refused" gN eU f b)
  (a48:PySem.W.nsIn K mainGlobals "law" = some (some (.ref M))) (l48:K.lookup M=some ⟨Ws,Wr,.func (PySem.W.fnOf "law" "law" (gh lX) (c0 lX) (aw lX) .none Z U UE Y P S),Wg⟩) (c48:PySem.W.codeIn K P "law" = true) (k48:PySem.W.keepIn K (.ref M)=true)
  (e_MixError:PySem.W.nsIn K mainGlobals "MixError" = some (some (.ref n)))
  (e_NoTable:PySem.W.nsIn K mainGlobals "NoTable" = some (some (.ref x)))
  (e_NoBottom:PySem.W.nsIn K mainGlobals "NoBottom" = some (some (.ref z)))
  (e_NotAlike:PySem.W.nsIn K mainGlobals "NotAlike" = some (some (.ref C)))
  (e_NoStep:PySem.W.nsIn K mainGlobals "NoStep" = some (some (.ref q)))
  (e_NoMix:PySem.W.nsIn K mainGlobals "NoMix" = some (some (.ref u)))
  (e_NotEven:PySem.W.nsIn K mainGlobals "NotEven" = some (some (.ref y)))
  (e_NoSwap:PySem.W.nsIn K mainGlobals "NoSwap" = some (some (.ref r)))
  (e_NoBounds:PySem.W.nsIn K mainGlobals "NoBounds" = some (some (.ref o)))
  (e_NoPlace:PySem.W.nsIn K mainGlobals "NoPlace" = some (some (.ref j)))
  (e_NoSums:PySem.W.nsIn K mainGlobals "NoSums" = some (some (.ref i)))
  (e_TooGreat:PySem.W.nsIn K mainGlobals "TooGreat" = some (some (.ref E)))
  (e_NoNumber:PySem.W.nsIn K mainGlobals "NoNumber" = some (some (.ref B)))
  (e_NoText:PySem.W.nsIn K mainGlobals "NoText" = some (some (.ref t)))
  (e_Filling:PySem.W.nsIn K mainGlobals "Filling" = some (some (.ref g)))
  (e_Reach:PySem.W.nsIn K mainGlobals "Reach" = some (some (.ref m)))
  (i_Filling:Ih K g)
  (na_Filling_low:PySem.W.findIn K (.ref g) "low" = some none)
  (na_Filling_high:PySem.W.findIn K (.ref g) "high" = some none)
  (na_Filling_table:PySem.W.findIn K (.ref g) "table" = some none)
  (na_Filling_wants:PySem.W.findIn K (.ref g) "wants" = some none)
  (na_Filling_rooms:PySem.W.findIn K (.ref g) "rooms" = some none)
  (i_Reach:Ih K m)
  (na_Reach_rows:PySem.W.findIn K (.ref m) "rows" = some none)
  (na_Reach_columns:PySem.W.findIn K (.ref m) "columns" = some none)
  (na_Reach_goal:PySem.W.findIn K (.ref m) "goal" = some none)
  (x_MixError:∀base,K.In base->bQ base n [])
  (x_NoBounds:L3.XC K o n)
  (x_NoPlace:L3.XC K j n)
  (x_NoSums:L3.XC K i n)
  (kt1:PySem.W.kitAny K (.ref j) [.ref x,.ref z,.ref C,.ref q,.ref u,.ref y]=some false)
  (kt2:PySem.W.kitAny K (.ref j) [.ref r,.ref o,.ref E,.ref B,.ref t]=some false)
  (kt3:PySem.W.kitAny K (.ref i) [.ref x,.ref z,.ref C,.ref q,.ref u,.ref y]=some false)
  (kt4:PySem.W.kitAny K (.ref i) [.ref r,.ref o,.ref E,.ref B,.ref t]=some false)
  (kq_NoPlace_NoSums:PySem.W.kitOne K (.ref j) (.ref i)=some false)
  (kq_NoSums_NoPlace:PySem.W.kitOne K (.ref i) (.ref j)=some false)
  (kn_NoSums_NoPlace:[i,n].contains j=false)
  (kv_NoSums:PySem.W.kitOne K (.ref i) (.type "ValueError")=some true)
  (kv_NoPlace:PySem.W.kitOne K (.ref j) (.type "ValueError")=some true)
  {O:Addr} (hcf:L=.ref O) (hch:PySem.W.codeHdIn K O L3.u0=true)
  (z_len:PySem.W.nsIn K mainGlobals "len" = some none) (z_isinstance:PySem.W.nsIn K mainGlobals "isinstance" = some none) (z_int:PySem.W.nsIn K mainGlobals "int" = some none) (z_bool:PySem.W.nsIn K mainGlobals "bool" = some none) (z_list:PySem.W.nsIn K mainGlobals "list" = some none) (z_range:PySem.W.nsIn K mainGlobals "range" = some none) (z_min:PySem.W.nsIn K mainGlobals "min" = some none) (z_max:PySem.W.nsIn K mainGlobals "max" = some none) (z_sum:PySem.W.nsIn K mainGlobals "sum" = some none) (z_sorted:PySem.W.nsIn K mainGlobals "sorted" = some none) (z_tuple:PySem.W.nsIn K mainGlobals "tuple" = some none) (z_zip:PySem.W.nsIn K mainGlobals "zip" = some none) (z_any:PySem.W.nsIn K mainGlobals "any" = some none) (z_str:PySem.W.nsIn K mainGlobals "str" = some none) (z_ValueError:PySem.W.nsIn K mainGlobals "ValueError" = some none) (z_enumerate:PySem.W.nsIn K mainGlobals "enumerate" = some none) :
  ∃b:FuncData,(∀(s:Shared) (v:Value),BindsTo s b ⟨[v],[]⟩ [("_law_script",v)])/\∀base:Heap,K.In base->base.Ns mainGlobals mg->L3.BMd base mg->br l.prog w K mg base CX0 10 F b uE (L3.spP K rj):=by
 have e:=Vd.symm.trans (MM X G a48)
 cases e
 have T:∀base:Heap,L3.BMd base mg->Txt K mg base:=fun base T7=>⟨MN X G z_len,MN X G z_isinstance,MN X G z_int,MN X G z_bool,MN X G z_list,MN X G z_range,MN X G z_min,MN X G z_max,MN X G z_sum,MN X G z_sorted,MN X G z_tuple,MN X G z_zip,MN X G z_any,MN X G z_str,MN X G z_ValueError,MN X G z_enumerate,⟨p,_,O,MM X G a1,⟨_,_,_,l1⟩,hcf,hch,T7⟩⟩
 have F1:=mF (st:=bx) l1 c1 k1
 have E1:FnAt K mg "falling_places" bx bZ p _:=⟨F1,MM X G a1,F1.binds (ps:=bZ) fun _ _ _ _ _ _ us hl=>match us,hl with|[_],_=>rfl⟩
 have R:=mF (st:=lX) l48 c48 k48
 have Q:FnAt K mg "law" lX uE F _:=⟨R,MM X G a48,R.binds (ps:=uE) fun _ _ _ _ _ _ us hl=>match us,hl with|[_],_=>rfl⟩
 have A_:Fns K mg ⟨n,x,z,C,q,u,y,r,o,j,i,E,B,t,g,m⟩:=⟨q0,⟨_,_,E1⟩,q2,q3,q4,q5,q6,q7,q8,q9,q10,q11,q12,q13,q14,q15,q16,q17,q18,q19,q20,q21,q22,q23,q24,q25,q26,q27,q28,q29,q30,q31,q32,q33,q34,q35,q36,q37,q38,q39,q40,q41,q42,q43,q44,q45,q46,q47,⟨_,_,Q⟩⟩
 exact⟨PySem.W.fnOf "law" "law" (gh lX) (c0 lX) (aw lX) .none Z U UE Y P S,fun s v=>.of_eq rfl,fun base hb _ S8=>Kz Q A_ (T base S8) (c:=⟨n,x,z,C,q,u,y,r,o,j,i,E,B,t,g,m⟩) ⟨MM X G e_MixError,MM X G e_NoTable,MM X G e_NoBottom,MM X G e_NotAlike,MM X G e_NoStep,MM X G e_NoMix,MM X G e_NotEven,MM X G e_NoSwap,MM X G e_NoBounds,MM X G e_NoPlace,MM X G e_NoSums,MM X G e_TooGreat,MM X G e_NoNumber,MM X G e_NoText,MM X G e_Filling,MM X G e_Reach,i_Filling,na_Filling_low,na_Filling_high,na_Filling_table,na_Filling_wants,na_Filling_rooms,i_Reach,na_Reach_rows,na_Reach_columns,na_Reach_goal,x_MixError base hb,x_NoBounds.obj base hb,x_NoBounds.exk,x_NoPlace.obj base hb,x_NoPlace.exk,x_NoSums.obj base hb,x_NoSums.exk,kt1,kt2,kt3,kt4,kq_NoPlace_NoSums,kq_NoSums_NoPlace,kn_NoSums_NoPlace,kv_NoSums,kv_NoPlace⟩⟩
def walk{l:PySem.W.OpenLaw}{q:Program}{y:List Str}{o:(Str->Option Value)->Heap->Prop}{b:World->Heap->Prop}{d:DefRec}{K:Params->aad}(hn:l.most=some 63)(t:d.params.defaults=[])
  (i:∀(w:World) (h:Heap),b w h->(K w.params).In h) (j:∀(w:World) (h:Heap),b w h->h.get? L3.u0=some (PySem.W.tabObj #[])) (p:∀w:World,(K w.params).lookup L3.u0=none) {c_:Addr} (B:∀w:World,PySem.W.codeHdIn (K w.params) c_ L3.u0=true)
  (F:∀(w:World) (mg:Str->Option Value) (g:Addr) (h:Heap),(K w.params).In h->h.Ns mainGlobals mg->mg d.name=some (.ref g) ->
   ∃e:FuncData,(∀(s:Shared) (u:Value),BindsTo s e ⟨[u],[]⟩ [("_law_script",u)])/\∀base:Heap,(K w.params).In base->base.Ns mainGlobals mg->L3.BMd base mg->br l.prog w (K w.params) mg base CX0 10 g e ["_law_script"] (L3.spP (K w.params) rj)) :
  PySem.W.WalkO q y o b l.row.toRowW d [] (fun f vs=>PySem.call f vs) :=
 L3.GI (n:=63) (k:=10) (x:="_law_script") (CX:=fun _=>CX0) (sp:=fun w=>L3.spP (K w.params) rj) hn (by decide) t ⟨rfl,by decide,by decide⟩ i j p B F (fun w H a ns hl c m=>⟨[.scr ns],⟨[],_,_,[],[],rfl,rfl,⟨a,rfl,L3.K9 c m,rfl⟩,rfl,rfl⟩,c.tab,GZ hl (fun v H' fp s r n=>r.1)⟩) fun _ _ _ _ _ z=>z
end Mine
open PySem PySem.W PyProof.Rows
local macro_rules | `(tactic| walk_at "b") => `(tactic| (intro _ _ _ _ _ _ us hl; rcases us with _ | ⟨_,_ | ⟨_,_ | ⟨_,_ | ⟨_,_ | ⟨_,_ | ⟨_,_ | ⟨_,_⟩⟩⟩⟩⟩⟩⟩ <;> first | exact rfl | exact (nomatch hl)))
local macro_rules | `(tactic| walk_at "f") => `(tactic| (refine' L3.fnA (by assumption) (by assumption) ?a ?l ?c ?k (by walk_at "b"); (case a => k_is); (case l => k_is); (case c => k_is); (case k => k_is)))
local macro_rules | `(tactic| walk_at "m") => `(tactic| (refine' L3.mtA ?a ?i ?l ?c ?k (by walk_at "b"); (case a => k_is); (case i => k_is); (case l => k_is); (case c => k_is); (case k => k_is)))
local macro_rules | `(tactic| walk_at "i") => `(tactic| (refine' L3.mkA (by assumption) (by assumption) ?e ?m ?a ?i ?d ?l ?c ?k (by walk_at "b"); (case e => k_is); (case m => k_is); (case a => k_is); (case i => k_is); (case d => k_is); (case l => k_is); (case c => k_is); (case k => k_is)))
local macro_rules | `(tactic| walk_at "c") => `(tactic| exact ⟨⟨by k_is,by k_is,by k_is,by k_is⟩,by k_is,by k_is,by k_is,by k_is⟩)
local macro_rules | `(tactic| walk_at "y") => `(tactic| (refine' L3.xoA ?a ?b; (case a => k_is); (case b => k_exc)))
local macro_rules | `(tactic| walk_at "x") => `(tactic| (refine' L3.xcA ?a ?b ?c ?d ?e ?f ?g; (case a => k_is); (case b => k_exc); (case c => k_is); (case d => k_is); (case e => k_is); (case f => k_is); (case g => k_is)))
namespace PySem.W.Fast
def tw7919922072402758135:=0
def tw8223381390635179124:=0
def tw12067444379601225131:=0
def tw10511748519451916797:=0
def tw12531409171236693765:=0
def tw87536600213218046:=0
def tw16225243782946231431:=0
def tw9122641138783841501:=0
def tw8685795979454792461:=0
def tw6578490925913867926:=0
def tw16045289606837836875:=0
def tw8896462575403168383:=0
def tw4991147535320157180:=0
def tw2367926815163371031:=0
def tw11365382534995472832:=0
def tw11294790509463877892:=0
def tw12010875737768615141:=0
def tw6731391336667926019:=0
def tw10460945657348375675:=0
def tw16474088831482998931:=0
def tw12573095986235431050:=0
def tw12782653192212372821:=0
def tw9063029100529987504:=0
def tw6879862584613638074:=0
def tw9180849326476824180:=0
def tw12167827178436626921:=0
def tw5551766621898194787:=0
def tw17695013682800538270:=0
def tw3652990984410944345:=0
def tw12897255415387894259:=0
def tw12859576006456076758:=0
def tw7932277258938564092:=0
def tw6446972417591521489:=0
def tw13939736376538232984:=0
def tw16325373447048530988:=0
def tw11474337979642880745:=0
def tw16870324925918375672:=0
def tw964942785298026541:=0
def tw1201192074381490427:=0
def tw18066178248007235135:=0
def tw5990384624155277840:=0
def tw3956363837285350180:=0
def tw18351010659094908487:=0
def tw7410046431180622189:=0
def tw3788263767519925349:=0
def tw16223369160520193121:=0
def tw11089303487565653073:=0
def tw7826022321762472728:=0
def tw18438729204380719762:=0
def tw6669190581708565613:=0
def tw18188152750823245890:=0
def tw11260939741403366071:=0
def tw14831825398412623142:=0
def tw9655082777986941209:=0
def tw2726068079725690221:=0
def tw6708135114562890270:=0
def tw5276861436459817358:=0
def tw18383830656097941463:=0
def tw766357580536392998:=0
def tw9080250060136568705:=0
def tw8686322815851280940:=0
def tw11882977966879904093:=0
def tw6703037063712441670:=0
def tw11718908381146346923:=0
def tw17134559956354253519:=0
def tw3446508190610084769:=0
def tw6884028957923083213:=0
def tw720622923868011261:=0
def tw10171308732612473330:=0
def tw3547018700238276547:=0
def tw3080914374490932517:=0
def tw4547199912849535459:=0
def tw7662630614392004796:=0
def tw16147751242849195372:=0
def tw13067260100470674527:=0
def tw3111003167748268484:=0
def tw12011313709556140658:=0
def tw4197140667272772700:=0
def tw10928695103790879987:=0
def tw594373040082416707:=0
def tw16276765513223609231:=0
def tw8970594143263106609:=0
def tw6908709918742575425:=0
def tw15292112514397649981:=0
def tw15320443415465353054:=0
def tw16640532473708676995:=0
def tw5280262714897852154:=0
def tw9373133370162804794:=0
def tw16050173079303394223:=0
def tw10085621916096301360:=0
def tw11287495434067733794:=0
def tw13627531912725577872:=0
def tw11970022525782145887:=0
def tw1113300845541238331:=0
def tw13455795666102709051:=0
def tw16514108106912821242:=0
def tw11351824403127467425:=0
def tw5983105119852494227:=0
def tw5324216878038885742:=0
def tw14767550138444488372:=0
def tw5978563504307656535:=0
def tw15606150295990817273:=0
def tw8819618519737904568:=0
def tw3792401577386909643:=0
def tw2364333604419187617:=0
def tw13801572615146104537:=0
def tw584323870487231570:=0
def tw10349424604232946040:=0
def tw6358365395817709666:=0
def tw9795259001493871775:=0
def tw2529176693246256659:=0
def tw131552610352901235:=0
def tw14329096348320657501:=0
def tw2837962190889365549:=0
def tw13024117387452892059:=0
def tw394520605921611493:=0
def tw442647211122641349:=0
def tw2025920092357508071:=0
def tw5869337183035539988:=0
def tw18323024153737073101:=0
def tw17358074306479811897:=0
def tw14923059161745162060:=0
def tw18047818934456342585:=0
def tw10306262428157901205:=0
def tw2014763443822981570:=0
def tw8302562035507049576:=0
def tw10728540750324099113:=0
def tw316002168780793133:=0
def tw1004055900619718257:=0
def tw8074938999982037596:=0
def tw11763962743044831994:=0
def tw17205047835991416184:=0
def tw3999649815463524063:=0
def tw16320436600338199455:=0
def tw18110326432305018662:=0
def tw10800073825593150454:=0
def tw14724478471602404516:=0
def tw1230450717792568089:=0
def tw10462631230606374746:=0
def tw8730509443033803569:=0
def tw18153354565057838003:=0
def tw2421752116709665395:=0
def tw6058803025540557803:=0
def tw12367216970552212209:=0
def tw3612170616814582401:=0
def tw12339082217019424373:=0
def tw14848022401564652953:=0
def tw6153173657144521665:=0
def tw6777323806622211197:=0
def tw4610557666192919974:=0
def tw16698776912153062974:=0
def tw3031304121180954360:=0
def tw3227409294122024188:=0
def tw16843350943143868882:=0
def tw3765746281635524850:=0
def tw13847242983638020079:=0
def tw1944627592989046559:=0
def tw13330854572085537003:=0
def tw6439949627608513294:=0
def tw12763612597954732920:=0
def tw12005559899274557685:=0
def tw17366297678916166101:=0
def tw13360240239606731985:=0
def tw15798318253795468522:=0
def tw13394168474201759051:=0
def tw12689655241183019106:=0
def tw2815643349996115562:=0
def tw12645079112717280140:=0
def tw267892516719370688:=0
def tw17806530608586006454:=0
def tw14748729049988434254:=0
def tw18032887337690012625:=0
def tw3291573202735941507:=0
def tw12598515374378937715:=0
def tw13068167570314948671:=0
def tw15173576863678734233:=0
def tw3007469970277823792:=0
def tw1809895178667807174:=0
def tw7900186455933330408:=0
def tw4198127186593492567:=0
def tw191068759708282749:=0
def tw12669601475940735022:=0
def tw9266308833627930157:=0
def tw3348369919937195659:=0
def tw7863420043630019649:=0
def tw9912314405264387888:=0
def tw16224133735689299668:=0
def tw11593359955801497588:=0
def tw10360842934545801943:=0
def tw686742574398254190:=0
def tw17226867703078495498:=0
def tw10816725220480071008:=0
def tw9601705222857216179:=0
def tw3334263219178614724:=0
def tw1683492259101845415:=0
def tw11276797995201197682:=0
def tw8936889024747146718:=0
def tw13698147949363428221:=0
def tw17292053790598147236:=0
def tw12153227844811387259:=0
def tw2853646229232501251:=0
def tw10523324579830372389:=0
def tw3734851530759494252:=0
def tw18091986048982455606:=0
def tw7500615748762058505:=0
def tw3364085704819195723:=0
def tw10713985253651167771:=0
def tw4899832635502590838:=0
def tw15854185446973321713:=0
def tw6711288129176834925:=0
def tw12199367163217155084:=0
def tw1870565129470698742:=0
def tw3689840425140641591:=0
def tw24033942811477668:=0
def tw15614198709563372354:=0
def tw11772323793173215968:=0
def tw10626480087120857635:=0
def tw677414495071213955:=0
def tw7739181898545204099:=0
def tw16262630918795750640:=0
def tw8822645166028951153:=0
def tw12050351691098907522:=0
def tw849141283396717717:=0
def tw3866563491319242065:=0
def tw13277031265184934724:=0
def tw658247189783995262:=0
def tw8014891007016577155:=0
def tw7482839389446644992:=0
def tw4847027750536327888:=0
def tw6160850649072892899:=0
def tw16095582154226457704:=0
def tw18432715527348048788:=0
def tw11555937445949799079:=0
def tw1530935092988875518:=0
def tw17377208566711098345:=0
def tw6533522388203602156:=0
def tw2830645181661548888:=0
def tw4721260671533930410:=0
def tw15806610074846282936:=0
def tw2133887261557821807:=0
def tw3872547924802927771:=0
def tw6261287661099686907:=0
def tw8529000130745632948:=0
def tw8553972088391616264:=0
def tw5757856409973017364:=0
def tw9401748678625875829:=0
def tw8473319845576518266:=0
def tw3341454505267622446:=0
def tw6079284137606167737:=0
def tw4547881576892392679:=0
def tw9400674666931650850:=0
def tw8628615814961532866:=0
def tw14935870842419740539:=0
def tw1438490123312368708:=0
def tw17030380080068784464:=0
def tw14879643402237517550:=0
def tw1795267848206388436:=0
def tw15135467522222476003:=0
def tw15108319394994061466:=0
def tw4863950914825529005:=0
def tw2096733285467177730:=0
def tw8134228824275067246:=0
def tw242484668063321100:=0
def tw12884357199727788810:=0
def tw12970901384130841998:=0
def tw13572047219512043564:=0
def tw7564200768343748106:=0
def tw17622378453243185847:=0
def tw1924724932142838724:=0
def tw5262732584693437655:=0
def tw2687657318405699572:=0
def tw4347091170452460258:=0
def tw5135089663409107806:=0
def tw15718920146848707320:=0
def tw1937594394038982005:=0
def tw17608990979987154477:=0
def tw4501398025938921669:=0
def tw14237216771083231052:=0
def tw14065384120060478220:=0
def tw376336845374737991:=0
def tw12768867894642112841:=0
def tw2254347986949477221:=0
def tw1270957732999683953:=0
def tw2157131382412181617:=0
def tw8951413247983601464:=0
def tw11167481261833462113:=0
def tw3798107443126002093:=0
def tw122775504059710984:=0
def tw8281357905497105983:=0
def tw11013543755586957089:=0
def tw17410155950151607402:=0
def tw340792402164106450:=0
def tw9710706558992540609:=0
def tw12345257471719557631:=0
def tw5519730546358409242:=0
def tw18286856315772992987:=0
def tw11103364946294554781:=0
def tw3318825643995900092:=0
def tw15951377472972598646:=0
def tw1045552367551172615:=0
def tw4470381153847717242:=0
def tw11075020173703926229:=0
def tw1790228860786328232:=0
def tw17654580595373529208:=0
def tw15060604778897121268:=0
def tw15818950415629081293:=0
def tw6922033175615017501:=0
def tw5759268063909229196:=0
def tw12131424614690301140:=0
def tw16772351957958440161:=0
def tw7773860977379571546:=0
def tw17022597811626975500:=0
def tw11936295297494738192:=0
def tw15582945680592613307:=0
def tw15595579053268863653:=0
def tw7724581276654418465:=0
def tw17903815536154087340:=0
def tw15953967928558651404:=0
def tw17465711707897286334:=0
def tw11632122524294420232:=0
def tw3310164489602747476:=0
def tw13849381940030900622:=0
def tw11611793312486164743:=0
def tw13198798706443437650:=0
def tw3078022119718579087:=0
def tw12005073523774699404:=0
def tw15866762376903204444:=0
def tw2788092329339312765:=0
def tw4342627925503444145:=0
def tw11457895669218306068:=0
def tw12222652177684021109:=0
def tw160718250382157954:=0
def tw8445855731992515641:=0
def tw3520560194566484859:=0
def tw15260037300179974116:=0
def tw17842672764731871064:=0
def tw12417903194003562718:=0
def tw8687399336604036882:=0
def tw10306901633408490629:=0
def tw14853910974417221981:=0
def tw516073875822706759:=0
def tw1165137279214055514:=0
def tw17365755332418489653:=0
def tw3201536956349827029:=0
def tw15820396094518277465:=0
def tw13109063712975436492:=0
def tw6343643774223689723:=0
def tw1648299614180288845:=0
def tw1245756012084430307:=0
def tw9409315097214175415:=0
def tw1133205315345688191:=0
def tw9081330015196662968:=0
def tw7186334045018090748:=0
def tw13293847789299070185:=0
def tw302756543191761011:=0
def tw7700380818555382663:=0
def tw17909706174418439298:=0
def tw3357267486250517368:=0
def tw6318503501224340509:=0
def tw11761274392378335456:=0
def tw16398111409800870587:=0
def tw8010757505277796054:=0
def tw8282476430847816449:=0
def tw15617509333048247139:=0
def tw8492892655329245209:=0
def tw3291600541737240499:=0
def tw16491698222471588002:=0
def tw2154921237441615919:=0
def tw4321990092784590440:=0
def tw17272803186820069260:=0
def tw14669726297150275851:=0
def tw3812692849828710208:=0
def tw4664354592371770502:=0
def tw4097147617912023378:=0
def tw5873917806206701254:=0
def tw7321284038201995948:=0
def tw6190355886642645289:=0
def tw17893714703034148670:=0
def tw6543194487682853228:=0
def tw11670802099852371226:=0
def tw17845024163088149487:=0
def tw14914399690125820651:=0
def tw16753171479130154797:=0
def tw7021288354062972205:=0
def tw15732231823259745715:=0
def tw10107127797057103894:=0
def tw13808563608488510209:=0
def tw9615640913570586359:=0
def tw12902366910421924640:=0
def tw15869850512597881959:=0
def tw16543382732801930471:=0
def tw9367381907945240397:=0
def tw652145810276572792:=0
def tw6994414785155757062:=0
def tw14637945663365645328:=0
def tw16443683617183975167:=0
def tw14411458456106606854:=0
def tw2956347109341727653:=0
def tw10082599266658050932:=0
def tw1287638832115575964:=0
def tw646494952032830840:=0
def tw9199899032283851156:=0
def tw13770119412108861020:=0
def tw3109599036473822554:=0
def tw9612502235893082641:=0
def tw958196638872087143:=0
def tw4379261280472802181:=0
def tw1963556594581856347:=0
def tw13348404369042544813:=0
def tw4880420853636369419:=0
def tw18244107098435341647:=0
def tw2440994887858857758:=0
def tw17331650130384467900:=0
def tw7962824272905121790:=0
def tw3367259899692133772:=0
def tw8375160623573783849:=0
def tw5378824218268357248:=0
def tw7072180267442072327:=0
def tw13279363900847885030:=0
def tw9882463319987903636:=0
def tw12615627324001000420:=0
def tw1214335693610241900:=0
def tw1124642522915422738:=0
def tw3630962643412574110:=0
def tw10218023566732610666:=0
def tw16063594644477419221:=0
def tw10203759726432469281:=0
def tw1818587155142197560:=0
def tw14777442626469012743:=0
def tw8471590970406918866:=0
def tw4747579998272530:=0
def tw10099349965959696965:=0
def tw14783555902053711304:=0
def tw13910262496881105042:=0
def tw8374080048695337236:=0
def tw12565161720373926494:=0
def tw10201728096470994213:=0
def tw9416034519945204500:=0
def tw3669464104640132330:=0
def tw17772630685533485490:=0
def tw13328002676545275281:=0
def tw12990728441146298660:=0
def tw2839077652999531236:=0
def tw4575051270589659934:=0
def tw9034193525616522834:=0
def tw11926399738839140092:=0
def tw15219469385370901449:=0
def tw3276046385342243926:=0
def tw6008999232427474892:=0
def tw18304935787211537000:=0
def tw6729178582767989096:=0
def tw8436123827358399813:=0
def tw1849121183974268822:=0
def tw17800986005682397770:=0
def tw13072216007203883551:=0
def tw9735959938250927045:=0
def tw13919228221530553919:=0
def tw9357395047128483791:=0
def tw17698408376466365648:=0
def tw13268321120223599873:=0
def tw13859391140078028011:=0
def tw2292302464073149571:=0
def tw9202236349038688918:=0
def tw3492749778135724661:=0
def tw14944995900732407492:=0
def tw10792388090363286313:=0
def tw12960207883676883888:=0
def tw3258207454123395214:=0
def tw14374677475905330970:=0
def tw17096180557476735547:=0
def tw3630509737100198806:=0
def tw217933338473555156:=0
def tw7790695271465172788:=0
def tw7813911761859678921:=0
def tw9615383810532558168:=0
def tw8477013565690165322:=0
def tw2876554960771225239:=0
def tw3764536197849027218:=0
def tw13563999859516367057:=0
def tw5818246381361529267:=0
def tw4901866573451214282:=0
def tw6029564321138972909:=0
def tw4986753118822318879:=0
def tw12818202681598620984:=0
def tw7622015624897234486:=0
def tw15232392652267298658:=0
def tw16969451631931913794:=0
def tw3785443355796376924:=0
def tw4793454254277248572:=0
def tw1234120460165299985:=0
def tw16391237083605554034:=0
def tw932303723075791692:=0
def tw13106951083104518231:=0
def tw8393805957207691948:=0
def tw9069986940338427169:=0
def tw11654658376364289304:=0
def tw5455257408624218729:=0
def tw5338040941202894350:=0
def tw15018836349520183873:=0
def tw4328352646220886773:=0
def tw15117722743608044531:=0
def tw11088195075728256408:=0
def tw12584919512246659996:=0
def tw9011632324878041452:=0
def tw3424156140476783964:=0
def tw17453001691463912283:=0
def tw13706695016937783193:=0
def tw10173616470140357282:=0
def tw11816180461729474368:=0
def tw15429852372797971663:=0
def tw5581317471755531485:=0
def tw18324049151981915327:=0
def tw15217264788582312264:=0
def tw12094613470902769267:=0
def tw449534576337645081:=0
def tw9019659537737876352:=0
def tw11413899777546671850:=0
def tw11672091529566952855:=0
def tw337758815111138865:=0
def tw11648313082192595187:=0
def tw1072034253075456003:=0
end PySem.W.Fast
set_option maxRecDepth 100000 in
set_option maxHeartbeats 0 in
theorem PySem.Challenge.cw_evenmix_k44_fates_holds : PySem.Challenge.rw_evenmix_k44_fates.Holds := by
 w_on;o_law;k_head;(case hw=>w_witness2)
 k_fill
 refine Mine.walk (l:=PySem.Challenge.rw_evenmix_k44_fates) rfl rfl (fun w h Y=>PySem.W.km_in_of Y) (fun w h Y=>PySem.W.km_tabs_of Y L3.u0 (by decide)) (fun w=>by first|exact rfl|kernel_rfl) (c_:=196) (fun w=>by first|exact rfl|kernel_rfl) ?F
 case F =>
  intro w mg fa h KX G S2
  refine' Mine.all_mk KX G S2 ?q0 ?a1 ?l1 ?c1 ?k1 ?q2 ?q3 ?q4 ?q5 ?q6 ?q7 ?q8 ?q9 ?q10 ?q11 ?q12 ?q13 ?q14 ?q15 ?q16 ?q17 ?q18 ?q19 ?q20 ?q21 ?q22 ?q23 ?q24 ?q25 ?q26 ?q27 ?q28 ?q29 ?q30 ?q31 ?q32 ?q33 ?q34 ?q35 ?q36 ?q37 ?q38 ?q39 ?q40 ?q41 ?q42 ?q43 ?q44 ?q45 ?q46 ?q47 ?a48 ?l48 ?c48 ?k48 ?e_MixError ?e_NoTable ?e_NoBottom ?e_NotAlike ?e_NoStep ?e_NoMix ?e_NotEven ?e_NoSwap ?e_NoBounds ?e_NoPlace ?e_NoSums ?e_TooGreat ?e_NoNumber ?e_NoText ?e_Filling ?e_Reach ?i_Filling ?na_Filling_low ?na_Filling_high ?na_Filling_table ?na_Filling_wants ?na_Filling_rooms ?i_Reach ?na_Reach_rows ?na_Reach_columns ?na_Reach_goal ?x_MixError ?x_NoBounds ?x_NoPlace ?x_NoSums ?kt1 ?kt2 ?kt3 ?kt4 ?kq_NoPlace_NoSums ?kq_NoSums_NoPlace ?kn_NoSums_NoPlace ?kv_NoSums ?kv_NoPlace ?hcf ?hch ?z_len ?z_isinstance ?z_int ?z_bool ?z_list ?z_range ?z_min ?z_max ?z_sum ?z_sorted ?z_tuple ?z_zip ?z_any ?z_str ?z_ValueError ?z_enumerate
  (case e_MixError=>k_is)
  (case e_NoTable=>k_is)
  (case e_NoBottom=>k_is)
  (case e_NotAlike=>k_is)
  (case e_NoStep=>k_is)
  (case e_NoMix=>k_is)
  (case e_NotEven=>k_is)
  (case e_NoSwap=>k_is)
  (case e_NoBounds=>k_is)
  (case e_NoPlace=>k_is)
  (case e_NoSums=>k_is)
  (case e_TooGreat=>k_is)
  (case e_NoNumber=>k_is)
  (case e_NoText=>k_is)
  (case e_Filling=>k_is)
  (case e_Reach=>k_is)
  (case q0=>walk_at "f")
  (case a1=>k_is)
  (case l1=>k_is)
  (case c1=>k_is)
  (case k1=>k_is)
  (case q2=>walk_at "f")
  (case q3=>walk_at "f")
  (case q4=>walk_at "f")
  (case q5=>walk_at "f")
  (case q6=>walk_at "f")
  (case q7=>walk_at "f")
  (case q8=>walk_at "f")
  (case q9=>walk_at "f")
  (case q10=>walk_at "f")
  (case q11=>walk_at "f")
  (case q12=>walk_at "f")
  (case q13=>walk_at "f")
  (case q14=>walk_at "i")
  (case q15=>walk_at "m")
  (case q16=>walk_at "m")
  (case q17=>walk_at "m")
  (case q18=>walk_at "i")
  (case q19=>walk_at "m")
  (case q20=>walk_at "f")
  (case q21=>walk_at "f")
  (case q22=>walk_at "f")
  (case q23=>walk_at "f")
  (case q24=>walk_at "f")
  (case q25=>walk_at "f")
  (case q26=>walk_at "f")
  (case q27=>walk_at "f")
  (case q28=>walk_at "f")
  (case q29=>walk_at "f")
  (case q30=>walk_at "f")
  (case q31=>walk_at "f")
  (case q32=>walk_at "f")
  (case q33=>walk_at "f")
  (case q34=>walk_at "f")
  (case q35=>walk_at "f")
  (case q36=>walk_at "f")
  (case q37=>walk_at "f")
  (case q38=>walk_at "f")
  (case q39=>walk_at "f")
  (case q40=>walk_at "f")
  (case q41=>walk_at "f")
  (case q42=>walk_at "f")
  (case q43=>walk_at "f")
  (case q44=>walk_at "f")
  (case q45=>walk_at "f")
  (case q46=>walk_at "f")
  (case q47=>walk_at "f")
  (case a48=>k_is)
  (case l48=>k_is)
  (case c48=>k_is)
  (case k48=>k_is)
  (case i_Filling=>walk_at "c")
  (case na_Filling_low=>k_is)
  (case na_Filling_high=>k_is)
  (case na_Filling_table=>k_is)
  (case na_Filling_wants=>k_is)
  (case na_Filling_rooms=>k_is)
  (case i_Reach=>walk_at "c")
  (case na_Reach_rows=>k_is)
  (case na_Reach_columns=>k_is)
  (case na_Reach_goal=>k_is)
  (case x_MixError=>walk_at "y")
  (case x_NoBounds=>walk_at "x")
  (case x_NoPlace=>walk_at "x")
  (case x_NoSums=>walk_at "x")
  (case kt1=>kit_is)
  (case kt2=>kit_is)
  (case kt3=>kit_is)
  (case kt4=>kit_is)
  (case kq_NoPlace_NoSums=>kit_is)
  (case kq_NoSums_NoPlace=>kit_is)
  (case kn_NoSums_NoPlace=>decide)
  (case kv_NoSums=>kit_is)
  (case kv_NoPlace=>kit_is)
  (case hcf=>exact rfl)
  (case hch=>first|exact rfl|k_is)
  (case z_len=>k_is)
  (case z_isinstance=>k_is)
  (case z_int=>k_is)
  (case z_bool=>k_is)
  (case z_list=>k_is)
  (case z_range=>k_is)
  (case z_min=>k_is)
  (case z_max=>k_is)
  (case z_sum=>k_is)
  (case z_sorted=>k_is)
  (case z_tuple=>k_is)
  (case z_zip=>k_is)
  (case z_any=>k_is)
  (case z_str=>k_is)
  (case z_ValueError=>k_is)
  (case z_enumerate=>k_is)
