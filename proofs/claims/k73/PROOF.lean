import PyProof.Rows.All
import Wide.All
import OpenK.AllK
import Wide.FinOn
import Lean
import PyProof.EqAt
import PyProof.EqKinds
import PyProof.TupleCall
import PyProof.DictRoadsH
import PyProof.TupleKey
import PyProof.NeKinds
import PyProof.ZipIter
import KE.KRevIter
import PyProof.ListRange
import KE.LcSums
import PyProof.Rows.MinMaxN
import KE.KTryDeep
import PyProof.ExcArgsOwn
import PyProof.ExcAttrAll.ValueError
import KE.KSortKey
import KE.KLam
import KE.KNestM
import KE.KIntText
import PyProof.JoinWalk
import PyProof.StrCalls
import KE.KDictSum
import KE.KIsAll
import KE.RegKIsAll
import PySem.Challenge.RW_evenmix_k73_whole_any_two_by_number
set_option bootstrap.genMatcherCode false
set_option genSizeOf false
set_option compiler.extract_closed false
local macro_rules|`(())=>`(by first|assumption|decide|exact Nat.le_trans (by assumption) (by decide)|exact Nat.le_trans (Nat.le_of_eq (by assumption)) (by assumption)|exact Nat.le_trans (Nat.le_of_eq (by assumption)) (Nat.le_trans (by assumption) (by decide))|exact Nat.lt_of_lt_of_le (by assumption) (by assumption)|exact Nat.lt_of_lt_of_eq (by assumption) (by assumption)|exact Nat.lt_of_lt_of_eq (by assumption) (Eq.symm (by assumption))|exact⟨Int.natCast_nonneg _,Int.ofNat_lt.mpr (by assumption)⟩|exact⟨Int.natCast_nonneg _,Int.ofNat_lt.mpr (Nat.lt_of_lt_of_eq (by assumption) (Eq.symm (by assumption)))⟩|exact⟨Int.natCast_nonneg _,Int.ofNat_lt.mpr (Nat.lt_of_lt_of_eq (by assumption) (Eq.trans (by assumption) (Eq.symm (by assumption))))⟩|omega)
local macro_rules|`(nofun)=>`(by decide)
abbrev aab:=List Int
abbrev aaa:=List aab
abbrev aad:=List Nat
abbrev aae:=PySem.W.Frag
abbrev ab := @List.getElem?_eq_getElem
abbrev be := @List.getD_eq_getElem?_getD
abbrev dz := @List.length_map
abbrev gV := @List.mem_cons_of_mem
abbrev k0 := @List.mem_cons_self
abbrev mo := @List.mem_singleton
abbrev oe := @List.getElem?_eq_some_iff
abbrev ox := @List.getElem?_map
abbrev Fk := @List.mem_append_right
abbrev Gc := @List.getElem?_set_ne
abbrev H0 := @List.length_cons
abbrev KE := @List.mem_cons
abbrev Oh := @Int.toNat_natCast
abbrev Oi := @List.map_cons
abbrev Oj := @List.mem_append
abbrev Ol := @Nat.le_refl
abbrev Om := @List.nodup_cons
abbrev Oo := @List.mem_map
abbrev Oq := @List.mem_append_left
abbrev Ot := @List.length_range
abbrev Ou := @List.drop_eq_getElem_cons
abbrev Ov := @List.map_append
abbrev Ow := @List.nodup_append
abbrev Ox := @List.length_append
abbrev Oy := @List.sum_cons
abbrev Oz := @Bool.false_ne_true
abbrev OA := @Nat.lt_of_lt_of_le
abbrev OB := @List.map_map
abbrev OC := @Nat.le_trans
abbrev OD := @List.getElem?_set_self
abbrev OE := @List.getElem?_append_left
abbrev OF := @List.not_mem_nil
abbrev OG := @List.size_toArray
abbrev OH := @List.length_replicate
abbrev OI := @List.getElem?_append_right
abbrev OJ := @Option.some.inj
abbrev OK := @Nat.ne_of_lt
abbrev OL := @List.mem_range
abbrev OM := @List.append_assoc
abbrev ON := @List.getElem_mem
abbrev OO := @PySem.F.plainAttrs_list
abbrev OP := @List.all_eq_true
abbrev OS := @List.length_set
abbrev OT := @Ne.symm
abbrev OU := @Int.zero_add
abbrev OV := @List.mem_of_getElem?
abbrev OW := @PySem.mem_of_lookup
abbrev OX := @Array.length_toList
abbrev OZ := @PySem.W.mg_none_of
abbrev O2 := @PyProof.Rows.callWith_type1
abbrev O3 := @PySem.F.type_list_append
abbrev O4 := @PySem.F.slot_list_append
abbrev O5 := @List.getElem?_replicate
abbrev O6 := @Nat.lt_irrefl
abbrev O7 := @List.map_congr_left
abbrev O8 := @List.getElem?_range
abbrev O9 := @List.mem_filter
abbrev Pa := @List.dropLast_concat_getLast
abbrev Pb := @List.append_nil
abbrev Pc := @List.getElem?_set
abbrev Pd := @Nat.zero_le
abbrev Pe := @List.drop_of_length_le
abbrev Pf := @List.drop_zero
abbrev Pg := @List.length_drop
abbrev Ph := @List.getElem_map
abbrev Pj := @Bool.and_eq_true
abbrev Pk := @Nat.le_succ
abbrev Pl := @List.nodup_nil
abbrev Pm := @Bool.false_eq_true
abbrev Pn := @Option.getD_some
abbrev Po := @List.take_of_length_le
abbrev Pp := @List.filter_eq_nil_iff
abbrev Pr := @List.replicate_succ
abbrev Pu := @PySem.W.kia_one
abbrev Px := @List.ext_getElem
abbrev PB := @List.getElem_of_mem
abbrev PH := @Classical.byContradiction
abbrev PJ := @List.take_append_drop
abbrev PM := @PySem.W.mg_of
abbrev PN := @List.getLast?_cons_cons
abbrev PQ := @List.length_nil
abbrev PU := @Nat.lt_succ_self
abbrev PV := @List.filter_append
abbrev PY := @List.length_singleton
abbrev PZ := @List.range_succ
abbrev P1 := @Bool.eq_iff_iff
abbrev P4 := @List.length_take
abbrev P5 := @List.getElem?_cons_succ
abbrev P6 := @List.filter_cons
abbrev P7 := @List.drop_length
abbrev P9 := @Nat.lt_or_ge
abbrev Qa := @List.getElem_range
abbrev Qb := @List.all_map
abbrev Qc := @Int.mul_zero
abbrev Qf := @List.length_filter_le
abbrev Qi := @List.pairwise_map
abbrev Qj := @List.flatten_cons
abbrev Ql := @Nat.pow_le_pow_right
abbrev Qn := @List.take_length
abbrev Qo := @List.lookup_cons
abbrev Qp := @List.cons_append
abbrev Qq := @List.mem_or_eq_of_mem_set
abbrev Qr := @List.mem_of_find?_eq_some
abbrev Qt := @List.map_drop
abbrev Qu := @List.all_cons
abbrev Qy := @Nat.min_eq_left
abbrev Qz := @List.find?_cons
abbrev QA := @Nat.add_sub_cancel
abbrev QB := @List.zip_cons_cons
abbrev QE := @Nat.lt_succ_of_lt
abbrev QF := @Nat.le_of_lt
abbrev QG := @List.take_succ_eq_append_getElem
abbrev QH := @List.map_nil
abbrev QI := @Nat.not_lt
abbrev QJ := @List.map_take
abbrev QK := @Bool.not_true
abbrev QM := @List.map_id
abbrev QO := @Nat.not_lt_zero
abbrev QP := @List.sum_append
abbrev QU := @Nat.sub_self
abbrev QV := @List.map_set
abbrev QW := @Int.add_zero
set_option tactic.hygienic false
set_option hygiene false
set_option maxRecDepth 100000
namespace L2
open PySem
abbrev qh:=Int × aab
section
variable {prog:Program}{w:World}
abbrev inner(prog:Program)(w:World):=PySem.intKind prog w
def gY(h:Heap)(k:qh)(a:Addr):Prop :=
 ∃o n t b,h.get? a=some o/\o.cls=.type "tuple"/\o.data=.seq #[.int k.1 t,.ref b] n/\IsTupleKey (inner prog w) h k.2 b
def wc(prog:Program)(w:World)(k:qh):Int:=reduceHash (Builtin.Tuple.tupleHashOf [hashInt k.1,tupleKeyHash (inner prog w) k.2])
theorem gY.ty{s:Shared}{k:qh}{a:Addr}(x:gY (prog:=prog) (w:=w) s.heap k a):s.TypeIs (.ref a) "tuple":=by
 obtain ⟨o,n,t,b,e,c,_⟩:=x
 exact⟨o,e,c⟩
theorem gY.uniq(p:gY (prog:=prog) (w:=w) h x a)(m:gY (prog:=prog) (w:=w) h y a):x=y:=by
 obtain ⟨o,n,t,b,e,c,d,i⟩:=p
 obtain ⟨q,r,t',u,f,s,d',j⟩:=m
 rw[e] at f
 cases f
 rw[d] at d'
 injection d' with g _
 have q2:=congrArg Array.toList g
 injection q2 with q3 q4
 injection q3 with q5 _
 injection q4 with q6 _
 injection q6 with q7
 subst q7
 exact Prod.ext q5 (i.inj j)
theorem gY.stays(x:gY (prog:=prog) (w:=w) h k a)(g:h.get? d=some o)(hd:o.data=.dict es ep)(f:Heap.SameBut d h h'):gY (prog:=prog) (w:=w) h' k a:=by
 obtain ⟨j,n,t,b,e,c,q,i⟩:=x
 have ne:a≠d:=fun z=>by
  rw[z,g] at e
  cases e
  rw[hd] at q
  exact nomatch q
 exact⟨j,n,t,b,(f.2 a ne).trans e,c,q,i.keeps g hd f⟩
theorem Co(h:ItemsAre (intKind p1 w1) ks vs):ItemsAre (intKind p2 w2) ks vs:=by
 induction h with
 |nil=>exact .nil
 |cons a _ ih=>exact .cons a ih
theorem BL(x:IsTupleKey (intKind p1 w1) h ks a):IsTupleKey (intKind p2 w2) h ks a:=by
 obtain ⟨o,it,n,e1,e2,f,c⟩:=x
 exact⟨o,it,n,e1,e2,f,Co c⟩
variable {A:Around}{E:Value->Shared->Prop}{s:Shared}
theorem FK(i:A.units+2<cLine)(f:gY (prog:=prog) (w:=w) s.heap k a)(h:Q (wc prog w k) { s with toks:=s.toks+(k.2.length+3) }):wpAny (model prog w) A (pyHash (.ref a)) Q E s:=by
 have ty:=f.ty
 obtain ⟨o,n,t,b,g,_,hd,hi⟩:=f
 unfold pyHash
 first|unfold pyHashByItsType|skip
 first|refine wpAny_bind (wpAny_cRoomFor_or (.inr ()) ?_)|skip
 refine (wpAny_bind (wpAny_specialOf ty F.slot_tuple_hash.lookup ?_))
 show wpAny (model prog w) A (if (some (Value.builtin "tuple.__hash__") == some Value.none)=true then _ else _) Q E s
 rw[if_neg (fun z=>by rw[beq_builtin_none] at z;cases z)]
 refine (wpAny_bind (wpAny_specialOf ty F.slot_tuple_hash.lookup ?_))
 show wpAny (model prog w) A (callSpecialIfBoundUnlessNone? (.ref a) "__hash__" _ >>= _) Q E s
 refine wpAny_bind (wpAny_callSpecialIfBoundUnlessNone?_slot ty F.slot_tuple_hash (wpAny_call_entry F.slot_tuple_hash ty F.entry_tuple_hash ?_ (F.args_tuple_hash_1 _)))
 show wpAny (model prog w) _ (Builtin.Tuple.tupleItemsOf (.ref a) >>= _) _ _ s
 refine wpAny_bind (wpAny_tupleItemsOf g hd (wpAny_bind ?_))
 rw[<- Array.forIn_toList]
 refine wpAny_forIn_list _ (fun rest (z:Array Int) c=>(rest=[.int k.1 t,.ref b]/\z.toList=[]/\c=s)\/(rest=[.ref b]/\z.toList=[hashInt k.1]/\c={ s with toks:=s.toks+1 })\/(rest=[]/\z.toList=[hashInt k.1,tupleKeyHash (inner prog w) k.2]/\c={ s with toks:=s.toks+1+(k.2.length+1) })) _ ?_ ?_ _ _ (.inl ⟨rfl,rfl,rfl⟩)
 .rintro x rest z c (⟨e1,e2,rfl⟩|⟨e1,e2,rfl⟩|⟨e1,_⟩)
  .cases e1
   refine wpAny_bind ((inner prog w).pyHash (k:=k.1) (by simp [inner,intKind,Value.isInt]) ?_)
   first
    |exact wpAny_pure (.inr (.inl ⟨rfl,by simp [e2];rfl,rfl⟩))
    |exact wpAny_bind (wpAny_pure (wpAny_pure (.inr (.inl ⟨rfl,by simp [e2];rfl,rfl⟩))))
  .cases e1
   refine wpAny_bind (wpAny_pyHash_tuple (knd:=inner prog w) (ks:=k.2) (by first|omega|(show A.in1.units<cLine;show A.units+1<cLine;omega)) hi ?_)
   first
    |exact wpAny_pure (.inr (.inr ⟨rfl,by simp [e2],rfl⟩))
    |exact wpAny_bind (wpAny_pure (wpAny_pure (.inr (.inr ⟨rfl,by simp [e2],rfl⟩))))
  .cases e1
 .rintro z c (⟨e1,_⟩|⟨e1,_⟩|⟨_,e2,rfl⟩)
  .cases e1
  .cases e1
  show wpAny (model prog w) _ (retInt (Builtin.Tuple.tupleHashOf z.toList)) _ _ _
  rw[e2]
  refine wpAny_ret_mkInt ?_
  unfold wc reduceHash at h
  generalize Builtin.Tuple.tupleHashOf [hashInt k.1,tupleKeyHash (inner prog w) k.2]=m at h ⊢
  rw[show s.toks+(k.2.length+3)=s.toks+1+(k.2.length+1)+1 by omega] at h
  show wpAny (model prog w) A (if (decide (-(2:Int) ^ 63<=m) && decide (m<2 ^ 63))=true then _ else _) Q E _
  by_cases hr:(decide (-(2:Int) ^ 63<=m) && decide (m<2 ^ 63))=true
  .rw[if_pos hr] at h ⊢
   exact wpAny_pure h
  .rw[if_neg hr] at h ⊢
   exact wpAny_bind (wpAny_rule (wpAny_pure h))
theorem Jz(L:A.units+2<cLine)(n:gY (prog:=prog) (w:=w) s.heap x a)(m:gY (prog:=prog) (w:=w) s.heap y b):SeqAt.EqAt A s (.ref a) (.ref b) (decide (x=y)):=by
 by_cases p:a=b
 .subst p
  rw[n.uniq m,decide_eq_true rfl]
  exact SeqAt.EqAt.same _
 .obtain ⟨v,n1,h,f,G,c1,d1,B⟩:=n
  obtain ⟨u,n2,g,c,F,H,d2,z⟩:=m
  have t:s.heap.IsTuple a #[.int x.1 h,.ref f]:=⟨v,G,c1,n1,d1⟩
  have r:s.heap.IsTuple b #[.int y.1 g,.ref c]:=⟨u,F,H,n2,d2⟩
  have inn:SeqAt.EqAt A.in1 s (.ref f) (.ref c) (decide (x.2=y.2)):=fun o i J I q=>by
   have:=wpAny_eqBool_tuple (prog:=o) (w:=i) (knd:=intKind o i) (A:=A.in1) (E:=J) (s:=s) (x:=x.2) (y:=y.2) (a:=f) (b:=c) (Q:=I) (by show A.units+1<cLine;omega) (BL B) (BL z) q
   exact this
  have key:=SeqAt.RcAt.tuples (A:=A) (e:=fun j=>if j=0 then decide (x.1=y.1) else decide (x.2=y.2)) t r () (fun j C M=>by
   have hj:j=0\/j=1:=by simp at C;omega
   rcases hj with rfl|rfl
   .have:=SeqAt.EqAt.int_int (A:=A.in1) (s:=s) x.1 h y.1 g
    rw[show (x.1 == y.1)=decide (x.1=y.1) from rfl] at this
    exact this
   .exact inn)
  refine SeqAt.EqAt.of_refs p ?_
  have e:decide (x=y)=((List.range (min (#[Value.int x.1 h,Value.ref f]:Array Value).size (#[Value.int y.1 g,Value.ref c]:Array Value).size)).all (fun j=>if j=0 then decide (x.1=y.1) else decide (x.2=y.2)) && (#[Value.int x.1 h,Value.ref f]:Array Value).size == (#[Value.int y.1 g,Value.ref c]:Array Value).size):=by
   rw[show (List.range (min (#[Value.int x.1 h,Value.ref f]:Array Value).size (#[Value.int y.1 g,Value.ref c]:Array Value).size))=[0,1] from rfl]
   rw[P1]
   simp [Prod.ext_iff]
  rw[e]
  exact key
theorem Ck(f:IsTupleKey (inner prog w) s.heap ks a)(h:Q true s):wpAny (model prog w) A (eqIsQuiet (n+1) (.ref a)) Q E s:=by
 have ty:=f.typeIs
 obtain ⟨o,it,m,j,_,hd,hi⟩:=f
 unfold eqIsQuiet
 refine (wpAny_bind (wpAny_specialOf ty F.slot_tuple_eq.lookup ?_))
 show wpAny (model prog w) A (isInstance (.ref a) (.type "tuple") >>= _) Q E s
 refine (wpAny_bind (wpAny_isInstance ty isSubtype_tuple_tuple ?_))
 simp only[QK,Pm,if_false]
 refine (wpAny_bind (wpAny_seqItems j hd (wpAny_bind ?_)))
 show wpAny (model prog w) A (forIn it _ _) _ E s
 rw[<- Array.forIn_toList]
 refine wpAny_forIn_list _ (fun rest r c=>(r.1=none/\c=s)/\∀v∈rest,carriedByValue v=true) _ ?_ ?_ _ _ ⟨⟨rfl,rfl⟩,hi.byValue⟩
 .rintro v rest r c ⟨⟨hr,rfl⟩,g⟩
  rw[eqIsQuiet_byValue _ (g v k0)]
  refine wpAny_bind (wpAny_pure ?_)
  simp only[QK,Pm,if_false]
  exact wpAny_pure ⟨⟨rfl,rfl⟩,fun u i=>g u (gV _ i)⟩
 .rintro ⟨q,p⟩ c ⟨⟨hr,rfl⟩,_⟩
  simp only at hr
  subst hr
  exact wpAny_pure h
theorem Cm(i:gY (prog:=prog) (w:=w) s.heap k a)(h:Q true s):wpAny (model prog w) A (eqIsQuiet 8 (.ref a)) Q E s:=by
 have ty:=i.ty
 obtain ⟨o,n,t,b,m,_,hd,hi⟩:=i
 unfold eqIsQuiet
 refine (wpAny_bind (wpAny_specialOf ty F.slot_tuple_eq.lookup ?_))
 show wpAny (model prog w) A (isInstance (.ref a) (.type "tuple") >>= _) Q E s
 refine (wpAny_bind (wpAny_isInstance ty isSubtype_tuple_tuple ?_))
 simp only[QK,Pm,if_false]
 refine (wpAny_bind (wpAny_seqItems m hd (wpAny_bind ?_)))
 show wpAny (model prog w) A (forIn (#[Value.int k.1 t,Value.ref b]:Array Value) _ _) _ E s
 rw[<- Array.forIn_toList]
 refine wpAny_forIn_list _ (fun rest r c=>(r.1=none/\c=s)/\∀v∈rest,v=.int k.1 t\/v=.ref b) _ ?_ ?_ _ _ ⟨⟨rfl,rfl⟩,fun v j=>by simpa using j⟩
 .rintro v rest r c ⟨⟨hr,rfl⟩,g⟩
  rcases g v k0 with rfl|rfl
  .rw[eqIsQuiet_byValue _ rfl]
   refine wpAny_bind (wpAny_pure ?_)
   simp only[QK,Pm,if_false]
   exact wpAny_pure ⟨⟨rfl,rfl⟩,fun u f=>g u (gV _ f)⟩
  .refine wpAny_bind (Ck hi ?_)
   simp only[QK,Pm,if_false]
   exact wpAny_pure ⟨⟨rfl,rfl⟩,fun u f=>g u (gV _ f)⟩
 .rintro ⟨q,p⟩ c ⟨⟨hr,rfl⟩,_⟩
  simp only at hr
  subst hr
  exact wpAny_pure h
end
def jH(prog:Program)(w:World):HeapKind prog w qh where
 is:=gY (prog:=prog) (w:=w)
 hash:=wc prog w
 draws:=fun k=>k.2.length+3
 room:=fun A=>A.units+2<cLine
 inj:=fun f c=>f.uniq c
 keeps:=fun x m hd j=>x.stays m hd j
 pyHash:=fun g i h=>FK g i h
 eqBool:=fun g f c h=>Jz g f c _ _ _ _ h
 quiet:=fun i h=>Cm i h
end L2
set_option Elab.async false
namespace L2
open PySem PySem.Spec PyProof.Rows
abbrev Key:=Sum Int Str
def va:Key->Value->Bool
 |.inl k,v=>Value.isInt k v
 |.inr x,v=>Value.isStrOf x v
def N8(w:World):Key->Int
 |.inl k=>hashInt k
 |.inr x=>hashStr w x
theorem bW:∀{k:Key}{v:Value},va k v=true->(∃i t,k=Sum.inl i/\v=Value.int i t)\/(∃x t,k=Sum.inr x/\v=Value.str x t)
 |.inl i,v,h=>by
  obtain ⟨t,e⟩:=Value.isInt_shape (k:=i) (v:=v) h
  exact .inl ⟨i,t,rfl,e⟩
 |.inr x,v,h=>by
  obtain ⟨t,e⟩:=Value.isStrOf_shape (x:=x) (v:=v) h
  exact .inr ⟨x,t,rfl,e⟩
theorem Gk(i:Int)(t:Tok):va (.inl i) (.int i t)=true:=by simp [va,Value.isInt]
theorem FG(x:Str)(t:Tok):va (.inr x) (.str x t)=true:=by simp [va,Value.isStrOf]
theorem M5(a b:Int):decide ((Sum.inl a:Key)=Sum.inl b)=(a == b):=by
 by_cases e:a=b
 .subst e;simp
 .have h:¬ (Sum.inl a:Key)=Sum.inl b:=fun q=>e (Sum.inl.inj q)
  rw[decide_eq_false h]
  exact (beq_eq_false_iff_ne.mpr e).symm
theorem MQ(a b:Str):decide ((Sum.inr a:Key)=Sum.inr b)=decide (a=b):=by
 by_cases e:a=b
 .subst e;simp
 .have h:¬ (Sum.inr a:Key)=Sum.inr b:=fun q=>e (Sum.inr.inj q)
  rw[decide_eq_false h,decide_eq_false e]
theorem Mo(a:Int)(b:Str):decide ((Sum.inl a:Key)=Sum.inr b)=false:=decide_eq_false (fun q=>nomatch q)
theorem LM(a:Str)(b:Int):decide ((Sum.inr a:Key)=Sum.inl b)=false:=decide_eq_false (fun q=>nomatch q)
def cG(prog:Program)(w:World):PySem.KeyKind prog w Key where
 is:=va
 hash:=N8 w
 inj:=fun v a b ha hb=>by
  rcases bW ha with ⟨i,t,rfl,rfl⟩|⟨x,t,rfl,rfl⟩
  .rcases bW hb with ⟨j,u,rfl,e⟩|⟨y,u,rfl,e⟩
   .injection e with e1 _;rw[e1]
   .exact nomatch e
  .rcases bW hb with ⟨j,u,rfl,e⟩|⟨y,u,rfl,e⟩
   .exact nomatch e
   .injection e with e1 _;rw[e1]
 byValue:=fun k v h=>by
  rcases bW h with ⟨i,t,rfl,rfl⟩|⟨x,t,rfl,rfl⟩<;>rfl
 pyHash:=fun c h=>by
  rcases bW c with ⟨i,t,rfl,rfl⟩|⟨x,t,rfl,rfl⟩
  .exact wpAny_pyHash_int h
  .exact wpAny_pyHash_str h
 eqBool:=fun f c h=>by
  rcases bW f with ⟨i,t,rfl,rfl⟩|⟨x,t,rfl,rfl⟩
  .rcases bW c with ⟨j,u,rfl,rfl⟩|⟨y,u,rfl,rfl⟩
   .rw[M5] at h;exact wpAny_eqBool_int h
   .rw[Mo] at h;exact SeqAt.EqAt.int_str i t y u _ _ _ _ h
  .rcases bW c with ⟨j,u,rfl,rfl⟩|⟨y,u,rfl,rfl⟩
   .rw[LM] at h;exact SeqAt.EqAt.str_int x t j u _ _ _ _ h
   .rw[MQ] at h;exact wpAny_eqBool_str h
 «strs»:=fun k x t v h=>by
  rcases bW h with ⟨i,u,rfl,e⟩|⟨y,u,rfl,e⟩
  .exact nomatch e
  .injection e with e1 _
   subst e1
   cases v<;>rfl
theorem CY(prog:Program)(w:World)(k:Key)(v:Value):(cG prog w).is k v=va k v:=rfl
theorem Bq(prog:Program)(w:World)(i:Int)(t:Tok):(cG prog w).is (.inl i) (.int i t)=true:=Gk i t
theorem Bc(prog:Program)(w:World)(x:Str)(t:Tok):(cG prog w).is (.inr x) (.str x t)=true:=FG x t
inductive V where
 |non|bl (b:Bool)|int (i:Int)|str (x:Str)|byt (b:Array UInt8)|flt (b:UInt64)|ref (a:Addr)|ty (n:String)
 deriving DecidableEq
def RelV:V->Value->Prop
 |.non,u=>u=Value.none
 |.bl b,u=>u=Value.bool b
 |.int i,u=>∃t,u=Value.int i t
 |.str x,u=>∃t,u=Value.str x t
 |.byt b,u=>∃t,u=Value.bytes b t
 |.flt b,u=>∃t,u=Value.float b t
 |.ref a,u=>u=Value.ref a
 |.ty n,u=>u=Value.type n
abbrev Vals:List V->List Value->Prop:=Paired RelV
theorem Vals.length(r:Vals xs us):xs.length=us.length:=Paired.length r
theorem Vals.get:∀{xs:List V}{us:List Value}{i:Nat}{x:V},Vals xs us->xs[i]?=some x->∃u,us[i]?=some u/\RelV x u
 |_,_,_,_,.nil,e=>by simp at e
 |_,_,0,_,.cons r _,e=>by simp at e;subst e;exact⟨_,rfl,r⟩
 |_,_,i+1,x,.cons _ t,e=>by
  obtain ⟨u,f,c⟩:=Vals.get (i:=i) (x:=x) t (by simpa using e)
  exact⟨u,by simpa using f,c⟩
theorem Vals.set{x:V}{u:Value}(r:RelV x u):∀{xs:List V}{us:List Value} (i:Nat),Vals xs us->Vals (xs.set i x) (us.set i u)
 |_,_,_,.nil=>.nil
 |_,_,0,.cons _ t=>.cons r t
 |_,_,i+1,.cons q t=>.cons q (Vals.set r i t)
theorem Vals.append:∀{xs ys:List V}{us ws:List Value},Vals xs us->Vals ys ws->Vals (xs++ys) (us++ws)
 |_,_,_,_,.nil,s=>s
 |_,_,_,_,.cons r t,s=>.cons r (Vals.append t s)
theorem Vals.take:∀{xs:List V}{us:List Value} (n:Nat),Vals xs us->Vals (xs.take n) (us.take n)
 |_,_,0,_=>.nil
 |_,_,_+1,.nil=>.nil
 |_,_,n+1,.cons r t=>.cons r (Vals.take n t)
theorem Vals.drop:∀{xs:List V}{us:List Value} (n:Nat),Vals xs us->Vals (xs.drop n) (us.drop n)
 |_,_,0,r=>r
 |_,_,_+1,.nil=>.nil
 |_,_,n+1,.cons _ t=>Vals.drop n t
def oK:Option V->Option Value->Prop
 |some v,some u=>RelV v u
 |none,none=>True
 |_,_=>False
def KV{c:Type}:List (c × V)->List (c × Value)->Prop:=Paired fun (p:c × V) (q:c × Value)=>p.1=q.1/\RelV p.2 q.2
def kV:Key->V
 |.inl i=>.int i
 |.inr x=>.str x
inductive HO where
  |lst (xs:List V)
  |tup (xs:List V)
  |dK (kvs:List (Key × V))|dT (kvs:List (List Key × V))
  |set (S:Int->Bool) (n:Nat)
  |ins (C dx:Addr) (fs:List (Str × V))
  |own (x:Addr)
  |xd (fs:List (Str × V))
  |met (f x:Addr)
  |rng (lo hi:Int)
  |frz (o:Obj) (u:HO)
  |tbl (ps:Array Value)
  |ext (φ:Heap->Prop)
 |memo (φ:Int->aab->Int->Prop) (ks:List qh)
abbrev Hp:=Addr->Option HO
def upd(H:Hp)(a:Addr)(o:HO):Hp:=fun b=>if b=a then some o else H b
theorem aq:upd H a o a=some o:=by unfold upd;rw[if_pos rfl]
theorem au(h:b≠a):upd H a o b=H b:=by unfold upd;rw[if_neg h]
theorem J9:upd (upd H a o) a u=upd H a u:=by
 funext b;unfold upd;split<;>rfl
theorem N3{H:Hp}{a b:Addr}{o u:HO}(h:H a=some o)(h':H b=some u)(d:o≠u):a≠b:=by
 intro e;subst e;rw[h] at h';exact d (OJ h')
theorem aJ{H:Hp}{a b:Addr}{o:HO}(h:H a=some o)(h':H b=none):a≠b:=by
 intro e;subst e;rw[h] at h';cases h'
def Cy(k:qh):Bool:=decide (0<=k.1) && decide (k.1<8) && decide (k.2.length<=5) && k.2.all fun e=>decide (0<=e) && decide (e<7)
def lI(H:Hp)(c:Int->aab->Int->Prop)(x:qh × Addr × Value):Prop:=∃b n t,H x.2.1=some (.tup [.int x.1.1,.ref b])/\H b=some (.tup (x.1.2.map V.int))/\x.2.2=.int n t/\c x.1.1 x.1.2 n/\Cy x.1=true
section
variable (P:Program)(w:World)
def bI(H:Hp)(h:Heap)(a:Addr):HO->Prop
 |.lst xs=>xs.length<=sizeLine/\∃(i:List Value) (n:Nat),Vals xs i/\h.get? a=some { cls:=.type "list",data:=.seq i.toArray n }
 |.tup xs=>xs.length<=sizeLine/\∃i:List Value,Vals xs i/\IsTup h a i.toArray
 |.dK kvs=>kvs.length<=sizeLine/\(a == sysModules)=false/\∃vs,KV kvs vs/\h.DictOf (cG P w) a vs
 |.dT kvs=>kvs.length<=sizeLine/\(a == sysModules)=false/\∃xs:List (List Key × Addr × Value),
   Paired (fun (p:List Key × V) (q:List Key × Addr × Value)=>p.1=q.1/\H q.2.1=some (.tup (p.1.map kV))/\RelV p.2 q.2.2) kvs xs /\
   ∃o es ep,h.get? a=some o/\o.ExactDict/\o.data=.dict es ep/\es.toList=xs.map (entryOfKey (tupleKind (cG P w)))/\(xs.map (·.1)).Nodup
 |.set S n=>h.SetOf (intKind P w) a S n
 |.ins C dx fs=>H dx=some (.own a)/\fs.length<=1000/\dx≠a/\h.get? a=some (PySem.W.instObj C dx) /\
   ∃c,h.Ns1 dx c/\(∀f,oK (fs.lookup f) (c f))/\PySem.Within c (fs.map (·.1))
 |.own _=>∃o,h.get? a=some o
 |.xd fs=>∃c,h.Ns1 a c/\∀f,oK (fs.lookup f) (c f)
 |.rng lo hi=>∃t u v,h.get? a=some { cls:=.type "range",data:=.fields #[.int lo t,.int hi u,.int 1 v] }
 |.frz o u=>h.get? a=some o/\bI H h a u
 |.tbl ps=>h.get? a=some { cls:=.none,data:=.fields ps }
 |.met f x=>h.get? a=some (PySem.W.methodObj (.ref f) (.ref x))
 |.memo g ks=>(a == sysModules)=false/\∃xs:List (qh × Addr × Value),(∀x∈xs,lI H g x)/\(∀k∈ks,k∈xs.map (·.1)) /\
   ∃o es ep,h.get? a=some o/\o.ExactDict/\o.data=.dict es ep/\es.toList=xs.map (entryOfKey (jH P w))/\(xs.map (·.1)).Nodup
 |.ext g=>g h/\(∃o,h.get? a=some o)/\∀m j:Heap,g m->(∀o,m.get? a=some o->j.get? a=some o)->g j
def HOk(H:Hp)(h:Heap):Prop:=∀a o,H a=some o->bI P w H h a o
end
section
variable {P:Program}{w:World}{H H':Hp}{h h':Heap}{a:Addr}{o:HO}
theorem bI.lt(x:bI P w H h a o):a<h.objs.size:=by
 cases o with
 |lst xs=>obtain ⟨_,_,_,_,e⟩:=x;exact Heap.lt_size e
 |tup xs=>obtain ⟨_,_,_,p⟩:=x;exact p.lt
 |dK kvs=>obtain ⟨_,_,_,_,o,_,_,e,_⟩:=x;exact Heap.lt_size e
 |dT kvs=>obtain ⟨_,_,_,_,o,_,_,e,_⟩:=x;exact Heap.lt_size e
 |set S n=>obtain ⟨o,_,_,_,e,_⟩:=x;exact Heap.lt_size e
 |ins C dx fs=>obtain ⟨_,_,_,e,_⟩:=x;exact Heap.lt_size e
 |own y=>obtain ⟨_,e⟩:=x;exact Heap.lt_size e
 |xd fs=>obtain ⟨_,⟨_,_,_,e,_⟩,_⟩:=x;exact Heap.lt_size e
 |rng lo hi=>obtain ⟨_,_,_,e⟩:=x;exact Heap.lt_size e
 |frz ob u=>obtain ⟨e,_⟩:=x;exact Heap.lt_size e
 |tbl ps=>exact Heap.lt_size (show h.get? a=some _ from x)
 |met f y=>exact Heap.lt_size (show h.get? a=some _ from x)
 |ext c=>obtain ⟨_,⟨_,e⟩,_⟩:=x;exact Heap.lt_size e
 |memo c ks=>obtain ⟨_,_,_,_,_,_,_,e,_⟩:=x;exact Heap.lt_size e
theorem Paired.Mt{g c:Type}{F G:g->c->Prop}:∀{h:List g}{i:List c},Paired F h i->(∀a b,F a b->G a b)->Paired G h i
 |_,_,.nil,_=>.nil
 |_,_,.cons r t,f=>.cons (f _ _ r) (Paired.Mt t f)
theorem bI.vz(x:bI P w H h a o)(k:∀b u,(b=a\/H b=some (.own a))->h.get? b=some u->h'.get? b=some u)
  (E:∀b,H b=some (.own a)->H' b=some (.own a)) (ht:∀b xs,H b=some (.tup xs)->H' b=some (.tup xs)):bI P w H' h' a o:=by
 induction o with
 |lst xs=>obtain ⟨z,j,n,r,e⟩:=x;exact⟨z,j,n,r,k _ _ (.inl rfl) e⟩
 |tup xs=>obtain ⟨z,j,r,ob,e,c⟩:=x;exact⟨z,j,r,ob,k _ _ (.inl rfl) e,c⟩
 |dK kvs=>obtain ⟨z,y,vs,r,ob,es,ep,e,c⟩:=x;exact⟨z,y,vs,r,ob,es,ep,k _ _ (.inl rfl) e,c⟩
 |dT kvs =>
  obtain ⟨z,y,xs,r,ob,es,ep,e,c⟩:=x
  exact⟨z,y,xs,Paired.Mt r fun p q z=>⟨z.1,ht _ _ z.2.1,z.2.2⟩,ob,es,ep,k _ _ (.inl rfl) e,c⟩
 |set S n=>obtain ⟨ob,es,ep,t,e,c⟩:=x;exact⟨ob,es,ep,t,k _ _ (.inl rfl) e,c⟩
 |ins C dx fs =>
  obtain ⟨d,z,ne,e,i,⟨g,es,ep,e2,c⟩,r⟩:=x
  exact⟨E _ d,z,ne,k _ _ (.inl rfl) e,i,⟨g,es,ep,k _ _ (.inr d) e2,c⟩,r⟩
 |own y=>obtain ⟨ob,e⟩:=x;exact⟨ob,k _ _ (.inl rfl) e⟩
 |xd fs=>obtain ⟨i,⟨g,es,ep,e,c⟩,r⟩:=x;exact⟨i,⟨g,es,ep,k _ _ (.inl rfl) e,c⟩,r⟩
 |rng lo hi=>obtain ⟨t,u,v,e⟩:=x;exact⟨t,u,v,k _ _ (.inl rfl) e⟩
 |frz ob u ih=>obtain ⟨e,q⟩:=x;exact⟨k _ _ (.inl rfl) e,ih q⟩
 |tbl ps =>
  have e:h.get? a=some { cls:=.none,data:=.fields ps }:=x
  show h'.get? a=some { cls:=.none,data:=.fields ps }
  exact k a _ (.inl rfl) e
 |met f y =>
  have e:h.get? a=some (PySem.W.methodObj (.ref f) (.ref y)):=x
  show h'.get? a=some (PySem.W.methodObj (.ref f) (.ref y))
  exact k a _ (.inl rfl) e
 |memo m ks =>
  obtain ⟨y,xs,B,F,ob,es,ep,e,c⟩:=x
  exact⟨y,xs,fun z s=>let ⟨b,n,t,q1,q2,q3⟩:=B z s;⟨b,n,t,ht _ _ q1,ht _ _ q2,q3⟩,F,ob,es,ep,k _ _ (.inl rfl) e,c⟩
 |ext m=>obtain ⟨p,⟨o,e⟩,st⟩:=x;exact⟨st _ _ p fun o q=>k _ _ (.inl rfl) q,⟨o,k _ _ (.inl rfl) e⟩,st⟩
theorem HOk.lt(x:HOk P w H h)(e:H a=some o):a<h.objs.size:=(x a o e).lt
theorem HOk.fresh(x:HOk P w H h)(e:h.objs.size<=a):H a=none:=by
 cases q:H a with
 |none=>rfl
 |some u=>exact absurd (OA (x.lt q) e) (O6 _)
theorem HOk.kept(x:HOk P w H h)(k:∀b u,h.get? b=some u->h'.get? b=some u):HOk P w H h':=fun a o e =>
 (x a o e).vz (fun b u _ q=>k b u q) (fun _ q=>q) fun _ _ q=>q
theorem HOk.laid(x:HOk P w H h)(k:∀b u,h.get? b=some u->h'.get? b=some u)(f:h.objs.size<=a)(g:bI P w (upd H a o) h' a o):HOk P w (upd H a o) h':=fun b u e=>by
 have hn:=x.fresh f
 by_cases hb:b=a
 .subst hb;rw[aq] at e;cases e;exact g
 .rw[au hb] at e
  exact (x b u e).vz (fun c v _ q=>k c v q) (fun c q=>by rw[au (aJ q hn)];exact q) fun c xs q=>by rw[au (aJ q hn)];exact q
end
def Rd(H:Hp)(a:Addr)(u:HO):Prop:=H a=some u\/∃o,H a=some (.frz o u)
theorem Rd.ok(r:Rd H a u)(x:HOk P w H h):bI P w H h a u:=by
 rcases r with r|⟨o,r⟩
 .exact x a u r
 .obtain ⟨_,q⟩:=x a _ r
  exact q
def Mut:Option HO->Prop
 |some (.lst _)=>True
 |some (.dK _)=>True
 |some (.dT _)=>True
 |some (.set _ _)=>True
 |some (.ins _ _ _)=>True
 |some (.ext _)=>True
 |some (.memo _ _)=>True
 |_=>False
section
variable {P:Program}{w:World}{H:Hp}{h h':Heap}{x e:Addr}{o':HO}
theorem HOk.write(ok:HOk P w H h)(mu:Mut (H x))(j:e=x\/H e=some (.own x))(k:∀b u,b≠e->h.get? b=some u->h'.get? b=some u)(p:∃u,h'.get? e=some u)
  (s:bI P w (upd H x o') h' x o'):HOk P w (upd H x o') h':=fun b u q=>by
 have m:∀c y,H c=some (.own y)->c≠x:=fun c y r z=>by subst z;rw[r] at mu;exact mu
 have o:∀c xs,H c=some (.tup xs)->c≠x:=fun c xs r z=>by subst z;rw[r] at mu;exact mu
 by_cases hb:b=x
 .subst hb;rw[aq] at q;cases q;exact s
 .rw[au hb] at q
  by_cases g:b=e
  .have i:H b=some (.own x):=by
    rcases j with z|z
    .exact absurd (g.trans z) hb
    .rw[g];exact z
   rw[q] at i;cases i
   obtain ⟨v,n⟩:=p
   exact⟨v,by rw[g];exact n⟩
  .refine (ok b u q).vz (fun c v f r=>k c v ?_ r) (fun c r=>by rw[au (m c b r)];exact r) fun c xs r=>by rw[au (o c xs r)];exact r
   rcases f with rfl|f
   .exact g
   .rintro rfl
    rcases j with z|z
    .exact m c b f z
    .rw[f] at z;cases z;exact hb rfl
end
structure Un(fs ex:List Addr)(H H':Hp)(h h':Heap):Prop where
 keep:∀b o,h.get? b=some o->H b=none->b∉fs->b∉ex->h'.get? b=some o
 slot:∀b o,h.get? b=some o->H b=none->b∈fs->b∉ex->∃sl,h'.get? b=some { o with slots:=sl }
 free:∀b o,h.get? b=some o->H b=none->b∉ex->H' b=none
 there:∀b o,h.get? b=some o->b∉ex->∃o',h'.get? b=some o'
 tups:∀b xs,H b=some (.tup xs)->H' b=some (.tup xs)
 frzs:∀b o u,H b=some (.frz o u)->H' b=some (.frz o u)
 tbls:∀b ps,H b=some (.tbl ps)->∃more,H' b=some (.tbl (ps++more))
section
variable {fs ex:List Addr}{H H1:Hp}{h h1 h':Heap}{a x e:Addr}{o:HO}
theorem Un.any(u:Un fs ex H H1 h h1)(q:h.get? b=some ob)(n:H b=none)(c:b∉ex):∃sl,h1.get? b=some { ob with slots:=sl }:=by
 by_cases hb:b∈fs
 .exact u.slot b ob q n hb c
 .exact⟨ob.slots,u.keep b ob q n hb c⟩
theorem Un.kept(k:∀b u,h.get? b=some u->h'.get? b=some u):Un fs ex H H h h' :=
 ⟨fun b ob q _ _ _=>k b ob q,fun b ob q _ _ _=>⟨ob.slots,k b ob q⟩,fun _ _ _ n _=>n,fun b ob q _=>⟨ob,k b ob q⟩,fun _ _ q=>q,fun _ _ _ q=>q,fun _ ps q=>⟨#[],by rw[q];simp⟩⟩
theorem Un.refl:Un fs ex H H h h:=Un.kept fun _ _ q=>q
theorem Un.laid(k:∀b u,h.get? b=some u->h'.get? b=some u)(c:h.objs.size<=a)(hn:H a=none):Un fs ex H (upd H a o) h h' where
 keep:=fun b u q _ _ _=>k b u q
 slot:=fun b u q _ _ _=>⟨u.slots,k b u q⟩
 free:=fun b u q n _=>by rw[au (OK (OA (Heap.lt_size q) c))];exact n
 there:=fun b u q _=>⟨u,k b u q⟩
 tups:=fun b xs q=>by rw[au (aJ q hn)];exact q
 frzs:=fun b u xs q=>by rw[au (aJ q hn)];exact q
 tbls:=fun b ps q=>⟨#[],by rw[au (aJ q hn),q];simp⟩
theorem Un.write(mu:Mut (H x))(i:e=x\/H e=some (.own x))(k:∀b u,b≠e->h.get? b=some u->h'.get? b=some u)(j:∃u,h'.get? e=some u):Un fs ex H (upd H x o) h h':=by
 have c:∀b,H b=none->b≠x:=fun b n z=>by subst z;rw[n] at mu;exact mu
 have hb:∀b,H b=none->b≠e:=fun b n z=>by
  subst z
  rcases i with r|r
  .exact c b n r
  .rw[n] at r;cases r
 have hm:∀b u,H b=some u->¬ Mut (some u)->b≠x:=fun b u q g z=>by subst z;rw[q] at mu;exact g mu
 refine⟨fun b u q n _ _=>k b u (hb b n) q,fun b u q n _ _=>⟨u.slots,k b u (hb b n) q⟩,fun b u q n _=>by rw[au (c b n)];exact n,fun b u q _=>?_,
  fun b xs q=>by rw[au (hm b _ q fun z=>z)];exact q,fun b u xs q=>by rw[au (hm b _ q fun z=>z)];exact q,fun b ps q=>⟨#[],by rw[au (hm b _ q fun z=>z),q];simp⟩⟩
 by_cases f:b=e
 .subst f;exact j
 .exact⟨u,k b u f q⟩
end
def trk(h:Heap)(H:Hp):List Addr:=(List.range h.objs.size).filter fun a=>(H a).isSome
def zz(h:Heap)(H:Hp):Heap:=PySem.W.hideAll h (trk h H)
theorem F3(h:Heap)(H:Hp):(zz h H).objs.size=h.objs.size:=PySem.W.hideAll_size _ _
theorem u7(e:h.get? b=some o)(n:H b=none):(zz h H).get? b=some o :=
 PySem.W.hideAll_get _ e fun hm=>by
  have q:(H b).isSome=true:=(O9.mp hm).2
  rw[n] at q;simp at q
theorem J2(e:(zz h H).get? b=some o):h.get? b=some o/\H b=none:=by
 have c:h.get? b=some o:=PySem.W.of_hideAll (trk h H) e
 refine⟨c,?_⟩
 cases q:H b with
 |none=>rfl
 |some x =>
  have hm:b∈trk h H:=O9.mpr ⟨OL.mpr (Heap.lt_size c),by simp [q]⟩
  have z:(zz h H).get? b=none:=PySem.W.hideAll_none (trk h H) hm
  rw[z] at e;cases e
structure Mod(K:aae)(mg:Str->Option Value)(base:Heap):Prop where
 kin:K.In base
 glob:base.Ns mainGlobals mg
 blt:∃mb,base.Ns builtinsNs mb/\∀x:Str,x≠"__name__"->mb x=bootBuiltins x
 nolimit:base.NoLimit
structure Cx where
 prog:Program
 w:World
 K:aae
 mg:Str->Option Value
 base:Heap
 A:Around
 N:List Str
 s₀:Shared
 H₀:Hp
 env:Env
 outer:List Env
 stack:List Env
 ex:List Addr
 fn:Str->Bool
 calm:Bool
 pn:List (Addr × Obj)
 xe:Value->Shared->Prop
def frs(l:List Env):List Addr:=l.filterMap (·.frame)
abbrev Cx.fs(X:Cx):List Addr:=frs X.outer
def Vis(c:Scope)(x:Str):Prop:=c.names.lookup x=some .local\/c.names.lookup x=some .cell\/c.names.lookup x=some .free
def Loc(c:Scope)(x:Str):Prop:=c.names.lookup x=some .local\/c.names.lookup x=some .cell
def Look(env:Env)(h:Heap)(m:Str->Option Value)(x:Str)(u:Value):Prop :=
 (env.kindOf x=some .local/\m x=some u)\/((env.kindOf x=some .cell\/env.kindOf x=some .free)/\∃c,env.cells.lookup x=some c/\h.IsCell c (some u))
structure Cx.Ok(X:Cx):Prop where
 mod:Mod X.K X.mg X.base
 kind:X.env.scope.kind=.function
 glob:X.env.globals=mainGlobals
 blt:X.env.builtins=builtinsNs
 above:X.s₀.heap.objs.size<=X.env.locals
 inj:∀x y c,X.env.cells.lookup x=some c->X.env.cells.lookup y=some c->x=y
 has:∀x,(X.env.kindOf x=some .cell\/X.env.kindOf x=some .free)->∃c,X.env.cells.lookup x=some c
 cab:∀x c,X.fn x=true->X.env.cells.lookup x=some c->X.s₀.heap.objs.size<=c
 hd:X.calm=true->X.A.handled=none
 frames:X.A.frames=some X.stack
 stk:X.stack=X.outer\/(X.stack=X.env::X.outer/\X.env.frame=some X.env.locals)
 exf:∀b∈X.ex,b≠X.env.locals/\∀x c,X.env.cells.lookup x=some c->c≠b
 bs:∀b o,X.base.get? b=some o->X.s₀.heap.get? b=some o/\X.H₀ b=none
 bsz:X.base.objs.size<=X.s₀.heap.objs.size
 noex:∀b o,X.base.get? b=some o->b∉X.ex
 exfs:∀b∈X.ex,b∉X.fs
 uw:X.s₀.heap.FunFrames X.base X.outer
 frf:∀b∈X.fs,X.H₀ b=none
structure Inv(X:Cx)(pins:List (Addr × Obj))(σ:List (Option V))(H:Hp)(s:Shared):Prop where
 ok:X.Ok
 os:s.os=X.s₀.os
 bare:AllBare s.gens
 base:Un X.fs X.ex X.H₀ H X.s₀.heap s.heap
 loc:∃m,s.heap.Ns X.env.locals m/\∀(i:Nat) (x:Str) (v:V),X.N[i]?=some x->σ[i]?=some (some v)->Vis X.env.scope x->∃u,RelV v u/\Look X.env s.heap m x u
 cell:∀x c,X.env.cells.lookup x=some c->∃v,s.heap.IsCell c v
 free:H X.env.locals=none
 freeC:∀x c,X.env.cells.lookup x=some c->H c=none
 pin:∀p∈X.pn++pins,s.heap.get? p.1=some p.2/\H p.1=none/\p.1≠X.env.locals/\p.1∉X.fs/\∀v,p.2.data≠.cell v
 hok:HOk X.prog X.w H s.heap
 len:σ.length=X.N.length
section
variable {X:Cx}{pins:List (Addr × Obj)}{σ:List (Option V)}{H H':Hp}{s:Shared}{h':Heap}
theorem Cx.Ok.Og(ok:X.Ok)(e:X.base.get? b=some o):b∉X.fs:=fun hb=>by
 have:=(ok.uw.mem hb).1
 rw[e] at this;cases this
theorem Inv.bs(I:Inv X pins σ H s):∀b o,X.base.get? b=some o->s.heap.get? b=some o/\H b=none:=fun b o e =>
 ⟨I.base.keep b o (I.ok.bs b o e).1 (I.ok.bs b o e).2 (I.ok.Og e) (I.ok.noex b o e),I.base.free b o (I.ok.bs b o e).1 (I.ok.bs b o e).2 (I.ok.noex b o e)⟩
theorem Inv.bk(I:Inv X pins σ H s):∀b o,X.base.get? b=some o->s.heap.get? b=some o:=fun b o e=>(I.bs b o e).1
theorem Inv.mod(I:Inv X pins σ H s):Mod X.K X.mg X.base:=I.ok.mod
theorem Inv.kIn(I:Inv X pins σ H s):X.K.In s.heap:=I.ok.mod.kin.keeps I.bk
theorem Inv.lt(I:Inv X pins σ H s):X.env.locals<s.heap.objs.size:=let ⟨_,hn,_⟩:=I.loc;hn.lt
theorem Inv.sz(I:Inv X pins σ H s):X.s₀.heap.objs.size<=s.heap.objs.size:=OC I.ok.above (QF I.lt)
theorem Inv.Ni(I:Inv X pins σ H s)(h:s.heap.objs.size<=a):a∉X.fs:=fun hb=>by
 obtain ⟨_,o,c,_⟩:=I.ok.uw.mem hb
 exact absurd (OA (Heap.lt_size c) (OC I.sz h)) (O6 _)
theorem Inv.cne(I:Inv X pins σ H s):∀x c,X.env.cells.lookup x=some c->c≠X.env.locals:=fun x c e z=>by
 obtain ⟨v,o,f,hd⟩:=I.cell x c e
 obtain ⟨m,⟨i,es,ep,h,g,_⟩,_⟩:=I.loc
 rw[z,h] at f;cases f;rw[g] at hd;cases hd
theorem Inv.uw(I:Inv X pins σ H s):s.heap.FunFrames X.base X.outer:=by
 have all:∀(l:List Env),(∀b∈frs l,b∈X.fs)->X.s₀.heap.FunFrames X.base l->s.heap.FunFrames X.base l:=by
  intro l
  induction l with
  |nil=>intro _ _;trivial
  |cons env r ih =>
   intro g i
   obtain ⟨j,⟨L,o,c,hn,h,hd⟩,hr⟩:=i
   have f:L∈X.fs:=g L (by unfold frs;rw[List.filterMap_cons,c];exact k0)
   obtain ⟨sl,e⟩:=I.base.slot L o h (I.ok.frf L f) f fun z=>I.ok.exfs L z f
   exact⟨j,⟨L,_,c,hn,e,hd⟩,ih (fun b hb=>g b (by unfold frs;rw[List.filterMap_cons,c];exact gV _ hb)) hr⟩
 exact all X.outer (fun _ hb=>hb) I.ok.uw
theorem Inv.stack(I:Inv X pins σ H s):s.heap.FunFrames X.base X.stack:=by
 rcases I.ok.stk with e|⟨e,c⟩
 .rw[e];exact I.uw
 .rw[e]
  obtain ⟨m,hn,_⟩:=I.loc
  refine .cons (by rw[I.ok.kind];decide) c hn ?_ I.uw
  exact Heap.get?_none_of_le (OC I.ok.bsz I.ok.above)
theorem Inv.Ak(I:Inv X pins σ H s):∀b∈frs X.stack,b∈X.env.locals::X.fs:=fun b hb=>by
 rcases I.ok.stk with e|⟨e,c⟩
 .rw[e] at hb;exact gV _ hb
 .rw[e] at hb
  unfold frs at hb
  rw[List.filterMap_cons,c] at hb
  exact hb
theorem Inv.EI(I:Inv X pins σ H s):∀b∈frs X.stack,H b=none:=fun b hb=>by
 rcases KE.mp (I.Ak b hb) with e|hb
 .rw[e];exact I.free
 .obtain ⟨_,o,c,_⟩:=I.ok.uw.mem hb
  exact I.base.free b o c (I.ok.frf b hb) fun z=>I.ok.exfs b z hb
theorem Inv.step{g':Array GenState}{t':Nat}{d':Drawn}{ch:List Addr}(I:Inv X pins σ H s)
  (hch:∀b∈ch,(b∈X.ex\/X.s₀.heap.objs.size<=b)/\b≠X.env.locals/\(∀x c,X.env.cells.lookup x=some c->c≠b)/\∀p∈X.pn++pins,p.1≠b)
  (keep:∀b o,b≠X.env.locals->b∉X.fs->b∉ch->s.heap.get? b=some o->H b=none->h'.get? b=some o)
  (slot:∀b o,b≠X.env.locals->b∈X.fs->b∉ch->s.heap.get? b=some o->H b=none->∃sl,h'.get? b=some { o with slots:=sl }) (free:∀b o,b∉ch->s.heap.get? b=some o->H b=none->H' b=none)
  (there:∀b o,b∉ch->s.heap.get? b=some o->∃h,h'.get? b=some h)
  (tups:∀b xs,H b=some (.tup xs)->H' b=some (.tup xs)) (frzs:∀b o u,H b=some (.frz o u)->H' b=some (.frz o u)) (tbls:∀b ps,H b=some (.tbl ps)->∃j,H' b=some (.tbl (ps++j)))
  (ns:∀m,s.heap.Ns X.env.locals m->h'.Ns X.env.locals m) (hok:HOk X.prog X.w H' h') (M:AllBare g') :
  Inv X pins σ H' { s with heap:=h',gens:=g',drawn:=d',toks:=t' }:=by
 have E:∀b o,X.s₀.heap.get? b=some o->b≠X.env.locals:=fun b o e=>OK (OA (Heap.lt_size e) I.ok.above)
 have y:∀b o,X.s₀.heap.get? b=some o->b∉X.ex->b∉ch:=fun b o e f hb=>by
  rcases (hch b hb).1 with z|z
  .exact f z
  .exact absurd (OA (Heap.lt_size e) z) (O6 _)
 have F:∀x c,X.env.cells.lookup x=some c->∀v,s.heap.IsCell c v->h'.IsCell c v:=fun x c e v ⟨o,g,hd⟩=>by
  have t:c∉ch:=fun z=>(hch c z).2.2.1 x c e rfl
  by_cases C:c∈X.fs
  .obtain ⟨sl,q⟩:=slot c o (I.cne x c e) C t g (I.freeC x c e)
   exact⟨_,q,hd⟩
  .exact⟨o,keep c o (I.cne x c e) C t g (I.freeC x c e),hd⟩
 refine⟨I.ok,I.os,M,⟨fun b o e n hb f=>?_,fun b o e n hb f=>?_,fun b o e n f=>?_,fun b o e f=>?_,fun b xs e=>tups b xs (I.base.tups b xs e),fun b o xs e=>frzs b o xs (I.base.frzs b o xs e),fun b ps e=>?_⟩,?_,fun x c e=>?_,?_,fun x c e=>?_,fun p B=>?_,hok,I.len⟩
 .exact keep b o (E b o e) hb (y b o e f) (I.base.keep b o e n hb f) (I.base.free b o e n f)
 .obtain ⟨sl,e1⟩:=I.base.slot b o e n hb f
  obtain ⟨P,e2⟩:=slot b _ (E b o e) hb (y b o e f) e1 (I.base.free b o e n f)
  exact⟨P,e2⟩
 .obtain ⟨h,e1⟩:=I.base.there b o e f
  exact free b h (y b o e f) e1 (I.base.free b o e n f)
 .obtain ⟨h,e1⟩:=I.base.there b o e f
  exact there b h (y b o e f) e1
 .obtain ⟨J,e1⟩:=I.base.tbls b ps e
  obtain ⟨G,e2⟩:=tbls b _ e1
  exact⟨J++G,by rw[e2,Array.append_assoc]⟩
 .obtain ⟨m,hn,L⟩:=I.loc
  refine⟨m,ns m hn,fun i x v e1 e2 O=>?_⟩
  obtain ⟨u,r,l⟩:=L i x v e1 e2 O
  refine⟨u,r,?_⟩
  rcases l with l|⟨k,c,e,z⟩
  .exact .inl l
  .exact .inr ⟨k,c,e,F x c e _ z⟩
 .obtain ⟨v,z⟩:=I.cell x c e
  exact⟨v,F x c e v z⟩
 .obtain ⟨m,⟨o,_,_,g,_⟩,_⟩:=I.loc
  exact free _ o (fun z=>(hch _ z).2.1 rfl) g I.free
 .obtain ⟨v,o,g,hd⟩:=I.cell x c e
  exact free c o (fun z=>(hch c z).2.2.1 x c e rfl) g (I.freeC x c e)
 .obtain ⟨e,n,ne,nf,d⟩:=I.pin p B
  have t:p.1∉ch:=fun z=>(hch p.1 z).2.2.2 p B rfl
  exact⟨keep p.1 p.2 ne nf t e n,free p.1 p.2 t e n,ne,nf,d⟩
theorem Inv.un(I:Inv X pins σ H s)(u:Un X.fs [] H H' s.heap h')(hok:HOk X.prog X.w H' h'):Inv X pins σ H' { s with heap:=h',toks:=t' }:=by
 obtain ⟨m,⟨o,es,ep,c,r⟩,_⟩:=id I.loc
 obtain ⟨sl,h⟩:=u.any c I.free (by simp)
 exact I.step (g':=s.gens) (d':=s.drawn) (ch:=[]) (fun _ z=>nomatch z) (fun b o _ hb _ e n=>u.keep b o e n hb (by simp)) (fun b o _ hb _ e n=>u.slot b o e n hb (by simp)) (fun b o _ e n=>u.free b o e n (by simp)) (fun b o _ e=>u.there b o e (by simp)) u.tups u.frzs u.tbls (fun p hm=>by
  obtain ⟨j,es',i,f,g⟩:=hm
  rw[c] at f;cases f
  exact⟨_,es',i,h,g⟩) hok I.bare
theorem Inv.call(I:Inv X pins σ H s)(u:Un (frs X.stack) ch H H' s.heap h')(hok:HOk X.prog X.w H' h')(q:AllBare g')
  (hch:∀b∈ch,(b∈X.ex\/X.s₀.heap.objs.size<=b)/\b≠X.env.locals/\(∀x c,X.env.cells.lookup x=some c->c≠b)/\∀p∈X.pn++pins,p.1≠b) :
  Inv X pins σ H' { s with heap:=h',gens:=g',drawn:=d',toks:=t' }:=by
 obtain ⟨m,⟨o,es,ep,h,r⟩,_⟩:=id I.loc
 obtain ⟨sl,g⟩:=u.any h I.free fun z=>(hch _ z).2.1 rfl
 exact I.step (ch:=ch) hch (fun b o g hb f e n=>u.keep b o e n (fun z=>(KE.mp (I.Ak b z)).elim g hb) f) (fun b o _ _ f e n=>u.any e n f) (fun b o f e n=>u.free b o e n f) (fun b o f e=>u.there b o e f) u.tups u.frzs u.tbls (fun y hm=>by
  obtain ⟨v,es',t,i,j⟩:=hm
  rw[h] at i;cases i
  exact⟨_,es',t,g,j⟩) hok q
theorem Inv.turned(I:Inv X pins σ H s)(k:∀b o,b≠it->s.heap.get? b=some o->h'.get? b=some o)(hn:H it=none)(g:it≠X.env.locals)
  (y:it∈X.ex\/X.s₀.heap.objs.size<=it) (t:∀x c,X.env.cells.lookup x=some c->c≠it) (j:∀p∈X.pn++pins,p.1≠it):Inv X pins σ H { s with heap:=h',toks:=t' }:=by
 have h:∀b u,H b=some u->b≠it:=fun b u e z=>by rw[z,hn] at e;cases e
 refine I.step (g':=s.gens) (d':=s.drawn) (ch:=[it]) (fun b hb=>?_) (fun b o _ _ f e _=>k b o (fun z=>f (by simp [z])) e) (fun b o _ _ f e _=>⟨o.slots,k b o (fun z=>f (by simp [z])) e⟩) (fun _ _ _ _ n=>n)
  (fun b o f e=>⟨o,k b o (fun z=>f (by simp [z])) e⟩) (fun _ _ e=>e) (fun _ _ _ e=>e) (fun b ps e=>⟨#[],by rw[e];simp⟩) (fun m hm=>?_) (fun b u e=>?_) I.bare
 .have e:b=it:=by simpa using hb
  subst e
  exact⟨y,g,t,j⟩
 .obtain ⟨o,es,ep,i,r⟩:=hm
  exact⟨o,es,ep,k _ o (OT g) i,r⟩
 .refine (I.hok b u e).vz (fun c v f q=>k c v ?_ q) (fun _ q=>q) fun _ _ q=>q
  rcases f with z|z
  .rw[z];exact h b u e
  .exact h c _ z
theorem Inv.tok(I:Inv X pins σ H s)(t:Nat):Inv X pins σ H { s with toks:=t }:=I.un (h':=s.heap) (t':=t) Un.refl I.hok
theorem Inv.kept(I:Inv X pins σ H s)(k:∀b u,s.heap.get? b=some u->h'.get? b=some u):Inv X pins σ H { s with heap:=h',toks:=t' }:=I.un (Un.kept k) (I.hok.kept k)
theorem Inv.laid(I:Inv X pins σ H s)(k:∀b u,s.heap.get? b=some u->h'.get? b=some u)(c:s.heap.objs.size<=a)(f:bI X.prog X.w (upd H a o) h' a o) :
  Inv X pins σ (upd H a o) { s with heap:=h',toks:=t' }:=I.un (Un.laid k c (I.hok.fresh c)) (I.hok.laid k c f)
theorem Inv.write(I:Inv X pins σ H s)(mu:Mut (H x))(c:e=x\/H e=some (.own x))(k:∀b u,b≠e->s.heap.get? b=some u->h'.get? b=some u)(f:∃u,h'.get? e=some u)
  (g:bI X.prog X.w (upd H x o) h' x o):Inv X pins σ (upd H x o) { s with heap:=h',toks:=t' }:=I.un (Un.write mu c k f) (I.hok.write mu c k f g)
theorem Inv.weak(I:Inv X pins σ H s)(c:σ'.length=σ.length)(w:∀(i:Nat) v,σ'[i]?=some (some v)->σ[i]?=some (some v)):Inv X pins σ' H s :=
 ⟨I.ok,I.os,I.bare,I.base,let ⟨m,hn,Us⟩:=I.loc;⟨m,hn,fun i x v e1 e2 f=>Us i x v e1 (w i v e2) f⟩,I.cell,I.free,I.freeC,I.pin,I.hok,c.trans I.len⟩
theorem Inv.uV(I:Inv X pins σ H s)(h:∀p∈pins',s.heap.get? p.1=some p.2/\H p.1=none/\p.1≠X.env.locals/\p.1∉X.fs/\∀v,p.2.data≠.cell v):Inv X pins' σ H s :=
 ⟨I.ok,I.os,I.bare,I.base,I.loc,I.cell,I.free,I.freeC,fun p c=>(Oj.mp c).elim (fun z=>I.pin p (Oq _ z)) (h p),I.hok,I.len⟩
theorem BW{N:List Str}(c:N.Nodup){i j:Nat}{x:Str}(a:N[i]?=some x)(b:N[j]?=some x):i=j:=by
 obtain ⟨g,e1⟩:=oe.mp a
 obtain ⟨f,e2⟩:=oe.mp b
 exact (List.getElem_inj c).mp (e1.trans e2.symm)
theorem yj(I:Inv X pins σ H s)(hN:X.N.Nodup)(hi:X.N[i]?=some x)(t:Loc X.env.scope x)(r:RelV v u)
  (h:∀L,Inv X pins (σ.set i (some v)) H L->(∃a,Heap.SameBut a s.heap L.heap/\(a=X.env.locals\/X.env.cells.lookup x=some a))->Q .unit L) (hf:X.fn x=true\/X.env.scope.names.lookup x=some .local:=by first|exact .inl rfl|exact .inr rfl|assumption):wpAny M A (storeName X.env x u) Q E s:=by
 obtain ⟨m,hn,Z⟩:=id I.loc
 have XN:(X.env.scope.kind == .class || (X.env.scope.kind == .module && X.env.locals != X.env.globals))=false:=by rw[I.ok.kind];rfl
 have Vd:i<σ.length:=by rw[I.len];exact (oe.mp hi).1
 have cne:=I.cne
 have Sf:∀{a:Addr}{h':Heap},(∃o,s.heap.get? a=some o/\H a=none)->Heap.SameBut a s.heap h'->HOk X.prog X.w H h':=fun {a h'} ha f b ob e=>by
  obtain ⟨_,_,Tj⟩:=ha
  refine (I.hok b ob e).vz (fun c C g q=>(f.2 c ?_).trans q) (fun _ q=>q) fun _ _ q=>q
  rintro rfl
  rcases g with rfl|g
  .rw[Tj] at e;cases e
  .rw[Tj] at g;cases g
 rcases t with B|B
 .refine wpAny_storeName_local B hn (fun h' Xj f=>?_) XN
  obtain ⟨oL,_,_,Tg,_⟩:=id hn
  refine h _ ⟨I.ok,I.os,I.bare,⟨fun b o e n hb t=>?_,fun b o e n hb t=>?_,I.base.free,fun b o e t=>?_,I.base.tups,I.base.frzs,I.base.tbls⟩,⟨_,Xj,fun j y G e1 e2 T=>?_⟩,fun y c e=>?_,I.free,I.freeC,fun p R=>?_,Sf ⟨oL,Tg,I.free⟩ f,by simpa using I.len⟩ ⟨_,f,.inl rfl⟩
  .exact (f.2 b (OK (OA (Heap.lt_size e) I.ok.above))).trans (I.base.keep b o e n hb t)
  .obtain ⟨sl,e1⟩:=I.base.slot b o e n hb t
   exact⟨sl,(f.2 b (OK (OA (Heap.lt_size e) I.ok.above))).trans e1⟩
  .obtain ⟨P,e1⟩:=I.base.there b o e t
   exact⟨P,(f.2 b (OK (OA (Heap.lt_size e) I.ok.above))).trans e1⟩
  .by_cases hj:j=i
   .subst hj
    rw[hi] at e1;cases e1
    rw[OD Vd] at e2
    cases e2
    exact⟨u,r,.inl ⟨B,by simp⟩⟩
   .rw[Gc (OT hj)] at e2
    obtain ⟨J,O,q⟩:=Z j y G e1 e2 T
    refine⟨J,O,?_⟩
    rcases q with ⟨k,e⟩|⟨k,c,e,z⟩
    .refine .inl ⟨k,?_⟩
     have:y≠x:=fun e=>hj (BW hN e1 (e▸hi))
     simp [this,e]
    .exact .inr ⟨k,c,e,z.sameBut f (cne y c e)⟩
  .obtain ⟨C,z⟩:=I.cell y c e
   exact⟨C,z.sameBut f (cne y c e)⟩
  .obtain ⟨e,n,ne,nf,d⟩:=I.pin p R
   exact⟨(f.2 p.1 ne).trans e,n,ne,nf,d⟩
 .have U:X.fn x=true:=by
   rcases hf with z|z
   .exact z
   .rw[z] at B;cases B
  obtain ⟨c,g⟩:=I.ok.has x (.inl B)
  obtain ⟨C,z⟩:=I.cell x c g
  refine wpAny_storeName_cell I.ok.kind B g z (fun h' Sv f=>?_)
  obtain ⟨Y,YD,Xe⟩:=id z
  refine h { s with heap:=h' } ⟨I.ok,I.os,I.bare,⟨fun b o e n hb t=>?_,fun b o e n hb t=>?_,I.base.free,fun b o e t=>?_,I.base.tups,I.base.frzs,I.base.tbls⟩,⟨m,hn.sameBut f (OT (cne x c g)),fun j y G e1 e2 T=>?_⟩,fun y F e=>?_,I.free,I.freeC,fun p R=>?_,Sf ⟨Y,YD,I.freeC x c g⟩ f,by simpa using I.len⟩ ⟨c,f,.inr g⟩
  .exact (f.2 b (OK (OA (Heap.lt_size e) (I.ok.cab x c U g)))).trans (I.base.keep b o e n hb t)
  .obtain ⟨sl,e1⟩:=I.base.slot b o e n hb t
   exact⟨sl,(f.2 b (OK (OA (Heap.lt_size e) (I.ok.cab x c U g)))).trans e1⟩
  .obtain ⟨P,e1⟩:=I.base.there b o e t
   exact⟨P,(f.2 b (OK (OA (Heap.lt_size e) (I.ok.cab x c U g)))).trans e1⟩
  .by_cases hj:j=i
   .subst hj
    rw[hi] at e1;cases e1
    rw[OD Vd] at e2
    cases e2
    exact⟨u,r,.inr ⟨.inl B,c,g,Sv⟩⟩
   .rw[Gc (OT hj)] at e2
    obtain ⟨J,O,q⟩:=Z j y G e1 e2 T
    refine⟨J,O,?_⟩
    rcases q with q|⟨k,F,e,z'⟩
    .exact .inl q
    .refine .inr ⟨k,F,e,z'.sameBut f ?_⟩
     rintro rfl
     exact hj (BW hN e1 (I.ok.inj _ _ _ e g▸hi))
  .by_cases YM:F=c
   .subst YM;exact⟨_,Sv⟩
   .obtain ⟨w2,z2⟩:=I.cell y F e
    exact⟨w2,z2.sameBut f YM⟩
  .obtain ⟨e,n,ne,nf,d⟩:=I.pin p R
   refine⟨(f.2 p.1 ?_).trans e,n,ne,nf,d⟩
   intro q
   rw[q,YD] at e
   have q':Y=p.2:=OJ e
   exact d C (by rw[<- q'];exact Xe)
theorem Bo(I:Inv X pins σ H s)(j:X.N.Nodup)(hi:X.N[i]?=some x)(f:Loc X.env.scope x)(r:RelV v u)
  (h:∀c,Inv X pins (σ.set i (some v)) H c->Q .unit c) (g:X.fn x=true\/X.env.scope.names.lookup x=some .local:=by first|exact .inl rfl|exact .inr rfl|assumption):wpAny M A (storeName X.env x u) Q E s :=
 yj I j hi f r (fun c m _=>h c m) g
theorem Inv.NK(I:Inv X pins σ H s)(g:s'.os=s.os)(u:Un (frs X.stack) ch H H' s.heap s'.heap)(hok:HOk X.prog X.w H' s'.heap)(h:AllBare s'.gens)
  (hch:∀b∈ch,(b∈X.ex\/X.s₀.heap.objs.size<=b)/\b≠X.env.locals/\(∀x c,X.env.cells.lookup x=some c->c≠b)/\∀p∈X.pn++pins,p.1≠b):Inv X pins σ H' s':=by
 obtain ⟨h',g',d',t',f⟩:=s'
 have e:f=s.os:=g
 subst e
 exact I.call (g':=g') (t':=t') (d':=d') u hok h hch
end
abbrev XK:=Value->Option Addr->Hp->Prop
abbrev St:=List (Option V)
abbrev VK:=V->Hp->Prop
abbrev TE:=St->Hp->VK->Prop
abbrev TT:=St->Hp->(Bool->Hp->Prop)->Prop
abbrev TA:=St->Hp->(List V->Hp->Prop)->Prop
structure Ends where
 nx:St->Hp->Prop
 rt:VK
 bk:St->Hp->Prop:=fun _ _=>False
 ct:St->Hp->Prop:=fun _ _=>False
abbrev TS:=Ends->St->Hp->Prop
def EP(X:Cx)(c:List (Addr × Obj))(f:St)(Q:VK)(u:Value)(g:Shared):Prop:=∃v H',Inv X c f H' g/\RelV v u/\Q v H'
def TP(X:Cx)(c:List (Addr × Obj))(f:St)(Q:Bool->Hp->Prop)(b:Bool)(g:Shared):Prop:=∃H',Inv X c f H' g/\Q b H'
def AP(X:Cx)(c:List (Addr × Obj))(f:St)(Q:List V->Hp->Prop)(us:List Value)(g:Shared):Prop:=∃vs H',Inv X c f H' g/\Vals vs us/\Q vs H'
def SP(X:Cx)(c:List (Addr × Obj))(D:Ends)(f:Flow)(g:Shared):Prop :=
 match f with
 |.next=>∃σ' H',Inv X c σ' H' g/\D.nx σ' H'
 |.brk=>∃σ' H',Inv X c σ' H' g/\D.bk σ' H'
 |.cont=>∃σ' H',Inv X c σ' H' g/\D.ct σ' H'
 |.ret u=>∃v σ' H',Inv X c σ' H' g/\RelV v u/\D.rt v H'
def PE(X:Cx)(e:Expr)(t:TE):Prop :=
 ∀(c:List (Addr × Obj)) (s:Shared) (f:St) (H:Hp) (Q:VK),Inv X c f H s->t f H Q->wpAny (model X.prog X.w) X.A (eval e X.env) (EP X c f Q) X.xe s
def PT(X:Cx)(e:Expr)(t:TT):Prop :=
 ∀(c:List (Addr × Obj)) (s:Shared) (f:St) (H:Hp) (Q:Bool->Hp->Prop),Inv X c f H s->t f H Q->wpAny (model X.prog X.w) X.A (isTrue e X.env (eval e X.env)) (TP X c f Q) X.xe s
def PW(X:Cx)(e:Expr)(t:TT):Prop :=
 ∀(g:Sem Value) (c:List (Addr × Obj)) (s:Shared) (f:St) (H:Hp) (Q:Bool->Hp->Prop),Inv X c f H s->t f H Q->wpAny (model X.prog X.w) X.A (isTrue e X.env g) (TP X c f Q) X.xe s
theorem PW.pt(h:PW X e t):PT X e t:=h _
def PA(X:Cx)(es:List Expr)(t:TA):Prop :=
 ∀(pos:Pos) (c:List (Addr × Obj)) (s:Shared) (f:St) (H:Hp) (Q:List V->Hp->Prop),Inv X c f H s->t f H Q->wpAny (model X.prog X.w) X.A (spliced (backTo pos (starEach es X.env))) (AP X c f Q) X.xe s
def PS(X:Cx)(st:Stmt)(t:TS):Prop :=
 ∀(c:List (Addr × Obj)) (s:Shared) (f:St) (H:Hp) (D:Ends),Inv X c f H s->t D f H->wpAny (model X.prog X.w) X.A (exec st X.env) (SP X c D) X.xe s
def PSs(X:Cx)(st:List Stmt)(t:TS):Prop :=
 ∀(c:List (Addr × Obj)) (s:Shared) (f:St) (H:Hp) (D:Ends),Inv X c f H s->t D f H->wpAny (model X.prog X.w) X.A (execs st X.env) (SP X c D) X.xe s
theorem thn{c:Type}{t:Sem c}{Q f:c->Shared->Prop}{M:Model}{A:Around}{E:Value->Shared->Prop}{s:Shared}(h:wpAny M A t Q E s)(g:∀a s,Q a s->f a s):wpAny M A t f E s:=wpAny_mono h g fun _ _ x=>x
section
variable {X:Cx}
def bR(i:Nat):TE:=fun c H Q=>∃v,c[i]?=some (some v)/\Q v H
def tC(v:V):TE:=fun _ H Q=>Q v H
theorem Mf(y:X.N[i]?=some x)(q:Vis X.env.scope x)(hd:(x == ("__debug__" : Str))=false:=by decide)(z:(x == ("__classdict__" : Str))=false:=by decide):PE X (.Name x pos) (bR i):=by
 intro g s p H Q I h
 obtain ⟨v,e,h⟩:=h
 obtain ⟨m,hn,t⟩:=I.loc
 obtain ⟨u,r,l⟩:=t i x v y e q
 have j:EP X g p Q u s:=⟨v,H,I,r,h⟩
 rcases l with ⟨f,hm⟩|⟨f,c,n,o⟩
 .exact wpAny_Name (wpAny_loadName_local I.ok.kind f hn hm j) hd
 .rcases f with f|f
  .exact wpAny_Name (wpAny_loadName_cell I.ok.kind f n o j) hd
  .exact wpAny_Name (wpAny_loadName_free I.ok.kind f n o j z) hd
theorem ai:PE X (.Constant (.int i) j pos) (tC (.int i)):=fun _ _ _ H _ I h=>wpAny_Constant_int ⟨.int i,H,I.tok _,⟨_,rfl⟩,h⟩
theorem iZ:PE X (.Constant (.bool b) j pos) (tC (.bl b)):=fun _ _ _ H _ I h=>Constant_bool ⟨.bl b,H,I,rfl,h⟩
theorem fC:PE X (.Constant .none j pos) (tC .non):=fun _ _ _ H _ I h=>Constant_none ⟨.non,H,I,rfl,h⟩
theorem dP:PE X (.Constant (.str x) j pos) (tC (.str x)):=fun _ _ _ H _ I h=>Calls.Constant_str ⟨.str x,H,I.tok _,⟨_,rfl⟩,h⟩
def Gl(X:Cx)(x:Str):Prop:=X.env.kindOf x=some .globalImplicit
theorem zu(I:Inv X pins σ H s)(c:Gl X x)(hm:X.mg x=some u)(h:Q u s)
  (hd:(x == ("__debug__" : Str))=false:=by decide):wpAny (model X.prog X.w) X.A (eval (.Name x pos) X.env) Q E s :=
 Calls.Name_function_global I.ok.kind c (Calls.loadGlobal_global (by rw[I.ok.glob];exact I.mod.glob.keeps I.bk) hm h) hd
theorem hX(I:Inv X pins σ H s)(f:Gl X x)(hm:X.mg x=none)(c:bootBuiltins x=some u)(h:Q u s)
  (hn:x≠"__name__":=by decide) (hd:(x == ("__debug__" : Str))=false:=by decide):wpAny (model X.prog X.w) X.A (eval (.Name x pos) X.env) Q E s:=by
 obtain ⟨j,i,g⟩:=I.mod.blt
 exact Calls.Name_function_global I.ok.kind f (Calls.loadGlobal_builtin (by rw[I.ok.glob];exact I.mod.glob.keeps I.bk) hm (by rw[I.ok.blt];exact i.keeps I.bk) ((g x hn).trans c) h) hd
theorem Er(c:Gl X x)(hm:X.mg x=some u)(r:RelV v u)(hd:(x == ("__debug__" : Str))=false:=by decide):PE X (.Name x pos) (tC v) :=
 fun _ _ _ H _ I h=>zu I c hm ⟨v,H,I,r,h⟩ hd
theorem kg(f:Gl X x)(hm:X.mg x=none)(c:bootBuiltins x=some u)(r:RelV v u)(hn:x≠"__name__":=by decide)(hd:(x == ("__debug__" : Str))=false:=by decide):PE X (.Name x pos) (tC v) :=
 fun _ _ _ H _ I h=>hX I f hm c ⟨v,H,I,r,h⟩ hn hd
variable {a b:Expr}{ta tb:TE}{pos:Pos}
def PC(X:Cx)(op:CmpOp)(a b:Expr)(t:TE):Prop :=
 ∀(c:List (Addr × Obj)) (s:Shared) (g:St) (H:Hp) (Q:VK),Inv X c g H s->t g H Q ->
  wpAny (model X.prog X.w) X.A (eval a X.env) (fun v f=>wpAny (model X.prog X.w) X.A (eval b X.env) (fun u h=>wpAny (model X.prog X.w) X.A (compareOp op v u) (EP X c g Q) X.xe h) X.xe f) X.xe s
def tB(t:TE):TT:=fun f H Q=>t f H fun x g=>∃c,x=.bl c/\Q c g
theorem MI(h:PC X op a b t)(g:behindInMarks op b=false:=by first|exact nobehind _ nofun nofun|rfl):PT X (.Compare a [op] [b] pos) (tB t):=by
 intro f s i H Q I hw
 refine wpAny_isTrue_Compare1 (thn (h f s i H _ I hw) fun v z g=>thn g fun u y n=>thn n fun c r ⟨x,p,o,j,m⟩=>?_) g
 obtain ⟨d,rfl,q⟩:=m
 cases j
 exact wpAny_truthy_bool ⟨p,o,q⟩
theorem cJ(h:PE X e t)(m:∀f,isTrue e X.env f=(do let v <- f;standAt e.pos;holding [v] (truthy v)):=by intro _;rfl):PT X e (tB t):=by
 intro c s g H Q I hw
 refine isTrue_plain (thn (h c s g H _ I hw) fun v p ⟨x,o,n,i,j⟩=>?_) (m _)
 obtain ⟨d,rfl,q⟩:=j
 cases i
 exact wpAny_truthy_bool ⟨o,n,q⟩
variable {tA VI:TT}{rest:List Expr}
def ND(t u:TT):TT:=fun f H Q=>t f H fun c g=>if c=true then u f g Q else Q false g
def tOr(t u:TT):TT:=fun f H Q=>t f H fun c g=>if c=true then Q true g else u f g Q
def N7(t:TT):TT:=fun f H Q=>t f H fun c g=>Q (!c) g
theorem uT(ha:PT X a tA):PW X (.BoolOp .And [a] pos) tA:=by
 intro i f s g H Q I h
 refine isTrue_and (thn (ha f s g H Q I h) fun c j e=>?_)
 cases c with
 |true=>exact isTrue_and_nil e
 |false=>exact e
theorem eA(ha:PT X a tA):PW X (.BoolOp .Or [a] pos) tA:=by
 intro i f s g H Q I h
 refine isTrue_or (thn (ha f s g H Q I h) fun c j e=>?_)
 cases c with
 |false=>exact isTrue_or_nil e
 |true=>exact e
theorem Ae(ha:PT X a tA)(hb:PW X (.BoolOp .And (b::rest) pos) VI):PW X (.BoolOp .And (a::b::rest) pos) (ND tA VI):=by
 intro n f s g H Q I h
 refine isTrue_and (thn (ha f s g H _ I h) fun c o ⟨m,j,i⟩=>?_)
 cases c with
 |true=>exact hb n f o g m Q j i
 |false=>exact⟨m,j,i⟩
theorem fE(ha:PT X a tA)(hb:PW X (.BoolOp .Or (b::rest) pos) VI):PW X (.BoolOp .Or (a::b::rest) pos) (tOr tA VI):=by
 intro n f s g H Q I h
 refine isTrue_or (thn (ha f s g H _ I h) fun c o ⟨m,j,i⟩=>?_)
 cases c with
 |true=>exact⟨m,j,i⟩
 |false=>exact hb n f o g m Q j i
theorem dm(ha:PT X a tA):PT X (.UnaryOp .Not a pos) (N7 tA):=by
 intro f s g H Q I h
 exact isTrue_not (ha f s g H (fun c i=>Q (!c) i) I h)
def Li(h tb:TE):TE:=fun f H Q=>h f H fun x g=>∃c,x=.bl c/\if c=true then tb f g Q else Q (.bl false) g
def Le(g:TE):TE:=fun f H Q=>g f H fun x h=>∃c,x=.bl c/\Q (.bl (!c)) h
theorem vt(h:PE X a t):PE X (.BoolOp op [a] pos) t:=fun c s f H Q I hw=>BoolOp_one (h c s f H Q I hw)
theorem pG(ha:PE X a ta)(hb:PE X (.BoolOp .And (b::rest) pos) tb):PE X (.BoolOp .And (a::b::rest) pos) (Li ta tb):=by
 intro f s i H Q I h
 refine BoolOp_and (thn (ha f s i H _ I h) fun v n ⟨x,m,j,o,g⟩=>?_)
 obtain ⟨c,rfl,g⟩:=g
 cases o
 refine wpAny_truthy_bool ?_
 cases c with
 |true=>exact hb f n i m Q j g
 |false=>exact⟨.bl false,m,j,rfl,g⟩
theorem HH(ha:PE X a ta):PE X (.UnaryOp .Not a pos) (Le ta):=by
 intro f s i H Q I h
 refine UnaryOp_ (thn (ha f s i H _ I h) fun v o ⟨x,n,m,j,g⟩=>?_)
 obtain ⟨c,rfl,g⟩:=g
 cases j
 exact not_of (wpAny_truthy_bool ⟨.bl (!c),n,m,rfl,g⟩)
def tIf(t:TT)(h tb:TE):TE:=fun f H Q=>t f H fun c g=>if c=true then h f g Q else tb f g Q
theorem vG(o:PT X c tA)(ha:PE X a ta)(hb:PE X b tb):PE X (.IfExp c a b pos) (tIf tA ta tb):=by
 intro f s g H Q I h
 refine wpAny_IfExp (thn (o f s g H _ I h) fun d i ⟨n,m,j⟩=>?_)
 cases d with
 |true=>exact ha f i g n Q m j
 |false=>exact hb f i g n Q m j
end
def SqL(K:aae)(H:Hp)(a:Addr)(xs:List V):Prop :=
 Rd H a (.lst xs) \/
  ∃(o:Obj) (c:Array Value) (n:Nat),K.lookup a=some o/\o.cls=.type "list"/\o.dict=none/\o.data=.seq c n/\c.size<=sizeLine/\Vals xs c.toList
def SqT(K:aae)(H:Hp)(a:Addr)(xs:List V):Prop :=
 Rd H a (.tup xs) \/
  ∃(o:Obj) (c:Array Value) (n:Nat),K.lookup a=some o/\o.cls=.type "tuple"/\o.data=.seq c n/\c.size<=sizeLine/\Vals xs c.toList
def Of:Value->Option V
 |.none=>some .non
 |.bool b=>some (.bl b)
 |.int i _=>some (.int i)
 |.str x _=>some (.str x)
 |.bytes b _=>some (.byt b)
 |.float b _=>some (.flt b)
 |.ref a=>some (.ref a)
 |.type n=>some (.ty n)
 |_=>none
theorem RelV.abs(r:RelV x u):Of u=some x:=by
 cases x with
 |non=>cases r;rfl
 |bl _=>cases r;rfl
 |int _=>obtain ⟨t,rfl⟩:=r;rfl
 |str _=>obtain ⟨t,rfl⟩:=r;rfl
 |byt _=>obtain ⟨t,rfl⟩:=r;rfl
 |flt _=>obtain ⟨t,rfl⟩:=r;rfl
 |ref _=>cases r;rfl
 |ty _=>cases r;rfl
theorem RelV.inj(r:RelV x u)(q:RelV y u):x=y:=OJ (r.abs.symm.trans q.abs)
theorem Vals.inj:∀{xs ys:List V}{us:List Value},Vals xs us->Vals ys us->xs=ys
 |_,_,_,.nil,.nil=>rfl
 |_,_,_,.cons r t,.cons c t'=>by rw[r.inj c,Vals.inj t t']
section
variable {X:Cx}{pins:List (Addr × Obj)}{σ:St}{H:Hp}{s:Shared}{a:Addr}{xs ys:List V}
theorem SqL.of{K:aae}(h:H a=some (.lst xs)):SqL K H a xs:=.inl (.inl h)
theorem SqT.of{K:aae}(h:H a=some (.tup xs)):SqT K H a xs:=.inl (.inl h)
theorem Inv.list(I:Inv X pins σ H s)(h:SqL X.K H a xs):∃c:List Value,Vals xs c/\PlainL s.heap a c.toArray/\xs.length<=sizeLine:=by
 rcases h with h|⟨o,c,n,g,i,hd,f,j,r⟩
 .obtain ⟨z,c,n,r,e⟩:=h.ok I.hok
  exact⟨c,r,⟨_,n,e,rfl,rfl,rfl⟩,z⟩
 .refine⟨c.toList,r,⟨o,n,I.kIn a o g,i,hd,by simpa using f⟩,?_⟩
  have e:=r.length
  simp only[OX] at e
  omega
theorem Inv.tuple(I:Inv X pins σ H s)(h:SqT X.K H a xs):∃c:List Value,Vals xs c/\IsTup s.heap a c.toArray/\xs.length<=sizeLine:=by
 rcases h with h|⟨o,c,n,g,i,f,j,r⟩
 .obtain ⟨z,c,r,p⟩:=h.ok I.hok
  exact⟨c,r,p,z⟩
 .refine⟨c.toList,r,⟨o,I.kIn a o g,i,n,by simpa using f⟩,?_⟩
  have e:=r.length
  simp only[OX] at e
  omega
theorem Inv.ve(I:Inv X pins σ H s)(h:SqL X.K H a xs)(h':SqL X.K H a ys):xs=ys:=by
 obtain ⟨g,r,⟨o,n,e,_,_,d⟩,_⟩:=I.list h
 obtain ⟨its',f,⟨i,j,c,_,_,d'⟩,_⟩:=I.list h'
 rw[e] at c;cases c
 rw[d] at d'
 injection d' with d1 _
 have:g=its':=by simpa using congrArg Array.toList d1
 subst this
 exact r.inj f
theorem Inv.GC(I:Inv X pins σ H s)(h:SqT X.K H a xs)(h':SqT X.K H a ys):xs=ys:=by
 obtain ⟨g,r,⟨o,e,_,n,d⟩,_⟩:=I.tuple h
 obtain ⟨its',f,⟨i,c,_,j,d'⟩,_⟩:=I.tuple h'
 rw[e] at c;cases c
 rw[d] at d'
 injection d' with d1 _
 have:g=its':=by simpa using congrArg Array.toList d1
 subst this
 exact r.inj f
end
abbrev Cx.xN(X:Cx)(E:Value->Shared->Prop):Cx:={ X with xe:=E }
abbrev Cx.nox(X:Cx):Cx:=X.xN fun _ _=>False
theorem Cx.Ok.xN{X:Cx}(ok:X.Ok)(E:Value->Shared->Prop):(X.xN E).Ok :=
 ⟨ok.mod,ok.kind,ok.glob,ok.blt,ok.above,ok.inj,ok.has,ok.cab,ok.hd,ok.frames,ok.stk,ok.exf,ok.bs,ok.bsz,ok.noex,ok.exfs,ok.uw,ok.frf⟩
theorem Cx.Ok.ni{X:Cx}{E:Value->Shared->Prop}(ok:(X.xN E).Ok):X.Ok :=
 ⟨ok.mod,ok.kind,ok.glob,ok.blt,ok.above,ok.inj,ok.has,ok.cab,ok.hd,ok.frames,ok.stk,ok.exf,ok.bs,ok.bsz,ok.noex,ok.exfs,ok.uw,ok.frf⟩
section
variable {X:Cx}{pins:List (Addr × Obj)}{σ:St}{H:Hp}{s:Shared}{E:Value->Shared->Prop}
theorem Inv.xN(I:Inv X pins σ H s)(E:Value->Shared->Prop):Inv (X.xN E) pins σ H s:=⟨I.ok.xN E,I.os,I.bare,I.base,I.loc,I.cell,I.free,I.freeC,I.pin,I.hok,I.len⟩
theorem Inv.ni(I:Inv (X.xN E) pins σ H s):Inv X pins σ H s:=⟨I.ok.ni,I.os,I.bare,I.base,I.loc,I.cell,I.free,I.freeC,I.pin,I.hok,I.len⟩
theorem SP.ni(h:SP (X.xN E) pins D f s'):SP X pins D f s':=by
 cases f with
 |next=>obtain ⟨σ',H',I,q⟩:=h;exact⟨σ',H',I.ni,q⟩
 |brk=>obtain ⟨σ',H',I,q⟩:=h;exact⟨σ',H',I.ni,q⟩
 |cont=>obtain ⟨σ',H',I,q⟩:=h;exact⟨σ',H',I.ni,q⟩
 |ret u=>obtain ⟨v,σ',H',I,r,q⟩:=h;exact⟨v,σ',H',I.ni,r,q⟩
theorem PSs.nox{st:List Stmt}{t:TS}(h:PSs X.nox st t):PSs X st t:=fun pins s σ H D I hw =>
 wpAny_mono (h pins s σ H D (I.xN _) hw) (fun _ _ q=>q.ni) fun _ _ z=>False.elim z
end
section
variable {X:Cx}{st:Stmt}{rest:List Stmt}{t u:TS}{e:Expr}{te:TE}{pos:Pos}
def Hr:TS:=fun D c H=>D.nx c H
def zt(t u:TS):TS:=fun D c H=>t { D with nx:=u D } c H
theorem aE:PSs X [] Hr:=fun _ _ c H _ I h=>wpAny_execs_nil ⟨c,H,I,h⟩
theorem aa(m:PS X st t)(j:PSs X rest u):PSs X (st::rest) (zt t u):=by
 intro c s g H D I h
 refine wpAny_execs_cons (thn (m c s g H { D with nx:=u D } I h) fun f i q=>?_)
 cases f with
 |next =>
  obtain ⟨σ',H',n,q⟩:=q
  exact j c i σ' H' D n q
 |ret v=>exact q
 |brk=>exact q
 |cont=>exact q
theorem aA(i:PS X st t):PSs X [st] t:=by
 intro c s g H D I h
 refine wpAny_execs_cons (thn (i c s g H D I h) fun f j q=>?_)
 cases f with
 |next=>exact wpAny_execs_nil q
 |ret v=>exact q
 |brk=>exact q
 |cont=>exact q
theorem Inv.quiet(I:Inv X pins σ H s):interactive X.env=false:=by simp [interactive,I.ok.kind]
def yR(f:TE):TS:=fun D c H=>f c H fun _ g=>D.nx c g
theorem cy(j:PE X e te)(i:swapsWith e none pos.line X.env=pure false:=by rfl):PS X (.Expr e pos) (yR te):=by
 intro c s f H D I h
 exact wpAny_Expr_any (thn (j c s f H _ I h) fun v o ⟨x,n,m,p,g⟩=>⟨f,n,m,g⟩) I.quiet i
def C0(f:TE):TS:=fun D c H=>f c H D.rt
theorem Mj(j:PE X e te):PS X (.Return (some e) pos) (C0 te):=by
 intro c s f H D I h
 exact wpAny_Return_some (thn (j c s f H _ I h) fun v o ⟨x,n,m,g,i⟩=>⟨x,f,n,m,g,i⟩)
def L1(c:TT)(t u:TS):TS:=fun D f H=>c f H fun b g=>if b=true then t D f g else u D f g
theorem bc(o:PT X c tc)(ha:PSs X a t)(hb:PSs X b u):PS X (.If c a b pos) (L1 tc t u):=by
 intro f s g H D I h
 refine wpAny_If (thn (o f s g H _ I h) fun d i ⟨n,m,j⟩=>?_)
 cases d with
 |true=>exact ha f i g n D m j
 |false=>exact hb f i g n D m j
def Mc:TS:=fun _ _ _=>False
theorem jL:PS X st Mc:=fun _ _ _ _ _ _ h=>h.elim
end
abbrev TG:=V->St->Hp->(St->Hp->Prop)->Prop
abbrev TGs:=List V->St->Hp->(St->Hp->Prop)->Prop
def PG(X:Cx)(h:Expr)(t:TG):Prop :=
 ∀(c:List (Addr × Obj)) (s:Shared) (f:St) (H:Hp) (v:V) (u:Value) (Q:St->Hp->Prop),Inv X c f H s->RelV v u->t v f H Q ->
  wpAny (model X.prog X.w) X.A (assign h X.env u) (fun _ g=>∃σ' H',Inv X c σ' H' g/\Q σ' H') X.xe s
def PGs(X:Cx)(g:List Expr)(t:TGs):Prop :=
 ∀(c:List (Addr × Obj)) (s:Shared) (f:St) (H:Hp) (vs:List V) (us:List Value) (Q:St->Hp->Prop),Inv X c f H s->Vals vs us->t vs f H Q ->
  wpAny (model X.prog X.w) X.A (assignInOrder ((assignEach g X.env).map (·.2)) us) (fun _ h=>∃σ' H',Inv X c σ' H' h/\Q σ' H') X.xe s
abbrev Mx:=V->V->V->Hp->(Hp->Prop)->Prop
def M4(X:Cx)(t:Mx):Prop :=
 ∀(c:List (Addr × Obj)) (s:Shared) (f:St) (H:Hp) (o i v:V) (g h u:Value) (Q:Hp->Prop),Inv X c f H s->RelV o g->RelV i h->RelV v u->t o i v H Q ->
  wpAny (model X.prog X.w) X.A (setItem g h u) (fun _ j=>∃H',Inv X c f H' j/\Q H') X.xe s
section
variable {X:Cx}{pos:Pos}
def dZ(i:Nat):TG:=fun v c H Q=>Q (c.set i (some v)) H
theorem bT(j:X.N.Nodup)(hi:X.N[i]?=some x)(f:Loc X.env.scope x)(g:X.fn x=true\/X.env.scope.names.lookup x=some .local:=by first|exact .inl rfl|exact .inr rfl|assumption):PG X (.Name x pos) (dZ i):=by
 intro c s n H v u Q I r h
 exact wpAny_assign_Name (Bo I j hi f r (fun o m=>⟨_,H,m,h⟩) g)
def Mp:TGs:=fun vs c H Q=>vs=[]/\Q c H
def HF(t:TG)(u:TGs):TGs:=fun vs c H Q=>∃v r,vs=v::r/\t v c H fun σ' H'=>u r σ' H' Q
theorem zY:PGs X [] Mp:=by
 intro c s f H vs us Q I r h
 obtain ⟨e,h⟩:=h
 subst e
 cases r
 exact assignInOrder_nil ⟨f,H,I,h⟩
theorem eO(o:PG X e t)(n:PGs X es u)
  (m:(assignEach (e::es) X.env).map (·.2)=assign e X.env::(assignEach es X.env).map (·.2):=by rfl):PGs X (e::es) (HF t u):=by
 intro c s f H vs us Q I r h
 obtain ⟨v,y,e1,h⟩:=h
 subst e1
 cases r with
 |cons r i =>
  rw[m]
  refine assignInOrder_cons (thn (o c s f H _ _ _ I r h) fun _ g ⟨p,x,q,j⟩=>?_)
  exact n c g p x _ _ Q q i j
def J4(K:aae)(n:Nat)(t:TGs):TG:=fun v c H Q=>∃a xs,v=.ref a/\SqT K H a xs/\xs.length=n/\t xs c H Q
theorem Mi(m:X.calm=true)(h:PGs X es t)
  (hn:(assignEach es X.env).length=n:=by rfl) (p:(assignEach es X.env).findIdx? (·.1)=none:=by rfl):PG X (.Tuple es k pos) (J4 X.K n t):=by
 intro c s f H v u Q I r hw
 obtain ⟨a,xs,e1,i,j,hw⟩:=hw
 subst e1
 cases r
 obtain ⟨y,rv,ht,x⟩:=I.tuple i
 refine assign_Tuple_tuple (I.ok.hd m) ht (by simp [hn,<- j,rv.length]) p fun h' g=>?_
 have q:Inv X c f H { s with heap:=h' }:=I.kept (t':=s.toks) fun b o e=>g b o (OK (Heap.lt_size e)) e
 exact h c _ f H xs _ Q q (by simpa using rv) hw
def BE(f ti:TE)(t:Mx):TG:=fun v c H Q=>f c H fun o j=>ti c j fun i h=>t o i v h fun g=>Q c g
theorem jT(C:PE X o to)(hi:PE X i ti)(B:M4 X t)
  (ha:∀v,assign (.Subscript o i pos) X.env v=(do
   let f <- holding [v] (eval o X.env)
   let g <- holding [v,f] (eval i X.env)
   standAt pos
   holding [v,f,g] (setItem f g v)
   release [v,f,g] []):=by intro _;rfl):PG X (.Subscript o i pos) (BE to ti t):=by
 intro c s j H v u Q I r h
 rw[ha]
 refine wpAny_bind (wpAny_holding (thn (C c s j H _ I h) fun f n ⟨x,M,G,q,z⟩=>?_))
 refine wpAny_bind (wpAny_holding (thn (hi c n j M _ G z) fun g m ⟨y,L,F,p,q2⟩=>?_))
 refine wpAny_bind (wpAny_standAt (wpAny_bind (wpAny_holding (thn (B c m j L x y v f g u _ F q p r q2) fun _ O ⟨J,E,q3⟩=>?_))))
 exact wpAny_release ⟨j,J,E,q3⟩
def j3(f:TE)(g:TG):TS:=fun D c H=>f c H fun x h=>g x c h D.nx
theorem gW(p:PE X e te)(o:PG X tg g)(n:swapsWithSole [tg] e pos.line X.env=pure false:=by rfl)(hw:swappedStores [tg] e X.env=pure none:=by rfl)
  (r:(assignEach [tg] X.env).map (·.2)=[assign tg X.env]:=by rfl):PS X (.Assign [tg] e pos) (j3 te g):=by
 intro c s f H D I h
 refine wpAny_Assign_stores (thn (p c s f H _ I h) fun v i ⟨x,u,t,j,m⟩=>?_) n hw
 rw[r]
 exact thn (o c i f u x v _ t j m) fun _ y q=>q
theorem LY(q:X.N.Nodup)(hi:X.N[i]?=some x)(m:Loc X.env.scope x)(p:PE X e te)(n:swapsWith e (some (.Name x QQ)) pos.line X.env=pure false:=by rfl)(o:X.fn x=true\/X.env.scope.names.lookup x=some .local:=by first|exact .inl rfl|exact .inr rfl|assumption) :
  PS X (.Assign [.Name x QQ] e pos) (j3 te (dZ i)):=by
 intro c s f H D I h
 refine wpAny_Assign_Name (thn (p c s f H _ I h) fun v B ⟨y,u,t,g,j⟩=>?_) n
 exact Bo t q hi m g (fun z r=>⟨_,u,r,j⟩) o
def HD(c:TT)(tb:TS):TS:=fun D f H=>∃W:Nat->St->Hp->Prop,(∃m,W m f H)/\∀m f H,W m f H ->
 c f H fun b h=>if b=true then ∃N:St->Hp->Prop,(∀σ' H',N σ' H'->∃g,g < m/\W g σ' H')/\tb { D with nx:=N,ct:=N,bk:=D.nx } f h else D.nx f h
theorem nU(t:PassesOwn (model X.prog X.w) X.A X.env X.xe)(M:PT X c tc)(hb:PSs X Rl tb):PS X (.While c Rl [] pos) (HD tc tb):=by
 intro g s B H D I h
 obtain ⟨W,⟨L,E⟩,O⟩:=h
 refine wpAny_While (codeAny_whileLoop (fun n J=>∃σ' H',Inv X g σ' H' J/\W n σ' H') ?_ L ⟨B,H,I,E⟩)
 rintro n G ⟨m,z,P,C⟩
 refine wpAny_passesOwn t (thn (M g G m z _ P (O n m z C)) fun b F ⟨y,x,q2⟩=>?_)
 cases b with
 |true =>
  obtain ⟨N,u,q2⟩:=q2
  rw[if_pos rfl]
  refine wpAny_passesOwn t (thn (hb g F m y _ x q2) fun f Q q3=>?_)
  cases f with
  |next =>
   obtain ⟨i,j,r,p⟩:=q3
   obtain ⟨q,hm,o⟩:=u i j p
   exact⟨q,hm,i,j,r,o⟩
  |cont =>
   obtain ⟨i,j,r,p⟩:=q3
   obtain ⟨q,hm,o⟩:=u i j p
   exact⟨q,hm,i,j,r,o⟩
  |brk=>exact q3
  |ret v=>exact q3
 |false =>
  rw[if_neg Oz]
  exact wpAny_execs_nil ⟨m,y,x,q2⟩
end
structure It where
 go:Nat->Hp->Prop
 yld:Nat->Hp->V->Hp->Prop
 stop:Nat->Hp->Prop
def vD(X:Cx)(f:List (Addr × Obj))(H:Hp)(b:Addr):Prop :=
 H b=none/\b≠X.env.locals/\b∉X.fs/\(b∈X.ex\/X.s₀.heap.objs.size<=b)/\(∀x c,X.env.cells.lookup x=some c->c≠b)/\∀p∈X.pn++f,p.1≠b
theorem Inv.JE(I:Inv X pins σ H s)(hb:s.heap.objs.size<=b)(hn:H' b=none):vD X pins H' b:=by
 refine⟨hn,Nat.ne_of_gt (OA I.lt hb),I.Ni hb,.inr (OC I.sz hb),fun x c e z=>?_,fun p f z=>?_⟩
 .obtain ⟨v,q⟩:=I.cell x c e
  exact absurd (OA q.lt (by rw[z];exact hb)) (O6 _)
 .exact absurd (OA (Heap.lt_size (I.pin p f).1) (by rw[z];exact hb)) (O6 _)
structure Turn(P:Program)(w:World)(K:aae)(tg:Expr)(J:It)(fp:List Addr)(it:Addr)(tn:Nat->Heap->Prop):Prop where
 mem:it∈fp
 obj:∀i h,tn i h->∀b∈fp,∃o,h.get? b=some o/\∀v,o.data≠.cell v
 keep:∀i h h',tn i h->(∀b∈fp,∀o,h.get? b=some o->h'.get? b=some o)->tn i h'
 item:∀(X:Cx),X.prog=P->X.w=w->X.K=K->X.calm=true->∀(i:Nat) (pins:List (Addr × Obj)) (s:Shared) (σ:St) (H:Hp) (E:Value->Shared->Prop),Inv X pins σ H s->(∀b∈fp,vD X pins H b)->tn i s.heap->J.go i H ->
  wpAny (model P w) X.A (pyNext (.ref it)) (fun r s1=>∃u,r=some u /\
   wpAny (model P w) X.A (letOwnedTupleGo tg (.ref it) u) (fun _ s2=>∃x H',Inv X pins σ H' s2/\RelV x u/\J.yld i H x H'/\tn (i+1) s2.heap/\∀b∈fp,H' b=none) E s1) E s
 done:∀(X:Cx),X.prog=P->X.w=w->X.K=K->X.calm=true->∀(i:Nat) (pins:List (Addr × Obj)) (s:Shared) (σ:St) (H:Hp) (E:Value->Shared->Prop),Inv X pins σ H s->(∀b∈fp,vD X pins H b)->tn i s.heap->J.stop i H ->
  wpAny (model P w) X.A (pyNext (.ref it)) (fun r s1=>r=none/\Inv X pins σ H s1) E s
 self:∀(A:Around) (i:Nat) (s:Shared) (Q:Value->Shared->Prop) (E:Value->Shared->Prop),tn i s.heap->Q (.ref it) s->wpAny (model P w) A (pyIter (.ref it)) Q E s
abbrev TI:=St->Hp->(It->Hp->Prop)->Prop
def PIE(X:Cx)(c:List (Addr × Obj))(g:St)(h:Expr)(R:It->Hp->Prop)(i:Value)(f:Shared):Prop :=
 ∃(it:Addr) (fp:List Addr) (tn:Nat->Heap->Prop) (J:It) (H':Hp),i=.ref it/\Inv X c g H' f/\Turn X.prog X.w X.K h J fp it tn/\tn 0 f.heap/\(∀b∈fp,vD X c H' b)/\R J H'
def PI(X:Cx)(h iter:Expr)(g:TI):Prop :=
 ∀(c:List (Addr × Obj)) (s:Shared) (f:St) (H:Hp) (R:It->Hp->Prop),Inv X c f H s->g f H R ->
  wpAny (model X.prog X.w) X.A (eval iter X.env) (fun v i=>wpAny (model X.prog X.w) X.A (pyIter v) (PIE X c f h R) X.xe i) X.xe s
theorem Jh(f:s.heap.get? it=some o)(g:o.cls=.type n)(hd:o.data=.fields vs)
  (hn:["enumerate","zip","dict_itemiterator","dict_reverseitemiterator","odict_iterator","itertools.zip_longest","itertools.pairwise"].contains n=false) (c:Q .unit s):wpAny M A (letOwnedTupleGo tg (.ref it) u) Q E s:=by
 unfold letOwnedTupleGo
 cases tg<;>first
  |exact wpAny_pure c
  |(cases u<;>first
    |exact wpAny_pure c
    |(refine wpAny_bind (wpAny_load f ?_)
      rw[g,hd]
      show wpAny M A (if (["enumerate","zip","dict_itemiterator","dict_reverseitemiterator","odict_iterator","itertools.zip_longest","itertools.pairwise"].contains n && vs[0]? == some (rawInt _))=true then _ else _) Q E s
      rw[if_neg (by intro h;rw[hn,Bool.false_and] at h;cases h)]
      exact wpAny_pure c))
def Itl(K:aae)(a:Addr):It :=
 ⟨fun i H=>∃xs x,SqL K H a xs/\xs[i]?=some x,fun i H x H'=>H'=H/\∀xs,SqL K H a xs->xs[i]?=some x,fun i H=>∃xs,SqL K H a xs/\xs.length<=i⟩
def Itt(K:aae)(a:Addr):It :=
 ⟨fun i H=>∃xs x,SqT K H a xs/\xs[i]?=some x,fun i H x H'=>H'=H/\∀xs,SqT K H a xs->xs[i]?=some x,fun i H=>∃xs,SqT K H a xs/\xs.length<=i⟩
def Itr(lo:Int)(n:Nat):It:=⟨fun i _=>i<n,fun i H x H'=>H'=H/\x=.int (lo+i),fun i _=>n<=i⟩
theorem FY{P:Program}{w:World}{K:aae}{M:Expr}(a it:Addr):Turn P w K M (Itl K a) [it] it (fun i h=>h.IsListIter it a i) where
 mem:=by simp
 obj:=fun i h st b hb=>by
  have e:b=it:=by simpa using hb
  subst e
  obtain ⟨o,e,c,d⟩:=st
  exact⟨o,e,fun v z=>by rw[d] at z;cases z⟩
 keep:=fun i h h' st k=>st.at fun o e=>k it (by simp) o e
 item:=by
  intro X q hw r J i f s G H E I j st n
  subst q hw r
  obtain ⟨xs,x,g,m⟩:=n
  obtain ⟨OQ,rv,p,R⟩:=I.list g
  obtain ⟨u,U,Q⟩:=rv.get m
  obtain ⟨F,C,Y,B,y,t⟩:=j it (by simp)
  refine wpAny_pyNext_list_item st p.isList (x:=u) (by simpa using U) fun h' L O=>?_
  have I1:Inv X f G H { s with heap:=h' }:=I.turned (t':=s.toks) (fun b o hb e=>(O.2 b hb).trans e) F C B y t
  obtain ⟨o,e,c,d⟩:=id L
  exact⟨u,rfl,Jh (s:={ s with heap:=h' }) e c d nofun ⟨x,H,I1,Q,⟨rfl,fun ys T=>by rw[I.ve T g];exact m⟩,L,fun b hb=>(j b hb).1⟩⟩
 done:=by
  intro X q hw r J i f s G H E I j st n
  subst q hw r
  obtain ⟨xs,g,m⟩:=n
  obtain ⟨OQ,rv,p,R⟩:=I.list g
  obtain ⟨F,C,Y,B,y,t⟩:=j it (by simp)
  have hl:=rv.length
  exact wpAny_pyNext_list_end (I.ok.hd J) st p.isList (by simp;omega) fun h' Z=>⟨rfl,I.turned (t':=s.toks) (fun b o hb e=>Z b o hb e) F C B y t⟩
 self:=fun _ _ _ _ _ st h=>wpAny_pyIter_listiter st h
theorem CT{P:Program}{w:World}{K:aae}{O:Expr}(a it:Addr):Turn P w K O (Itt K a) [it] it (fun i h=>h.IsTupleIter it a i) where
 mem:=by simp
 obj:=fun i h st b hb=>by
  have e:b=it:=by simpa using hb
  subst e
  obtain ⟨o,e,c,d⟩:=st
  exact⟨o,e,fun v z=>by rw[d] at z;cases z⟩
 keep:=fun i h h' st k=>st.at fun o e=>k it (by simp) o e
 item:=by
  intro X q hw r L i f s J H E I j st n
  subst q hw r
  obtain ⟨xs,x,g,m⟩:=n
  obtain ⟨G,rv,p,T⟩:=I.tuple g
  obtain ⟨u,Y,R⟩:=rv.get m
  obtain ⟨F,C,Z,B,y,t⟩:=j it (by simp)
  refine wpAny_pyNext_tuple_item st (show s.heap.IsTuple a G.toArray from p) (x:=u) (by simpa using Y) fun h' M Q=>?_
  have I1:Inv X f J H { s with heap:=h' }:=I.turned (t':=s.toks) (fun b o hb e=>(Q.2 b hb).trans e) F C B y t
  obtain ⟨o,e,c,d⟩:=id M
  exact⟨u,rfl,Jh (s:={ s with heap:=h' }) e c d nofun ⟨x,H,I1,R,⟨rfl,fun ys U=>by rw[I.GC U g];exact m⟩,M,fun b hb=>(j b hb).1⟩⟩
 done:=by
  intro X q hw r L i f s J H E I j st n
  subst q hw r
  obtain ⟨xs,g,m⟩:=n
  obtain ⟨G,rv,p,T⟩:=I.tuple g
  obtain ⟨F,C,Z,B,y,t⟩:=j it (by simp)
  have hl:=rv.length
  exact wpAny_pyNext_tuple_end (I.ok.hd L) st (show s.heap.IsTuple a G.toArray from p) (by simp;omega) fun h' eb=>⟨rfl,I.turned (t':=s.toks) (fun b o hb e=>eb b o hb e) F C B y t⟩
 self:=fun _ _ _ _ _ st h=>wpAny_pyIter_tupleiter st h
theorem Du{P:Program}{w:World}{K:aae}{J:Expr}(it:Addr)(lo:Int)(n:Nat):Turn P w K J (Itr lo n) [it] it (fun i h=>IsRangeIter h it (lo+(i:Nat)*1) ((n:Int) - (i:Nat)) 1) where
 mem:=by simp
 obj:=fun i h st b hb=>by
  have e:b=it:=by simpa using hb
  subst e
  exact⟨_,st,fun v z=>by
   have G:Data.fields _=Data.cell v:=z
   cases G⟩
 keep:=fun i h h' st k=>k it (by simp) _ st
 item:=by
  intro X m hw p j i c s B H E I f st g
  subst m hw p
  obtain ⟨y,x,O,u,r,q⟩:=f it (by simp)
  have W:=Walks.range (prog:=X.prog) (w:=X.w) (I.ok.hd j) it lo 1 n
  refine W.item i s _ _ g st fun v h' C M F L=>?_
  obtain ⟨t,rfl⟩:=M
  have R:Inv X c B H { s with heap:=h',toks:=C }:=I.turned (fun b o hb e=>L b o (by simpa using hb) e) y x u r q
  refine⟨_,rfl,Jh (s:={ s with heap:=h',toks:=C }) (n:="range_iterator") F rfl rfl nofun ⟨.int (lo+i),H,R,⟨t,?_⟩,⟨rfl,rfl⟩,F,fun b hb=>(f b hb).1⟩⟩
  rw[Int.mul_one]
 done:=by
  intro X m hw p j i c s B H E I f st g
  subst m hw p
  obtain ⟨y,x,O,u,r,q⟩:=f it (by simp)
  exact wpAny_pyNext_range_end (I.ok.hd j) st (by have:n<=i:=g;omega) fun h' Q=>⟨rfl,I.turned (t':=s.toks) (fun b o hb e=>Q b o hb e) y x u r q⟩
 self:=fun _ _ _ _ _ st h=>wpAny_pyIter_rangeiter st h
section
variable {X:Cx}{tg:Expr}
def BA(K:aae)(g:TE):TI:=fun f H R=>g f H fun x c=>∃a,x=.ref a/\(∃xs,SqL K c a xs)/\R (Itl K a) c
def ML(K:aae)(g:TE):TI:=fun f H R=>g f H fun x c=>∃a,x=.ref a/\(∃xs,SqT K c a xs)/\R (Itt K a) c
theorem Ko(r:PE X l tl):PI X tg l (BA X.K tl):=by
 intro c s i H R I h
 refine thn (r c s i H _ I h) fun v f ⟨x,t,g,j,m⟩=>?_
 obtain ⟨a,e,⟨xs,n⟩,q⟩:=m
 subst e
 cases j
 obtain ⟨y,rv,p,u⟩:=g.list n
 refine wpAny_pyIter_list p.isList ?_
 refine⟨f.heap.objs.size,[f.heap.objs.size],_,_,t,rfl,g.kept (t':=f.toks) fun b o e=>Heap.get?_push_of_some _ e,FY a _,⟨_,Heap.get?_push_size _ rfl,rfl,rfl⟩,fun b hb=>?_,q⟩
 have e:b=f.heap.objs.size:=by simpa using hb
 subst e
 exact g.JE (Ol _) (g.hok.fresh (Ol _))
theorem MX(r:PE X l tl):PI X tg l (ML X.K tl):=by
 intro f s i H R I h
 refine thn (r f s i H _ I h) fun v c ⟨x,u,g,j,m⟩=>?_
 obtain ⟨a,e,⟨xs,n⟩,q⟩:=m
 subst e
 cases j
 obtain ⟨t,rv,p,y⟩:=g.tuple n
 refine wpAny_pyIter_tuple (show c.heap.IsTuple a t.toArray from p) ?_
 refine⟨c.heap.objs.size,[c.heap.objs.size],_,_,u,rfl,g.kept (t':=c.toks) fun b o e=>Heap.get?_push_of_some _ e,CT a _,⟨_,Heap.get?_push_size _ rfl,rfl,rfl⟩,fun b hb=>?_,q⟩
 have e:b=c.heap.objs.size:=by simpa using hb
 subst e
 exact g.JE (Ol _) (g.hok.fresh (Ol _))
theorem BR{c:List (Addr × Obj)}{f:St}{H:Hp}{s:Shared}{R:It->Hp->Prop}{E:Value->Shared->Prop}{lo hi:Int}{t u v:Tok}{g:Nat}(I:Inv X c f H s)(n : -(2 ^ 62)<=lo)(m:lo<2 ^ 62)(j : -(2 ^ 62)<=hi)(i:hi<2 ^ 62)
  (q:R (Itr lo (hi - lo).toNat) H):wpAny (model X.prog X.w) X.A (pyIter (.ref s.heap.objs.size)) (PIE X c f tg R) E { s with heap:=s.heap.push { cls:=.type "range",data:=.fields #[.int lo t,.int hi u,.int 1 v] },toks:=g }:=by
 refine wpAny_pyIter_range (IsRange.new ..) (small_one n m j i) ?_
 have h:Inv X c f H { s with heap:=s.heap.push { cls:=.type "range",data:=.fields #[.int lo t,.int hi u,.int 1 v] },toks:=g }:=I.kept fun b o e=>Heap.get?_push_of_some _ e
 refine⟨(s.heap.push { cls:=.type "range",data:=.fields #[.int lo t,.int hi u,.int 1 v] }).objs.size,[(s.heap.push { cls:=.type "range",data:=.fields #[.int lo t,.int hi u,.int 1 v] }).objs.size],_,_,H,rfl,
  h.kept (t':=g) fun b o e=>Heap.get?_push_of_some _ e,Du _ lo (hi - lo).toNat,?_,fun b hb=>?_,q⟩
 .have e1:lo+((0:Nat):Int)*1=lo:=by simp
  have e2:(((hi - lo).toNat:Nat):Int) - ((0:Nat):Int)=Builtin.Range.rangeSize lo hi 1:=by rw[rangeSize_one];split<;>omega
  show IsRangeIter _ _ (lo+((0:Nat):Int)*1) ((((hi - lo).toNat:Nat):Int) - ((0:Nat):Int)) 1
  rw[e1,e2]
  exact Heap.get?_push_size _ rfl
 .have e:b=(s.heap.push { cls:=.type "range",data:=.fields #[.int lo t,.int hi u,.int 1 v] }).objs.size:=by simpa using hb
  subst e
  exact h.JE (Ol _) (h.hok.fresh (Ol _))
def Lf(f:TA):TI:=fun c H R=>f c H fun vs g=>∃j:Int,vs=[.int j]/\-(2 ^ 62)<=j/\j<2 ^ 62/\R (Itr 0 j.toNat) g
def LA(f:TA):TI:=fun c H R=>f c H fun vs g=>∃i j:Int,vs=[.int i,.int j]/\(-(2 ^ 62)<=i/\i<2 ^ 62/\-(2 ^ 62)<=j/\j<2 ^ 62)/\R (Itr i (j - i).toNat) g
theorem aS(o:Gl X "range")(hm:X.mg "range" = none)(ha:PA X [a] ta)(n:starEach [a] X.env=[(false,eval a X.env)]:=by rfl):PI X tg (.Call (.Name "range" p) [a] [] pos) (Lf ta):=by
 intro c s g H R I h
 refine Call_ (hX I o hm boot_range (O2 (thn (ha pos c s g H _ I h) fun us v ⟨vs,x,u,m,f⟩=>?_) n rfl))
 obtain ⟨j,e,f,q2,q⟩:=f
 subst e
 cases m with
 |cons r i =>
  cases i
  obtain ⟨t,rfl⟩:=r
  exact call_range_1 (BR u () () f q2 (by simpa using q))
theorem Gd(x:Gl X "range")(hm:X.mg "range" = none)(ha:PA X [a,b] ta)(v:starEach [a,b] X.env=[(false,eval a X.env),(false,eval b X.env)]:=by rfl)(m:starEach [b] X.env=[(false,eval b X.env)]:=by rfl) :
  PI X tg (.Call (.Name "range" p) [a,b] [] pos) (LA ta):=by
 intro c s n H R I h
 refine Call_ (hX I x hm boot_range (O2 (thn (ha pos c s n H _ I h) fun us z ⟨vs,B,y,o,g⟩=>?_) (by rw[v,m]) (by rw[m];rfl)))
 obtain ⟨i,j,e,⟨g,q2,q3,q4⟩,q⟩:=g
 subst e
 cases o with
 |cons r f =>
  cases f with
  |cons u f =>
   cases f
   obtain ⟨t,rfl⟩:=r
   obtain ⟨t',rfl⟩:=u
   exact call_range_2 (BR y g q2 q3 q4 q)
def K7(h:TI)(g:TG)(tb:TS):TS:=fun D c H=>h c H fun J o=>∃W:Nat->Nat->St->Hp->Prop,(∃m,W 0 m c o)/\∀i m c H,W i m c H ->
 (J.stop i H/\D.nx c H)\/(J.go i H/\∃N:St->Hp->Prop,(∀σ' H',N σ' H'->∃f,f < m/\W (i+1) f σ' H')/\∀x H',J.yld i H x H'->g x c H' fun j n=>tb { D with nx:=N,ct:=N,bk:=D.nx } j n)
def mT(fp:List Addr)(h:Heap):List (Addr × Obj):=fp.filterMap fun b=>(h.get? b).map fun o=>(b,o)
theorem mi(hb:b∈fp)(e:h.get? b=some o):(b,o)∈mT fp h:=List.mem_filterMap.mpr ⟨b,hb,by rw[e];rfl⟩
theorem yD(c:p∈mT fp h):p.1∈fp/\h.get? p.1=some p.2:=by
 obtain ⟨b,hb,e⟩:=List.mem_filterMap.mp c
 cases q:h.get? b with
 |none=>rw[q] at e;cases e
 |some o =>
  rw[q] at e
  have f:(b,o)=p:=OJ e
  subst f
  exact⟨hb,q⟩
theorem Inv.pinned(I:Inv X pins σ H s)(h:∀b∈fp,vD X pins H b)(g:∀b∈fp,∃o,s.heap.get? b=some o/\∀v,o.data≠.cell v):Inv X (pins++mT fp s.heap) σ H s :=
 I.uV fun p f=>(Oj.mp f).elim (fun z=>I.pin p (Fk _ z)) fun z=>by
  obtain ⟨hb,e⟩:=yD z
  obtain ⟨m,j,i,_⟩:=h p.1 hb
  obtain ⟨o,c,d⟩:=g p.1 hb
  rw[e] at c;cases c
  exact⟨e,m,j,i,d⟩
theorem Inv.rP(I:Inv X (pins++pl) σ H s):Inv X pins σ H s:=I.uV fun p c=>I.pin p (Fk _ (Oq _ c))
theorem LN(y:PassesOwn (model X.prog X.w) X.A X.env X.xe)(R:X.calm=true)(hi:PI X tg iter wi)(hg:PG X tg g)(hb:PSs X Rl tb)
  (hs:∀x,foldedSetIterable iter X.env x=pure x:=by intro _;rfl):PS X (.For tg iter Rl [] pos) (K7 wi g tb):=by
 intro c s M H D I h
 refine wpAny_For (thn (hi c s M H _ I h) fun v s1 h1=>thn h1 fun VP s2 h2=>?_) hs
 obtain ⟨it,fp,tn,J,H2,e,I2,T,S3,U,W,⟨m0,w0⟩,Ra⟩:=h2
 subst e
 have G:∀{H':Hp},(∀b∈fp,H' b=none)->∀b∈fp,vD X c H' b:=fun hn b hb=>⟨hn b hb,(U b hb).2⟩
 refine codeAny_forLoop_any (fun n Q=>∃i σ' H',Inv X c σ' H' Q/\tn i Q.heap/\(∀b∈fp,H' b=none)/\W i n σ' H') ?_ m0 ⟨0,M,H2,I2,S3,fun b hb=>(U b hb).1,w0⟩
 rintro n P ⟨i,z,B,I3,Y,Z,w3⟩
 rcases Ra i n z B w3 with ⟨stop,qn⟩|⟨go,N,hN,step⟩
 .refine wpAny_passesOwn y (thn (T.done X rfl rfl rfl R i c P z B X.xe I3 (G Z) Y stop) fun r s4 ⟨hr,I4⟩=>?_)
  subst hr
  exact wpAny_execs_nil ⟨z,B,I4,qn⟩
 .refine wpAny_passesOwn y (thn (T.item X rfl rfl rfl R i c P z B X.xe I3 (G Z) Y go) fun r s4 ⟨u,hr,h4⟩=>?_)
  subst hr
  refine wpAny_passesOwn y (thn h4 fun _ O ⟨x,H5,I5,r5,y5,F,E⟩=>?_)
  have L:=I5.pinned (G E) (T.obj _ _ F)
  refine wpAny_passesOwn y (thn (hg _ O z H5 x u _ L r5 (step x H5 y5)) fun _ s6 ⟨Zn,H6,I6,q6⟩=>?_)
  refine wpAny_passesOwn y (thn (hb _ s6 Zn H6 _ I6 q6) fun f C q7=>?_)
  have again:∀{j:St}{q:Hp},Inv X (c++mT fp O.heap) j q C->N j q->∃m,m<n/\∃i σ' H',Inv X c σ' H' C/\tn i C.heap/\(∀b∈fp,H' b=none)/\W i m σ' H':=fun {j q} p t=>by
   obtain ⟨m',hm,w7⟩:=hN j q t
   refine⟨m',hm,i+1,j,q,p.rP,T.keep _ _ _ F fun b hb o e=>(p.pin (b,o) (Fk _ (Fk _ (mi hb e)))).1,fun b hb=>?_,w7⟩
   obtain ⟨o,e,d⟩:=T.obj _ _ F b hb
   exact (p.pin (b,o) (Fk _ (Fk _ (mi hb e)))).2.1
  cases f with
  |next=>obtain ⟨j,q,p,t⟩:=q7;exact again p t
  |cont=>obtain ⟨j,q,p,t⟩:=q7;exact again p t
  |brk=>obtain ⟨j,q,p,q7⟩:=q7;exact⟨j,q,p.rP,q7⟩
  |ret v=>obtain ⟨x7,j,q,p,r7,q7⟩:=q7;exact⟨x7,j,q,p.rP,r7,q7⟩
end
abbrev R2:=V->V->Hp->VK->Prop
def OpR(X:Cx)(f:Value->Value->Sem Value)(r:R2):Prop :=
 ∀(c:List (Addr × Obj)) (s:Shared) (g:St) (H:Hp) (x y:V) (v u:Value) (Q:VK),Inv X c g H s->RelV x v->RelV y u->r x y H Q ->
  wpAny (model X.prog X.w) X.A (f v u) (EP X c g Q) X.xe s
def UnR(X:Cx)(f:Value->Sem Value)(r:V->Hp->VK->Prop):Prop :=
 ∀(c:List (Addr × Obj)) (s:Shared) (g:St) (H:Hp) (x:V) (v:Value) (Q:VK),Inv X c g H s->RelV x v->r x H Q ->
  wpAny (model X.prog X.w) X.A (f v) (EP X c g Q) X.xe s
def gG(X:Cx)(f:Value)(r:List V->Hp->VK->Prop):Prop :=
 ∀(c:List (Addr × Obj)) (s:Shared) (g:St) (H:Hp) (xs:List V) (us:List Value) (Q:VK),Inv X c g H s->Vals xs us->r xs H Q ->
  wpAny (model X.prog X.w) X.A (call f us) (EP X c g Q) X.xe s
def tOp(r:R2)(f tb:TE):TE:=fun c H Q=>f c H fun x h=>tb c h fun y g=>r x y g Q
def tUn(r:V->Hp->VK->Prop)(f:TE):TE:=fun c H Q=>f c H fun x g=>r x g Q
def rI(C:Int->Int->Prop)(g:Int->Int->V):R2:=fun x y H Q=>∃i j,x=.int i/\y=.int j/\C i j/\Q (g i j) H
def rI0(g:Int->Int->V):R2:=fun x y H Q=>∃i j,x=.int i/\y=.int j/\Q (g i j) H
def rU(g:Int->V):V->Hp->VK->Prop:=fun x H Q=>∃i,x=.int i/\Q (g i) H
section
variable {X:Cx}{a b:Expr}{ta tb:TE}{pos:Pos}
theorem LV(ha:PE X a ta)(hb:PE X b tb){c:List (Addr × Obj)}{s:Shared}{g:St}{H:Hp}{R:V->V->Hp->Prop}(I:Inv X c g H s)
  (h:ta g H fun x n=>tb g n fun y i=>R x y i) {Q:Value->Shared->Prop}{f:Value->Value->Sem Value}
  (t:∀v u m x y i,Inv X c g i m->RelV x v->RelV y u->R x y i->wpAny (model X.prog X.w) X.A (f v u) Q X.xe m) :
  wpAny (model X.prog X.w) X.A (eval a X.env) (fun v j=>wpAny (model X.prog X.w) X.A (eval b X.env) (fun u z=>wpAny (model X.prog X.w) X.A (f v u) Q X.xe z) X.xe j) X.xe s:=by
 refine thn (ha c s g H _ I h) fun v o ⟨x,n,C,q,r⟩=>?_
 refine thn (hb c o g n _ C r) fun u m ⟨y,i,B,p,q2⟩=>?_
 exact t v u m x y i B q p q2
theorem aI(i:OpR X (binaryOp op) r)(ha:PE X a ta)(hb:PE X b tb):PE X (.BinOp a op b pos) (tOp r ta tb):=by
 intro c s f H Q I h
 exact wpAny_BinOp (LV ha hb I h fun v u g x y m j rx ry q=>i c g f m x y v u Q j rx ry q)
theorem ED(m:UnR X (unaryOp op) r)(ha:PE X a ta):PE X (.UnaryOp op a pos) (tUn r ta):=by
 intro c s f H Q I h
 exact UnaryOp_ (thn (ha c s f H _ I h) fun v g ⟨x,o,n,i,j⟩=>m c g f o x v Q n i j)
theorem opI{f:Value->Value->Sem Value}{C:Int->Int->Prop}{g:Int->Int->Int}
  (rule:∀(i j:Int) (t u:Tok) (s:Shared) (Q:Value->Shared->Prop) (E:Value->Shared->Prop),C i j->Q (.int (g i j) s.toks) { s with toks:=s.toks+1 }->wpAny (model X.prog X.w) X.A (f (.int i t) (.int j u)) Q E s) :
  OpR X f (rI C fun i j=>.int (g i j)):=by
 intro c s n H x y v u Q I rx ry h
 obtain ⟨i,j,rfl,rfl,m,q⟩:=h
 obtain ⟨t,rfl⟩:=rx
 obtain ⟨t',rfl⟩:=ry
 exact rule i j t t' s _ _ m ⟨.int (g i j),H,I.tok _,⟨_,rfl⟩,q⟩
theorem M0{f:Value->Value->Sem Value}{g:Int->Int->Int}
  (rule:∀(i j:Int) (t u:Tok) (s:Shared) (Q:Value->Shared->Prop) (E:Value->Shared->Prop),Q (.int (g i j) s.toks) { s with toks:=s.toks+1 }->wpAny (model X.prog X.w) X.A (f (.int i t) (.int j u)) Q E s) :
  OpR X f (rI0 fun i j=>.int (g i j)):=by
 intro c s m H x y v u Q I rx ry h
 obtain ⟨i,j,rfl,rfl,q⟩:=h
 obtain ⟨t,rfl⟩:=rx
 obtain ⟨t',rfl⟩:=ry
 exact rule i j t t' s _ _ ⟨.int (g i j),H,I.tok _,⟨_,rfl⟩,q⟩
theorem Kz{f:Value->Value->Sem Value}{g:Int->Int->Bool}
  (rule:∀(i j:Int) (t u:Tok) (s:Shared) (Q:Value->Shared->Prop) (E:Value->Shared->Prop),Q (.bool (g i j)) s->wpAny (model X.prog X.w) X.A (f (.int i t) (.int j u)) Q E s) :
  OpR X f (rI0 fun i j=>.bl (g i j)):=by
 intro c s m H x y v u Q I rx ry h
 obtain ⟨i,j,rfl,rfl,q⟩:=h
 obtain ⟨t,rfl⟩:=rx
 obtain ⟨t',rfl⟩:=ry
 exact rule i j t t' s _ _ ⟨.bl (g i j),H,I,rfl,q⟩
def Oc(i j:Int):Prop:=0<=j/\j<=1000000/\i.natAbs<2 ^ 64
theorem CG(k:Nat):(0:Int)<=2 ^ k:=by
 rw[two_pow_cast]
 exact Int.natCast_nonneg _
theorem eD:OpR X (binaryOp .Add) (rI0 fun i j=>.int (i+j)):=M0 fun _ _ _ _ _ _ _ q=>add_int q
theorem iR:OpR X (binaryOp .Sub) (rI0 fun i j=>.int (i - j)):=M0 fun _ _ _ _ _ _ _ q=>sub_int q
theorem g8:OpR X (binaryOp .Mod) (rI (fun _ j=>0<j) fun i j=>.int (i % j)):=opI fun i j _ _ _ _ _ c q=>by
 have f:(0:Int)<j:=c
 exact mod_int' () (by rw[Int.fmod_eq_emod_of_nonneg i ()];exact q)
theorem MM:OpR X (binaryOp .Pow) (rI Oc fun i j=>.int (i ^ j.toNat)):=opI fun _ _ _ _ _ _ _ c q=>pow_int_small c.1 c.2.1 c.2.2 q
theorem LR:OpR X (binaryOp .RShift) (rI (fun _ j=>0<=j) fun i j=>.int (i / 2 ^ j.toNat)):=opI fun i j _ _ _ _ _ c q =>
 rshift_int c (by rw[Int.fdiv_eq_ediv_of_nonneg i (CG _)];exact q)
theorem LQ:OpR X (binaryOp .BitAnd) (rI0 fun i j=>.int (Builtin.bitAnd i j)):=M0 fun _ _ _ _ _ _ _ q=>and_int q
theorem unI{f:Value->Sem Value}{g:Int->Int}
  (rule:∀(i:Int) (t:Tok) (s:Shared) (Q:Value->Shared->Prop) (E:Value->Shared->Prop),Q (.int (g i) s.toks) { s with toks:=s.toks+1 }->wpAny (model X.prog X.w) X.A (f (.int i t)) Q E s) :
  UnR X f (rU fun i=>.int (g i)):=by
 intro c s j H x v Q I rx h
 obtain ⟨i,rfl,q⟩:=h
 obtain ⟨t,rfl⟩:=rx
 exact rule i t s _ _ ⟨.int (g i),H,I.tok _,⟨_,rfl⟩,q⟩
theorem Az:UnR X (unaryOp .USub) (rU fun i=>.int (-i)):=unI fun _ _ _ _ _ q=>neg_int q
end
def ax:V->V->Bool
 |.non,.non=>true|.non,.int _=>true|.int _,.non=>true|.non,.bl _=>true|.bl _,.non=>true|.non,.str _=>true|.str _,.non=>true
 |.int _,.int _=>true|.bl _,.bl _=>true|.str _,.str _=>true|.byt _,.byt _=>true
 |.int _,.str _=>true|.str _,.int _=>true|.bl _,.str _=>true|.str _,.bl _=>true
 |_,_=>false
def rEq:R2:=fun x y H Q=>ax x y=true/\Q (.bl (decide (x=y))) H
def rNe:R2:=fun x y H Q=>ax x y=true/\Q (.bl (!decide (x=y))) H
theorem EA:decide (V.int i=V.int j)=(i == j):=by
 rw[P1]
 simp
theorem G4:decide (V.bl i=V.bl j)=(i == j):=by
 rw[P1]
 simp
theorem EK:decide (V.str i=V.str j)=(i == j):=by
 rw[P1]
 simp
theorem E2:decide (V.byt i=V.byt j)=(i.toList == j.toList):=by
 rw[P1]
 cases i
 cases j
 simp
section
variable {X:Cx}{a b c:Expr}{ta tb tc:TE}{pos:Pos}
theorem aR(I:Inv X pins σ H s)(q:Q (.bl k) H)(e:k=k'):EP X pins σ Q (.bool k') s:=by
 subst e
 exact⟨.bl k,H,I,rfl,q⟩
theorem eI:OpR X (compareOp .Eq) rEq:=by
 intro f s g H x y v u Q I rx ry h
 obtain ⟨c,q⟩:=h
 cases x with
 |non =>
  cases rx
  cases y with
  |non=>cases ry;exact PySem.EqNone.eq_none_none (aR I q (by simp))
  |bl j=>cases ry;exact PySem.EqNone.eq_none_bool (aR I q (by simp))
  |int j=>obtain ⟨t',rfl⟩:=ry;exact PySem.EqNone.eq_none_int (aR I q (by simp))
  |str j=>obtain ⟨t',rfl⟩:=ry;exact PySem.EqNone.eq_none_str (aR I q (by simp))
  |_=>exact absurd (show false=true from c) Oz
 |bl i =>
  cases rx
  cases y with
  |non=>cases ry;exact PySem.EqNone.eq_bool_none (aR I q (by simp))
  |bl j=>cases ry;exact eq_bool (aR I q G4)
  |str j=>obtain ⟨t',rfl⟩:=ry;exact PySem.EqMixed.eq_bool_str (aR I q (by simp))
  |_=>exact absurd (show false=true from c) Oz
 |int i =>
  obtain ⟨t,rfl⟩:=rx
  cases y with
  |non=>cases ry;exact PySem.EqNone.eq_int_none (aR I q (by simp))
  |int j=>obtain ⟨t',rfl⟩:=ry;exact eq_int (aR I q EA)
  |str j=>obtain ⟨t',rfl⟩:=ry;exact PySem.EqMixed.eq_int_str (aR I q (by simp))
  |_=>exact absurd (show false=true from c) Oz
 |str i =>
  obtain ⟨t,rfl⟩:=rx
  cases y with
  |non=>cases ry;exact PySem.EqNone.eq_str_none (aR I q (by simp))
  |bl j=>cases ry;exact PySem.EqMixed.eq_str_bool (aR I q (by simp))
  |int j=>obtain ⟨t',rfl⟩:=ry;exact PySem.EqMixed.eq_str_int (aR I q (by simp))
  |str j=>obtain ⟨t',rfl⟩:=ry;exact eq_str (aR I q EK)
  |_=>exact absurd (show false=true from c) Oz
 |byt i =>
  obtain ⟨t,rfl⟩:=rx
  cases y with
  |byt j=>obtain ⟨t',rfl⟩:=ry;exact PySem.W.eq_bytes (aR I q E2)
  |_=>exact absurd (show false=true from c) Oz
 |_=>cases y<;>exact absurd (show false=true from c) Oz
theorem pq:OpR X (compareOp .NotEq) rNe:=by
 intro f s g H x y v u Q I rx ry h
 obtain ⟨c,q⟩:=h
 cases x with
 |non =>
  cases rx
  cases y with
  |non=>cases ry;exact PySem.EqNone.ne_none_none (aR I q (by simp))
  |bl j=>cases ry;exact PySem.EqNone.ne_none_bool (aR I q (by simp))
  |int j=>obtain ⟨t',rfl⟩:=ry;exact PySem.EqNone.ne_none_int (aR I q (by simp))
  |str j=>obtain ⟨t',rfl⟩:=ry;exact PySem.EqNone.ne_none_str (aR I q (by simp))
  |_=>exact absurd (show false=true from c) Oz
 |bl i =>
  cases rx
  cases y with
  |non=>cases ry;exact PySem.EqNone.ne_bool_none (aR I q (by simp))
  |bl j=>cases ry;exact ne_bool (aR I q (congrArg not G4))
  |str j=>obtain ⟨t',rfl⟩:=ry;exact PySem.EqMixed.ne_bool_str (aR I q (by simp))
  |_=>exact absurd (show false=true from c) Oz
 |int i =>
  obtain ⟨t,rfl⟩:=rx
  cases y with
  |non=>cases ry;exact PySem.EqNone.ne_int_none (aR I q (by simp))
  |int j=>obtain ⟨t',rfl⟩:=ry;exact ne_int (aR I q (congrArg not EA))
  |str j=>obtain ⟨t',rfl⟩:=ry;exact PySem.EqMixed.ne_int_str (aR I q (by simp))
  |_=>exact absurd (show false=true from c) Oz
 |str i =>
  obtain ⟨t,rfl⟩:=rx
  cases y with
  |non=>cases ry;exact PySem.EqNone.ne_str_none (aR I q (by simp))
  |bl j=>cases ry;exact PySem.EqMixed.ne_str_bool (aR I q (by simp))
  |int j=>obtain ⟨t',rfl⟩:=ry;exact PySem.EqMixed.ne_str_int (aR I q (by simp))
  |str j=>obtain ⟨t',rfl⟩:=ry;exact ne_str (aR I q (congrArg not EK))
  |_=>exact absurd (show false=true from c) Oz
 |byt i =>
  obtain ⟨t,rfl⟩:=rx
  cases y with
  |byt j=>obtain ⟨t',rfl⟩:=ry;exact PySem.W.ne_bytes (aR I q (congrArg not E2))
  |_=>exact absurd (show false=true from c) Oz
 |_=>cases y<;>exact absurd (show false=true from c) Oz
theorem ph:OpR X (compareOp .Lt) (rI0 fun i j=>.bl (decide (i<j))):=Kz fun _ _ _ _ _ _ _ q=>lt_int q
theorem Cd:OpR X (compareOp .LtE) (rI0 fun i j=>.bl (decide (i<=j))):=Kz fun _ _ _ _ _ _ _ q=>le_int q
theorem uk:OpR X (compareOp .Gt) (rI0 fun i j=>.bl (decide (j<i))):=Kz fun _ _ _ _ _ _ _ q=>gt_int q
theorem Jn:OpR X (compareOp .GtE) (rI0 fun i j=>.bl (decide (j<=i))):=Kz fun _ _ _ _ _ _ _ q=>ge_int q
theorem vX:OpR X (compareOp .Is) (fun x y H Q=>y=.non/\Q (.bl (decide (x=.non))) H):=by
 intro c s f H x y v u Q I rx ry h
 obtain ⟨rfl,q⟩:=h
 cases ry
 refine is_none_gen (aR I q ?_)
 cases x<;>first
  |(cases rx;rfl)
  |(obtain ⟨t,rfl⟩:=rx;rfl)
theorem zI:OpR X (compareOp .IsNot) (fun x y H Q=>y=.non/\Q (.bl (!decide (x=.non))) H):=by
 intro c s f H x y v u Q I rx ry h
 obtain ⟨rfl,q⟩:=h
 cases ry
 refine isnot_none_gen (aR I q ?_)
 cases x<;>first
  |(cases rx;rfl)
  |(obtain ⟨t,rfl⟩:=rx;rfl)
theorem jr(b:Expr)(h:op≠.In:=by decide)(c:op≠.NotIn:=by decide):behindInMarks op b=false:=by
 have e1:(op == CmpOp.In)=false:=by cases op<;>first|rfl|exact absurd rfl h
 have e2:(op == CmpOp.NotIn)=false:=by cases op<;>first|rfl|exact absurd rfl c
 cases b<;>simp [behindInMarks,e1,e2]
theorem ie(i:OpR X (compareOp op) r)(ha:PE X a ta)(hb:PE X b tb)(hm:behindInMarks op b=false):PE X (.Compare a [op] [b] pos) (tOp r ta tb):=by
 intro c s f H Q I h
 exact wpAny_Compare1 (LV ha hb I h fun v u g x y m j rx ry q=>i c g f m x y v u Q j rx ry q) hm
def yv(t:TE):TT:=fun c H Q=>t c H fun x H'=>∃k,x=.bl k/\Q k H'
theorem uS(q:OpR X (compareOp op) r)(ha:PE X a ta)(hb:PE X b tb)(hm:behindInMarks op b=false):PT X (.Compare a [op] [b] pos) (yv (tOp r ta tb)):=by
 intro f s g H Q I h
 refine wpAny_isTrue_Compare1 (thn (ha f s g H _ I h) fun v j ⟨x,G,C,o,p⟩=>thn (hb f j g G _ C p) fun u i ⟨y,F,B,n,q2⟩ =>
  thn (q f i g F x y v u _ B o n q2) fun c J ⟨z,E,t,m,k,e,q3⟩=>?_) hm
 subst e
 cases m
 exact wpAny_truthy_bool ⟨E,t,q3⟩
def CK(r j:R2)(i tb h:TE):TE:=fun c H Q=>i c H fun x o=>tb c o fun y n=>r x y n fun z f=>∃k,z=.bl k /\
 (if k=true then h c f fun g m=>j y g m Q else Q (.bl false) f)
theorem wt(J:OpR X (compareOp op) r)(M:OpR X (compareOp op') r')(ha:PE X a ta)(hb:PE X b tb)(L:PE X c tc)
  (hm:lastMarks [op,op'] [b,c]=false:=by with_unfolding_all rfl):PE X (.Compare a [op,op'] [b,c] pos) (CK r r' ta tb tc):=by
 intro f s g H Q I h
 refine Compare_chain (thn (ha f s g H _ I h) fun v B ⟨x,Y,R,F,G⟩=>chain_link (thn (hb f B g Y _ R G) fun u t ⟨y,U,P,i,q2⟩ =>
  thn (J f t g U x y v u _ P F i q2) fun d q ⟨z,m,j,E,k,e,q3⟩=>?_)) hm
 subst e
 cases E
 refine wpAny_truthy_bool ?_
 cases k with
 |false=>exact ite_ff ⟨.bl false,m,j,rfl,q3⟩
 |true=>exact ite_tt (chain_last (thn (L f q g m _ j q3) fun o p ⟨n,T,O,C,q4⟩=>M f p g T y n u o Q O i C q4))
theorem BX(M:OpR X (compareOp op) r)(R:OpR X (compareOp op') r')(ha:PE X a ta)(hb:PE X b tb)(O:PE X c tc)
  (hm:lastMarks [op,op'] [b,c]=false:=by with_unfolding_all rfl):PT X (.Compare a [op,op'] [b,c] pos) (yv (CK r r' ta tb tc)):=by
 intro f s g H Q I h
 refine isTrue_chain (thn (ha f s g H _ I h) fun v B ⟨x,H1,Z,G,J⟩=>test_link (thn (hb f B g H1 _ Z J) fun u t ⟨y,H2,Y,i,q2⟩ =>
  thn (M f t g H2 x y v u _ Y G i q2) fun d q ⟨z,m,j,F,k,e,q3⟩=>?_)) hm
 subst e
 cases F
 refine wpAny_truthy_bool ?_
 cases k with
 |false =>
  obtain ⟨k',P,L⟩:=q3
  cases P
  exact ite_ff ⟨m,j,L⟩
 |true =>
  refine ite_tt (test_last (thn (O f q g m _ j q3) fun o p ⟨n,H4,U,E,q4⟩=>thn (R f p g H4 y n u o _ U i E q4) fun d' s5 ⟨z2,H5,T,C,k2,e2,q5⟩=>?_))
  subst e2
  cases C
  exact wpAny_truthy_bool ⟨H5,T,q5⟩
theorem zb:(sizeLine:Nat)<2 ^ 63:=by rw[sizeLine_eq];decide
theorem vals1(r:Vals [x] us):∃u,us=[u]/\RelV x u:=by
 cases r with
 |cons f c=>cases c;exact⟨_,rfl,f⟩
theorem vals2(r:Vals [x,y] us):∃u c,us=[u,c]/\RelV x u/\RelV y c:=by
 cases r with
 |cons i h =>
  cases h with
  |cons g f=>cases f;exact⟨_,_,rfl,i,g⟩
theorem tm(f:X.calm=true):gG X (.builtin "max") (fun xs H Q=>∃i j,xs=[.int i,.int j]/\Q (.int (if j>i then j else i)) H):=by
 intro c s g H xs us Q I r h
 obtain ⟨i,j,rfl,q⟩:=h
 obtain ⟨u,m,rfl,⟨t,rfl⟩,⟨t',rfl⟩⟩:=vals2 r
 refine max_two_ints (I.ok.hd f) fun h' n k=>⟨_,H,I.kept k,?_,q⟩
 by_cases hj:j>i
 .rw[if_pos hj,if_pos hj];exact⟨_,rfl⟩
 .rw[if_neg hj,if_neg hj];exact⟨_,rfl⟩
end
structure Di(h:Heap)(x dx C:Addr)(mA:Str->Option Value):Prop where
 obj:h.get? x=some (PySem.W.instObj C dx)
 ns:h.Ns1 dx mA
 ne:dx≠x
set_option tactic.hygienic true in
theorem FP{h:Heap}{dx:Addr}{mA:Str->Option Value}(n:h.Ns1 dx mA):∃od,h.get? dx=some od/\∀name,PySem.W.lookIn name od=some (mA name):=by
 obtain ⟨o,es,ep,ho,hd,hk,_,hm⟩:=n
 refine⟨o,ho,fun name=>?_⟩
 have e:=hm name
 unfold nsFind findBy at e
 rw[<- Array.find?_toList] at e
 unfold PySem.W.lookIn
 rw[hd]
 dsimp only
 split
 .rename_i y q
  rw[q] at e
  exact congrArg some e
 .rename_i q
  rw[q] at e
  have a:es.toList.any (·.refKey)=false:=by
   rw[List.any_eq_false]
   intro y hy
   obtain ⟨z,t,Xr⟩:=hk y (Array.mem_toList_iff.mp hy)
   simp [DictEntry.refKey,Xr]
  have a':¬ es.toList.any (·.refKey)=true:=by rw[a];exact Oz
  rw[if_neg a']
  exact congrArg some e
theorem Di.look(I:Di h x dx C mA):∃c,PySem.W.InstAt h x (PySem.W.instObj C dx) C (some c)/\∀name,PySem.W.lookIn name c=some (mA name) :=
 let ⟨c,ho,hl⟩:=FP I.ns
 ⟨c,⟨I.obj,rfl,rfl,ho⟩,hl⟩
section
variable {prog:Program}{w:World}{A:Around}{E:Value->Shared->Prop}{s:Shared}{K:aae}{x dx C f:Addr}{mA:Str->Option Value}{name:Str}{v:Value}
theorem get_map(X:K.In s.heap)(I:Di s.heap x dx C mA)(i:PySem.W.plainGet K C name=true)(g:PySem.W.hasDictIn K C=true)
  (ha:PySem.W.findIn K (.ref C) name=some none) (c:mA name=some v) (j:PySem.W.handedIn v=true) (h:Q v { s with toks:=s.toks+1 }) :
  wpAny (model prog w) A (getAttr (.ref x) name expr) Q E s:=by
 obtain ⟨m,J,f⟩:=I.look
 exact PySem.W.get_value X J (PySem.W.plainGet_of i).1 (PySem.W.findObj_own g ha rfl (by rw[f,c])) j h
theorem Ha(X:K.In s.heap)(I:Di s.heap x dx C mA)(c:PySem.W.plainGet K C name=true)
  (m:PySem.W.findIn K (.ref C) name=some (some (.ref f))) (ht:PySem.W.isFn K (.ref f)=true) (i:mA name=none) (h:Q (.ref f,[.ref x]) s) :
  wpAny (model prog w) A (getMethod (.ref x) name pl) Q E s:=by
 obtain ⟨g,J,j⟩:=I.look
 exact PySem.W.method_fn X J (PySem.W.plainGet_of c).1 (PySem.W.plainGet_of c).2 m (beq_iff_eq.mp ht) (by show (PySem.W.lookIn name g).map (·.isSome)=some false;rw[j,i];rfl) h
theorem Kj(X:K.In s.heap)(I:Di s.heap x dx C mA)
  (n:PySem.W.findIn K (.ref C) "__setattr__" = some (some (.builtin "object.__setattr__"))) (o:PySem.W.plainOver K C=true) (ht:PySem.W.takerIn K C name=some none) (p:PySem.W.hasDictIn K C=true)
  (hw:PySem.Within mA ns) (hsz:ns.length<=sizeLine)
  (h:∀h',Di h' x dx C (fun y=>if y=name then some v else mA y)->Heap.SameBut dx s.heap h'->Q .unit { s with heap:=h',toks:=s.toks+2 }) :
  wpAny (model prog w) A (setAttr (.ref x) name v) Q E s:=by
 obtain ⟨B,J,F⟩:=I.look
 refine PySem.W.set_plain X J n (PySem.W.osa_open (s:={ s with toks:=s.toks+1 }) (r:=none) X J o ht fun b=>?_)
 obtain ⟨cd,q,z⟩:=PySem.W.any_some p
 have m:s.heap.get? x=some ⟨.ref C,some dx,.plain,#[]⟩:=I.obj
 refine wpAny_bind (wpAny_pure (wpAny_bind (wpAny_bind (wpAny_loadPart m (wpAny_bind (PySem.W.Looks.here (s:={ s with toks:=s.toks+1 }) (PySem.W.looks_clsIn X q) ?_))))))
 rw[z]
 refine wpAny_pure (a:=some dx) (wpAny_bind (wpAny_pure (wpAny_bind ?_)))
 refine wpAny_nsSet1 (s:={ s with toks:=s.toks+1 }) I.ns fun h' i j=>?_
 obtain ⟨oD,t,u,c,f,g⟩:=i.count (PySem.Within.cons name v hw)
 refine wpAny_bind (wpAny_lookBehind c (by rw[f];exact pastItsLine_dict (OC g (by rw[H0];omega))) ?_)
 exact wpAny_pure (h _ ⟨(j.2 _ (OT I.ne)).trans I.obj,i,I.ne⟩ j)
theorem HV(X:K.In s.heap)(hm:PySem.W.makesIn K C=true)
  (hi:PySem.W.findIn K (.ref C) "__init__" = some (some (.ref f))) (c:PySem.W.typeIn K (.ref f)=some (.type "function"))
  (h:codeAny (model prog w) (A.under (.builtin "type.__call__" ⟨.ref C::vs,kw⟩)) (.call (.ref f) ⟨.ref (s.heap.objs.size+1)::vs,kw⟩) (PySem.W.InitBack (s.heap.objs.size+1) R)
   { s with heap:=(s.heap.push PySem.W.emptyDict).push (PySem.W.instObj C s.heap.objs.size) }) :
  codeAny (model prog w) A (.call (.ref C) ⟨vs,kw⟩) R s:=by
 obtain ⟨i,g,d,t,os⟩:=s
 exact PySem.W.make_core (PySem.W.makes_of X hm) (PySem.W.looks_findIn X hi) (fun self=>PySem.W.bind_fn X self c) (.inl rfl) h
end
def kJ(f:Str)(v:V):List (Str × V)->List (Str × V)
 |[]=>[(f,v)]
 |(g,x)::r=>if g=f then (g,v)::r else (g,x)::kJ f v r
theorem tV(f g:Str)(v:V):∀fs:List (Str × V),(kJ f v fs).lookup g=if g=f then some v else fs.lookup g
 |[]=>by
  show List.lookup g [(f,v)]=_
  by_cases h:g=f
  .have hb:(g == f)=true:=beq_iff_eq.mpr h
   simp only[List.lookup,hb,if_pos h]
  .have hb:(g == f)=false:=beq_eq_false_iff_ne.mpr h
   simp only[List.lookup,hb,if_neg h]
 |(k,x)::r=>by
  have ih:=tV f g v r
  rw[show kJ f v ((k,x)::r)=(if k=f then (k,v)::r else (k,x)::kJ f v r) from rfl]
  by_cases c:k=f
  .rw[if_pos c]
   by_cases h:g=k
   .have hb:(g == k)=true:=beq_iff_eq.mpr h
    simp only[List.lookup,hb,if_pos (h.trans c)]
   .have hb:(g == k)=false:=beq_eq_false_iff_ne.mpr h
    simp only[List.lookup,hb,if_neg (fun e:g=f=>h (e.trans c.symm))]
  .rw[if_neg c]
   by_cases h:g=k
   .have hb:(g == k)=true:=beq_iff_eq.mpr h
    simp only[List.lookup,hb,if_neg (fun e:g=f=>c (h.symm.trans e))]
   .have hb:(g == k)=false:=beq_eq_false_iff_ne.mpr h
    simp only[List.lookup,hb]
    exact ih
theorem sA(f:Str)(v:V):∀fs:List (Str × V),f∈(kJ f v fs).map (·.1)/\∀g,g∈fs.map (·.1)->g∈(kJ f v fs).map (·.1)
 |[]=>⟨by simp [kJ],fun g h=>by simp at h⟩
 |(k,x)::r=>by
  obtain ⟨j,i⟩:=sA f v r
  rw[show kJ f v ((k,x)::r)=(if k=f then (k,v)::r else (k,x)::kJ f v r) from rfl]
  by_cases c:k=f
  .rw[if_pos c]
   subst c
   exact⟨by simp,fun g h=>by simpa using h⟩
  .rw[if_neg c]
   refine⟨?_,fun g h=>?_⟩
   .rw[Oi]
    exact gV _ j
   .rw[Oi] at h ⊢
    rcases KE.mp h with e|e
    .exact KE.mpr (.inl e)
    .exact gV _ (i g e)
theorem t9(f:Str)(v:V):∀fs:List (Str × V),(kJ f v fs).length<=fs.length+1
 |[]=>by simp [kJ]
 |(k,x)::r=>by
  have ih:=t9 f v r
  rw[show kJ f v ((k,x)::r)=(if k=f then (k,v)::r else (k,x)::kJ f v r) from rfl]
  by_cases c:k=f
  .rw[if_pos c,H0,H0];omega
  .rw[if_neg c,H0,H0];omega
theorem oK.some_of(r:oK (some v) o):∃u,o=some u/\RelV v u:=by
 cases o with
 |none=>exact (show False from r).elim
 |some u=>exact⟨u,rfl,r⟩
theorem oK.none_of(r:oK none o):o=none:=by
 cases o with
 |none=>rfl
 |some u=>exact (show False from r).elim
theorem Gh(r:RelV v u):PySem.W.handedIn u=true:=by
 cases v with
 |non=>cases (show u=Value.none from r);rfl
 |bl b=>cases (show u=Value.bool b from r);rfl
 |int i=>obtain ⟨t,e⟩:=(show ∃t,u=Value.int i t from r);cases e;rfl
 |str x=>obtain ⟨t,e⟩:=(show ∃t,u=Value.str x t from r);cases e;rfl
 |byt b=>obtain ⟨t,e⟩:=(show ∃t,u=Value.bytes b t from r);cases e;rfl
 |flt b=>obtain ⟨t,e⟩:=(show ∃t,u=Value.float b t from r);cases e;rfl
 |ref a=>cases (show u=Value.ref a from r);rfl
 |ty n=>cases (show u=Value.type n from r);rfl
section
variable {P:Program}{w:World}{H:Hp}{h:Heap}{a C dx:Addr}{fs:List (Str × V)}
theorem uW(hok:HOk P w H h)(e:H a=some (.ins C dx fs)):∃c,Di h a dx C c/\(∀f,oK (fs.lookup f) (c f))/\PySem.Within c (fs.map (·.1))/\fs.length<=1000/\H dx=some (.own a):=by
 obtain ⟨d,z,ne,ob,c,n,r,q⟩:=(show bI P w H h a (.ins C dx fs) from hok a _ e)
 exact⟨c,⟨ob,n,ne⟩,r,q,z,d⟩
end
structure Cls(K:aae)(C:Addr):Prop where
 pg:PySem.W.plainGet K C Str.empty=true
 hd:PySem.W.hasDictIn K C=true
 po:PySem.W.plainOver K C=true
 sa:PySem.W.findIn K (.ref C) "__setattr__" = some (some (.builtin "object.__setattr__"))
theorem Cls.get{K:aae}{C:Addr}(c:Cls K C)(f:Str):PySem.W.plainGet K C f=true:=c.pg
def bB(K:aae)(C:Addr)(f:Str):Prop:=PySem.W.findIn K (.ref C) f=some none
theorem bB.Np{K:aae}{C:Addr}{f:Str}(n:bB K C f):PySem.W.takerIn K C f=some none:=by
 unfold PySem.W.takerIn
 rw[show PySem.W.findIn K (.ref C) f=some none from n]
 rfl
structure Meth(K:aae)(C:Addr)(m:Str)(f:Addr):Prop where
 at_:PySem.W.findIn K (.ref C) m=some (some (.ref f))
 fn:PySem.W.isFn K (.ref f)=true
 kp:PySem.W.keepIn K (.ref f)=true
section
variable {X:Cx}{pins:List (Addr × Obj)}{σ:St}{H:Hp}{s:Shared}{a C dx:Addr}{fs:List (Str × V)}{f:Str}{v:V}{A:Around}{E:Value->Shared->Prop}
theorem Dv(I:Inv X pins σ H s)(e:H a=some (.ins C dx fs))(c:Cls X.K C)(n:bB X.K C f)(l:fs.lookup f=some v)
  (h:∀u g,Inv X pins σ H g->RelV v u->Q u g):wpAny (model X.prog X.w) A (getAttr (.ref a) f b) Q E s:=by
 obtain ⟨j,O,r,_,_,_⟩:=uW I.hok e
 obtain ⟨u,m,i⟩:=oK.some_of (v:=v) (o:=j f) (by rw[<- l];exact r f)
 exact get_map I.kIn O (c.get f) c.hd n m (Gh i) (h u _ (I.tok _) i)
theorem u9(I:Inv X pins σ H s)(e:H a=some (.ins C dx fs))(c:Cls X.K C)(k:Meth X.K C m g)(l:fs.lookup m=none)
  (h:Q (.ref g,[.ref a]) s):wpAny (model X.prog X.w) A (getMethod (.ref a) m pl) Q E s:=by
 obtain ⟨f,O,r,_,_,_⟩:=uW I.hok e
 have hn:f m=none:=oK.none_of (by rw[<- l];exact r m)
 exact Ha I.kIn O (c.get m) k.at_ k.fn hn h
theorem Cu(I:Inv X pins σ H s)(e:H a=some (.ins C dx fs))(c:Cls X.K C)(n:bB X.K C f)(G:fs.length<1000)(ry:RelV y u)
  (h:∀m,Inv X pins σ (upd H a (.ins C dx (kJ f y fs))) m->Q .unit m):wpAny (model X.prog X.w) A (setAttr (.ref a) f u) Q E s:=by
 obtain ⟨p,O,r,j,_,t⟩:=uW I.hok e
 have B:(fs.map (·.1)).length<=sizeLine:=by rw[dz,sizeLine_eq];omega
 refine Kj I.kIn O c.sa c.po n.Np c.hd j B fun h' i v=>h _ ?_
 have hd:∃o,h'.get? dx=some o:=let ⟨o,_,_,e',_⟩:=i.ns;⟨o,e'⟩
 refine I.write (x:=a) (e:=dx) (by rw[e];exact True.intro) (.inr t) (fun b q hb z=>(v.2 b hb).trans z) hd ?_
 refine⟨by rw[au O.ne];exact t,?_,O.ne,i.obj,_,i.ns,fun g=>?_,fun g F=>?_⟩
 .have:=t9 f y fs;omega
 .show oK ((kJ f y fs).lookup g) (if g=f then some u else p g)
  rw[tV]
  by_cases q:g=f
  .rw[if_pos q,if_pos q];exact ry
  .rw[if_neg q,if_neg q];exact r g
 .by_cases q:g=f
  .rw[q];exact (sA f y fs).1
  .refine (sA f y fs).2 g (j g fun z=>F ?_)
   show (if g=f then some u else p g)=none
   rw[if_neg q];exact z
theorem Inv.made(I:Inv X pins σ H s):Inv X pins σ (upd (upd H s.heap.objs.size (.own (s.heap.objs.size+1))) (s.heap.objs.size+1) (.ins C s.heap.objs.size []))
  { s with heap:=(s.heap.push PySem.W.emptyDict).push (PySem.W.instObj C s.heap.objs.size) }:=by
 have e1:(s.heap.push PySem.W.emptyDict).get? s.heap.objs.size=some PySem.W.emptyDict:=Heap.get?_push_size s.heap rfl
 have e2:((s.heap.push PySem.W.emptyDict).push (PySem.W.instObj C s.heap.objs.size)).get? (s.heap.objs.size+1)=some (PySem.W.instObj C s.heap.objs.size):=by
  have:=Heap.get?_push_size (s.heap.push PySem.W.emptyDict) (o:=PySem.W.instObj C s.heap.objs.size) rfl
  rwa [Heap.size_push] at this
 have g:(s.heap.push PySem.W.emptyDict).Ns s.heap.objs.size (fun _=>none):=⟨PySem.W.emptyDict,#[],_,e1,rfl,(fun e f=>absurd f (by simp)),fun _=>rfl⟩
 have h:=I.laid (a:=s.heap.objs.size) (o:=.own (s.heap.objs.size+1)) (h':=s.heap.push PySem.W.emptyDict) (t':=s.toks) (fun b u q=>Heap.get?_push_of_some _ q) (Ol _) ⟨_,e1⟩
 refine h.laid (a:=s.heap.objs.size+1) (o:=.ins C s.heap.objs.size []) (t':=s.toks) (fun b u q=>Heap.get?_push_of_some _ q) (Nat.le_of_eq (Heap.size_push _ _)) ?_
 have ne:s.heap.objs.size≠s.heap.objs.size+1:=OK (PU _)
 refine⟨by rw[au ne,aq],Pd _,ne,e2,fun _=>none,(Heap.Ns1.of_empty g).at fun o q=>Heap.get?_push_of_some _ q,fun _=>True.intro,fun y c=>absurd rfl c⟩
theorem Kq(hb:attributeBase e f env (eval e env)=eval e env)
  (h:wpAny (model prog w) A (eval e env) (fun o c=>wpAny (model prog w) A (getAttr o f true) Q E c) E s):wpAny (model prog w) A (eval (.Attribute e f pos) env) Q E s :=
 Attribute_any_ h (by rw[arm_eval_Attribute,hb])
end
def pQ(K:aae)(h:TE)(f:Str):TE:=fun g H Q=>h g H fun x c=>∃a C dx fs v,x=.ref a/\c a=some (.ins C dx fs)/\Cls K C/\bB K C f/\fs.lookup f=some v/\Q v c
def Dy(K:aae)(h tv:TE)(f:Str):TS:=fun D c H=>tv c H fun y i=>h c i fun x g=>∃a C dx fs,x=.ref a/\g a=some (.ins C dx fs)/\Cls K C/\bB K C f/\fs.length<1000 /\
 D.nx c (upd g a (.ins C dx (kJ f y fs)))
section
variable {X:Cx}{o e Qd:Expr}{f:Str}{pos QQ:Pos}{ta tv:TE}
theorem Mw(m:PE X e ta)(hb:attributeBase e f X.env (eval e X.env)=eval e X.env):PE X (.Attribute e f pos) (pQ X.K ta f):=by
 intro g s i H Q I h
 refine Kq hb (thn (m g s i H _ I h) fun u B ⟨x,t,r,rx,a,C,dx,fs,v,ex,o,c,n,l,q⟩=>?_)
 subst ex
 obtain rfl:u=Value.ref a:=rx
 exact Dv r o c n l fun y z p j=>⟨v,t,p,j,q⟩
theorem MY(ha:PE X o ta)(p:PE X Qd tv)(r:swapsWith Qd (some (.Attribute o f QQ)) pos.line X.env=pure false):PS X (.Assign [.Attribute o f QQ] Qd pos) (Dy X.K ta tv f):=by
 intro g s i H D I h
 refine plainObj_wpAny_Assign_Attribute (thn (p g s i H _ I h) fun u j ⟨y,E,B,ry,q⟩=>thn (ha g j i E _ B q) fun m G ⟨x,J,z,rx,a,C,dx,fs,ex,t,c,n,l,q2⟩=>?_) r
 subst ex
 obtain rfl:m=Value.ref a:=rx
 exact Cu z t c n l ry fun F v=>⟨i,_,v,q2⟩
end
section
variable {X:Cx}{pins:List (Addr × Obj)}{σ:St}{H:Hp}{s:Shared}{A:Around}{E:Value->Shared->Prop}{Q:Value->Shared->Prop}{c:Value}{b:Bool}
inductive oN(K:aae)(H:Hp):V->Value->Prop where
 |non:oN K H .non (.type "NoneType")
 |bl (x:Bool):oN K H (.bl x) (.type "bool")
 |int (i:Int):oN K H (.int i) (.type "int")
 |str (x:Str):oN K H (.str x) (.type "str")
 |flt (x:UInt64):oN K H (.flt x) (.type "float")
 |lst {a:Addr}{xs:List V} (e:H a=some (.lst xs)):oN K H (.ref a) (.type "list")
 |frz {a:Addr}{o:Obj}{xs:List V} (e:H a=some (.frz o (.lst xs))):oN K H (.ref a) (.type "list")
 |tup {a:Addr}{xs:List V} (e:H a=some (.tup xs)):oN K H (.ref a) (.type "tuple")
 |dK {a:Addr}{kvs:List (Key × V)} (e:H a=some (.dK kvs)):oN K H (.ref a) (.type "dict")
 |dT {a:Addr}{kvs:List (List Key × V)} (e:H a=some (.dT kvs)):oN K H (.ref a) (.type "dict")
 |ins {a C dx:Addr}{fs:List (Str × V)} (e:H a=some (.ins C dx fs)) (cl:Cls K C) (ha:PySem.W.findIn K (.ref C) "__class__" = some (some (.builtin "object.__class__")))
   (hn:PySem.W.specialIn K (.builtin "object.__class__") "__get__" = some (some (.builtin "getset_descriptor.__get__"))) (htk:PySem.W.takesIn K (.builtin "object.__class__")=some true)
   (hm:PySem.W.mroIn K C (.type "object")=some true):oN K H (.ref a) (.ref C)
theorem GI(I:Inv X pins σ H s)(rx:RelV x u)(ty:oN X.K H x t)(e:PySem.W.kitOne X.K t c=some b)(h:∀r,Q (.bool b) { s with toks:=r }) :
  wpAny (model X.prog X.w) A (call (.builtin "isinstance") [u,c]) Q E s:=by
 cases ty with
 |non=>cases (show u=Value.none from rx);exact Pu PySem.W.kitx_none I.kIn True.intro e (fun z=>nomatch z) h
 |bl y=>cases (show u=Value.bool y from rx);exact Pu PySem.W.kitx_bool I.kIn True.intro e (fun z=>nomatch z) h
 |int i=>obtain ⟨t,q⟩:=(show ∃t,u=Value.int i t from rx);cases q;exact Pu PySem.W.kitx_int I.kIn True.intro e (fun z=>nomatch z) h
 |str y=>obtain ⟨t,q⟩:=(show ∃t,u=Value.str y t from rx);cases q;exact Pu PySem.W.kitx_str I.kIn True.intro e (fun z=>nomatch z) h
 |flt y=>obtain ⟨t,q⟩:=(show ∃t,u=Value.float y t from rx);cases q;exact Pu PySem.W.kitx_float I.kIn True.intro e (fun z=>nomatch z) h
 |@lst a xs f =>
  cases (show u=Value.ref a from rx)
  obtain ⟨_,_,n,_,g⟩:=(show bI X.prog X.w H s.heap a (.lst xs) from I.hok a _ f)
  exact Pu PySem.W.kitx_list I.kIn ⟨_,g,rfl⟩ e (fun z=>nomatch z) h
 |@frz a ob xs f =>
  cases (show u=Value.ref a from rx)
  obtain ⟨_,_,_,n,_,g⟩:=(show bI X.prog X.w H s.heap a (.frz ob (.lst xs)) from I.hok a _ f)
  exact Pu PySem.W.kitx_list I.kIn ⟨_,g,rfl⟩ e (fun z=>nomatch z) h
 |@tup a xs f =>
  cases (show u=Value.ref a from rx)
  obtain ⟨_,_,_,p⟩:=(show bI X.prog X.w H s.heap a (.tup xs) from I.hok a _ f)
  obtain ⟨o,g,j,_⟩:=p
  exact Pu PySem.W.kitx_tuple I.kIn ⟨o,g,j⟩ e (fun z=>nomatch z) h
 |@dK a kvs f =>
  cases (show u=Value.ref a from rx)
  obtain ⟨_,_,vs,_,p⟩:=(show bI X.prog X.w H s.heap a (.dK kvs) from I.hok a _ f)
  obtain ⟨o,es,ep,g,j,_⟩:=p
  exact Pu PySem.W.kitx_dict I.kIn ⟨o,g,j.1⟩ e (fun z=>nomatch z) h
 |@dT a kvs f =>
  cases (show u=Value.ref a from rx)
  obtain ⟨_,_,xs,_,o,es,ep,g,j,_⟩:=(show bI X.prog X.w H s.heap a (.dT kvs) from I.hok a _ f)
  exact Pu PySem.W.kitx_dict I.kIn ⟨o,g,j.1⟩ e (fun z=>nomatch z) h
 |@ins a C dx fs f cl ha hn m hm =>
  cases (show u=Value.ref a from rx)
  obtain ⟨B,O,_⟩:=uW I.hok f
  obtain ⟨v,J,_⟩:=O.look
  exact Pu (PySem.W.kitx_own (cl.get _) cl.hd ha hn m hm) I.kIn J e (fun z=>nomatch z) h
end
structure fu(k:Nat)(A:Around):Prop where
 hd:A.handled=none
 dp:A.depth+3*k+5<recursionLimit
 un:A.units+16*k+200<cLine
theorem fu.mono(r:fu k A)(h:j<=k):fu j A:=⟨r.hd,by have:=r.dp;omega,by have:=r.un;omega⟩
theorem fu.deeper(r:fu (k+1) A)(env:Env):fu k (A.deeper env) :=
 ⟨r.hd,by have:=r.dp;show A.depth+1+3*k+5<_;omega,by have:=r.un;show A.units+3+16*k+200<_;omega⟩
theorem DG{A:Around}{C:Addr}{us:List Value}{c:List (Str × Value)}:(A.under (.builtin "type.__call__" ⟨.ref C::us,c⟩)).depth=A.depth+1:=by
 first|rfl|simp [Around.under,Code.weight,Code.isCreation,Code.isGuard,Code.isCaller,Code.frames,Code.isFrame,guardIds]
theorem Dt{A:Around}{C:Addr}{us:List Value}{c:List (Str × Value)}:(A.under (.builtin "type.__call__" ⟨.ref C::us,c⟩)).units=A.units+1:=by
 first|rfl|simp [Around.under,Code.cUnits,Code.frames,Code.isFrame]
theorem fu.make(r:fu (k+1) A)(C:Addr)(us:List Value)(c:List (Str × Value)):fu k (A.under (.builtin "type.__call__" ⟨.ref C::us,c⟩)) :=
 ⟨r.hd,by have:=r.dp;rw[DG];omega,by have:=r.un;rw[Dt];omega⟩
theorem fu.depth(r:fu k A):A.depth<recursionLimit:=by have:=r.dp;omega
theorem fu.units(r:fu k A):A.units+64<cLine:=by have:=r.un;omega
def gT:TA:=fun _ H Q=>Q [] H
def bx(g:TE)(f:TA):TA:=fun c H Q=>g c H fun x i=>f c i fun xs h=>Q (x::xs) h
section
variable {X:Cx}{e:Expr}{es:List Expr}{te:TE}{t:TA}{pos:Pos}
theorem cK:PA X [] gT:=fun _ _ _ _ H Q I h=>Calls.spliced_nil ⟨[],H,I,.nil,h⟩
theorem eV(ha:PE X e te)(hr:PA X es t)(n:starEach (e::es) X.env=(false,eval e X.env)::starEach es X.env:=by rfl):PA X (e::es) (bx te t):=by
 intro pos c s f H Q I h
 rw[n]
 show wpAny _ _ (spliced ((false,eval e X.env)::backTo pos (starEach es X.env))) _ _ s
 refine Calls.spliced_cons (thn (ha c s f H _ I h) fun u g ⟨x,r,p,j,m⟩=>?_)
 exact thn (hr pos c g f r _ p m) fun us v ⟨xs,q,o,i,q2⟩=>⟨x::xs,q,o,.cons j i,q2⟩
def NQ(t:TA):TE:=fun f H Q=>t f H fun xs c=>xs.length<=sizeLine/\∀p,c p=none->Q (.ref p) (upd c p (.tup xs))
def NP(t:TA):TE:=fun f H Q=>t f H fun xs c=>xs.length<=sizeLine/\∀p,c p=none->Q (.ref p) (upd c p (.lst xs))
theorem eh(h:PA X es t):PE X (.Tuple es x1 pos) (NQ t):=by
 intro c s j H Q I m
 refine wpAny_Tuple_spliced (thn (h pos c s j H _ I m) fun us f ⟨xs,i,g,r,z,q⟩=>⟨by rw[<- r.length];exact z,?_⟩)
 have n:i f.heap.objs.size=none:=g.hok.fresh (Ol _)
 refine⟨.ref f.heap.objs.size,upd i f.heap.objs.size (.tup xs),g.laid (t':=f.toks) (fun b u e=>Heap.get?_push_of_some _ e) (Ol _) ?_,rfl,q _ n⟩
 exact⟨z,us,r,⟨_,Heap.get?_push_size _ rfl,rfl,_,rfl⟩⟩
theorem bt(h:PA X es t):PE X (.List es pos) (NP t):=by
 intro c s j H Q I m
 refine wpAny_List_spliced (thn (h pos c s j H _ I m) fun us f ⟨xs,i,g,r,z,q⟩=>⟨by rw[<- r.length];exact z,?_⟩)
 have n:i f.heap.objs.size=none:=g.hok.fresh (Ol _)
 refine⟨.ref f.heap.objs.size,upd i f.heap.objs.size (.lst xs),g.laid (t':=f.toks) (fun b u e=>Heap.get?_push_of_some _ e) (Ol _) ?_,rfl,q _ n⟩
 exact⟨z,us,0,r,Heap.get?_push_size _ rfl⟩
end
abbrev Sp:=List V->Hp->VK->XK->Prop
abbrev CXT:=List Env->Hp->Shared->XK->Value->Shared->Prop
structure DN(P:Program)(w:World)(K:aae)(mg:Str->Option Value)(base:Heap)(A:Around)(outer:List Env)(s:Shared)(H:Hp):Prop where
 frames:A.frames=some outer
 mod:Mod K mg base
 bs:∀b o,base.get? b=some o->s.heap.get? b=some o/\H b=none
 bsz:base.objs.size<=s.heap.objs.size
 uw:s.heap.FunFrames base outer
 frf:∀b∈frs outer,H b=none
 hok:HOk P w H s.heap
 bare:AllBare s.gens
def CE(outer:List Env)(P:Program)(w:World)(H:Hp)(s:Shared)(Q:VK)(u:Value)(c:Shared):Prop :=
 ∃v H',c.os=s.os/\AllBare c.gens/\Un (frs outer) [] H H' s.heap c.heap/\HOk P w H' c.heap/\RelV v u/\Q v H'
def CR(CX:CXT)(outer:List Env)(P:Program)(w:World)(H:Hp)(s:Shared)(Q:VK)(E:XK)(r:Result)(c:Shared):Prop :=
 match r with
 |.ok (.ret u)=>CE outer P w H s Q u c
 |.ok _=>False
 |.error e=>CX outer H s E e c
structure gP(P:Program)(w:World)(K:aae)(mg:Str->Option Value)(base:Heap)(CX:CXT)(k:Nat)(f:Addr)(fd:FuncData)(ps:List Str)(sp:Sp):Prop where
 len:∀vs H Q E,sp vs H Q E->vs.length=ps.length
 run:∀(A:Around) (outer:List Env) (s:Shared) (H:Hp) (args:Args) (us:List Value) (vs:List V) (Q:VK) (E:XK),fu k A->DN P w K mg base A outer s H->BindsTo s fd args (ps.zip us)->Vals vs us->sp vs H Q E ->
  codeAny (model P w) A (.call (.ref f) args) (CR CX outer P w H s Q E) s
theorem DN.make{P:Program}{w:World}{K:aae}{mg:Str->Option Value}{base:Heap}{A:Around}{outer:List Env}{s:Shared}{H:Hp}(e:DN P w K mg base A outer s H)(C:Addr)(us:List Value)(c:List (Str × Value)) :
  DN P w K mg base (A.under (.builtin "type.__call__" ⟨.ref C::us,c⟩)) outer s H:=⟨by first|exact e.frames|(simpa [Around.under,Code.envs,Code.isFrame,pushEnvs] using e.frames),e.mod,e.bs,e.bsz,e.uw,e.frf,e.hok,e.bare⟩
section
variable {X:Cx}{pins:List (Addr × Obj)}{σ:St}{H:Hp}{s s':Shared}
theorem Inv.Gx(I:Inv X pins σ H s):DN X.prog X.w X.K X.mg X.base X.A X.stack s H :=
 ⟨I.ok.frames,I.ok.mod,I.bs,OC I.ok.bsz I.sz,I.stack,I.EI,I.hok,I.bare⟩
theorem Inv.after(I:Inv X pins σ H s)(h:CE X.stack X.prog X.w H s Q u s'):EP X pins σ Q u s':=by
 obtain ⟨v,H',os,bare,un,hok,r,q⟩:=h
 obtain ⟨c,g,d,t,f⟩:=s'
 obtain rfl:f=s.os:=os
 exact⟨v,H',I.call (h':=c) (g':=g) (d':=d) (t':=t) (ch:=[]) un hok bare (fun b z=>absurd z (by simp)),r,q⟩
end
def tX(sp:Sp)(f:List V)(E:XK)(t:TA):TE:=fun c H Q=>t c H fun vs g=>sp (vs++f) g Q E
def Bm(C:Addr)(m:Str)(sp:Sp)(h:List V)(E:XK)(g:TE)(t:TA):TE:=fun c H Q=>g c H fun x f=>∃a dx fs,x=.ref a/\f a=some (.ins C dx fs)/\fs.lookup m=none /\
 t c f fun vs i=>sp (x::(vs++h)) i Q E
def EY(C:Addr)(sp:Sp)(g:List V)(E:XK)(t:TA):TE:=fun f H Q=>t f H fun vs c=>∀x dx,c x=none->c dx=none->dx≠x ->
 sp (.ref x::(vs++g)) (upd (upd c dx (.own x)) x (.ins C dx [])) (fun v h=>v=.non/\Q (.ref x) h) E
def Binds(K:aae)(c:FuncData)(ps:List Str)(ds:List Value):Prop :=
 ∀(s:Shared) (us:List Value),K.In s.heap->(us++ds).length=ps.length->BindsTo s c ⟨us,[]⟩ (ps.zip (us++ds))
theorem Binds.all{K:aae}{f:FuncData}{ps:List Str}(h:∀us:List Value,us.length=ps.length->bindArgs f ⟨us,[]⟩=pure (ps.zip us)):Binds K f ps []:=fun s us _ c=>by
 rw[Pb] at c ⊢
 exact .of_eq (h us c)
def Passes(CX:CXT)(X:Cx)(E:XK):Prop:=∀(c:List (Addr × Obj)) (g:St) (H:Hp) (s:Shared) (e:Value) (f:Shared),Inv X c g H s->CX X.stack H s E e f->X.xe e f
section
variable {X:Cx}{CX:CXT}{k:Nat}{f C:Addr}{fd:FuncData}{ps:List Str}{sp:Sp}{Ry:List V}{ds:List Value}{E:XK}{x m:Str}{p pos RK:Pos}{e o:Expr}{es:List Expr}{ta:TE}{t:TA}
theorem C2(F:gP X.prog X.w X.K X.mg X.base CX k f fd ps sp)(hr:fu k X.A)(hb:Binds X.K fd ps ds)(hd:Vals Ry ds)(j:Passes CX X E)
  (I:Inv X pins σ H s) (r:Vals vs us) (h:sp (vs++Ry) H Q E):wpAny (model X.prog X.w) X.A (call (.ref f) us) (EP X pins σ Q) X.xe s:=by
 have g:Vals (vs++Ry) (us++ds):=r.append hd
 have m:(us++ds).length=ps.length:=by rw[<- g.length];exact F.len _ _ _ _ h
 refine wpAny_call (codeAny_mono (F.run X.A X.stack s H ⟨us,[]⟩ (us++ds) (vs++Ry) Q E hr I.Gx (hb s us I.kIn m) g h) fun r i c=>?_)
 cases r with
 |error e=>exact j pins σ H s e i I c
 |ok n =>
  cases n with
  |ret u=>exact I.after c
  |next=>exact False.elim c
  |brk=>exact False.elim c
  |cont=>exact False.elim c
theorem ET(F:gP X.prog X.w X.K X.mg X.base CX k f fd ps sp)(hr:fu k X.A)(n:Gl X x)(hm:X.mg x=some (.ref f))(m:PySem.W.keepIn X.K (.ref f)=true)(hb:Binds X.K fd ps ds)(hd:Vals Ry ds)(j:Passes CX X E)
  (ha:PA X (e::es) t) (u:(x == ("__debug__" : Str))=false:=by decide) (o:starEach (e::es) X.env=(false,eval e X.env)::starEach es X.env:=by rfl) (v:(backTo pos (starEach es X.env)).any (·.1)=false:=by rfl) :
  PE X (.Call (.Name x p) (e::es) [] pos) (tX sp Ry E t):=by
 intro c s i H Q I h
 refine wpAny_Call_Name_kw (zu I n hm ?_ u)
 refine PySem.W.callWith_K (h₀:=X.base) I.ok.mod.kin m (thn (ha pos c s i H _ I h) fun us y ⟨vs,z,g,r,q⟩=>⟨g.kIn,?_⟩) o v
 exact C2 F hr hb hd j g r q
theorem iz(y:PE X o ta)(c:Cls X.K C)(hm:Meth X.K C m f)(F:gP X.prog X.w X.K X.mg X.base CX k f fd ps sp)(hr:fu k X.A)(hb:Binds X.K fd ps ds)(hd:Vals Ry ds)(v:Passes CX X E)(ha:PA X (e::es) t)
  (B:starEach (e::es) X.env=(false,eval e X.env)::starEach es X.env:=by rfl) (G:(backTo pos (starEach es X.env)).any (·.1)=false:=by rfl)
  (ht:eval (.Call (.Attribute o m RK) (e::es) [] pos) X.env=(do
   let ov <- eval o X.env
   standAt RK.atName
   let (f,first) <- holding [ov] (getMethod ov m pl)
   callWith pos f first (backTo pos (starEach (e::es) X.env)) (backToKw pos (keywordEach [] X.env))):=by rfl) :
  PE X (.Call (.Attribute o m RK) (e::es) [] pos) (Bm C m sp Ry E ta t):=by
 intro g s i H Q I h
 refine PySem.W.methodCall_KW (pl:=pl) (thn (y g s i H _ I h) fun u p ⟨x,J,n,rx,a,dx,fs,ex,z,l,q⟩=>?_) ht
 subst ex
 obtain rfl:u=Value.ref a:=rx
 refine u9 n z c hm l ?_
 refine PySem.W.callWith_K (first:=[.ref a]) (h₀:=X.base) I.ok.mod.kin hm.kp (thn (ha pos g p i J _ n q) fun us L ⟨vs,M,j,r,q2⟩=>⟨j.kIn,?_⟩) B G
 exact C2 (us:=.ref a::us) (vs:=.ref a::vs) F hr hb hd v j (.cons rfl r) q2
theorem B9(p:PE X o ta)(c:Cls X.K C)(hm:Meth X.K C m f)(F:gP X.prog X.w X.K X.mg X.base CX k f fd ps sp)(hr:fu k X.A)(hb:Binds X.K fd ps ds)(hd:Vals Ry ds)(n:Passes CX X E)
  (ht:eval (.Call (.Attribute o m RK) [] [] pos) X.env=(do
   let ov <- eval o X.env
   standAt RK.atName
   let (f,first) <- holding [ov] (getMethod ov m pl)
   callWith pos f first (backTo pos (starEach [] X.env)) (backToKw pos (keywordEach [] X.env))):=by rfl) :
  PE X (.Call (.Attribute o m RK) [] [] pos) (Bm C m sp Ry E ta gT):=by
 intro g s j H Q I h
 refine PySem.W.methodCall_KW (pl:=pl) (thn (p g s j H _ I h) fun u t ⟨x,v,i,rx,a,dx,fs,ex,r,l,q⟩=>?_) ht
 subst ex
 obtain rfl:u=Value.ref a:=rx
 refine u9 i r c hm l ?_
 exact PySem.W.callWith_K0 (first:=[.ref a]) i.kIn hm.kp (C2 (us:=[.ref a]) (vs:=[.ref a]) F hr hb hd n i (.cons rfl .nil) q)
structure Mk(K:aae)(C f:Addr):Prop where
 makes:PySem.W.makesIn K C=true
 init:PySem.W.findIn K (.ref C) "__init__" = some (some (.ref f))
 fn:PySem.W.isFn K (.ref f)=true
 kp:PySem.W.keepIn K (.ref C)=true
theorem HJ(M:Mk X.K C f)(F:gP X.prog X.w X.K X.mg X.base CX k f fd ps sp)(hr:fu (k+1) X.A)(hb:Binds X.K fd ps ds)(hd:Vals Ry ds)
  (n:Passes CX X E) (I:Inv X pins σ H s) (r:Vals vs us)
  (h:∀x dx,H x=none->H dx=none->dx≠x->sp (.ref x::(vs++Ry)) (upd (upd H dx (.own x)) x (.ins C dx [])) (fun v y=>v=.non/\Q (.ref x) y) E) :
  wpAny (model X.prog X.w) X.A (call (.ref C) us) (EP X pins σ Q) X.xe s:=by
 have j:=h (s.heap.objs.size+1) s.heap.objs.size (I.hok.fresh (Pk _)) (I.hok.fresh (Ol _)) (OK (PU _))
 have g:=Inv.made (C:=C) I
 have i:Vals (V.ref (s.heap.objs.size+1)::(vs++Ry)) (Value.ref (s.heap.objs.size+1)::(us++ds)):=.cons rfl (r.append hd)
 have o:(Value.ref (s.heap.objs.size+1)::us++ds).length=ps.length:=by
  have e:=i.length
  rw[F.len _ _ _ _ j] at e
  exact e.symm
 refine wpAny_call (HV (f:=f) I.kIn M.makes M.init (beq_iff_eq.mp M.fn) (codeAny_mono (F.run _ X.stack _ _ ⟨Value.ref (s.heap.objs.size+1)::us,[]⟩ (Value.ref (s.heap.objs.size+1)::(us++ds)) _ _ E (hr.make C us [])
  (g.Gx.make C us []) (hb _ (Value.ref (s.heap.objs.size+1)::us) g.kIn o) i j) fun r m c=>?_))
 cases r with
 |error e=>exact n pins σ _ _ e m g c
 |ok p =>
  cases p with
  |ret u =>
   obtain ⟨v,H',t,rv,q,q3⟩:=g.after c
   subst q
   exact⟨rv,⟨V.ref (s.heap.objs.size+1),H',t,rfl,q3⟩⟩
  |next=>exact False.elim c
  |brk=>exact False.elim c
  |cont=>exact False.elim c
theorem oB(M:Mk X.K C f)(F:gP X.prog X.w X.K X.mg X.base CX k f fd ps sp)(hr:fu (k+1) X.A)(m:Gl X x)(hm:X.mg x=some (.ref C))(hb:Binds X.K fd ps ds)(hd:Vals Ry ds)(j:Passes CX X E)
  (ha:PA X (e::es) t) (o:(x == ("__debug__" : Str))=false:=by decide) (n:starEach (e::es) X.env=(false,eval e X.env)::starEach es X.env:=by rfl) (u:(backTo pos (starEach es X.env)).any (·.1)=false:=by rfl) :
  PE X (.Call (.Name x p) (e::es) [] pos) (EY C sp Ry E t):=by
 intro c s i H Q I h
 refine wpAny_Call_Name_kw (zu I m hm ?_ o)
 refine PySem.W.callWith_K (h₀:=X.base) I.ok.mod.kin M.kp (thn (ha pos c s i H _ I h) fun us v ⟨vs,y,g,r,q⟩=>⟨g.kIn,?_⟩) n u
 exact HJ M F hr hb hd j g r q
end
def PK(X:Cx)(g:List Keyword)(t:TA):Prop :=
 ∀(pos:Pos) (c:List (Addr × Obj)) (s:Shared) (f:St) (H:Hp) (Q:List V->Hp->Prop),Inv X c f H s->t f H Q->wpAny (model X.prog X.w) X.A (evalAll ((backToKw pos (keywordEach g X.env)).map (·.2))) (AP X c f Q) X.xe s
section
variable {X:Cx}{x:Str}{pos R5:Pos}{e:Expr}{SF:List Keyword}{te:TE}{t:TA}{nm:Option Str}
theorem IS:PK X [] gT:=fun _ _ _ _ H Q I h=>wpAny_evalAll_nil ⟨[],H,I,.nil,h⟩
theorem Ft(ha:PE X e te)(hr:PK X SF t):PK X (⟨nm,e,R5⟩::SF) (bx te t):=by
 intro pos c s f H Q I h
 show wpAny _ _ (evalAll ((do let v <- eval e X.env;standAt pos;pure v)::(backToKw pos (keywordEach SF X.env)).map (·.2))) _ _ s
 refine wpAny_evalAll_cons (wpAny_bind (thn (ha c s f H _ I h) fun u g ⟨x,q,o,j,m⟩=>wpAny_bind (wpAny_standAt (wpAny_pure ?_))))
 exact thn (hr pos c g f q _ o m) fun us r ⟨xs,p,n,i,q2⟩=>⟨x::xs,p,n,.cons j i,q2⟩
end
structure bS(N P:List Str)(sc:Scope):Prop where
 kind:sc.kind=.function
 co:sc.isCoroutine=false
 gen:sc.isGenerator=false
 nd:N.Nodup
 pre:N.take P.length=P
 par:∀x∈P,sc.names.lookup x=some .local\/sc.names.lookup x=some .cell
 nofree:∀y∈sc.names,y.2≠.free
theorem yi{kindOf:Str->Option NameKind}{x:Str}:∀{binds:List (Str × Value)}{m:Str->Option Value},(∀v,(x,v)∉binds)->bindL kindOf binds m x=m x
 |[],_,_=>rfl
 |(n,v)::r,m,h=>by
  unfold bindL
  rw[yi fun w hw=>h w (gV _ hw)]
  split
  .have:x≠n:=by rintro rfl;exact h v k0
   simp [this]
  .rfl
theorem yL{kindOf:Str->Option NameKind}{x:Str}:∀{binds:List (Str × Value)}{m:Str->Option Value},(∀v,(x,v)∉binds)->bindC kindOf binds m x=m x
 |[],_,_=>rfl
 |(n,v)::r,m,h=>by
  unfold bindC
  rw[yL fun w hw=>h w (gV _ hw)]
  split
  .rfl
  .have:x≠n:=by rintro rfl;exact h v k0
   simp [this]
theorem yU{kindOf:Str->Option NameKind}{x:Str}{v:Value}:∀{P:List Str}{vs:List Value}{i:Nat}{m:Str->Option Value},P.Nodup->P[i]?=some x->vs[i]?=some v->kindOf x=some .local ->
  bindL kindOf (P.zip vs) m x=some v
 |[],_,_,_,_,h,_,_=>by simp at h
 |_::_,[],_,_,_,_,h,_=>by simp at h
 |p::P,w::vs,0,m,nd,f,c,g=>by
  simp at f c;subst f;subst c
  show bindL kindOf ((p,w)::P.zip vs) m p=_
  unfold bindL
  rw[yi fun v j=>(Om.mp nd).1 (List.of_mem_zip j).1,if_pos g]
  simp
 |p::P,w::vs,i+1,m,nd,f,c,g=>by
  show bindL kindOf ((p,w)::P.zip vs) m x=_
  unfold bindL
  exact yU (i:=i) (Om.mp nd).2 (by simpa using f) (by simpa using c) g
theorem yr{kindOf:Str->Option NameKind}{x:Str}{v:Value}:∀{P:List Str}{vs:List Value}{i:Nat}{m:Str->Option Value},P.Nodup->P[i]?=some x->vs[i]?=some v->kindOf x≠some .local ->
  bindC kindOf (P.zip vs) m x=some v
 |[],_,_,_,_,h,_,_=>by simp at h
 |_::_,[],_,_,_,_,h,_=>by simp at h
 |p::P,w::vs,0,m,nd,f,c,g=>by
  simp at f c;subst f;subst c
  show bindC kindOf ((p,w)::P.zip vs) m p=_
  unfold bindC
  rw[yL fun v j=>(Om.mp nd).1 (List.of_mem_zip j).1,if_neg g]
  simp
 |p::P,w::vs,i+1,m,nd,f,c,g=>by
  show bindC kindOf ((p,w)::P.zip vs) m x=_
  unfold bindC
  exact yr (i:=i) (Om.mp nd).2 (by simpa using f) (by simpa using c) g
def start(N:List Str)(vs:List V):St:=vs.map some++List.replicate (N.length - vs.length) none
def xR(CX:CXT)(P:Program)(w:World)(K:aae)(mg:Str->Option Value)(base:Heap)(N:List Str)(qual:Str)(scope:Scope)(f:Addr)(cd:Value)(A:Around)(outer:List Env)(s:Shared)(H:Hp)(E:XK):Cx where
 prog:=P
 w:=w
 K:=K
 mg:=mg
 base:=base
 A:=A.deeper (envOfC qual scope s.heap.objs.size f cd)
 N:=N
 s₀:=s
 H₀:=H
 env:=envOfC qual scope s.heap.objs.size f cd
 outer:=outer
 stack:=envOfC qual scope s.heap.objs.size f cd::outer
 ex:=[]
 calm:=true
 fn:=fun _=>true
 pn:=[]
 xe:=fun e g=>wpAny (model P w) (A.deeper (envOfC qual scope s.heap.objs.size f cd)) (leaving (envOfC qual scope s.heap.objs.size f cd) e) (fun _ c=>CX outer H s E e c) (fun h c=>CX outer H s E h c) g
theorem Bk{f:Scope}{n:Nat}{x:Str}(h:f.names.lookup x=some .cell):∃c,(cellsFrom n f.names []).lookup x=some c:=by
 have q:=PySem.W.cellsFrom_some f.names n [] (.inl h)
 exact Option.isSome_iff_exists.mp q
theorem FF{CX:CXT}{P:Program}{w:World}{K:aae}{mg:Str->Option Value}{base:Heap}{N ps:List Str}{qual:Str}{scope:Scope}{f:Addr}{cd:Value}{A:Around}{outer:List Env}{s C:Shared}{H:Hp}{E:XK}{us:List Value}{vs:List V}
  (S:bS N ps scope) (hd:A.handled=none) (j:DN P w K mg base A outer s H) (L:vs.length=ps.length) (r:Vals vs us)
  (x:InCallC s s.heap.objs.size (bindL (envOfC qual scope s.heap.objs.size f cd).kindOf (ps.zip us) fun _=>none) (cellsFrom (s.heap.objs.size+1) scope.names []) (bindC (envOfC qual scope s.heap.objs.size f cd).kindOf (ps.zip us) fun _=>none) C) :
  Inv (xR CX P w K mg base N qual scope f cd A outer s H E) [] (start N vs) H C:=by
 have O:ps.length<=N.length:=by have:=congrArg List.length S.pre;rw[P4] at this;omega
 obtain ⟨t,J,rfl,G⟩:=x.done
 have B:∀b:Addr,b∉(xR CX P w K mg base N qual scope f cd A outer s H E).ex:=fun b z=>absurd (show b∈([]:List Addr) from z) (by simp)
 refine⟨⟨j.mod,S.kind,rfl,rfl,Ol _,fun y z c t g=>?_,fun y m=>?_,fun y c _ h=>?_,fun _=>hd,Around.frames_deeper j.frames,.inr ⟨rfl,rfl⟩,fun b z=>absurd z (B b),j.bs,j.bsz,fun b _ _=>B b,fun b z=>absurd z (B b),j.uw,j.frf⟩,
  rfl,j.bare,Un.kept G,⟨_,x.toInCall.ns,fun i y v t g M=>?_⟩,fun y c h=>⟨_,x.cell y c h⟩,j.hok.fresh (Ol _),fun y c h=>?_,fun p o=>absurd (show p∈([]:List (Addr × Obj)) from o) (by simp),j.hok.kept G,?_⟩
 .exact name_of_addr x.apart (OW t) (OW g)
 .have m:scope.names.lookup y=some .cell\/scope.names.lookup y=some .free:=m
  rcases m with m|m
  .exact Bk m
  .exact absurd rfl (S.nofree _ (OW m))
 .exact QF (x.above y c (OW h))
 .have hi:i<vs.length:=by
   unfold start at g
   by_cases hi:i<vs.length
   .exact hi
   .rw[OI (by simpa using hi)] at g
    rw[O5] at g
    split at g<;>cases g
  have ha:vs[i]?=some v:=by
   unfold start at g
   rw[OE (by simpa using hi),ox] at g
   cases e:vs[i]? with
   |none=>rw[e] at g;cases g
   |some a=>rw[e] at g;cases g;rfl
  obtain ⟨u,F,rv⟩:=r.get ha
  have o:ps[i]?=some y:=by
   rw[<- S.pre,List.getElem?_take_of_lt ()];exact t
  have I:ps.Nodup:=by rw[<- S.pre];exact S.nd.sublist (List.take_sublist _ _)
  refine⟨u,rv,?_⟩
  rcases S.par y (OV o) with k|k
  .exact .inl ⟨k,yU I o F k⟩
  .obtain ⟨c,e⟩:=Bk (n:=s.heap.objs.size+1) k
   refine .inr ⟨.inl k,c,e,?_⟩
   have q:=x.cell y c e
   rw[yr I o F (by show scope.names.lookup y≠_;rw[k];decide)] at q
   exact q
 .exact j.hok.fresh (QF (x.above y c (OW h)))
 .unfold start
  show _=N.length
  rw[Ox,dz,OH]
  omega
theorem Lq{CX:CXT}{P:Program}{w:World}{K:aae}{mg:Str->Option Value}{base:Heap}{k:Nat}{f:Addr}{name qual:Str}{O:Arguments}{z:List Stmt}{scope:Scope}{F kV i C c ct U:Value}{G T:Option Addr}
  {m:Array (Option Value)}{N ps:List Str}{sp:Sp} (lk:K.lookup f=some ⟨U,T,.func (PySem.W.fnOf name qual O z scope F kV i C G c ct),m⟩) (Q9:PySem.W.codeIn K c qual=true) (S:bS N ps scope)
  (len:∀vs H Q E,sp vs H Q E->vs.length=ps.length)
  (RX:∀(A:Around) (outer:List Env) (s:Shared) (H:Hp) (vs:List V) (Q:VK) (E:XK),fu k (A.deeper (envOfC qual scope s.heap.objs.size f c))->sp vs H Q E ->
   ∃t,PSs (xR CX P w K mg base N qual scope f c A outer s H E) z t/\t { nx:=fun _ H'=>Q .non H',rt:=Q } (start N vs) H) :
  gP P w K mg base CX (k+1) f (PySem.W.fnOf name qual O z scope F kV i C G c ct) ps sp:=by
 refine⟨len,fun A outer s H args us vs Q E hr h hb r L=>?_⟩
 have Z:=len _ _ _ _ L
 have R:K.In s.heap:=h.mod.kin.keeps fun b o e=>(h.bs b o e).1
 have p:s.heap.NoLimit:=h.mod.nolimit.keeps fun b o e=>(h.bs b o e).1
 have Vc:∀y∈ps.zip us,scope.names.lookup y.1=some .local\/(scope.names.lookup y.1=some .cell/\((cellsFrom (s.heap.objs.size+1) scope.names []).lookup y.1).isSome=true):=fun ⟨n,v⟩ X=>by
  rcases S.par n (List.of_mem_zip X).1 with q|q
  .exact .inl q
  .exact .inr ⟨q,PySem.W.cellsFrom_some _ _ _ (.inl q)⟩
 refine codeAny_call_function hr.depth (R _ _ lk) rfl S.co S.gen rfl (PySem.W.codeRec_of R Q9) (hb _ _ _ _ ?_)
 refine wpAny_newFunctionEnv_cells S.kind Vc fun env he B x=>?_
 subst he
 refine⟨p.keeps x.toInCall.keep,codeAny_func ?_⟩
 obtain ⟨t,ht,Y⟩:=RX A outer s H vs Q E (hr.deeper _) L
 have I:Inv (xR CX P w K mg base N qual scope f c A outer s H E) [] (start N vs) H B:=FF S hr.hd h Z r x
 refine wpAny_mono (ht [] B (start N vs) H _ I Y) (fun fl j g=>?_) fun e j g=>g
 have M:∀{σ':St}{H':Hp}{v:V}{u:Value},Inv (xR CX P w K mg base N qual scope f c A outer s H E) [] σ' H' j->RelV v u->Q v H'->CE outer P w H s Q u j :=
  fun {σ' H' v u} J rv q=>⟨v,H',J.os,J.bare,J.base,J.hok,rv,q⟩
 cases fl with
 |ret u =>
  obtain ⟨v,σ',H',J,rv,q⟩:=g
  exact M J rv q
 |next =>
  obtain ⟨σ',H',J,q⟩:=g
  exact M (v:=V.non) (u:=Value.none) J rfl q
 |brk =>
  obtain ⟨_,_,_,q⟩:=g
  exact False.elim q
 |cont =>
  obtain ⟨_,_,_,q⟩:=g
  exact False.elim q
section
variable {X:Cx}{x:Str}{p pos:Pos}{e:Expr}{es:List Expr}{t:TA}{id T:String}{r:List V->Hp->VK->Prop}
def tCB(r:List V->Hp->VK->Prop)(t:TA):TE:=fun c H Q=>t c H fun vs f=>r vs f Q
theorem az(q:gG X (.builtin id) r)(n:Gl X x)(hm:X.mg x=none)(m:bootBuiltins x=some (.builtin id))(ha:PA X (e::es) t)(hn:x≠"__name__":=by decide)(u:(x == ("__debug__" : Str))=false:=by decide)
  (o:starEach (e::es) X.env=(false,eval e X.env)::starEach es X.env:=by rfl) (v:(backTo pos (starEach es X.env)).any (·.1)=false:=by rfl):PE X (.Call (.Name x p) (e::es) [] pos) (tCB r t):=by
 intro c s f H Q I h
 refine wpAny_Call_Name_kw (hX I n hm m ?_ hn u)
 exact PyProof.Rows.callWith_builtin1 (thn (ha pos c s f H _ I h) fun us g ⟨vs,z,y,i,j⟩=>q c g f z vs us Q y i j) o v
theorem bD(q:gG X (.type T) r)(n:Gl X x)(hm:X.mg x=none)(m:bootBuiltins x=some (.type T))(ha:PA X (e::es) t)(hn:x≠"__name__":=by decide)(u:(x == ("__debug__" : Str))=false:=by decide)
  (o:starEach (e::es) X.env=(false,eval e X.env)::starEach es X.env:=by rfl) (v:(backTo pos (starEach es X.env)).any (·.1)=false:=by rfl):PE X (.Call (.Name x p) (e::es) [] pos) (tCB r t):=by
 intro c s f H Q I h
 refine wpAny_Call_Name_kw (hX I n hm m ?_ hn u)
 exact O2 (thn (ha pos c s f H _ I h) fun us g ⟨vs,z,y,i,j⟩=>q c g f z vs us Q y i j) o v
end
end L2
namespace HT
open PySem PyProof.Rows
theorem IU(A:Around)(s:Shared)(a:Int)(t:Tok)(c:Int)(u:Tok)(prog:Program)(w:World)(E:Value->Shared->Prop)(Q:Value->Shared->Prop)(h:Q (.bool (decide (a<c))) s) :
  wpAny (model prog w) A (richCompare .Lt (.int a t) (.int c u)) Q E s :=
 (PyProof.Rows.lt_int h:wpAny (model prog w) A (compareOp .Lt (.int a t) (.int c u)) Q E s)
section
def sIx(n d:Nat):Option Int->Nat
 |none=>d
 |some v=>if v<0 then (v+(n:Int)).toNat else min v.toNat n
theorem mY(n d:Nat):sIx n d none=d:=rfl
theorem qf(n d k:Nat):sIx n d (some (k:Int))=min k n:=by
 show (if (k:Int)<0 then ((k:Int)+(n:Int)).toNat else min (k:Int).toNat n)=min k n
 rw[if_neg (),Oh]
end
end HT
namespace L2
open PySem PySem.Spec PyProof.Rows
abbrev TO:=St->Hp->(Option Int->Hp->Prop)->Prop
def PO(X:Cx)(e:Option Expr)(t:TO):Prop :=
 ∀(c:List (Addr × Obj)) (s:Shared) (f:St) (H:Hp) (Q:Option Int->Hp->Prop),Inv X c f H s->t f H Q ->
  wpAny (model X.prog X.w) X.A (evalPart e X.env) (fun u g=>∃o H',Inv X c f H' g/\IsPart u o/\Q o H') X.xe s
def Fi:TO:=fun _ H Q=>Q none H
def LI(t:TE):TO:=fun c H Q=>t c H fun x f=>∃i,x=.int i/\Q (some i) f
section
variable {X:Cx}{e:Expr}{te:TE}{lo hi:Option Expr}{tl th:TO}{pos p2:Pos}
theorem lO:PO X none Fi:=by
 intro c s f H Q I h
 rw[evalPart_none]
 exact wpAny_pure ⟨none,H,I,.none,h⟩
theorem l6(h:PE X e te):PO X (some e) (LI te):=by
 intro c s f H Q I hw
 rw[evalPart_some]
 refine thn (h c s f H _ I hw) fun u o ⟨x,n,m,g,j⟩=>?_
 obtain ⟨i,rfl,q⟩:=j
 obtain ⟨t,rfl⟩:=g
 exact⟨some i,n,m,.int i t,q⟩
def SlR(X:Cx)(r:V->Option Int->Option Int->Hp->VK->Prop):Prop :=
 ∀(c:List (Addr × Obj)) (s:Shared) (f:St) (H:Hp) (x:V) (v h g:Value) (lo hi:Option Int) (sl:Addr) (Q:VK),Inv X c f H s->RelV x v->s.heap.IsSliceOf sl h g .none->IsPart h lo->IsPart g hi->r x lo hi H Q ->
  ∃T id,typeLookup (.type T) "__getitem__" = pure (some (.builtin id))/\s.TypeIs v T/\wpAny (model X.prog X.w) X.A (getItem v (.ref sl)) (EP X c f Q) X.xe s
def tSl(r:V->Option Int->Option Int->Hp->VK->Prop)(h:TE)(f g:TO):TE:=fun c H Q=>h c H fun x m=>f c m fun l j=>g c j fun u i=>r x l u i Q
theorem jJ(hr:SlR X r)(E:PE X e te)(B:PO X lo tl)(z:PO X hi th):PE X (.Subscript e (.Slice lo hi none p2) pos) (tSl r te tl th):=by
 intro c s g H Q I h
 refine Subscript_ (thn (E c s g H _ I h) fun v o ⟨x,P,M,p,t⟩=>?_)
 refine wpAny_Slice (thn (B c o g P _ M t) fun j n ⟨l,O,L,pl,q2⟩=>thn (z c n g O _ L q2) fun i f ⟨u,m,J,y,q3⟩=>?_)
 rw[evalPart_none]
 refine wpAny_pure ?_
 have G:Inv X c g m { f with heap:=f.heap.push { cls:=.type "slice",data:=.fields #[j,i,.none] } }:=J.kept (t':=f.toks) fun b ob q=>Heap.get?_push_of_some _ q
 obtain ⟨T,id,F,ht,C⟩:=hr c { f with heap:=f.heap.push { cls:=.type "slice",data:=.fields #[j,i,.none] } } g m x v j i l u f.heap.objs.size Q G p (Heap.IsSliceOf.new ..) pl y q3
 show wpAny (model X.prog X.w) X.A (subscriptTail e (.Slice lo hi none p2) v (.ref f.heap.objs.size)) (EP X c g Q) X.xe { f with heap:=f.heap.push { cls:=.type "slice",data:=.fields #[j,i,.none] } }
 exact tail_any (ops:=[.ref f.heap.objs.size,v]) ht F C (by with_unfolding_all rfl)
def FZ(xs:List V)(lo hi:Option Int):List V:=(xs.drop (HT.sIx xs.length 0 lo)).take (HT.sIx xs.length xs.length hi - HT.sIx xs.length 0 lo)
theorem BK(xs:List V)(lo hi:Option Int):(FZ xs lo hi).length<=xs.length:=by
 unfold FZ
 rw[P4,Pg]
 omega
end
def ixN(n:Nat)(i:Int):Option Nat:=if 0<=i then (if i<n then some i.toNat else none) else if -(n:Int)<=i then some (i+n).toNat else none
def atI{c:Type}(xs:List c)(i:Int):Option c:=(ixN xs.length i).bind fun j=>xs[j]?
theorem EG(h:ixN n i=some j):seqIndex? i n=some j/\j<n/\-(n:Int)<=i/\i<n:=by
 unfold ixN at h
 by_cases f:0<=i
 .rw[if_pos f] at h
  by_cases c:i<n
  .rw[if_pos c] at h
   have e:i.toNat=j:=OJ h
   exact⟨by rw[seqIndex_of f c,e],(),(),c⟩
  .rw[if_neg c] at h;cases h
 .rw[if_neg f] at h
  by_cases c : -(n:Int)<=i
  .rw[if_pos c] at h
   have e:(i+n).toNat=j:=OJ h
   exact⟨by rw[seqIndex_neg () c,e],(),c,()⟩
  .rw[if_neg c] at h;cases h
theorem Fz{c:Type}{xs:List c}{i:Int}{v:c}(h:atI xs i=some v):∃j,seqIndex? i xs.length=some j/\xs[j]?=some v/\j<xs.length/\-(xs.length:Int)<=i/\i<xs.length:=by
 unfold atI at h
 cases e:ixN xs.length i with
 |none=>rw[e] at h;cases h
 |some j =>
  rw[e] at h
  obtain ⟨n,m,g,f⟩:=EG e
  exact⟨j,n,h,m,g,f⟩
def Ai(b:Expr):Prop:=∀o i,subscripted b false o i=operate [o,i] (getItem o i)
def IxR(X:Cx)(r:R2):Prop :=
 ∀(h c:Expr) (f:List (Addr × Obj)) (s:Shared) (g:St) (H:Hp) (x y:V) (v u:Value) (Q:VK),Inv X f g H s->RelV x v->RelV y u->r x y H Q ->
  subscripted c false v u=operate [v,u] (getItem v u)->wpAny (model X.prog X.w) X.A (subscriptTail h c v u) (EP X f g Q) X.xe s
def MtR(X:Cx)(id:String)(r:V->List V->Hp->VK->Prop):Prop :=
 ∀(c:List (Addr × Obj)) (s:Shared) (f:St) (H:Hp) (x:V) (xs:List V) (v:Value) (us:List Value) (Q:VK),Inv X c f H s->RelV x v->Vals xs us->r x xs H Q ->
  wpAny (model X.prog X.w) X.A (call (.builtin id) (v::us)) (EP X c f Q) X.xe s
section
variable {X:Cx}{a b:Expr}{ta tb:TE}{pos:Pos}
theorem Hd(hr:IxR X r)(ha:PE X a ta)(hb:PE X b tb)(i:Ai b):PE X (.Subscript a b pos) (tOp r ta tb):=by
 intro c s f H Q I h
 exact Subscript_ (LV ha hb I h fun v u g x y m j rx ry q=>hr a b c g f m x y v u Q j rx ry q (i _ _))
def x9(K:aae):R2:=fun x y H Q=>∃p xs i v,x=.ref p/\y=.int i/\SqL K H p xs/\atI xs i=some v/\Q v H
def xP(K:aae):R2:=fun x y H Q=>∃p xs i v,x=.ref p/\y=.int i/\SqT K H p xs/\atI xs i=some v/\Q v H
theorem JA:IxR X (x9 X.K):=by
 intro Y g c s m H x y v u Q I rx ry h n
 obtain ⟨p,xs,i,z,rfl,rfl,F,J,q⟩:=h
 cases rx
 obtain ⟨t,rfl⟩:=ry
 obtain ⟨R,r,pl,T⟩:=I.list F
 obtain ⟨j,f,O,U,M,L⟩:=Fz J
 obtain ⟨w,B,P⟩:=r.get O
 have G:=r.length
 have hn:=zb
 have C:EP X c m Q w s:=⟨z,H,I,P,q⟩
 by_cases o:0<=i
 .have hj:i.toNat=j:=by
   rw[seqIndex_of o L] at f
   exact OJ f
  exact item_listR pl.isList o () (by rw[hj];simpa using B) C n
 .have hj:(i+(R.toArray.size:Int)).toNat=j:=by
   rw[seqIndex_neg () M] at f
   rw[OG,<- G]
   exact OJ f
  exact subscriptTail_builtinR (x:=w) pl.isList.typeIs slot_list_getitem.lookup
   (wpAny_getItem_list_neg (Q:=fun r E=>r=w/\EP X c m Q r E) pl.isList () (by rw[OG]<;>omega) () (by rw[hj];simpa using B) ⟨rfl,C⟩) n
theorem ME:IxR X (xP X.K):=by
 intro T f c s g H x y v u Q I rx ry h n
 obtain ⟨p,xs,i,z,rfl,rfl,o,C,q⟩:=h
 cases rx
 obtain ⟨t,rfl⟩:=ry
 obtain ⟨U,r,pl,M⟩:=I.tuple o
 obtain ⟨j,F,E,R,P,O⟩:=Fz C
 obtain ⟨w,G,J⟩:=r.get E
 have B:=r.length
 have hn:=zb
 have L:EP X c g Q w s:=⟨z,H,I,J,q⟩
 exact subscriptTail_builtinR (x:=w) pl.typeIs slot_tuple_getitem.lookup
  (getItem_tuple (j:=j) (Q:=fun r m=>r=w/\EP X c g Q r m) pl () () (by rw[OG,<- B];exact F) (by simpa using G) ⟨rfl,L⟩) n
theorem DF(c:List Value)(n j:Nat)(u:Value):Obj.mapSeq (·.setIfInBounds j u) { cls:=.type "list",data:=.seq c.toArray n }={ cls:=.type "list",data:=.seq (c.set j u).toArray n }:=by
 simp [Obj.mapSeq]
theorem Inv.lst(I:Inv X pins σ H s)(h:H p=some (.lst xs)) :
  ∃(c:List Value) (n:Nat),Vals xs c/\s.heap.get? p=some { cls:=.type "list",data:=.seq c.toArray n }/\xs.length<=sizeLine:=by
 obtain ⟨z,c,n,r,e⟩:=I.hok p _ h
 exact⟨c,n,r,e,z⟩
theorem Inv.L5{c:List (Addr × Obj)}{i:St}{H:Hp}{s:Shared}{p:Addr}{xs ys:List V}{m its':List Value}{n g:Nat}{f:Obj->Obj}(I:Inv X c i H s)(h:H p=some (.lst xs))
  (v:s.heap.get? p=some { cls:=.type "list",data:=.seq m.toArray n }) (j:f { cls:=.type "list",data:=.seq m.toArray n }={ cls:=.type "list",data:=.seq its'.toArray g }) (r:Vals ys its') (o:ys.length<=sizeLine) (t:Nat) :
  Inv X c i (upd H p (.lst ys)) { s with heap:=s.heap.update p f,toks:=t }:=by
 have e:(s.heap.update p f).get? p=some { cls:=.type "list",data:=.seq its'.toArray g }:=by
  rw[Heap.get?_update_self f v (by rw[j]<;>rfl),j]
 refine I.write (x:=p) (e:=p) (by rw[h];trivial) (.inl rfl) (fun b u hb q=>(Heap.get?_update_other _ _ (OT hb)).trans q) ⟨_,e⟩ ?_
 exact⟨o,its',g,r,e⟩
def yJ:V->V->V->Hp->(Hp->Prop)->Prop:=fun o i v H Q=>∃p xs k j,o=.ref p/\i=.int k/\H p=some (.lst xs)/\ixN xs.length k=some j/\Q (upd H p (.lst (xs.set j v)))
theorem set_list:M4 X yJ:=by
 intro c s G H o i v L M u Q I ro ri rv h
 obtain ⟨p,xs,k,j,rfl,rfl,y,hj,q⟩:=h
 cases ro
 obtain ⟨t,rfl⟩:=ri
 obtain ⟨E,n,r,g,J⟩:=I.lst y
 obtain ⟨f,O,B,z⟩:=EG hj
 have m:=r.length
 have hn:=zb
 have F:Inv X c G (upd H p (.lst (xs.set j v))) { s with heap:=s.heap.update p (Obj.mapSeq (·.setIfInBounds j u)) } :=
  I.L5 y g (DF E n j u) (r.set rv j) (by rw[OS];exact J) s.toks
 by_cases C:0<=k
 .have x:k.toNat=j:=by
   rw[seqIndex_of C z] at f
   exact OJ f
  exact PySem.W.ki_setAt g C () (by rw[OG,<- m];exact z) (by rw[x];exact⟨_,F,q⟩)
 .have x:(k+(E.toArray.size:Int)).toNat=j:=by
   rw[seqIndex_neg () B] at f
   rw[OG,<- m]
   exact OJ f
  exact PySem.W.ki_setBack g () (by rw[OG,<- m];exact B) () (by rw[x];exact⟨_,F,q⟩)
theorem zT(lo hi:Option Int)(n:Nat):(sliceBounds lo hi none n).1=((HT.sIx n 0 lo:Nat):Int)/\(sliceBounds lo hi none n).2.1=((HT.sIx n n hi:Nat):Int)/\(sliceBounds lo hi none n).2.2=1:=by
 refine⟨?_,?_,rfl⟩
 .cases lo with
  |none=>simp [sliceBounds,HT.sIx]
  |some i =>
   simp only[sliceBounds,HT.sIx,Option.getD_none,show (1:Int)>0 by decide,if_true]
   by_cases h:i<0
   .simp only[h,if_true]<;>omega
   .simp only[h,if_false]<;>omega
 .cases hi with
  |none=>simp [sliceBounds,HT.sIx]
  |some i =>
   simp only[sliceBounds,HT.sIx,Option.getD_none,show (1:Int)>0 by decide,if_true]
   by_cases h:i<0
   .simp only[h,if_true]<;>omega
   .simp only[h,if_false]<;>omega
theorem xK(c:List Value)(lo hi:Option Int):slicePick c.toArray lo hi none=((c.drop (HT.sIx c.length 0 lo)).take (HT.sIx c.length c.length hi - HT.sIx c.length 0 lo)).toArray:=by
 obtain ⟨h,g,f⟩:=zT lo hi c.toArray.size
 unfold slicePick
 rw[h,g,f]
 simp only[sliceRange_one,pick_run,OG]<;>rfl
def LS(K:aae):V->Option Int->Option Int->Hp->VK->Prop:=fun x lo hi H Q=>∃a xs,x=.ref a/\SqL K H a xs/\∀p,H p=none->Q (.ref p) (upd H p (.lst (FZ xs lo hi)))
theorem Kf:SlR X (LS X.K):=by
 intro c s n H x v t p lo hi sl Q I rx j pl f h
 obtain ⟨a,xs,rfl,i,q⟩:=h
 cases rx
 obtain ⟨u,r,ht,g⟩:=I.list i
 have m:=r.length
 refine⟨"list",_,slot_list_getitem.lookup,ht.isList.typeIs,?_⟩
 refine wpAny_getItem_list_slice ht.isList j pl f .none (by simp) ?_ (by rw[OG]<;>omega)
 rw[xK,<- m]
 refine⟨.ref s.heap.objs.size,_,I.laid (t':=s.toks) (o:=.lst (FZ xs lo hi)) (fun b ob q=>Heap.get?_push_of_some _ q) (Ol _) ?_,rfl,q _ (I.hok.fresh (Ol _))⟩
 exact⟨OC (BK xs lo hi) g,_,0,(r.drop (HT.sIx xs.length 0 lo)).take (HT.sIx xs.length xs.length hi - HT.sIx xs.length 0 lo),Heap.get?_push_size _ rfl⟩
def gR:V->Bool
 |.non=>true
 |.bl _=>true
 |.int _=>true
 |.str _=>true
 |_=>false
def eqV:V->V->Bool
 |.non,.non=>true
 |.bl a,.bl b=>a == b
 |.bl a,.int b=>(if a then 1 else 0) == b
 |.int a,.bl b=>a == (if b then 1 else 0)
 |.int a,.int b=>a == b
 |.str a,.str b=>a == b
 |_,_=>false
theorem M9(ry:RelV y u)(rx:RelV x v)(f:gR y=true)(c:gR x=true):SeqAt.EqAt A s u v (eqV y x):=by
 cases y with
 |non =>
  cases ry
  cases x with
  |non=>cases rx;exact SeqAt.EqAt.same _
  |bl b=>cases rx;exact SeqAt.EqAt.none_bool b
  |int b=>obtain ⟨t,rfl⟩:=rx;exact SeqAt.EqAt.none_int b t
  |str b=>obtain ⟨t,rfl⟩:=rx;exact SeqAt.EqAt.none_str b t
  |_=>exact absurd (show false=true from c) Oz
 |bl a =>
  cases ry
  cases x with
  |non=>cases rx;exact SeqAt.EqAt.bool_none a
  |bl b=>cases rx;exact SeqAt.EqAt.bool_bool a b
  |int b=>obtain ⟨t,rfl⟩:=rx;exact SeqAt.EqAt.bool_int a b t
  |str b=>obtain ⟨t,rfl⟩:=rx;exact SeqAt.EqAt.bool_str a b t
  |_=>exact absurd (show false=true from c) Oz
 |int a =>
  obtain ⟨t',rfl⟩:=ry
  cases x with
  |non=>cases rx;exact SeqAt.EqAt.int_none a t'
  |bl b=>cases rx;exact SeqAt.EqAt.int_bool a t' b
  |int b=>obtain ⟨t,rfl⟩:=rx;exact SeqAt.EqAt.int_int a t' b t
  |str b=>obtain ⟨t,rfl⟩:=rx;exact SeqAt.EqAt.int_str a t' b t
  |_=>exact absurd (show false=true from c) Oz
 |str a =>
  obtain ⟨t',rfl⟩:=ry
  cases x with
  |non=>cases rx;exact SeqAt.EqAt.str_none a t'
  |bl b=>cases rx;exact SeqAt.EqAt.str_bool a t' b
  |int b=>obtain ⟨t,rfl⟩:=rx;exact SeqAt.EqAt.str_int a t' b t
  |str b=>obtain ⟨t,rfl⟩:=rx;exact SeqAt.EqAt.str_str a t' b t
  |_=>exact absurd (show false=true from c) Oz
 |_=>exact absurd (show false=true from f) Oz
def eqU(x:V)(u:Value):Bool:=match u with
 |.none=>eqV .non x
 |.bool b=>eqV (.bl b) x
 |.int i _=>eqV (.int i) x
 |.str z _=>eqV (.str z) x
 |_=>false
theorem Dz(r:RelV y u)(f:gR y=true):eqU x u=eqV y x:=by
 cases y with
 |non=>cases r;rfl
 |bl b=>cases r;rfl
 |int i=>obtain ⟨t,rfl⟩:=r;rfl
 |str z=>obtain ⟨t,rfl⟩:=r;rfl
 |_=>exact absurd (show false=true from f) Oz
theorem qO{x:V}:∀{xs:List V}{us:List Value},Vals xs us->xs.all gR=true->us.any (eqU x)=xs.any fun y=>eqV y x
 |_,_,.nil,_=>rfl
 |y::xs,u::us,.cons r t,f=>by
  rw[Qu,Pj] at f
  rw[List.any_cons,List.any_cons,Dz r f.1,qO t f.2]
theorem lE{A:Around}{s:Shared}{x:V}{v:Value}(rx:RelV x v)(g:gR x=true):∀{xs:List V}{us:List Value},Vals xs us->xs.all gR=true->∀u∈us,SeqAt.EqAt A s u v (eqU x u)
 |_,_,.nil,_=>fun u c=>by cases c
 |y::xs,u::us,.cons r t,f=>fun h c=>by
  rw[Qu,Pj] at f
  rcases KE.mp c with rfl|c
  .rw[Dz r f.1];exact M9 r rx f.1 g
  .exact lE rx g t f.2 h c
def inV(x:V)(xs:List V):Bool:=xs.any fun y=>eqV y x
def rIn(K:aae)(c:Bool):R2:=fun x y H Q=>∃p xs,y=.ref p/\(SqL K H p xs\/SqT K H p xs)/\gR x=true/\xs.all gR=true/\Q (.bl (if c then !inV x xs else inV x xs)) H
theorem GG:OpR X (compareOp .In) (rIn X.K false):=by
 intro g s m H x y v u Q I rx ry h
 obtain ⟨p,xs,rfl,c,i,fs,q⟩:=h
 cases ry
 rcases c with c|c
 .obtain ⟨f,r,pl,j⟩:=I.list c
  refine SeqAt.in_listAt (eqU x) pl.isList (fun w hw=>lE rx i r fs w (by simpa using hw)) ⟨.bl _,H,I,rfl,?_⟩
  rw[show f.toArray.any (eqU x)=f.any (eqU x) by simp,qO r fs]
  exact q
 .obtain ⟨f,r,pl,j⟩:=I.tuple c
  refine SeqAt.in_tupleAt (eqU x) pl (fun w hw=>lE rx i r fs w (by simpa using hw)) ⟨.bl _,H,I,rfl,?_⟩
  rw[show f.toArray.any (eqU x)=f.any (eqU x) by simp,qO r fs]
  exact q
theorem zK:OpR X (compareOp .NotIn) (rIn X.K true):=by
 intro g s m H x y v u Q I rx ry h
 obtain ⟨p,xs,rfl,c,i,fs,q⟩:=h
 cases ry
 rcases c with c|c
 .obtain ⟨f,r,pl,j⟩:=I.list c
  refine SeqAt.notIn_listAt (eqU x) pl.isList (fun w hw=>lE rx i r fs w (by simpa using hw)) ⟨.bl _,H,I,rfl,?_⟩
  rw[show f.toArray.any (eqU x)=f.any (eqU x) by simp,qO r fs]
  exact q
 .obtain ⟨f,r,pl,j⟩:=I.tuple c
  refine SeqAt.notIn_tupleAt (eqU x) pl (fun w hw=>lE rx i r fs w (by simpa using hw)) ⟨.bl _,H,I,rfl,?_⟩
  rw[show f.toArray.any (eqU x)=f.any (eqU x) by simp,qO r fs]
  exact q
theorem Aa:gG X (.builtin "len") (fun xs H Q=>∃p ys,xs=[.ref p]/\(SqL X.K H p ys\/SqT X.K H p ys)/\Q (.int ys.length) H):=by
 intro i s n H xs us Q I r h
 obtain ⟨p,ys,rfl,c,q⟩:=h
 obtain ⟨u,rfl,rx⟩:=vals1 r
 cases rx
 have hn:=zb
 rcases c with c|c
 .obtain ⟨m,f,pl,j⟩:=I.list c
  have g:=f.length
  exact Calls.call_len_list pl.isList (by simp only[OG]<;>omega) ⟨.int ys.length,H,I.tok _,⟨s.toks+1,by rw[OG,g]⟩,q⟩
 .obtain ⟨m,f,pl,j⟩:=I.tuple c
  have g:=f.length
  exact len_tuple pl (by simp only[OG]<;>omega) ⟨.int ys.length,H,I.tok _,⟨s.toks+1,by rw[OG,g]⟩,q⟩
theorem Ao:gG X (.type "list") (fun xs H Q=>∃p ys,xs=[.ref p]/\(SqL X.K H p ys\/SqT X.K H p ys)/\∀l,H l=none->Q (.ref l) (upd H l (.lst ys))):=by
 intro i s z H xs us Q I r h
 obtain ⟨p,ys,rfl,m,q⟩:=h
 obtain ⟨u,rfl,rx⟩:=vals1 r
 cases rx
 have y:∀(c:List Value),Vals ys c->ys.length<=sizeLine->∀(h':Heap) (g:Nat),(∀b x,s.heap.get? b=some x->h'.get? b=some x) ->
   h'.get? s.heap.objs.size=some { cls:=.type "list",dict:=none,data:=.seq c.toArray g,slots:=#[] }->EP X i z Q (.ref s.heap.objs.size) { s with heap:=h' }:=fun c f j h' g kp e =>
  ⟨.ref s.heap.objs.size,_,I.laid (t':=s.toks) kp (Ol _) (show bI X.prog X.w _ h' _ (.lst ys) from ⟨j,c,g,f,e⟩),rfl,q _ (I.hok.fresh (Ol _))⟩
 rcases m with m|m
 .obtain ⟨c,f,pl,j⟩:=I.list m
  have B:=f.length
  obtain ⟨o,t,v,n,hd⟩:=pl.isList
  exact call_list_seq p (.inl rfl) t v hd (fun h' g kp e=>y c f j h' g kp e) (by simp only[OG]<;>omega)
 .obtain ⟨c,f,pl,j⟩:=I.tuple m
  have B:=f.length
  obtain ⟨o,t,v,n,hd⟩:=pl
  exact call_list_seq p (.inr rfl) t v hd (fun h' g kp e=>y c f j h' g kp e) (by simp only[OG]<;>omega)
theorem x8:gG X (.type "tuple") (fun xs H Q=>∃p ys,xs=[.ref p]/\((SqL X.K H p ys/\∀l,H l=none->Q (.ref l) (upd H l (.tup ys)))\/(SqT X.K H p ys/\Q (.ref p) H))):=by
 intro c s j H xs us Q I r h
 obtain ⟨p,ys,rfl,h⟩:=h
 obtain ⟨u,rfl,rx⟩:=vals1 r
 cases rx
 rcases h with ⟨g,q⟩|⟨g,q⟩
 .obtain ⟨i,f,pl,m⟩:=I.list g
  have v:=f.length
  refine call_tuple_list pl.isList (fun h' kp=>?_) (by simp only[OG]<;>omega)
  have n:Inv X c j H { s with heap:=h' }:=I.kept (t':=s.toks) kp
  have t:Inv X c j (upd H h'.objs.size (.tup ys)) { s with heap:=h'.push { cls:=.type "tuple",data:=.seq i.toArray } } :=
   n.laid (t':=s.toks) (fun b o e=>Heap.get?_push_of_some _ e) (Ol _) (show bI X.prog X.w _ _ _ (.tup ys) from ⟨m,i,f,IsTup.new _ _⟩)
  exact⟨.ref h'.objs.size,_,t,rfl,q _ (n.hok.fresh (Ol _))⟩
 .obtain ⟨i,f,pl,m⟩:=I.tuple g
  exact call_tuple_same pl ⟨.ref p,H,I,rfl,q⟩
def tyV(K:aae)(T:String)(x:V)(H:Hp):Prop:=match x with
 |.str _=>T = "str"
 |.int _=>T = "int"
 |.ref p=>(T = "list"/\∃xs,SqL K H p xs)\/(T = "tuple"/\∃o,K.lookup p=some o/\o.cls=.type "tuple"/\o.dict=none) \/
   (T = "dict"/\((∃kvs,H p=some (.dK kvs))\/∃kvs,H p=some (.dT kvs)))\/(T = "set"/\∃S n,H p=some (.set S n))
 |_=>False
theorem LU(I:Inv X pins σ H s)(r:RelV x v)(ty:tyV X.K T x H) :
  s.TypeIs v T/\∀a,v=.ref a->∃ob,s.heap.get? a=some ob/\ob.dict=none:=by
 cases x with
 |str z =>
  obtain ⟨t,rfl⟩:=r
  cases (show T = "str" from ty)
  exact⟨typeIs_str s z t,fun _ e=>nomatch e⟩
 |int i =>
  obtain ⟨t,rfl⟩:=r
  cases (show T = "int" from ty)
  exact⟨typeIs_int s i t,fun _ e=>nomatch e⟩
 |ref p =>
  cases r
  rcases ty with ⟨rfl,xs,g⟩|⟨rfl,o,f,h,hd⟩|⟨rfl,f⟩|⟨rfl,S,n,f⟩
  .obtain ⟨j,_,pl,_⟩:=I.list g
   refine⟨pl.isList.typeIs,fun a e=>?_⟩
   cases e
   obtain ⟨o,n,e,c,hd,_⟩:=pl
   exact⟨o,e,hd⟩
  .refine⟨⟨o,I.kIn p o f,h⟩,fun a e=>?_⟩
   cases e
   exact⟨o,I.kIn _ o f,hd⟩
  .have z:∃o,s.heap.get? p=some o/\o.ExactDict:=by
    rcases f with ⟨kvs,f⟩|⟨kvs,f⟩
    .obtain ⟨_,_,_,_,o,_,_,e,ex,_⟩:=I.hok p _ f
     exact⟨o,e,ex⟩
    .obtain ⟨_,_,_,_,o,_,_,e,ex,_⟩:=I.hok p _ f
     exact⟨o,e,ex⟩
   obtain ⟨o,e,ex⟩:=z
   refine⟨⟨o,e,ex.1⟩,fun a e2=>?_⟩
   cases e2
   exact⟨o,e,ex.2.1⟩
  .obtain ⟨o,_,_,_,e,ex,_⟩:=I.hok p _ f
   refine⟨⟨o,e,ex.1⟩,fun a e2=>?_⟩
   cases e2
   exact⟨o,e,ex.2.1⟩
 |_=>exact False.elim ty
def tBM(K:aae)(T:String)(r:V->List V->Hp->VK->Prop)(g:TE)(t:TA):TE:=fun c H Q=>g c H fun x f=>tyV K T x f/\t c f fun xs h=>r x xs h Q
variable {o e:Expr}{es:List Expr}{to:TE}{t:TA}{name:Str}{RK Sb:Pos}{T id:String}{r:V->List V->Hp->VK->Prop}
theorem lC(pa:PlainAttrs T)(slot:Slot T name id)(g:typeOf (.builtin id)=pure (.type "method_descriptor"))(hm:MtR X id r)(z:PE X o to)(ha:PA X (e::es) t)
  (F:attributeBase o name X.env (eval o X.env)=eval o X.env:=by rfl)
  (E:((backTo Sb (starEach (e::es) X.env)).all (fun x=>!x.1) && (backToKw Sb (keywordEach [] X.env)).all (fun x=>x.1.isSome)
   && decide ((e::es).length+([]:List Keyword).length+(if ([]:List Keyword).isEmpty then 0 else 1)<30))=true:=by rfl)
  (G:(RK.endLine == Sb.line)=true:=by rfl) (y:starEach (e::es) X.env=(false,eval e X.env)::starEach es X.env:=by rfl) (J:(backTo Sb (starEach es X.env)).any (·.1)=false:=by rfl) :
  PE X (.Call (.Attribute o name RK) (e::es) [] Sb) (tBM X.K T r to t):=by
 intro c s f H Q I h
 refine wpAny_Call_method_late F E G rfl (thn (z c s f H _ I h) fun v p ⟨x,O,m,i,ty,u⟩=>?_)
 obtain ⟨C,B⟩:=LU m i ty
 refine⟨T,id,pa,slot,g,C,B,?_⟩
 have j:=ha Sb c p f O _ m u
 rw[y] at j ⊢
 refine Calls.callWith_builtin (by show (false || (backTo Sb (starEach es X.env)).any (·.1))=false;rw[J]<;>rfl) (Calls.evalArgs_plain ?_)
 exact thn j fun us n ⟨vs,M,L,q,q2⟩=>hm c n f M x vs v us Q L i q q2
end
def MtM(X:Cx)(id:String)(r:V->List V->Hp->VK->Prop):Prop :=
 ∀(c:List (Addr × Obj)) (s:Shared) (f:St) (H:Hp) (x:V) (xs:List V) (v:Value) (us:List Value) (Q:VK),Inv X c f H s->RelV x v->Vals xs us->r x xs H Q ->
  wpAny (model X.prog X.w) X.A (call (.builtin id) (v::us)) (EP X c f Q) X.xe s
theorem Vals.one:∀{x:V}{us:List Value},Vals [x] us->∃u,us=[u]/\RelV x u
 |_,_,.cons r .nil=>⟨_,rfl,r⟩
theorem Vals.reverse(h:Vals xs us):Vals xs.reverse us.reverse:=by
 induction h with
 |nil=>exact .nil
 |cons r t ih=>rw[List.reverse_cons,List.reverse_cons];exact Vals.append ih (.cons r .nil)
theorem Vals.rep{xs:List V}{us:List Value}(h:Vals xs us):∀k:Nat,Vals (List.replicate k xs).flatten (List.replicate k us).flatten
 |0=>.nil
 |k+1=>by
  rw[Pr,Pr,Qj,Qj]
  exact Vals.append h (Vals.rep h k)
theorem foldl_rep(c:List Value):∀(k:Nat) (acc:List Value),
  List.foldl (fun g f=>g++f) acc.toArray (List.replicate k c.toArray)=(acc++(List.replicate k c).flatten).toArray
 |0,acc=>by simp
 |k+1,acc=>by
  have e:acc.toArray++c.toArray=(acc++c).toArray:=by simp
  have e2:(acc++c)++(List.replicate k c).flatten=acc++(List.replicate (k+1) c).flatten:=by
   rw[Pr,Qj,OM]
  rw[<- e2,<- foldl_rep c k (acc++c),<- e,Pr,List.foldl_cons]
section
variable {X:Cx}{pins:List (Addr × Obj)}{σ:St}{H:Hp}{s:Shared}{l b:Addr}{xs ys:List V}
theorem Inv.Nu{c its':List Value}{n:Nat}{f:Array Value->Array Value}{t':Nat}(I:Inv X pins σ H s)(m:H l=some (.lst xs))
  (e:s.heap.get? l=some { cls:=.type "list",data:=.seq c.toArray n }) (j:f c.toArray=its'.toArray) (h:Vals ys its') (g:ys.length<=sizeLine) :
  Inv X pins σ (upd H l (.lst ys)) { s with heap:=s.heap.update l (Obj.mapSeq f),toks:=t' }:=by
 have q:=PySem.IsL.update e f
 rw[j] at q
 refine I.write (x:=l) (e:=l) (by rw[m];exact trivial) (.inl rfl) (fun o u hb i=>(Heap.get?_update_other s.heap (Obj.mapSeq f) (OT hb)).trans i) ⟨_,q⟩ ?_
 exact⟨g,its',_,h,q⟩
theorem Inv.J0(I:Inv X pins σ H s)(f:Vals ys OQ)(c:ys.length<=sizeLine) :
  Inv X pins σ (upd H s.heap.objs.size (.lst ys)) { s with heap:=s.heap.push { cls:=.type "list",data:=.seq OQ.toArray },toks:=t' } :=
 I.laid (fun _ _ q=>Heap.get?_push_of_some _ q) (Ol _) ⟨c,OQ,0,f,Heap.get?_push_size _ rfl⟩
theorem Inv.fresh(I:Inv X pins σ H s):H s.heap.objs.size=none:=I.hok.fresh (Ol _)
theorem Inv.CO(I:Inv X pins σ H s)(f:H l=some (.lst xs)):xs.length<=sizeLine/\∃(c:List Value) (n:Nat),Vals xs c/\xs.length=c.length/\s.heap.get? l=some { cls:=.type "list",data:=.seq c.toArray n }:=by
 obtain ⟨z,c,n,r,e⟩:=I.hok l _ f
 exact⟨z,c,n,r,r.length,e⟩
theorem Bi(h:n<=sizeLine):Builtin.List.listTooLong n=false:=by
 unfold Builtin.List.listTooLong
 exact decide_eq_false ()
end
section
variable {X:Cx}
def Aj:V->List V->Hp->VK->Prop:=fun x vs H Q=>∃l xs y,x=.ref l/\vs=[y]/\H l=some (.lst xs)/\xs.length<sizeLine/\Q .non (upd H l (.lst (xs++[y])))
theorem cZ:MtM X "list.append" Aj:=by
 intro c s j H x vs v us Q I rx rv h
 obtain ⟨l,xs,y,rfl,rfl,f,m,q⟩:=h
 cases rx
 obtain ⟨u,rfl,i⟩:=rv.one
 obtain ⟨z,g,n,r,o,e⟩:=I.CO f
 refine call_meets F.slot_list_append ⟨_,e,rfl⟩ F.entry_list_append (F.args_list_append_2 _ _) (PySem.list_append l g.toArray n u (by rw[OG];omega)) ⟨e,?_⟩
 refine⟨.non,_,I.Nu (its':=g++[u]) f e (by simp) (r.append (.cons i .nil)) ?_,rfl,q⟩
 rw[Ox,PY]
 omega
def Fc:V->List V->Hp->VK->Prop:=fun x vs H Q=>∃l b xs c,x=.ref l/\vs=[.ref b]/\H l=some (.lst xs)/\H b=some (.lst c)/\xs.length+c.length<=sizeLine/\Q .non (upd H l (.lst (xs++c)))
theorem Gp:MtM X "list.extend" Fc:=by
 intro g s t H x vs v us Q I rx rv h
 obtain ⟨l,b,xs,y,rfl,rfl,i,o,C,q⟩:=h
 cases rx
 obtain ⟨u,rfl,j⟩:=rv.one
 cases j
 obtain ⟨z,c,n,r,E,e⟩:=I.CO i
 obtain ⟨B,f,n2,m,G,e2⟩:=I.CO o
 have hsz:c.toArray.size+f.toArray.size<=sizeLine:=by rw[OG,OG];omega
 have p:¬ (!c.toArray.isEmpty && Builtin.List.listTooLong (c.toArray.size+f.toArray.size))=true:=by
  rw[Bi hsz,Bool.and_false]
  exact Oz
 refine call_meets F.slot_list_extend ⟨_,e,rfl⟩ F.entry_list_extend (F.args_list_extend_2 _ _)
  (AutoSeq1.list_extend_list_list_0 l c.toArray n b f.toArray n2 p (by rw[OG];omega) ()) ⟨e,e2,?_⟩
 refine⟨.non,_,I.Nu (its':=c++f) i e (by simp) (r.append m) ?_,rfl,q⟩
 rw[Ox]
 omega
def Kn:R2:=fun x y H Q=>∃l b xs c,x=.ref l/\y=.ref b/\H l=some (.lst xs)/\H b=some (.lst c)/\xs.length+c.length<=sizeLine/\∀p,H p=none->Q (.ref p) (upd H p (.lst (xs++c)))
theorem tJ:OpR X (binaryOp .Add) Kn:=by
 intro c s p H x y v u Q I rx ry h
 obtain ⟨l,b,xs,t,rfl,rfl,j,m,C,q⟩:=h
 cases rx
 cases ry
 obtain ⟨z,g,n,r,E,e⟩:=I.CO j
 obtain ⟨B,f,n2,i,F,e2⟩:=I.CO m
 refine PySem.P.add_list e e2 ?_ (by rw[OG,OG];omega)
 have o:g.toArray++f.toArray=(g++f).toArray:=by simp
 rw[o]
 exact⟨.ref _,_,I.J0 (t':=s.toks) (r.append i) (by rw[Ox];omega),rfl,q _ I.fresh⟩
def Nt:R2:=fun x y H Q=>∃l k xs,x=.ref l/\y=.int k/\H l=some (.lst xs)/\-(2 ^ 63)<=k/\k<2 ^ 63/\xs.length*k.toNat<=sizeLine /\
 ∀p,H p=none->Q (.ref p) (upd H p (.lst (List.replicate k.toNat xs).flatten))
theorem len_rep{c:Type}(xs:List c)(k:Nat):(List.replicate k xs).flatten.length=k*xs.length:=by
 induction k with
 |zero=>simp
 |succ k ih=>rw[Pr,Qj,Ox,ih,Nat.succ_mul,Nat.add_comm]
theorem Aq:OpR X (binaryOp .Mult) Nt:=by
 intro i s R H x y v u Q I rx ry h
 obtain ⟨l,k,xs,rfl,rfl,B,E,C,j,q⟩:=h
 cases rx
 obtain ⟨t,rfl⟩:=ry
 obtain ⟨z,c,n,r,p,e⟩:=I.CO B
 have P:c.toArray.size*k.toNat<=sizeLine:=by rw[OG,<- p];exact j
 have M:¬ c.toArray.size*k.toNat>(2 ^ 63 - 1) / 8:=by
  have:(sizeLine:Nat)<=(2 ^ 63 - 1) / 8:=by decide
  omega
 have J:¬ (!Builtin.List.listFitsIndex k)=true:=by
  rw[fitsIndex_both E C]
  exact Oz
 have O:¬ Builtin.List.listTooLong (c.toArray.size*k.toNat)=true:=by
  rw[Bi P]
  exact Oz
 have L:List.foldl (fun g f=>g++f) #[] (List.replicate (if c.toArray.isEmpty=true then 0 else k.toNat) c.toArray)=(List.replicate k.toNat c).flatten.toArray:=by
  have G:∀m:Nat,List.foldl (fun g f=>g++f) #[] (List.replicate m c.toArray)=(List.replicate m c).flatten.toArray:=fun m=>by
   have:=foldl_rep c m []
   rw[List.nil_append] at this
   exact this
  rw[G]
  cases c with
  |nil=>simp
  |cons a Y=>rw[if_neg (by simp)]
 refine wpAny_binaryOp_repeat_ref (T:="list") (U:="int") nofun ⟨_,e,rfl⟩ (fun o=>typeIs_int o k t) noFill_list_mul F.fills_int_mul F.slot_int_rmul repeat_list F.slot_int_index.lookup
  (call_meets F.slot_int_rmul (typeIs_int s k t) F.entry_int_rmul (F.args_int_rmul_2 _ _) (int___rmul___int_list k t l c.toArray n)
   ⟨e,rfl,⟨_,e,rfl⟩,call_meets F.slot_list_mul ⟨_,e,rfl⟩ F.entry_list_mul (F.args_list_mul_2 _ _) (AutoListH.list___mul___list_int_3 l c.toArray n k t J M O) ⟨e,?_⟩⟩)
 rw[L]
 exact⟨.ref _,_,I.J0 (t':=s.toks) (r.rep k.toNat) (by rw[len_rep,Nat.mul_comm];exact j),rfl,q _ I.fresh⟩
end
end L2
namespace Att
open PySem PySem.W PySem.Calls PyProof.Rows
theorem uJ:∀(ns:aab) (vs:List Value),WellAll P h vs (ns.map WData.int)->IntsAre vs ns:=by
 intro ns
 induction ns with
 |nil =>
  intro vs w
  rw[QH] at w
  cases w
  exact .nil
 |cons n ns ih =>
  intro vs w
  rw[Oi] at w
  cases w with
  |cons a b =>
   cases a
   exact .cons _ _ (ih _ b)
theorem GF{l:OpenLaw}{n:Nat}(hn:l.most=some n){P:Params}{h:Heap}{args:List WData}{j:List Value}
  (m:l.row.toRowW.claim.pre args=true) (y:WellAll P h j args) :
  ∃a vs ns,j=[Value.ref a]/\args=[WData.list (ns.map WData.int)]/\h.get? a=some { cls:=.type "list",data:=.seq vs.toArray }/\IntsAre vs ns/\ns.length<=n:=by
 have g:WShape.hasAll [] args [.list .int]=true:=(pre_splitW m).1
 have i:l.pre.holds [] { args:=args }=true:=(pre_splitW m).2
 obtain ⟨d,r,rfl,x,v⟩:=hasAllW_cons g
 obtain rfl:=hasAllW_nil v
 obtain ⟨xs,rfl,u⟩:=hasW_list x
 obtain ⟨ns,rfl⟩:=items_int u
 have B:ns.length<=n:=by
  unfold OpenLaw.pre at i
  have f:(WTm.not (.lt (.lit (.int (n:Int))) (.len (.arg 0)))).holds [] { args:=[.list (ns.map .int)] }=true:=by
   have f:=(holds_andW i).1
   rw[hn] at f
   exact f
  have c:=condW_of f (w_not (w_lt w_lit (w_len_list (w_arg rfl))))
  rw[dz] at c
  refine Nat.le_of_not_lt fun q=>?_
  have s:(n:Int)<((ns.length:Nat):Int):=()
  first
   |(rw[decide_eq_true s] at c;exact absurd c nofun)
   |(simp at c;omega)
 cases y with
 |cons p o =>
  cases o
  cases p with
  |list t z=>exact⟨_,_,ns,rfl,rfl,t,uJ ns _ z,B⟩
theorem F2(l:OpenLaw)(args:List WData):l.row.toRowW.claim.post args (.bool true) args=true :=
 postW_of (r:=l.row.toRowW) (X:=(true == true))
  (show WShape.has [] (.bool true) .bool=true by first|rfl|decide|simp [WShape.has,WShape.arms,WShape.armsAll])
  (show (WTm.eq .res (.lit (.bool true))).value [] { args:=args,res:=some (.bool true),after:=args }=some (.bool (true == true)) from w_eq_bool (w_res rfl) w_lit) rfl
theorem A6{l:OpenLaw}{n:Nat}{q:Program}{u:List Str}{t:(Str->Option Value)->Heap->Prop}{s:World->Heap->Prop}{d:DefRec}
  (hn:l.most=some n) (J:d.params.defaults=[])
  (call:∀(w:World) (s₀ c:Shared) (mg m:Str->Option Value) (h:Addr) (o:Obj) (j cd g:Value) (a:Addr) (vs:List Value) (ns:aab),
   Ground q u [] t w s₀ mg m c.heap->s w c.heap ->
   c.heap.get? h=some o->o.data=.func (docDef d.name d.params d.body d.scope j cd g)->c.heap.CodeRec cd d.name->mg d.name=some (.ref h) ->
   c.heap.get? a=some { cls:=.type "list",data:=.seq vs.toArray }->IntsAre vs ns->ns.length<=n->c.gens=#[] ->
   codeAny (model l.prog w) callerA (.call (.ref h) ⟨[.ref a],[]⟩) (fun r i=>r=.ok (.ret (.bool true))/\OldK c.heap i.heap/\i.os=c.os/\AllBare i.gens) c) :
  WalkO q u t s l.row.toRowW d [] (fun f vs=>PySem.call f vs):=by
 intro w s₀ c mg m G Y h o j cd g F kV y hd Q p O z args U as P H v I T
 obtain rfl:F=.none:=Dflts.none p J
 obtain rfl:kV=.none:=Dflts.noKw p
 obtain ⟨a,vs,ns,rfl,rfl,L,M,R⟩:=GF hn P I
 refine enter_call (codeAny_mono (call w s₀ c mg m h o j cd g a vs ns G Y y (fd_plain hd) Q O L M R z) fun r i x=>?_)
 obtain ⟨rfl,E,C,B⟩:=x
 exact⟨.inl ⟨.bool true,.bool true,[],rfl,fun _=>rfl,.bool true,F2 l _,fun _=>⟨List.Pairwise.nil,fun _ hm=>(nomatch hm)⟩⟩,E,C,B⟩
end Att
namespace L2
open PySem PySem.Spec PyProof.Rows
theorem yK:∀{vs:List Value}{ns:aab},IntsAre vs ns->Vals (ns.map V.int) vs
 |_,_,.nil=>.nil
 |_,_,.cons n t h=>.cons ⟨t,rfl⟩ (yK h)
def fX(s:Stmt):Arguments:=match s with
 |.FunctionDef _ a _ _ _ _ _ _ _ _=>a
 |_=>{ posonlyargs:=[],args:=[],vararg:=none,kwonlyargs:=[],kw_defaults:=[],kwarg:=none,defaults:=[] }
def cF(s:Stmt):List Stmt:=match s with
 |.FunctionDef _ _ b _ _ _ _ _ _ _=>b
 |_=>[]
def ak(s:Stmt):Scope:=match s with
 |.FunctionDef _ _ _ _ _ _ c _ _ _=>c
 |_=>{ kind:=.function,names:=[],isGenerator:=false,isCoroutine:=false }
abbrev CX0:CXT:=fun _ _ _ _ _ _=>False
abbrev E0:XK:=fun _ _ _=>False
theorem fL:Passes CX0 X E0:=fun _ _ _ _ _ _ _ h=>h.elim
structure Fun(K:aae)(x qual:Str)(st:Stmt)(f:Addr)(fd:FuncData):Prop where
 ex:∃(oc:Value) (od:Option Addr) (kV doc pm:Value) (an:Option Addr) (cdv ct:Value) (osl:Array (Option Value)),
  fd=PySem.W.fnOf x qual (fX st) (cF st) (ak st) .none kV doc pm an cdv ct/\K.lookup f=some ⟨oc,od,.func fd,osl⟩/\PySem.W.codeIn K cdv qual=true
 kp:PySem.W.keepIn K (.ref f)=true
section
variable {P:Program}{w:World}{K:aae}{mg:Str->Option Value}{base:Heap}
theorem Fun.ok{x qual:Str}{st:Stmt}{f:Addr}{g:FuncData}{N ps:List Str}{k:Nat}{sp:Sp}(F:Fun K x qual st f g)(S:bS N ps (ak st))(len:∀vs H Q E,sp vs H Q E->vs.length=ps.length)
  (n:∀(c:Value) (A:Around) (outer:List Env) (s:Shared) (H:Hp) (vs:List V) (Q:VK) (E:XK),fu k (A.deeper (envOfC qual (ak st) s.heap.objs.size f c))->sp vs H Q E ->
   ∃t,PSs (xR CX0 P w K mg base N qual (ak st) f c A outer s H E).nox (cF st) t/\t { nx:=fun _ H'=>Q .non H',rt:=Q } (start N vs) H):gP P w K mg base CX0 (k+1) f g ps sp:=by
 obtain ⟨u,r,kV,j,p,v,c,ct,i,rfl,lk,o⟩:=F.ex
 refine Lq lk o S len fun A outer s H vs Q E hr m=>?_
 obtain ⟨t,h,q⟩:=n c A outer s H vs Q E hr m
 exact⟨t,h.nox,q⟩
theorem Fun.binds{x qual:Str}{st:Stmt}{f:Addr}{m:FuncData}{ps:List Str}(F:Fun K x qual st f m)
  (h:∀(kV c i:Value) (j:Option Addr) (g ct:Value) (us:List Value),us.length=ps.length->bindArgs (PySem.W.fnOf x qual (fX st) (cF st) (ak st) .none kV c i j g ct) ⟨us,[]⟩=pure (ps.zip us)):Binds K m ps []:=by
 obtain ⟨p,o,kV,c,i,j,g,ct,n,rfl,lk,q⟩:=F.ex
 exact .all (h kV c i j g ct)
theorem mL{x qual:Str}{st:Stmt}{f:Addr}{o:Value}{n m:Option Addr}{i:Array (Option Value)}{kV h j g ct:Value}(l:K.lookup f=some ⟨o,n,.func (PySem.W.fnOf x qual (fX st) (cF st) (ak st) .none kV h j m g ct),i⟩)
  (c:PySem.W.codeIn K g qual=true) (k:PySem.W.keepIn K (.ref f)=true):Fun K x qual st f (PySem.W.fnOf x qual (fX st) (cF st) (ak st) .none kV h j m g ct):=⟨⟨o,n,kV,h,j,m,g,ct,i,rfl,l,c⟩,k⟩
end
theorem Bs(hr:fu k A):A.units+1<cLine:=Nat.lt_of_le_of_lt (Nat.add_le_add_left (by decide:1<=64) _) hr.units
theorem yc(h:n<=1000):n<sizeLine:=Nat.lt_of_le_of_lt h nofun
section
variable {X:Cx}
theorem pv(i:Nat)(f:X.N[i]?=some x:=by rfl)(c:Vis X.env.scope x:=by first|exact Or.inl rfl|exact Or.inr (Or.inl rfl)|exact Or.inr (Or.inr rfl))(hd:(x == ("__debug__" : Str))=false:=by decide)
  (g:(x == ("__classdict__" : Str))=false:=by decide):PE X (.Name x pos) (bR i):=Mf f c hd g
end
def Same(H H':Hp):Prop:=∀b o,H b=some o->H' b=some o
theorem Same.refl(H:Hp):Same H H:=fun _ _ h=>h
end L2
set_option maxHeartbeats 4000000
namespace L2
open PySem PySem.Spec PyProof.Rows
def c9(env:Env):List (Str × NameKind)->List (Str × Addr)->List (Str × Addr)
 |[],acc=>acc
 |(n,k)::r,acc=>c9 env r (if k == .free then (n,(env.cells.lookup n).getD 0)::acc else acc)
theorem xG(h:∀n,(n,NameKind.free)∈scope.names->∃c,env.cells.lookup n=some c):closureFor scope env=pure (c9 env scope.names []):=by
 have go:∀(names:List (Str × NameKind)) (acc:List (Str × Addr)),(∀n,(n,NameKind.free)∈names->∃c,env.cells.lookup n=some c) ->
   (forIn names acc (fun (x:Str × NameKind) (cs:List (Str × Addr))=>match x with
    |(name,kind)=>if (kind == .free)=true then (do let c <- cellOf env name;pure (ForInStep.yield ((name,c)::cs))) else pure (ForInStep.yield cs)):Sem (List (Str × Addr)))=pure (c9 env names acc):=by
  intro names
  induction names with
  |nil=>intro acc _;rfl
  |cons x r ih =>
   intro acc hn
   obtain ⟨n,k⟩:=x
   rw[List.forIn_cons]
   have hr:∀m,(m,NameKind.free)∈r->∃c,env.cells.lookup m=some c:=fun m hm=>hn m (gV _ hm)
   by_cases f:k=.free
   .subst f
    obtain ⟨c,g⟩:=hn n k0
    have e:cellOf env n=pure c:=by unfold cellOf;rw[g]
    have e2:c9 env ((n,NameKind.free)::r) acc=c9 env r ((n,c)::acc):=by
     show c9 env r (if (NameKind.free == NameKind.free)=true then (n,(env.cells.lookup n).getD 0)::acc else acc)=_
     rw[if_pos nofun,g];rfl
    rw[e2,<- ih _ hr]
    show (do let __do_lift <- (if (NameKind.free == NameKind.free)=true then (do let c <- cellOf env n;pure (ForInStep.yield ((n,c)::acc))) else pure (ForInStep.yield acc):Sem (ForInStep (List (Str × Addr))));_)=_
    rw[if_pos nofun,e]
    rfl
   .have hb:(k == NameKind.free)=false:=by simpa using f
    have e2:c9 env ((n,k)::r) acc=c9 env r acc:=by
     show c9 env r (if (k == NameKind.free)=true then (n,(env.cells.lookup n).getD 0)::acc else acc)=_
     rw[hb];rfl
    rw[e2,<- ih _ hr]
    show (do let __do_lift <- (if (k == NameKind.free)=true then (do let c <- cellOf env n;pure (ForInStep.yield ((n,c)::acc))) else pure (ForInStep.yield acc):Sem (ForInStep (List (Str × Addr))));_)=_
    rw[hb]
    rfl
 have e:=go scope.names [] h
 unfold closureFor
 exact congrArg (fun (m:Sem (List (Str × Addr)))=>m >>= fun r=>pure r) e
theorem u5{env:Env}:∀{names:List (Str × NameKind)}{acc:List (Str × Addr)}{n:Str}{c:Addr},(n,c)∈c9 env names acc->(n,c)∈acc\/((n,NameKind.free)∈names/\c=(env.cells.lookup n).getD 0)
 |[],acc,n,c,h=>.inl h
 |(m,k)::r,acc,n,c,h=>by
  rcases u5 (names:=r) h with h|⟨h,e⟩
  .by_cases f:k=.free
   .subst f
    rw[if_pos nofun] at h
    rcases KE.mp h with e|h
    .cases e;exact .inr ⟨k0,rfl⟩
    .exact .inl h
   .have hb:(k == NameKind.free)=false:=by simpa using f
    rw[hb] at h
    exact .inl h
  .exact .inr ⟨gV _ h,e⟩
theorem ib{f:Type}:∀{l:List (Str × f)}{n:Str}{c:f},(n,c)∈l->∃d,l.lookup n=some d
 |[],_,_,h=>nomatch h
 |(k,v)::r,n,c,h=>by
  rw[Qo]
  cases hb:n == k with
  |true=>exact⟨v,rfl⟩
  |false =>
   rcases KE.mp h with e|h
   .cases e;simp at hb
   .exact ib h
theorem vj{env:Env}:∀{names:List (Str × NameKind)}{acc:List (Str × Addr)}{n:Str}{c:Addr},(n,c)∈acc->(n,c)∈c9 env names acc
 |[],acc,n,c,h=>h
 |(m,k)::r,acc,n,c,h=>by
  refine vj (names:=r) ?_
  split
  .exact gV _ h
  .exact h
theorem pB{env:Env}:∀{names:List (Str × NameKind)}{acc:List (Str × Addr)}{n:Str},(n,NameKind.free)∈names->(n,(env.cells.lookup n).getD 0)∈c9 env names acc
 |[],acc,n,h=>nomatch h
 |(m,k)::r,acc,n,h=>by
  rcases KE.mp h with e|h
  .cases e
   refine vj (names:=r) ?_
   rw[if_pos nofun]
   exact k0
  .exact pB (names:=r) h
theorem kX:∀{names:List (Str × NameKind)}{n:Nat}{acc:List (Str × Addr)}{x:Str}{c:Addr},(x,c)∈cellsFrom n names acc->(x,c)∈acc\/((x,NameKind.cell)∈names/\n<=c)
 |[],n,acc,x,c,h=>.inl h
 |(m,k)::r,n,acc,x,c,h=>by
  unfold cellsFrom at h
  by_cases f:k=.cell
  .subst f
   rw[if_pos nofun] at h
   rcases kX (names:=r) h with h|⟨h,e⟩
   .rcases KE.mp h with e|h
    .cases e;exact .inr ⟨k0,Ol _⟩
    .exact .inl h
   .exact .inr ⟨gV _ h,()⟩
  .have hb:(k == NameKind.cell)=false:=by simpa using f
   rw[hb] at h
   rcases kX (names:=r) h with h|⟨h,e⟩
   .exact .inl h
   .exact .inr ⟨gV _ h,e⟩
theorem eM:∀{names:List (Str × NameKind)}{n:Nat}{acc:List (Str × Addr)}{x:Str}{c:Addr},(x,c)∈acc->(x,c)∈cellsFrom n names acc
 |[],n,acc,x,c,h=>h
 |(m,k)::r,n,acc,x,c,h=>by
  unfold cellsFrom
  split
  .exact eM (names:=r) (gV _ h)
  .exact eM (names:=r) h
theorem kN:∀{names:List (Str × NameKind)}{n:Nat}{acc:List (Str × Addr)}{x:Str},(x,NameKind.cell)∈names->∃c,(x,c)∈cellsFrom n names acc
 |[],n,acc,x,h=>nomatch h
 |(m,k)::r,n,acc,x,h=>by
  unfold cellsFrom
  rcases KE.mp h with e|h
  .cases e
   rw[if_pos nofun]
   exact⟨n,eM (names:=r) k0⟩
  .split
   .exact kN (names:=r) h
   .exact kN (names:=r) h
theorem jQ:∀{names:List (Str × NameKind)}{h:Heap}{acc:List (Str × Addr)}{x:Str}{c:Addr},(x,c)∈cellsFrom h.objs.size names acc->(x,c)∈acc\/(pushCells h names).IsCell c none
 |[],h,acc,x,c,m=>.inl m
 |(n,k)::r,h,acc,x,c,m=>by
  unfold cellsFrom at m
  unfold pushCells
  split at m
  .rename_i f
   rw[if_pos f]
   have g:(x,c)∈cellsFrom (h.push { cls:=.type "cell",data:=.cell none }).objs.size r ((n,h.objs.size)::acc):=by rw[Heap.size_push];exact m
   rcases jQ (names:=r) g with z|z
   .rcases KE.mp z with e|z
    .cases e
     exact .inr ⟨_,pushCells_keeps _ _ _ _ (Heap.get?_push_size _ rfl),rfl⟩
    .exact .inl z
   .exact .inr z
  .rename_i f
   rw[if_neg f]
   exact jQ (names:=r) m
theorem kE:∀{names:List (Str × NameKind)}{n:Nat}{acc:List (Str × Addr)},(∀x c,(x,c)∈acc->c<n)->(∀x y c,(x,c)∈acc->(y,c)∈acc->x=y) ->
  ∀x y c,(x,c)∈cellsFrom n names acc->(y,c)∈cellsFrom n names acc->x=y
 |[],n,acc,lt,inj,x,y,c,h,h'=>inj x y c h h'
 |(m,k)::r,n,acc,lt,inj,x,y,c,h,h'=>by
  unfold cellsFrom at h h'
  split at h
  .rename_i g
   rw[if_pos g] at h'
   refine kE (names:=r) (n:=n+1) (acc:=(m,n)::acc) (fun x c hm=>?_) (fun x y c hm f=>?_) x y c h h'
   .rcases KE.mp hm with e|hm
    .cases e;exact PU _
    .exact QE (lt _ _ hm)
   .rcases KE.mp hm with e|hm<;>rcases KE.mp f with i|f
    .cases e;cases i;rfl
    .cases e;exact absurd (lt _ _ f) (O6 _)
    .cases i;exact absurd (lt _ _ hm) (O6 _)
    .exact inj _ _ _ hm f
  .rename_i g
   rw[if_neg g] at h'
   exact kE (names:=r) lt inj x y c h h'
theorem jB{env:Env}:∀{names:List (Str × NameKind)}{x:Str},
  (names.map fun (n,k)=>if (k == NameKind.free && env.scope.kind == .function && env.kindOf n == some .cell) then (n,NameKind.cell) else (n,k)).lookup x =
   (names.lookup x).map fun k=>if (k == NameKind.free && env.scope.kind == .function && env.kindOf x == some .cell)=true then NameKind.cell else k
 |[],x=>rfl
 |(n,k)::r,x=>by
  have ih:=@jB env r x
  show List.lookup x ((if (k == NameKind.free && env.scope.kind == .function && env.kindOf n == some .cell)=true then (n,NameKind.cell) else (n,k))::_)=_
  have e:(if (k == NameKind.free && env.scope.kind == .function && env.kindOf n == some .cell)=true then (n,NameKind.cell) else (n,k))=(n,if (k == NameKind.free && env.scope.kind == .function && env.kindOf n == some .cell)=true then NameKind.cell else k):=by split<;>rfl
  rw[e,Qo,Qo]
  cases hx:x == n with
  |true =>
   have c:=beq_iff_eq.mp hx
   subst c
   rfl
  |false=>exact ih
structure aH(X:Cx)(scope:Scope)(tn cap:List Str)(idx:aad):Prop where
 kind:scope.kind=.function
 nd:(scope.names.map (·.1)).Nodup
 tnd:(tn++cap).Nodup
 ct:∀y∈cap,scope.names.lookup y=some .free
 ci:idx.map (fun i=>X.N[i]?)=cap.map some
 fr:∀y∈scope.names,y.2=.free->X.env.scope.names.lookup y.1=some .cell\/X.env.scope.names.lookup y.1=some .free
theorem oh{f:Type}:∀{l:List (Str × f)}{n:Str}{c:f},(l.map (·.1)).Nodup->(n,c)∈l->l.lookup n=some c
 |[],_,_,_,h=>nomatch h
 |(k,v)::r,n,c,nd,h=>by
  obtain ⟨i,g⟩:=Om.mp nd
  rw[Qo]
  rcases KE.mp h with e|hm
  .cases e;simp
  .have j:n≠k:=fun e=>i (Oo.mpr ⟨_,hm,e⟩)
   have hb:(n == k)=false:=beq_eq_false_iff_ne.mpr j
   rw[hb]
   exact oh g hm
def Cq(c:St)(idx:aad):St:=idx.map fun i=>(c[i]?).getD none
def fK(k:Nat)(idx:aad)(c:St):St:=List.replicate k none++Cq c idx
def cxC(X:Cx)(c:List Str)(scope:Scope)(cs:List (Str × Addr))(C:Addr)(fp:List Addr)(s₀:Shared)(H₀:Hp):Cx where
 prog:=X.prog
 w:=X.w
 K:=X.K
 mg:=X.mg
 base:=X.base
 A:=X.A
 N:=c
 s₀:=s₀
 H₀:=H₀
 env:=compEnvC scope cs C X.env
 outer:=X.stack
 stack:=X.stack
 ex:=fp
 fn:=fun x=>scope.names.lookup x == some .local || scope.names.lookup x == some .cell
 calm:=X.calm
 pn:=[]
 xe:=fun _ _=>False
theorem qD
  (c:Q { scope:=scope,locals:=s.heap.objs.size,globals:=globals,cells:=cellsFrom (s.heap.objs.size+1) scope.names cl,qual:=qual,func:=none,code:=Gx.code,frame:=Gx.frame,builtins:=Gx.builtins }
   { s with heap:=pushCells (s.heap.push { cls:=.type "dict",data:=.dict #[] }) scope.names }) :
  wpAny M A (newFunctionEnv scope globals cl [] qual none .none (some Gx)) Q E s:=by
 simp only[newFunctionEnv,Option.isSome_some,if_true]
 refine wpAny_bind (wpAny_alloc ?_)
 refine wpAny_bind (wpAny_layCells _ (fun name kind cells=>by cases hkc:kind == NameKind.cell<;>simp [hkc]) _ _ _ _ ?_)
 rw[show ({ s with heap:=s.heap.push { cls:=.type "dict",data:=.dict #[] } }:Shared).heap.objs.size=s.heap.objs.size+1 from Heap.size_push ..]
 exact wpAny_bind (wpAny_pure (wpAny_pure c))
section
variable {prog:Program}{w:World}{A:Around}{R:Result->Shared->Prop}{s:Shared}
theorem Ax(I:Nat->Shared->Prop)
  (C:∀n s,I n s->wpAny (model prog w) A (pyNext it) (fun r f=>match r with
   |none=>R (.ok .next) f
   |some v=>wpAny (model prog w) A (letOwnedTupleGo Pz it v) (fun _ j=>wpAny (model prog w) A (assign Pz env v) (fun _ t =>
     wpAny (model prog w) A (forIn R6 true fun c r=>if r=true then do let ok <- isTrue c env (eval c env);pure (ForInStep.yield ok) else pure (ForInStep.yield r)) (fun ok g =>
      if ok=true then wpAny (model prog w) A (eval Rx env) (fun x p =>
       wpAny (model prog w) A (call (.builtin "list.append") [acc,x]) (fun _ i=>∃m,m<n/\I m i) (fun _ _=>False) p) (fun _ _=>False) g
      else ∃m,m<n/\I m g) (fun _ _=>False) t) (fun _ _=>False) j) (fun _ _=>False) f) (fun _ _=>False) s)
  (n:Nat) (h:I n s) :
  codeAny (model prog w) A (.compLoop (.ListComp Rx [⟨Pz,iter,R6,0⟩] scope pos) 0 it acc env) R s:=by
 refine codeAny_loop rfl I (fun n s u=>?_) n h
 show wpAny _ A ((compTurn (.ListComp Rx [⟨Pz,iter,R6,0⟩] scope pos) 0 it acc env).onRaise (fun x=>do noteFrame x env;theTreesLotGoes x)) _ _ s
 refine wpAny_noted ?_
 rw[compTurn_list]
 refine wpAny_bind (wpAny_standAt (wpAny_bind (wpAny_mono (C n s u) (fun r f q=>?_) fun _ _ h'=>h'.elim)))
 cases r with
 |none=>exact wpAny_pure q
 |some v =>
  refine wpAny_bind (wpAny_mono q (fun _ j B=>?_) fun _ _ h'=>h'.elim)
  refine wpAny_bind (wpAny_mono B (fun _ t E=>wpAny_bind (wpAny_mono E (fun ok g o=>?_) fun _ _ h'=>h'.elim)) fun _ _ h'=>h'.elim)
  cases ok with
  |false=>exact wpAny_pure ⟨rfl,o⟩
  |true =>
   exact wpAny_bind (wpAny_bind (wpAny_mono o (fun x p y=>wpAny_bind (wpAny_mono y (fun _ i z=>wpAny_pure (wpAny_pure ⟨rfl,z⟩)) fun _ _ h'=>h'.elim)) fun _ _ h'=>h'.elim))
end
section
variable {X:Cx}{pins:List (Addr × Obj)}{σ:St}{H:Hp}{s2:Shared}{scope:Scope}{tn cap:List Str}{idx:aad}{fp:List Addr}
abbrev tW:Obj:={ cls:=.type "list",data:=.seq ([]:List Value).toArray }
abbrev Ic:Obj:={ cls:=.type "dict",data:=.dict #[] }
abbrev Ba(h:Heap)(scope:Scope):Heap:=pushCells ((h.push tW).push Ic) scope.names
abbrev zk(X:Cx)(h:Heap)(scope:Scope):List (Str × Addr):=cellsFrom (h.objs.size+1+1) scope.names (c9 X.env scope.names [])
theorem IQ{c:St}{idx:aad}{j:Nat}{v:V}(h:(Cq c idx)[j]?=some (some v)):∃i,idx[j]?=some i/\c[i]?=some (some v):=by
 unfold Cq at h
 rw[ox] at h
 cases e:idx[j]? with
 |none=>rw[e] at h;cases h
 |some i =>
  rw[e] at h
  have h':(c[i]?).getD none=some v:=OJ h
  refine⟨i,rfl,?_⟩
  cases q:c[i]? with
  |none=>rw[q] at h';cases h'
  |some o=>rw[q] at h';have f:o=some v:=h';rw[f]
theorem Dm(I:Inv X pins σ H s2)(S:aH X scope tn cap idx)(F:∀b∈fp,vD X pins H b)(R:∀b∈fp,b<s2.heap.objs.size) :
  Inv (cxC X (tn++cap) scope (zk X s2.heap scope) (s2.heap.objs.size+1) fp s2 H) [(s2.heap.objs.size,tW)] (fK tn.length idx σ) H { s2 with heap:=Ba s2.heap scope }:=by
 have old:∀b o,s2.heap.get? b=some o->(Ba s2.heap scope).get? b=some o:=fun b o e=>pushCells_keeps _ _ _ _ (Heap.get?_push_of_some _ (Heap.get?_push_of_some _ e))
 have hsz:((s2.heap.push tW).push Ic).objs.size=s2.heap.objs.size+1+1:=by rw[Heap.size_push,Heap.size_push]
 have Q5:(Ba s2.heap scope).get? s2.heap.objs.size=some tW:=pushCells_keeps _ _ _ _ (Heap.get?_push_of_some _ (Heap.get?_push_size _ rfl))
 have Rj:(Ba s2.heap scope).Ns (s2.heap.objs.size+1) (fun _=>none):=by
  have e:=(Heap.Ns.new (s2.heap.push tW) (.type "dict")).keeps (pushCells_keeps scope.names _)
  rw[Heap.size_push] at e
  exact e
 have t:∀x c,(x,c)∈c9 X.env scope.names []->X.env.cells.lookup x=some c/\(x,NameKind.free)∈scope.names:=fun x c h=>by
  rcases u5 h with z|⟨z,e⟩
  .nomatch z
  .obtain ⟨d,hd⟩:=I.ok.has x (S.fr _ z rfl)
   rw[hd] at e
   have M:c=d:=e
   subst M
   exact⟨hd,z⟩
 have C:∀x c,(x,c)∈zk X s2.heap scope->(X.env.cells.lookup x=some c/\(x,NameKind.free)∈scope.names)\/((x,NameKind.cell)∈scope.names/\s2.heap.objs.size+1+1<=c):=fun x c h=>by
  rcases kX h with z|z
  .exact .inl (t x c z)
  .exact .inr z
 have O:∀x c,X.env.cells.lookup x=some c->c<s2.heap.objs.size:=fun x c h=>by
  obtain ⟨v,q⟩:=I.cell x c h
  exact q.lt
 have Vx:∀x,(x,NameKind.free)∈scope.names->scope.names.lookup x=some .free:=fun x h=>oh S.nd h
 have Sm:∀x,(x,NameKind.cell)∈scope.names->scope.names.lookup x=some .cell:=fun x h=>oh S.nd h
 refine⟨⟨I.ok.mod,S.kind,I.ok.glob,I.ok.blt,Pk _,fun x y c L J=>?_,fun x B=>?_,fun x c E h=>?_,I.ok.hd,I.ok.frames,.inl rfl,fun b hb=>⟨?_,fun x c h=>?_⟩,I.bs,OC I.ok.bsz I.sz,fun b o e hb=>?_,fun b hb z=>?_,I.stack,I.EI⟩,
  rfl,I.bare,Un.kept old,⟨_,Rj,fun i x v e1 e2 e3=>?_⟩,fun x c h=>?_,I.hok.fresh (Pk _),fun x c h=>?_,fun p T=>?_,I.hok.kept old,?_⟩
 .exact kE (fun x c h=>QE (QE (O x c (t x c h).1))) (fun x y c h h'=>I.ok.inj x y c (t x c h).1 (t y c h').1) x y c (OW L) (OW J)
 .have B:(relabel scope X.env).names.lookup x=some .cell\/(relabel scope X.env).names.lookup x=some .free:=B
  have e:=@jB X.env scope.names x
  have j:∃k,scope.names.lookup x=some k/\(k=.cell\/k=.free):=by
   cases q:scope.names.lookup x with
   |none =>
    rw[q] at e
    rcases B with z|z
    .have f:=e.symm.trans z;cases f
    .have f:=e.symm.trans z;cases f
   |some k =>
    rw[q] at e
    refine⟨k,rfl,?_⟩
    cases k with
    |cell=>exact .inl rfl
    |free=>exact .inr rfl
    |_ =>
     exfalso
     rcases B with z|z
     .have f:=e.symm.trans z;cases f
     .have f:=e.symm.trans z;cases f
  obtain ⟨k,j,Ut⟩:=j
  have hm:=OW j
  rcases Ut with rfl|rfl
  .obtain ⟨c,G⟩:=kN (n:=s2.heap.objs.size+1+1) (acc:=c9 X.env scope.names []) hm
   exact ib G
  .exact ib (eM (pB (env:=X.env) (acc:=[]) hm))
 .rcases C x c (OW h) with ⟨_,z⟩|⟨_,z⟩
  .have E:(scope.names.lookup x == some .local || scope.names.lookup x == some .cell)=true:=E
   rw[Vx x z] at E
   exact absurd E nofun
  .show s2.heap.objs.size<=c
   omega
 .-- b is not Uc block's frame
  intro z
  have f:b=s2.heap.objs.size+1:=z
  exact absurd (R b hb) (by rw[f];exact QI.mpr (Pk _))
 .rcases C x c (OW h) with ⟨z,_⟩|⟨_,z⟩
  .exact (F b hb).2.2.2.2.1 x c z
  .intro e
   exact absurd (R b hb) (by rw[<- e];exact QI.mpr (OC (OC (Pk _) (Pk _)) z))
 .rcases (F b hb).2.2.2.1 with z|z
  .exact I.ok.noex b o e z
  .exact absurd (OA (Heap.lt_size e) (OC I.ok.bsz z)) (O6 _)
 .obtain ⟨_,f1,Z,_⟩:=F b hb
  rcases KE.mp (I.Ak b z) with e|e
  .exact f1 e
  .exact Z e
 .-- Uc names
  have e1:(tn++cap)[i]?=some x:=e1
  have e2:(fK tn.length idx σ)[i]?=some (some v):=e2
  unfold fK at e2
  by_cases hi:i<tn.length
  .rw[OE (by rw[OH];exact hi),O5,if_pos hi] at e2
   cases e2
  .rw[OI (by rw[OH];omega),OH] at e2
   rw[OI ()] at e1
   obtain ⟨Q,L,J⟩:=IQ e2
   have Y:X.N[Q]?=some x:=by
    have q:=congrArg (fun l=>l[i - tn.length]?) S.ci
    simp only[ox,L,e1,Option.map_some] at q
    exact OJ q
   have P:=S.ct x (OV e1)
   have g:=OW P
   have j:=S.fr _ g rfl
   obtain ⟨m,hn,U⟩:=I.loc
   obtain ⟨u,r,l⟩:=U Q x v Y J (j.elim (fun z=>.inr (.inl z)) fun z=>.inr (.inr z))
   refine⟨u,r,.inr ⟨?_,?_⟩⟩
   .show (relabel scope X.env).names.lookup x=some .cell\/(relabel scope X.env).names.lookup x=some .free
    have e:=@jB X.env scope.names x
    rw[P] at e
    have M:(relabel scope X.env).names.lookup x=some (if (NameKind.free == NameKind.free && X.env.scope.kind == .function && X.env.kindOf x == some .cell)=true then NameKind.cell else NameKind.free):=e
    rw[M]
    split
    .exact .inl rfl
    .exact .inr rfl
   .rcases l with ⟨s,_⟩|⟨_,c,G,z⟩
    .exfalso
     have s:X.env.scope.names.lookup x=some .local:=s
     rcases j with q|q
     .have q:X.env.scope.names.lookup x=some .cell:=q
      rw[q] at s;cases s
     .have q:X.env.scope.names.lookup x=some .free:=q
      rw[q] at s;cases s
    .obtain ⟨d,hd⟩:=ib (eM (names:=scope.names) (n:=s2.heap.objs.size+1+1) (pB (env:=X.env) (acc:=[]) g))
     refine⟨c,?_,z.keeps old⟩
     rcases C x d (OW hd) with ⟨q,_⟩|⟨q,_⟩
     .rw[G] at q;cases q;exact hd
     .have:=Sm x q;rw[P] at this;cases this
 .have hm:(x,c)∈cellsFrom ((s2.heap.push tW).push Ic).objs.size scope.names (c9 X.env scope.names []):=by rw[hsz];exact OW h
  rcases jQ hm with z|z
  .obtain ⟨v,q⟩:=I.cell x c (t x c z).1
   exact⟨v,q.keeps old⟩
  .exact⟨_,z⟩
 .rcases C x c (OW h) with ⟨z,_⟩|⟨_,z⟩
  .exact I.freeC x c z
  .exact I.hok.fresh ()
 .have Uq:p∈[(s2.heap.objs.size,tW)]:=T
  obtain rfl:=mo.mp Uq
  refine⟨Q5,I.hok.fresh (Ol _),OK (PU _),fun z=>?_,fun v z=>?_⟩
  .rcases KE.mp (I.Ak _ z) with e|e
   .exact absurd I.lt (by rw[<- e];exact O6 _)
   .exact I.Ni (Ol _) e
  .have f:Data.seq _ _=Data.cell v:=z
   cases f
 .show (fK tn.length idx σ).length=(tn++cap).length
  have:=congrArg List.length S.ci
  unfold fK Cq
  simp only[Ox,OH,dz] at this ⊢
  omega
theorem comp_back(I:Inv X pins σ H s2)(j:∀b∈fp,vD X pins H b)
  (J:Inv (cxC X N' scope cs C fp s2 H) pins' σ' H8 s8) (p:s2.heap.objs.size<=D) (f:H8 D=none) (y:s8.heap.get? D=some { cls:=.type "list",data:=.seq OQ.toArray n }) (r:Vals vs OQ) (h:vs.length<=sizeLine) :
  Inv X pins σ (upd H8 D (.lst vs)) s8:=by
 have u:=J.base
 have hb:∀b o,s2.heap.get? b=some o->b≠D:=fun b o e=>OK (OA (Heap.lt_size e) p)
 refine I.NK (ch:=fp) J.os ⟨u.keep,u.slot,fun b o e n i=>?_,u.there,fun b xs e=>?_,fun b o xs e=>?_,fun b ps e=>?_⟩ (fun b o e=>?_) J.bare fun b g=>?_
 .rw[au (hb b o e)];exact u.free b o e n i
 .have q:=u.tups b xs e
  rw[au (aJ q f)];exact q
 .have q:=u.frzs b o xs e
  rw[au (aJ q f)];exact q
 .obtain ⟨m,q⟩:=u.tbls b ps e
  exact⟨m,by rw[au (aJ q f)];exact q⟩
 .by_cases e1:b=D
  .subst e1
   rw[aq] at e
   cases e
   exact⟨h,OQ,n,r,y⟩
  .rw[au e1] at e
   exact (J.hok b o e).vz (fun _ _ _ q=>q) (fun c q=>by rw[au (aJ q f)];exact q) fun c xs q=>by rw[au (aJ q f)];exact q
 .obtain ⟨_,x,_,v,t,s⟩:=j b g
  exact⟨v,x,t,s⟩
def PTs(X:Cx)(f:List Expr)(tt:TT):Prop :=
 ∀(pins:List (Addr × Obj)) (s:Shared) (σ:St) (H:Hp) (Q:Bool->Hp->Prop),Inv X pins σ H s->tt σ H Q ->
  wpAny (model X.prog X.w) X.A (forIn f true fun c r=>if r=true then do let ok <- isTrue c X.env (eval c X.env);pure (ForInStep.yield ok) else pure (ForInStep.yield r)) (TP X pins σ Q) X.xe s
def K4:TT:=fun _ H Q=>Q true H
theorem Fw:PTs X [] K4:=fun _ _ _ H _ I h=>wpAny_tests_nil ⟨H,I,h⟩
theorem iy(h:PT X c tc):PTs X [c] tc:=fun pins s σ H Q I q=>wpAny_tests_one (h pins s σ H Q I q)
def xo(n:TI)(g:TG)(tt:TT)(o:TE)(k:Nat)(idx:aad):TE:=fun σ H Q=>n σ H fun J s =>
 ∃W:Nat->Nat->List V->Hp->Prop,(∃m,W 0 m [] s)/\∀i m vs H,W i m vs H ->
  (J.stop i H/\vs.length<=sizeLine/\∀p,H p=none->Q (.ref p) (upd H p (.lst vs))) \/
  (J.go i H/\vs.length<=sizeLine/\∃N:List V->Hp->Prop,(∀f H',N f H'->∃c,c < m/\W (i+1) c f H')/\∀x H',J.yld i H x H'->g x (fK k idx σ) H' fun h r=>tt h r fun b j =>
   if b=true then o h j fun v q=>N (vs++[v]) q else N vs j)
def iC(k:Nat)(g:TG):Prop:=∀x σ H Q,g x σ H Q->g x σ H fun c f=>Q c f/\c.length=σ.length/\∀j,k<=j->c[j]?=σ[j]?
theorem iC.name(h:i<k):iC k (dZ i):=fun x σ H Q q=>⟨q,by simp,fun j hj=>by rw[Gc ()]⟩
theorem Gb(h:(fK k idx σ)[j]?=some (some v)):k<=j:=by
 by_cases hj:j<k
 .unfold fK at h
  rw[OE (by rw[OH];exact hj),O5,if_pos hj] at h
  cases h
 .omega
theorem wd{Rx Pz iter:Expr}{R6:List Expr}{pos:Pos}{g:TG}{tt:TT}{te:TE}{E:Value->Shared->Prop}{it:Addr}{Ub:Nat->Heap->Prop}{J:It}{Q:VK}{RR:Value->Addr->Result->Shared->Prop}
  (QR:X.calm=true) (S:aH X scope tn cap idx) (Sk:iC tn.length g)
  (hg:∀cs C fp s₀ H₀,PG (cxC X (tn++cap) scope cs C fp s₀ H₀) Pz g) (ht:∀cs C fp s₀ H₀,PTs (cxC X (tn++cap) scope cs C fp s₀ H₀) R6 tt)
  (he:∀cs C fp s₀ H₀,PE (cxC X (tn++cap) scope cs C fp s₀ H₀) Rx te)
  (I:Inv X pins σ H s2) (T:Turn X.prog X.w X.K Pz J fp it Ub) (S3:Ub 0 s2.heap) (f2:∀b∈fp,vD X pins H b)
  (hW:∃W:Nat->Nat->List V->Hp->Prop,(∃m,W 0 m [] H)/\∀i m vs H,W i m vs H ->
   (J.stop i H/\vs.length<=sizeLine/\∀p,H p=none->Q (.ref p) (upd H p (.lst vs))) \/
   (J.go i H/\vs.length<=sizeLine/\∃N:List V->Hp->Prop,(∀Sz H',N Sz H'->∃m',m' < m/\W (i+1) m' Sz H')/\∀x H',J.yld i H x H'->g x (fK tn.length idx σ) H' fun QX H2=>tt QX H2 fun b H3 =>
    if b=true then te QX H3 fun v H4=>N (vs++[v]) H4 else N vs H3))
  (hRR:∀(B:Shared) (H8:Hp) (C D:Addr) (m:Str->Option Value),Inv X pins σ H8 B->B.heap.Ns C m->H8 C=none->s2.heap.objs.size<=C->Q (.ref D) H8->RR (.ref D) C (.ok .next) B) :
  wpAny (model X.prog X.w) X.A (newList []) (fun acc RO=>wpAny (model X.prog X.w) X.A (newFunctionEnv scope X.env.globals (c9 X.env scope.names []) [] X.env.qual none .none (some X.env)) (fun VE S2 =>
   codeAny (model X.prog X.w) X.A (.compStart (.ListComp Rx [⟨Pz,iter,R6,0⟩] scope pos) 0 (.ref it) acc { VE with scope:=relabel scope X.env }) (RR acc VE.locals) S2) E RO) E s2:=by
 obtain ⟨W,⟨m0,w0⟩,Ra⟩:=hW
 have To:∀b∈fp,b<s2.heap.objs.size:=fun b hb=>by
  obtain ⟨o,e,_⟩:=T.obj _ _ S3 b hb
  exact Heap.lt_size e
 have I4:=Dm I S f2 To
 refine wpAny_newObj_type (qD ?_)
 have e1:({ s2 with heap:=s2.heap.push tW }:Shared).heap.objs.size=s2.heap.objs.size+1:=Heap.size_push ..
 rw[e1]
 generalize f:cxC X (tn++cap) scope (zk X s2.heap scope) (s2.heap.objs.size+1) fp s2 H=X' at I4
 have U:X'.A=X.A:=by subst f;rfl
 have Z:X'.prog=X.prog:=by subst f;rfl
 have hw:X'.w=X.w:=by subst f;rfl
 have hK:X'.K=X.K:=by subst f;rfl
 have Vm:X'.calm=true:=by subst f;exact QR
 have WX:X'.xe=fun _ _=>False:=by subst f;rfl
 have S8:X'.env.locals=s2.heap.objs.size+1:=by subst f;rfl
 have Xa:X'.pn=[]:=by subst f;rfl
 have hex:X'.ex=fp:=by subst f;rfl
 have W6:X'.s₀=s2:=by subst f;rfl
 have hg':PG X' Pz g:=by subst f;exact hg _ _ _ _ _
 have ht':PTs X' R6 tt:=by subst f;exact ht _ _ _ _ _
 have he':PE X' Rx te:=by subst f;exact he _ _ _ _ _
 have Vh:X'.env={ scope:=relabel scope X.env,locals:=s2.heap.objs.size+1,globals:=X.env.globals,cells:=zk X s2.heap scope,qual:=X.env.qual,func:=none,code:=X.env.code,frame:=X.env.frame,builtins:=X.env.builtins }:=by subst f;rfl
 let lo:List Value->Nat->Obj:=fun s n=>{ cls:=.type "list",data:=.seq s.toArray n }
 have R3:∀{H':Hp}{pl:List (Addr × Obj)},(∀b∈fp,H' b=none)->(∀p∈pl,p.1∉fp)->∀b∈fp,vD X' pl H' b:=fun {H' pl} hn h b hb=>by
  have q:=I4.ok.exf b (by rw[hex];exact hb)
  have q2:=I4.ok.exfs b (by rw[hex];exact hb)
  refine⟨hn b hb,q.1,q2,.inl (by rw[hex];exact hb),q.2,fun p Uq z=>?_⟩
  rw[Xa] at Uq
  exact h p Uq (by rw[z];exact hb)
 have Zm:s2.heap.objs.size∉fp:=fun z=>O6 _ (To _ z)
 have D1:∀(o:Obj),∀p∈[((s2.heap.objs.size:Addr),o)],p.1∉fp:=fun o p h=>by
  obtain rfl:=mo.mp h
  exact Zm
 have UR:∀s3:Shared,s3={ s2 with heap:=Ba s2.heap scope } ->
   codeAny (model X.prog X.w) X.A (.compLoop (.ListComp Rx [⟨Pz,iter,R6,0⟩] scope pos) 0 (.ref it) (.ref s2.heap.objs.size) X'.env) (RR (.ref s2.heap.objs.size) (s2.heap.objs.size+1)) s3:=by
  intro s3 W5
  subst W5
  refine Ax (fun n M=>∃i vs s t σ' H',Inv X' [(s2.heap.objs.size,lo s t)] σ' H' M/\(∀(j:Nat) v,(fK tn.length idx σ)[j]?=some (some v)->σ'[j]?=some (some v))/\σ'.length=(fK tn.length idx σ).length/\Ub i M.heap/\(∀b∈fp,H' b=none)/\Vals vs s/\W i n vs H') ?_ m0
   ⟨0,[],[],0,_,H,I4,fun _ _ z=>z,rfl,T.keep _ _ _ S3 (fun b hb o e=>pushCells_keeps _ _ _ _ (Heap.get?_push_of_some _ (Heap.get?_push_of_some _ e))),fun b hb=>(f2 b hb).1,.nil,w0⟩
  rintro n M ⟨i,vs,s,t,σ',H',I',VR,WT,SA,Y2,rv,w'⟩
  have I5:Inv X' [(s2.heap.objs.size,lo s t)] (fK tn.length idx σ) H' M:=I'.weak WT.symm VR
  rcases Ra i n vs H' w' with ⟨stop,hz,q⟩|⟨go,hz,N,hN,step⟩
  .-- it ends
   have td:=T.done X' Z hw hK Vm i _ M _ H' (fun _ _=>False) I5 (R3 Y2 (D1 _)) SA stop
   rw[U] at td
   refine thn td fun r B ⟨hr,G⟩=>?_
   subst hr
   obtain ⟨Tf,Y,_⟩:=G.pin (s2.heap.objs.size,lo s t) (by rw[Xa];exact mo.mpr rfl)
   have J8:Inv X pins σ (upd H' s2.heap.objs.size (.lst vs)) B:=by
    subst f
    exact comp_back I f2 G (Ol _) Y Tf rv hz
   obtain ⟨m,hm,_⟩:=G.loc
   rw[S8] at hm
   have hCf:H' (s2.heap.objs.size+1)=none:=by have:=G.free;rw[S8] at this;exact this
   refine hRR B _ _ _ m J8 hm ?_ (Pk _) (q _ Y)
   rw[au (Nat.ne_of_gt (PU _))]
   exact hCf
  .-- a Ra
   have ti:=T.item X' Z hw hK Vm i _ M _ H' (fun _ _=>False) I5 (R3 Y2 (D1 _)) SA go
   rw[U] at ti
   refine thn ti fun r s5 ⟨u,hr,h5⟩=>?_
   subst hr
   refine thn h5 fun _ R ⟨x,H6,I6,r6,y6,Wj,fr6⟩=>?_
   have I6':=I6.pinned (R3 fr6 (D1 _)) (T.obj _ _ Wj)
   have ag:=hg' _ R _ H6 x u _ I6' r6 (Sk _ _ _ _ (step x H6 y6))
   rw[Z,hw,U,WX] at ag
   refine thn ag fun _ s7 ⟨O,H7,I7,q7,hl7,hj7⟩=>?_
   have Zg:=ht' _ s7 O H7 _ I7 q7
   rw[Z,hw,U,WX] at Zg
   refine thn Zg fun b B ⟨H8,G,q8⟩=>?_
   have again:∀{y:Shared}{L:Hp}{vs9:List V}{its9:List Value}{n9:Nat},Inv X' ([(s2.heap.objs.size,lo its9 n9)]++mT fp R.heap) O L y->Vals vs9 its9->N vs9 L ->
     ∃m,m<n/\∃i vs s t σ' H',Inv X' [(s2.heap.objs.size,lo s t)] σ' H' y/\(∀(j:Nat) v,(fK tn.length idx σ)[j]?=some (some v)->σ'[j]?=some (some v))/\σ'.length=(fK tn.length idx σ).length/\Ub i y.heap/\(∀b∈fp,H' b=none)/\Vals vs s/\W i m vs H':=by
    intro y L vs9 its9 n9 F r9 Z5
    obtain ⟨m',hm',w9⟩:=hN _ _ Z5
    refine⟨m',hm',i+1,vs9,its9,n9,O,L,F.rP,fun j v e=>by rw[hj7 j (Gb e)];exact e,hl7,T.keep _ _ _ Wj fun b hb o e=>(F.pin (b,o) (Fk _ (Fk _ (mi hb e)))).1,fun b hb=>?_,r9,w9⟩
    obtain ⟨o,e,d⟩:=T.obj _ _ Wj b hb
    exact (F.pin (b,o) (Fk _ (Fk _ (mi hb e)))).2.1
   cases b with
   |false =>
    exact again G rv q8
   |true =>
    have ae:=he' _ B O H8 _ G q8
    rw[Z,hw,U,WX] at ae
    refine thn ae fun P y ⟨v9,L,F,r9,q9⟩=>?_
    obtain ⟨Tf,Y,YC,hp4,_⟩:=F.pin (s2.heap.objs.size,lo s t) (Fk _ (Oq _ (mo.mpr rfl)))
    have rvl:=rv.length
    refine append_at (hsz:=by rw[OG];omega) Tf fun h' Rv RU=>?_
    have ZV:∀p∈mT fp R.heap,p.1≠s2.heap.objs.size:=fun p h z=>Zm (by rw[<- z];exact (yD h).1)
    have I10:Inv X' (mT fp R.heap) O L y:=F.uV fun p h=>F.pin p (Fk _ (Fk _ h))
    have Zj:Inv X' (mT fp R.heap) O L { y with heap:=h' }:=I10.turned (t':=y.toks) (it:=s2.heap.objs.size) (fun b o hb e=>Rv.extBut b o hb e) Y YC (.inr (by rw[W6];exact Ol _))
     (fun x c e z=>by
      obtain ⟨v,o,q1,q2⟩:=F.cell x c e
      rw[z,Tf] at q1
      cases q1
      cases q2) (fun p h=>by rw[Xa] at h;exact ZV p h)
    have eo:({ cls:=.type "list",data:=.seq (s.toArray.push P) (t+1) }:Obj)=lo (s++[P]) (t+1):=by
     show ({ cls:=.type "list",data:=.seq (s.toArray.push P) (t+1) }:Obj)={ cls:=.type "list",data:=.seq (s++[P]).toArray (t+1) }
     rw[List.push_toArray]
    refine again (vs9:=vs++[v9]) (its9:=s++[P]) (n9:=t+1) (Zj.uV fun p h=>?_) (rv.append (.cons r9 .nil)) q9
    rcases Oj.mp h with h|h
    .obtain rfl:=mo.mp h
     refine⟨RU.trans (congrArg some eo),Y,YC,hp4,fun v z=>?_⟩
     have z':Data.seq _ _=Data.cell v:=z
     cases z'
    .exact Zj.pin p (Fk _ h)
 refine codeAny_compStart_list ?_ ?_
 .have:=UR _ rfl
  rw[Vh] at this
  exact this
 .refine T.self _ 0 _ _ _ (T.keep _ _ _ S3 (fun b hb o e=>pushCells_keeps _ _ _ _ (Heap.get?_push_of_some _ (Heap.get?_push_of_some _ e)))) ?_
  have:=UR _ rfl
  rw[Vh] at this
  exact this
theorem DV(I:Inv X pins σ H s2)(S:aH X scope tn cap idx):closureFor scope X.env=pure (c9 X.env scope.names []) :=
 xG fun n hm=>I.ok.has n (S.fr _ hm rfl)
theorem B8(S:aH X scope tn cap idx):∀x∈scope.names,x.2=.local->scope.names.lookup x.1=some .local:=fun x c e=>by
 obtain ⟨n,k⟩:=x
 have f:k=NameKind.local:=e
 subst f
 exact oh S.nd c
theorem ja(O:X.calm=true)(S:aH X scope tn cap idx)(hi:PI X Pz iter wi)(G:iC tn.length g)
  (r:∀cs C fp s₀ H₀,PG (cxC X (tn++cap) scope cs C fp s₀ H₀) Pz g) (ht:∀cs C fp s₀ H₀,PTs (cxC X (tn++cap) scope cs C fp s₀ H₀) R6 tt)
  (t:∀cs C fp s₀ H₀,PE (cxC X (tn++cap) scope cs C fp s₀ H₀) Rx te) (j:∀x,foldedSetIterable iter X.env x=pure x:=by intro _;rfl) :
  PE X (.ListComp Rx [⟨Pz,iter,R6,0⟩] scope pos) (xo wi g tt te tn.length idx):=by
 intro pins s σ H Q I h
 rw[eval_ListComp]
 refine wpAny_comprehension_free (use:=none) rfl j (DV I S) S.kind (B8 S) (thn (hi pins s σ H _ I h) fun v U E=>thn E fun Y s2 B=>?_)
 obtain ⟨it,fp,Z,J,H2,e,f,T,L,F,u⟩:=B
 subst e
 refine wd O S G r ht t f T L F u fun i R C D m P hm y hsz q=>?_
 refine⟨m,hm,fun h' M=>⟨.ref D,R,?_,rfl,q⟩⟩
 exact P.turned (t':=i.toks) (it:=C) (fun b o hb e=>M.extBut b o hb e) y (fun z=>absurd f.lt (by rw[<- z];exact QI.mpr hsz)) (.inr (OC f.sz hsz))
  (fun x c e z=>by
   obtain ⟨v,q⟩:=f.cell x c e
   exact absurd q.lt (by rw[z];exact QI.mpr hsz)) (fun p n z=>absurd (Heap.lt_size (f.pin p n).1) (by rw[z];exact QI.mpr hsz))
theorem y7(QR:X.calm=true)(S:aH X scope tn cap idx)(U:X.N.Nodup)(B:X.N[i]?=some y)(E:Loc X.env.scope y)
  (hi:PI X Pz iter wi) (Sk:iC tn.length g)
  (M:∀cs C fp s₀ H₀,PG (cxC X (tn++cap) scope cs C fp s₀ H₀) Pz g) (ht:∀cs C fp s₀ H₀,PTs (cxC X (tn++cap) scope cs C fp s₀ H₀) R6 tt)
  (P:∀cs C fp s₀ H₀,PE (cxC X (tn++cap) scope cs C fp s₀ H₀) Rx te)
  (Um:swapsWith (.ListComp Rx [⟨Pz,iter,R6,0⟩] scope pos) (some (.Name y py)) spos.line X.env=pure true:=by rfl) (F:∀x,foldedSetIterable iter X.env x=pure x:=by intro _;rfl)
  (O:X.fn y=true\/X.env.scope.names.lookup y=some .local:=by first|exact .inl rfl|exact .inr rfl|assumption) :
  PS X (.Assign [.Name y py] (.ListComp Rx [⟨Pz,iter,R6,0⟩] scope pos) spos) (j3 (xo wi g tt te tn.length idx) (dZ i)):=by
 intro pins s σ H D I h
 rw[exec_Assign_Name_used _ _ _ _ Um]
 refine wpAny_bind (wpAny_standAt (wpAny_bind ?_))
 show wpAny _ X.A (do let _ <- comprehension (.ListComp Rx [⟨Pz,iter,R6,0⟩] scope pos) scope X.env _ (newList []) false (eval iter X.env) (some (assign (.Name y py) X.env))) _ _ s
 refine wpAny_bind (wpAny_mono (wpAny_comprehension_free (use:=some (assign (.Name y py) X.env)) (Q:=fun _ j=>SP X pins D .next j) rfl F (DV I S) S.kind (B8 S)
  (thn (hi pins s σ H _ I h) fun v s1 h1=>thn h1 fun VP s2 Z=>?_)) (fun _ j G=>wpAny_pure (wpAny_pure G)) fun _ _ e=>e)
 obtain ⟨it,fp,Ub,J,H2,e,f,T,S3,f2,R⟩:=Z
 subst e
 refine wd (Q:=fun x H1=>dZ i x σ H1 D.nx) QR S Sk M ht P f T S3 f2 R fun s8 H8 C n m I8 hm Y hsz q=>?_
 show wpAny _ X.A (assign (.Name y py) X.env (.ref n)) _ _ _
 have r:C≠X.env.locals:=fun z=>absurd f.lt (by rw[<- z];exact QI.mpr hsz)
 have t:∀x c,X.env.cells.lookup x=some c->c≠C:=fun x c e z=>by
  obtain ⟨v,q⟩:=f.cell x c e
  exact absurd q.lt (by rw[z];exact QI.mpr hsz)
 refine wpAny_assign_Name (yj (v:=.ref n) I8 U B E rfl (fun u I9 ⟨a,Uo,ha⟩=>?_) O)
 have aC:C≠a:=fun z=>by
  rcases ha with e|e
  .exact r (z.trans e)
  .exact t _ _ e z.symm
 refine⟨m,hm.sameBut Uo aC,fun h' Rv=>⟨_,H8,?_,q⟩⟩
 exact I9.turned (t':=u.toks) (it:=C) (fun b o hb e=>Rv.extBut b o hb e) Y r (.inr (OC f.sz hsz)) t (fun p L z=>absurd (Heap.lt_size (f.pin p L).1) (by rw[z];exact QI.mpr hsz))
end
def Ju(J:It)(g:TG)(j:TE)(k:Nat)(idx:aad)(h:St)(r:Hp)(Q:VK):Prop :=
 ∃W:Nat->Nat->List V->Hp->Prop,(∃m,W 0 m [] r)/\∀i m vs H,W i m vs H ->
  (J.stop i H/\vs.length<=sizeLine/\∀p,H p=none->Q (.ref p) (upd H p (.lst vs))) \/
  (J.go i H/\vs.length<=sizeLine/\∃N:List V->Hp->Prop,(∀f H',N f H'->∃c,c < m/\W (i+1) c f H')/\∀x H',J.yld i H x H'->g x (fK k idx h) H' fun n q=>j n q fun v o=>N (vs++[v]) o)
def sQ(f:TI)(g:TG)(h:TE)(k:Nat)(idx:aad):TE:=fun c H Q=>f c H fun J i=>Ju J g h k idx c i Q
theorem sR:sQ wi g te k idx=xo wi g K4 te k idx:=by
 have e:∀(A B:Prop),(if true=true then A else B)=A:=fun A B=>if_pos rfl
 unfold sQ Ju xo K4
 simp only[if_true]
section
variable {X:Cx}{scope:Scope}{tn cap:List Str}{idx:aad}
theorem rJ(S:aH X scope tn cap idx)(hi:PI X Pz iter wi)(i:iC tn.length g)
  (f:∀cs C fp s₀ H₀,PG (cxC X (tn++cap) scope cs C fp s₀ H₀) Pz g)
  (h:∀cs C fp s₀ H₀,PE (cxC X (tn++cap) scope cs C fp s₀ H₀) Rx te) (j:X.calm=true:=by rfl) (c:∀x,foldedSetIterable iter X.env x=pure x:=by intro _;rfl) :
  PE X (.ListComp Rx [⟨Pz,iter,[],0⟩] scope pos) (sQ wi g te tn.length idx):=by
 rw[sR]
 exact ja j S hi i f (fun _ _ _ _ _=>Fw) h c
theorem wb(S:aH X scope tn cap idx)(o:X.N.Nodup)(c:X.N[i]?=some y)(f:Loc X.env.scope y)
  (hi:PI X Pz iter wi) (q:iC tn.length g)
  (j:∀cs C fp s₀ H₀,PG (cxC X (tn++cap) scope cs C fp s₀ H₀) Pz g)
  (n:∀cs C fp s₀ H₀,PE (cxC X (tn++cap) scope cs C fp s₀ H₀) Rx te) (r:X.calm=true:=by rfl)
  (p:swapsWith (.ListComp Rx [⟨Pz,iter,[],0⟩] scope pos) (some (.Name y py)) spos.line X.env=pure true:=by rfl) (h:∀x,foldedSetIterable iter X.env x=pure x:=by intro _;rfl)
  (m:X.fn y=true\/X.env.scope.names.lookup y=some .local:=by first|exact .inl rfl|exact .inr rfl|assumption) :
  PS X (.Assign [.Name y py] (.ListComp Rx [⟨Pz,iter,[],0⟩] scope pos) spos) (j3 (sQ wi g te tn.length idx) (dZ i)):=by
 rw[sR]
 exact y7 r S o c f hi q j (fun _ _ _ _ _=>Fw) n p h m
end
inductive D where
 |non|bl (b:Bool)|int (i:Int)|str (x:Str)|lst (ds:List D)|tup (ds:List D)
mutual
def Rf(H:Hp):D->V->List Addr->Prop
 |.non,v,fp=>v=.non/\fp=[]
 |.bl b,v,fp=>v=.bl b/\fp=[]
 |.int i,v,fp=>v=.int i/\fp=[]
 |.str x,v,fp=>v=.str x/\fp=[]
 |.lst ds,v,fp=>∃a xs c,v=.ref a/\H a=some (.lst xs)/\fp=a::c/\Rfs H ds xs c
 |.tup ds,v,fp=>∃a xs,v=.ref a/\H a=some (.tup xs)/\Rfs H ds xs fp
def Rfs(H:Hp):List D->List V->List Addr->Prop
 |[],xs,fp=>xs=[]/\fp=[]
 |d::ds,xs,fp=>∃x r g f,xs=x::r/\fp=g++f/\Rf H d x g/\Rfs H ds r f
end
def Rp(H:Hp)(d:D)(v:V):Prop:=∃fp,Rf H d v fp
theorem Rfs.length{H:Hp}:∀{ds:List D}{vs:List V}{fp:List Addr},Rfs H ds vs fp->vs.length=ds.length
 |[],_,_,h=>by obtain ⟨rfl,_⟩:=h;rfl
 |d::ds,vs,fp,h=>by
  obtain ⟨x,r,i,g,e1,e2,f,c⟩:=h
  subst e1
  rw[H0,H0,Rfs.length c]
theorem Rfs.get{H:Hp}:∀{ds:List D}{vs:List V}{fp:List Addr}{i:Nat}{d:D},Rfs H ds vs fp->ds[i]?=some d->∃v f,vs[i]?=some v/\Rf H d v f/\(∀a∈f,a∈fp)
 |[],_,_,_,_,_,e=>by simp at e
 |d::ds,vs,fp,0,d',h,e=>by
  obtain ⟨x,r,j,n,rfl,rfl,g,c⟩:=h
  simp at e;subst e
  exact⟨x,j,rfl,g,fun a ha=>Oq _ ha⟩
 |d::ds,vs,fp,i+1,d',h,e=>by
  obtain ⟨x,r,j,n,rfl,rfl,g,c⟩:=h
  obtain ⟨v,f,e1,m,k⟩:=Rfs.get (i:=i) c (by simpa using e)
  exact⟨v,f,by simpa using e1,m,fun a ha=>Fk _ (k a ha)⟩
abbrev dI(xs:aab):D:=.lst (xs.map D.int)
abbrev dT(t:aaa):D:=.lst (t.map dI)
section
variable {X:Cx}
theorem B6:gG X (.builtin "isinstance") (fun xs H Q=>∃x n t b,xs=[x,.ty n]/\oN X.K H x t/\PySem.W.kitOne X.K t (.type n)=some b/\Q (.bl b) H):=by
 intro c s g H xs us Q I r h
 obtain ⟨x,n,t,b,rfl,ty,e,q⟩:=h
 obtain ⟨u,f,rfl,rx,rn⟩:=vals2 r
 obtain rfl:f=Value.type n:=rn
 exact GI I rx ty e fun i=>⟨.bl b,H,I.tok _,rfl,q⟩
theorem jN:∀{xs:aab}{us:List Value},Vals (xs.map V.int) us->IntsAre us xs
 |[],us,r=>by cases r;exact .nil
 |x::xs,us,r=>by
  cases r with
  |cons r c =>
   obtain ⟨t,rfl⟩:=r
   exact .cons _ _ (jN c)
theorem ID(j:X.calm=true):gG X (.builtin "sum") (fun xs H Q=>∃(a:Addr) (ns:aab),xs=[.ref a]/\SqL X.K H a (ns.map V.int)/\Q (.int ns.sum) H):=by
 intro c s p H xs us Q I r h
 obtain ⟨a,ns,rfl,m,q⟩:=h
 obtain ⟨u,rfl,f⟩:=vals1 r
 obtain rfl:u=Value.ref a:=f
 obtain ⟨o,rv,pl,v⟩:=I.list m
 have hi:=jN rv
 obtain ⟨n,e⟩:=hi.allInts.items
 have g:s.heap.IsList a (intItems n):=by rw[<- e];exact pl.isList
 refine sum_intListG (I.ok.hd j) g fun h' t t' i=>⟨.int ns.sum,H,I.kept i,⟨t',?_⟩,q⟩
 have e2:numsOf o.toArray.toList=ns:=hi.numsOf
 rw[e,nums_intItems] at e2
 rw[preSum_eq,Po (by simp),e2]
end
def Itz(K:aae)(a b:Addr):It :=
 ⟨fun i H=>∃xs ys x y,SqL K H a xs/\SqL K H b ys/\xs[i]?=some x/\ys[i]?=some y,
 fun i H v H'=>∃p x y,v=.ref p/\H p=none/\H'=upd H p (.tup [x,y])/\(∀xs,SqL K H a xs->xs[i]?=some x)/\∀ys,SqL K H b ys->ys[i]?=some y,
 fun i H=>∃xs ys,SqL K H a xs/\SqL K H b ys/\(xs.length<=i\/ys.length<=i)⟩
def GZ(a b z TI TO f c:Addr)(i:Nat)(h:Heap):Prop :=
 IsZip h z TI TO .none/\IsPair h TI (.ref f) (.ref c)/\(∃u v,IsPair h TO u v)/\h.IsListIter f a i/\h.IsListIter c b i
theorem cT{h:Heap}{a b:Addr}{o u:Obj}{c d:String}(e1:h.get? a=some o)(e2:h.get? b=some u)(c1:o.cls=.type c)(f:u.cls=.type d)(n:c≠d):a≠b:=fun z=>by
 subst z;rw[e1] at e2;cases e2;rw[c1] at f;cases f;exact n rfl
theorem yV{h:Heap}{a b z TI TO q p:Addr}{i:Nat}{xs ys:Array Value}(st:GZ a b z TI TO q p i h)(s:h.IsList a xs)(r:h.IsList b ys)(d1:TI≠TO)(d2:q≠p):ZipApart z TI TO q p a b:=by
 obtain ⟨sz,o,⟨u,v,c⟩,⟨x,e1,c1,_⟩,⟨t,e2,f,_⟩⟩:=st
 obtain ⟨oa,j,n,_⟩:=s
 obtain ⟨ob,g,m,_⟩:=r
 exact⟨cT o sz rfl rfl nofun,cT c sz rfl rfl nofun,cT e1 sz c1 rfl nofun,cT e2 sz f rfl nofun,d1,cT o e1 rfl c1 nofun,cT o e2 rfl f nofun,cT c e1 rfl c1 nofun,cT c e2 rfl f nofun,d2,
  cT j sz n rfl nofun,cT j c n rfl nofun,cT j e1 n c1 nofun,cT j e2 n f nofun,cT g sz m rfl nofun,cT g c m rfl nofun,cT g e1 m c1 nofun,cT g e2 m f nofun⟩
theorem Inv.E3{X:Cx}{c:List (Addr × Obj)}{h:St}{H H':Hp}{s:Shared}{h':Heap}{fp:List Addr}{t':Nat}(I:Inv X c h H s)(i:∀b∈fp,vD X c H b)(k:∀b o,b∉fp->s.heap.get? b=some o->h'.get? b=some o)
  (free:∀b o,s.heap.get? b=some o->H b=none->H' b=none) (g:Same H H') (hok:HOk X.prog X.w H' h'):Inv X c h H' { s with heap:=h',toks:=t' }:=by
 have j:X.env.locals∉fp:=fun z=>(i _ z).2.1 rfl
 refine I.step (g':=s.gens) (d':=s.drawn) (ch:=fp) (fun b hb=>?_) (fun b o _ _ f e _=>k b o f e) (fun b o _ _ f e _=>⟨o.slots,k b o f e⟩) (fun b o _ e n=>free b o e n) (fun b o f e=>⟨o,k b o f e⟩)
  (fun b xs e=>g b _ e) (fun b o u e=>g b _ e) (fun b ps e=>⟨#[],by rw[g b _ e];simp⟩) (fun m hm=>?_) hok I.bare
 .obtain ⟨_,x,_,v,t,q⟩:=i b hb
  exact⟨v,x,t,q⟩
 .obtain ⟨o,es,ep,p,r⟩:=hm
  exact⟨o,es,ep,k _ o j p,r⟩
theorem Hy{P:Program}{w:World}{K:aae}{R9:List Expr}{x1:Nat}{pos:Pos}(a b z TI TO J G:Addr)(d1:TI≠TO)(d2:J≠G):Turn P w K (.Tuple R9 x1 pos) (Itz K a b) [z,TI,TO,J,G] z (GZ a b z TI TO J G) where
 mem:=by simp
 obj:=fun i h st c f=>by
  obtain ⟨sz,j,⟨u,v,m⟩,⟨o1,e1,c1,q1⟩,⟨o2,e2,c2,q2⟩⟩:=st
  simp only[KE,OF,or_false] at f
  rcases f with rfl|rfl|rfl|rfl|rfl
  .exact⟨_,sz,fun v z=>by cases z⟩
  .exact⟨_,j,fun v z=>by cases z⟩
  .exact⟨_,m,fun v z=>by cases z⟩
  .exact⟨_,e1,fun v z=>by rw[q1] at z;cases z⟩
  .exact⟨_,e2,fun v z=>by rw[q2] at z;cases z⟩
 keep:=fun i h h' st k=>by
  obtain ⟨sz,j,⟨u,v,m⟩,t,r⟩:=st
  exact⟨k _ (by simp) _ sz,k _ (by simp) _ j,⟨u,v,k _ (by simp) _ m⟩,t.at fun o e=>k _ (by simp) o e,r.at fun o e=>k _ (by simp) o e⟩
 item:=by
  intro X hP hw hK f i C s σ H E I B st Z
  subst hP hw hK
  obtain ⟨xs,ys,x,y,Q,R,hx,hy⟩:=Z
  obtain ⟨UT,VL,p1,Yt⟩:=I.list Q
  obtain ⟨Qk,Q8,p2,Te⟩:=I.list R
  obtain ⟨u,hu,ru⟩:=VL.get hx
  obtain ⟨v,hv,rv⟩:=Q8.get hy
  have g:=yV st p1.isList p2.isList d1 d2
  obtain ⟨sz,j,⟨ua,ub,m⟩,t,r⟩:=st
  refine wpAny_pyNext_zip_item g sz j m t r p1.isList p2.isList (x:=u) (y:=v) (by simpa using hu) (by simpa using hv) fun h1 z1 O1 t1 t2 pr hsz O=>?_
  refine⟨.ref s.heap.objs.size,rfl,wpAny_letOwnedTupleGo_zip z1 fun h2 z2 p=>?_⟩
  have Zo:z<s.heap.objs.size:=Heap.lt_size sz
  have pz:s.heap.objs.size≠z:=Nat.ne_of_gt Zo
  have hn:H s.heap.objs.size=none:=I.hok.fresh (Ol _)
  have F:∀c o,c∉[z,TI,TO,J,G]->s.heap.get? c=some o->h2.get? c=some o:=fun c o f e=>by
   simp only[KE,OF,or_false,not_or] at f
   exact p.extBut c o f.1 (O c o f.1 f.2.2.1 f.2.2.2.1 f.2.2.2.2 e)
  have U:Same H (upd H s.heap.objs.size (.tup [x,y])):=fun c o e=>by rw[au (aJ e hn)];exact e
  refine⟨.ref s.heap.objs.size,upd H s.heap.objs.size (.tup [x,y]),?_,rfl,⟨s.heap.objs.size,x,y,rfl,hn,rfl,fun zs Y=>by rw[I.ve Y Q];exact hx,fun zs Y=>by rw[I.ve Y R];exact hy⟩,
   ⟨z2,p.extBut _ _ g.TIz (O _ _ g.TIz g.TITO g.TIi1 g.TIi2 j),⟨u,v,p.extBut _ _ g.TOz O1⟩,t1.at fun o e=>p.extBut _ _ g.i1z e,t2.at fun o e=>p.extBut _ _ g.i2z e⟩,fun c f=>?_⟩
  .refine I.E3 (t':=s.toks) B F (fun c o e n=>by rw[au (OK (Heap.lt_size e))];exact n) U fun c o e=>?_
   by_cases L:c=s.heap.objs.size
   .subst L
    rw[aq] at e
    cases e
    exact⟨by simp only[H0,PQ];rw[sizeLine_eq];decide,[u,v],.cons ru (.cons rv .nil),⟨_,p.extBut _ _ pz pr,rfl,0,rfl⟩⟩
   .rw[au L] at e
    refine (I.hok c o e).vz (fun d T hd q=>F d T (fun hm=>?_) q) (fun d q=>U d _ q) fun d ds q=>U d _ q
    have M:=(B d hm).1
    rcases hd with rfl|hd
    .rw[M] at e;cases e
    .rw[M] at hd;cases hd
  .have:=(B c f).1
   by_cases L:c=s.heap.objs.size
   .exfalso
    subst L
    obtain ⟨_,e1,_⟩:=t
    obtain ⟨_,e2,_⟩:=r
    simp only[KE,OF,or_false] at f
    rcases f with q|q|q|q|q
    .exact pz q
    .exact absurd (Heap.lt_size j) (by rw[<- q];exact O6 _)
    .exact absurd (Heap.lt_size m) (by rw[<- q];exact O6 _)
    .exact absurd (Heap.lt_size e1) (by rw[<- q];exact O6 _)
    .exact absurd (Heap.lt_size e2) (by rw[<- q];exact O6 _)
   .rw[au L];exact this
 done:=by
  intro X hP hw hK f i C s σ H E I B st Z
  subst hP hw hK
  obtain ⟨xs,ys,Q,R,Sr⟩:=Z
  obtain ⟨UT,VL,p1,Yt⟩:=I.list Q
  obtain ⟨Qk,Q8,p2,Te⟩:=I.list R
  have l1:=VL.length
  have l2:=Q8.length
  have g:=yV st p1.isList p2.isList d1 d2
  obtain ⟨sz,j,⟨ua,ub,m⟩,t,r⟩:=st
  refine wpAny_pyNext_zip_end (I.ok.hd f) g sz j m t r p1.isList p2.isList (Sr.elim (fun q=>.inl (by simp;omega)) fun q=>.inr (by simp;omega)) fun h1 O=>⟨rfl,?_⟩
  have F:∀c o,c∉[z,TI,TO,J,G]->s.heap.get? c=some o->h1.get? c=some o:=fun c o f e=>by
   simp only[KE,OF,or_false,not_or] at f
   exact O c o f.1 f.2.2.1 f.2.2.2.1 f.2.2.2.2 e
  refine I.E3 (t':=s.toks) B F (fun _ _ _ n=>n) (Same.refl H) fun c o e=>?_
  refine (I.hok c o e).vz (fun d T hd q=>F d T (fun hm=>?_) q) (fun d q=>q) fun d ds q=>q
  have M:=(B d hm).1
  rcases hd with rfl|hd
  .rw[M] at e;cases e
  .rw[M] at hd;cases hd
 self:=fun _ _ _ _ _ st h=>wpAny_pyIter_zip st.1 h
section
variable {X:Cx}
def Ml(K:aae)(g:TA):TI:=fun f H R=>g f H fun vs c=>∃a b,vs=[.ref a,.ref b]/\(∃xs,SqL K c a xs)/\(∃ys,SqL K c b ys)/\R (Itz K a b) c
theorem L6(O:Gl X "zip")(hm:X.mg "zip" = none)(ha:PA X [a,b] ta)(M:starEach [a,b] X.env=[(false,eval a X.env),(false,eval b X.env)]:=by rfl)(r:starEach [b] X.env=[(false,eval b X.env)]:=by rfl) :
  PI X (.Tuple R9 x1 tp) (.Call (.Name "zip" p) [a,b] [] pos) (Ml X.K ta):=by
 intro g s m H R I h
 refine Call_ (hX I O hm boot_zip (O2 (thn (ha pos g s m H _ I h) fun us f ⟨vs,j,i,E,F⟩=>?_) (by rw[M,r]) (by rw[r];rfl)))
 obtain ⟨l1,l2,rfl,⟨xs,L⟩,⟨ys,J⟩,q⟩:=F
 obtain ⟨u,t,rfl,C,B⟩:=vals2 E
 obtain rfl:u=Value.ref l1:=C
 obtain rfl:t=Value.ref l2:=B
 obtain ⟨UT,VL,p1,Yt⟩:=i.list L
 obtain ⟨Qk,Q8,p2,Te⟩:=i.list J
 refine call_zip_2 p1.isList p2.isList fun h' sz z y x v hsz G=>?_
 have I2:Inv X g m j { f with heap:=h' }:=i.kept (t':=f.toks) G
 refine wpAny_pyIter_zip sz ⟨_,_,GZ l1 l2 (f.heap.objs.size+4) (f.heap.objs.size+2) (f.heap.objs.size+3) f.heap.objs.size (f.heap.objs.size+1),Itz X.K l1 l2,j,rfl,I2,Hy _ _ _ _ _ _ _ (OK (PU _)) (OK (PU _)),⟨sz,z,⟨_,_,y⟩,x,v⟩,fun c n=>?_,q⟩
 simp only[KE,OF,or_false] at n
 have o:f.heap.objs.size<=c:=by rcases n with rfl|rfl|rfl|rfl|rfl<;>first|exact Nat.le_add_right _ _|exact Ol _
 obtain ⟨Z,Y,U,T,Q,P⟩:=i.JE (H':=j) o (i.hok.fresh o)
 exact⟨Z,Y,U,T,Q,P⟩
end
mutual
def D.plain:D->Bool
 |.non=>true|.bl _=>false|.int _=>true|.str _=>true
 |.lst ds=>D.dC ds|.tup ds=>D.dC ds
def D.dC:List D->Bool
 |[]=>true
 |d::ds=>D.plain d && D.dC ds
end
mutual
def D.depth:D->Nat
 |.lst ds=>D.fj ds+1|.tup ds=>D.fj ds+1
 |_=>0
def D.fj:List D->Nat
 |[]=>0
 |d::ds=>max (D.depth d) (D.fj ds)
end
mutual
def D.eqb:D->D->Bool
 |.non,.non=>true
 |.int i,.int j=>i == j
 |.str i,.str j=>i == j
 |.lst a,.lst b=>D.ma a b
 |.tup a,.tup b=>D.ma a b
 |_,_=>false
def D.ma:List D->List D->Bool
 |[],[]=>true
 |a::as,b::bs=>D.eqb a b && D.ma as bs
 |_,_=>false
end
theorem D.lq:∀{a b:List D},D.ma a b=(decide (a.length=b.length) && (List.range a.length).all fun i=>match a[i]?,b[i]? with|some x,some y=>D.eqb x y|_,_=>false)
 |[],[]=>rfl
 |[],b::bs=>by simp [D.ma]
 |a::as,[]=>by simp [D.ma]
 |a::as,b::bs=>by
  rw[D.ma,D.lq (a:=as) (b:=bs),H0,List.range_succ_eq_map,Qu,Qb]
  by_cases h:as.length=bs.length
  .simp [h,Function.comp_def]
  .simp [h]
end L2
namespace L2
open PySem PySem.Spec PyProof.Rows
open PySem.SeqAt
theorem D.dG:∀{ds:List D}{i:Nat}{d:D},D.dC ds=true->ds[i]?=some d->d.plain=true
 |[],i,d,_,e=>by simp at e
 |c::ds,0,d,h,e=>by
  simp at e;subst e
  rw[D.dC,Pj] at h
  exact h.1
 |c::ds,i+1,d,h,e=>by
  rw[D.dC,Pj] at h
  exact D.dG (i:=i) h.2 (by simpa using e)
theorem D.jx:∀{ds:List D}{i:Nat}{d:D},ds[i]?=some d->d.depth<=D.fj ds
 |[],i,d,e=>by simp at e
 |c::ds,0,d,e=>by
  simp at e;subst e
  rw[D.fj]
  exact Nat.le_max_left _ _
 |c::ds,i+1,d,e=>by
  rw[D.fj]
  exact OC (D.jx (i:=i) (by simpa using e)) (Nat.le_max_right _ _)
theorem D.Jj(c:a.length=b.length)(f:Nat->Bool)(h:∀i x y,a[i]?=some x->b[i]?=some y->f i=D.eqb x y):D.ma a b=(List.range a.length).all f:=by
 rw[D.lq,decide_eq_true c,Bool.true_and,P1]
 simp only[OP,OL]
 constructor
 .intro q i hi
  have:=q i hi
  rw[ab hi,ab (show i<b.length by omega)] at this
  rw[h i _ _ (ab hi) (ab (show i<b.length by omega))]
  exact this
 .intro q i hi
  have:=q i hi
  rw[h i _ _ (ab hi) (ab (show i<b.length by omega))] at this
  rw[ab hi,ab (show i<b.length by omega)]
  exact this
theorem D.qy(c:a.length≠b.length):D.ma a b=false:=by
 rw[D.lq,decide_eq_false c,Bool.false_and]
theorem DW:∀(n:Nat) (d e:D) (v:V),d.depth<=n->Rp H d v->Rp H e v->d.plain=true->D.eqb d e=true:=by
 intro n
 induction n with
 |zero =>
  intro d e v hn hd c h
  obtain ⟨f,hd⟩:=hd
  obtain ⟨g,c⟩:=c
  cases d with
  |non=>obtain ⟨rfl,_⟩:=hd;cases e with
   |non=>rfl
   |lst ds=>obtain ⟨_,_,_,z,_⟩:=c;cases z
   |tup ds=>obtain ⟨_,_,z,_⟩:=c;cases z
   |_=>obtain ⟨z,_⟩:=c;cases z
  |bl b=>cases h
  |int i=>obtain ⟨rfl,_⟩:=hd;cases e with
   |int j=>obtain ⟨z,_⟩:=c;cases z;simp [D.eqb]
   |lst ds=>obtain ⟨_,_,_,z,_⟩:=c;cases z
   |tup ds=>obtain ⟨_,_,z,_⟩:=c;cases z
   |_=>obtain ⟨z,_⟩:=c;cases z
  |str i=>obtain ⟨rfl,_⟩:=hd;cases e with
   |str j=>obtain ⟨z,_⟩:=c;cases z;simp [D.eqb]
   |lst ds=>obtain ⟨_,_,_,z,_⟩:=c;cases z
   |tup ds=>obtain ⟨_,_,z,_⟩:=c;cases z
   |_=>obtain ⟨z,_⟩:=c;cases z
  |lst ds=>rw[D.depth] at hn;omega
  |tup ds=>rw[D.depth] at hn;omega
 |succ n ih =>
  intro d e v hn hd c h
  have go:∀(ds es:List D) (xs:List V) (f g:List Addr),D.fj ds<=n->Rfs H ds xs f->Rfs H es xs g->D.dC ds=true->D.ma ds es=true:=by
   intro ds es xs f g hn o m h
   have l1:=o.length
   have l2:=m.length
   rw[D.Jj () (fun _=>true) (fun i x y e1 e2=>?_)]
   .simp
   .obtain ⟨v1,C,s,r,_⟩:=o.get e1
    obtain ⟨u,B,q2,q,_⟩:=m.get e2
    rw[s] at q2;cases q2
    exact (ih x y v1 (OC (D.jx e1) hn) ⟨_,r⟩ ⟨_,q⟩ (D.dG h e1)).symm
  obtain ⟨f,hd⟩:=hd
  obtain ⟨g,c⟩:=c
  cases d with
  |non=>obtain ⟨rfl,_⟩:=hd;cases e with
   |non=>rfl
   |lst ds=>obtain ⟨_,_,_,z,_⟩:=c;cases z
   |tup ds=>obtain ⟨_,_,z,_⟩:=c;cases z
   |_=>obtain ⟨z,_⟩:=c;cases z
  |bl b=>cases h
  |int i=>obtain ⟨rfl,_⟩:=hd;cases e with
   |int j=>obtain ⟨z,_⟩:=c;cases z;simp [D.eqb]
   |lst ds=>obtain ⟨_,_,_,z,_⟩:=c;cases z
   |tup ds=>obtain ⟨_,_,z,_⟩:=c;cases z
   |_=>obtain ⟨z,_⟩:=c;cases z
  |str i=>obtain ⟨rfl,_⟩:=hd;cases e with
   |str j=>obtain ⟨z,_⟩:=c;cases z;simp [D.eqb]
   |lst ds=>obtain ⟨_,_,_,z,_⟩:=c;cases z
   |tup ds=>obtain ⟨_,_,z,_⟩:=c;cases z
   |_=>obtain ⟨z,_⟩:=c;cases z
  |lst ds =>
   obtain ⟨a,xs,t,rfl,e1,rfl,hd⟩:=hd
   cases e with
   |lst es =>
    obtain ⟨b,ys,p,z,e2,rfl,c⟩:=c
    cases z
    rw[e1] at e2;cases e2
    rw[D.eqb]
    exact go ds es xs t p (by rw[D.depth] at hn;omega) hd c h
   |tup es =>
    obtain ⟨b,ys,z,e2,c⟩:=c
    cases z
    rw[e1] at e2;cases e2
   |_=>obtain ⟨z,_⟩:=c;cases z
  |tup ds =>
   obtain ⟨a,xs,rfl,e1,hd⟩:=hd
   cases e with
   |tup es =>
    obtain ⟨b,ys,z,e2,c⟩:=c
    cases z
    rw[e1] at e2;cases e2
    rw[D.eqb]
    exact go ds es xs f g (by rw[D.depth] at hn;omega) hd c h
   |lst es =>
    obtain ⟨b,ys,p,z,e2,rfl,c⟩:=c
    cases z
    rw[e1] at e2;cases e2
   |_=>obtain ⟨z,_⟩:=c;cases z
theorem MF(I:Inv X pins σ H s):∀(n:Nat) (d e:D) (x y:V) (u w:Value) (A:Around),d.depth<=n->Rp H d x->Rp H e y->RelV x u->RelV y w->d.plain=true->e.plain=true->A.units+n<cLine ->
  EqAt A s u w (D.eqb d e):=by
 intro n
 induction n with
 |zero =>
  intro d e x y u w A hn hd c rx ry o m hu
  obtain ⟨f,hd⟩:=hd
  obtain ⟨g,c⟩:=c
  have h:A.units<cLine:=()
  cases d with
  |non =>
   obtain ⟨rfl,_⟩:=hd;obtain rfl:u=.none:=rx
   cases e with
   |non=>obtain ⟨rfl,_⟩:=c;obtain rfl:w=.none:=ry;exact EqAt.same _
   |bl b=>cases m
   |int j=>obtain ⟨rfl,_⟩:=c;obtain ⟨t,rfl⟩:=ry;exact EqAt.none_int _ _
   |str j=>obtain ⟨rfl,_⟩:=c;obtain ⟨t,rfl⟩:=ry;exact EqAt.none_str _ _
   |lst es=>obtain ⟨b,ys,L,rfl,e2,_,c⟩:=c;obtain rfl:w=.ref b:=ry;obtain ⟨_,_,pl,_⟩:=I.list (SqL.of e2);exact EqAt.none_list pl.isList h
   |tup es=>obtain ⟨b,ys,rfl,e2,c⟩:=c;obtain rfl:w=.ref b:=ry;obtain ⟨_,_,pl,_⟩:=I.tuple (SqT.of e2);exact EqAt.none_tuple pl h
  |bl b=>cases o
  |int i =>
   obtain ⟨rfl,_⟩:=hd;obtain ⟨t0,rfl⟩:=rx
   cases e with
   |non=>obtain ⟨rfl,_⟩:=c;obtain rfl:w=.none:=ry;exact EqAt.int_none _ _
   |bl b=>cases m
   |int j=>obtain ⟨rfl,_⟩:=c;obtain ⟨t,rfl⟩:=ry;exact EqAt.int_int _ _ _ _
   |str j=>obtain ⟨rfl,_⟩:=c;obtain ⟨t,rfl⟩:=ry;exact EqAt.int_str _ _ _ _
   |lst es=>obtain ⟨b,ys,L,rfl,e2,_,c⟩:=c;obtain rfl:w=.ref b:=ry;obtain ⟨_,_,pl,_⟩:=I.list (SqL.of e2);exact EqAt.int_list _ _ pl.isList h
   |tup es=>obtain ⟨b,ys,rfl,e2,c⟩:=c;obtain rfl:w=.ref b:=ry;obtain ⟨_,_,pl,_⟩:=I.tuple (SqT.of e2);exact EqAt.int_tuple _ _ pl h
  |str i =>
   obtain ⟨rfl,_⟩:=hd;obtain ⟨t0,rfl⟩:=rx
   cases e with
   |non=>obtain ⟨rfl,_⟩:=c;obtain rfl:w=.none:=ry;exact EqAt.str_none _ _
   |bl b=>cases m
   |int j=>obtain ⟨rfl,_⟩:=c;obtain ⟨t,rfl⟩:=ry;exact EqAt.str_int _ _ _ _
   |str j=>obtain ⟨rfl,_⟩:=c;obtain ⟨t,rfl⟩:=ry;exact EqAt.str_str _ _ _ _
   |lst es=>obtain ⟨b,ys,L,rfl,e2,_,c⟩:=c;obtain rfl:w=.ref b:=ry;obtain ⟨_,_,pl,_⟩:=I.list (SqL.of e2);exact EqAt.str_list _ _ pl.isList h
   |tup es=>obtain ⟨b,ys,rfl,e2,c⟩:=c;obtain rfl:w=.ref b:=ry;obtain ⟨_,_,pl,_⟩:=I.tuple (SqT.of e2);exact EqAt.str_tuple _ _ pl h
  |lst ds=>rw[D.depth] at hn;omega
  |tup ds=>rw[D.depth] at hn;omega
 |succ n ih =>
  intro d e x y u w A hn hd c rx ry o m hu
  have h:A.units<cLine:=()
  have ud:A.in1.units+n<cLine:=by show A.units+1+n<cLine;omega
  cases d with
  |non=>exact ih _ _ x y u w A (by simp [D.depth]) hd c rx ry o m ()
  |bl b=>cases o
  |int i=>exact ih _ _ x y u w A (by simp [D.depth]) hd c rx ry o m ()
  |str i=>exact ih _ _ x y u w A (by simp [D.depth]) hd c rx ry o m ()
  |lst ds =>
   have Vl:=hd
   have XE:=c
   obtain ⟨f,a,xs,fq,rfl,e1,rfl,hd⟩:=hd
   obtain rfl:u=.ref a:=rx
   obtain ⟨r,rv,pl,hz⟩:=I.list (SqL.of e1)
   obtain ⟨g,c⟩:=c
   cases e with
   |non=>obtain ⟨rfl,_⟩:=c;obtain rfl:w=.none:=ry;exact EqAt.list_none pl.isList h
   |bl b=>cases m
   |int j=>obtain ⟨rfl,_⟩:=c;obtain ⟨t,rfl⟩:=ry;exact EqAt.list_int _ _ pl.isList h
   |str j=>obtain ⟨rfl,_⟩:=c;obtain ⟨t,rfl⟩:=ry;exact EqAt.list_str _ _ pl.isList h
   |tup es=>obtain ⟨b,ys,rfl,e2,c⟩:=c;obtain rfl:w=.ref b:=ry;obtain ⟨_,_,q,_⟩:=I.tuple (SqT.of e2);exact EqAt.list_tuple pl.isList q h
   |lst es =>
    obtain ⟨b,ys,L,rfl,e2,rfl,c⟩:=c
    obtain rfl:w=.ref b:=ry
    by_cases G:a=b
    .subst G
     rw[DW _ _ _ _ (Ol _) Vl XE o]
     exact EqAt.same _
    .obtain ⟨C,J,q,Te⟩:=I.list (SqL.of e2)
     refine EqAt.of_refs G ?_
     have l1:=rv.length
     have l2:=J.length
     have m1:=hd.length
     have m2:=c.length
     by_cases B:ds.length=es.length
     .have key:=RcAt.lists (A:=A) (e:=fun i=>match ds[i]?,es[i]? with|some x,some y=>D.eqb x y|_,_=>false) pl.isList q.isList (by simp;omega) h (fun j Z h2=>by
       have p:j<ds.length:=by simp at Z;omega
       have v:j<es.length:=()
       simp only[ab p,ab v]
       obtain ⟨v1,f1,T,R,_⟩:=hd.get (ab p)
       obtain ⟨M,f2,q2,Q,_⟩:=c.get (ab v)
       obtain ⟨F,p1,P⟩:=rv.get T
       obtain ⟨E,p2,O⟩:=J.get q2
       have Y:r.toArray[j]=F:=by
        have:=oe.mp p1
        obtain ⟨_,z⟩:=this
        simpa using z
       have U:C.toArray[j]=E:=by
        have:=oe.mp p2
        obtain ⟨_,z⟩:=this
        simpa using z
       rw[Y,U]
       exact ih _ _ v1 M F E A.in1 (by have:=D.jx (ab p);rw[D.depth] at hn;omega) ⟨_,R⟩ ⟨_,Q⟩ P O (D.dG o (ab p)) (D.dG m (ab v)) ud)
      have e3:D.eqb (.lst ds) (.lst es)=(List.range r.toArray.size).all fun i=>match ds[i]?,es[i]? with|some x,some y=>D.eqb x y|_,_=>false:=by
       rw[D.eqb,D.lq,decide_eq_true B,Bool.true_and]
       rw[show r.toArray.size=ds.length by simp;omega]
       all_goals rfl
      rw[e3]
      exact key
     .rw[D.eqb,D.qy B]
      exact RcAt.lists_lengths pl.isList q.isList (by simp;omega) h
  |tup ds =>
   have Vl:=hd
   have XE:=c
   obtain ⟨f,a,xs,rfl,e1,hd⟩:=hd
   obtain rfl:u=.ref a:=rx
   obtain ⟨r,rv,pl,hz⟩:=I.tuple (SqT.of e1)
   obtain ⟨g,c⟩:=c
   cases e with
   |non=>obtain ⟨rfl,_⟩:=c;obtain rfl:w=.none:=ry;exact EqAt.tuple_none pl h
   |bl b=>cases m
   |int j=>obtain ⟨rfl,_⟩:=c;obtain ⟨t,rfl⟩:=ry;exact EqAt.tuple_int _ _ pl h
   |str j=>obtain ⟨rfl,_⟩:=c;obtain ⟨t,rfl⟩:=ry;exact EqAt.tuple_str _ _ pl h
   |lst es=>obtain ⟨b,ys,L,rfl,e2,_,c⟩:=c;obtain rfl:w=.ref b:=ry;obtain ⟨_,_,q,_⟩:=I.list (SqL.of e2);exact EqAt.tuple_list pl q.isList h
   |tup es =>
    obtain ⟨b,ys,rfl,e2,c⟩:=c
    obtain rfl:w=.ref b:=ry
    by_cases G:a=b
    .subst G
     rw[DW _ _ _ _ (Ol _) Vl XE o]
     exact EqAt.same _
    .obtain ⟨C,J,q,Te⟩:=I.tuple (SqT.of e2)
     refine EqAt.of_refs G ?_
     have l1:=rv.length
     have l2:=J.length
     have m1:=hd.length
     have m2:=c.length
     have key:=RcAt.tuples (A:=A) (e:=fun i=>match ds[i]?,es[i]? with|some x,some y=>D.eqb x y|_,_=>false) pl q h (fun j Z h2=>by
       have p:j<ds.length:=by simp at Z;omega
       have v:j<es.length:=by simp at h2;omega
       simp only[ab p,ab v]
       obtain ⟨v1,f1,T,R,_⟩:=hd.get (ab p)
       obtain ⟨M,f2,q2,Q,_⟩:=c.get (ab v)
       obtain ⟨F,p1,P⟩:=rv.get T
       obtain ⟨E,p2,O⟩:=J.get q2
       have Y:r.toArray[j]=F:=by
        have:=oe.mp p1
        obtain ⟨_,z⟩:=this
        simpa using z
       have U:C.toArray[j]=E:=by
        have:=oe.mp p2
        obtain ⟨_,z⟩:=this
        simpa using z
       rw[Y,U]
       exact ih _ _ v1 M F E A.in1 (by have:=D.jx (ab p);rw[D.depth] at hn;omega) ⟨_,R⟩ ⟨_,Q⟩ P O (D.dG o (ab p)) (D.dG m (ab v)) ud)
     have e3:D.eqb (.tup ds) (.tup es)=((List.range (min r.toArray.size C.toArray.size)).all (fun i=>match ds[i]?,es[i]? with|some x,some y=>D.eqb x y|_,_=>false) && r.toArray.size == C.toArray.size):=by
      rw[D.eqb]
      have z1:r.toArray.size=ds.length:=by simp;omega
      have z2:C.toArray.size=es.length:=by simp;omega
      rw[z1,z2]
      by_cases B:ds.length=es.length
      .rw[D.lq,decide_eq_true B,Bool.true_and,B,Nat.min_self,beq_self_eq_true,Bool.and_true]
       all_goals rfl
      .rw[D.qy B]
       have:(ds.length == es.length)=false:=beq_eq_false_iff_ne.mpr B
       rw[this,Bool.and_false]
     rw[e3]
     exact key
def qL(ds es:List D)(i:Nat):Bool:=match ds[i]?,es[i]? with|some x,some y=>D.eqb x y|_,_=>false
theorem qX{X:Cx}{c:List (Addr × Obj)}{v:St}{H:Hp}{s:Shared}(I:Inv X c v H s){A:Around}{ds es:List D}{xs ys:List V}{f g:List Addr}{m i:List Value}(hd:Rfs H ds xs f)(q:Rfs H es ys g)(rv:Vals xs m)(u:Vals ys i)
  (J:D.dC ds=true) (G:D.dC es=true) (O:A.units+1+D.fj ds<cLine):∀j (t:j<m.toArray.size) (r:j<i.toArray.size),EqAt A.in1 s m.toArray[j] i.toArray[j] (qL ds es j):=by
 intro j t r
 have l1:=rv.length
 have l2:=u.length
 have Q:=hd.length
 have P:=q.length
 have h:j<ds.length:=by simp at t;omega
 have n:j<es.length:=by simp at r;omega
 unfold qL
 simp only[ab h,ab n]
 obtain ⟨v1,T,F,E,_⟩:=hd.get (ab h)
 obtain ⟨x,R,q2,C,_⟩:=q.get (ab n)
 obtain ⟨p,p1,B⟩:=rv.get F
 obtain ⟨o,p2,y⟩:=u.get q2
 have M:m.toArray[j]=p:=by
  obtain ⟨_,z⟩:=oe.mp p1
  simpa using z
 have L:i.toArray[j]=o:=by
  obtain ⟨_,z⟩:=oe.mp p2
  simpa using z
 rw[M,L]
 exact MF I _ _ _ v1 x p o A.in1 (D.jx (ab h)) ⟨_,E⟩ ⟨_,C⟩ B y (D.dG J (ab h)) (D.dG G (ab n)) O
theorem wB(c:ds.length=es.length):D.ma ds es=(List.range ds.length).all (qL ds es):=by
 rw[D.lq,decide_eq_true c,Bool.true_and]
 rfl
section
variable {X:Cx}
def Jb(c:Bool):R2:=fun x y H Q=>∃ds es,Rp H (.lst ds) x/\Rp H (.lst es) y/\D.dC ds=true/\D.dC es=true/\D.fj ds<=60/\Q (.bl (if c then !D.ma ds es else D.ma ds es)) H
theorem Ij(F:X.A.units+64<cLine):OpR X (compareOp .Eq) (Jb false):=by
 intro c s z H x y v u Q I rx ry h
 obtain ⟨ds,es,⟨f,a,xs,J,rfl,e1,rfl,hd⟩,⟨g,b,ys,G,rfl,e2,rfl,j⟩,p,o,r,q⟩:=h
 obtain rfl:v=.ref a:=rx
 obtain rfl:u=.ref b:=ry
 obtain ⟨t,rv,pl,E⟩:=I.list (SqL.of e1)
 obtain ⟨M,n,m,L⟩:=I.list (SqL.of e2)
 have l1:=rv.length
 have l2:=n.length
 have C:=hd.length
 have B:=j.length
 by_cases i:ds.length=es.length
 .refine eq_listAt pl.isList m.isList (by simp;omega) () (qX I hd j rv n p o ()) (aR I q ?_)
  rw[wB i,show t.toArray.size=ds.length by simp;omega]
  all_goals rfl
 .refine eq_list_lengthsAt pl.isList m.isList (by simp;omega) () (aR I q ?_)
  rw[D.qy i]
  all_goals rfl
theorem kM(F:X.A.units+64<cLine):OpR X (compareOp .NotEq) (Jb true):=by
 intro c s z H x y v u Q I rx ry h
 obtain ⟨ds,es,⟨f,a,xs,J,rfl,e1,rfl,hd⟩,⟨g,b,ys,G,rfl,e2,rfl,j⟩,p,o,r,q⟩:=h
 obtain rfl:v=.ref a:=rx
 obtain rfl:u=.ref b:=ry
 obtain ⟨t,rv,pl,E⟩:=I.list (SqL.of e1)
 obtain ⟨M,n,m,L⟩:=I.list (SqL.of e2)
 have l1:=rv.length
 have l2:=n.length
 have C:=hd.length
 have B:=j.length
 by_cases i:ds.length=es.length
 .refine RcNeAt.lists pl.isList m.isList (by simp;omega) () (qX I hd j rv n p o ()) _ _ _ _ (aR I q ?_)
  rw[wB i,show t.toArray.size=ds.length by simp;omega]
  all_goals rfl
 .refine RcNeAt.lists_lengths pl.isList m.isList (by simp;omega) () _ _ _ _ (aR I q ?_)
  rw[D.qy i]
  all_goals rfl
end
theorem D.fI:∀(xs:aab),D.dC (xs.map D.int)=true
 |[]=>rfl
 |x::xs=>by rw[Oi,D.dC,D.fI xs];rfl
theorem D.iL:∀(t:aaa),D.dC (t.map dI)=true
 |[]=>rfl
 |x::xs=>by rw[Oi,D.dC,D.iL xs,D.plain,D.fI];rfl
theorem D.kf:∀(xs:aab),D.fj (xs.map D.int)=0
 |[]=>rfl
 |x::xs=>by rw[Oi,D.fj,D.kf xs];rfl
theorem D.nC:∀(t:aaa),D.fj (t.map dI)<=1
 |[]=>by rw[QH,D.fj];omega
 |x::xs=>by
  have:=D.nC xs
  rw[Oi,D.fj,D.depth,D.kf]
  exact Nat.max_le.mpr ⟨Ol _,this⟩
theorem D.oI:∀(xs ys:aab),D.ma (xs.map D.int) (ys.map D.int)=decide (xs=ys)
 |[],[]=>rfl
 |[],y::ys=>rfl
 |x::xs,[]=>rfl
 |x::xs,y::ys=>by
  rw[Oi,Oi,D.ma,D.oI xs ys,D.eqb]
  by_cases h:x=y
  .subst h;simp
  .have:(x == y)=false:=beq_eq_false_iff_ne.mpr h
   simp [this,h]
theorem D.yB:∀(xs ys:aaa),D.ma (xs.map dI) (ys.map dI)=decide (xs=ys)
 |[],[]=>rfl
 |[],y::ys=>rfl
 |x::xs,[]=>rfl
 |x::xs,y::ys=>by
  rw[Oi,Oi,D.ma,D.yB xs ys,D.eqb,D.oI]
  by_cases h:x=y
  .subst h;simp
  .simp [h]
def NZ(i j:Int):Prop:=∃m n:Nat,i.natAbs<2 ^ m/\j.natAbs<2 ^ n/\m+n<=100000000
def Lp(i j:Int):Prop:=0<j/\∃m:Nat,j.natAbs<2 ^ m/\m<=9000
section
variable {X:Cx}
theorem AI:OpR X (binaryOp .Mult) (rI NZ fun i j=>.int (i*j)):=opI fun i j _ _ _ _ _ c q=>by
 obtain ⟨m,n,g,f,h⟩:=c
 exact mul_int q (mulOk_of_bits (intBits_le g) (intBits_le f) ())
theorem jE:OpR X (binaryOp .FloorDiv) (rI Lp fun i j=>.int (i / j)):=opI fun i j _ _ _ _ _ c q=>by
 obtain ⟨h,m,g,f⟩:=c
 have hj:j.natAbs≠0:=()
 refine floordiv_int () ?_ (.inl (PyProof.noPylong_of_log2 (OA ((Nat.log2_lt hj).mpr g) f)))
 rw[Int.fdiv_eq_ediv_of_nonneg i ()]
 exact q
end
def vY(scope sc0:Scope):Scope:={ scope with names:=scope.names.map fun (n,k)=>if (k == .free && sc0.kind == .function && sc0.names.lookup n == some .cell) then (n,.cell) else (n,k) }
def si:List Str->Bool
 |[]=>true
 |x::xs=>!xs.contains x && si xs
theorem aM:∀{l:List Str},si l=true->l.Nodup
 |[],_=>Pl
 |x::xs,h=>by
  rw[si,Pj,Bool.not_eq_true'] at h
  refine Om.mpr ⟨fun z=>?_,aM h.2⟩
  have:=List.contains_iff_mem.mpr z
  rw[this] at h
  exact absurd h.1 nofun
def DC(sc0 scope:Scope)(tn cap:List Str):Bool :=
 decide (scope.kind=.function) && si (scope.names.map (·.1)) && si (tn++cap) && cap.all (fun y=>decide (scope.names.lookup y=some .free)) &&
  scope.names.all fun y=>!decide (y.2=.free) || (decide (sc0.names.lookup y.1=some .cell) || decide (sc0.names.lookup y.1=some .free))
theorem aH.of(h:DC sc0 scope tn cap=true)(e:X.env.scope=sc0)(ci:idx.map (fun i=>X.N[i]?)=cap.map some):aH X scope tn cap idx:=by
 unfold DC at h
 simp only[Pj,decide_eq_true_eq,OP,Bool.or_eq_true,Bool.not_eq_true',decide_eq_false_iff_not] at h
 obtain ⟨⟨⟨⟨o,n⟩,m⟩,j⟩,g⟩:=h
 refine⟨o,aM n,aM m,j,ci,fun y c f=>?_⟩
 rw[e]
 rcases g y c with z|z
 .exact absurd f z
 .exact z
structure FnAt(K:aae)(mg:Str->Option Value)(x:Str)(st:Stmt)(ps:List Str)(f:Addr)(fd:FuncData):Prop where
 fn:Fun K x x st f fd
 mg:mg x=some (.ref f)
 bd:Binds K fd ps []
end L2
namespace L2
open PySem PySem.Spec PyProof.Rows
theorem small(h:n<=100000):n<=sizeLine:=OC h (by rw[sizeLine_eq];decide)
section
variable {X:Cx}{K:aae}
theorem Jf(h:X.K=K):IxR X (x9 K):=by subst h;exact JA
theorem KP(h:X.K=K):IxR X (xP K):=by subst h;exact ME
theorem G1(h:X.K=K)(c:PE X l tl):PI X tg l (BA K tl):=by subst h;exact Ko c
theorem J6(h:X.K=K)(c:PE X l tl):PI X tg l (ML K tl):=by subst h;exact MX c
theorem J3(h:X.K=K)(f:Gl X "zip")(hm:X.mg "zip" = none)(ha:PA X [a,b] ta)(c:starEach [a,b] X.env=[(false,eval a X.env),(false,eval b X.env)]:=by rfl)(g:starEach [b] X.env=[(false,eval b X.env)]:=by rfl) :
  PI X (.Tuple R9 x1 tp) (.Call (.Name "zip" p) [a,b] [] pos) (Ml K ta):=by subst h;exact L6 f hm ha c g
theorem FX(h:X.K=K):gG X (.builtin "len") (fun xs H Q=>∃p ys,xs=[.ref p]/\(SqL K H p ys\/SqT K H p ys)/\Q (.int ys.length) H):=by subst h;exact Aa
theorem cq(h:X.K=K):gG X (.builtin "isinstance") (fun xs H Q=>∃x n t b,xs=[x,.ty n]/\oN K H x t/\PySem.W.kitOne K t (.type n)=some b/\Q (.bl b) H):=by subst h;exact B6
theorem bX(h:X.K=K)(c:X.calm=true):gG X (.builtin "sum") (fun xs H Q=>∃(a:Addr) (ns:aab),xs=[.ref a]/\SqL K H a (ns.map V.int)/\Q (.int ns.sum) H):=by subst h;exact ID c
theorem bg(h:X.K=K):gG X (.type "list") (fun xs H Q=>∃p ys,xs=[.ref p]/\(SqL K H p ys\/SqT K H p ys)/\∀l,H l=none->Q (.ref l) (upd H l (.lst ys))):=by subst h;exact Ao
theorem jX(h:X.K=K):SlR X (LS K):=by subst h;exact Kf
theorem M6(h:X.K=K):OpR X (compareOp .In) (rIn K false):=by subst h;exact GG
theorem FI(h:X.K=K):OpR X (compareOp .NotIn) (rIn K true):=by subst h;exact zK
theorem FA(h:X.K=K)(c:X.calm=true)(ht:PGs X es t)
  (hn:(assignEach es X.env).length=n:=by rfl) (f:(assignEach es X.env).findIdx? (·.1)=none:=by rfl):PG X (.Tuple es k pos) (J4 K n t):=by subst h;exact Mi c ht hn f
end
theorem rF{K:aae}{n:String}:PySem.W.kitOne K (.type n) (.type n)=some true:=by unfold PySem.W.kitOne;rw[if_pos (beq_self_eq_true _)]
def IP(X:Cx)(f:Value)(ks:List Str)(r:List V->List V->Hp->VK->Prop):Prop :=
 ∀(c:List (Addr × Obj)) (s:Shared) (g:St) (H:Hp) (xs h:List V) (us ws:List Value) (Q:VK),Inv X c g H s->Vals xs us->Vals h ws->r xs h H Q ->
  wpAny (model X.prog X.w) X.A (call f us (ks.zip ws)) (EP X c g Q) X.xe s
section
variable {X:Cx}{x:Str}{p pos:Pos}{e:Expr}{es:List Expr}{SF:List Keyword}{t tk:TA}{id:String}{ks:List Str}{r:List V->List V->Hp->VK->Prop}
def Nd(r:List V->List V->Hp->VK->Prop)(t g:TA):TE:=fun c H Q=>t c H fun vs i=>g c i fun f h=>r vs f h Q
theorem FU(z:IP X (.builtin id) ks r)(v:Gl X x)(hm:X.mg x=none)(u:bootBuiltins x=some (.builtin id))(ha:PA X (e::es) t)(g:PK X SF tk)(C:(backToKw pos (keywordEach SF X.env)).filterMap (·.1)=ks:=by rfl)(hn:x≠"__name__":=by decide)(E:(x == ("__debug__" : Str))=false:=by decide)
  (y:backTo pos (starEach (e::es) X.env)=(false,eval e X.env)::backTo pos (starEach es X.env):=by rfl) (F:(backTo pos (starEach (e::es) X.env)).any (·.1)=false:=by rfl) (G:(backToKw pos (keywordEach SF X.env)).all (·.1.isSome)=true:=by rfl)
  (B:(backToKw pos (keywordEach SF X.env)).any (·.1.isNone)=false:=by rfl):PE X (.Call (.Name x p) (e::es) SF pos) (Nd r t tk):=by
 intro c s f H Q I h
 refine wpAny_Call_Name_kw (hX I v hm u ?_ hn E)
 refine callWith_kw (thn (ha pos c s f H _ I h) fun us m ⟨vs,O,L,o,q⟩=>?_) y F G B
 refine thn (g pos c m f O _ L q) fun ws j ⟨i,M,J,n,q2⟩=>?_
 rw[C]
 exact z c j f M vs i us ws Q J o n q2
end
section
variable {X:Cx}{K:aae}
theorem gu:∀{us:List Value}{ns:aab},IntsAre us ns->Vals (ns.map V.int) us
 |_,_,.nil=>.nil
 |_,_,.cons n t h=>.cons ⟨t,rfl⟩ (gu h)
theorem uB(x:X.K=K):IP X (.builtin "sorted") ["reverse"] (fun xs f H Q=>∃(a:Addr) (ns:aab) (b:Bool),xs=[.ref a]/\f=[.bl b]/\SqL K H a (ns.map V.int)/\ns.length<64 /\
  ∀(l:Addr) (c:aab),H l=none->c.Perm ns->Ordered b c->Q (.ref l) (upd H l (.lst (c.map V.int)))):=by
 subst x
 intro g s B H xs f us ws Q I r j h
 obtain ⟨a,ns,b,rfl,rfl,v,C,q⟩:=h
 obtain ⟨u,rfl,m⟩:=vals1 r
 obtain ⟨i,rfl,y⟩:=vals1 j
 obtain rfl:u=Value.ref a:=m
 obtain rfl:i=Value.bool b:=y
 obtain ⟨z,rv,pl,_⟩:=I.list v
 have p:=rv.length
 rw[dz] at p
 refine sorted_ints_rev pl.isList (jN rv) () fun out c a1 a2 a3=>?_
 obtain ⟨n,t⟩:=sortedAll_at s.heap z out
 have hn:H (s.heap.objs.size+1)=none:=I.hok.fresh (Pk _)
 have E:=a2.length_eq
 refine⟨.ref (s.heap.objs.size+1),_,I.laid (t':=s.toks) (o:=.lst (c.map V.int)) (fun b o e=>sortedAll_old e) (Pk _) ⟨?_,out.toList,n,gu a1,?_⟩,rfl,q _ c hn a2 a3⟩
 .rw[dz];exact small ()
 .exact t
end
theorem CU:typeLookup (.type "list_reverseiterator") "__len__" = pure none:=by rw[typeLookup_type,builtinLookup_eq_fast];kernel_rfl
theorem HL:typeLookup (.type "list_reverseiterator") "__length_hint__" = pure (some (.builtin "list_reverseiterator.__length_hint__")):=by rw[typeLookup_type,builtinLookup_eq_fast];kernel_rfl
theorem Ad:isSubtype (.type "list_reverseiterator") (.type "list_reverseiterator")=pure true:=by rw[isSubtype_type];kernel_rfl
section
variable {prog:Program}{w:World}{A:Around}{E:Value->Shared->Prop}{s:Shared}
theorem vx(g:s.heap.IsRevIter it l i)(h:Q false s):wpAny (model prog w) A (Builtin.List.listLengthHint (.ref it)) Q E s:=by
 unfold Builtin.List.listLengthHint
 refine wpAny_bind (wpAny_specialOf g.typeIs CU ?_)
 show wpAny _ A (specialOf (Value.ref it) (Str.ofString "__length_hint__") >>= _) _ _ _
 refine wpAny_bind (wpAny_specialOf g.typeIs HL ?_)
 generalize c:("list_reverseiterator.__length_hint__" : String)=id0
 wp_delta
 rw[show splitId id0=some ("list_reverseiterator","__length_hint__") from by subst c;decide +kernel]
 subst c
 refine wpAny_bind (wpAny_isInstance (T:="list_reverseiterator") (b:=true) g.typeIs Ad ?_)
 refine wpAny_ite_split (fun f=>absurd f nofun) (fun _=>?_)
 refine wpAny_ite_split (fun _=>?_) (fun f=>absurd (by decide +kernel) f)
 refine wpAny_ite_split (fun f=>absurd f nofun) (fun _=>?_)
 exact wpAny_pure h
theorem sG(B:A.handled=none)(j:s.heap.IsRevIter it l ((items.size:Int) - 1))(q:s.heap.IsList l items)(Y:items.size<=sizeLine)(S:Addr)(res:Value)(u:Nat)
  (r:s.heap.get? S=some { cls:=.type "list",data:=.seq #[] u }) (M:S≠l)
  (C:∀h' z m h,(∀b o,b≠S->b≠it->s.heap.get? b=some o->h'.get? b=some o)->h'.get? S=some { cls:=.type "list",dict:=none,data:=.seq m h,slots:=#[] } ->
   ItemsOf (fun i v=>items[items.size - 1 - i]?=some v) m items.size->R (.ok (.ret res)) { s with heap:=h',toks:=z }) :
  wpAny (model prog w) A.in1 (Builtin.List.listExtendWith (.ref S) (.ref it) res)
   (fun U g=>match U with|.done f=>R (.ok f) g|.again h=>h.quiet=true/\codeAny (model prog w) A h R g) (fun e g=>R (.error e) g) s:=by
 obtain ⟨oi,t,y,RW⟩:=id j
 have x:S≠it:=cT r t rfl y nofun
 obtain ⟨Z,J,O,_⟩:=id q
 have n:l≠it:=cT J t O y nofun
 have p:S∉[it,l]:=fun hm=>by
  rcases KE.mp hm with e|hm
  .exact x e
  .exact M (mo.mp hm)
 have W:=(Walks.listRev (prog:=prog) (w:=w) (A:=A.in1) B it l n items).toS
 unfold Builtin.List.listExtendWith
 refine wpAny_bind (wpAny_typeOf (T:="list_reverseiterator") j.typeIs ?_)
 have H:Builtin.List.listSameRef (.ref S) (.ref it)=false:=by simp [Builtin.List.listSameRef,x]
 have G:(Value.type "list_reverseiterator" == Value.type "list")=false:=by decide
 have E:(Value.type "list_reverseiterator" == Value.type "tuple")=false:=by decide
 simp only[H,G,E,Bool.or_false,Pm,if_false]
 refine wpAny_bind (wpAny_pyIter_revIter j ?_)
 refine wpAny_bind (wpAny_holding (vx j ?_))
 refine wpAny_ite_split (fun P=>absurd P nofun) (fun _=>?_)
 refine wpAny_pure ⟨plainId_quiet F.plain_extend_loop _,?_⟩
 refine codeAny_extend_loopS W Y S p res items.size 0 _ #[] u rfl (Pd _) ⟨Pd _,by simpa using j,q⟩ r (ItemsOf.nil _) fun g m h hm Q X=>?_
 rw[Moved.eq_with hm]
 refine C g.heap g.toks m h (fun b o hb L e=>hm.heap b o (fun c=>?_) e) Q X
 rcases KE.mp c with I|c
 .exact hb I
 .exact L (mo.mp c)
theorem oR(u:A.handled=none)(q:s.heap.IsRevIter it l ((items.size:Int) - 1))(r:s.heap.IsList l items)(I:items.size<=sizeLine)(S:Addr)
  (h:s.heap.get? S=some { cls:=.type "list",data:=.seq #[] }) (p:S≠l)
  (x:∀h' m j c,(∀b o,b≠S->b≠it->s.heap.get? b=some o->h'.get? b=some o)->h'.get? S=some { cls:=.type "list",dict:=none,data:=.seq j c,slots:=#[] } ->
   ItemsOf (fun i v=>items[items.size - 1 - i]?=some v) j items.size->R (.ok (.ret .none)) { s with heap:=h',toks:=m }) :
  wpAny (model prog w) A.in1 (Builtin.«list.__init__» ⟨[.ref S,.ref it],[]⟩)
   (fun G g=>match G with|.done f=>R (.ok f) g|.again c=>c.quiet=true/\codeAny (model prog w) A c R g) (fun e g=>R (.error e) g) s:=by
 obtain ⟨J,B,E,L⟩:=id q
 have C:S≠it:=cT h B rfl E nofun
 show wpAny _ _ (do let old <- Builtin.List.listItems (.ref S);Builtin.List.listUpdate (.ref S) (fun _=>#[]);letGo old.toList.reverse;Builtin.List.listExtendWith (.ref S) (.ref it) .none) _ _ s
 refine wpAny_bind ?_
 unfold Builtin.List.listItems
 refine wpAny_bind (wpAny_seqItems h rfl (wpAny_pure ?_))
 show wpAny _ _ (updateSeq S (fun _=>#[]) >>= fun _=>letGo (#[]:Array Value).toList.reverse >>= fun _=>Builtin.List.listExtendWith (.ref S) (.ref it) .none) _ _ s
 refine wpAny_bind (wpAny_updateSeq h rfl ?_)
 have z:=Heap.get?_update_self (Obj.mapSeq (fun _=>(#[]:Array Value))) h rfl
 have n:∀b o,b≠S->s.heap.get? b=some o->(s.heap.update S (Obj.mapSeq (fun _=>(#[]:Array Value)))).get? b=some o :=
  fun b o hb e=>(Heap.get?_update_other _ _ (OT hb)).trans e
 refine wpAny_bind (wpAny_letGo ?_)
 refine sG u (q.at fun o e=>n it o (OT C) e) (r.at fun o e=>n l o (OT p) e) I S .none _ z p fun h' m j c t F H=>?_
 exact x h' m j c (fun b o hb y e=>t b o hb y (n b o hb e)) F H
theorem xW(p:A.handled=none)(y:s.heap.IsRevIter it l ((items.size:Int) - 1))(j:s.heap.IsList l items)(z:items.size<=sizeLine)
  (q:∀h' g f h,(∀b o,b≠it->s.heap.get? b=some o->h'.get? b=some o) ->
   h'.get? s.heap.objs.size=some { cls:=.type "list",dict:=none,data:=.seq f h,slots:=#[] }->ItemsOf (fun i v=>items[items.size - 1 - i]?=some v) f items.size->Q (.ref s.heap.objs.size) { s with heap:=h',toks:=g }) :
  wpAny (model prog w) A (call (.type "list") [.ref it]) Q E s:=by
 refine callType_codes (Q₁:=fun obj c=>obj=.ref s.heap.objs.size/\c={ s with heap:=s.heap.push { cls:=.type "list",data:=.seq #[] } }) F.called_list (F.typeCall_list_1 _) F.entry_list_init
  (code_list_new _ ⟨rfl,rfl⟩) fun obj c u=>?_
 obtain ⟨rfl,rfl⟩:=u
 have m:(s.heap.push { cls:=.type "list",data:=.seq #[] }).get? s.heap.objs.size=some { cls:=.type "list",data:=.seq #[] }:=Heap.get?_push_size _ rfl
 obtain ⟨B,r,_⟩:=id j
 refine⟨⟨_,m,rfl⟩,F.args_list_init_2 _ _,oR (A:=A.in1) p (y.at fun o e=>Heap.get?_push_of_some _ e) (j.at fun o e=>Heap.get?_push_of_some _ e) z _ m (Nat.ne_of_gt (Heap.lt_size r)) fun h' g f h n t x=>?_⟩
 exact⟨rfl,q h' g f h (fun b o hb e=>n b o (OK (Heap.lt_size e)) hb (Heap.get?_push_of_some _ e)) t x⟩
end
section
variable {X:Cx}{K:aae}{e:Expr}{te:TE}{p p2 pos Sn:Pos}
def BY(K:aae)(g:TE):TE:=fun f H Q=>g f H fun x c=>∃a xs,x=.ref a/\SqL K c a xs/\∀l,c l=none->Q (.ref l) (upd c l (.lst xs.reverse))
theorem By(P:X.K=K)(M:X.calm=true)(J:Gl X "list")(hm:X.mg "list" = none)(Y:Gl X "reversed")(Z:X.mg "reversed" = none)(L:PE X e te)
  (m:starEach [Expr.Call (.Name "reversed" p2) [e] [] Sn] X.env=[(false,eval (.Call (.Name "reversed" p2) [e] [] Sn) X.env)]:=by rfl) (t:starEach [e] X.env=[(false,eval e X.env)]:=by rfl) :
  PE X (.Call (.Name "list" p) [.Call (.Name "reversed" p2) [e] [] Sn] [] pos) (BY K te):=by
 subst P
 intro g s u H Q I h
 refine wpAny_Call_Name_kw (hX I J hm boot_list ?_)
 refine O2 ?_ m rfl
 rw[m]
 refine Calls.spliced_cons ?_
 refine wpAny_Call_Name_kw (hX I Y Z boot_reversed ?_)
 refine O2 ?_ t rfl
 rw[t]
 refine Calls.spliced_cons (thn (L g s u H _ I h) fun v c ⟨x,H1,j,B,a,xs,ex,O,q⟩=>?_)
 subst ex
 obtain rfl:v=Value.ref a:=B
 obtain ⟨i,rv,pl,E⟩:=j.list O
 have F:=rv.length
 refine Calls.spliced_nil (PySem.call_reversed_list pl.isList (Calls.spliced_nil ?_))
 have PR:a<c.heap.objs.size:=by obtain ⟨o,e,_⟩:=pl.isList;exact Heap.lt_size e
 refine xW (items:=i.toArray) (I.ok.hd M) ⟨_,Heap.get?_push_size _ rfl,rfl,rfl⟩ (pl.isList.at fun o e=>Heap.get?_push_of_some _ e) (by simp;omega) fun h' y f U G r Q5=>?_
 have hsz:(c.heap.push (revObj a ((i.toArray.size:Int) - 1))).objs.size=c.heap.objs.size+1:=Heap.size_push ..
 have k1:∀b o,c.heap.get? b=some o->h'.get? b=some o:=fun b o e=>G b o (OK (Heap.lt_size e)) (Heap.get?_push_of_some _ e)
 have hn:H1 (c.heap.objs.size+1)=none:=j.hok.fresh (Pk _)
 rw[hsz] at r ⊢
 have SW:Vals xs.reverse f.toList:=by
  obtain ⟨a1,a2⟩:=Q5
  have e:f.toList=i.reverse:=by
   refine Px (by simpa using a1) fun n T h2=>?_
   have R:n<f.size:=by simpa using T
   have q:=a2 n f[n] (Array.getElem?_eq_getElem R)
   rw[List.getElem_reverse]
   have C:i[i.length - 1 - n]?=some f[n]:=by simpa using q
   obtain ⟨_,z⟩:=oe.mp C
   rw[z]
   simp
  rw[e]
  exact rv.reverse
 refine⟨.ref (c.heap.objs.size+1),_,j.laid (t':=y) (o:=.lst xs.reverse) k1 (Pk _) ⟨by rw[List.length_reverse];exact E,f.toList,U,SW,?_⟩,rfl,q _ hn⟩
 rw[r]
end
def zq(ns:aab):aab:=ns.mergeSort fun a b=>decide (b<=a)
theorem ou(ns:aab):(zq ns).Perm ns:=List.mergeSort_perm ns _
theorem yP(ns:aab):(zq ns).Pairwise (·>=·):=by
 have h:=List.pairwise_mergeSort (le:=fun a b:Int=>decide (b<=a)) (fun a b c g f=>by simp only[decide_eq_true_eq] at *;omega) (fun a b=>by simp only[Bool.or_eq_true,decide_eq_true_eq];omega) ns
 exact h.imp fun h=>by simpa using h
theorem El(c:ms.Perm ns)(h:ms.Pairwise (·>=·)):ms=zq ns :=
 (c.trans (ou ns).symm).eq_of_pairwise (fun x y _ _ g f=>Int.le_antisymm f g) h (yP ns)
theorem tO(ns:aab):(zq ns).length=ns.length:=(ou ns).length_eq
end L2
namespace L3
open PySem L2
inductive D where
 |non|bl (b:Bool)|int (i:Int)|str (x:Str)|lst (ds:List D)|tup (ds:List D)|dic (kvs:List (Key × V))|dit (kvs:List (List Key × V))|scr (ns:aab)|pin (a:Addr) (d:D)|mem (φ:Int->aab->Int->Prop)|raw (w:V)|ins (C:Addr) (ns:List Str) (ds:List D)
def NT:HO->Prop|.tbl _=>False|_=>True
def BZ:Str:="falling_places.<locals>.<lambda>"
def xT(c:Addr):HO:=.ext fun h=>h.CodeRec (.ref c) BZ
def TabAt(P:Addr)(H:Hp):Prop:=∃ps,H P=some (.tbl ps)/\TriplesOk ps.toList/\∀pos f,codeAmong pos ps.toList=some f->∃c,f=.ref c/\H c=some (xT c)
structure Same(H H':Hp):Prop where
 st:∀b o,H b=some o->NT o->H' b=some o
 tb:∀b ps,H b=some (.tbl ps)->∃ps',H' b=some (.tbl ps')
 ti:∀P,TabAt P H->TabAt P H'
theorem Same.refl(H:Hp):Same H H:=⟨fun _ _ h _=>h,fun _ ps h=>⟨ps,h⟩,fun _ h=>h⟩
theorem Same.trans(a:Same H H1)(b:Same H1 H2):Same H H2:=⟨fun c o h n=>b.st c o (a.st c o h n) n,fun c ps h=>let ⟨_,h1⟩:=a.tb c ps h;b.tb c _ h1,fun P h=>b.ti P (a.ti P h)⟩
theorem Same.free(e:Same H H')(h:H' l=Option.none):H l=Option.none:=by
 cases q:H l with
 |none=>rfl
 |some o =>
  by_cases n:NT o
  .rw[e.st l o q n] at h;cases h
  .cases o with
   |tbl ps=>obtain ⟨c,z⟩:=e.tb l ps q;rw[z] at h;cases h
   |_=>exact absurd trivial n
theorem Same.all(k:∀b u,H b=some u->H' b=some u):Same H H' :=
 ⟨fun b u e _=>k b u e,fun b ps e=>⟨ps,k b _ e⟩,fun P ⟨ps,e,g,f⟩=>⟨ps,k P _ e,g,fun pos h z=>let ⟨c,z1,z2⟩:=f pos h z;⟨c,z1,k c _ z2⟩⟩⟩
theorem Same.gQ(h:H p=none):Same H (upd H p o):=Same.all fun b u e=>by rw[au (aJ e h)];exact e
theorem Same.seq(e:Same H H')(h:SqL K H a xs):SqL K H' a xs:=by
 rcases h with (h|⟨o,h⟩)|h
 .exact .inl (.inl (e.st _ _ h trivial))
 .exact .inl (.inr ⟨o,e.st _ _ h trivial⟩)
 .exact .inr h
def xZ:Addr:=120
def gU(K:aae)(H:Hp):Prop:=TabAt xZ H
theorem gU.same(t:gU K H)(s:Same H H'):gU K H':=s.ti _ t
structure SB(K:aae)(B H:Hp):Prop extends Same B H where
 tv:gU K B
theorem SB.trans(a:SB K B H)(s:Same H H'):SB K B H':=⟨a.toSame.trans s,a.tv⟩
theorem SB.now(a:SB K B H):gU K H:=a.tv.same a.toSame
instance {K:aae}{B H:Hp}:CoeOut (SB K B H) (Same B H):=⟨SB.toSame⟩
theorem SB.refl(t:gU K H):SB K H H:=⟨Same.refl H,t⟩
def Kc(K:aae)(a:Addr)(xs:List V):Prop :=
 ∃(o:Obj) (c:Array Value) (n:Nat),K.lookup a=some o/\o.cls=.type "list"/\o.dict=none/\o.data=.seq c n/\c.size<=sizeLine/\Vals xs c.toList
def Sc(K:aae)(H:Hp)(a:Addr)(xs:List V):Prop:=(∃o,H a=some (.frz o (.lst xs)))\/Kc K a xs
theorem Sc.seq(h:Sc K H a xs):SqL K H a xs:=h.elim (fun ⟨o,h⟩=>.inl (.inr ⟨o,h⟩)) .inr
def Im(o:HO):Prop:=(∃xs,o=.tup xs)\/(∃f u,o=.frz f u)\/∃c ks,o=.memo c ks
section
variable {K:aae}
mutual
def Rf(K:aae)(H:Hp):D->V->List Addr->Prop
 |.non,v,fp=>v=.non/\fp=[]
 |.bl b,v,fp=>v=.bl b/\fp=[]
 |.int i,v,fp=>v=.int i/\fp=[]
 |.str x,v,fp=>v=.str x/\fp=[]
 |.lst ds,v,fp=>∃a xs c,v=.ref a/\H a=some (.lst xs)/\fp=a::c/\Rfs K H ds xs c
 |.tup ds,v,fp=>∃a xs,v=.ref a/\H a=some (.tup xs)/\Rfs K H ds xs fp
 |.dic kvs,v,fp=>∃a,v=.ref a/\H a=some (.dK kvs)/\(∀p∈kvs,gR p.2=true)/\fp=[a]
 |.dit kvs,v,fp=>∃a,v=.ref a/\H a=some (.dT kvs)/\(∀p∈kvs,gR p.2=true)/\fp=[a]
 |.scr ns,v,fp=>∃a,v=.ref a/\Sc K H a (ns.map V.int)/\fp=[]
 |.pin a d,v,fp=>v=.ref a/\Rf K H d v fp
 |.mem h,v,fp=>∃a,v=.ref a/\H a=some (.memo h [])/\fp=[]
 |.raw w,v,fp=>v=w/\fp=[]
 |.ins C ns ds,v,fp=>∃a dx xs c,v=.ref a/\H a=some (.ins C dx (ns.zip xs))/\fp=a::c/\Rfs K H ds xs c
def Rfs(K:aae)(H:Hp):List D->List V->List Addr->Prop
 |[],xs,fp=>xs=[]/\fp=[]
 |d::ds,xs,fp=>∃x r g f,xs=x::r/\fp=g++f/\Rf K H d x g/\Rfs K H ds r f
end
def Rp(K:aae)(H:Hp)(d:D)(v:V):Prop:=∃fp,Rf K H d v fp
def Rps(K:aae)(H:Hp)(ds:List D)(vs:List V):Prop:=∃fp,Rfs K H ds vs fp
mutual
theorem Rf.mono{H H':Hp}:∀{d:D}{v:V}{fp:List Addr},Rf K H d v fp->(∀a∈fp,∀o,H a=some o->H' a=some o)->(∀a o,H a=some o->Im o->H' a=some o)->Rf K H' d v fp
 |.non,_,_,h,_,_=>h
 |.bl _,_,_,h,_,_=>h
 |.int _,_,_,h,_,_=>h
 |.str _,_,_,h,_,_=>h
 |.lst ds,v,fp,h,k,t=>by
  obtain ⟨a,xs,f,e1,e2,c,h⟩:=h
  subst c
  exact⟨a,xs,f,e1,k a k0 _ e2,rfl,Rfs.mono h (fun b hb=>k b (gV _ hb)) t⟩
 |.tup ds,v,fp,h,k,t=>by
  obtain ⟨a,xs,e1,e2,h⟩:=h
  exact⟨a,xs,e1,t a _ e2 (.inl ⟨_,rfl⟩),Rfs.mono h k t⟩
 |.dic kvs,v,fp,h,k,t=>by
  obtain ⟨a,e1,e2,c,g⟩:=h
  subst g
  exact⟨a,e1,k a k0 _ e2,c,rfl⟩
 |.dit kvs,v,fp,h,k,t=>by
  obtain ⟨a,e1,e2,c,g⟩:=h
  subst g
  exact⟨a,e1,k a k0 _ e2,c,rfl⟩
 |.scr ns,v,fp,h,k,t=>by
  obtain ⟨a,e1,e2,c⟩:=h
  refine⟨a,e1,?_,c⟩
  rcases e2 with ⟨o,e2⟩|e2
  .exact .inl ⟨o,t a _ e2 (.inr (.inl ⟨_,_,rfl⟩))⟩
  .exact .inr e2
 |.pin a d,v,fp,h,k,t=>⟨h.1,Rf.mono h.2 k t⟩
 |.mem p,v,fp,h,k,t=>by
  obtain ⟨a,e1,e2,c⟩:=h
  exact⟨a,e1,t a _ e2 (.inr (.inr ⟨_,_,rfl⟩)),c⟩
 |.raw _,_,_,h,_,_=>h
 |.ins C ns ds,v,fp,h,k,t=>by
  obtain ⟨a,dx,xs,f,e1,e2,c,h⟩:=h
  subst c
  exact⟨a,dx,xs,f,e1,k a k0 _ e2,rfl,Rfs.mono h (fun b hb=>k b (gV _ hb)) t⟩
theorem Rfs.mono{H H':Hp}:∀{ds:List D}{vs:List V}{fp:List Addr},Rfs K H ds vs fp->(∀a∈fp,∀o,H a=some o->H' a=some o)->(∀a o,H a=some o->Im o->H' a=some o)->Rfs K H' ds vs fp
 |[],_,_,h,_,_=>h
 |d::ds,vs,fp,h,k,t=>by
  obtain ⟨x,r,n,m,e1,e2,j,i⟩:=h
  subst e2
  exact⟨x,r,n,m,e1,rfl,Rf.mono j (fun b hb=>k b (Oq _ hb)) t,Rfs.mono i (fun b hb=>k b (Fk _ hb)) t⟩
end
mutual
theorem Rf.mF{H H':Hp}:∀{d:D}{v:V}{fp:List Addr},Rf K H d v fp->(∀a∈fp,∀o,H a=some o->NT o->H' a=some o)->(∀a o,H a=some o->Im o->H' a=some o)->Rf K H' d v fp
 |.non,_,_,h,_,_=>h
 |.bl _,_,_,h,_,_=>h
 |.int _,_,_,h,_,_=>h
 |.str _,_,_,h,_,_=>h
 |.lst ds,v,fp,h,k,t=>by
  obtain ⟨a,xs,f,e1,e2,c,h⟩:=h
  subst c
  exact⟨a,xs,f,e1,k a k0 _ e2 trivial,rfl,Rfs.mF h (fun b hb=>k b (gV _ hb)) t⟩
 |.tup ds,v,fp,h,k,t=>by
  obtain ⟨a,xs,e1,e2,h⟩:=h
  exact⟨a,xs,e1,t a _ e2 (.inl ⟨_,rfl⟩),Rfs.mF h k t⟩
 |.dic kvs,v,fp,h,k,t=>by
  obtain ⟨a,e1,e2,c,g⟩:=h
  subst g
  exact⟨a,e1,k a k0 _ e2 trivial,c,rfl⟩
 |.dit kvs,v,fp,h,k,t=>by
  obtain ⟨a,e1,e2,c,g⟩:=h
  subst g
  exact⟨a,e1,k a k0 _ e2 trivial,c,rfl⟩
 |.scr ns,v,fp,h,k,t=>by
  obtain ⟨a,e1,e2,c⟩:=h
  refine⟨a,e1,?_,c⟩
  rcases e2 with ⟨o,e2⟩|e2
  .exact .inl ⟨o,t a _ e2 (.inr (.inl ⟨_,_,rfl⟩))⟩
  .exact .inr e2
 |.pin a d,v,fp,h,k,t=>⟨h.1,Rf.mF h.2 k t⟩
 |.mem p,v,fp,h,k,t=>by
  obtain ⟨a,e1,e2,c⟩:=h
  exact⟨a,e1,t a _ e2 (.inr (.inr ⟨_,_,rfl⟩)),c⟩
 |.raw _,_,_,h,_,_=>h
 |.ins C ns ds,v,fp,h,k,t=>by
  obtain ⟨a,dx,xs,f,e1,e2,c,h⟩:=h
  subst c
  exact⟨a,dx,xs,f,e1,k a k0 _ e2 trivial,rfl,Rfs.mF h (fun b hb=>k b (gV _ hb)) t⟩
theorem Rfs.mF{H H':Hp}:∀{ds:List D}{vs:List V}{fp:List Addr},Rfs K H ds vs fp->(∀a∈fp,∀o,H a=some o->NT o->H' a=some o)->(∀a o,H a=some o->Im o->H' a=some o)->Rfs K H' ds vs fp
 |[],_,_,h,_,_=>h
 |d::ds,vs,fp,h,k,t=>by
  obtain ⟨x,r,n,m,e1,e2,j,i⟩:=h
  subst e2
  exact⟨x,r,n,m,e1,rfl,Rf.mF j (fun b hb=>k b (Oq _ hb)) t,Rfs.mF i (fun b hb=>k b (Fk _ hb)) t⟩
end
theorem Rf.same(h:Rf K H d v fp)(s:Same H H'):Rf K H' d v fp:=h.mF (fun a _ o e n=>s.st a o e n) fun a o e i=>s.st a o e (by rcases i with ⟨_,rfl⟩|⟨_,_,rfl⟩|⟨_,_,rfl⟩<;>trivial)
theorem Rfs.same(h:Rfs K H d v fp)(s:Same H H'):Rfs K H' d v fp:=h.mF (fun a _ o e n=>s.st a o e n) fun a o e i=>s.st a o e (by rcases i with ⟨_,rfl⟩|⟨_,_,rfl⟩|⟨_,_,rfl⟩<;>trivial)
theorem Rp.same(h:Rp K H d v)(s:Same H H'):Rp K H' d v:=let ⟨fp,h⟩:=h;⟨fp,h.same s⟩
theorem Rps.same(h:Rps K H d v)(s:Same H H'):Rps K H' d v:=let ⟨fp,h⟩:=h;⟨fp,h.same s⟩
mutual
theorem Rf.dom{H:Hp}:∀{d:D}{v:V}{fp:List Addr},Rf K H d v fp->∀a∈fp,∃o,H a=some o/\¬ Im o
 |.non,_,_,h,a,ha=>by obtain ⟨_,rfl⟩:=h;nomatch ha
 |.bl _,_,_,h,a,ha=>by obtain ⟨_,rfl⟩:=h;nomatch ha
 |.int _,_,_,h,a,ha=>by obtain ⟨_,rfl⟩:=h;nomatch ha
 |.str _,_,_,h,a,ha=>by obtain ⟨_,rfl⟩:=h;nomatch ha
 |.lst ds,v,fp,h,b,hb=>by
  obtain ⟨a,xs,j,e1,e2,c,h⟩:=h
  subst c
  rcases KE.mp hb with e|hb
  .subst e;exact⟨_,e2,fun z=>by rcases z with ⟨_,z⟩|⟨_,_,z⟩|⟨_,_,z⟩<;>cases z⟩
  .exact Rfs.dom h b hb
 |.tup ds,v,fp,h,b,hb=>by
  obtain ⟨a,xs,e1,e2,h⟩:=h
  exact Rfs.dom h b hb
 |.dic kvs,v,fp,h,b,hb=>by
  obtain ⟨a,e1,e2,c,f⟩:=h
  subst f
  cases mo.mp hb
  exact⟨_,e2,fun z=>by rcases z with ⟨_,z⟩|⟨_,_,z⟩|⟨_,_,z⟩<;>cases z⟩
 |.dit kvs,v,fp,h,b,hb=>by
  obtain ⟨a,e1,e2,c,f⟩:=h
  subst f
  cases mo.mp hb
  exact⟨_,e2,fun z=>by rcases z with ⟨_,z⟩|⟨_,_,z⟩|⟨_,_,z⟩<;>cases z⟩
 |.scr ns,v,fp,h,b,hb=>by
  obtain ⟨a,e1,e2,c⟩:=h
  subst c;nomatch hb
 |.pin a d,v,fp,h,b,hb=>Rf.dom h.2 b hb
 |.mem m,v,fp,h,b,hb=>by
  obtain ⟨a,e1,e2,c⟩:=h
  subst c;nomatch hb
 |.raw _,_,_,h,a,ha=>by obtain ⟨_,rfl⟩:=h;nomatch ha
 |.ins C ns ds,v,fp,h,b,hb=>by
  obtain ⟨a,dx,xs,j,e1,e2,c,h⟩:=h
  subst c
  rcases KE.mp hb with e|hb
  .subst e;exact⟨_,e2,fun z=>by rcases z with ⟨_,z⟩|⟨_,_,z⟩|⟨_,_,z⟩<;>cases z⟩
  .exact Rfs.dom h b hb
theorem Rfs.dom{H:Hp}:∀{ds:List D}{vs:List V}{fp:List Addr},Rfs K H ds vs fp->∀a∈fp,∃o,H a=some o/\¬ Im o
 |[],_,_,h,a,ha=>by obtain ⟨_,rfl⟩:=h;nomatch ha
 |d::ds,vs,fp,h,b,hb=>by
  obtain ⟨x,r,p,n,e1,e2,i,g⟩:=h
  subst e2
  rcases Oj.mp hb with hb|hb
  .exact Rf.dom i b hb
  .exact Rfs.dom g b hb
end
theorem Rfs.upd{H:Hp}{d:List D}{v:List V}{fp:List Addr}{l:Addr}{o:HO}(h:Rfs K H d v fp)(c:l∉fp)(hm:∀o,H l=some o->¬ Im o):Rfs K (upd H l o) d v fp :=
 h.mono (fun a ha u e=>by rw[au (fun z=>c (by rw[<- z];exact ha))];exact e) fun a o e i=>by rw[au (fun z=>hm o (by rw[<- z];exact e) i)];exact e
theorem Rfs.length{H:Hp}:∀{ds:List D}{vs:List V}{fp:List Addr},Rfs K H ds vs fp->vs.length=ds.length
 |[],_,_,h=>by obtain ⟨rfl,_⟩:=h;rfl
 |d::ds,vs,fp,h=>by
  obtain ⟨x,r,i,g,e1,e2,f,c⟩:=h
  subst e1
  rw[H0,H0,Rfs.length c]
theorem Rfs.append{H:Hp}:∀{ds es:List D}{vs ws:List V}{fp c:List Addr},Rfs K H ds vs fp->Rfs K H es ws c->Rfs K H (ds++es) (vs++ws) (fp++c)
 |[],es,vs,ws,fp,c,h,h'=>by obtain ⟨rfl,rfl⟩:=h;exact h'
 |d::ds,es,vs,ws,fp,c,h,h'=>by
  obtain ⟨x,r,j,i,rfl,rfl,g,f⟩:=h
  exact⟨x,r++ws,j,i++c,rfl,OM ..,g,Rfs.append f h'⟩
theorem Rfs.one(h:Rf K H d v fp):Rfs K H [d] [v] fp:=⟨v,[],fp,[],rfl,(Pb _).symm,h,rfl,rfl⟩
theorem Rfs.get{H:Hp}:∀{ds:List D}{vs:List V}{fp:List Addr}{i:Nat}{d:D},Rfs K H ds vs fp->ds[i]?=some d->∃v f,vs[i]?=some v/\Rf K H d v f/\(∀a∈f,a∈fp)
 |[],_,_,_,_,_,e=>by simp at e
 |d::ds,vs,fp,0,d',h,e=>by
  obtain ⟨x,r,j,n,rfl,rfl,g,c⟩:=h
  simp at e;subst e
  exact⟨x,j,rfl,g,fun a ha=>Oq _ ha⟩
 |d::ds,vs,fp,i+1,d',h,e=>by
  obtain ⟨x,r,j,n,rfl,rfl,g,c⟩:=h
  obtain ⟨v,f,e1,m,k⟩:=Rfs.get (i:=i) c (by simpa using e)
  exact⟨v,f,by simpa using e1,m,fun a ha=>Fk _ (k a ha)⟩
theorem Rfs.get'{H:Hp}{ds:List D}{vs:List V}{fp:List Addr}{i:Nat}{v:V}(h:Rfs K H ds vs fp)(e:vs[i]?=some v):∃d f,ds[i]?=some d/\Rf K H d v f/\(∀a∈f,a∈fp):=by
 have m:=h.length
 obtain ⟨hi,_⟩:=oe.mp e
 have c:i<ds.length:=()
 obtain ⟨j,f,e1,g,k⟩:=h.get (d:=ds[i]) (ab c)
 rw[e] at e1;cases e1
 exact⟨ds[i],f,ab c,g,k⟩
def D.ax:D->Bool
 |.non=>true|.bl _=>true|.int _=>true|.str _=>true|_=>false
def D.toV:D->V
 |.non=>.non|.bl b=>.bl b|.int i=>.int i|.str x=>.str x|_=>.non
theorem Rf.ax(h:Rf K H d v fp)(s:d.ax=true):v=d.toV/\fp=[]:=by
 cases d<;>first|exact h|cases s
theorem Rf.sk(s:d.ax=true):Rf K H d d.toV []:=by
 cases d<;>first|exact⟨rfl,rfl⟩|cases s
theorem Rp.int(h:Rp K H (.int i) v):v=.int i:=h.choose_spec.1
theorem Rp.bl(h:Rp K H (.bl i) v):v=.bl i:=h.choose_spec.1
theorem Rfs.gS{H:Hp}:∀{ds:List D}{vs:List V}{fp:List Addr},Rfs K H ds vs fp->ds.all D.ax=true->vs=ds.map D.toV/\fp=[]
 |[],vs,fp,h,_=>h
 |d::ds,vs,fp,h,s=>by
  obtain ⟨x,r,i,g,rfl,rfl,f,c⟩:=h
  simp only[Qu,Pj] at s
  obtain ⟨rfl,rfl⟩:=f.ax s.1
  obtain ⟨rfl,rfl⟩:=Rfs.gS c s.2
  exact⟨rfl,rfl⟩
theorem Rfs.qr{H:Hp}:∀{ds:List D},ds.all D.ax=true->Rfs K H ds (ds.map D.toV) []
 |[],_=>⟨rfl,rfl⟩
 |d::ds,s=>by
  simp only[Qu,Pj] at s
  exact⟨_,_,[],[],rfl,rfl,Rf.sk s.1,Rfs.qr s.2⟩
def D.items:D->Option (List D)
 |.lst ds=>some ds|.scr ns=>some (ns.map D.int)|_=>none
theorem Rfs.ofInts{H:Hp}:∀{ns:aab},Rfs K H (ns.map D.int) (ns.map V.int) []
 |[]=>⟨rfl,rfl⟩
 |n::ns=>⟨_,_,[],[],rfl,rfl,⟨rfl,rfl⟩,Rfs.ofInts⟩
theorem Rf.seq(h:Rf K H d v fp)(e:d.items=some ds):∃a xs c,v=.ref a/\SqL K H a xs/\Rfs K H ds xs c/\∀b∈c,b∈fp:=by
 cases d with
 |lst es =>
  cases e
  obtain ⟨a,xs,c,e1,e2,rfl,h⟩:=h
  exact⟨a,xs,c,e1,.inl (.inl e2),h,fun b hb=>gV _ hb⟩
 |scr ns =>
  cases e
  obtain ⟨a,e1,e2,f⟩:=h
  exact⟨a,_,[],e1,e2.seq,Rfs.ofInts,fun b hb=>nomatch hb⟩
 |_=>cases e
theorem Rp.seq(h:Rp K H d v)(e:d.items=some ds):∃a xs c,v=.ref a/\SqL K H a xs/\Rfs K H ds xs c :=
 let ⟨_,h⟩:=h;let ⟨a,xs,c,h1,h2,h3,_⟩:=h.seq e;⟨a,xs,c,h1,h2,h3⟩
theorem Rp.tup(h:Rp K H (.tup ds) v):∃a xs c,v=.ref a/\SqT K H a xs/\Rfs K H ds xs c:=by
 obtain ⟨fp,a,xs,e1,e2,h⟩:=h
 exact⟨a,xs,fp,e1,.inl (.inl e2),h⟩
def Mu(H:Hp)(a:Addr):Prop:=(∃xs,H a=some (.lst xs))\/(∃kvs,H a=some (.dK kvs))\/(∃kvs,H a=some (.dT kvs))\/∃C dx fs,H a=some (.ins C dx fs)
theorem Mu.same(h:Mu H a)(s:Same H H'):Mu H' a:=by
 rcases h with ⟨x,h⟩|⟨x,h⟩|⟨x,h⟩|⟨C,dx,fs,h⟩
 .exact .inl ⟨x,s.st _ _ h trivial⟩
 .exact .inr (.inl ⟨x,s.st _ _ h trivial⟩)
 .exact .inr (.inr (.inl ⟨x,s.st _ _ h trivial⟩))
 .exact .inr (.inr (.inr ⟨C,dx,fs,s.st _ _ h trivial⟩))
theorem Mu.some(h:Mu H a):H a≠none:=by
 rcases h with ⟨x,h⟩|⟨x,h⟩|⟨x,h⟩|⟨C,dx,fs,h⟩<;>rw[h]<;>intro z<;>cases z
theorem Mu.mx(h:Mu H a):∀o,H a=Option.some o->¬ Im o:=by
 rcases h with ⟨x,h⟩|⟨x,h⟩|⟨x,h⟩|⟨C,dx,fs,h⟩<;>rw[h]<;>intro o e z<;>cases e<;>rcases z with ⟨_,z⟩|⟨_,_,z⟩|⟨_,_,z⟩<;>cases z
theorem Mu.upd{H:Hp}{a l:Addr}{o:HO}(h:Mu H a)(c:(∃xs,o=.lst xs)\/(∃xs,o=.dK xs)\/(∃xs,o=.dT xs)\/∃C dx fs,o=.ins C dx fs):Mu (upd H l o) a:=by
 by_cases e:a=l
 .subst e
  rcases c with ⟨xs,rfl⟩|⟨xs,rfl⟩|⟨xs,rfl⟩|⟨C,dx,fs,rfl⟩
  .exact .inl ⟨xs,aq⟩
  .exact .inr (.inl ⟨xs,aq⟩)
  .exact .inr (.inr (.inl ⟨xs,aq⟩))
  .exact .inr (.inr (.inr ⟨C,dx,fs,aq⟩))
 .unfold Mu
  rw[au e]
  exact h
abbrev Dl:=List (Option D)
structure Ok(K:aae)(B0:Hp)(Γ:aad)(fps:Nat->List Addr)(δ:Dl)(σ:St)(H:Hp):Prop where
 len:σ.length=δ.length
 b0:SB K B0 H
 val:∀i d,δ[i]?=some (some d)->∃v,σ[i]?=some (some v)/\Rf K H d v (fps i)
 non:∀i,(∀d,δ[i]?≠some (some d))->fps i=[]
 own:∀i∈Γ,(fps i).Nodup/\∀a∈fps i,B0 a=none/\Mu H a
 dj:∀i∈Γ,∀j,j≠i->∀a∈fps i,a∉fps j
variable {B0:Hp}{Γ:aad}{fps:Nat->List Addr}{δ:Dl}{σ:St}{H H':Hp}
theorem Ok.same(o:Ok K B0 Γ fps δ σ H)(s:Same H H'):Ok K B0 Γ fps δ σ H' :=
 ⟨o.len,o.b0.trans s,fun i d e=>let ⟨v,h1,h2⟩:=o.val i d e;⟨v,h1,h2.same s⟩,o.non,fun i hi=>⟨(o.own i hi).1,fun a ha=>⟨((o.own i hi).2 a ha).1,((o.own i hi).2 a ha).2.same s⟩⟩,o.dj⟩
theorem Ok.sub(o:Ok K B0 Γ fps δ σ H)(h:∀i∈Γ',i∈Γ):Ok K B0 Γ' fps δ σ H :=
 ⟨o.len,o.b0,o.val,o.non,fun i hi=>o.own i (h i hi),fun i hi=>o.dj i (h i hi)⟩
theorem Ok.dom(o:Ok K B0 Γ fps δ σ H)(h:a∈fps i):H a≠none:=by
 by_cases e:∃d,δ[i]?=some (some d)
 .obtain ⟨d,e⟩:=e
  obtain ⟨v,_,r⟩:=o.val i d e
  obtain ⟨u,c,_⟩:=r.dom a h
  rw[c];intro z;cases z
 .rw[o.non i (fun d z=>e ⟨d,z⟩)] at h
  nomatch h
structure Nw(H H':Hp)(fps:Nat->List Addr)(M:aad)(fp:List Addr):Prop where
 nd:fp.Nodup
 mu:∀a∈fp,Mu H' a
 src:∀a∈fp,H a=none\/∃j∈M,a∈fps j
theorem Nw.nil:Nw H H' fps M []:=⟨Pl,fun _ h=>(nomatch h),fun _ h=>(nomatch h)⟩
theorem Nw.later(n:Nw H1 H' fps M fp)(s:Same H H1):Nw H H' fps M fp :=
 ⟨n.nd,n.mu,fun a ha=>(n.src a ha).elim (fun z=>.inl (s.free z)) .inr⟩
theorem Nw.same(n:Nw H H' fps M fp)(s:Same H' H1):Nw H H1 fps M fp:=⟨n.nd,fun a ha=>(n.mu a ha).same s,n.src⟩
theorem Nw.any(n:Nw H H' fps [] fp):Nw H H' fps' [] fp:=⟨n.nd,n.mu,fun a ha=>(n.src a ha).elim .inl fun ⟨_,h,_⟩=>nomatch h⟩
theorem Nw.fresh(n:Nw H H' fps [] fp):∀a∈fp,H a=none:=fun a ha=>(n.src a ha).elim id fun ⟨_,h,_⟩=>nomatch h
def kill(M:aad)(δ:Dl):Dl:=M.foldl (fun δ j=>δ.set j none) δ
theorem iD:∀{M:aad}{δ:Dl},(kill M δ).length=δ.length
 |[],_=>rfl
 |j::M,δ=>by rw[kill,List.foldl_cons];exact (iD (M:=M)).trans (by simp)
theorem vR:∀{M:aad}{δ:Dl}{i:Nat}{d:D},(kill M δ)[i]?=some (some d)↔i∉M/\δ[i]?=some (some d)
 |[],_,_,_=>by simp [kill]
 |j::M,δ,i,d=>by
  rw[kill,List.foldl_cons]
  have:=vR (M:=M) (δ:=δ.set j none) (i:=i) (d:=d)
  rw[kill] at this
  rw[this,KE]
  by_cases e:i=j
  .subst e
   simp [Pc]
  .rw[Gc (OT e)]
   simp [e]
def minus(c M:aad):aad:=c.filter fun i=>!M.contains i
theorem bE:i∈minus Γ M↔i∈Γ/\i∉M:=by
 unfold minus
 rw[O9]
 simp
theorem Ok.kill(o:Ok K B0 Γ fps δ σ H)(M:aad):Ok K B0 (minus Γ M) (fun i=>if i∈M then [] else fps i) (kill M δ) σ H:=by
 refine⟨by rw[iD];exact o.len,o.b0,fun i d e=>?_,fun i e=>?_,fun i hi=>?_,fun i hi j hj a ha=>?_⟩
 .obtain ⟨f,c⟩:=vR.mp e
  rw[if_neg f]
  exact o.val i d c
 .by_cases h:i∈M
  .rw[if_pos h]
  .rw[if_neg h]
   exact o.non i fun d z=>e d (vR.mpr ⟨h,z⟩)
 .obtain ⟨f,c⟩:=bE.mp hi
  rw[if_neg c]
  exact o.own i f
 .obtain ⟨f,c⟩:=bE.mp hi
  rw[if_neg c] at ha
  by_cases h:j∈M
  .rw[if_pos h];exact OF
  .rw[if_neg h];exact o.dj i f j hj a ha
theorem Ok.NW(o:Ok K B0 Γ fps δ σ H)(i:Nat)(m:∀j∈M,j∈Γ)(s:Same H H')(r:Rf K H' x v fp)(n:Nw H H' fps M fp) :
  Ok K B0 (i::minus (minus Γ M) [i]) (fun j=>if j=i then (if i<δ.length then fp else []) else if j∈M then [] else fps j) ((L3.kill M δ).set i (some x)) (σ.set i (some v)) H':=by
 have ok:=(o.kill M).same s
 have p:∀a∈fp,∀j,j∉M->a∉fps j:=fun a ha j hj z=>by
  rcases n.src a ha with e|⟨k,f,e⟩
  .exact o.dom z e
  .exact o.dj k (m k f) j (fun q=>hj (by rw[q];exact f)) a e z
 refine⟨by simp [iD,o.len],ok.b0,fun j d e=>?_,fun j e=>?_,fun j hj=>?_,fun j hj k f a ha=>?_⟩
 .by_cases h:j=i
  .subst h
   rw[Pc] at e
   simp only[iD] at e
   by_cases c:j<δ.length
   .simp [c] at e
    subst e
    refine⟨v,?_,?_⟩
    .rw[Pc];simp [o.len,c]
    .rw[if_pos rfl,if_pos c];exact r
   .simp [c] at e
  .rw[Gc (OT h)] at e
   rw[Gc (OT h),if_neg h]
   exact ok.val j d e
 .by_cases h:j=i
  .subst h
   rw[if_pos rfl]
   by_cases c:j<δ.length
   .exact absurd (by rw[Pc];simp [iD,c]) (e x)
   .rw[if_neg c]
  .rw[if_neg h]
   exact ok.non j fun d z=>e d (by rw[Gc (OT h)];exact z)
 .by_cases h:j=i
  .subst h
   rw[if_pos rfl]
   split
   .refine⟨n.nd,fun a ha=>⟨?_,n.mu a ha⟩⟩
    rcases n.src a ha with e|⟨k,f,e⟩
    .exact o.b0.free e
    .exact ((o.own k (m k f)).2 a e).1
   .exact⟨Pl,fun _ z=>nomatch z⟩
  .rw[if_neg h]
   rcases KE.mp hj with z|hj
   .exact absurd z h
   .exact ok.own j (bE.mp hj).1
 .by_cases h:j=i
  .subst h
   rw[if_pos rfl] at ha
   rw[if_neg f]
   split at ha
   .by_cases hm:k∈M
    .rw[if_pos hm];exact OF
    .rw[if_neg hm];exact p a ha k hm
   .nomatch ha
  .rcases KE.mp hj with z|hj
   .exact absurd z h
   rw[if_neg h] at ha
   have g:=bE.mp (bE.mp hj).1
   rw[if_neg g.2] at ha
   by_cases t:k=i
   .rw[if_pos t]
    split
    .exact fun z=>p a z j g.2 ha
    .exact OF
   .rw[if_neg t]
    split
    .exact OF
    .exact o.dj j g.1 k f a ha
theorem Ok.wH(o:Ok K B0 Γ fps δ σ H)(i:Nat)(s:Same H H')(r:Rf K H' x v fp)(n:∀j∈Γ,∀a∈fp,a∉fps j) :
  Ok K B0 (minus Γ [i]) (fun j=>if j=i then (if i<δ.length then fp else []) else fps j) (δ.set i (some x)) (σ.set i (some v)) H':=by
 have ok:=o.same s
 refine⟨by simp [o.len],ok.b0,fun j d e=>?_,fun j e=>?_,fun j hj=>?_,fun j hj k p a ha=>?_⟩
 .by_cases h:j=i
  .subst h
   rw[Pc] at e
   by_cases c:j<δ.length
   .simp [c] at e
    subst e
    refine⟨v,?_,?_⟩
    .rw[Pc];simp [o.len,c]
    .rw[if_pos rfl,if_pos c];exact r
   .simp [c] at e
  .rw[Gc (OT h)] at e
   rw[Gc (OT h),if_neg h]
   exact ok.val j d e
 .by_cases h:j=i
  .subst h
   rw[if_pos rfl]
   by_cases c:j<δ.length
   .exact absurd (by rw[Pc];simp [c]) (e x)
   .rw[if_neg c]
  .rw[if_neg h]
   exact ok.non j fun d z=>e d (by rw[Gc (OT h)];exact z)
 .obtain ⟨f,g⟩:=bE.mp hj
  rw[if_neg (fun z=>g (by rw[z];exact mo.mpr rfl))]
  exact ok.own j f
 .obtain ⟨f,g⟩:=bE.mp hj
  rw[if_neg (fun z=>g (by rw[z];exact mo.mpr rfl))] at ha
  by_cases m:k=i
  .rw[if_pos m]
   split
   .exact fun z=>n j f a z ha
   .exact OF
  .rw[if_neg m]
   exact o.dj j f k p a ha
theorem AJ(h:H c=some (xT c)):¬ Mu H c:=by
 rintro (⟨x,z⟩|⟨x,z⟩|⟨x,z⟩|⟨C,dx,fs,z⟩)<;>rw[h] at z<;>cases z
theorem SB.keep{fp:List Addr}(b:SB K B0 H)(n:∀a∈fp,B0 a=none/\Mu H a)(keep:∀b u,b∉fp->H b=some u->H' b=some u):SB K B0 H':=by
 have nb:∀{c u},B0 c=some u->c∉fp:=fun {c u} e z=>by have:=(n c z).1;rw[e] at this;cases this
 refine⟨⟨fun c u e x=>keep c u (nb e) (b.st c u e x),fun c ps e=>let ⟨ps',z⟩:=b.tb c ps e;⟨ps',keep c _ (nb e) z⟩,fun P t=>?_⟩,b.tv⟩
 obtain ⟨j,h,_⟩:=id t
 obtain ⟨ps,e,g,f⟩:=b.ti P t
 exact⟨ps,keep P _ (nb h) e,g,fun pos i z=>let ⟨c,z1,z2⟩:=f pos i z;⟨c,z1,keep c _ (fun y=>AJ z2 (n c y).2) z2⟩⟩
theorem Ok.rebase(o:Ok K B0 Γ fps δ σ H):∃g,Same B0 g/\Ok K g Γ fps δ σ H/\(∀a,(∀j∈Γ,a∉fps j)->g a=H a):=by
 have key:∀b u,B0 b=some u->¬ ∃j∈Γ,b∈fps j:=fun b u e ⟨j,hj,hb⟩=>by
  have:=((o.own j hj).2 b hb).1
  rw[e] at this;cases this
 have p:Same B0 (fun a=>if (∃j∈Γ,a∈fps j) then none else H a):=⟨fun b u e n=>by
   show (if _ then _ else _)=_
   rw[if_neg (key b u e)]
   exact o.b0.st b u e n,fun b ps e=>by
   obtain ⟨f,z⟩:=o.b0.tb b ps e
   refine⟨f,?_⟩
   show (if _ then _ else _)=_
   rw[if_neg (key b _ e)];exact z,fun P t=>by
   obtain ⟨C,y,_⟩:=id t
   obtain ⟨ps,e,x,v⟩:=o.b0.ti P t
   refine⟨ps,?_,x,fun pos B z=>?_⟩
   .show (if _ then _ else _)=_
    rw[if_neg (key P _ y)];exact e
   .obtain ⟨c,q,m⟩:=v pos B z
    refine⟨c,q,?_⟩
    show (if _ then _ else _)=_
    rw[if_neg (fun ⟨j,hj,s⟩=>AJ m ((o.own j hj).2 c s).2)];exact m⟩
 have r:Same (fun a=>if (∃j∈Γ,a∈fps j) then none else H a) H:=Same.all fun b u e=>by
  by_cases z:∃j∈Γ,b∈fps j
  .simp only[if_pos z] at e;cases e
  .simp only[if_neg z] at e;exact e
 refine⟨fun a=>if (∃j∈Γ,a∈fps j) then none else H a,p,⟨o.len,⟨r,o.b0.tv.same p⟩,o.val,o.non,fun i hi=>⟨(o.own i hi).1,fun a ha=>⟨?_,((o.own i hi).2 a ha).2⟩⟩,o.dj⟩,fun a h=>?_⟩
 .show (if _ then _ else _)=_
  rw[if_pos ⟨i,hi,ha⟩]
 .show (if _ then _ else _)=_
  rw[if_neg (fun ⟨j,hj,z⟩=>h j hj z)]
theorem Ok.base(o:Ok K B1 Γ fps δ σ H)(s:Same B0 B1)(t:gU K B0):Ok K B0 Γ fps δ σ H :=
 ⟨o.len,⟨s.trans o.b0.toSame,t⟩,o.val,o.non,fun i hi=>⟨(o.own i hi).1,fun a ha=>⟨s.free ((o.own i hi).2 a ha).1,((o.own i hi).2 a ha).2⟩⟩,o.dj⟩
end
abbrev DK:=D->Prop
abbrev DE:=Dl->DK->Prop
abbrev DT:=Dl->(Bool->Prop)->Prop
abbrev DA:=Dl->(List D->Prop)->Prop
structure ER(K:aae)(Γ:aad)(t:TE)(d:DE):Prop where
 mono:∀δ (P P':DK),(∀x,P x->P' x)->d δ P->d δ P'
 run:∀{B0 fps δ σ H Q},Ok K B0 Γ fps δ σ H->d δ (fun x=>∀v H',Same H H'->Rp K H' x v->Q v H')->t σ H Q
structure ES(K:aae)(Γ:aad)(t:TE)(d:DE):Prop where
 mono:∀δ (P P':DK),(∀x,P x->P' x)->d δ P->d δ P'
 run:∀{B0 fps δ σ H Q},Ok K B0 Γ fps δ σ H->d δ (fun x=>∀v H' fp,Same H H'->Rf K H' x v fp->(∀j∈Γ,∀a∈fp,a∉fps j)->Q v H')->t σ H Q
structure EM(K:aae)(Γ M:aad)(t:TE)(d:DE):Prop where
 mono:∀δ (P P':DK),(∀x,P x->P' x)->d δ P->d δ P'
 run:∀{B0 fps δ σ H Q},Ok K B0 Γ fps δ σ H->d δ (fun x=>∀v H' fp,Same H H'->Rf K H' x v fp->Nw H H' fps M fp->Q v H')->t σ H Q
structure TR(K:aae)(Γ:aad)(t:TT)(d:DT):Prop where
 mono:∀δ (P P':Bool->Prop),(∀x,P x->P' x)->d δ P->d δ P'
 run:∀{B0 fps δ σ H Q},Ok K B0 Γ fps δ σ H->d δ (fun b=>∀H',Same H H'->Q b H')->t σ H Q
structure AR(K:aae)(Γ:aad)(t:TA)(d:DA):Prop where
 mono:∀δ (P P':List D->Prop),(∀x,P x->P' x)->d δ P->d δ P'
 run:∀{B0 fps δ σ H Q},Ok K B0 Γ fps δ σ H->d δ (fun xs=>∀vs H',Same H H'->Rps K H' xs vs->Q vs H')->t σ H Q
structure AS(K:aae)(Γ:aad)(t:TA)(d:DA):Prop where
 mono:∀δ (P P':List D->Prop),(∀x,P x->P' x)->d δ P->d δ P'
 run:∀{B0 fps δ σ H Q},Ok K B0 Γ fps δ σ H->d δ (fun xs=>∀vs H' fp,Same H H'->Rfs K H' xs vs fp->(∀j∈Γ,∀a∈fp,a∉fps j)->Q vs H')->t σ H Q
structure AM(K:aae)(Γ M:aad)(t:TA)(d:DA):Prop where
 mono:∀δ (P P':List D->Prop),(∀x,P x->P' x)->d δ P->d δ P'
 run:∀{B0 fps δ σ H Q},Ok K B0 Γ fps δ σ H->d δ (fun xs=>∀vs H' fp,Same H H'->Rfs K H' xs vs fp->Nw H H' fps M fp->Q vs H')->t σ H Q
section
variable {K:aae}{Γ M:aad}{t ta tb tc:TE}{d da db dc:DE}
theorem EM.es(h:EM K Γ [] t d):ES K Γ t d:=⟨h.mono,fun o q=>h.run o (h.mono _ _ _ (fun x z v H' fp s r n=>z v H' fp s r fun j _ a ha y=>o.dom y (n.fresh a ha)) q)⟩
theorem ES.er(h:ES K Γ t d):ER K Γ t d:=⟨h.mono,fun o q=>h.run o (h.mono _ _ _ (fun x z v H' fp s r n=>z v H' s ⟨fp,r⟩) q)⟩
theorem EM.er(h:EM K Γ M t d):ER K Γ t d:=⟨h.mono,fun o q=>h.run o (h.mono _ _ _ (fun x z v H' fp s r n=>z v H' s ⟨fp,r⟩) q)⟩
def vp(d:DE)(δ:Dl)(P:DK):Prop:=d δ fun x=>x.ax=true/\P x
theorem ER.ax(h:ER K Γ t d):EM K Γ [] t (vp d):=⟨fun δ P c k q=>h.mono _ _ _ (fun x z=>⟨z.1,k x z.2⟩) q,fun o q=>h.run o (h.mono _ _ _ (fun x z v H' s r=>by
 obtain ⟨fp,r⟩:=r
 obtain ⟨_,rfl⟩:=r.ax z.1
 exact z.2 v H' [] s r Nw.nil) q)⟩
def iI(i:Nat)(δ:Dl)(P:DK):Prop:=match δ[i]? with|some (some d)=>P d|_=>False
theorem jF(h:iI i δ P):∃d,δ[i]?=some (some d)/\P d:=by
 unfold iI at h
 split at h
 .exact⟨_,by assumption,h⟩
 .exact h.elim
set_option tactic.hygienic true in
theorem sT:∀δ (P P':DK),(∀x,P x->P' x)->iI i δ P->iI i δ P':=fun δ P P' k h=>by
 unfold iI at h ⊢
 split
 .rename_i e;rw[e] at h;exact k _ h
 .rename_i e;revert h;split
  .rename_i e';exact absurd e' (e _)
  .exact id
theorem cN(i:Nat):ER K Γ (bR i) (iI i):=⟨sT,fun {B0 fps δ c H Q} o q=>by
 obtain ⟨d,e,q⟩:=jF q
 obtain ⟨v,e1,r⟩:=o.val i d e
 exact⟨v,e1,q v H (Same.refl H) ⟨_,r⟩⟩⟩
theorem af(i:Nat)(h:i∉Γ:=by decide):ES K Γ (bR i) (iI i):=⟨sT,fun {B0 fps δ c H Q} o q=>by
 obtain ⟨d,e,q⟩:=jF q
 obtain ⟨v,e1,r⟩:=o.val i d e
 exact⟨v,e1,q v H _ (Same.refl H) r fun j hj a ha z=>o.dj j hj i (fun y=>h (by rw[y];exact hj)) a z ha⟩⟩
theorem dB(i:Nat)(h:i∈Γ:=by decide):EM K Γ [i] (bR i) (iI i):=⟨sT,fun {B0 fps δ c H Q} o q=>by
 obtain ⟨d,e,q⟩:=jF q
 obtain ⟨v,e1,r⟩:=o.val i d e
 exact⟨v,e1,q v H _ (Same.refl H) r ⟨(o.own i h).1,fun a ha=>((o.own i h).2 a ha).2,fun a ha=>.inr ⟨i,mo.mpr rfl,ha⟩⟩⟩⟩
def vC(d:D)(c:Dl)(P:DK):Prop:=P d
theorem ee:EM K Γ [] (tC (.int i)) (vC (.int i)):=⟨fun _ _ _ k h=>k _ h,fun {_ _ _ _ H _} _ q=>q _ H [] (Same.refl H) ⟨rfl,rfl⟩ Nw.nil⟩
theorem jP:EM K Γ [] (tC (.bl i)) (vC (.bl i)):=⟨fun _ _ _ k h=>k _ h,fun {_ _ _ _ H _} _ q=>q _ H [] (Same.refl H) ⟨rfl,rfl⟩ Nw.nil⟩
theorem eB:EM K Γ [] (tC (.str i)) (vC (.str i)):=⟨fun _ _ _ k h=>k _ h,fun {_ _ _ _ H _} _ q=>q _ H [] (Same.refl H) ⟨rfl,rfl⟩ Nw.nil⟩
theorem ff:EM K Γ [] (tC .non) (vC .non):=⟨fun _ _ _ k h=>k _ h,fun {_ _ _ _ H _} _ q=>q _ H [] (Same.refl H) ⟨rfl,rfl⟩ Nw.nil⟩
abbrev D2:=D->D->DK->Prop
abbrev nf:Nat->List Addr:=fun _=>[]
structure OpV(K:aae)(r:R2)(rv:D2):Prop where
 mono:∀x y (P P':DK),(∀z,P z->P' z)->rv x y P->rv x y P'
 run:∀{H x y v w Q},Rp K H x v->Rp K H y w->rv x y (fun z=>∀u H' fp,Same H H'->Rf K H' z u fp->Nw H H' nf [] fp->Q u H')->r v w H Q
def vOp(rv:D2)(f c:DE)(δ:Dl)(P:DK):Prop:=f δ fun x=>c δ fun y=>rv x y P
theorem bY(g:OpV K r rv)(ha:ER K Γ ta da)(hb:ER K Γ tb db):EM K Γ [] (tOp r ta tb) (vOp rv da db) :=
 ⟨fun δ P p k h=>ha.mono _ _ _ (fun x z=>hb.mono _ _ _ (fun y z=>g.mono x y _ _ k z) z) h,
 fun o q=>ha.run o (ha.mono _ _ _ (fun x z v B f m=>hb.run (o.same f) (hb.mono _ _ _ (fun y z w t c j=>g.run (m.same c) j (g.mono _ _ _ _ (fun u z i H' fp s r n=>z i H' fp ((f.trans c).trans s) r (n.any.later (f.trans c))) z)) z)) q)⟩
abbrev D1:=D->DK->Prop
structure UnV(K:aae)(r:V->Hp->VK->Prop)(rv:D1):Prop where
 mono:∀x (P P':DK),(∀z,P z->P' z)->rv x P->rv x P'
 run:∀{H x v Q},Rp K H x v->rv x (fun z=>∀u H' fp,Same H H'->Rf K H' z u fp->Nw H H' nf [] fp->Q u H')->r v H Q
def vUn(rv:D1)(c:DE)(δ:Dl)(P:DK):Prop:=c δ fun x=>rv x P
theorem E6(c:UnV K r rv)(ha:ER K Γ ta da):EM K Γ [] (tUn r ta) (vUn rv da) :=
 ⟨fun δ P j k h=>ha.mono _ _ _ (fun x z=>c.mono x _ _ k z) h,
 fun o q=>ha.run o (ha.mono _ _ _ (fun x z v m f i=>c.run i (c.mono _ _ _ (fun u z g H' fp s r n=>z g H' fp (f.trans s) r (n.any.later f)) z)) q)⟩
def vI0(g:Int->Int->D)(x:D)(y:D)(P:DK):Prop:=match x,y with|.int i,.int j=>P (g i j)|_,_=>False
def vI(C:Int->Int->Prop)(g:Int->Int->D)(x:D)(y:D)(P:DK):Prop:=match x,y with|.int i,.int j=>C i j/\P (g i j)|_,_=>False
def vU(g:Int->D)(x:D)(P:DK):Prop:=match x with|.int i=>P (g i)|_=>False
theorem HY:∀x y (P c:DK),(∀z,P z->c z)->vI0 g x y P->vI0 g x y c:=fun x y P c k h=>by
 unfold vI0 at h ⊢;revert h;split<;>first|exact k _|exact id
theorem JU:∀x y (P c:DK),(∀z,P z->c z)->vI C g x y P->vI C g x y c:=fun x y P c k h=>by
 unfold vI at h ⊢;revert h;split<;>first|exact fun h=>⟨h.1,k _ h.2⟩|exact id
set_option tactic.hygienic true in
theorem DU(hs:∀i j,(g i j).ax=true/\(g i j).toV=f i j):OpV K (rI0 f) (vI0 g):=⟨HY,fun {H x y v w Q} r1 r2 h=>by
 unfold vI0 at h
 split at h
 .rename_i i j
  refine⟨i,j,r1.int,r2.int,?_⟩
  rw[<- (hs i j).2]
  exact h _ H [] (Same.refl H) (Rf.sk (hs i j).1) Nw.nil
 .exact h.elim⟩
set_option tactic.hygienic true in
theorem MS(hs:∀i j,(g i j).ax=true/\(g i j).toV=f i j):OpV K (rI C f) (vI C g):=⟨JU,fun {H x y v w Q} r1 r2 h=>by
 unfold vI at h
 split at h
 .rename_i i j
  refine⟨i,j,r1.int,r2.int,h.1,?_⟩
  rw[<- (hs i j).2]
  exact h.2 _ H [] (Same.refl H) (Rf.sk (hs i j).1) Nw.nil
 .exact h.elim⟩
theorem cz{f:Int->Int->Int}:OpV K (rI0 fun i j=>.int (f i j)) (vI0 fun i j=>.int (f i j)):=DU fun _ _=>⟨rfl,rfl⟩
theorem iF{f:Int->Int->Bool}:OpV K (rI0 fun i j=>.bl (f i j)) (vI0 fun i j=>.bl (f i j)):=DU fun _ _=>⟨rfl,rfl⟩
theorem bP{C:Int->Int->Prop}{f:Int->Int->Int}:OpV K (rI C fun i j=>.int (f i j)) (vI C fun i j=>.int (f i j)):=MS fun _ _=>⟨rfl,rfl⟩
set_option tactic.hygienic true in
theorem D7{f:Int->Int}:UnV K (rU fun i=>.int (f i)) (vU fun i=>.int (f i)):=⟨fun x P P' k h=>by unfold vU at h ⊢;revert h;split<;>first|exact k _|exact id,fun {H x v Q} r1 h=>by
 unfold vU at h
 split at h
 .rename_i i
  exact⟨i,r1.int,h _ H [] (Same.refl H) ⟨rfl,rfl⟩ Nw.nil⟩
 .exact h.elim⟩
def sj(c:Bool)(x:D)(y:D)(P:DK):Prop:=x.ax=true/\y.ax=true/\ax x.toV y.toV=true/\P (.bl (if c then !decide (x.toV=y.toV) else decide (x.toV=y.toV)))
theorem yx:∀x y (P c:DK),(∀z,P z->c z)->sj QD x y P->sj QD x y c:=fun x y P c k h=>⟨h.1,h.2.1,h.2.2.1,k _ h.2.2.2⟩
theorem kK:OpV K rEq (sj false):=⟨yx,fun {H x y v w Q} ⟨i,f⟩ ⟨g,c⟩ h=>by
 rw[(f.ax h.1).1,(c.ax h.2.1).1]
 exact⟨h.2.2.1,h.2.2.2 _ H [] (Same.refl H) ⟨rfl,rfl⟩ Nw.nil⟩⟩
theorem xE:OpV K rNe (sj true):=⟨yx,fun {H x y v w Q} ⟨i,f⟩ ⟨g,c⟩ h=>by
 rw[(f.ax h.1).1,(c.ax h.2.1).1]
 exact⟨h.2.2.1,h.2.2.2 _ H [] (Same.refl H) ⟨rfl,rfl⟩ Nw.nil⟩⟩
theorem Iz:sj QD (.int i) (.int j) P↔P (.bl (if QD then !decide (i=j) else decide (i=j))):=by
 unfold sj
 simp only[D.ax,D.toV,ax,true_and,V.int.injEq]
def rf(x:D)(y:D)(P:DK):Prop:=match x.items,y with|some ds,.int i=>(match atI ds i with|some d=>P d|none=>False)|_,_=>False
def oO(x:D)(y:D)(P:DK):Prop:=match x,y with|.tup ds,.int i=>(match atI ds i with|some d=>P d|none=>False)|_,_=>False
theorem xn(h:rf x y P):∃ds i d,x.items=some ds/\y=.int i/\atI ds i=some d/\P d:=by
 unfold rf at h
 split at h
 .split at h
  .exact⟨_,_,_,by assumption,rfl,by assumption,h⟩
  .exact h.elim
 .exact h.elim
theorem w8(h:oO x y P):∃ds i d,x=.tup ds/\y=.int i/\atI ds i=some d/\P d:=by
 unfold oO at h
 split at h
 .split at h
  .exact⟨_,_,_,rfl,rfl,by assumption,h⟩
  .exact h.elim
 .exact h.elim
theorem J7{x:D}{ds:List D}{i:Int}{d:D}{P:DK}(ex:x.items=some ds)(e:atI ds i=some d)(h:P d):rf x (.int i) P:=by unfold rf;simp only[ex,e];exact h
theorem K3{ds:List D}{i:Int}{d:D}{P:DK}(e:atI ds i=some d)(h:P d):oO (.tup ds) (.int i) P:=by unfold oO;simp only[e];exact h
theorem yG:∀x y (P c:DK),(∀z,P z->c z)->rf x y P->rf x y c:=fun x y P c k h=>by
 obtain ⟨ds,i,d,ex,rfl,e,h⟩:=xn h;exact J7 ex e (k _ h)
theorem yQ:∀x y (P c:DK),(∀z,P z->c z)->oO x y P->oO x y c:=fun x y P c k h=>by
 obtain ⟨ds,i,d,rfl,rfl,e,h⟩:=w8 h;exact K3 e (k _ h)
theorem Rfs.at{H:Hp}{ds:List D}{xs:List V}{c:List Addr}{i:Int}{d:D}(h:Rfs K H ds xs c)(e:atI ds i=some d):∃v f,atI xs i=some v/\Rf K H d v f/\∀a∈f,a∈c:=by
 unfold atI at e ⊢
 rw[h.length]
 cases hj:ixN ds.length i with
 |none=>rw[hj] at e;cases e
 |some j=>rw[hj] at e;exact h.get e
theorem C1(ha:ER K Γ ta da)(hb:ER K Γ tb db):ER K Γ (tOp (x9 K) ta tb) (vOp rf da db) :=
 ⟨fun δ P t k h=>ha.mono _ _ _ (fun x z=>hb.mono _ _ _ (fun y z=>yG x y _ _ k z) z) h,
 fun o q=>ha.run o (ha.mono _ _ _ (fun x z v u g n=>hb.run (o.same g) (hb.mono _ _ _ (fun y z w r c m=>by
  obtain ⟨ds,i,d,ex,rfl,e,z⟩:=xn z
  obtain ⟨a,xs,s,rfl,p,hr⟩:=(n.same c).seq ex
  obtain ⟨v,f,e1,j,_⟩:=hr.at e
  exact⟨a,xs,i,v,rfl,m.int,p,e1,z v r (g.trans c) ⟨f,j⟩⟩) z)) q)⟩
theorem IL(ha:ER K Γ ta da)(hb:ER K Γ tb db):ER K Γ (tOp (xP K) ta tb) (vOp oO da db) :=
 ⟨fun δ P t k h=>ha.mono _ _ _ (fun x z=>hb.mono _ _ _ (fun y z=>yQ x y _ _ k z) z) h,
 fun o q=>ha.run o (ha.mono _ _ _ (fun x z v u g n=>hb.run (o.same g) (hb.mono _ _ _ (fun y z w r c m=>by
  obtain ⟨ds,i,d,rfl,rfl,e,z⟩:=w8 z
  obtain ⟨a,xs,s,rfl,p,hr⟩:=(n.same c).tup
  obtain ⟨v,f,e1,j,_⟩:=hr.at e
  exact⟨a,xs,i,v,rfl,m.int,p,e1,z v r (g.trans c) ⟨f,j⟩⟩) z)) q)⟩
theorem br(ha:ES K Γ ta da)(hb:ER K Γ tb db):ES K Γ (tOp (x9 K) ta tb) (vOp rf da db) :=
 ⟨fun δ P C k h=>ha.mono _ _ _ (fun x z=>hb.mono _ _ _ (fun y z=>yG x y _ _ k z) z) h,
 fun o q=>ha.run o (ha.mono _ _ _ (fun x z v E fp g r n=>hb.run (o.same g) (hb.mono _ _ _ (fun y z w u c p=>by
  obtain ⟨ds,i,d,ex,rfl,e,z⟩:=xn z
  obtain ⟨a,xs,B,rfl,s,hr,t⟩:=(r.same c).seq ex
  obtain ⟨v,f,e1,m,k⟩:=hr.at e
  exact⟨a,xs,i,v,rfl,p.int,s,e1,z v u f (g.trans c) m fun j hj b hb=>n j hj b (t b (k b hb))⟩) z)) q)⟩
theorem vq(ha:ES K Γ ta da)(hb:ER K Γ tb db):ES K Γ (tOp (xP K) ta tb) (vOp oO da db) :=
 ⟨fun δ P u k h=>ha.mono _ _ _ (fun x z=>hb.mono _ _ _ (fun y z=>yQ x y _ _ k z) z) h,
 fun o q=>ha.run o (ha.mono _ _ _ (fun x z v B fp g r n=>hb.run (o.same g) (hb.mono _ _ _ (fun y z w t c p=>by
  obtain ⟨ds,i,d,rfl,rfl,e,z⟩:=w8 z
  obtain ⟨a,xs,rfl,s,hr⟩:=r.same c
  obtain ⟨v,f,e1,m,k⟩:=hr.at e
  exact⟨a,xs,i,v,rfl,p.int,.inl (.inl s),e1,z v t f (g.trans c) m fun j hj b hb=>n j hj b (k b hb)⟩) z)) q)⟩
def asB(x:D)(P:Bool->Prop):Prop:=match x with|.bl k=>P k|_=>False
def t5(d:DE)(δ:Dl)(P:Bool->Prop):Prop:=d δ fun x=>asB x P
theorem so(h:asB x P):∃k,x=.bl k/\P k:=by
 unfold asB at h
 split at h
 .exact⟨_,rfl,h⟩
 .exact h.elim
theorem Il(k:∀b,P b->P' b)(h:asB x P):asB x P':=by
 obtain ⟨b,rfl,h⟩:=so h;exact k b h
theorem qo(h:ER K Γ t d):TR K Γ (yv t) (t5 d):=⟨fun δ P c k q=>h.mono _ _ _ (fun x z=>Il k z) q,fun o q=>h.run o (h.mono _ _ _ (fun x z v H' s r=>by
 obtain ⟨b,rfl,z⟩:=so z;exact⟨b,r.bl,z H' s⟩) q)⟩
theorem kL(h:ER K Γ t d):TR K Γ (tB t) (t5 d):=⟨fun δ P c k q=>h.mono _ _ _ (fun x z=>Il k z) q,fun o q=>h.run o (h.mono _ _ _ (fun x z v H' s r=>by
 obtain ⟨b,rfl,z⟩:=so z;exact⟨b,r.bl,z H' s⟩) q)⟩
def KZ(c e:DT)(δ:Dl)(P:Bool->Prop):Prop:=c δ fun k=>if k=true then e δ P else P false
def vOr(c e:DT)(δ:Dl)(P:Bool->Prop):Prop:=c δ fun k=>if k=true then P true else e δ P
def Kg(c:DT)(δ:Dl)(P:Bool->Prop):Prop:=c δ fun k=>P (!k)
theorem cQ{b:Bool}{A B f c:Prop}(i:A->f)(g:B->c)(h:if b=true then A else B):if b=true then f else c:=by
 cases b
 .exact g h
 .exact i h
theorem Au(g:TR K Γ u1 c)(f:TR K Γ u2 e):TR K Γ (ND u1 u2) (KZ c e) :=
 ⟨fun δ P j k q=>g.mono _ _ _ (fun b z=>cQ (f.mono _ _ _ k) (k _) z) q,
 fun o q=>g.run o (g.mono _ _ _ (fun b z H' s=>cQ (fun z=>f.run (o.same s) (f.mono _ _ _ (fun b z i h=>z i (s.trans h)) z)) (fun z=>z H' s) z) q)⟩
theorem fM(g:TR K Γ u1 c)(f:TR K Γ u2 e):TR K Γ (tOr u1 u2) (vOr c e) :=
 ⟨fun δ P j k q=>g.mono _ _ _ (fun b z=>cQ (k _) (f.mono _ _ _ k) z) q,
 fun o q=>g.run o (g.mono _ _ _ (fun b z H' s=>cQ (fun z=>z H' s) (fun z=>f.run (o.same s) (f.mono _ _ _ (fun b z i h=>z i (s.trans h)) z)) z) q)⟩
theorem df(f:TR K Γ u1 c):TR K Γ (N7 u1) (Kg c) :=
 ⟨fun δ P g k q=>f.mono _ _ _ (fun b z=>k _ z) q,fun o q=>f.run o (f.mono _ _ _ (fun b z H' s=>z H' s) q)⟩
def DZ(f c:DE)(δ:Dl)(P:DK):Prop:=t5 f δ fun k=>if k=true then c δ P else P (.bl false)
def EE(c:DE)(δ:Dl)(P:DK):Prop:=t5 c δ fun k=>P (.bl (!k))
theorem l4(ha:ER K Γ ta da)(hb:EM K Γ [] tb db):EM K Γ [] (Li ta tb) (DZ da db) :=
 ⟨fun δ P h k q=>(qo ha).mono _ _ _ (fun b z=>cQ (hb.mono _ _ _ k) (k _) z) q,
 fun o q=>ha.run o (ha.mono _ _ _ (fun x z v H' s r=>by
  obtain ⟨b,rfl,z⟩:=so z
  exact⟨b,r.bl,cQ (fun z=>hb.run (o.same s) (hb.mono _ _ _ (fun y z u g fp c f n2=>z u g fp (s.trans c) f (n2.later s)) z)) (fun z=>z _ H' [] s ⟨rfl,rfl⟩ Nw.nil) z⟩) q)⟩
theorem Fs(ha:ER K Γ ta da):EM K Γ [] (Le ta) (EE da) :=
 ⟨fun δ P c k q=>(qo ha).mono _ _ _ (fun b z=>k _ z) q,
 fun o q=>ha.run o (ha.mono _ _ _ (fun x z v H' s r=>by
  obtain ⟨b,rfl,z⟩:=so z
  exact⟨b,r.bl,z _ H' [] s ⟨rfl,rfl⟩ Nw.nil⟩) q)⟩
def vIf(c:DT)(g f:DE)(δ:Dl)(P:DK):Prop:=c δ fun k=>if k=true then g δ P else f δ P
theorem Hv(h:TR K Γ u c)(ha:EM K Γ [] ta da)(hb:EM K Γ [] tb db):EM K Γ [] (tIf u ta tb) (vIf c da db) :=
 ⟨fun δ P j k q=>h.mono _ _ _ (fun b z=>cQ (ha.mono _ _ _ k) (hb.mono _ _ _ k) z) q,
 fun o q=>h.run o (h.mono _ _ _ (fun b z H' s=>cQ (fun z=>ha.run (o.same s) (ha.mono _ _ _ (fun y z u i fp f g n2=>z u i fp (s.trans f) g (n2.later s)) z)) (fun z=>hb.run (o.same s) (hb.mono _ _ _ (fun y z u i fp f g n2=>z u i fp (s.trans f) g (n2.later s)) z)) z) q)⟩
def y9(r c:D2)(h g f:DE)(δ:Dl)(P:DK):Prop:=h δ fun x=>g δ fun y=>r x y fun z=>asB z fun k=>if k=true then f δ fun w=>c y w P else P (.bl false)
theorem nD(g:OpV K r rv)(j:OpV K r' rv')(ha:ER K Γ ta da)(hb:ER K Γ tb db)(i:ER K Γ tc dc):EM K Γ [] (CK r r' ta tb tc) (y9 rv rv' da db dc) :=
 ⟨fun δ P L k h=>ha.mono _ _ _ (fun x z=>hb.mono _ _ _ (fun y z=>g.mono x y _ _ (fun u z=>Il (fun b z=>cQ (i.mono _ _ _ fun w z=>j.mono _ _ _ _ k z) (k _) z) z) z) z) h,
 fun o q=>ha.run o (ha.mono _ _ _ (fun x z v Q B G=>hb.run (o.same B) (hb.mono _ _ _ (fun y z w O t C=>g.run (G.same t) C (g.mono _ _ _ _ (fun u z m H fp p F J=>by
  obtain ⟨b,rfl,z⟩:=so z
  have c:=(B.trans t).trans p
  refine⟨b,F.1,cQ (fun z=>?_) (fun z=>z _ H [] c ⟨rfl,rfl⟩ Nw.nil) z⟩
  exact i.run (o.same c) (i.mono _ _ _ (fun w z I M f E=>j.run (C.same (p.trans f)) E (j.mono _ _ _ _ (fun u z m H' fp s r n=>z m H' fp ((c.trans f).trans s) r (n.any.later (c.trans f))) z)) z)) z)) z)) q)⟩
def tu(c:Dl)(P:List D->Prop):Prop:=P []
def gH(f:DE)(c:DA)(δ:Dl)(P:List D->Prop):Prop:=f δ fun x=>c δ fun xs=>P (x::xs)
theorem He:AR K Γ gT tu:=⟨fun _ _ _ k h=>k _ h,fun {_ _ _ _ H _} o q=>q [] H (Same.refl H) ⟨[],rfl,rfl⟩⟩
theorem aL:AM K Γ [] gT tu:=⟨fun _ _ _ k h=>k _ h,fun {_ _ _ _ H _} o q=>q [] H [] (Same.refl H) ⟨rfl,rfl⟩ Nw.nil⟩
theorem L9:AS K Γ gT tu:=⟨fun _ _ _ k h=>k _ h,fun {_ _ _ _ H _} o q=>q [] H [] (Same.refl H) ⟨rfl,rfl⟩ fun _ _ _ h=>nomatch h⟩
theorem rQ(ha:ER K Γ ta da)(hr:AR K Γ tr dr):AR K Γ (bx ta tr) (gH da dr) :=
 ⟨fun δ P p k h=>ha.mono _ _ _ (fun x z=>hr.mono _ _ _ (fun y z=>k _ z) z) h,
 fun o q=>ha.run o (ha.mono _ _ _ (fun x z v r i f=>hr.run (o.same i) (hr.mono _ _ _ (fun xs z vs n g c=>by
  obtain ⟨m,f⟩:=f.same g
  obtain ⟨j,c⟩:=c
  exact z _ n (i.trans g) ⟨m++j,_,_,m,j,rfl,rfl,f,c⟩) z)) q)⟩
theorem Kr(ha:ES K Γ ta da)(hr:AS K Γ tr dr):AS K Γ (bx ta tr) (gH da dr) :=
 ⟨fun δ P r k h=>ha.mono _ _ _ (fun x z=>hr.mono _ _ _ (fun y z=>k _ z) z) h,
 fun o q=>ha.run o (ha.mono _ _ _ (fun x z v s i f n n1=>hr.run (o.same f) (hr.mono _ _ _ (fun xs z vs p g c m n2 =>
  z _ p (i++g) (f.trans c) ⟨_,_,i,g,rfl,rfl,n.same c,m⟩ fun j hj a ha=>(Oj.mp ha).elim (n1 j hj a) (n2 j hj a)) z)) q)⟩
theorem ip(ha:EM K Γ M ta da)(hr:AM K Γ M' tr dr)(p:∀i∈M,i∈Γ/\i∉M':=by decide)(E:∀i∈M',i∈Γ:=by decide):AM K Γ (M++M') (bx ta tr) (gH da dr) :=
 ⟨fun δ P F k h=>ha.mono _ _ _ (fun x z=>hr.mono _ _ _ (fun y z=>k _ z) z) h,
 fun {B0 fps δ C H Q} o q=>ha.run o (ha.mono _ _ _ (fun x z v G s m u n1=>hr.run (o.same m) (hr.mono _ _ _ (fun xs z vs B r g t n2=>by
  refine z _ B (s++r) (m.trans g) ⟨_,_,s,r,rfl,rfl,u.same g,t⟩ ⟨?_,fun a ha=>(Oj.mp ha).elim (fun h=>(n1.mu a h).same g) (n2.mu a),fun a ha=>?_⟩
  .refine Ow.mpr ⟨n1.nd,n2.nd,fun a c b f e=>?_⟩
   subst e
   rcases n2.src a f with e|⟨j,hj,e⟩
   .exact (n1.mu a c).some e
   .rcases n1.src a c with n|⟨i,hi,n⟩
    .exact o.dom e n
    .exact o.dj i (p i hi).1 j (fun y=>(p i hi).2 (by rw[<- y];exact hj)) a n e
  .rcases Oj.mp ha with h|h
   .exact (n1.src a h).imp id fun ⟨j,c,f⟩=>⟨j,Oq _ c,f⟩
   .exact (n2.src a h).elim (fun e=>.inl (m.free e)) fun ⟨j,c,f⟩=>.inr ⟨j,Fk _ c,f⟩) z)) q)⟩
theorem fA(h:n<=1000):n<=sizeLine:=OC h (by rw[sizeLine_eq];decide)
def Gf(c:DA)(δ:Dl)(P:DK):Prop:=c δ fun xs=>xs.length<=1000/\P (.lst xs)
def KH(c:DA)(δ:Dl)(P:DK):Prop:=c δ fun xs=>xs.length<=1000/\P (.tup xs)
theorem bu(hr:AM K Γ M u dr)(r:∀i∈M,i∈Γ:=by decide):EM K Γ M (NP u) (Gf dr) :=
 ⟨fun δ P s k h=>hr.mono _ _ _ (fun y z=>⟨z.1,k _ z.2⟩) h,
 fun {B0 fps δ n H Q} o q=>hr.run o (hr.mono _ _ _ (fun xs z vs m fp g j n1=>by
  refine⟨by rw[j.length];exact fA z.1,fun p f=>?_⟩
  have c:Same m (upd m p (.lst vs)):=Same.gQ f
  refine z.2 _ _ (p::fp) (g.trans c) ⟨p,vs,fp,rfl,aq,rfl,j.same c⟩ ⟨Om.mpr ⟨fun h=>(n1.mu p h).some f,n1.nd⟩,fun a ha=>?_,fun a ha=>?_⟩
  .rcases KE.mp ha with e|h
   .subst e;exact .inl ⟨vs,aq⟩
   .exact (n1.mu a h).same c
  .rcases KE.mp ha with e|h
   .subst e;exact .inl (g.free f)
   .exact n1.src a h) q)⟩
theorem fD(hr:AM K Γ M u dr):EM K Γ M (NQ u) (KH dr) :=
 ⟨fun δ P n k h=>hr.mono _ _ _ (fun y z=>⟨z.1,k _ z.2⟩) h,
 fun {B0 fps δ m H Q} o q=>hr.run o (hr.mono _ _ _ (fun xs z vs g fp i f n1=>by
  refine⟨by rw[f.length];exact fA z.1,fun p j=>?_⟩
  have c:Same g (upd g p (.tup vs)):=Same.gQ j
  exact z.2 _ _ fp (i.trans c) ⟨p,vs,rfl,aq,f.same c⟩ (n1.same c)) q)⟩
abbrev DSp:=List D->DK->Prop
def aB(S:DSp):Prop:=∀xs (P c:DK),(∀z,P z->c z)->S xs P->S xs c
def spP(K:aae)(S:DSp):Sp:=fun vs H Q _=>∃ds,Rps K H ds vs/\gU K H/\S ds fun x=>∀v H' fp,Same H H'->Rf K H' x v fp->Nw H H' nf [] fp->Q v H'
def spR(K:aae)(S:DSp):Sp:=fun vs H Q _=>∃ds,Rps K H ds vs/\gU K H/\S ds fun x=>∀v H',Same H H'->Rp K H' x v->Q v H'
structure mz(K:aae)(r:List V->Hp->VK->Prop)(S:DSp):Prop where
 mono:aB S
 run:∀{H xs vs Q},Rps K H xs vs->S xs (fun z=>∀u H' fp,Same H H'->Rf K H' z u fp->Nw H H' nf [] fp->Q u H')->r vs H Q
def mE(S:DSp)(c:DA)(δ:Dl)(P:DK):Prop:=c δ fun xs=>S xs P
theorem aX(c:mz K r S)(hr:AR K Γ u dr):EM K Γ [] (tCB r u) (mE S dr) :=
 ⟨fun δ P m k h=>hr.mono _ _ _ (fun y z=>c.mono _ _ _ k z) h,
 fun {B0 fps δ j H Q} o q=>hr.run o (hr.mono _ _ _ (fun xs z vs p f i=>c.run i (c.mono _ _ _ (fun u z g H' fp s r n=>z g H' fp (f.trans s) r (n.any.later f)) z)) q)⟩
theorem aY(f:aB S)(hr:AR K Γ u dr):EM K Γ [] (tX (spP K S) [] E u) (mE S dr) :=
 ⟨fun δ P m k h=>hr.mono _ _ _ (fun y z=>f _ _ _ k z) h,
 fun {B0 fps δ j H Q} o q=>hr.run o (hr.mono _ _ _ (fun xs z vs p c i=>⟨xs,by rw[Pb];exact i,(o.b0.trans c).now,f _ _ _ (fun u z g H' fp s r n=>z g H' fp (c.trans s) r (n.any.later c)) z⟩) q)⟩
theorem JS(f:aB S)(hr:AR K Γ u dr):ER K Γ (tX (spR K S) [] E u) (mE S dr) :=
 ⟨fun δ P m k h=>hr.mono _ _ _ (fun y z=>f _ _ _ k z) h,
 fun {B0 fps δ j H Q} o q=>hr.run o (hr.mono _ _ _ (fun xs z vs n c i=>⟨xs,by rw[Pb];exact i,(o.b0.trans c).now,f _ _ _ (fun u z g H' s r=>z g H' (c.trans s) r) z⟩) q)⟩
end
structure aZ where
 nx:Dl->Prop
 rt:D->Dl->Prop
 bk:Dl->Prop
 ct:Dl->Prop
abbrev DS:=aZ->Dl->Prop
structure RtI(B0:Hp)(Γr:aad)(fps:Nat->List Addr)(H:Hp)(fp:List Addr):Prop where
 nd:fp.Nodup
 mu:∀a∈fp,Mu H a
 nw:∀a∈fp,B0 a=none
 dj:∀j∈Γr,∀a∈fp,a∉fps j
structure EOk(K:aae)(ρ:Bool)(Γr Γl Γn:aad)(B0:Hp)(Dn:Ends)(E:aZ):Prop where
 nx:∀{fps δ σ H},Ok K B0 Γn fps δ σ H->E.nx δ->Dn.nx σ H
 bk:∀{fps δ σ H},Ok K B0 Γl fps δ σ H->E.bk δ->Dn.bk σ H
 ct:∀{fps δ σ H},Ok K B0 Γl fps δ σ H->E.ct δ->Dn.ct σ H
 rt:∀{fps δ σ H x v fp},Ok K B0 Γr fps δ σ H->Rf K H x v fp->(ρ=true->RtI B0 Γr fps H fp)->E.rt x δ->Dn.rt v H
def ST(K:aae)(h:Bool)(c f:aad)(t:TS)(i Γn:aad)(d:DS):Prop :=
 ∀⦃B0:Hp⦄ ⦃Dn:Ends⦄ ⦃E:aZ⦄ ⦃fps:Nat->List Addr⦄ ⦃δ:Dl⦄ ⦃g:St⦄ ⦃H:Hp⦄,EOk K h c f Γn B0 Dn E->Ok K B0 i fps δ g H->d E δ->t Dn g H
section
variable {K:aae}{ρ:Bool}{Γr Γl Γ VH UG Γn M:aad}{t u:TS}{te tb:TE}{de da db:DE}{d e:DS}
def E4(E:aZ)(δ:Dl):Prop:=E.nx δ
def Dd(d e:DS)(E:aZ)(δ:Dl):Prop:=d { E with nx:=e E } δ
theorem aF:ST K ρ Γr Γl Hr Γ Γ E4:=fun _ _ _ _ _ _ _ k o h=>k.nx o h
theorem aj(f:ST K ρ Γr Γl t Γ VH d)(c:ST K ρ Γr Γl u VH UG e):ST K ρ Γr Γl (zt t u) Γ UG (Dd d e) :=
 fun {B0 Dn E fps δ g H} k o h=>f (Dn:={ Dn with nx:=u Dn }) (E:={ E with nx:=e E }) ⟨fun o h=>c k o h,k.bk,k.ct,k.rt⟩ o h
theorem ST.post(h:ST K ρ Γr Γl t Γ VH d)(s:∀i∈Γn,i∈VH:=by decide):ST K ρ Γr Γl t Γ Γn d:=fun _ _ _ _ _ _ _ k o q=>h ⟨fun o h=>k.nx (o.sub s) h,k.bk,k.ct,k.rt⟩ o q
def Eg(M:aad)(i:Nat)(c:DE)(E:aZ)(δ:Dl):Prop:=c δ fun x=>E.nx ((kill M δ).set i (some x))
theorem aQ(i:Nat)(c:EM K Γ M te de)(f:∀j∈M,j∈Γ:=by decide):ST K ρ Γr Γl (j3 te (dZ i)) Γ (i::minus (minus Γ M) [i]) (Eg M i de) :=
 fun _ _ _ _ _ _ _ k o h=>c.run o (c.mono _ _ _ (fun x z v H' fp s r n=>k.nx (o.NW i f s r n) z) h)
def GD(i:Nat)(c:DE)(E:aZ)(δ:Dl):Prop:=c δ fun x=>E.nx (δ.set i (some x))
theorem aO(i:Nat)(c:ES K Γ te de):ST K ρ Γr Γl (j3 te (dZ i)) Γ (minus Γ [i]) (GD i de) :=
 fun _ _ _ _ _ _ _ k o h=>c.run o (c.mono _ _ _ (fun x z v H' fp s r n=>k.nx (o.wH i s r n) z) h)
def DY(c:DE)(E:aZ)(δ:Dl):Prop:=c δ fun _=>E.nx δ
theorem qN(c:ER K Γ te de):ST K ρ Γr Γl (yR te) Γ Γ (DY de) :=
 fun _ _ _ _ _ _ _ k o h=>c.run o (c.mono _ _ _ (fun x z v H' s r=>k.nx (o.same s) z) h)
def GB(M:aad)(c:DE)(E:aZ)(δ:Dl):Prop:=c δ fun x=>E.rt x (kill M δ)
theorem cD(c:EM K Γ M te de)(f:∀j∈M,j∈Γ:=by decide)(hr:∀j∈Γr,j∈Γ/\j∉M:=by decide):ST K ρ Γr Γl (C0 te) Γ Γn (GB M de) :=
 fun {B0 Dn E fps δ g H} k o h=>c.run o (c.mono _ _ _ (fun x z v H' fp s r n=>by
  have ok:=((o.kill M).same s).sub (Γ':=Γr) fun i hi=>bE.mpr (hr i hi)
  refine k.rt ok r (fun _=>⟨n.nd,n.mu,fun a ha=>?_,fun j hj a ha=>?_⟩) z
  .rcases n.src a ha with e|⟨i,hi,e⟩
   .exact o.b0.free e
   .exact ((o.own i (f i hi)).2 a e).1
  .show a∉if j∈M then [] else fps j
   rw[if_neg (hr j hj).2]
   intro z
   rcases n.src a ha with e|⟨i,hi,e⟩
   .exact o.dom z e
   .exact o.dj i (f i hi) j (fun y=>(hr j hj).2 (by rw[y];exact hi)) a e z) h)
theorem JV(c:ER K Γ te de)(hr:∀j∈Γr,j∈Γ:=by decide):ST K false Γr Γl (C0 te) Γ Γn (GB [] de) :=
 fun {B0 Dn E fps δ f H} k o h=>c.run o (c.mono _ _ _ (fun x z v H' s r=>by
  obtain ⟨fp,r⟩:=r
  exact k.rt ((o.same s).sub hr) r (fun z=>by cases z) z) h)
def Ks(c:DT)(d e:DS)(E:aZ)(δ:Dl):Prop:=c δ fun b=>if b=true then d E δ else e E δ
theorem bf(f:TR K Γ c dc)(i:ST K ρ Γr Γl t Γ Γn d)(g:ST K ρ Γr Γl u Γ Γn e):ST K ρ Γr Γl (L1 c t u) Γ Γn (Ks dc d e) :=
 fun _ _ _ _ _ _ _ k o h=>f.run o (f.mono _ _ _ (fun b z H' s=>cQ (fun z=>i k (o.same s) z) (fun z=>g k (o.same s) z) z) h)
def Ma(f:aZ)(c:Dl):Prop:=False
theorem iE:ST K ρ Γr Γl t Γ Γn Ma:=fun _ _ _ _ _ _ _ _ _ h=>h.elim
structure GT(K:aae)(Γ:aad)(g:TG)(dg:D->Dl->(Dl->Prop)->Prop):Prop where
 mono:∀x δ (P P':Dl->Prop),(∀z,P z->P' z)->dg x δ P->dg x δ P'
 run:∀{B0 fps δ σ H x v fp Q},Ok K B0 Γ fps δ σ H->Rf K H x v fp->(∀j∈Γ,∀a∈fp,a∉fps j)->dg x δ (fun δ'=>∀fps' σ',Ok K B0 Γ fps' δ' σ' H->(∀j∈Γ,fps' j=fps j)->Q σ' H)->g v σ H Q
structure GTs(K:aae)(Γ:aad)(g:TGs)(dg:List D->Dl->(Dl->Prop)->Prop):Prop where
 mono:∀x δ (P P':Dl->Prop),(∀z,P z->P' z)->dg x δ P->dg x δ P'
 run:∀{B0 fps δ σ H x v fp Q},Ok K B0 Γ fps δ σ H->Rfs K H x v fp->(∀j∈Γ,∀a∈fp,a∉fps j)->dg x δ (fun δ'=>∀fps' σ',Ok K B0 Γ fps' δ' σ' H->(∀j∈Γ,fps' j=fps j)->Q σ' H)->g v σ H Q
def vg(i:Nat)(x:D)(δ:Dl)(P:Dl->Prop):Prop:=P (δ.set i (some x))
theorem ar(i:Nat)(h:i∉Γ:=by decide):GT K Γ (dZ i) (vg i):=⟨fun _ _ _ _ k h=>k _ h,fun {B0 fps δ c H x v fp Q} o r n q=>by
 have ok:=(o.wH i (Same.refl H) r n).sub (Γ':=Γ) fun j hj=>bE.mpr ⟨hj,fun z=>h (by rw[<- mo.mp z];exact hj)⟩
 exact q _ _ ok fun j hj=>by rw[if_neg (fun z=>h (by rw[<- z];exact hj))]⟩
def LG(xs:List D)(δ:Dl)(P:Dl->Prop):Prop:=match xs with|[]=>P δ|_=>False
def Iy(g:D->Dl->(Dl->Prop)->Prop)(f:List D->Dl->(Dl->Prop)->Prop)(xs:List D)(δ:Dl)(P:Dl->Prop):Prop:=match xs with|x::r=>g x δ fun c=>f r c P|[]=>False
theorem AE:GTs K Γ Mp LG:=⟨fun x _ _ _ k h=>by cases x with|nil=>exact k _ h|cons _ _=>exact h,fun {B0 fps δ c H x v fp Q} o r n q=>by
 cases x with
 |nil=>obtain ⟨rfl,_⟩:=r;exact⟨rfl,q _ _ o fun _ _=>rfl⟩
 |cons _ _=>exact q.elim⟩
theorem eF(f:GT K Γ g dg)(c:GTs K Γ gs dr):GTs K Γ (HF g gs) (Iy dg dr) :=
 ⟨fun x _ _ _ k h=>by
  cases x with
  |nil=>exact h
  |cons x r=>exact f.mono _ _ _ _ (fun z h=>c.mono _ _ _ _ k h) h,
 fun {B0 fps δ E H x v fp Q} o r n q=>by
  cases x with
  |nil=>exact q.elim
  |cons x xs =>
   obtain ⟨y,ys,G,F,rfl,rfl,s,p⟩:=r
   refine⟨y,ys,rfl,f.run o s (fun j hj a ha=>n j hj a (Oq _ ha)) (f.mono _ _ _ _ (fun m z i σ' u e=>?_) q)⟩
   exact c.run u p (fun j hj a ha=>by rw[e j hj];exact n j hj a (Fk _ ha)) (c.mono _ _ _ _ (fun I z B C t e2=>z B C t fun j hj=>(e2 j hj).trans (e j hj)) z)⟩
def EC(n:Nat)(c:List D->Dl->(Dl->Prop)->Prop)(x:D)(δ:Dl)(P:Dl->Prop):Prop:=match x with|.tup ds=>ds.length=n/\c ds δ P|_=>False
theorem Hm(h:GTs K Γ g dg):GT K Γ (J4 K n g) (EC n dg) :=
 ⟨fun x δ P i k h'=>by unfold EC at h' ⊢;revert h';split<;>first|exact fun h'=>⟨h'.1,h.mono _ _ _ _ k h'.2⟩|exact id,
 fun {B0 fps δ f H x v fp Q} o r c q=>by
  unfold EC at q
  split at q
  .obtain ⟨a,xs,e1,e2,r⟩:=r
   exact⟨a,xs,e1,.inl (.inl e2),r.length.trans q.1,h.run o r c q.2⟩
  .exact q.elim⟩
def KY(f:DE)(c:D->Dl->(Dl->Prop)->Prop)(E:aZ)(δ:Dl):Prop:=f δ fun x=>c x δ E.nx
theorem Fj(f:ES K Γ te de)(c:GT K Γ g dg):ST K ρ Γr Γl (j3 te g) Γ Γ (KY de dg) :=
 fun _ _ _ _ _ _ _ k o h=>f.run o (f.mono _ _ _ (fun x z v H' fp s r n=>c.run (o.same s) r n (c.mono _ _ _ _ (fun j z i σ' m _=>k.nx m z) z)) h)
structure F7(K:aae)(J:It)(B:Hp)(ds:List D):Prop where
 go:∀{i H},Same B H->i<ds.length->J.go i H
 yld:∀{i H x H' d},Same B H->J.yld i H x H'->ds[i]?=some d->Same H H'/\∃fp,Rf K H' d x fp/\∀a∈fp,B a≠none
 stop:∀{i H},Same B H->ds.length<=i->J.stop i H
abbrev DI:=Dl->(List D->Prop)->Prop
structure IT(K:aae)(Γ:aad)(wi:TI)(di:DI):Prop where
 mono:∀δ (P P':List D->Prop),(∀x,P x->P' x)->di δ P->di δ P'
 run:∀{B0 fps δ σ H R},Ok K B0 Γ fps δ σ H->di δ (fun ds=>∀(J:It) (H':Hp) (fq:List Addr),Same H H'->(∀j∈Γ,∀a∈fq,a∉fps j) ->
  (∀B,Same B H'->(∀a∈fq,B a=H' a)->(∀a o,H' a=some o->Im o->B a=some o)->F7 K J B ds)->R J H')->wi σ H R
def asL(x:D)(P:List D->Prop):Prop:=match x.items with|some ds=>P ds|none=>False
theorem bq(h:asL x P):∃ds,x.items=some ds/\P ds:=by
 unfold asL at h;split at h
 .exact⟨_,by assumption,h⟩
 .exact h.elim
theorem gh(e:x.items=some ds)(h:P ds):asL x P:=by unfold asL;rw[e];exact h
def F8(c:DE)(δ:Dl)(P:List D->Prop):Prop:=c δ fun x=>asL x P
theorem aN(p:ES K Γ te de):IT K Γ (BA K te) (F8 de) :=
 ⟨fun δ P P' k h=>p.mono _ _ _ (fun x z=>by obtain ⟨ds,e,z⟩:=bq z;exact gh e (k _ z)) h,
 fun {B0 fps δ T H R} o h=>p.run o (p.mono _ _ _ (fun x z v H' fp s r n=>by
  obtain ⟨ds,ex,z⟩:=bq z
  obtain ⟨a,xs,Y,rfl,J,hr,SY⟩:=r.seq ex
  refine⟨a,rfl,⟨xs,J⟩,z (Itl K a) H' fp s n fun B U M G=>?_⟩
  have E:Rf K B x (.ref a) fp:=r.mono (fun b hb u e=>by rw[M b hb];exact e) G
  obtain ⟨Z,g,Rk,e1,Q,C,O⟩:=E.seq ex
  cases e1
  have sq:∀{j:Hp},Same B j->SqL K j a g:=fun c=>by
   rcases Q with (h|⟨F,h⟩)|h
   .exact .inl (.inl (c.st _ _ h trivial))
   .exact .inl (.inr ⟨F,c.st _ _ h trivial⟩)
   .exact .inr h
  have L:=C.length
  refine⟨fun {i j} c hi=>⟨g,g[i]'(),sq c,by simp [L,hi]⟩,fun {i j y H3 d} c m hd=>?_,fun {i j} c hi=>⟨g,sq c,()⟩⟩
  obtain ⟨rfl,m⟩:=m
  have e2:=m g (sq c)
  obtain ⟨d',f,t,q,X⟩:=C.get' e2
  rw[hd] at t;cases t
  exact⟨Same.refl _,f,q.same c,fun b hb=>by
   obtain ⟨u,I,_⟩:=q.dom b hb
   rw[I];intro z;cases z⟩) h)⟩
def asI(xs:List D)(P:Int->Prop):Prop:=match xs with|[.int j]=>P j|_=>False
def IH(xs:List D)(P:Int->Int->Prop):Prop:=match xs with|[.int i,.int j]=>P i j|_=>False
theorem AV(h:asI xs P):∃j,xs=[.int j]/\P j:=by
 unfold asI at h;split at h
 .exact⟨_,rfl,h⟩
 .exact h.elim
theorem qV(h:IH xs P):∃i j,xs=[.int i,.int j]/\P i j:=by
 unfold IH at h;split at h
 .exact⟨_,_,rfl,h⟩
 .exact h.elim
def rK(lo:Int)(n:Nat):List D:=(List.range n).map fun (k:Nat)=>.int (lo+(k:Int))
theorem HS:F7 K (Itr lo n) B (rK lo n):=⟨fun {i g} c hi=>by unfold Itr;simpa [rK] using hi,fun {i g y o d} c j hd=>by
 obtain ⟨rfl,rfl⟩:=j
 unfold rK at hd
 rw[ox] at hd
 cases e:(List.range n)[i]? with
 |none=>rw[e] at hd;cases hd
 |some k =>
  rw[e] at hd
  obtain ⟨m,f⟩:=oe.mp e
  rw[Qa] at f
  subst f
  cases hd
  exact⟨Same.refl _,[],⟨rfl,rfl⟩,fun _ h=>nomatch h⟩,fun {i g} c hi=>by unfold Itr;simpa [rK] using hi⟩
def EF(c:DA)(δ:Dl)(P:List D->Prop):Prop:=c δ fun xs=>asI xs fun j=>(-(2 ^ 62)<=j/\j<2 ^ 62)/\P (rK 0 j.toNat)
def Eh(c:DA)(δ:Dl)(P:List D->Prop):Prop:=c δ fun xs=>IH xs fun i j=>(-(2 ^ 62)<=i/\i<2 ^ 62/\-(2 ^ 62)<=j/\j<2 ^ 62)/\P (rK i (j - i).toNat)
theorem Rps.ints1(h:Rps K H [.int j] vs):vs=[.int j]:=by
 obtain ⟨fp,x,r,f,c,rfl,_,⟨rfl,_⟩,⟨rfl,_⟩⟩:=h;rfl
theorem Rps.ints2(h:Rps K H [.int i,.int j] vs):vs=[.int i,.int j]:=by
 obtain ⟨fp,x,r,f,c,rfl,_,⟨rfl,_⟩,y,g,f,c,rfl,_,⟨rfl,_⟩,⟨rfl,_⟩⟩:=h;rfl
theorem bJ{u:TA}{c:DA}(ha:AR K Γ u c):IT K Γ (Lf u) (EF c) :=
 ⟨fun δ P g k h=>ha.mono _ _ _ (fun x z=>by obtain ⟨j,rfl,z⟩:=AV z;exact⟨z.1,k _ z.2⟩) h,
 fun {B0 fps δ f H R} o h=>ha.run o (ha.mono _ _ _ (fun xs z vs H' s r=>by
  obtain ⟨j,rfl,z⟩:=AV z
  exact⟨j,r.ints1,z.1.1,z.1.2,z.2 _ H' [] s (fun _ _ _ h=>(nomatch h)) fun B _ _ _=>HS⟩) h)⟩
theorem JF{u:TA}{c:DA}(ha:AR K Γ u c):IT K Γ (LA u) (Eh c) :=
 ⟨fun δ P g k h=>ha.mono _ _ _ (fun x z=>by obtain ⟨i,j,rfl,z⟩:=qV z;exact⟨z.1,k _ z.2⟩) h,
 fun {B0 fps δ f H R} o h=>ha.run o (ha.mono _ _ _ (fun xs z vs H' s r=>by
  obtain ⟨i,j,rfl,z⟩:=qV z
  exact⟨i,j,r.ints2,z.1,z.2 _ H' [] s (fun _ _ _ h=>(nomatch h)) fun B _ _ _=>HS⟩) h)⟩
def i7(f:D->Dl->(Dl->Prop)->Prop)(g:DS)(E:aZ):List D->Dl->Prop
 |[],δ=>E.nx δ
 |x::xs,δ=>f x δ fun c=>g { nx:=i7 f g E xs,ct:=i7 f g E xs,bk:=E.nx,rt:=E.rt } c
def Kb(c:DI)(f:D->Dl->(Dl->Prop)->Prop)(g:DS)(E:aZ)(δ:Dl):Prop:=c δ fun ds=>i7 f g E ds δ
theorem RtI.base{c B0:Hp}{fps:Nat->List Addr}{H:Hp}{fp:List Addr}(r:RtI c Γr fps H fp)(s:Same B0 c)(_:gU K B0):RtI B0 Γr fps H fp:=⟨r.nd,r.mu,fun a ha=>s.free (r.nw a ha),r.dj⟩
theorem dH{I:TI}{O:DI}{g:TG}{p:D->Dl->(Dl->Prop)->Prop}{tb:TS}{r:DS}(hi:IT K Γ I O)(L:GT K Γ g p)(hb:ST K ρ Γr Γ tb Γ Γ r):ST K ρ Γr Γl (K7 I g tb) Γ Γ (Kb O p r):=by
 intro B0 Dn E fps δ G H k o h
 refine hi.run o (hi.mono _ _ _ (fun ds z J H1 fq U n1 Q2=>?_) h)
 obtain ⟨F,v,B,P⟩:=(o.same U).rebase
 have C:F7 K J F ds:=Q2 F B.b0 (fun a ha=>P a fun j hj=>n1 j hj a ha) fun a u e im=>by
  rw[P a fun j hj ha=>((B.own j hj).2 a ha).2.mx u e im];exact e
 refine⟨fun i m G H=>m=ds.length - i/\i<=ds.length/\∃fps δ,Ok K F Γ fps δ G H/\i7 p r E (ds.drop i) δ,⟨ds.length,(),Pd _,fps,δ,B,by rw[Pf];exact z⟩,?_⟩
 rintro i m QX H2 ⟨rfl,S0,RI,Sy,n,t⟩
 by_cases s:i<ds.length
 .refine .inr ⟨C.go n.b0 s,_,fun σ' H' q=>q,fun x H3 hy=>?_⟩
  obtain ⟨T,fp,Y,n3⟩:=C.yld n.b0 hy (ab s)
  rw[Ou s] at t
  refine L.run (n.same T) Y (fun j hj a ha hz=>n3 a ha ((n.own j hj).2 a hz).1) (L.mono _ _ _ _ (fun Q R M σ' Z e'=>?_) t)
  refine hb (E:={ nx:=i7 p r E (ds.drop (i+1)),ct:=i7 p r E (ds.drop (i+1)),bk:=E.nx,rt:=E.rt }) ⟨fun f c=>⟨ds.length - (i+1),(),rfl,s,_,_,f,c⟩,fun f c=>k.nx (f.base v o.b0.tv) c,fun f c=>⟨ds.length - (i+1),(),rfl,s,_,_,f,c⟩,fun f X i4 c=>k.rt (f.base v o.b0.tv) X (fun y=>(i4 y).base v o.b0.tv) c⟩ Z R
 .have e:i=ds.length:=()
  subst e
  rw[P7] at t
  exact .inl ⟨C.stop n.b0 (Ol _),k.nx (n.base v o.b0.tv) t⟩
def LO(c:DT)(h:DS)(E:aZ)(δ:Dl):Prop:=∃W:Nat->Dl->Prop,(∃m,W m δ)/\∀m δ,W m δ->c δ fun b=>if b=true then h { nx:=fun f=>∃g,g < m/\W g f,ct:=fun f=>∃g,g < m/\W g f,bk:=E.nx,rt:=E.rt } δ else E.nx δ
theorem nu{c:TT}{u:DT}{tb:TS}{v:DS}(t:TR K Γ c u)(hb:ST K ρ Γr Γ tb Γ Γ v):ST K ρ Γr Γl (HD c tb) Γ Γ (LO u v):=by
 intro B0 Dn E fps δ i H k o h
 obtain ⟨W,⟨m,B⟩,F⟩:=h
 refine⟨fun m i H=>∃fps δ,Ok K B0 Γ fps δ i H/\W m δ,⟨m,fps,δ,o,B⟩,?_⟩
 rintro m I J ⟨G,C,n,y⟩
 refine t.run n (t.mono _ _ _ (fun b z H' s=>cQ (fun z=>?_) (fun z=>k.nx (n.same s) z) z) (F m C y))
 refine⟨fun i H=>∃f,f < m/\∃fps δ,Ok K B0 Γ fps δ i H/\W f δ,fun σ' H' q=>q,hb (E:={ nx:=fun g=>∃f,f < m/\W f g,ct:=fun g=>∃f,f < m/\W f g,bk:=E.nx,rt:=E.rt }) ⟨?_,fun j x=>k.nx j x,?_,k.rt⟩ (n.same s) z⟩
 .rintro fps δ i H j ⟨f,r,p⟩
  exact⟨f,r,fps,δ,j,p⟩
 .rintro fps δ i H j ⟨f,r,p⟩
  exact⟨f,r,fps,δ,j,p⟩
def vV(f:D->(List D->Prop)->Prop):List D->List D->(List D->Prop)->Prop
 |[],acc,P=>P acc
 |x::xs,acc,P=>f x fun ys=>vV f xs (acc++ys) P
theorem pW{f:D->(List D->Prop)->Prop}(g:∀x P c,(∀z,P z->c z)->f x P->f x c):∀xs acc (P c:List D->Prop),(∀z,P z->c z)->vV f xs acc P->vV f xs acc c
 |[],acc,P,c,k,h=>k _ h
 |x::xs,acc,P,c,k,h=>g x _ _ (fun z h=>pW g xs _ P c k h) h
def cO(k:Nat)(idx:aad)(δ:Dl):Dl:=List.replicate k none++idx.map fun i=>(δ[i]?).getD none
theorem Hg(o:Ok K B0 Γ fps δ σ H):Ok K H [] (fun j=>match (cO k idx δ)[j]? with|some (some _)=>fps (idx.getD (j - k) 0)|_=>[]) (cO k idx δ) (fK k idx σ) H:=by
 refine⟨by simp [cO,fK,Cq],SB.refl o.b0.now,fun i d e=>?_,fun i h=>?_,fun _ h=>(nomatch h),fun _ h=>(nomatch h)⟩
 .rw[e]
  unfold cO at e
  unfold fK Cq
  by_cases hi:i<k
  .rw[OE (by simpa using hi)] at e
   simp [hi] at e
  .rw[OI (by simpa using hi),OH,ox] at e
   cases ej:idx[i - k]? with
   |none=>rw[ej] at e;simp at e
   |some j =>
    rw[ej] at e
    simp only[Option.map_some,Option.some.injEq] at e
    have g:δ[j]?=some (some d):=by
     cases q:δ[j]? with
     |none=>rw[q] at e;cases e
     |some x=>rw[q] at e;simp at e;rw[e]
    obtain ⟨v,f,c⟩:=o.val j d g
    refine⟨v,?_,?_⟩
    .rw[OI (by simpa using hi),OH,ox,ej]
     simp [f]
    .show Rf K H d v (fps (idx.getD (i - k) 0))
     rw[be,ej]
     exact c
 .show (match (cO k idx δ)[i]? with|some (some _)=>_|_=>_)=_
  split
  .exact absurd (by assumption) (h _)
  .rfl
def iY(g:D->Dl->(Dl->Prop)->Prop)(f:DT)(h:DE)(δ:Dl)(x:D)(R:List D->Prop):Prop:=g x δ fun c=>f c fun b=>if b=true then h c fun y=>R [y] else R []
def mD(f:DI)(g:D->Dl->(Dl->Prop)->Prop)(c:DT)(h:DE)(k:Nat)(idx:aad)(δ:Dl)(P:DK):Prop:=f δ fun ds=>ds.length<=1000/\vV (iY g c h (cO k idx δ)) ds [] fun ys=>P (.lst ys)
theorem wm(f:GT K Γ' g dg)(ht:TR K Γ' tt dt)(hm:∀δ (P c:DK),(∀x,P x->c x)->de δ P->de δ c)(δ:Dl):∀x P c,(∀z,P z->c z)->iY dg dt de δ x P->iY dg dt de δ x c :=
 fun x P c k h=>f.mono _ _ _ _ (fun i h=>ht.mono _ _ _ (fun b h=>cQ (hm _ _ _ fun y h=>k _ h) (k _) h) h) h
theorem j8(hi:IT K [] wi di)(L:GT K [] g dg)(ht:TR K [] tt dt)(M:EM K [] [] te de) :
  EM K Γ [] (xo wi g tt te k idx) (mD di dg dt de k idx):=by
 have hm:=wm L ht M.mono
 refine⟨fun δ P P' k h=>hi.mono _ _ _ (fun ds z=>⟨z.1,pW (hm _) _ _ _ _ (fun ys h=>k _ h) z.2⟩) h,fun {B0 fps δ σ H Q} o h=>hi.run (o.sub (Γ':=[]) fun _ h=>(nomatch h)) (hi.mono _ _ _ (fun ds z J E fq B n1 Q2=>?_) h)⟩
 have O:F7 K J E ds:=Q2 E (Same.refl _) (fun _ _=>rfl) fun a u e im=>e
 obtain ⟨hz,z⟩:=z
 refine⟨fun i m vs j=>m=ds.length - i/\i<=ds.length/\Same E j/\vs.length<=i/\∃ys fp,Rfs K j ys vs fp/\Nw E j nf [] fp/\vV (iY dg dt de (cO k idx δ)) (ds.drop i) ys fun ys=>∀v H' fp,Same H H'->Rf K H' (.lst ys) v fp->Nw H H' fps [] fp->Q v H',
  ⟨ds.length,(),Pd _,Same.refl _,Pd _,[],[],⟨rfl,rfl⟩,Nw.nil,by rw[Pf];exact z⟩,?_⟩
 rintro i m vs j ⟨rfl,S0,f,Ul,ys,fp,F,n2,t⟩
 by_cases s:i<ds.length
 .refine .inr ⟨O.go f s,fA (),_,fun Sz H' q=>q,fun x H3 hy=>?_⟩
  obtain ⟨r,fx,r3,n3⟩:=O.yld f hy (ab s)
  rw[Ou s] at t
  have oi:=(Hg (k:=k) (idx:=idx) ((o.same B).same (f.trans r)))
  refine L.run oi r3 (fun _ h=>(nomatch h)) (L.mono _ _ _ _ (fun Y c X σ' U e'=>?_) t)
  refine ht.run U (ht.mono _ _ _ (fun b c H4 n=>cQ (fun c=>M.run (U.same n) (M.mono _ _ _ (fun y c v H5 f5 Z r5 C=>?_) c)) (fun c=>?_) c) c)
  .have R:=r.trans (n.trans Z)
   refine⟨ds.length - (i+1),(),rfl,s,f.trans R,by simp;omega,ys++[y],fp++f5,(F.same R).append (Rfs.one r5),⟨?_,fun a ha=>?_,fun a ha=>?_⟩,c⟩
   .refine Ow.mpr ⟨n2.nd,C.nd,fun a h1 b h2 e=>?_⟩
    subst e
    exact ((n2.mu a h1).same (r.trans n)).some (C.fresh a h2)
   .rcases Oj.mp ha with h|h
    .exact (n2.mu a h).same R
    .exact C.mu a h
   .rcases Oj.mp ha with h|h
    .exact n2.src a h
    .exact .inl ((f.trans (r.trans n)).free (C.fresh a h))
  .have T:=r.trans n
   dsimp only at c
   rw[Pb] at c
   exact⟨ds.length - (i+1),(),rfl,s,f.trans T,(),ys,fp,F.same T,n2.same T,c⟩
 .have e:i=ds.length:=()
  subst e
  rw[P7] at t
  refine .inl ⟨O.stop f (Ol _),fA (),fun p I=>?_⟩
  have G:Same j (upd j p (.lst vs)):=Same.gQ I
  refine t _ _ (p::fp) ((B.trans f).trans G) ⟨p,vs,fp,rfl,aq,rfl,F.same G⟩ ⟨Om.mpr ⟨fun h=>(n2.mu p h).some I,n2.nd⟩,fun a ha=>?_,fun a ha=>?_⟩
  .rcases KE.mp ha with e|h
   .subst e;exact .inl ⟨vs,aq⟩
   .exact (n2.mu a h).same G
  .rcases KE.mp ha with e|h
   .subst e;exact .inl ((B.trans f).free I)
   .exact .inl (B.free (n2.fresh a h))
theorem Ee(hi:IT K [] wi di)(E:GT K [] g dg)(ht:TR K [] tt dt)(F:ER K [] te de) :
  ER K Γ (xo wi g tt te k idx) (mD di dg dt de k idx):=by
 have hm:=wm E ht F.mono
 refine⟨fun δ P P' k h=>hi.mono _ _ _ (fun ds z=>⟨z.1,pW (hm _) _ _ _ _ (fun ys h=>k _ h) z.2⟩) h,fun {B0 fps δ σ H Q} o h=>hi.run (o.sub (Γ':=[]) fun _ h=>(nomatch h)) (hi.mono _ _ _ (fun ds z J I fq L n1 Q2=>?_) h)⟩
 have G:F7 K J I ds:=Q2 I (Same.refl _) (fun _ _=>rfl) fun a u e im=>e
 obtain ⟨hz,z⟩:=z
 refine⟨fun i m vs n=>m=ds.length - i/\i<=ds.length/\Same I n/\vs.length<=i/\∃ys fp,Rfs K n ys vs fp/\vV (iY dg dt de (cO k idx δ)) (ds.drop i) ys fun ys=>∀v H',Same H H'->Rp K H' (.lst ys) v->Q v H',
  ⟨ds.length,(),Pd _,Same.refl _,Pd _,[],[],⟨rfl,rfl⟩,by rw[Pf];exact z⟩,?_⟩
 rintro i m vs n ⟨rfl,S0,f,Ul,ys,fp,C,r⟩
 by_cases j:i<ds.length
 .refine .inr ⟨G.go f j,fA (),_,fun Sz H' q=>q,fun x H3 hy=>?_⟩
  obtain ⟨t,fx,Z,n3⟩:=G.yld f hy (ab j)
  rw[Ou j] at r
  have oi:=(Hg (k:=k) (idx:=idx) ((o.same L).same (f.trans t)))
  refine E.run oi Z (fun _ h=>(nomatch h)) (E.mono _ _ _ _ (fun X c R σ' M e'=>?_) r)
  refine ht.run M (ht.mono _ _ _ (fun b c H4 s=>cQ (fun c=>F.run (M.same s) (F.mono _ _ _ (fun y c v H5 Y B=>?_) c)) (fun c=>?_) c) c)
  .have T:=t.trans (s.trans Y)
   obtain ⟨f5,B⟩:=B
   exact⟨ds.length - (i+1),(),rfl,j,f.trans T,by simp;omega,ys++[y],fp++f5,(C.same T).append (Rfs.one B),c⟩
  .have U:=t.trans s
   dsimp only at c
   rw[Pb] at c
   exact⟨ds.length - (i+1),(),rfl,j,f.trans U,(),ys,fp,C.same U,c⟩
 .have e:i=ds.length:=()
  subst e
  rw[P7] at r
  refine .inl ⟨G.stop f (Ol _),fA (),fun p hp=>?_⟩
  have O:Same n (upd n p (.lst vs)):=Same.gQ hp
  exact r _ _ ((L.trans f).trans O) ⟨p::fp,p,vs,fp,rfl,aq,rfl,C.same O⟩
def Gg(c:Dl)(P:Bool->Prop):Prop:=P true
theorem LW:TR K Γ K4 Gg:=⟨fun _ _ _ k h=>k _ h,fun {_ _ _ _ H _} o q=>q H (Same.refl H)⟩
def bA(N:List Str)(ds:List D):Dl:=ds.map some++List.replicate (N.length - ds.length) none
theorem Rfs.split{H:Hp}:∀{ds:List D}{vs:List V}{fp:List Addr},Rfs K H ds vs fp->∃fps:Nat->List Addr,(∀i d,ds[i]?=some d->∃v,vs[i]?=some v/\Rf K H d v (fps i))/\∀i,ds.length<=i->fps i=[]
 |[],vs,fp,h=>⟨fun _=>[],fun i d e=>by simp at e,fun _ _=>rfl⟩
 |d::ds,vs,fp,h=>by
  obtain ⟨x,r,m,n,rfl,rfl,g,f⟩:=h
  obtain ⟨fps,k1,c⟩:=Rfs.split f
  refine⟨fun i=>match i with|0=>m|j+1=>fps j,fun i d' e=>?_,fun i hi=>?_⟩
  .cases i with
   |zero=>simp at e;subst e;exact⟨x,rfl,g⟩
   |succ j=>simpa using k1 j d' (by simpa using e)
  .cases i with
   |zero=>simp at hi
   |succ j=>exact c j (by simpa using hi)
theorem nO(h:Rps K H ds vs)(tv:gU K H):∃fps,Ok K H [] fps (bA N ds) (L2.start N vs) H:=by
 obtain ⟨fp,h⟩:=h
 have c:=h.length
 obtain ⟨fps,k1,f⟩:=h.split
 refine⟨fps,by simp [bA,L2.start,c],SB.refl tv,fun i d e=>?_,fun i e=>?_,fun _ h=>(nomatch h),fun _ h=>(nomatch h)⟩
 .unfold bA at e
  unfold L2.start
  by_cases hi:i<ds.length
  .rw[OE (by simpa using hi),ox,ab hi] at e
   simp at e
   obtain ⟨v,j,g⟩:=k1 i d (by rw[ab hi,e])
   exact⟨v,by rw[OE (by simpa [c] using hi),ox,j];rfl,g⟩
  .rw[OI (by simpa using hi),O5] at e
   split at e<;>cases e
 .by_cases hi:i<ds.length
  .refine absurd ?_ (e ds[i])
   unfold bA
   rw[OE (by simpa using hi),ox,ab hi]
   rfl
  .exact f i ()
abbrev lD(P:DK):aZ:=⟨fun _=>P .non,fun x _=>P x,fun _=>False,fun _=>False⟩
theorem pI(c:ST K true [] [] t [] Γn d)(hd:∀ds P,S ds P->d (lD P) (bA N ds)) :
  ∀{vs H Q E},spP K S vs H Q E->t { nx:=fun _ H'=>Q .non H',rt:=Q } (L2.start N vs) H:=by
 rintro vs H Q E ⟨ds,r,tv,h⟩
 obtain ⟨fps,o⟩:=nO (N:=N) r tv
 refine c (E:=lD _) ⟨fun {fps δ f H'} o z=>?_,fun o (z:False)=>z.elim,fun o (z:False)=>z.elim,fun o r i z=>?_⟩ o (hd ds _ h)
 .exact z _ H' [] o.b0 ⟨rfl,rfl⟩ Nw.nil
 .exact z _ _ _ o.b0 r ⟨(i rfl).nd,(i rfl).mu,fun a ha=>.inl ((i rfl).nw a ha)⟩
theorem JK(c:ST K false [] [] t [] Γn d)(hd:∀ds P,S ds P->d (lD P) (bA N ds)) :
  ∀{vs H Q E},spR K S vs H Q E->t { nx:=fun _ H'=>Q .non H',rt:=Q } (L2.start N vs) H:=by
 rintro vs H Q E ⟨ds,r,tv,h⟩
 obtain ⟨fps,o⟩:=nO (N:=N) r tv
 refine c (E:=lD _) ⟨fun {fps δ f H'} o z=>?_,fun o (z:False)=>z.elim,fun o (z:False)=>z.elim,fun o r i z=>?_⟩ o (hd ds _ h)
 .exact z _ H' o.b0 ⟨[],rfl,rfl⟩
 .exact z _ _ o.b0 ⟨_,r⟩
end
section
variable {K:aae}{ρ:Bool}{Γr Γl Γ M:aad}{t u:TS}{te t1 t2:TE}{de dx d1 d2:DE}{d e:DS}
variable {B0:Hp}{fps:Nat->List Addr}{δ:Dl}{σ:St}{H H':Hp}
theorem Ok.CS(o:Ok K B0 Γ fps δ σ H)(hi:i∈Γ)(g:σ[i]?=some (some v))(r:Rf K H' d' v fp')(nd:fp'.Nodup)(mu:∀a∈fp',Mu H' a)
  (src:∀a∈fp',a∈fps i\/(B0 a=none/\∀j,a∉fps j)) (q:SB K B0 H') (keep:∀b u,b∉fps i->H b=some u->NT u->H' b=some u) :
  Ok K B0 Γ (fun j=>if j=i then fp' else fps j) (δ.set i (some d')) σ H':=by
 have p:i<δ.length:=by rw[<- o.len];exact (oe.mp g).1
 refine⟨by simp [o.len],q,fun j d e=>?_,fun j h=>?_,fun j hj=>?_,fun j hj k c a ha=>?_⟩
 .by_cases h:j=i
  .subst h
   rw[Pc] at e
   simp [p] at e
   subst e
   exact⟨v,g,by rw[if_pos rfl];exact r⟩
  .rw[Gc (OT h)] at e
   obtain ⟨w,t,s⟩:=o.val j d e
   refine⟨w,t,?_⟩
   rw[if_neg h]
   exact s.mF (fun a ha u e n=>keep a u (fun z=>o.dj i hi j h a z ha) e n) fun a u e f=>keep a u (fun z=>((o.own i hi).2 a z).2.mx u e f) e (by rcases f with ⟨_,rfl⟩|⟨_,_,rfl⟩|⟨_,_,rfl⟩<;>trivial)
 .by_cases h':j=i
  .subst h'
   exact absurd (by rw[Pc];simp [p]) (h d')
  .rw[if_neg h']
   exact o.non j fun d z=>h d (by rw[Gc (OT h')];exact z)
 .by_cases h:j=i
  .subst h
   rw[if_pos rfl]
   refine⟨nd,fun a ha=>⟨?_,mu a ha⟩⟩
   rcases src a ha with z|z
   .exact ((o.own j hi).2 a z).1
   .exact z.1
  .rw[if_neg h]
   refine⟨(o.own j hj).1,fun a ha=>⟨((o.own j hj).2 a ha).1,?_⟩⟩
   have hn:a∉fps i:=fun z=>o.dj i hi j h a z ha
   rcases ((o.own j hj).2 a ha).2 with ⟨x,z⟩|⟨x,z⟩|⟨x,z⟩|⟨C,dx,fs,z⟩
   .exact .inl ⟨x,keep a _ hn z trivial⟩
   .exact .inr (.inl ⟨x,keep a _ hn z trivial⟩)
   .exact .inr (.inr (.inl ⟨x,keep a _ hn z trivial⟩))
   .exact .inr (.inr (.inr ⟨C,dx,fs,keep a _ hn z trivial⟩))
 .by_cases h:j=i
  .subst h
   rw[if_pos rfl] at ha
   rw[if_neg c]
   rcases src a ha with z|z
   .exact o.dj j hi k c a z
   .exact z.2 k
  .rw[if_neg h] at ha
   by_cases m:k=i
   .rw[if_pos m]
    intro z
    rcases src a z with y|y
    .exact o.dj j hj i (OT h) a ha y
    .exact y.2 j ha
   .rw[if_neg m]
    exact o.dj j hj k c a ha
def i6(δ:Dl)(i:Nat)(P:List D->Prop):Prop:=match δ[i]? with|some (some (.lst ds))=>P ds|_=>False
theorem Ok.write(o:Ok K B0 Γ fps δ σ H)(hi:i∈Γ)(c:σ[i]?=some (some v))(r:Rf K H' d' v fp')(nd:fp'.Nodup)(mu:∀a∈fp',Mu H' a)
  (src:∀a∈fp',a∈fps i\/(B0 a=none/\∀j,a∉fps j)) (keep:∀b u,b∉fps i->H b=some u->H' b=some u) :
  Ok K B0 Γ (fun j=>if j=i then fp' else fps j) (δ.set i (some d')) σ H':=o.CS hi c r nd mu src (o.b0.keep (fun a ha=>(o.own i hi).2 a ha) keep) fun b u n e _=>keep b u n e
theorem fF(h:i6 δ i P):∃ds,δ[i]?=some (some (.lst ds))/\P ds:=by
 unfold i6 at h;split at h
 .exact⟨_,by assumption,h⟩
 .exact h.elim
theorem Ok.z7(o:Ok K B0 Γ fps δ σ H)(e:δ[i]?=some (some (.lst ds))):∃a xs c,σ[i]?=some (some (.ref a))/\H a=some (.lst xs)/\fps i=a::c/\Rfs K H ds xs c:=by
 obtain ⟨v,j,a,xs,c,rfl,h,g,f⟩:=o.val i _ e
 exact⟨a,xs,c,j,h,g,f⟩
theorem uL{a:Addr}{w:HO}{fp:List Addr}(ha:a∈fp):∀b u,b∉fp->H b=some u->upd H a w b=some u:=fun b u hb e=>by
 rw[au (fun z=>hb (by rw[z];exact ha))];exact e
def uY(M:aad)(i:Nat)(c:DE)(E:aZ)(δ:Dl):Prop:=i6 δ i fun ds=>c δ fun x=>ds.length<1000/\E.nx ((kill M δ).set i (some (.lst (ds++[x]))))
theorem dY(i:Nat)(F:EM K Γ M te de)(hi:i∈Γ/\i∉M:=by decide)(p:∀j∈M,j∈Γ:=by decide):ST K ρ Γr Γl (yR (tBM K "list" Aj (bR i) (bx te gT))) Γ (minus Γ M) (uY M i de):=by
 intro B0 Dn E fps δ σ H k o h
 obtain ⟨ds,e,h⟩:=fF h
 obtain ⟨a,xs,t,m,f,g,G⟩:=o.z7 e
 refine⟨.ref a,m,.inl ⟨rfl,xs,.inl (.inl f)⟩,F.run o (F.mono _ _ _ (fun x z v Q fp s r n=>?_) h)⟩
 refine⟨a,xs,v,rfl,rfl,s.st _ _ f trivial,by rw[G.length];exact OA z.1 (fA (Ol _)),?_⟩
 have ok:=(o.kill M).same s
 have P:i∈minus Γ M:=bE.mpr hi
 have L:=o.own i hi.1
 rw[g] at L
 obtain ⟨nd,J⟩:=L
 obtain ⟨na,O⟩:=Om.mp nd
 have B:∀b∈fp,b≠a/\b∉t:=fun b hb=>by
  have:b∉fps i:=fun z=>by
   rcases n.src b hb with y|⟨j,hj,y⟩
   .exact o.dom z y
   .exact o.dj j (p j hj) i (fun w=>hi.2 (by rw[w];exact hj)) b y z
  rw[g] at this
  exact⟨fun z=>this (by rw[z];exact k0),fun z=>this (gV _ z)⟩
 have nt:=((J a k0).2.same s).mx
 refine k.nx (ok.write P (d':=.lst (ds++[x])) (fp':=a::(t++fp)) m ⟨a,xs++[v],t++fp,rfl,aq,rfl,?_⟩ ?_ (fun b hb=>?_) (fun b hb=>?_) ?_) z.2
 .exact ((G.same s).upd na nt).append ((Rfs.one r).upd (fun w=>(B a w).1 rfl) nt)
 .refine Om.mpr ⟨fun w=>?_,Ow.mpr ⟨O,n.nd,fun b m c f z=>?_⟩⟩
  .rcases Oj.mp w with w|w
   .exact na w
   .exact (B a w).1 rfl
  .subst z;exact (B b f).2 m
 .refine Mu.upd ?_ (.inl ⟨_,rfl⟩)
  rcases KE.mp hb with w|w
  .subst w;exact .inl ⟨xs,s.st _ _ f trivial⟩
  .rcases Oj.mp w with w|w
   .exact (J b (gV _ w)).2.same s
   .exact n.mu b w
 .show b∈(if i∈M then [] else fps i)\/_
  rw[if_neg hi.2,g]
  rcases KE.mp hb with w|w
  .subst w;exact .inl k0
  .rcases Oj.mp w with w|w
   .exact .inl (gV _ w)
   .refine .inr ⟨?_,fun j=>?_⟩
    .rcases n.src b w with y|⟨j,hj,y⟩
     .exact o.b0.free y
     .exact ((o.own j (p j hj)).2 b y).1
    .show b∉(if j∈M then [] else fps j)
     split
     .exact OF
     .rename_i hj
      intro z
      rcases n.src b w with y|⟨C,I,y⟩
      .exact o.dom z y
      .exact o.dj C (p C I) j (fun q=>hj (by rw[q];exact I)) b y z
 .show ∀b u,b∉(if i∈M then [] else fps i)->_
  rw[if_neg hi.2,g]
  exact uL k0
theorem Rfs.set{H:Hp}{x:D}{v:V}{fp:List Addr}(r:Rf K H x v fp)(nd:fp.Nodup):∀{ds:List D}{xs:List V}{c:List Addr}{j:Nat},Rfs K H ds xs c->c.Nodup->(∀a∈fp,a∉c)->j<ds.length ->
  ∃f,Rfs K H (ds.set j x) (xs.set j v) f/\f.Nodup/\∀a∈f,a∈c\/a∈fp
 |[],xs,c,j,h,_,_,hj=>by simp at hj
 |d::ds,xs,c,j,h,hn,hd,hj=>by
  obtain ⟨y,ys,n,m,rfl,rfl,q,i⟩:=h
  obtain ⟨n1,n2,p⟩:=Ow.mp hn
  cases j with
  |zero =>
   refine⟨fp++m,⟨v,ys,fp,m,rfl,rfl,r,i⟩,Ow.mpr ⟨nd,n2,fun a ha b hb z=>?_⟩,fun a ha=>?_⟩
   .subst z;exact hd a ha (Fk _ hb)
   .exact (Oj.mp ha).elim .inr fun z=>.inl (Fk _ z)
  |succ j =>
   obtain ⟨f,o,s,g⟩:=Rfs.set r nd (j:=j) i n2 (fun a ha z=>hd a ha (Fk _ z)) (by simpa using hj)
   refine⟨n++f,⟨y,ys.set j v,n,f,rfl,rfl,q,o⟩,Ow.mpr ⟨n1,s,fun a ha b hb z=>?_⟩,fun a ha=>?_⟩
   .subst z
    rcases g a hb with w|w
    .exact p a ha a w rfl
    .exact hd a w (Oq _ ha)
   .rcases Oj.mp ha with w|w
    .exact .inl (Oq _ w)
    .exact (g a w).imp (Fk _) id
theorem Ht(h:ixN n i=some j):j<n:=by
 unfold ixN at h
 split at h
 .split at h
  .cases h;omega
  .cases h
 .split at h
  .cases h;omega
  .cases h
theorem bF(h:asI [x] P):∃j,x=.int j/\P j:=by
 obtain ⟨j,e,h⟩:=AV h;cases e;exact⟨j,rfl,h⟩
theorem Rfs.inner{H:Hp}:∀{ds:List D}{xs:List V}{m:List Addr}{j:Nat}{es:List D},Rfs K H ds xs m->m.Nodup->ds[j]?=some (.lst es) ->
  ∃b ys i,xs[j]?=some (.ref b)/\H b=some (.lst ys)/\Rfs K H es ys i/\b∈m/\(∀a∈i,a∈m)/\b∉i/\i.Nodup /\
   ∀{H':Hp}{es':List D}{p:List V}{f:List Addr},(∀c u,c≠b->H c=some u->H' c=some u)->H' b=some (.lst p)->(∀u,H b=some u->¬ Im u)->Rfs K H' es' p f->f.Nodup->b∉f->(∀a∈f,a∈i\/a∉m) ->
    ∃o,Rfs K H' (ds.set j (.lst es')) xs o/\o.Nodup/\∀a∈o,a∈m\/a∈f
 |[],xs,m,j,es,h,_,e=>by simp at e
 |d::ds,xs,m,j,es,h,hn,e=>by
  obtain ⟨y,ys,F,L,rfl,rfl,J,I⟩:=h
  obtain ⟨n1,n2,n⟩:=Ow.mp hn
  cases j with
  |zero =>
   simp at e;subst e
   obtain ⟨b,s,i,rfl,hb,rfl,E⟩:=J
   obtain ⟨R,Q⟩:=Om.mp n1
   refine⟨b,s,i,rfl,hb,E,Oq _ k0,fun a ha=>Oq _ (gV _ ha),R,Q,fun {H' es' p f} k1 B r x v t q=>?_⟩
   refine⟨(b::f)++L,⟨_,ys,b::f,L,rfl,rfl,⟨b,p,f,rfl,B,rfl,x⟩,?_⟩,Ow.mpr ⟨Om.mpr ⟨t,v⟩,n2,fun a ha c g z=>?_⟩,fun a ha=>?_⟩
   .exact I.mono (fun c g u e=>k1 c u (fun z=>n b k0 c g z.symm) e) fun c u e C=>k1 c u (fun z=>r u (by rw[<- z];exact e) C) e
   .subst z
    rcases KE.mp ha with w|w
    .exact n a (by rw[w];exact k0) a g rfl
    .rcases q a w with w|w
     .exact n a (gV _ w) a g rfl
     .exact w (Fk _ g)
   .rcases Oj.mp ha with w|w
    .rcases KE.mp w with w|w
     .exact .inl (Oq _ (by rw[w];exact k0))
     .exact .inr w
    .exact .inl (Fk _ w)
  |succ j =>
   obtain ⟨b,s,i,e1,hb,E,O,M,X,Y,Z⟩:=Rfs.inner (j:=j) I n2 (by simpa using e)
   refine⟨b,s,i,by simpa using e1,hb,E,Fk _ O,fun a ha=>Fk _ (M a ha),X,Y,fun {H' es' p f} k1 B r x v t q=>?_⟩
   obtain ⟨o,P,U,G⟩:=Z k1 B r x v t fun a ha=>(q a ha).imp id fun w z=>w (Fk _ z)
   have T:Rf K H' d y F:=J.mono (fun c g u e=>k1 c u (fun z=>n c g b O z) e) fun c u e C=>k1 c u (fun z=>r u (by rw[<- z];exact e) C) e
   refine⟨F++o,⟨y,ys,F,o,rfl,rfl,T,P⟩,Ow.mpr ⟨n1,U,fun a ha c g z=>?_⟩,fun a ha=>?_⟩
   .subst z
    rcases G a g with w|w
    .exact n a ha a w rfl
    .rcases q a w with w|w
     .exact n a ha a (M a w) rfl
     .exact w (Oq _ ha)
   .rcases Oj.mp ha with w|w
    .exact .inl (Oq _ w)
    .exact (G a w).imp (Fk _) id
theorem mP(o:Ok K B0 Γ fps δ σ H)(hi:i∈Γ)(e:δ[i]?=some (some (.lst ds)))(I:ds[j]?=some (.lst es)) :
  ∃a xs b ys h,σ[i]?=some (some (.ref a))/\H a=some (.lst xs)/\xs.length=ds.length/\xs[j]?=some (.ref b)/\H b=some (.lst ys)/\Rfs K H es ys h/\h.Nodup/\b∉h/\(∀a∈h,a∈fps i)/\b∈fps i /\
   ∀{q:List V}{m:List Addr},Rfs K H es' q m->m.Nodup->b∉m->(∀c∈m,Mu H c)->(∀c∈m,c∈h\/(B0 c=none/\∀j,c∉fps j))->∃n,Ok K B0 Γ n (δ.set i (some (.lst (ds.set j (.lst es'))))) σ (upd H b (.lst q)):=by
 obtain ⟨a,xs,U,B,t,g,y⟩:=o.z7 e
 have E:=o.own i hi
 rw[g] at E
 obtain ⟨M,C⟩:=E
 obtain ⟨na,L⟩:=Om.mp M
 obtain ⟨b,ys,h,e1,hb,G,p,v,P,R,T⟩:=y.inner L I
 refine⟨a,xs,b,ys,h,B,t,y.length,e1,hb,G,R,P,fun c f=>by rw[g];exact gV _ (v c f),by rw[g];exact gV _ p,fun {q m} r nd nb mu src=>?_⟩
 have nt:=(C b (gV _ p)).2.mx
 have Q:a≠b:=fun z=>na (by rw[z];exact p)
 obtain ⟨x,F,O,s⟩:=T (H':=upd H b (.lst q)) (fun c u f e=>by rw[au f];exact e) aq nt (r.upd nb nt) nd nb fun c f=>(src c f).imp id fun w z=>w.2 i (by rw[g];exact gV _ z)
 have J:a∉x:=fun z=>by
  rcases s a z with w|w
  .exact na w
  .rcases src a w with w|w
   .exact na (v a w)
   .exact w.2 i (by rw[g];exact k0)
 refine⟨_,o.write hi (fp':=a::x) B ⟨a,xs,x,rfl,by rw[au Q];exact t,rfl,F⟩ (Om.mpr ⟨J,O⟩) (fun c f=>Mu.upd ?_ (.inl ⟨_,rfl⟩)) (fun c f=>?_) ?_⟩
 .rcases KE.mp f with w|w
  .subst w;exact .inl ⟨xs,t⟩
  .rcases s c w with w|w
   .exact (C c (gV _ w)).2
   .exact mu c w
 .rw[g]
  rcases KE.mp f with w|w
  .subst w;exact .inl k0
  .rcases s c w with w|w
   .exact .inl (gV _ w)
   .rcases src c w with w|w
    .exact .inl (gV _ (v c w))
    .exact .inr w
 .rw[g];exact uL (gV _ p)
def qz(o:Option D)(P:List D->Prop):Prop:=match o with|some (.lst es)=>P es|_=>False
theorem lA(h:qz o P):∃es,o=some (.lst es)/\P es:=by
 unfold qz at h;split at h
 .exact⟨_,rfl,h⟩
 .exact h.elim
def sP(i:Nat)(h d1 d2:DE)(E:aZ)(δ:Dl):Prop:=h δ fun x=>i6 δ i fun ds=>d1 δ fun k=>asI [k] fun m=>qz (atI ds m) fun es=>d2 δ fun f=>asI [f] fun c=>match ixN ds.length m,ixN es.length c with|some j,some g=>E.nx (δ.set i (some (.lst (ds.set j (.lst (es.set g x))))))|_,_=>False
theorem iJ(i:Nat)(O:EM K Γ [] te de)(Q:ER K Γ t1 d1)(P:ER K Γ t2 d2)(hi:i∈Γ:=by decide):ST K ρ Γr Γl (j3 te (BE (tOp (x9 K) (bR i) t1) t2 yJ)) Γ Γ (sP i de d1 d2):=by
 intro B0 Dn E fps δ σ H k o h
 refine O.run o (O.mono _ _ _ (fun x z v H1 fp s r n=>?_) h)
 obtain ⟨ds,e,z⟩:=fF z
 obtain ⟨a0,xs0,fq0,F,_⟩:=(o.same s).z7 e
 refine⟨.ref a0,F,Q.run (o.same s) (Q.mono _ _ _ (fun y z w H2 u r2=>?_) z)⟩
 obtain ⟨m,em,t⟩:=bF z
 subst em
 obtain ⟨es,f,t⟩:=lA t
 cases ejj:ixN ds.length m with
 |none=>unfold atI at f;rw[ejj] at f;cases f
 |some j =>
  have B:=(o.same s).same u
  have X6:ds[j]?=some (.lst es):=by unfold atI at f;rw[ejj] at f;exact f
  obtain ⟨a,xs,b,ys,fe,e1,e2,e3,e4,e5,e6,e7,e8,e9,_,KK⟩:=mP (es':=[]) B hi e X6
  rw[F] at e1;cases e1
  refine⟨a0,xs,m,.ref b,rfl,r2.int,.inl (.inl e2),by unfold atI;rw[e3,ejj];exact e4,P.run B (P.mono _ _ _ (fun y2 z w2 H3 q r3=>?_) t)⟩
  obtain ⟨L,I,g⟩:=bF z
  subst I
  rw[ejj] at g
  cases ej2:ixN es.length L with
  |none=>rw[ej2] at g;exact g.elim
  |some M =>
   rw[ej2] at g
   have J:=B.same q
   obtain ⟨a',QT,b',RD,Rr,Z,Y,f3,X,f5,U,f7,f8,T,G,KK⟩:=mP (es':=es.set M x) J hi e X6
   rw[F] at Z;cases Z
   rw[q.st _ _ e2 trivial] at Y;cases Y
   rw[e4] at X;cases X
   have r4:=r.same (u.trans q)
   have src:∀c∈fp,B0 c=none/\∀j,c∉fps j:=fun a ha=>⟨o.b0.free (n.fresh a ha),fun j z=>o.dom z (n.fresh a ha)⟩
   obtain ⟨Rk,r',Sq,C⟩:=Rfs.set r4 n.nd U f7 (fun c p z=>(src c p).2 i (T c z)) (Ht ej2)
   have Z8:∀c∈Rk,Mu H3 c:=fun c p=>by
    rcases C c p with w|w
    .exact ((J.own i hi).2 c (T c w)).2
    .exact (n.mu c w).same (u.trans q)
   obtain ⟨R,o'⟩:=KK r' Sq (fun z=>(C b z).elim f8 fun w=>(src b w).2 i G) Z8 (fun c p=>(C c p).imp id fun w=>src c w)
   exact⟨b,RD,L,M,rfl,r3.int,f5,by rw[U.length];exact ej2,k.nx o' g⟩
def cutD(ds:List D)(lo hi:Option Int):List D:=(ds.drop (HT.sIx ds.length 0 lo)).take (HT.sIx ds.length ds.length hi - HT.sIx ds.length 0 lo)
abbrev DO:=Dl->(Option Int->Prop)->Prop
structure OR(K:aae)(Γ:aad)(t:TO)(d:DO):Prop where
 mono:∀δ (P P':Option Int->Prop),(∀x,P x->P' x)->d δ P->d δ P'
 run:∀{B0 fps δ σ H Q},Ok K B0 Γ fps δ σ H->d δ (fun x=>∀H',Same H H'->Q x H')->t σ H Q
def uU(c:Dl)(P:Option Int->Prop):Prop:=P none
def Ek(d:DE)(δ:Dl)(P:Option Int->Prop):Prop:=d δ fun x=>asI [x] fun i=>P (some i)
theorem or_none:OR K Γ Fi uU:=⟨fun _ _ _ k h=>k _ h,fun {_ _ _ _ H _} o q=>q H (Same.refl H)⟩
theorem or_some(h:ER K Γ te de):OR K Γ (LI te) (Ek de):=⟨fun δ P c k q=>h.mono _ _ _ (fun x z=>by obtain ⟨j,rfl,z⟩:=bF z;exact k _ z) q,
 fun o q=>h.run o (h.mono _ _ _ (fun x z v H' s r=>by obtain ⟨j,rfl,z⟩:=bF z;exact⟨j,r.int,z H' s⟩) q)⟩
def vSl(f:DE)(dl c:DO)(δ:Dl)(P:DK):Prop:=f δ fun x=>dl δ fun l=>c δ fun u=>asL x fun ds=>ds.all D.ax=true/\P (.lst (cutD ds l u))
theorem JW:FZ (ds.map D.toV) lo hi=(cutD ds lo hi).map D.toV:=by
 unfold FZ cutD
 rw[dz,QJ,Qt]
theorem Jk(h:ds.all D.ax=true):(cutD ds lo hi).all D.ax=true:=by
 unfold cutD
 rw[OP] at h ⊢
 exact fun x c=>h x (List.mem_of_mem_drop (List.mem_of_mem_take c))
theorem v7(m:ER K Γ te de)(i:OR K Γ tl dl)(j:OR K Γ th dh):EM K Γ [] (tSl (LS K) te tl th) (vSl de dl dh) :=
 ⟨fun δ P B k h=>m.mono _ _ _ (fun x z=>i.mono _ _ _ (fun l z=>j.mono _ _ _ (fun u z=>by obtain ⟨ds,e,z⟩:=bq z;exact gh e ⟨z.1,k _ z.2⟩) z) z) h,
 fun {B0 fps δ σ H Q} o h=>m.run o (m.mono _ _ _ (fun x z v E f s=>i.run (o.same f) (i.mono _ _ _ (fun l z C c=>j.run ((o.same f).same c) (j.mono _ _ _ (fun u z q g=>by
  obtain ⟨ds,e,z⟩:=bq z
  obtain ⟨a,xs,y,rfl,t,hr⟩:=(s.same (c.trans g)).seq e
  obtain ⟨rfl,rfl⟩:=hr.gS z.1
  refine⟨a,_,rfl,t,fun p n=>?_⟩
  rw[JW]
  have r:Same q (upd q p (.lst ((cutD ds l u).map D.toV))):=Same.gQ n
  refine z.2 _ _ [p] (((f.trans c).trans g).trans r) ⟨p,_,[],rfl,aq,rfl,Rfs.qr (Jk z.1)⟩ ⟨by simp,fun b hb=>?_,fun b hb=>?_⟩
  .cases mo.mp hb;exact .inl ⟨_,aq⟩
  .cases mo.mp hb;exact .inl (((f.trans c).trans g).free n)) z)) z)) h)⟩
def G6(x:D)(y:D)(P:DK):Prop:=match x,y with|.lst a,.lst b=>(a.all D.ax=true/\b.all D.ax=true/\a.length+b.length<=1000)/\P (.lst (a++b))|_,_=>False
theorem Mq(h:ds.all D.ax=true)(c:H p=none):Same H (upd H p (.lst (ds.map D.toV)))/\Rf K (upd H p (.lst (ds.map D.toV))) (.lst ds) (.ref p) [p]/\Nw H (upd H p (.lst (ds.map D.toV))) nf [] [p] :=
 ⟨Same.gQ c,⟨p,_,[],rfl,aq,rfl,Rfs.qr h⟩,⟨by simp,fun b hb=>by cases mo.mp hb;exact .inl ⟨_,aq⟩,fun b hb=>by cases mo.mp hb;exact .inl c⟩⟩
set_option tactic.hygienic true in
theorem E8:OpV K Kn G6:=⟨fun x y P P' k h=>by unfold G6 at h ⊢;revert h;split<;>first|exact fun h=>⟨h.1,k _ h.2⟩|exact id,fun {H x y v w Q} r1 r2 h=>by
 unfold G6 at h
 split at h
 .rename_i a b
  obtain ⟨⟨s1,s2,hl⟩,h⟩:=h
  obtain ⟨f1,l1,xs,q1,rfl,e1,_,TL⟩:=r1
  obtain ⟨f2,l2,ys,q2,rfl,e2,_,R0⟩:=r2
  obtain ⟨rfl,_⟩:=TL.gS s1
  obtain ⟨rfl,_⟩:=R0.gS s2
  refine⟨l1,l2,_,_,rfl,rfl,e1,e2,by rw[dz,dz];exact fA hl,fun p hp=>?_⟩
  rw[<- Ov]
  obtain ⟨n1,n2,n3⟩:=Mq (K:=K) (ds:=a++b) (by rw[List.all_append,s1,s2];rfl) hp
  exact h _ _ _ n1 n2 n3
 .exact h.elim⟩
def xI(xs:List D)(k:Nat):List D:=(List.replicate k xs).flatten
def JJ(x:D)(y:D)(P:DK):Prop:=match x,y with|.lst a,.int k=>(a.all D.ax=true/\(-(2 ^ 63)<=k/\k<2 ^ 63)/\a.length*k.toNat<=1000)/\P (.lst (xI a k.toNat))|_,_=>False
set_option tactic.hygienic true in
theorem DQ:OpV K Nt JJ:=⟨fun x y P P' k h=>by unfold JJ at h ⊢;revert h;split<;>first|exact fun h=>⟨h.1,k _ h.2⟩|exact id,fun {H x y v w Q} r1 r2 h=>by
 unfold JJ at h
 split at h
 .rename_i a n
  obtain ⟨⟨s1,⟨b1,b2⟩,hl⟩,h⟩:=h
  obtain ⟨f1,l1,xs,q1,rfl,e1,_,TL⟩:=r1
  obtain ⟨rfl,_⟩:=TL.gS s1
  refine⟨l1,n,_,rfl,r2.int,e1,b1,b2,by rw[dz];exact fA hl,fun p hp=>?_⟩
  have:(List.replicate n.toNat (a.map D.toV)).flatten=(xI a n.toNat).map D.toV:=by unfold xI;rw[List.map_flatten,List.map_replicate]
  rw[this]
  obtain ⟨n1,n2,n3⟩:=Mq (K:=K) (ds:=xI a n.toNat) (by
   rw[OP] at s1 ⊢
   intro x hx
   unfold xI at hx
   obtain ⟨l,h1,h2⟩:=List.mem_flatten.mp hx
   rw[(List.mem_replicate.mp h1).2] at h2
   exact s1 x h2) hp
  exact h _ _ _ n1 n2 n3
 .exact h.elim⟩
def inD(x:D)(ds:List D):Bool:=inV x.toV (ds.map D.toV)
def vIn(c:Bool)(x:D)(y:D)(P:DK):Prop:=x.ax=true/\asL y fun ds=>ds.all D.ax=true/\P (.bl (if c then !inD x ds else inD x ds))
theorem jm{d:D}(h:d.ax=true):gR d.toV=true:=by cases d<;>first|rfl|cases h
theorem NO:OpV K (rIn K QD) (vIn QD):=⟨fun x y P p k h=>⟨h.1,by obtain ⟨ds,e,z⟩:=bq h.2;exact gh e ⟨z.1,k _ z.2⟩⟩,fun {H x y v w Q} c j h=>by
 obtain ⟨i,h⟩:=h
 obtain ⟨ds,e,g,h⟩:=bq h
 obtain ⟨o,c⟩:=c
 obtain ⟨rfl,_⟩:=c.ax i
 obtain ⟨a,xs,n,rfl,f,hr⟩:=j.seq e
 obtain ⟨rfl,_⟩:=hr.gS g
 refine⟨a,_,rfl,.inl f,jm i,?_,h _ H [] (Same.refl H) ⟨rfl,rfl⟩ Nw.nil⟩
 rw[Qb,OP]
 rw[OP] at g
 exact fun y m=>jm (g y m)⟩
def zS(xs:List D)(P:DK):Prop:=match xs with|[x]=>(match x with|.tup ds=>P (.int ds.length)|x=>asL x fun ds=>P (.int ds.length))|_=>False
theorem Rps.one(h:Rps K H [x] vs):∃v,vs=[v]/\Rp K H x v:=by
 obtain ⟨fp,y,r,f,g,rfl,_,c,⟨rfl,_⟩⟩:=h
 exact⟨y,rfl,f,c⟩
theorem Hk:mz K (fun xs H Q=>∃p ys,xs=[.ref p]/\(SqL K H p ys\/SqT K H p ys)/\Q (.int ys.length) H) zS:=⟨fun xs P i k h=>by
  unfold zS at h ⊢
  revert h
  split
  .split
   .exact fun h=>k _ h
   .exact fun h=>by obtain ⟨ds,e,z⟩:=bq h;exact gh e (k _ z)
  .exact id,
 fun {H xs vs Q} r h=>by
  unfold zS at h
  split at h
  .obtain ⟨v,rfl,f⟩:=r.one
   split at h
   .obtain ⟨a,ys,g,rfl,c,hr⟩:=f.tup
    refine⟨a,ys,rfl,.inr c,?_⟩
    rw[hr.length]
    exact h _ H [] (Same.refl H) ⟨rfl,rfl⟩ Nw.nil
   .obtain ⟨ds,e,h⟩:=bq h
    obtain ⟨a,ys,g,rfl,c,hr⟩:=f.seq e
    refine⟨a,ys,rfl,.inl c,?_⟩
    rw[hr.length]
    exact h _ H [] (Same.refl H) ⟨rfl,rfl⟩ Nw.nil
  .exact h.elim⟩
theorem Ie:zS [.lst ds] P↔P (.int ds.length):=Iff.rfl
theorem Hl:zS [.scr ds] P↔P (.int ds.length):=by
 show P (.int ((ds.map D.int).length:Nat))↔_
 rw[dz]
def kQ:List D->Option aab
 |[]=>some []
 |.int i::ds=>(kQ ds).map (i::·)
 |_=>none
theorem lM:∀{ns:aab},kQ (ns.map D.int)=some ns
 |[]=>rfl
 |n::ns=>by rw[Oi,kQ,lM];rfl
theorem yH:∀{ds:List D}{ns:aab},kQ ds=some ns->ds=ns.map D.int
 |[],ns,h=>by cases h;rfl
 |.int i::ds,ns,h=>by
  rw[kQ] at h
  cases e:kQ ds with
  |none=>rw[e] at h;cases h
  |some c=>rw[e] at h;cases h;rw[yH e];rfl
 |.non::_,_,h=>by cases h
 |.bl _::_,_,h=>by cases h
 |.str _::_,_,h=>by cases h
 |.lst _::_,_,h=>by cases h
 |.tup _::_,_,h=>by cases h
 |.dic _::_,_,h=>by cases h
 |.dit _::_,_,h=>by cases h
 |.scr _::_,_,h=>by cases h
theorem Rfs.wI{H:Hp}{ns:aab}{vs:List V}{fp:List Addr}(h:Rfs K H (ns.map D.int) vs fp):vs=ns.map V.int:=by
 have c:(ns.map D.int).all D.ax=true:=by rw[Qb,OP];exact fun _ _=>rfl
 rw[(h.gS c).1,OB]
 rfl
def AU(x:D)(P:aab->Prop):Prop:=asL x fun ds=>match kQ ds with|some ns=>P ns|none=>False
theorem eG(h:AU x P):∃ns,x.items=some (ns.map D.int)/\P ns:=by
 obtain ⟨ds,e,h⟩:=bq h
 cases q:kQ ds with
 |none=>rw[q] at h;exact h.elim
 |some ns=>rw[q] at h;rw[yH q] at e;exact⟨ns,e,h⟩
theorem rS(e:x.items=some (ns.map D.int))(h:P ns):AU x P:=by
 refine gh e ?_
 rw[lM];exact h
def Hn(xs:List D)(P:DK):Prop:=match xs with|[x]=>AU x fun ns=>P (.int ns.sum)|_=>False
theorem mZ:mz K (fun xs H Q=>∃(a:Addr) (ns:aab),xs=[.ref a]/\SqL K H a (ns.map V.int)/\Q (.int ns.sum) H) Hn:=⟨fun xs P i k h=>by
  unfold Hn at h ⊢
  revert h
  split
  .exact fun h=>by obtain ⟨ns,e,z⟩:=eG h;exact rS e (k _ z)
  .exact id,
 fun {H xs vs Q} r h=>by
  unfold Hn at h
  split at h
  .obtain ⟨v,rfl,f⟩:=r.one
   obtain ⟨ns,e,h⟩:=eG h
   obtain ⟨a,ys,g,rfl,c,hr⟩:=f.seq e
   rw[hr.wI] at c
   exact⟨a,ns,rfl,c,h _ H [] (Same.refl H) ⟨rfl,rfl⟩ Nw.nil⟩
  .exact h.elim⟩
def yu(xs:List D)(P:DK):Prop:=match xs with|[x]=>asL x fun ds=>ds.all D.ax=true/\P (.lst ds)|_=>False
theorem fh:mz K (fun xs H Q=>∃p ys,xs=[.ref p]/\(SqL K H p ys\/SqT K H p ys)/\∀l,H l=none->Q (.ref l) (upd H l (.lst ys))) yu:=⟨fun xs P n k h=>by
  unfold yu at h ⊢
  revert h
  split
  .exact fun h=>by obtain ⟨ds,e,z⟩:=bq h;exact gh e ⟨z.1,k _ z.2⟩
  .exact id,
 fun {H xs vs Q} r h=>by
  unfold yu at h
  split at h
  .obtain ⟨v,rfl,f⟩:=r.one
   obtain ⟨ds,e,c,h⟩:=bq h
   obtain ⟨a,ys,m,rfl,i,hr⟩:=f.seq e
   obtain ⟨rfl,_⟩:=hr.gS c
   refine⟨a,_,rfl,.inl i,fun l j=>?_⟩
   obtain ⟨n1,n2,g⟩:=Mq (K:=K) c j
   exact h _ _ _ n1 n2 g
  .exact h.elim⟩
end
end L3
namespace L3
open PySem L2
open PyProof.Rows (Ordered)
section
variable {K:aae}{Γ:aad}{te ta tb:TE}{de da db:DE}
theorem aK(hi:IT K [] wi di)(c:GT K [] g dg)(f:EM K [] [] te de):EM K Γ [] (sQ wi g te k idx) (mD di dg Gg de k idx):=by
 rw[sR];exact j8 hi c LW f
def D.tyn:D->Option String
 |.non=>some "NoneType"|.bl _=>some "bool"|.int _=>some "int"|.str _=>some "str"|.lst _=>some "list"|.tup _=>some "tuple"|.dic _=>some "dict"|.dit _=>some "dict"|.scr _=>none|.pin _ _=>none|.mem _=>none|.raw _=>none|.ins _ _ _=>none
theorem Rp.ty(h:Rp K H d v)(e:d.tyn=some n):oN K H v (.type n):=by
 obtain ⟨fp,h⟩:=h
 cases d with
 |non=>cases e;obtain ⟨rfl,_⟩:=h;exact .non
 |bl b=>cases e;obtain ⟨rfl,_⟩:=h;exact .bl _
 |int b=>cases e;obtain ⟨rfl,_⟩:=h;exact .int _
 |str b=>cases e;obtain ⟨rfl,_⟩:=h;exact .str _
 |lst ds=>cases e;obtain ⟨a,xs,g,rfl,c,_⟩:=h;exact .lst c
 |tup ds=>cases e;obtain ⟨a,xs,rfl,c,_⟩:=h;exact .tup c
 |dic ds=>cases e;obtain ⟨a,rfl,c,_⟩:=h;exact .dK c
 |dit ds=>cases e;obtain ⟨a,rfl,c,_⟩:=h;exact .dT c
 |scr ns=>cases e
 |pin a d=>cases e
 |mem f=>cases e
 |raw w=>cases e
 |ins C ns ds=>cases e
def isB(m n:String):Bool:=m == n || (m == "bool" && n == "int")
def BN(n:String):Prop:=∀(K:aae) (d:D) (m:String),d.tyn=some m->PySem.W.kitOne K (.type m) (.type n)=some (isB m n)
theorem Em:BN "int":=fun K d m e=>by cases d<;>cases e<;>first|exact rF|with_unfolding_all rfl
theorem Bz:BN "bool":=fun K d m e=>by cases d<;>cases e<;>first|exact rF|with_unfolding_all rfl
theorem wX:BN "list":=fun K d m e=>by cases d<;>cases e<;>first|exact rF|with_unfolding_all rfl
theorem kit_tuple:BN "tuple":=fun K d m e=>by cases d<;>cases e<;>first|exact rF|with_unfolding_all rfl
def vIs(n:String)(c:DE)(δ:Dl)(P:DK):Prop:=c δ fun x=>match x.tyn with|some m=>P (.bl (isB m n))|none=>False
set_option tactic.hygienic true in
theorem fJ(hk:BN n)(ha:ER K Γ ta da):EM K Γ [] (tCB (fun xs H Q=>∃x n t b,xs=[x,.ty n]/\oN K H x t/\PySem.W.kitOne K t (.type n)=some b/\Q (.bl b) H) (bx ta (bx (tC (.ty n)) gT))) (vIs n da) :=
 ⟨fun δ P P' k h=>ha.mono _ _ _ (fun x z=>by
   revert z;split
   .exact fun z=>k _ z
   .exact id) h,
 fun {B0 fps δ σ H Q} o h=>ha.run o (ha.mono _ _ _ (fun x z v H1 s1 r1=>by
   split at z
   .rename_i m e
    exact⟨v,n,_,_,rfl,r1.ty e,hk K x m e,z _ H1 [] s1 ⟨rfl,rfl⟩ Nw.nil⟩
   .exact z.elim) h)⟩
mutual
def D.old:D->Option L2.D
 |.non=>some .non|.bl b=>some (.bl b)|.int i=>some (.int i)|.str x=>some (.str x)
 |.lst ds=>(D.olds ds).map L2.D.lst|.tup ds=>(D.olds ds).map L2.D.tup
 |.dic _=>none|.dit _=>none|.scr _=>none|.pin _ _=>none|.mem _=>none|.raw _=>none|.ins _ _ _=>none
def D.olds:List D->Option (List L2.D)
 |[]=>some []
 |d::ds=>match D.old d,D.olds ds with|some x,some xs=>some (x::xs)|_,_=>none
end
mutual
theorem Rf.old{H:Hp}:∀{d:D}{d':L2.D}{v:V}{fp:List Addr},Rf K H d v fp->d.old=some d'->L2.Rf H d' v fp
 |.non,d',v,fp,h,e=>by rw[D.old] at e;cases e;rw[L2.Rf];exact h
 |.bl _,d',v,fp,h,e=>by rw[D.old] at e;cases e;rw[L2.Rf];exact h
 |.int _,d',v,fp,h,e=>by rw[D.old] at e;cases e;rw[L2.Rf];exact h
 |.str _,d',v,fp,h,e=>by rw[D.old] at e;cases e;rw[L2.Rf];exact h
 |.lst ds,d',v,fp,h,e=>by
  rw[D.old] at e
  cases q:D.olds ds with
  |none=>rw[q] at e;cases e
  |some es =>
   rw[q] at e;cases e
   obtain ⟨a,xs,i,e1,e2,n,h⟩:=h
   rw[L2.Rf]
   exact⟨a,xs,i,e1,e2,n,Rfs.old h q⟩
 |.tup ds,d',v,fp,h,e=>by
  rw[D.old] at e
  cases q:D.olds ds with
  |none=>rw[q] at e;cases e
  |some es =>
   rw[q] at e;cases e
   obtain ⟨a,xs,e1,e2,h⟩:=h
   rw[L2.Rf]
   exact⟨a,xs,e1,e2,Rfs.old h q⟩
 |.dic _,d',v,fp,h,e=>by rw[D.old] at e;cases e
 |.dit _,d',v,fp,h,e=>by rw[D.old] at e;cases e
 |.scr _,d',v,fp,h,e=>by rw[D.old] at e;cases e
 |.pin _ _,d',v,fp,h,e=>by rw[D.old] at e;cases e
 |.mem _,d',v,fp,h,e=>by rw[D.old] at e;cases e
 |.raw _,d',v,fp,h,e=>by rw[D.old] at e;cases e
 |.ins _ _ _,d',v,fp,h,e=>by rw[D.old] at e;cases e
theorem Rfs.old{H:Hp}:∀{ds:List D}{c:List L2.D}{vs:List V}{fp:List Addr},Rfs K H ds vs fp->D.olds ds=some c->L2.Rfs H c vs fp
 |[],c,vs,fp,h,e=>by rw[D.olds] at e;cases e;rw[L2.Rfs];exact h
 |d::ds,c,vs,fp,h,e=>by
  rw[D.olds] at e
  obtain ⟨x,r,m,j,e1,e2,g,f⟩:=h
  cases q1:d.old with
  |none=>rw[q1] at e;simp at e
  |some o =>
   cases q2:D.olds ds with
   |none=>rw[q1,q2] at e;simp at e
   |some p =>
    rw[q1,q2] at e
    cases e
    rw[L2.Rfs]
    exact⟨x,r,m,j,e1,e2,Rf.old g q1,Rfs.old f q2⟩
end
abbrev dI(xs:aab):D:=.lst (xs.map D.int)
abbrev dT(t:aaa):D:=.lst (t.map dI)
def II(c:Bool)(x:D)(y:D)(P:DK):Prop:=∃a b,x.old=some (.lst a)/\y.old=some (.lst b)/\L2.D.dC a=true/\L2.D.dC b=true/\L2.D.fj a<=60/\P (.bl (if c then !L2.D.ma a b else L2.D.ma a b))
theorem Cj:OpV K (Jb QD) (II QD):=⟨fun x y P q k h=>by
  obtain ⟨a,b,j,i,g,f,c,h⟩:=h
  exact⟨a,b,j,i,g,f,c,k _ h⟩,
 fun {H x y v w Q} ⟨p,n⟩ ⟨o,m⟩ h=>by
  obtain ⟨a,b,j,i,g,f,c,h⟩:=h
  exact⟨a,b,⟨p,n.old j⟩,⟨o,m.old i⟩,g,f,c,h _ H [] (Same.refl H) ⟨rfl,rfl⟩ Nw.nil⟩⟩
theorem Lj:OpV K (Jb false) (II false):=Cj
theorem oY:OpV K (Jb true) (II true):=Cj
theorem yM:∀{ns:aab},D.olds (ns.map D.int)=some (ns.map L2.D.int)
 |[]=>by rw[QH,D.olds];rfl
 |n::ns=>by rw[Oi,D.olds,yM,D.old];rfl
theorem xB:(dI ns).old=some (L2.dI ns):=by rw[D.old,yM];rfl
theorem yY:∀{t:aaa},D.olds (t.map dI)=some (t.map L2.dI)
 |[]=>by rw[QH,D.olds];rfl
 |n::ns=>by rw[Oi,D.olds,yY,xB];rfl
theorem Ay:(dT t).old=some (L2.dT t):=by rw[D.old,yY];rfl
theorem c8(h:P (.bl (if QD then !decide (xs=ys) else decide (xs=ys)))):II QD (dI xs) (dI ys) P :=
 ⟨_,_,xB,xB,D.fI _,D.fI _,by rw[D.kf];omega,by rw[D.oI];exact h⟩
theorem tq(h:P (.bl (if QD then !decide (xs=ys) else decide (xs=ys)))):II QD (dT xs) (dT ys) P :=
 ⟨_,_,Ay,Ay,D.iL _,D.iL _,OC (D.nC _) (),by rw[D.yB];exact h⟩
def lQ(b:Bool)(xs:List D)(P:DK):Prop:=match xs with|[x]=>AU x fun ns=>ns.length<64/\∀c:aab,c.Perm ns->Ordered b c->P (dI c)|_=>False
theorem Rf.ofInts(e:H p=some (.lst (ms.map V.int))):Rf K H (dI ms) (.ref p) [p]:=⟨p,_,[],rfl,e,rfl,Rfs.ofInts⟩
theorem Nw.one(h:H p=none)(e:H' p=some (.lst xs)):Nw H H' nf [] [p]:=⟨by simp,fun b hb=>by cases mo.mp hb;exact .inl ⟨_,e⟩,fun b hb=>by cases mo.mp hb;exact .inl h⟩
theorem AZ(hr:AR K Γ u dr):EM K Γ [] (Nd (fun xs m H Q=>∃(a:Addr) (ns:aab) (b:Bool),xs=[.ref a]/\m=[.bl b]/\SqL K H a (ns.map V.int)/\ns.length<64 /\
  ∀(l:Addr) (c:aab),H l=none->c.Perm ns->Ordered b c->Q (.ref l) (upd H l (.lst (c.map V.int)))) u (bx (tC (.bl b)) gT)) (mE (lQ b) dr):=by
 have mono:aB (lQ b):=fun xs P x k h=>by
  unfold lQ at h ⊢
  revert h
  split
  .exact fun h=>by obtain ⟨ns,e,z⟩:=eG h;exact rS e ⟨z.1,fun c a b=>k _ (z.2 c a b)⟩
  .exact id
 refine⟨fun δ P x k h=>hr.mono _ _ _ (fun y z=>mono _ _ _ k z) h,fun {B0 fps δ B H Q} o q=>hr.run o (hr.mono _ _ _ (fun xs z vs j f p=>?_) q)⟩
 unfold lQ at z
 split at z
 .obtain ⟨v,rfl,r⟩:=p.one
  obtain ⟨ns,e,z⟩:=eG z
  obtain ⟨a,ys,C,rfl,g,hr⟩:=r.seq e
  rw[hr.wI] at g
  refine⟨a,ns,b,rfl,rfl,g,z.1,fun l c i s t=>?_⟩
  have n:Same j (upd j l (.lst (c.map V.int))):=Same.gQ i
  exact z.2 c s t _ _ [l] (f.trans n) (Rf.ofInts aq) ((Nw.one i aq).any.later f)
 .exact z.elim
def D4(xs:List D)(P:DK):Prop:=IH xs fun i j=>P (.int (if j>i then j else i))
theorem Dc:mz K (fun xs H Q=>∃i j,xs=[.int i,.int j]/\Q (.int (if j>i then j else i)) H) D4:=⟨fun xs P c k h=>by obtain ⟨i,j,rfl,z⟩:=qV h;exact k _ z,
 fun {H xs vs Q} r h=>by obtain ⟨i,j,rfl,z⟩:=qV h;exact⟨i,j,r.ints2,z _ H [] (Same.refl H) ⟨rfl,rfl⟩ Nw.nil⟩⟩
def D.ui:D->Bool|.non=>true|.raw w=>decide (w=.non)|_=>false
theorem Rp.Ec(h:Rp K H d v):decide (v=.non)=d.ui:=by
 obtain ⟨fp,h⟩:=h
 cases d with
 |non=>obtain ⟨rfl,_⟩:=h;rfl
 |bl b=>obtain ⟨rfl,_⟩:=h;rfl
 |int b=>obtain ⟨rfl,_⟩:=h;rfl
 |str b=>obtain ⟨rfl,_⟩:=h;rfl
 |lst ds=>obtain ⟨a,xs,c,rfl,_⟩:=h;rfl
 |tup ds=>obtain ⟨a,xs,rfl,_⟩:=h;rfl
 |dic ds=>obtain ⟨a,rfl,_⟩:=h;rfl
 |dit ds=>obtain ⟨a,rfl,_⟩:=h;rfl
 |scr ns=>obtain ⟨a,rfl,_⟩:=h;rfl
 |pin a d=>obtain ⟨rfl,_⟩:=h;rfl
 |mem f=>obtain ⟨a,rfl,_⟩:=h;rfl
 |raw w=>obtain ⟨rfl,_⟩:=h;rfl
 |ins C ns ds=>obtain ⟨a,dx,xs,c,rfl,_⟩:=h;rfl
def BF(c:Bool)(x:D)(y:D)(P:DK):Prop:=match y with|.non=>P (.bl (if c then !x.ui else x.ui))|_=>False
theorem yz:∀x y (P c:DK),(∀z,P z->c z)->BF QD x y P->BF QD x y c:=fun x y P c k h=>by
 unfold BF at h ⊢;revert h;split<;>first|exact k _|exact id
theorem BC:OpV K (fun x y H Q=>y=.non/\Q (.bl (decide (x=.non))) H) (BF false):=⟨yz,fun {H x y v w Q} f c h=>by
 unfold BF at h
 split at h
 .refine⟨c.choose_spec.1,?_⟩
  rw[f.Ec];exact h _ H [] (Same.refl H) ⟨rfl,rfl⟩ Nw.nil
 .exact h.elim⟩
theorem Dj:OpV K (fun x y H Q=>y=.non/\Q (.bl (!decide (x=.non))) H) (BF true):=⟨yz,fun {H x y v w Q} f c h=>by
 unfold BF at h
 split at h
 .refine⟨c.choose_spec.1,?_⟩
  rw[f.Ec];exact h _ H [] (Same.refl H) ⟨rfl,rfl⟩ Nw.nil
 .exact h.elim⟩
def Nr(f c:DE)(δ:Dl)(P:List D->Prop):Prop:=f δ fun x=>c δ fun y=>asL x fun xs=>asL y fun ys=>xs.length=ys.length/\P ((xs.zip ys).map fun p=>.tup [p.1,p.2])
theorem L0(ha:ES K Γ ta da)(hb:ES K Γ tb db):IT K Γ (Ml K (bx ta (bx tb gT))) (Nr da db) :=
 ⟨fun δ P P' k h=>ha.mono _ _ _ (fun x z=>hb.mono _ _ _ (fun y z=>by
   obtain ⟨xs,e1,z⟩:=bq z;obtain ⟨ys,e2,z⟩:=bq z;exact gh e1 (gh e2 ⟨z.1,k _ z.2⟩)) z) h,
 fun {B0 fps δ σ H R} o h=>ha.run o (ha.mono _ _ _ (fun x z v H1 f1 Q r1 n1=>hb.run (o.same Q) (hb.mono _ _ _ (fun y z w H2 Z O T n2=>by
  obtain ⟨xs,ex,z⟩:=bq z
  obtain ⟨ys,ey,z⟩:=bq z
  have Ug:=r1.same O
  obtain ⟨a,as,fa,rfl,C,hra,aaZ⟩:=Ug.seq ex
  obtain ⟨b,bs,fb,rfl,Uo,hrb,aaY⟩:=T.seq ey
  refine⟨a,b,rfl,⟨as,C⟩,⟨bs,Uo⟩,z.2 (Itz K a b) H2 (f1++Z) (Q.trans O) (fun j hj c g=>(Oj.mp g).elim (n1 j hj c) (n2 j hj c)) fun B sB ag U=>?_⟩
  have ZI:Rf K B x (.ref a) f1:=Ug.mono (fun c g u e=>by rw[ag c (Oq _ g)];exact e) U
  have ZH:Rf K B y (.ref b) Z:=T.mono (fun c g u e=>by rw[ag c (Fk _ g)];exact e) U
  obtain ⟨a',n,fa',e1,F,U0,_⟩:=ZI.seq ex
  obtain ⟨b',q,fb',e2,G,UZ,_⟩:=ZH.seq ey
  cases e1;cases e2
  have sq:∀{c:Addr}{I:List V}{m:Hp},SqL K B c I->Same B m->SqL K m c I:=fun h f=>f.seq h
  have la:=U0.length
  have lb:=UZ.length
  have X:=z.1
  have P2:((xs.zip ys).map fun p=>D.tup [p.1,p.2]).length=xs.length:=by simp [X]
  refine⟨fun {i m} f hi=>?_,fun {i m u H4 d} f hy hd=>?_,fun {i m} f hi=>?_⟩
  .rw[P2] at hi
   exact⟨n,q,n[i]'(),q[i]'(),sq F f,sq G f,by simp [la,hi],by simp [lb,<- X,hi]⟩
  .obtain ⟨p,J,r,rfl,hp,rfl,h1,h2⟩:=hy
   have q1:=h1 n (sq F f)
   have q2:=h2 q (sq G f)
   obtain ⟨d1,Y,e1,M,_⟩:=U0.get' q1
   obtain ⟨d2,E,e2,L,_⟩:=UZ.get' q2
   have ez:(xs.zip ys)[i]?=some (d1,d2):=List.getElem?_zip_eq_some.mpr ⟨e1,e2⟩
   rw[ox,ez] at hd
   cases hd
   have s:Same m (upd m p (.tup [J,r])):=Same.gQ hp
   refine⟨s,Y++E,⟨p,_,rfl,aq,J,[r],Y,E,rfl,rfl,(M.same f).same s,r,[],E,[],rfl,(Pb _).symm,(L.same f).same s,rfl,rfl⟩,fun c g=>?_⟩
   rcases Oj.mp g with w|w
   .obtain ⟨u,t,_⟩:=M.dom c w;rw[t];intro z;cases z
   .obtain ⟨u,t,_⟩:=L.dom c w;rw[t];intro z;cases z
  .rw[P2] at hi
   exact⟨n,q,sq F f,sq G f,.inl ()⟩) z)) h)⟩
end
theorem j5(c:∀ds P,S ds P->ds.length=n)(h:spP K S vs H Q E):vs.length=n:=by
 obtain ⟨ds,⟨fp,r⟩,_,h⟩:=h
 rw[r.length];exact c _ _ h
theorem Jy(c:∀ds P,S ds P->ds.length=n)(h:spR K S vs H Q E):vs.length=n:=by
 obtain ⟨ds,⟨fp,r⟩,_,h⟩:=h
 rw[r.length];exact c _ _ h
theorem HX(I:Nat->Dl->Prop)(o:I 0 δ)
  (h:∀i d δ (N:Dl->Prop),ds[i]?=some d->I i δ->(∀c,I (i+1) c->N c)->dg d δ fun c=>db { nx:=N,ct:=N,bk:=E.nx,rt:=E.rt } c)
  (hd:∀δ,I ds.length δ->E.nx δ):i7 dg db E ds δ:=by
 have key:∀(n:Nat) (i:Nat) (δ:Dl),ds.length - i=n->i<=ds.length->I i δ->i7 dg db E (ds.drop i) δ:=by
  intro n
  induction n with
  |zero =>
   intro i δ m j f
   have:i=ds.length:=()
   subst this
   rw[P7]
   exact hd δ f
  |succ n ih =>
   intro i δ m j f
   have g:i<ds.length:=()
   rw[Ou g]
   exact h i _ δ _ (ab g) f fun c h'=>ih (i+1) c () g h'
 have:=key ds.length 0 δ () (Pd _) o
 rwa [Pf] at this
end L3
namespace L3
open PySem
open L2 hiding D Rf Rfs Rp dI dT
section
variable {di:DI}{dg:D->Dl->(Dl->Prop)->Prop}{dt:DT}{de:DE}{k:Nat}{idx:aad}{δ:Dl}{P:DK}
theorem jM{c:Type}{as:List c}{f:c->D}{p:c->Bool}{g:c->D}(n:∀R:List D->Prop,R (as.map f)->di δ R)(m:as.length<=1000)
  (hb:∀a∈as,∀R:List D->Prop,R (if p a then [g a] else [])->iY dg dt de (cO k idx δ) (f a) R) (h:P (.lst ((as.filter p).map g))):mD di dg dt de k idx δ P:=by
 refine n _ ⟨by rw[dz];exact m,?_⟩
 have key:∀(as:List c) (acc:List D),(∀a∈as,∀R:List D->Prop,R (if p a then [g a] else [])->iY dg dt de (cO k idx δ) (f a) R)->P (.lst (acc++(as.filter p).map g))->vV (iY dg dt de (cO k idx δ)) (as.map f) acc fun ys=>P (.lst ys):=by
  intro as
  induction as with
  |nil=>intro acc _ h;rw[List.filter_nil,QH,Pb] at h;exact h
  |cons a as ih =>
   intro acc hb h
   refine hb a k0 _ (ih _ (fun x j=>hb x (gV _ j)) ?_)
   by_cases i:p a=true
   .rw[if_pos i,OM];rwa [List.filter_cons_of_pos i] at h
   .rw[if_neg i,Pb];rwa [List.filter_cons_of_neg i] at h
 exact key as [] hb h
theorem fP{c:Type}{as:List c}{f:c->D}{g:c->D}(j:∀R:List D->Prop,R (as.map f)->di δ R)(i:as.length<=1000)
  (hb:∀a∈as,∀R:List D->Prop,R [g a]->iY dg dt de (cO k idx δ) (f a) R) (h:P (.lst (as.map g))):mD di dg dt de k idx δ P:=by
 refine jM (p:=fun _=>true) j i (fun a ha R h=>hb a ha R h) ?_
 rw[List.filter_eq_self.mpr (fun _ _=>rfl)]
 exact h
theorem Ge{ns:aab}{g:Int->D}(f:∀R:List D->Prop,R (ns.map D.int)->di δ R)(c:ns.length<=1000)
  (hb:∀n∈ns,∀R:List D->Prop,R [g n]->iY dg dt de (cO k idx δ) (.int n) R) (h:P (.lst (ns.map g))):mD di dg dt de k idx δ P:=fP f c hb h
theorem Cn{ns:aab}{p:Int->Bool}{g:Int->D}(f:∀R:List D->Prop,R (ns.map D.int)->di δ R)(c:ns.length<=1000)
  (hb:∀n∈ns,∀R:List D->Prop,R (if p n then [g n] else [])->iY dg dt de (cO k idx δ) (.int n) R) (h:P (.lst ((ns.filter p).map g))):mD di dg dt de k idx δ P:=jM f c hb h
theorem cL(j:∀R:List D->Prop,R (rK lo n)->di δ R)(c:n<=1000)
  (hb:∀i,i<n->∀R:List D->Prop,R [g i]->iY dg dt de (cO k idx δ) (.int (lo+(i:Int))) R) (h:P (.lst ((List.range n).map g))):mD di dg dt de k idx δ P :=
 fP (as:=List.range n) (f:=fun (k:Nat)=>D.int (lo+(k:Int))) j (by rw[Ot];exact c) (fun a ha=>hb a (OL.mp ha)) h
theorem sW(j:∀R:List D->Prop,R (rK lo n)->di δ R)(c:n<=1000)
  (hb:∀i,i<n->∀R:List D->Prop,R (if p i then [g i] else [])->iY dg dt de (cO k idx δ) (.int (lo+(i:Int))) R) (h:P (.lst (((List.range n).filter p).map g))):mD di dg dt de k idx δ P :=
 jM (as:=List.range n) (f:=fun (k:Nat)=>D.int (lo+(k:Int))) j (by rw[Ot];exact c) (fun a ha=>hb a (OL.mp ha)) h
theorem kZ{t:aaa}{g:aab->D}(f:∀R:List D->Prop,R (t.map dI)->di δ R)(c:t.length<=1000)
  (hb:∀r∈t,∀R:List D->Prop,R [g r]->iY dg dt de (cO k idx δ) (dI r) R) (h:P (.lst (t.map g))):mD di dg dt de k idx δ P:=fP f c hb h
variable {db:DS}{E:aZ}
theorem cW{h:Type}{as:List h}{f:h->D}(I:Nat->Dl->Prop)(n:I 0 δ)
  (j:∀i a δ (N:Dl->Prop),as[i]?=some a->I i δ->(∀c,I (i+1) c->N c)->dg (f a) δ fun c=>db { nx:=N,ct:=N,bk:=E.nx,rt:=E.rt } c)
  (hd:∀δ,I as.length δ->E.nx δ):i7 dg db E (as.map f) δ:=by
 refine HX I n (fun i d δ N e g m=>?_) (fun δ g=>hd δ (by rwa [dz] at g))
 rw[ox] at e
 cases q:as[i]? with
 |none=>rw[q] at e;cases e
 |some a=>rw[q] at e;cases e;exact j i a δ N q g m
theorem nR(I:Nat->Dl->Prop)(p:I 0 δ)
  (j:∀i δ (N:Dl->Prop),i<n->I i δ->(∀c,I (i+1) c->N c)->dg (.int (lo+(i:Int))) δ fun c=>db { nx:=N,ct:=N,bk:=E.nx,rt:=E.rt } c)
  (hd:∀δ,I n δ->E.nx δ):i7 dg db E (rK lo n) δ:=by
 refine cW (as:=List.range n) (f:=fun (k:Nat)=>D.int (lo+(k:Int))) I p (fun i a δ N e g m=>?_) (fun δ g=>hd δ (by rwa [Ot] at g))
 obtain ⟨o,h⟩:=oe.mp e
 rw[Qa] at h
 subst h
 exact j i δ N (by simpa using o) g m
end
theorem Ls{ns:aab}{i:Int}(c:0<=i)(h:i<ns.length):atI (ns.map D.int) i=some (.int (ns.getD i.toNat 0)):=by
 unfold atI ixN
 rw[if_pos c,dz,if_pos h]
 show (ns.map D.int)[i.toNat]?=_
 rw[ox,be]
 have:i.toNat<ns.length:=()
 rw[ab this]
 rfl
theorem bh{ns:aab}:(ns.map D.int).all D.ax=true:=by rw[Qb,OP];exact fun _ _=>rfl
theorem cB{n:Nat}{i:Int}(c:0<=i)(h:i<n):ixN n i=some i.toNat:=by unfold ixN;rw[if_pos c,if_pos h]
theorem vF{ns:aab}{j:Nat}{v:Int}:(ns.map D.int).set j (.int v)=(ns.set j v).map D.int:=(QV ..).symm
theorem Ed:ns.map D.int++[.int v]=(ns++[v]).map D.int:=by simp
theorem emod_lt{x n:Int}(h:0<n):0<=x % n/\x % n<n:=⟨Int.emod_nonneg x (),Int.emod_lt_of_pos x h⟩
section
variable {P:DK}
def asO(o:Option D)(P:DK):Prop:=match o with|some d=>P d|none=>False
theorem GW:asO (some d) P↔P d:=Iff.rfl
theorem xf(h:o=some d):asO o P↔P d:=by rw[h];rfl
theorem Ho:rf (.lst ds) (.int i) P↔asO (atI ds i) P:=Iff.rfl
theorem GA:yu [.scr ns] P↔P (dI ns):=by
 show ((ns.map D.int).all D.ax=true/\P _)↔_
 rw[bh];exact⟨fun h=>h.2,fun h=>⟨rfl,h⟩⟩
theorem Gr:Hn [dI ns] P↔P (.int ns.sum):=by
 show (match kQ (ns.map D.int) with|some ns=>P (.int ns.sum)|none=>False)↔_
 rw[lM]
theorem oH:AU (dI ns) Q↔Q ns:=by
 show (match kQ (ns.map D.int) with|some ns=>Q ns|none=>False)↔_
 rw[lM]
theorem rN(h:δ[i]?=some (some (.lst ds))):i6 δ i Q↔Q ds:=by unfold i6;rw[h]
theorem za:(D.int i).tyn=some "int":=rfl
theorem DH:(D.bl i).tyn=some "bool":=rfl
theorem zB:(D.lst i).tyn=some "list":=rfl
theorem zQ:(D.tup i).tyn=some "tuple":=rfl
theorem zo:(D.str i).tyn=some "str":=rfl
theorem AW:D.non.tyn=some "NoneType":=rfl
theorem CQ:isB "int" "int" = true:=rfl
theorem C3:isB "int" "bool" = false:=rfl
theorem Cp:isB "list" "list" = true:=rfl
theorem C5:isB "tuple" "tuple" = true:=rfl
theorem DP:isB "str" "str" = true:=rfl
theorem Cr:isB "bool" "bool" = true:=rfl
theorem Cz:isB "bool" "int" = true:=rfl
theorem DL:isB "int" "list" = false:=rfl
theorem Cv:isB "NoneType" "list" = false:=rfl
end
end L3
namespace L2
open PySem PySem.Spec PyProof.Rows
section
variable {X:Cx}{K:aae}
theorem oE(B:X.K=K)(y:X.calm=true):gG X (.builtin "min") (fun xs H Q=>∃(a:Addr) (ns:aab),xs=[.ref a]/\SqL K H a (ns.map V.int)/\0<ns.length/\∀M,M∈ns->(∀x∈ns,M<=x)->Q (.int M) H):=by
 subst B
 intro g s F H xs us Q I r h
 obtain ⟨a,ns,rfl,z,E,q⟩:=h
 obtain ⟨u,rfl,m⟩:=vals1 r
 obtain rfl:u=Value.ref a:=m
 obtain ⟨O,rv,pl,J⟩:=I.list z
 have hi:=jN rv
 obtain ⟨c,e⟩:=hi.allInts.items
 have o:s.heap.IsList a (intItems c):=by rw[<- e];exact pl.isList
 have f:ns=c.toList.map (·.1):=by rw[<- hi.numsOf,<- nums_intItems,<- e]
 have hsz:0<c.size:=by
  have i:=E;rw[f,dz,OX] at i;exact i
 refine min_intList (I.ok.hd y) o hsz fun v h' G n p=>?_
 obtain ⟨t,rfl⟩:=intItems_at n
 obtain ⟨L,C⟩:=argBest_lt (numAt c) (c.size - 1)
 refine⟨.int _,H,I.kept p,⟨t,rfl⟩,q _ ?_ fun b hb=>?_⟩
 .rw[f,numAt_eq];exact getD_mem (by rw[dz,OX];omega)
 .rw[f] at hb
  obtain ⟨j,hj,rfl⟩:=mem_getD hb
  rw[dz,OX] at hj
  rw[<- numAt_eq];exact C j ()
theorem yp(B:X.K=K)(y:X.calm=true):gG X (.builtin "max") (fun xs H Q=>∃(a:Addr) (ns:aab),xs=[.ref a]/\SqL K H a (ns.map V.int)/\0<ns.length/\∀M,M∈ns->(∀x∈ns,x<=M)->Q (.int M) H):=by
 subst B
 intro g s F H xs us Q I r h
 obtain ⟨a,ns,rfl,z,E,q⟩:=h
 obtain ⟨u,rfl,m⟩:=vals1 r
 obtain rfl:u=Value.ref a:=m
 obtain ⟨O,rv,pl,J⟩:=I.list z
 have hi:=jN rv
 obtain ⟨c,e⟩:=hi.allInts.items
 have o:s.heap.IsList a (intItems c):=by rw[<- e];exact pl.isList
 have f:ns=c.toList.map (·.1):=by rw[<- hi.numsOf,<- nums_intItems,<- e]
 have hsz:0<c.size:=by
  have i:=E;rw[f,dz,OX] at i;exact i
 refine max_intList (I.ok.hd y) o hsz fun v h' G n p=>?_
 obtain ⟨t,rfl⟩:=intItems_at n
 obtain ⟨L,C⟩:=argBest_gt (numAt c) (c.size - 1)
 refine⟨.int _,H,I.kept p,⟨t,rfl⟩,q _ ?_ fun b hb=>?_⟩
 .rw[f,numAt_eq];exact getD_mem (by rw[dz,OX];omega)
 .rw[f] at hb
  obtain ⟨j,hj,rfl⟩:=mem_getD hb
  rw[dz,OX] at hj
  rw[<- numAt_eq];exact C j ()
theorem yZ:∀{bs:List Bool}{c:List Value},Vals (bs.map V.bl) c->LSm.BoolsAre c bs
 |[],_,.nil=>.nil
 |b::bs,_,.cons r t=>by
  cases (show _=Value.bool b from r)
  exact .cons b (yZ t)
theorem Gm(t:X.K=K)(n:X.calm=true):gG X (.builtin "any") (fun xs H Q=>∃(a:Addr) (bs:List Bool),xs=[.ref a]/\SqL K H a (bs.map V.bl)/\Q (.bl (bs.any id)) H):=by
 subst t
 intro f s y H xs us Q I r h
 obtain ⟨l,bs,rfl,o,q⟩:=h
 obtain ⟨u,rfl,j⟩:=vals1 r
 obtain rfl:u=Value.ref l:=j
 obtain ⟨vs,rv,pl,C⟩:=I.list o
 have hb:=yZ rv
 have c:=pl.isList
 have x:l<s.heap.objs.size:=by obtain ⟨_,e,_⟩:=c;exact Heap.lt_size e
 refine PySem.call_any_walk (wpAny_pyIter_list c ?_)
 refine⟨s.heap.objs.size,[s.heap.objs.size,l],[s.heap.objs.size],vs.toArray.size,_,_,fun i=>(bs[i]?).getD false,rfl,Walks.list (A:=X.A.in1) (I.ok.hd n) _ l (OK x) vs.toArray,
  ⟨⟨_,Heap.get?_push_size _ rfl,rfl,rfl⟩,c.push _⟩,fun i v B E F p g=>?_,fun h' z m=>?_⟩
 .obtain ⟨b,e,rfl⟩:=hb.get i v (by simpa using p)
  simp only[e,Pn] at g
  exact wpAny_truthy_bool g
 .have e:((List.range vs.toArray.size).any fun i=>(bs[i]?).getD false)=bs.any id:=by
   rw[OG,hb.length];exact LSm.range_any bs
  rw[e]
  exact⟨.bl _,H,I.kept (LSm.kept_iter m),rfl,q⟩
def Gn(n:Nat):List V:=(List.range n).map fun (k:Nat)=>.int (k:Int)
def Bg(g:TE):TE:=fun f H Q=>g f H fun x c=>∃j:Int,x=.int j/\j<=100000/\-(2 ^ 62)<=j/\∀l,c l=none->Q (.ref l) (upd c l (.lst (Gn j.toNat)))
theorem Bj(U:X.calm=true)(R:Gl X "list")(hm:X.mg "list" = none)(Z:Gl X "range")(U7:X.mg "range" = none)(T:PE X e te)
  (C:starEach [Expr.Call (.Name "range" p2) [e] [] Sn] X.env=[(false,eval (.Call (.Name "range" p2) [e] [] Sn) X.env)]:=by rfl) (E:starEach [e] X.env=[(false,eval e X.env)]:=by rfl) :
  PE X (.Call (.Name "list" p) [.Call (.Name "range" p2) [e] [] Sn] [] pos) (Bg te):=by
 intro m s J H Q I h
 refine wpAny_Call_Name_kw (hX I R hm boot_list ?_)
 refine O2 ?_ C rfl
 rw[C]
 refine Calls.spliced_cons ?_
 refine wpAny_Call_Name_kw (hX I Z U7 boot_range ?_)
 refine O2 ?_ E rfl
 rw[E]
 refine Calls.spliced_cons (thn (T m s J H _ I h) fun v g ⟨x,H1,G,M,j,ex,hj,y,q⟩=>?_)
 subst ex
 obtain ⟨t,rfl⟩:=M
 refine Calls.spliced_nil (call_range_1 (Calls.spliced_nil ?_))
 have hn:Builtin.Range.rangeSize 0 j 1=(j.toNat:Nat):=by rw[rangeSize_one];split<;>omega
 refine call_list_range (n:=j.toNat) (I.ok.hd U) (IsRange.new ..) (small_one () () y ()) hn () fun h' L F Y P B Q5=>?_
 have hsz:∀o:Obj,(g.heap.push o).objs.size=g.heap.objs.size+1:=fun o=>Heap.size_push ..
 have k1:∀b o,g.heap.get? b=some o->h'.get? b=some o:=fun b o e=>P b o (Heap.get?_push_of_some _ e)
 have u:H1 (g.heap.objs.size+1)=none:=G.hok.fresh (Pk _)
 dsimp only at B ⊢
 rw[hsz] at B ⊢
 have SW:Vals (Gn j.toNat) F.toList:=by
  obtain ⟨a1,a2⟩:=Q5
  have key:∀(n:Nat) (f:Nat->V) (c:List Value),c.length=n->(∀i v,c[i]?=some v->RelV (f i) v)->Vals ((List.range n).map f) c:=by
   intro n
   induction n with
   |zero=>intro f c r z;cases c with|nil=>exact .nil|cons _ _=>simp at r
   |succ n ih =>
    intro f c r z
    cases c with
    |nil=>simp at r
    |cons v vs =>
     rw[List.range_succ_eq_map,Oi,OB]
     exact .cons (z 0 v rfl) (ih (f ∘ Nat.succ) vs (by simpa using r) fun i w e=>z (i+1) w (by simpa using e))
  refine key _ _ _ (by simpa using a1) fun i v e=>?_
  obtain ⟨t,O⟩:=a2 i v (by simpa using e)
  exact⟨t,by rw[O];simp⟩
 refine⟨.ref (g.heap.objs.size+1),_,G.laid (t':=L) (o:=.lst (Gn j.toNat)) k1 (Pk _) ⟨by unfold Gn;rw[dz,Ot];exact small (),F.toList,Y,SW,?_⟩,rfl,q _ u⟩
 rw[B]
end
end L2
namespace L3
open PySem
open L2 hiding D Rf Rfs Rp dI dT
section
variable {K:aae}{ρ:Bool}{Γr Γl Γ Γn M:aad}{te ta t1:TE}{de da d1:DE}{d e:DS}
variable {B0:Hp}{fps:Nat->List Addr}{δ:Dl}{σ:St}{H H':Hp}
def A2(xs:List D)(P:DK):Prop:=match xs with|[x]=>AU x fun ns=>0<ns.length/\∀M,M∈ns->(∀x∈ns,M<=x)->P (.int M)|_=>False
def B4(xs:List D)(P:DK):Prop:=match xs with|[x]=>AU x fun ns=>0<ns.length/\∀M,M∈ns->(∀x∈ns,x<=M)->P (.int M)|_=>False
theorem AF:mz K (fun xs H Q=>∃(a:Addr) (ns:aab),xs=[.ref a]/\SqL K H a (ns.map V.int)/\0<ns.length/\∀M,M∈ns->(∀x∈ns,M<=x)->Q (.int M) H) A2:=⟨fun xs P m k h=>by
  unfold A2 at h ⊢
  revert h
  split
  .exact fun h=>by obtain ⟨ns,e,z⟩:=eG h;exact rS e ⟨z.1,fun M a b=>k _ (z.2 M a b)⟩
  .exact id,
 fun {H xs vs Q} r h=>by
  unfold A2 at h
  split at h
  .obtain ⟨v,rfl,f⟩:=r.one
   obtain ⟨ns,e,h⟩:=eG h
   obtain ⟨a,ys,j,rfl,c,hr⟩:=f.seq e
   rw[hr.wI] at c
   exact⟨a,ns,rfl,c,h.1,fun M i g=>h.2 M i g _ H [] (Same.refl H) ⟨rfl,rfl⟩ Nw.nil⟩
  .exact h.elim⟩
theorem Hz:mz K (fun xs H Q=>∃(a:Addr) (ns:aab),xs=[.ref a]/\SqL K H a (ns.map V.int)/\0<ns.length/\∀M,M∈ns->(∀x∈ns,x<=M)->Q (.int M) H) B4:=⟨fun xs P m k h=>by
  unfold B4 at h ⊢
  revert h
  split
  .exact fun h=>by obtain ⟨ns,e,z⟩:=eG h;exact rS e ⟨z.1,fun M a b=>k _ (z.2 M a b)⟩
  .exact id,
 fun {H xs vs Q} r h=>by
  unfold B4 at h
  split at h
  .obtain ⟨v,rfl,f⟩:=r.one
   obtain ⟨ns,e,h⟩:=eG h
   obtain ⟨a,ys,j,rfl,c,hr⟩:=f.seq e
   rw[hr.wI] at c
   exact⟨a,ns,rfl,c,h.1,fun M i g=>h.2 M i g _ H [] (Same.refl H) ⟨rfl,rfl⟩ Nw.nil⟩
  .exact h.elim⟩
def jh:List D->Option (List Bool)
 |[]=>some []
 |.bl i::ds=>(jh ds).map (i::·)
 |_=>none
theorem nX:∀{ns:List Bool},jh (ns.map D.bl)=some ns
 |[]=>rfl
 |n::ns=>by rw[Oi,jh,nX];rfl
theorem wy:∀{ds:List D}{ns:List Bool},jh ds=some ns->ds=ns.map D.bl
 |[],ns,h=>by cases h;rfl
 |.bl i::ds,ns,h=>by
  rw[jh] at h
  cases e:jh ds with
  |none=>rw[e] at h;cases h
  |some c=>rw[e] at h;cases h;rw[wy e];rfl
 |.non::_,_,h=>by cases h
 |.int _::_,_,h=>by cases h
 |.str _::_,_,h=>by cases h
 |.lst _::_,_,h=>by cases h
 |.tup _::_,_,h=>by cases h
 |.dic _::_,_,h=>by cases h
 |.dit _::_,_,h=>by cases h
 |.scr _::_,_,h=>by cases h
def Mn(x:D)(P:List Bool->Prop):Prop:=asL x fun ds=>match jh ds with|some ns=>P ns|none=>False
theorem BP(h:Mn x P):∃ns,x.items=some (ns.map D.bl)/\P ns:=by
 obtain ⟨ds,e,h⟩:=bq h
 cases q:jh ds with
 |none=>rw[q] at h;exact h.elim
 |some ns=>rw[q] at h;rw[wy q] at e;exact⟨ns,e,h⟩
theorem K0(e:x.items=some (ns.map D.bl))(h:P ns):Mn x P:=by
 refine gh e ?_
 rw[nX];exact h
theorem Rfs.MV{ns:List Bool}{vs:List V}{fp:List Addr}(h:Rfs K H (ns.map D.bl) vs fp):vs=ns.map V.bl:=by
 have c:(ns.map D.bl).all D.ax=true:=by rw[Qb,OP];exact fun _ _=>rfl
 rw[(h.gS c).1,OB]
 rfl
def Ir(xs:List D)(P:DK):Prop:=match xs with|[x]=>Mn x fun ns=>P (.bl (ns.any id))|_=>False
theorem Mz:mz K (fun xs H Q=>∃(a:Addr) (bs:List Bool),xs=[.ref a]/\SqL K H a (bs.map V.bl)/\Q (.bl (bs.any id)) H) Ir:=⟨fun xs P i k h=>by
  unfold Ir at h ⊢
  revert h
  split
  .exact fun h=>by obtain ⟨ns,e,z⟩:=BP h;exact K0 e (k _ z)
  .exact id,
 fun {H xs vs Q} r h=>by
  unfold Ir at h
  split at h
  .obtain ⟨v,rfl,f⟩:=r.one
   obtain ⟨ns,e,h⟩:=BP h
   obtain ⟨a,ys,g,rfl,c,hr⟩:=f.seq e
   rw[hr.MV] at c
   exact⟨a,ns,rfl,c,h _ H [] (Same.refl H) ⟨rfl,rfl⟩ Nw.nil⟩
  .exact h.elim⟩
theorem CM{ns:List Bool}{P:DK}:Ir [.lst (ns.map D.bl)] P↔P (.bl (ns.any id)):=by
 show (match jh (ns.map D.bl) with|some ns=>P (.bl (ns.any id))|none=>False)↔_
 rw[nX]
theorem wN:A2 [dI ns] P↔0<ns.length/\∀M,M∈ns->(∀x∈ns,M<=x)->P (.int M):=oH
theorem DM:B4 [dI ns] P↔0<ns.length/\∀M,M∈ns->(∀x∈ns,x<=M)->P (.int M):=oH
def Kt(n:Nat):aab:=(List.range n).map fun (k:Nat)=>(k:Int)
def qG(c:DE)(δ:Dl)(P:DK):Prop:=c δ fun x=>asI [x] fun j=>(j<=100000/\-(2 ^ 62)<=j)/\P (dI (Kt j.toNat))
theorem CP(f:ER K Γ te de):EM K Γ [] (Bg te) (qG de) :=
 ⟨fun δ P r k h=>f.mono _ _ _ (fun x z=>by obtain ⟨j,rfl,z⟩:=bF z;exact⟨z.1,k _ z.2⟩) h,
 fun {B0 fps δ σ H Q} o h=>f.run o (f.mono _ _ _ (fun x z v m g p=>by
  obtain ⟨j,q,c⟩:=bF z
  subst q
  refine⟨j,p.int,c.1.1,c.1.2,fun l i=>?_⟩
  have e:Gn j.toNat=(Kt j.toNat).map V.int:=by unfold Gn Kt;rw[OB];rfl
  rw[e]
  have n:Same m (upd m l (.lst ((Kt j.toNat).map V.int))):=Same.gQ i
  exact c.2 _ _ [l] (g.trans n) (Rf.ofInts aq) ((Nw.one i aq).any.later g)) h)⟩
theorem Ok.dead(o:Ok K B0 Γ fps δ σ H)(j:Nat)(v:V)(hj:j∉Γ):Ok K B0 Γ (fun i=>if i=j then [] else fps i) (δ.set j none) (σ.set j (some v)) H:=by
 refine⟨by simp [o.len],o.b0,fun i d e=>?_,fun i h=>?_,fun i hi=>?_,fun i hi k f a ha=>?_⟩
 .by_cases h:i=j
  .subst h
   rw[Pc] at e
   by_cases c:i<δ.length
   .simp [c] at e
   .simp [c] at e
  .rw[Gc (OT h)] at e
   rw[Gc (OT h),if_neg h]
   exact o.val i d e
 .by_cases h':i=j
  .rw[if_pos h']
  .rw[if_neg h'];exact o.non i fun d z=>h d (by rw[Gc (OT h')];exact z)
 .have h:i≠j:=fun z=>hj (by rw[<- z];exact hi)
  rw[if_neg h];exact o.own i hi
 .have h:i≠j:=fun z=>hj (by rw[<- z];exact hi)
  rw[if_neg h] at ha
  split
  .exact OF
  .exact o.dj i hi k f a ha
theorem K8(h:asO o P):∃d,o=some d/\P d:=by
 unfold asO at h;split at h
 .exact⟨_,rfl,h⟩
 .exact h.elim
theorem eJ{i j:Nat}{k:EOk K ρ Γr Γl Γn B0 Dn' E'}{Dn:Ends}{R:TS}(r:ER K Γ t1 d1)(hi:i∈Γ)(hj:j∉Γ)(t:i≠j)(o:Ok K B0 Γ fps δ σ H)
  (h:i6 δ i fun ds=>d1 δ fun k=>asI [k] fun m=>(0<=m/\j<δ.length)/\qz (ds[m.toNat]?) fun es=>∀(c b:Addr) xs σ' H' fps',Ok K B0 Γ fps' (δ.set j none) σ' H'->(δ.set j none)[i]?=some (some (.lst ds))->ds[m.toNat]?=some (.lst es)->σ'[i]?=some (some (.ref c))->H' c=some (.lst xs)->xs[m.toNat]?=some (.ref b)->σ'[j]?=some (some (.ref b))->R Dn σ' H') :
  j3 (tOp (x9 K) (bR i) t1) (dZ j) { Dn with nx:=R Dn } σ H:=by
 obtain ⟨ds,e,h⟩:=fF h
 obtain ⟨c,xs0,fq0,n,_⟩:=o.z7 e
 refine⟨.ref c,n,r.run o (r.mono _ _ _ (fun y z w Q v x=>?_) h)⟩
 obtain ⟨m,B,f⟩:=bF z
 subst B
 obtain ⟨⟨g,F⟩,f⟩:=f
 obtain ⟨es,p,u⟩:=lA f
 have q:=o.same v
 have P:=(oe.mp p).1
 obtain ⟨a,xs,b,ys,G,e1,e2,C,s,O,M,L,J,I,E,_⟩:=mP (es':=[]) q hi e p
 rw[n] at e1;cases e1
 refine⟨c,xs,m,.ref b,rfl,x.int,.inl (.inl e2),by unfold atI;rw[cB g (by rw[C];omega)];exact s,?_⟩
 exact u c b xs _ _ _ (q.dead j (.ref b) hj) (by rw[Gc (OT t)];exact e) p (by rw[Gc (OT t)];exact n) e2 s (by rw[Pc];simp [o.len,F])
theorem Ib(e:δ[i]?=some (some (.lst ds)))(h:Q ds):i6 δ i Q:=(rN e).mpr h
theorem qK(e:o=some (.lst es))(h:Q es):qz o Q:=by rw[e];exact h
theorem Me(h:Rfs K H ds xs fq)(c:H p=none):Same H (upd H p (.lst xs))/\Rp K (upd H p (.lst xs)) (.lst ds) (.ref p) :=
 have s:Same H (upd H p (.lst xs)):=Same.gQ c
 ⟨s,p::fq,p,xs,fq,rfl,aq,rfl,h.same s⟩
theorem Rfs.rev(h:Rfs K H ds xs fq):∃c,Rfs K H ds.reverse xs.reverse c:=by
 induction ds generalizing xs fq with
 |nil=>obtain ⟨rfl,rfl⟩:=h;exact⟨[],rfl,rfl⟩
 |cons d ds ih =>
  obtain ⟨x,r,m,j,rfl,rfl,i,g⟩:=h
  obtain ⟨c,f⟩:=ih g
  rw[List.reverse_cons,List.reverse_cons]
  exact⟨_,f.append (Rfs.one i)⟩
def EH(c:DE)(δ:Dl)(P:DK):Prop:=c δ fun x=>asL x fun ds=>P (.lst ds.reverse)
theorem Dr(ha:ER K Γ ta da):ER K Γ (BY K ta) (EH da) :=
 ⟨fun δ P p k h=>ha.mono _ _ _ (fun x z=>by obtain ⟨ds,e,z⟩:=bq z;exact gh e (k _ z)) h,
 fun {B0 fps δ σ H Q} o h=>ha.run o (ha.mono _ _ _ (fun x z v q c f=>by
  obtain ⟨ds,e,z⟩:=bq z
  obtain ⟨a,xs,m,rfl,g,hr⟩:=f.seq e
  obtain ⟨n,j⟩:=hr.rev
  refine⟨a,_,rfl,g,fun l i=>?_⟩
  obtain ⟨n1,n2⟩:=Me j i
  exact z _ _ (c.trans n1) n2) h)⟩
theorem Ky:sj QD (.bl i) (.bl j) P↔P (.bl (if QD then !decide (i=j) else decide (i=j))):=by
 unfold sj
 simp only[D.ax,D.toV,ax,true_and,V.bl.injEq]
theorem Hc:sj QD (.str i) (.str j) P↔P (.bl (if QD then !decide (i=j) else decide (i=j))):=by
 unfold sj
 simp only[D.ax,D.toV,ax,true_and,V.str.injEq]
end
def aP(n m:Nat)(t:aaa):Prop:=t.length=n/\∀r∈t,r.length=m
abbrev rowAt(t:aaa)(i:Nat):aab:=t.getD i []
abbrev cellAt(t:aaa)(i j:Nat):Int:=(t.getD i []).getD j 0
abbrev setCell(t:aaa)(i j:Nat)(v:Int):aaa:=t.set i ((t.getD i []).set j v)
theorem rX(h:i<t.length):rowAt t i∈t:=by
 unfold rowAt
 rw[be,ab h]
 exact ON h
theorem aP.row(h:aP n m t)(hi:i<n):(rowAt t i).length=m:=h.2 _ (rX (by rw[h.1];exact hi))
theorem aP.set(h:aP n m t)(hr:r.length=m):aP n m (t.set i r):=by
 refine⟨by rw[OS];exact h.1,fun x c=>?_⟩
 rcases Qq c with z|z
 .exact h.2 x z
 .rw[z];exact hr
theorem aP.setCell{n m:Nat}{t:aaa}(h:aP n m t){i j:Nat}{v:Int}(hi:i<n):aP n m (setCell t i j v):=h.set (by rw[OS];exact h.row hi)
theorem G8(h:i<t.length):(t.map dI)[i]?=some (dI (rowAt t i)):=by
 unfold rowAt
 rw[ox,be,ab h]
 rfl
theorem Ly(c:0<=i)(h:i<t.length):atI (t.map dI) i=some (dI (rowAt t i.toNat)):=by
 unfold atI
 rw[cB c (by rw[dz];exact h)]
 exact G8 ()
theorem Ik{t:aaa}{i:Nat}{r:aab}:(t.map dI).set i (dI r)=(t.set i r).map dI:=(QV ..).symm
section
variable {i j:Nat}{δ:Dl}{de d1 d2:DE}{E:aZ}{t:aaa}{a b v:Int}
theorem gE(f:δ[i]?=some (some (dT t)))(n:∀R:DK,R (.int v)->de δ R)(m:∀R:DK,R (.int a)->d1 δ R)(g:∀R:DK,R (.int b)->d2 δ R)(ha:0<=a/\a<t.length)(hb:0<=b/\b<(rowAt t a.toNat).length)
  (h:E.nx (δ.set i (some (dT (setCell t a.toNat b.toNat v))))):sP i de d1 d2 E δ:=by
 unfold sP
 refine n _ ((rN f).mpr (m _ ?_))
 show qz (atI (t.map dI) a) _
 rw[Ly ha.1 ha.2]
 refine g _ ?_
 show match ixN (t.map dI).length a,ixN ((rowAt t a.toNat).map D.int).length b with|some j,some c=>E.nx (δ.set i (some (.lst ((t.map dI).set j (.lst (((rowAt t a.toNat).map D.int).set c (.int v)))))))|_,_=>False
 rw[cB ha.1 (by rw[dz];exact ha.2),cB hb.1 (by rw[dz];exact hb.2)]
 show E.nx (δ.set i (some (.lst ((t.map dI).set a.toNat (.lst (((rowAt t a.toNat).map D.int).set b.toNat (.int v)))))))
 rw[vF,Ik];exact h
end
theorem aD{r:aab}{a:Int}{P:DK}(ha:0<=a/\a<r.length)(h:P (.int (r.getD a.toNat 0))):asO (atI (r.map D.int) a) P:=(xf (Ls ha.1 ha.2)).mpr h
theorem bC(ha:0<=a/\a<t.length)(h:P (dI (rowAt t a.toNat))):asO (atI (t.map dI) a) P:=(xf (Ly ha.1 ha.2)).mpr h
theorem xm:xI [D.int x] n=(List.replicate n x).map D.int:=by
 unfold xI
 induction n with
 |zero=>rfl
 |succ n ih=>rw[Pr,Qj,ih,Pr];rfl
theorem zg{c:Type}{as:List c}{f:c->aab}:as.map (fun a=>dI (f a))=(as.map f).map dI:=by rw[OB];rfl
theorem dw{c:Type}{as:List c}{f:c->Int}:as.map (fun a=>D.int (f a))=(as.map f).map D.int:=by rw[OB];rfl
theorem av(ha:EM K Γ [] ta da)(hr:AM K Γ [] tr dr):AM K Γ [] (bx ta tr) (gH da dr):=ip ha hr (fun _ h=>(nomatch h)) (fun _ h=>(nomatch h))
theorem zy(c:0<=a)(h:a<ds.length)(k:asO (ds[a.toNat]?) P):asO (atI ds a) P:=by
 unfold atI;rw[cB c h];exact k
theorem lH(f:∀R:List D->Prop,R (t.map dI)->di δ R)(c:t.length<=1000)
  (hb:∀r∈t,∀R:List D->Prop,R [dI r]->iY dg dt de (cO k idx δ) (dI r) R) (h:P (dT t)):mD di dg dt de k idx δ P:=kZ (g:=dI) f c hb h
theorem MG{a b:aab}:a.map D.int++b.map D.int=(a++b).map D.int:=Ov.symm
def fH(t:aaa)(j:Nat):aab:=t.map fun r=>r.getD j 0
theorem lB:(fH t j).length=t.length:=by unfold fH;rw[dz]
theorem K5(h:0<=k):cutD ds none (some k)=ds.take k.toNat:=by
 obtain ⟨n,rfl⟩:=Int.eq_ofNat_of_zero_le h
 unfold cutD
 rw[HT.qf,HT.mY,Nat.sub_zero,Pf,<- List.take_eq_take_min]
 rfl
theorem Gy(h:0<=k)(c:k<=ds.length):cutD ds (some k) none=ds.drop k.toNat:=by
 obtain ⟨n,rfl⟩:=Int.eq_ofNat_of_zero_le h
 unfold cutD
 rw[HT.qf,HT.mY,Qy (),Po (by rw[Pg];exact Ol _)]
 rfl
theorem HE{a:D}{ds:List D}:atI (a::ds) 0=some a:=by
 unfold atI;rw[cB () (by rw[H0];omega)];rfl
theorem GV{a b:D}{ds:List D}:atI (a::b::ds) 1=some b:=by
 unfold atI;rw[cB () (by rw[H0,H0];omega)];rfl
theorem Ig{a b c:D}{ds:List D}:atI (a::b::c::ds) 2=some c:=by
 unfold atI;rw[cB () (by rw[H0,H0,H0];omega)];rfl
theorem GQ{a b c d:D}{ds:List D}:atI (a::b::c::d::ds) 3=some d:=by
 unfold atI;rw[cB () (by rw[H0,H0,H0,H0];omega)];rfl
end L3
namespace L2
open PySem PySem.Spec PyProof.Rows
section
variable {prog:Program}{w:World}{A:Around}{E:Value->Shared->Prop}{s:Shared}
theorem y0{it t:Addr}{items:Array Value}(h:t≠it):∀(n i:Nat) (s:Shared) (Q:List Value->Shared->Prop),s.heap.IsListIter it t i->s.heap.IsList t items->i+n<=items.size ->
  (∀h',h'.IsListIter it t (i+n)->Heap.SameBut it s.heap h'->Q ((items.toList.drop i).take n) { s with heap:=h' })->wpAny (model prog w) A (draw (.ref it) n) Q E s
 |0,i,s,Q,f,_,_,c=>by
  show wpAny _ _ (pure []) Q E s
  exact wpAny_pure (by simpa using c s.heap f (Heap.SameBut.refl ..))
 |n+1,i,s,Q,f,ht,y,c=>by
  have j:i<items.size:=()
  show wpAny _ _ (pyNext (.ref it) >>= _) Q E s
  refine wpAny_bind (wpAny_pyNext_list_item f ht (x:=items[i]) (by simp [j]) fun r v g=>?_)
  have q:r.IsList t items:=ht.at fun o e=>(g.2 t h).trans e
  refine wpAny_bind (wpAny_holding (y0 h n (i+1) _ _ v q () fun u p m=>wpAny_pure ?_))
  have hd:items.toList.drop i=items[i]::items.toList.drop (i+1):=by simp [Ou,j]
  have:=c u (by rw[show i+(n+1)=i+1+n by omega];exact p) (g.trans m)
  rw[hd,List.take_succ_cons] at this
  exact this
theorem rW(h:A.handled=none)(ht:s.heap.IsList t items)
  (i:∀h',Heap.ExtBut s.heap.objs.size s.heap h'->Q items.toList { s with heap:=h' }):wpAny (model prog w) A (unpackItems (.ref t) items.size none) Q E s:=by
 have f:t≠s.heap.objs.size:=by obtain ⟨o,g,_⟩:=ht;exact OK (Heap.lt_size g)
 unfold unpackItems
 refine wpAny_bind ?_
 .unfold notIterableAtAll
  refine wpAny_bind (wpAny_specialOf ht.typeIs PySem.F.slot_list_iter.lookup ?_)
  refine wpAny_pure ?_
  simp only[Pm,if_false]
  refine wpAny_bind (wpAny_holding (wpAny_pyIter_list ht ?_))
  refine wpAny_bind (wpAny_holding (y0 f items.size 0 _ _ ⟨_,Heap.get?_push_size _ rfl,rfl,rfl⟩ (ht.push _) () fun n q c=>?_))
  have r:List.take items.size (List.drop 0 items.toList)=items.toList:=by
   rw[Pf];exact Po (by simp)
  rw[r]
  rw[if_neg (by simp)]
  have m:n.IsList t items:=(ht.push _).at fun o e=>(c.2 t f).trans e
  refine wpAny_bind (wpAny_holding (wpAny_pyNext_list_end h q m (by simp) fun p j=>?_))
  simp only[Option.isSome_none,Pm,if_false]
  refine wpAny_pure (i p fun b o hb e=>j b o hb ((c.2 b hb).trans (Heap.get?_push_of_some _ e)))
theorem rh(c:A.handled=none)(ht:s.heap.IsList t items)
  (hn:(assignEach R9 env).length=items.size) (f:(assignEach R9 env).findIdx? (·.1)=none)
  (h:∀h',Heap.ExtBut s.heap.objs.size s.heap h'->wpAny (model prog w) A (assignInOrder ((assignEach R9 env).map (·.2)) items.toList) Q E { s with heap:=h' }) :
  wpAny (model prog w) A (assign (.Tuple R9 x1 pos) env (.ref t)) Q E s:=by
 rw[assign_Tuple]
 refine wpAny_bind (wpAny_standAt ?_)
 unfold unpack
 rw[hn,f]
 exact wpAny_bind (wpAny_holding (rW c ht h))
end
section
variable {X:Cx}{K:aae}
def NX(K:aae)(n:Nat)(t:TGs):TG:=fun v c H Q=>∃a xs,v=.ref a/\SqL K H a xs/\xs.length=n/\t xs c H Q
theorem K9(p:X.K=K)(m:X.calm=true)(h:PGs X es t)
  (hn:(assignEach es X.env).length=n:=by rfl) (q:(assignEach es X.env).findIdx? (·.1)=none:=by rfl):PG X (.Tuple es k pos) (NX K n t):=by
 subst p
 intro c s f H v u Q I r hw
 obtain ⟨a,xs,e1,i,j,hw⟩:=hw
 subst e1
 cases r
 obtain ⟨z,rv,ht,y⟩:=I.list i
 refine rh (I.ok.hd m) ht.isList (by simp [hn,<- j,rv.length]) q fun h' g=>?_
 have x:Inv X c f H { s with heap:=h' }:=I.kept (t':=s.toks) fun b o e=>g b o (OK (Heap.lt_size e)) e
 exact h c _ f H xs _ Q x (by simpa using rv) hw
def qt(k:Nat)(g:TGs):Prop:=∀x c H Q,g x c H Q->g x c H fun f h=>Q f h/\f.length=c.length/\∀j,k<=j->f[j]?=c[j]?
theorem qt.nil:qt k Mp:=fun x c H Q q=>⟨q.1,q.2,rfl,fun _ _=>rfl⟩
end
end L2
namespace Maj
open L2 (zq ou yP tO)
def sd(xs:aab)(k:Nat):Int:=((zq xs).take k).sum
def above(one c:aab):aad:=(List.range one.length).filter fun p=>decide (sd c (p+1)<sd one (p+1))
end Maj
namespace L3
open PySem
open L2 hiding D Rf Rfs Rp dI dT
section
variable {K:aae}{Γ:aad}{te:TE}{de:DE}
def EJ(n:Nat)(c:List D->Dl->(Dl->Prop)->Prop)(x:D)(δ:Dl)(P:Dl->Prop):Prop:=asL x fun ds=>ds.length=n/\c ds δ P
theorem MT(h:GTs K Γ g dg):GT K Γ (NX K n g) (EJ n dg) :=
 ⟨fun x δ P s k q=>by obtain ⟨ds,e,z⟩:=bq q;exact gh e ⟨z.1,h.mono _ _ _ _ k z.2⟩,
 fun {B0 fps δ m H x v fp Q} o r c q=>by
  obtain ⟨ds,e,z⟩:=bq q
  obtain ⟨a,xs,p,rfl,f,hr,i⟩:=r.seq e
  exact⟨a,xs,rfl,f,hr.length.trans z.1,h.run o hr (fun j hj b hb=>c j hj b (i b hb)) z.2⟩⟩
theorem ER.es0(h:ER K [] te de):ES K [] te de:=⟨h.mono,fun o q=>h.run o (h.mono _ _ _ (fun x z v H' s r=>let ⟨fp,r⟩:=r;z v H' fp s r fun j hj=>(nomatch hj)) q)⟩
end
end L3
namespace L3
open PySem L2
structure AOk(K:aae)(B0:Hp)(Γ:aad)(i j m:Nat)(a0:Addr)(fps:Nat->List Addr)(δ:Dl)(σ:St)(H:Hp):Prop where
 ok:Ok K B0 Γ fps (δ.set j none) σ H
 hi:i∈Γ
 hj:j∉Γ
 al:∃ds es xs b,δ[i]?=some (some (.lst ds))/\ds[m]?=some (.lst es)/\δ[j]?=some (some (.lst es))/\σ[i]?=some (some (.ref a0))/\H a0=some (.lst xs)/\xs[m]?=some (.ref b)/\σ[j]?=some (some (.ref b))
section
variable {K:aae}{ρ:Bool}{Γr Γl Γ:aad}{B0:Hp}{i j m:Nat}{a0:Addr}{fps:Nat->List Addr}{δ:Dl}{σ:St}{H H':Hp}{t u:TS}{d e:Nat->DS}{te tx t1:TE}{de dx d1:DE}
theorem AOk.ne(o:AOk K B0 Γ i j m a0 fps δ σ H):i≠j:=fun z=>o.hj (z▸o.hi)
theorem AOk.same(o:AOk K B0 Γ i j m a0 fps δ σ H)(s:Same H H'):AOk K B0 Γ i j m a0 fps δ σ H':=by
 obtain ⟨ds,es,xs,b,q,p,n,h,g,f,c⟩:=o.al
 exact⟨o.ok.same s,o.hi,o.hj,ds,es,xs,b,q,p,n,h,s.st _ _ g trivial,f,c⟩
theorem AOk.rd(o:AOk K B0 Γ i j m a0 fps δ σ H):∃g,Ok K B0 (minus Γ [i]) g δ σ H:=by
 obtain ⟨ds,es,xs,b,C,B,p,y,x,v,u⟩:=o.al
 have e1:(δ.set j none)[i]?=some (some (.lst ds)):=by rw[Gc (OT o.ne)];exact C
 obtain ⟨a,F,E,ys,r,n,q2,q3,q4,q5,q6,q7,q8,q9,q10,_⟩:=mP (es':=[]) o.ok o.hi e1 B
 rw[y] at n;cases n
 rw[x] at q2;cases q2
 rw[v] at q4;cases q4
 refine⟨fun l=>if l=j then b::r else fps l,by have:=o.ok.len;simpa using this,o.ok.b0,fun l d e=>?_,fun l h=>?_,fun l c=>?_,fun l c k t a ha=>?_⟩
 .by_cases c:l=j
  .subst c
   rw[p] at e;cases e
   rw[if_pos rfl]
   exact⟨.ref b,u,b,ys,r,rfl,q5,rfl,q6⟩
  .rw[if_neg c]
   exact o.ok.val l d (by rw[Gc (OT c)];exact e)
 .by_cases c:l=j
  .subst c;exact absurd p (h _)
  .rw[if_neg c]
   exact o.ok.non l fun d z=>h d (by rw[Gc (OT c)] at z;exact z)
 .obtain ⟨f,q⟩:=bE.mp c
  have:l≠j:=fun z=>o.hj (z▸f)
  rw[if_neg this]
  exact o.ok.own l f
 .obtain ⟨f,q⟩:=bE.mp c
  have n1:l≠j:=fun z=>o.hj (z▸f)
  have n2:i≠l:=fun z=>q (mo.mpr z.symm)
  rw[if_neg n1] at ha
  by_cases s:k=j
  .rw[if_pos s]
   intro z
   rcases KE.mp z with z|z
   .exact o.ok.dj l f i n2 a ha (by rw[z];exact q10)
   .exact o.ok.dj l f i n2 a ha (q9 a z)
  .rw[if_neg s]
   exact o.ok.dj l f k t a ha
theorem AOk.write(o:AOk K B0 Γ i j m a0 fps δ σ H)(s:δ[i]?=some (some (.lst ds)))(n:ds[m]?=some (.lst es)) :
  ∃b ys g,σ[j]?=some (some (.ref b))/\H b=some (.lst ys)/\Rfs K H es ys g/\g.Nodup/\b∉g/\(∀c∈g,Mu H c)/\∀{y:List V}{p:List Addr},Rfs K H es' y p->p.Nodup->(∀c∈p,c∈g) ->
   ∃f,AOk K B0 Γ i j m a0 f ((δ.set i (some (.lst (ds.set m (.lst es'))))).set j (some (.lst es'))) σ (upd H b (.lst y)):=by
 obtain ⟨ds0,es0,xs,b,J,I,Q,v,u,t,G⟩:=o.al
 rw[s] at J;cases J
 rw[n] at I;cases I
 have e1:(δ.set j none)[i]?=some (some (.lst ds)):=by rw[Gc (OT o.ne)];exact s
 obtain ⟨a,Zr,b1,ys,g,F,q2,q3,q4,q5,q6,q7,q8,q9,q10,KK⟩:=mP (es':=es') o.ok o.hi e1 n
 rw[v] at F;cases F
 rw[u] at q2;cases q2
 rw[t] at q4;cases q4
 have Y:a0≠b:=fun z=>by
  obtain ⟨a3,L,R,E,C,P,O⟩:=o.ok.z7 e1
  rw[v] at E;cases E
  have x:=(o.ok.own i o.hi).1
  rw[P] at x
  obtain ⟨Z,_,_,B,_,_,M,_⟩:=O.inner (Om.mp x).2 n
  rw[u] at C;cases C
  rw[t] at B;cases B
  exact (Om.mp x).1 (by rw[z];exact M)
 refine⟨b,ys,g,G,q5,q6,q7,q8,fun c h=>((o.ok.own i o.hi).2 c (q9 c h)).2,fun {y p} r nd sub=>?_⟩
 obtain ⟨f,T⟩:=KK r nd (fun z=>q8 (sub b z)) (fun c h=>((o.ok.own i o.hi).2 c (q9 c (sub c h))).2) (fun c h=>.inl (sub c h))
 have U:i<δ.length:=(oe.mp s).1
 have q:j<δ.length:=(oe.mp Q).1
 have X:m<ds.length:=(oe.mp n).1
 refine⟨f,?_,o.hi,o.hj,ds.set m (.lst es'),es',xs,b,?_,?_,?_,v,by rw[au Y];exact u,t,G⟩
 .rw[List.set_set,List.set_comm _ _ o.ne];exact T
 .rw[Gc (OT o.ne),OD U]
 .rw[OD X]
 .rw[OD (by rw[OS];exact q)]
def STA(K:aae)(i j:Nat)(t:TS)(c:aad)(d:Nat->DS):Prop :=
 ∀⦃B0:Hp⦄ ⦃Dn:Ends⦄ ⦃E:aZ⦄ ⦃m:Nat⦄ ⦃a0:Addr⦄ ⦃fps:Nat->List Addr⦄ ⦃δ:Dl⦄ ⦃σ:St⦄ ⦃H:Hp⦄,(∀{fps δ σ H},AOk K B0 c i j m a0 fps δ σ H->E.nx δ->Dn.nx σ H)->AOk K B0 c i j m a0 fps δ σ H->d m E δ->t Dn σ H
theorem JR(f:STA K i j t Γ d)(c:STA K i j u Γ e):STA K i j (zt t u) Γ (fun m=>Dd (d m) (e m)) :=
 fun {B0 Dn E m a0 fps δ σ H} k o h=>f (Dn:={ Dn with nx:=u Dn }) (E:={ E with nx:=e m E }) (fun o h=>c k o h) o h
theorem K1(a:Nat)(n:ER K (minus Γ [i]) te de)(ha:a∉Γ:=by decide)(c:a≠j:=by decide)(t:a≠i:=by decide):STA K i j (j3 te (dZ a)) Γ (fun _=>GD a (vp de)) :=
 fun {B0 Dn E m a0 fps δ σ H} k o h=>by
  obtain ⟨p,u⟩:=o.rd
  refine n.run u (n.mono _ _ _ (fun x z v H' s r=>?_) h)
  obtain ⟨fp,r⟩:=r
  obtain ⟨_,rfl⟩:=r.ax z.1
  have f:=(o.ok.wH a s r (fun _ _ _ w=>(nomatch w))).sub (Γ':=Γ) fun l g=>bE.mpr ⟨g,fun q=>ha (by rw[<- mo.mp q];exact g)⟩
  rw[List.set_comm _ _ (OT c)] at f
  obtain ⟨ds,es,xs,b,J,I,G,F,C,B,y⟩:=o.al
  refine k ⟨f,o.hi,o.hj,ds,es,xs,b,?_,I,?_,?_,s.st _ _ C trivial,B,?_⟩ z.2
  .rw[Gc t];exact J
  .rw[Gc c];exact G
  .rw[Gc t];exact F
  .rw[Gc c];exact y
def JB(i j:Nat)(c dx:DE)(m:Nat)(E:aZ)(δ:Dl):Prop:=c δ fun x=>x.ax=true/\dx δ fun k=>asI [k] fun q=>i6 δ i fun ds=>i6 δ j fun es=>match ixN es.length q with
 |some p=>E.nx ((δ.set i (some (.lst (ds.set m (.lst (es.set p x)))))).set j (some (.lst (es.set p x))))
 |none=>False
theorem D0(B:ER K (minus Γ [i]) te de)(u:ER K (minus Γ [i]) tx dx):STA K i j (j3 te (BE (bR j) tx yJ)) Γ (fun m=>JB i j de dx m) :=
 fun {B0 Dn E m a0 fps δ σ H} k o h=>by
  obtain ⟨G,R⟩:=o.rd
  refine B.run R (B.mono _ _ _ (fun x z v H1 t r=>?_) h)
  obtain ⟨I,z⟩:=z
  obtain ⟨fp,r⟩:=r
  obtain ⟨_,rfl⟩:=r.ax I
  obtain ⟨RI,Q⟩:=(o.same t).rd
  obtain ⟨ds0,es0,xs,b,F,X,U,g4,g5,g6,C⟩:=o.al
  refine⟨.ref b,C,u.run Q (u.mono _ _ _ (fun y z w H2 s M=>?_) z)⟩
  obtain ⟨q,Y,z⟩:=bF z
  subst Y
  obtain ⟨ds,e1,z⟩:=fF z
  obtain ⟨es,e2,z⟩:=fF z
  rw[F] at e1;cases e1
  rw[U] at e2;cases e2
  cases ep:ixN es0.length q with
  |none=>rw[ep] at z;exact z.elim
  |some p =>
   rw[ep] at z
   obtain ⟨b',ys,fe,n,L,g,J,w5,w6,KK⟩:=((o.same t).same s).write (es':=es0.set p x) F X
   rw[C] at n;cases n
   obtain ⟨Rk,O,Sq,T⟩:=Rfs.set (r.same s) Pl g J (fun c f=>(nomatch f)) (Ht ep)
   obtain ⟨Z,P⟩:=KK O Sq fun c f=>(T c f).elim id fun w=>(nomatch w)
   exact⟨b,ys,q,p,rfl,M.int,L,by rw[g.length];exact ep,k P z⟩
def ze(i j:Nat)(d1:DE)(d:Nat->DS)(E:aZ)(δ:Dl):Prop:=i6 δ i fun ds=>d1 δ fun k=>asI [k] fun m=>(0<=m/\j<δ.length)/\qz (ds[m.toNat]?) fun es =>
 d m.toNat { E with nx:=fun c=>E.nx (c.set j none) } (δ.set j (some (.lst es)))
theorem BJ(i j:Nat)(g:ER K Γ t1 d1)(hb:STA K i j t Γ d)(hi:i∈Γ:=by decide)(hj:j∉Γ:=by decide)(r:i≠j:=by decide) :
  ST K ρ Γr Γl (zt (j3 (tOp (x9 K) (bR i) t1) (dZ j)) t) Γ Γ (ze i j d1 d):=by
 intro B0 Dn E fps δ σ H k o h
 refine eJ (k:=k) g hi hj r o ?_
 obtain ⟨ds,e,h⟩:=fF h
 refine Ib e (g.mono _ _ _ (fun x z=>?_) h)
 obtain ⟨m,F,f⟩:=bF z
 subst F
 refine⟨f.1,?_⟩
 obtain ⟨es,p,s⟩:=lA f.2
 refine qK p fun a0 b xs σ' H' n u q I C B y v=>?_
 refine hb (E:={ E with nx:=fun c=>E.nx (c.set j none) }) (fun G z=>k.nx G.ok z) ⟨by rw[List.set_set];exact u,hi,hj,ds,es,xs,b,?_,p,?_,C,B,y,v⟩ s
 .rw[Gc (OT r)] at q ⊢;exact q
 .rw[OD f.1.2]
end
end L3
namespace L3
open PySem
open L2 hiding D Rf Rfs Rp dI dT
section
variable {δ:Dl}{i j:Nat}{t:aaa}{a b v:Int}{d1 de dx:DE}{d:Nat->DS}{E:aZ}
theorem yf(f:δ[i]?=some (some (dT t)))(g:∀R:DK,R (.int a)->d1 δ R)(hj:j<δ.length)(ha:0<=a/\a<t.length)
  (h:d a.toNat { E with nx:=fun c=>E.nx (c.set j none) } (δ.set j (some (dI (rowAt t a.toNat))))):ze i j d1 d E δ:=by
 unfold ze
 refine (rN f).mpr (g _ ⟨⟨ha.1,hj⟩,?_⟩)
 exact qK (G8 ()) h
theorem Aw(c:δ[i]?=some (some (dT t)))(hr:δ[j]?=some (some (dI r)))(f:∀R:DK,R (.int v)->de δ R)(g:∀R:DK,R (.int b)->dx δ R)(hb:0<=b/\b<r.length)
  (h:E.nx ((δ.set i (some (dT (t.set m (r.set b.toNat v))))).set j (some (dI (r.set b.toNat v))))):JB i j de dx m E δ:=by
 unfold JB
 refine f _ ⟨rfl,g _ ((rN c).mpr ((rN hr).mpr ?_))⟩
 show match ixN (r.map D.int).length b with|some p=>E.nx ((δ.set i (some (.lst ((t.map dI).set m (.lst ((r.map D.int).set p (.int v))))))).set j (some (.lst ((r.map D.int).set p (.int v)))))|none=>False
 rw[cB hb.1 (by rw[dz];exact hb.2)]
 show E.nx ((δ.set i (some (.lst ((t.map dI).set m (.lst ((r.map D.int).set b.toNat (.int v))))))).set j (some (.lst ((r.map D.int).set b.toNat (.int v)))))
 rw[vF,Ik];exact h
end
end L3
namespace L3
open PySem L2
def D.flat:D->Bool
 |.tup ds=>ds.all D.ax
 |d=>d.ax
theorem Rf.flat(h:Rf K H d v fp)(s:d.flat=true):fp=[]:=by
 cases d with
 |tup ds =>
  obtain ⟨a,xs,rfl,f,c⟩:=h
  exact (c.gS s).2
 |_=>first|exact (h.ax s).2|cases s
theorem vd:(D.int i).flat=true:=rfl
theorem zh:(D.bl b).flat=true:=rfl
theorem sF:(D.tup [.int a,.int b,.int c,.int d]).flat=true:=rfl
theorem sC:(D.tup [.int a,.int b,.int c]).flat=true:=rfl
theorem tH:(D.tup [.int a,.int b]).flat=true:=rfl
def Ff(d:DE)(δ:Dl)(P:DK):Prop:=d δ fun x=>x.flat=true/\P x
theorem ER.flat(h:ER K Γ t d):EM K Γ [] t (Ff d):=⟨fun δ P c k q=>h.mono _ _ _ (fun x z=>⟨z.1,k x z.2⟩) q,fun o q=>h.run o (h.mono _ _ _ (fun x z v H' s r=>by
 obtain ⟨fp,r⟩:=r
 have e:=r.flat z.1
 subst e
 exact z.2 v H' [] s r Nw.nil) q)⟩
end L3
namespace L3
open PySem
open L2 hiding D Rf Rfs Rp dI dT
theorem dD{t:aaa}{n m:Nat}{a b:Int}{R:DK}(c:aP n m t)(ha:0<=a/\a<n)(hb:0<=b/\b<m)(h:R (.int (cellAt t a.toNat b.toNat))):asO (atI (t.map dI) a) fun z=>rf z (.int b) R:=by
 have g:=c.row (i:=a.toNat) ()
 have f:=c.1
 refine bC () ?_
 rw[Ho]
 exact aD () h
theorem aW(g:aP n m t)(ha:a<n)(hb:b<m):cellAt (setCell t a b v) c d=if a=c/\b=d then v else cellAt t c d:=by
 have i:=g.1
 have hr:=g.row ha
 unfold setCell cellAt
 by_cases h:a=c
 .subst h
  rw[be (l:=t.set a _),OD (),Pn]
  by_cases f:b=d
  .subst f
   rw[if_pos ⟨rfl,rfl⟩,be,OD (by rw[show (t.getD a []).length=m from hr];exact hb),Pn]
  .rw[if_neg (fun z=>f z.2),be,Gc f,<- be]
 .rw[if_neg (fun z=>h z.1),be (l:=t.set a _),Gc h,<- be]
def jZ(n m:Nat)(t:aaa):Prop:=aP n m t/\∀r∈t,∀x∈r,x=0\/x=1
theorem jZ.cell(h:jZ n m t)(ha:a<n)(hb:b<m):cellAt t a b=0\/cellAt t a b=1:=by
 have c:=h.1.1
 have hr:=h.1.row ha
 refine h.2 (rowAt t a) (rX ()) _ ?_
 show (rowAt t a).getD b 0∈rowAt t a
 rw[be,ab ()]
 exact ON _
theorem jZ.set(h:jZ n m t)(ha:a<n)(f:v=0\/v=1):jZ n m (setCell t a b v):=by
 refine⟨h.1.setCell ha,fun r hr x c=>?_⟩
 have g:=h.1.1
 rcases Qq hr with z|z
 .exact h.2 r z x c
 .rw[z] at c
  rcases Qq c with w|w
  .exact h.2 _ (rX ()) x w
  .rw[w];exact f
def cI(n m:Nat)(t:aaa)(i j k l:Int):Prop:=(0<=i/\i<n)/\(0<=k/\k<n)/\(0<=j/\j<m)/\(0<=l/\l<m)/\cellAt t i.toNat j.toNat=1/\cellAt t i.toNat l.toNat=0/\cellAt t k.toNat j.toNat=0/\cellAt t k.toNat l.toNat=1
instance {n m:Nat}{t:aaa}{i j k l:Int}:Decidable (cI n m t i j k l):=by unfold cI;infer_instance
def cH(t:aaa)(i j k l:Nat):aaa:=setCell (setCell (setCell (setCell t i j 0) i l 1) k j 1) k l 0
theorem zO(h:jZ n m t)(hi:i<n)(c:k<n):jZ n m (cH t i j k l) :=
 (((h.set hi (.inl rfl)).set hi (.inr rfl)).set c (.inr rfl)).set c (.inl rfl)
theorem zE(h:aP n m t)(hi:i<n)(c:k<n)(hj:j<m)(f:l<m) :
  cellAt (cH t i j k l) a b=if k=a/\l=b then 0 else if k=a/\j=b then 1 else if i=a/\l=b then 1 else if i=a/\j=b then 0 else cellAt t a b:=by
 unfold cH
 rw[aW (((h.setCell hi).setCell hi).setCell c) c f,aW ((h.setCell hi).setCell hi) c hj,aW (h.setCell hi) hi f,aW h hi hj]
end L3
namespace L2
open PySem PySem.Spec PyProof.Rows
section
variable {κ:Type}[DecidableEq κ]
def js(kvs:List (κ × V))(k:κ):Option V:=(kvs.find? fun c=>decide (c.1=k)).map (·.2)
def putK(kvs:List (κ × V))(k:κ)(v:V):List (κ × V) :=
 if (kvs.any fun c=>decide (c.1=k))=true then kvs.map (fun c=>if c.1=k then (c.1,v) else c) else kvs++[(k,v)]
theorem og{p:κ × V}{r:List (κ × V)}{k:κ}(e:p.1=k):js (p::r) k=some p.2:=by simp [js,Qz,e]
theorem k9{p:κ × V}{r:List (κ × V)}{k:κ}(e:¬ p.1=k):js (p::r) k=js r k:=by simp [js,Qz,e]
theorem wQ(k:κ):∀kvs:List (κ × V),(kvs.any fun c=>decide (c.1=k))=(js kvs k).isSome
 |[]=>rfl
 |p::r=>by
  rw[List.any_cons]
  by_cases e:p.1=k
  .simp only[og e,decide_eq_true e,Bool.true_or,Option.isSome_some]
  .rw[k9 e,decide_eq_false e,Bool.false_or];exact wQ k r
theorem ue(kvs:List (κ × V))(k:κ)(v:V):(putK kvs k v).length<=kvs.length+1:=by
 unfold putK
 split
 .rw[dz];omega
 .rw[Ox,H0,PQ];omega
theorem IY{kvs:List (κ × V)}{k:κ}(v:V)(h:js kvs k=none):putK kvs k v=kvs++[(k,v)]:=by
 unfold putK
 rw[wQ,h]
 exact if_neg nofun
theorem oK.tI(r:oK o u):o.isSome=u.isSome:=by
 cases o with
 |none=>cases u with
  |none=>rfl
  |some _=>exact (show False from r).elim
 |some _=>cases u with
  |none=>exact (show False from r).elim
  |some _=>rfl
theorem KV.val(r:KV kvs vs)(k:κ):oK (js kvs k) (valueAt vs k):=by
 unfold KV at r
 induction r with
 |nil=>exact True.intro
 |@cons p q ps c h t ih =>
  obtain ⟨g,i⟩:=h
  by_cases e:p.1=k
  .have f:q.1=k:=g.symm.trans e
   have b:valueAt (q::c) k=some q.2:=by simp [valueAt,Qz,f]
   rw[og e,b];exact i
  .have f:¬ q.1=k:=fun z=>e (g.trans z)
   have b:valueAt (q::c) k=valueAt c k:=by simp [valueAt,Qz,f]
   rw[k9 e,b];exact ih
theorem KV.any(r:KV kvs vs)(k:κ):(kvs.any fun c=>decide (c.1=k))=vs.any fun c=>decide (c.1=k):=by
 unfold KV at r
 induction r with
 |nil=>rfl
 |cons h t ih=>rw[List.any_cons,List.any_cons,ih,h.1]
theorem KV.LL(r:KV kvs vs)(k:κ)(ry:RelV y u) :
  KV (kvs.map fun c=>if c.1=k then (c.1,y) else c) (vs.map fun c=>if c.1=k then (c.1,u) else c):=by
 unfold KV at r ⊢
 induction r with
 |nil=>exact .nil
 |@cons p q ps i h t ih =>
  rw[Oi,Oi]
  refine .cons ?_ ih
  obtain ⟨f,g⟩:=h
  by_cases e:p.1=k
  .rw[if_pos e,if_pos (f.symm.trans e)];exact⟨f,ry⟩
  .rw[if_neg e,if_neg (fun z=>e (f.trans z))];exact⟨f,g⟩
theorem KV.put(r:KV kvs vs)(k:κ)(ry:RelV y u):KV (putK kvs k y) (stored vs k u):=by
 unfold putK stored
 rw[r.any k]
 by_cases e:(vs.any fun c=>decide (c.1=k))=true
 .rw[if_pos e,if_pos e];exact r.LL k ry
 .rw[if_neg e,if_neg e];exact Paired.snoc r ⟨rfl,ry⟩
theorem KV.keys{kvs:List (κ × V)}{vs:List (κ × Value)}(r:KV kvs vs):kvs.map (·.1)=vs.map (·.1):=by
 unfold KV at r
 induction r with
 |nil=>rfl
 |cons h t ih=>rw[Oi,Oi,ih,h.1]
theorem KV.length{kvs:List (κ × V)}{vs:List (κ × Value)}(r:KV kvs vs):kvs.length=vs.length:=Paired.length r
end
theorem FD(r:RelV (kV k) u):(cG P w).is k u=true:=by
 cases k with
 |inl i=>obtain ⟨t,e⟩:=(show ∃t,u=Value.int i t from r);subst e;exact Bq P w i t
 |inr x=>obtain ⟨t,e⟩:=(show ∃t,u=Value.str x t from r);subst e;exact Bc P w x t
theorem yy{P:Program}{w:World}:∀{ks:List Key}{us:List Value},Vals (ks.map kV) us->ItemsAre (cG P w) ks us
 |[],_,r=>by rw[QH] at r;cases r;exact .nil
 |k::ks,_,r=>by
  rw[Oi] at r
  cases r with
  |cons h t=>exact .cons (FD h) (yy t)
abbrev KT(H:Hp):List (List Key × V)->List (List Key × Addr × Value)->Prop:=Paired fun p q=>p.1=q.1/\H q.2.1=some (.tup (p.1.map kV))/\RelV p.2 q.2.2
theorem KT.val(r:KT H kvs xs)(k:List Key):oK (js kvs k) ((atKey xs k).map (·.2)):=by
 induction r with
 |nil=>exact True.intro
 |@cons p q ps c h t ih =>
  obtain ⟨g,_,i⟩:=h
  by_cases e:p.1=k
  .have f:q.1=k:=g.symm.trans e
   have b:atKey (q::c) k=some q.2:=by simp [atKey,Qz,f]
   rw[og e,b];exact i
  .have f:¬ q.1=k:=fun z=>e (g.trans z)
   have b:atKey (q::c) k=atKey c k:=by simp [atKey,Qz,f]
   rw[k9 e,b];exact ih
theorem KT.LL(r:KT H kvs xs)(k:List Key)(ry:RelV y u) :
  KT H (kvs.map fun f=>if f.1=k then (f.1,y) else f) (xs.map (putAt k u)):=by
 induction r with
 |nil=>exact .nil
 |@cons p q ps j h t ih =>
  rw[Oi,Oi]
  refine .cons ?_ ih
  obtain ⟨c,g,i⟩:=h
  unfold putAt
  by_cases e:p.1=k
  .rw[if_pos e,if_pos (c.symm.trans e)];exact⟨c,g,ry⟩
  .rw[if_neg e,if_neg (fun z=>e (c.trans z))];exact⟨c,g,i⟩
theorem KT.put(r:KT H kvs xs)(k:List Key)(hb:H b=some (.tup (k.map kV)))(ry:RelV y u) :
  KT H (putK kvs k y) (storedH xs k b u):=by
 have e:(kvs.any fun c=>decide (c.1=k))=(atKey xs k).isSome:=by
  rw[wQ,(r.val k).tI,Option.isSome_map]
 unfold putK storedH
 rw[e]
 by_cases q:(atKey xs k).isSome=true
 .rw[if_pos q,if_pos q];exact r.LL k ry
 .rw[if_neg q,if_neg q];exact Paired.snoc r ⟨rfl,hb,ry⟩
theorem KT.keeps(r:KT H kvs xs)(ht:∀b ys,H b=some (.tup ys)->H' b=some (.tup ys)):KT H' kvs xs :=
 Paired.Mt r fun _ _ z=>⟨z.1,ht _ _ z.2.1,z.2.2⟩
section
variable {P:Program}{w:World}{H:Hp}{h:Heap}{a:Addr}
theorem LC(ok:HOk P w H h)(e:Rd H a u):bI P w H h a u:=e.ok ok
theorem Et(ok:HOk P w H h)(e:Rd H a (.dK kvs)):kvs.length<=sizeLine/\(a == sysModules)=false/\∃vs,KV kvs vs/\h.DictOf (cG P w) a vs :=
 show bI P w H h a (.dK kvs) from LC ok e
theorem Lh(ok:HOk P w H h)(e:H a=some (.dK kvs)):kvs.length<=sizeLine/\(a == sysModules)=false/\∃vs,KV kvs vs/\h.DictOf (cG P w) a vs:=Et ok (.inl e)
theorem z6(ok:HOk P w H h)(e:H a=some (.tup (ks.map kV))):(tupleKind (cG P w)).is h ks a:=by
 obtain ⟨_,i,r,o,g,f,n,c⟩:=(show bI P w H h a (.tup (ks.map kV)) from ok a _ e)
 exact⟨o,i.toArray,n,g,f,c,by simpa using yy r⟩
theorem EW(ok:HOk P w H h)(e:Rd H a (.dT kvs)):kvs.length<=sizeLine/\(a == sysModules)=false /\
  ∃xs,KT H kvs xs/\h.DictOfH (tupleKind (cG P w)) a xs:=by
 obtain ⟨z,y,xs,r,o,es,ep,s,n,j,i,g⟩:=(show bI P w H h a (.dT kvs) from LC ok e)
 refine⟨z,y,xs,r,o,es,ep,s,n,j,i,fun x c=>?_,g⟩
 have all:∀{l:List (List Key × V)}{m:List (List Key × Addr × Value)},KT H l m->∀x∈m,(tupleKind (cG P w)).is h x.1 x.2.1:=by
  intro l m q
  induction q with
  |nil=>intro x c;exact nomatch c
  |@cons p q ps u f t ih =>
   intro x c
   rcases KE.mp c with e|c
   .subst e
    exact z6 ok (by rw[<- f.1];exact f.2.1)
   .exact ih x c
 exact all r x c
theorem Nm(ok:HOk P w H h)(e:H a=some (.dT kvs)):kvs.length<=sizeLine/\(a == sysModules)=false /\
  ∃xs,KT H kvs xs/\h.DictOfH (tupleKind (cG P w)) a xs:=EW ok (.inl e)
end
def zW(H:Hp)(a:Addr)(y:V)(r:Option V):Prop :=
 (∃kvs k,Rd H a (.dK kvs)/\y=kV k/\r=js kvs k)\/∃kvs k b,Rd H a (.dT kvs)/\y=.ref b/\H b=some (.tup (k.map kV))/\r=js kvs k
def GL(H:Hp)(a:Addr)(y v:V)(H':Hp):Prop :=
 (∃kvs k,H a=some (.dK kvs)/\y=kV k/\kvs.length<sizeLine/\H'=upd H a (.dK (putK kvs k v))) \/
 ∃kvs k b,H a=some (.dT kvs)/\y=.ref b/\H b=some (.tup (k.map kV))/\kvs.length<sizeLine/\H'=upd H a (.dT (putK kvs k v))
theorem zW.k{H:Hp}{a:Addr}{kvs:List (Key × V)}{k:Key}(e:H a=some (.dK kvs)):zW H a (kV k) (js kvs k):=.inl ⟨kvs,k,.inl e,rfl,rfl⟩
theorem GL.k{H:Hp}{a:Addr}{kvs:List (Key × V)}{k:Key}{v:V}(e:H a=some (.dK kvs))(c:kvs.length<sizeLine):GL H a (kV k) v (upd H a (.dK (putK kvs k v))):=.inl ⟨kvs,k,e,rfl,c,rfl⟩
section
variable {X:Cx}{pins:List (Addr × Obj)}{σ:St}{H:Hp}{s:Shared}{a:Addr}{y v:V}{u r:Value}{o:Option V}{A:Around}{E:Value->Shared->Prop}
theorem Inv.big(I:Inv X pins σ H s):sysModules<s.heap.objs.size:=by
 have h:mainGlobals<s.heap.objs.size:=(I.mod.glob.keeps I.bk).lt
 exact Nat.lt_trans nofun h
theorem F9(n:A.units+1<cLine)(I:Inv X pins σ H s)(g:zW H a y (some v))(ry:RelV y u)(h:∀c m,Inv X pins σ H m->RelV v c->Q c m) :
  wpAny (model X.prog X.w) A (getItem (.ref a) u) Q E s:=by
 rcases g with ⟨kvs,k,e,f,l⟩|⟨kvs,k,b,e,f,r,l⟩
 .subst f
  obtain ⟨z,hd,vs,j,dd⟩:=Et I.hok e
  obtain ⟨c,hw,i⟩:=oK.some_of (v:=v) (o:=valueAt vs k) (by rw[l];exact j.val k)
  exact wpAny_getItem_of (FD ry) dd.mapOf hw (h c _ (I.tok _) i)
 .subst f
  cases (show u=Value.ref b from ry)
  obtain ⟨z,hd,xs,j,dd⟩:=EW I.hok e
  obtain ⟨c,hw,i⟩:=oK.some_of (v:=v) (o:=(atKey xs k).map (·.2)) (by rw[l];exact j.val k)
  obtain ⟨p,q,t⟩:=Option.map_eq_some_iff.mp hw
  refine wpAny_getItem_heap (tupleKind_room_in1 n) (z6 I.hok r) dd q ?_
  rw[t]
  exact h c _ (I.tok _) i
theorem KC(j:A.units+1<cLine)(I:Inv X pins σ H s)(g:zW H a y o)(ry:RelV y u)(h:∀i,Inv X pins σ H i->Q (.bool (!o.isSome)) i) :
  wpAny (model X.prog X.w) A (compareOp .NotIn u (.ref a)) Q E s:=by
 rcases g with ⟨kvs,k,e,c,l⟩|⟨kvs,k,b,e,c,m,l⟩
 .subst c
  obtain ⟨z,hd,vs,f,dd⟩:=Et I.hok e
  refine wpAny_notIn_of (FD ry) hd dd.mapOf ?_
  rw[<- (f.val k).tI,<- l]
  exact h _ (I.tok _)
 .subst c
  cases (show u=Value.ref b from ry)
  obtain ⟨z,hd,xs,f,dd⟩:=EW I.hok e
  refine wpAny_notIn_heap (tupleKind_room_in1 j) (z6 I.hok m) hd dd ?_
  have q:=(f.val k).tI
  rw[Option.isSome_map] at q
  rw[<- q,<- l]
  exact h _ (I.tok _)
theorem zG(I:Inv X pins σ H s)(mu:Mut (H a))(c:Heap.SameBut a s.heap h')(f:∃q,h'.get? a=some q)(g:bI X.prog X.w (upd H a ob) h' a ob) :
  Inv X pins σ (upd H a ob) { s with heap:=h',toks:=t' } :=
 I.write (x:=a) (e:=a) mu (.inl rfl) (fun b q hb z=>(c.2 b hb).trans z) f g
theorem L4(z:kvs.length<=sizeLine)(hd:(a == sysModules)=false)(c:KV kvs vs)(dd:h'.DictOf (cG P w) a vs) :
  bI P w H' h' a (.dK kvs):=⟨z,hd,vs,c,dd⟩
theorem GO(F:A.units+1<cLine)(I:Inv X pins σ H s)(g:GL H a y v H')(ry:RelV y u)(rv:RelV v r)(h:∀x,Inv X pins σ H' x->Q .unit x) :
  wpAny (model X.prog X.w) A (setItem (.ref a) u r) Q E s:=by
 rcases g with ⟨kvs,k,e,p,l,t⟩|⟨kvs,k,b,e,p,C,l,t⟩
 .subst p t
  obtain ⟨z,hd,vs,f,dd⟩:=Lh I.hok e
  have m:vs.length<=sizeLine:=by rw[<- f.length];exact z
  have o:(putK kvs k v).length<=sizeLine:=by have:=ue kvs k v;omega
  refine wpAny_setItem_pairs (hsz:=m) (FD ry) dd fun h' j n=>h _ ?_
  have G:∃q,h'.get? a=some q:=let ⟨q,_,_,i,_⟩:=j;⟨q,i⟩
  exact zG I (by rw[e];exact True.intro) n G (L4 o hd (f.put k rv) j)
 .subst p t
  cases (show u=Value.ref b from ry)
  obtain ⟨z,hd,xs,f,dd⟩:=Nm I.hok e
  have m:xs.length<=sizeLine:=by rw[<- Paired.length f];exact z
  have o:(putK kvs k v).length<=sizeLine:=by have:=ue kvs k v;omega
  refine wpAny_setItem_heap (hsz:=m) (tupleKind_room_in1 F) (z6 I.hok C) dd fun h' j n=>h _ ?_
  obtain ⟨q,es,ep,i,O,M,L,_,J⟩:=j
  refine zG I (by rw[e];exact True.intro) n ⟨q,i⟩ ⟨o,hd,_,(f.put k C rv).keeps fun c ys B=>?_,q,es,ep,i,O,M,L,J⟩
  rw[au (N3 B e (fun z=>nomatch z))]
  exact B
end
def NF(i:Expr):Prop:=∀c f,subscripted i false c f=operate [c,f] (getItem c f)
theorem J1{prog:Program}{w:World}{A:Around}{E:Value->Shared->Prop}{s:Shared}{env:Env}{m c:Expr}{pos:Pos}{T id:String}{Q:Value->Shared->Prop}
  (u:typeLookup (.type T) "__getitem__" = pure (some (.builtin id))) (t:NF c)
  (h:wpAny (model prog w) A (eval m env) (fun o f=>wpAny (model prog w) A (eval c env) (fun i g=>g.TypeIs o T/\wpAny (model prog w) A (getItem o i) Q E g) E f) E s) :
  wpAny (model prog w) A (eval (.Subscript m c pos) env) Q E s:=by
 refine Subscript_ (wpAny_mono h (fun o f y=>wpAny_mono y (fun i g j=>?_) fun _ _ x=>x) fun _ _ x=>x)
 obtain ⟨p,j⟩:=j
 unfold subscriptTail
 refine wpAny_bind ?_
 rw[getitemInPython_of_ne p.not_modules]
 refine wpAny_bind (wpAny_specialOf p u ?_)
 have n:wpAny (model prog w) A (subscripted c false o i) (fun r q=>wpAny (model prog w) A (letTemporaryGo m o r >>= fun _=>pure r) Q E q) E g:=by
  rw[t o i]
  exact wpAny_operating (wpAny_mono j (fun r q v=>wpAny_bind (wpAny_letTemporaryGo (wpAny_pure v))) fun _ _ x=>x)
 first
  |exact wpAny_pure (wpAny_bind n)
  |exact wpAny_bind (wpAny_pure (wpAny_bind n))
  |exact wpAny_bind n
theorem Bw(I:Inv X pins σ H s)(g:zW H a y o):s.TypeIs (.ref a) "dict":=by
 rcases g with ⟨kvs,k,e,_,_⟩|⟨kvs,k,b,e,_,_,_⟩
 .obtain ⟨_,_,vs,_,dd⟩:=Et I.hok e
  exact dd.typeIs
 .obtain ⟨_,_,xs,_,dd⟩:=EW I.hok e
  exact dd.typeIs
def La(g ty:TE):TE:=fun c H Q=>g c H fun x h=>ty c h fun y f=>∃a v,x=.ref a/\zW f a y (some v)/\Q v f
def EN(ty g:TE):TE:=fun c H Q=>ty c H fun y h=>g c h fun x f=>∃a o,x=.ref a/\zW f a y o/\Q (.bl (!o.isSome)) f
def GR(g ty tv:TE):TS:=fun D c H=>tv c H fun v j=>g c j fun x i=>ty c i fun y h=>∃a f,x=.ref a/\GL h a y v f/\D.nx c f
section
variable {X:Cx}{o i Qd:Expr}{pos QQ:Pos}{td ty tv:TE}
theorem EU(p:X.A.units+1<cLine)(r:PE X o td)(hi:PE X i ty)(q:NF i):PE X (.Subscript o i pos) (La td ty):=by
 intro c s f H Q I h
 refine J1 PySem.F.slot_dict_getitem.lookup q (thn (r c s f H _ I h) fun u m ⟨x,E,B,rx,n⟩=>thn (hi c m f E _ B n) fun L J ⟨y,C,j,ry,a,v,ex,g,q2⟩=>?_)
 subst ex
 obtain rfl:u=Value.ref a:=rx
 exact⟨Bw j g,F9 p j g ry fun F G z t=>⟨v,C,z,t,q2⟩⟩
theorem FW(p:X.A.units+1<cLine)(hi:PE X i ty)(q:PE X o td):PC X .NotIn i o (EN ty td):=by
 intro c s f H Q I h
 refine thn (hi c s f H _ I h) fun F j ⟨y,B,v,ry,m⟩=>thn (q c j f B _ v m) fun u E ⟨x,z,t,rx,a,n,ex,g,q2⟩=>?_
 subst ex
 obtain rfl:u=Value.ref a:=rx
 exact KC p t g ry fun C r=>⟨.bl (!n.isSome),z,r,rfl,q2⟩
theorem EB(q:X.A.units+1<cLine)(z:PE X o td)(hi:PE X i ty)(p:PE X Qd tv)(t:swapsWith Qd (some (.Subscript o i QQ)) pos.line X.env=pure false) :
  PS X (.Assign [.Subscript o i QQ] Qd pos) (GR td ty tv):=by
 intro c s f H D I h
 refine wpAny_Assign_Subscript (thn (p c s f H _ I h) fun r m ⟨v,L,F,rv,n⟩=>thn (z c m f L _ F n) fun u j ⟨x,J,E,rx,q2⟩=>thn (hi c j f J _ E q2) fun P O ⟨y,Q,C,ry,a,G,ex,g,q3⟩=>?_) t
 subst ex
 obtain rfl:u=Value.ref a:=rx
 exact GO q C g ry rv fun M B=>⟨f,G,B,q3⟩
end
theorem Jr(h:Heap)(hb:sysModules<h.objs.size):bI P w H (h.push { cls:=.type "dict",data:=.dict #[] }) h.objs.size (.dK []) :=
 ⟨Pd _,beq_eq_false_iff_ne.mpr (OT (OK hb)),[],.nil,Heap.DictOf.new h⟩
def HU:TE:=fun _ H Q=>∀p,H p=none->Q (.ref p) (upd H p (.dK []))
section
variable {X:Cx}{pos:Pos}
theorem Bd:PE X (.Dict [] [] pos) HU:=fun c s f H Q I h =>
 wpAny_Dict_empty ⟨.ref s.heap.objs.size,_,I.laid (a:=s.heap.objs.size) (o:=.dK []) (t':=s.toks) (fun _ _ q=>Heap.get?_push_of_some _ q) (Ol _) (Jr s.heap I.big),rfl,h _ (I.hok.fresh (Ol _))⟩
end
end L2
namespace L3
open PySem L2
def ST0(K:aae)(t:TS)(f Γn:aad)(d:DS):Prop :=
 ∀⦃B0:Hp⦄ ⦃Dn:Ends⦄ ⦃E:aZ⦄ ⦃fps:Nat->List Addr⦄ ⦃δ:Dl⦄ ⦃c:St⦄ ⦃H:Hp⦄,(∀{fps δ H},Ok K B0 Γn fps δ c H->E.nx δ->Dn.nx c H)->Ok K B0 f fps δ c H->d E δ->t Dn c H
section
variable {K:aae}{ρ:Bool}{Γr Γl Γ Γn:aad}{t u:TS}{tb:TE}{dx:DE}{d e:DS}
variable {B0:Hp}{fps:Nat->List Addr}{δ:Dl}{σ:St}{H H':Hp}
theorem ST0.st(h:ST0 K t Γ Γn d):ST K ρ Γr Γl t Γ Γn d:=fun _ _ _ _ _ _ _ k o q=>h (fun c z=>k.nx c z) o q
def kd(δ:Dl)(i:Nat)(P:Addr->D->Prop):Prop:=match δ[i]? with|some (some (.pin a d))=>P a d|_=>False
theorem jk(h:kd δ i P):∃a d,δ[i]?=some (some (.pin a d))/\P a d:=by
 unfold kd at h;split at h
 .exact⟨_,_,by assumption,h⟩
 .exact h.elim
theorem Jo(e:δ[i]?=some (some (.pin a x)))(h:P a x):kd δ i P:=by unfold kd;rw[e];exact h
theorem Ok.Ah(o:Ok K B0 Γ fps δ σ H)(e:δ[i]?=some (some x))(h:∀v,σ[i]?=some (some v)->Rf K H x v (fps i)->Rf K H y v (fps i)):Ok K B0 Γ fps (δ.set i (some y)) σ H:=by
 have c:i<δ.length:=(oe.mp e).1
 refine⟨by rw[OS];exact o.len,o.b0,fun j d q=>?_,fun j q=>?_,o.own,o.dj⟩
 .by_cases hj:j=i
  .subst hj
   rw[OD c] at q;cases q
   obtain ⟨v,f,g⟩:=o.val j x e
   exact⟨v,f,h v f g⟩
  .rw[Gc (OT hj)] at q
   exact o.val j d q
 .by_cases hj:j=i
  .subst hj
   exact absurd (OD c) (q y)
  .exact o.non j fun d z=>q d (by rw[Gc (OT hj)];exact z)
def IK(i:Nat)(d:DS)(E:aZ)(δ:Dl):Prop:=kd δ i fun a x=>d { E with nx:=fun c=>iI i c fun f=>E.nx (c.set i (some (.pin a f))) } (δ.set i (some x))
theorem JL(i:Nat)(h:ST0 K t Γ Γn d):ST0 K t Γ Γn (IK i d):=by
 intro B0 Dn E fps δ σ H k o q
 obtain ⟨a,x,e,q⟩:=jk q
 obtain ⟨v,p,n⟩:=o.val i _ e
 obtain rfl:v=.ref a:=n.1
 have m:Ok K B0 Γ fps (δ.set i (some x)) σ H:=o.Ah e fun _ _ z=>z.2
 refine h (E:={ E with nx:=fun c=>iI i c fun f=>E.nx (c.set i (some (.pin a f))) }) (fun {u s B} j z=>?_) m q
 obtain ⟨f,e2,z⟩:=jF z
 exact k (j.Ah (y:=.pin a f) e2 fun v g r=>⟨by rw[p] at g;cases g;rfl,r⟩) z
theorem Mv(i:Nat)(h:ST0 K t Γ Γn d):ST K ρ Γr Γl t Γ Γn (IK i d):=(JL i h).st
def EL(i:Nat)(δ:Dl)(P:DK):Prop:=kd δ i fun _ x=>P x
theorem qS(i:Nat):ER K Γ (bR i) (EL i):=⟨fun δ P c k h=>by obtain ⟨a,x,e,z⟩:=jk h;exact Jo e (k _ z),fun {B0 fps δ σ H Q} o q=>by
 obtain ⟨a,x,e,q⟩:=jk q
 obtain ⟨v,e1,r⟩:=o.val i _ e
 exact⟨v,e1,q v H (Same.refl H) ⟨_,r.2⟩⟩⟩
def D.isRef:D->Bool|.lst _=>true|.dic _=>true|.pin _ _=>true|.ins _ _ _=>true|_=>false
theorem Rf.isRef(h:Rf K H x v fp)(e:x.isRef=true):∃a,v=.ref a:=by
 cases x with
 |lst ds=>obtain ⟨a,xs,c,rfl,_⟩:=h;exact⟨a,rfl⟩
 |dic ds=>obtain ⟨a,rfl,_⟩:=h;exact⟨a,rfl⟩
 |pin a d=>exact⟨a,h.1⟩
 |ins C ns ds=>obtain ⟨a,dx,xs,c,rfl,_⟩:=h;exact⟨a,rfl⟩
 |_=>cases e
abbrev DSI:=List D->(D->D->Prop)->Prop
def HP(S:DSI):Prop:=∀xs (P c:D->D->Prop),(∀r x,P r x->c r x)->S xs P->S xs c
def Hi(K:aae)(p:Nat)(vs:List V)(B:Hp)(Q:VK)(r c:D):Prop :=
 ∀w H' fp' fpw v,Same B H'->vs[p]?=some v->Rf K H' c v fp'->fp'.Nodup->(∀b∈fp',B b=none/\Mu H' b)->Rf K H' r w fpw->fpw.Nodup->(∀b∈fpw,B b=none/\Mu H' b/\b∉fp')->Q w H'
def spI(K:aae)(p:Nat)(S:DSI):Sp:=fun vs H Q _=>∃B c ds,Ok K B [p] c (ds.map some) (vs.map some) H/\(∃a,vs[p]?=some (.ref a))/\S ds (Hi K p vs B Q)
theorem KG(c:∀ds P,S ds P->ds.length=n)(h:spI K p S vs H Q E):vs.length=n:=by
 obtain ⟨B,f,ds,o,_,h⟩:=h
 have:=o.len
 rw[dz,dz] at this
 rw[this];exact c _ _ h
abbrev Lm(p:Nat)(a:Addr)(P:D->D->Prop):aZ:=⟨fun δ=>kd δ p fun c x=>c=a/\P .non x,fun r δ=>kd δ p fun c x=>c=a/\P r x,fun _=>False,fun _=>False⟩
theorem FH{p:Nat}{N:List Str}{ds:List D}{vs:List V}{f:Nat->List Addr}{a:Addr}(o:Ok K B0 [p] f (ds.map some) (vs.map some) H)(ha:vs[p]?=some (.ref a)){x:D}(g:ds[p]?=some x) :
  Ok K B0 [p] f (bA N (ds.set p (.pin a x))) (L2.start N vs) H:=by
 have n:vs.length=ds.length:=by have:=o.len;rwa [dz,dz] at this
 have m:p<ds.length:=(oe.mp g).1
 have c:Ok K B0 [p] f ((ds.map some).set p (some (.pin a x))) (vs.map some) H:=o.Ah (x:=x) (by rw[ox,g];rfl) fun v h r=>⟨by rw[ox,ha] at h;cases h;rfl,r⟩
 have e:(ds.map some).set p (some (.pin a x))=(ds.set p (.pin a x)).map some:=by rw[QV]
 rw[e] at c
 have j:(ds.set p (.pin a x)).length=ds.length:=OS
 generalize ds.set p (.pin a x)=ds1 at *
 unfold bA L2.start
 refine⟨by rw[Ox,Ox,dz,dz,OH,OH];omega,c.b0,fun i d q=>?_,fun i q=>?_,c.own,c.dj⟩
 .by_cases hi:i<ds1.length
  .rw[OE (by simpa using hi)] at q
   rw[OE (by rw[dz];omega)]
   exact c.val i d q
  .rw[OI (by simpa using hi),O5] at q
   split at q<;>cases q
 .refine c.non i fun d z=>q d ?_
  have:i<ds1.length:=by simpa using (oe.mp z).1
  rw[OE (by simpa using this)]
  exact z
theorem KI(y:ST K true [p] [] t [p] Γn d)(hd:∀ds P a x,S ds P->ds[p]?=some x->d (Lm p a P) (bA N (ds.set p (.pin a x))))(g:p∈Γn:=by decide)(C:∀ds P,S ds P->p<ds.length) :
  ∀{vs H Q E},spI K p S vs H Q E->t { nx:=fun _ H'=>Q .non H',rt:=Q } (L2.start N vs) H:=by
 rintro vs H Q E ⟨B,L,ds,o,⟨a,ha⟩,h⟩
 have G:=C _ _ h
 obtain ⟨x,j⟩:∃x,ds[p]?=some x:=⟨_,ab G⟩
 have q:∀{Γ' fps δ σ H' r w fpw},p∈Γ'->Ok K B Γ' fps δ σ H'->Rf K H' r w fpw->fpw.Nodup->(∀b∈fpw,B b=none/\Mu H' b/\b∉fps p)->(kd δ p fun f x=>f=a/\Hi K p vs B Q r x)->Q w H':=by
  intro Γ' fps δ σ H' r w fpw m c u nd fr z
  obtain ⟨f,I,e,F,s⟩:=jk z
  subst F
  obtain ⟨v,J,n⟩:=c.val p _ e
  obtain rfl:v=.ref f:=n.1
  exact s w H' (fps p) fpw (.ref f) c.b0 ha n.2 (c.own p m).1 (fun b hb=>(c.own p m).2 b hb) u nd fr
 refine y (E:=Lm p a (Hi K p vs B Q)) ⟨fun c z=>?_,fun _ (z:False)=>z.elim,fun _ (z:False)=>z.elim,fun c r i z=>?_⟩ (FH o ha j) (hd ds _ a x h j)
 .exact q (r:=.non) (w:=.non) (fpw:=[]) g c ⟨rfl,rfl⟩ Pl (fun b hb=>(nomatch hb)) z
 .exact q (mo.mpr rfl) c r (i rfl).nd (fun b hb=>⟨(i rfl).nw b hb,(i rfl).mu b hb,(i rfl).dj p (mo.mpr rfl) b hb⟩) z
theorem Ok.less(o:Ok K B0 Γ fps δ σ H)(hi:i∈Γ):Same B0 (fun b=>if b∈fps i then none else H b)/\Same (fun b=>if b∈fps i then none else H b) H:=by
 have key:∀b u,B0 b=some u->b∉fps i:=fun b u e hb=>by
  have:=((o.own i hi).2 b hb).1
  rw[e] at this;cases this
 refine⟨⟨fun b u e n=>?_,fun b ps e=>?_,fun P t=>?_⟩,Same.all fun b u e=>?_⟩
 .show (if _ then _ else _)=_
  rw[if_neg (key b u e)]
  exact o.b0.st b u e n
 .obtain ⟨f,z⟩:=o.b0.tb b ps e
  refine⟨f,?_⟩
  show (if _ then _ else _)=_
  rw[if_neg (key b _ e)];exact z
 .obtain ⟨s,q,_⟩:=id t
  obtain ⟨ps,e,p,m⟩:=o.b0.ti P t
  refine⟨ps,?_,p,fun pos r z=>?_⟩
  .show (if _ then _ else _)=_
   rw[if_neg (key P _ q)];exact e
  .obtain ⟨c,h,g⟩:=m pos r z
   refine⟨c,h,?_⟩
   show (if _ then _ else _)=_
   rw[if_neg (fun j=>AJ g ((o.own i hi).2 c j).2)];exact g
 .by_cases z:b∈fps i
  .simp only[if_pos z] at e;cases e
  .simp only[if_neg z] at e;exact e
end
end L3
namespace L2
open PySem PySem.Spec PyProof.Rows
section
variable {X:Cx}
def HK(K:aae):V->List V->Hp->VK->Prop:=fun x vs H Q=>∃(l:Addr) (xs:List V) (y:V) (j:Nat),x=.ref l/\vs=[y]/\H l=some (.lst xs)/\gR y=true/\xs.all gR=true/\(∃z,xs[j]?=some z/\eqV z y=true)/\(∀m z,m<j->xs[m]?=some z->eqV z y=false)/\Q (.int j) H
theorem B3:MtM X "list.index" (HK X.K):=by
 intro i s O H x vs v us Q I rx rv h
 obtain ⟨l,xs,y,j,rfl,rfl,C,E,fs,⟨z,o,J⟩,hb,q⟩:=h
 cases rx
 obtain ⟨u,rfl,t⟩:=vals1 rv
 obtain ⟨P,f,n,r,B,e⟩:=I.CO C
 have hj:j<xs.length:=(oe.mp o).1
 have key:∀m (hm:m<f.toArray.size) w,xs[m]?=some w->eqU y f.toArray[m]=eqV w y:=fun m hm w hw=>by
  obtain ⟨p,M,L⟩:=r.get hw
  have G:gR w=true:=OP.mp fs w (OV hw)
  have:f.toArray[m]=p:=by
   have:=(oe.mp M).2
   simpa using this
  rw[this]
  exact Dz L G
 have hsz:f.toArray.size=xs.length:=by simp [B]
 refine call_meets F.slot_list_index ⟨_,e,rfl⟩ F.entry_list_index (F.args_list_index_2 _ _) (SeqAt.list_indexAt l f.toArray n none #[] u (eqU y) j () ?_ ?_ (fun m hm g=>?_)) ⟨e,fun w hw=>lE t E r fs w (by simpa using hw),?_⟩
 .have:sizeLine<2 ^ 63 - 1:=by decide
  omega
 .rw[key j () z o];exact J
 .have c:m<xs.length:=()
  rw[key m hm _ (ab c)]
  exact hb m _ g (ab c)
 .exact⟨.int j,H,I.tok _,⟨_,rfl⟩,q⟩
end
section
variable {X:Cx}{K:aae}
theorem qT(p:X.K=K):gG X (.builtin "sorted") (fun xs H Q=>∃(a:Addr) (ns:aab),xs=[.ref a]/\SqL K H a (ns.map V.int)/\ns.length<64 /\
  ∀(l:Addr) (c:aab),H l=none->c.Perm ns->c.Pairwise (·<=·)->Q (.ref l) (upd H l (.lst (c.map V.int)))):=by
 subst p
 intro f s v H xs us Q I r h
 obtain ⟨a,ns,rfl,m,x,q⟩:=h
 obtain ⟨u,rfl,g⟩:=vals1 r
 obtain rfl:u=Value.ref a:=g
 obtain ⟨t,rv,pl,_⟩:=I.list m
 have i:=rv.length
 rw[dz] at i
 refine sorted_ints pl.isList (jN rv) () fun out c a1 a2 a3=>?_
 obtain ⟨n,j⟩:=sortedAll_at s.heap t out
 have hn:H (s.heap.objs.size+1)=none:=I.hok.fresh (Pk _)
 have y:=a2.length_eq
 refine⟨.ref (s.heap.objs.size+1),_,I.laid (t':=s.toks) (o:=.lst (c.map V.int)) (fun b o e=>sortedAll_old e) (Pk _) ⟨?_,out.toList,n,gu a1,?_⟩,rfl,q _ c hn a2 a3⟩
 .rw[dz];exact small ()
 .exact j
end
end L2
namespace L3
open PySem L2
section
variable {K:aae}{Γ:aad}{u:TS}{ta td ty tv:TE}{da dd dk dv:DE}{d e:DS}
def ofV:V->D|.non=>.non|.bl b=>.bl b|.int i=>.int i|.str x=>.str x|_=>.non
theorem Rf.ofV{H:Hp}{v:V}(h:gR v=true):Rf K H (ofV v) v []:=by
 cases v<;>first|exact⟨rfl,rfl⟩|cases h
theorem Fd:EM K Γ [] HU (vC (.dic [])):=⟨fun _ _ _ k h=>k _ h,fun {B0 fps δ f H Q} o q p c=>q (.ref p) _ [p] (Same.gQ c) ⟨p,rfl,aq,fun _ h=>(nomatch h),rfl⟩
 ⟨by simp,fun a ha=>by cases mo.mp ha;exact .inr (.inl ⟨_,aq⟩),fun a ha=>by cases mo.mp ha;exact .inl c⟩⟩
def xx(x:D)(P:List (Key × V)->Prop):Prop:=match x with|.dic kvs=>P kvs|_=>False
theorem hZ(h:xx x P):∃kvs,x=.dic kvs/\P kvs:=by
 unfold xx at h;split at h
 .exact⟨_,rfl,h⟩
 .exact h.elim
def asV(o:Option V)(P:V->Prop):Prop:=match o with|some v=>P v|none=>False
theorem D8(h:asV o P):∃v,o=some v/\P v:=by
 unfold asV at h;split at h
 .exact⟨_,rfl,h⟩
 .exact h.elim
theorem AD(e:o=some v)(h:P v):asV o P:=by rw[e];exact h
def Ei(dd c:DE)(δ:Dl)(P:DK):Prop:=dd δ fun x=>c δ fun y=>asI [y] fun n=>xx x fun kvs=>asV (js kvs (.inl n)) fun v=>P (ofV v)
theorem Io{kvs:List (Key × V)}{k:Key}{v:V}(h:js kvs k=some v):∃p∈kvs,p.2=v:=by
 unfold js at h
 cases q:kvs.find? fun c=>decide (c.1=k) with
 |none=>rw[q] at h;cases h
 |some p=>rw[q] at h;cases h;exact⟨p,Qr q,rfl⟩
theorem Fn(hd:ER K Γ td dd)(c:ER K Γ ty dk):ER K Γ (La td ty) (Ei dd dk) :=
 ⟨fun δ P t k h=>hd.mono _ _ _ (fun x z=>c.mono _ _ _ (fun y z=>by
   obtain ⟨n,rfl,z⟩:=bF z
   obtain ⟨kvs,rfl,z⟩:=hZ z
   obtain ⟨v,e,z⟩:=D8 z
   exact AD e (k _ z)) z) h,
 fun {B0 fps δ s H Q} o h=>hd.run o (hd.mono _ _ _ (fun x z v B g j=>c.run (o.same g) (c.mono _ _ _ (fun y z w r f i=>by
   obtain ⟨n,rfl,z⟩:=bF z
   obtain ⟨kvs,rfl,z⟩:=hZ z
   obtain ⟨u,e,z⟩:=D8 z
   obtain ⟨fp,a,rfl,ha,q,_⟩:=j
   obtain ⟨p,m,rfl⟩:=Io e
   refine⟨a,p.2,rfl,?_,z _ r (g.trans f) ⟨[],Rf.ofV (q p m)⟩⟩
   rw[i.int]
   have:=zW.k (k:=Sum.inl n) (f.st _ _ ha trivial)
   rw[e] at this
   exact this) z)) h)⟩
def Kd(f:Bool)(c dd:DE)(δ:Dl)(P:DK):Prop:=c δ fun y=>dd δ fun x=>asI [y] fun n=>xx x fun kvs=>P (.bl (if f then !(js kvs (.inl n)).isSome else (js kvs (.inl n)).isSome))
theorem Gq(c:ER K Γ ty dk)(hd:ER K Γ td dd):EM K Γ [] (EN ty td) (Kd true dk dd) :=
 ⟨fun δ P r k h=>c.mono _ _ _ (fun x z=>hd.mono _ _ _ (fun y z=>by
   obtain ⟨n,rfl,z⟩:=bF z
   obtain ⟨kvs,rfl,z⟩:=hZ z
   exact k _ z) z) h,
 fun {B0 fps δ p H Q} o h=>c.run o (c.mono _ _ _ (fun x z v s f j=>hd.run (o.same f) (hd.mono _ _ _ (fun y z w m g i=>by
   obtain ⟨n,rfl,z⟩:=bF z
   obtain ⟨kvs,rfl,z⟩:=hZ z
   obtain ⟨fp,a,rfl,ha,q,_⟩:=i
   rw[j.int]
   exact⟨a,_,rfl,zW.k (k:=Sum.inl n) ha,z _ m [] (f.trans g) ⟨rfl,rfl⟩ Nw.nil⟩) z)) h)⟩
theorem yk{kvs:List (Key × V)}{k:Key}{v:V}(h:∀p∈kvs,gR p.2=true)(f:gR v=true):∀p∈putK kvs k v,gR p.2=true:=by
 intro p c
 unfold putK at c
 split at c
 .obtain ⟨q,g,rfl⟩:=Oo.mp c
  split
  .exact f
  .exact h q g
 .rcases Oj.mp c with z|z
  .exact h p z
  .cases mo.mp z;exact f
def D9(δ:Dl)(i:Nat)(P:List (Key × V)->Prop):Prop:=iI i δ fun x=>xx x P
def Ea(i:Nat)(f c:DE)(E:aZ)(δ:Dl):Prop:=c δ fun x=>x.ax=true/\D9 δ i fun kvs=>f δ fun y=>asI [y] fun n=>kvs.length<1000/\E.nx (δ.set i (some (.dic (putK kvs (.inl n) x.toV))))
theorem GU(i:Nat)(m:ER K Γ ty dk)(j:ER K Γ tv dv)(hi:i∈Γ:=by decide):ST0 K (GR (bR i) ty tv) Γ Γ (Ea i dk dv):=by
 intro B0 Dn E fps δ G H k o h
 refine j.run o (j.mono _ _ _ (fun x z v I s r=>?_) h)
 obtain ⟨f,z⟩:=z
 obtain ⟨fp,r⟩:=r
 obtain ⟨rfl,rfl⟩:=r.ax f
 obtain ⟨d,e,z⟩:=jF z
 obtain ⟨kvs,rfl,z⟩:=hZ z
 have c:=o.same s
 obtain ⟨v,p,C⟩:=c.val i _ e
 obtain ⟨a,rfl,ha,B,q⟩:=id C
 refine⟨.ref a,p,m.run c (m.mono _ _ _ (fun y z w F g t=>?_) z)⟩
 obtain ⟨n,rfl,z⟩:=bF z
 have u:=c.same g
 refine⟨a,upd F a (.dK (putK kvs (.inl n) x.toV)),rfl,?_,k (u.write hi (d':=.dic (putK kvs (.inl n) x.toV)) (fp':=[a]) p ⟨a,rfl,aq,yk B (jm f),rfl⟩ (by simp) (fun b hb=>?_) (fun b hb=>?_) ?_) z.2⟩
 .rw[t.int]
  exact GL.k (k:=Sum.inl n) (g.st _ _ ha trivial) (yc (QF z.1))
 .cases mo.mp hb;exact .inr (.inl ⟨_,aq⟩)
 .cases mo.mp hb;rw[q];exact .inl (mo.mpr rfl)
 .rw[q];exact uL (mo.mpr rfl)
def Af(f c:DE)(δ:Dl)(P:DK):Prop:=f δ fun x=>qz (some x) fun ds=>ds.all D.ax=true/\c δ fun y=>y.ax=true/\∃j:Nat,(∃z,ds[j]?=some z/\eqV z.toV y.toV=true)/\(∀m z,m<j->ds[m]?=some z->eqV z.toV y.toV=false)/\P (.int j)
theorem Bh(ha:ER K Γ ta da)(p:ER K Γ ty dk):EM K Γ [] (tBM K "list" (HK K) ta (bx ty gT)) (Af da dk) :=
 ⟨fun δ P R k h=>ha.mono _ _ _ (fun x z=>by
   obtain ⟨ds,e,c,z⟩:=lA z
   refine qK e ⟨c,p.mono _ _ _ (fun y z=>?_) z⟩
   obtain ⟨f,j,B,i,g⟩:=z
   exact⟨f,j,B,i,k _ g⟩) h,
 fun {B0 fps δ L H Q} o h=>by
  refine ha.run o (ha.mono _ _ _ (fun x z v T s E=>?_) h)
  obtain ⟨ds,e,c,C⟩:=lA z
  clear z
  cases e
  obtain ⟨fp,a,xs,M,rfl,t,_,rs⟩:=E
  obtain ⟨rfl,_⟩:=rs.gS c
  refine⟨.inl ⟨rfl,_,.inl (.inl t)⟩,p.run (o.same s) (p.mono _ _ _ (fun y z w J r n=>?_) C)⟩
  obtain ⟨f,j,⟨u,G,I⟩,i,g⟩:=z
  obtain ⟨O,n⟩:=n
  obtain ⟨rfl,_⟩:=n.ax f
  refine⟨a,_,_,j,rfl,rfl,r.st _ _ t trivial,jm f,?_,⟨u.toV,by rw[ox,G];rfl,I⟩,fun m w hm hw=>?_,g _ J [] (s.trans r) ⟨rfl,rfl⟩ Nw.nil⟩
  .rw[Qb,OP]
   rw[OP] at c
   exact fun y F=>jm (c y F)
  .rw[ox] at hw
   cases q:ds[m]? with
   |none=>rw[q] at hw;cases hw
   |some d=>rw[q] at hw;cases hw;exact i m d hm q⟩
def Cf(xs:List D)(P:DK):Prop:=match xs with|[x]=>AU x fun ns=>ns.length<64/\∀c:aab,c.Perm ns->c.Pairwise (·<=·)->P (dI c)|_=>False
theorem CI:Cf [dI ns] P↔ns.length<64/\∀c:aab,c.Perm ns->c.Pairwise (·<=·)->P (dI c):=oH
theorem Jp:mz K (fun xs H Q=>∃(a:Addr) (ns:aab),xs=[.ref a]/\SqL K H a (ns.map V.int)/\ns.length<64/\∀(l:Addr) (c:aab),H l=none->c.Perm ns->c.Pairwise (·<=·)->Q (.ref l) (upd H l (.lst (c.map V.int)))) Cf :=
 ⟨fun xs P o k h=>by
  unfold Cf at h ⊢
  revert h
  split
  .exact fun h=>by obtain ⟨ns,e,z⟩:=eG h;exact rS e ⟨z.1,fun c a b=>k _ (z.2 c a b)⟩
  .exact id,
 fun {H xs vs Q} r h=>by
  unfold Cf at h
  split at h
  .obtain ⟨v,rfl,i⟩:=r.one
   obtain ⟨ns,e,z⟩:=eG h
   obtain ⟨a,ys,n,rfl,f,hr⟩:=i.seq e
   rw[hr.wI] at f
   exact⟨a,ns,rfl,f,z.1,fun l c g j m=>z.2 c j m _ _ [l] (Same.gQ g) (Rf.ofInts aq) (Nw.one g aq).any⟩
  .exact h.elim⟩
theorem sS:(D.lst ds).isRef=true:=rfl
theorem AK:ofV (.int i)=.int i:=rfl
theorem CH:ofV (.bl b)=.bl b:=rfl
theorem Ab:ofV .non=.non:=rfl
end
end L3
namespace Mat
theorem yt:∀{l l':aad},l.Nodup->(∀x∈l,x∈l')->l.length<=l'.length
 |[],_,_,_=>Pd _
 |x::l,l',h,s=>by
  obtain ⟨i,g⟩:=Om.mp h
  have f:=s x k0
  have:=yt (l':=l'.erase x) g fun y c=>(List.mem_erase_of_ne (fun z=>i (by rw[<- z];exact c))).mpr (s y (gV _ c))
  rw[List.length_erase_of_mem f] at this
  have:0<l'.length:=List.length_pos_of_mem f
  rw[H0];omega
theorem wL{l:aad}{n:Nat}(h:l.Nodup)(f:∀x∈l,x<n):l.length<=n:=by
 have:=yt h (l':=List.range n) fun x c=>OL.mpr (f x c)
 rwa [Ot] at this
end Mat
namespace L2
open PySem PySem.Spec PyProof.Rows
theorem qt.cons(h:i<k)(m:qt k u):qt k (HF (dZ i) u):=fun x f H Q ⟨v,r,e,q⟩=>⟨v,r,e,by
 have q2:=m r (f.set i (some v)) H Q q
 have e1:(fun (c:St) (g:Hp)=>Q c g/\c.length=(f.set i (some v)).length/\∀j,k<=j->c[j]?=(f.set i (some v))[j]?)=fun c g=>Q c g/\c.length=f.length/\∀j,k<=j->c[j]?=f[j]?:=by
  funext c g
  refine propext ⟨fun z=>⟨z.1,by rw[z.2.1,OS],fun j hj=>by rw[z.2.2 j hj,Gc ()]⟩,fun z=>⟨z.1,by rw[z.2.1,OS],fun j hj=>by rw[z.2.2 j hj,Gc ()]⟩⟩
 rw[e1] at q2
 exact q2⟩
theorem iC.tup{K:aae}{k n:Nat}{u:TGs}(f:qt k u):iC k (J4 K n u):=fun x c H Q ⟨a,xs,e,g,h,q⟩=>⟨a,xs,e,g,h,f xs c H Q q⟩
end L2
namespace L3
open PySem L2
section
variable {K:aae}{Γ:aad}{d e:DS}
theorem Ok.LD(o:Ok K B0 Γ fps δ σ H)(j:Nat)(hj:j∉Γ)(c:σ'.length=σ.length)(f:∀l,l≠j->σ'[l]?=σ[l]?):Ok K B0 Γ (fun i=>if i=j then [] else fps i) (δ.set j none) σ' H:=by
 refine⟨by simp [o.len,c],o.b0,fun i d e=>?_,fun i h=>?_,fun i hi=>?_,fun i hi k g a ha=>?_⟩
 .by_cases h:i=j
  .subst h
   rw[Pc] at e
   by_cases c:i<δ.length
   .simp [c] at e
   .simp [c] at e
  .rw[Gc (OT h)] at e
   rw[f i h,if_neg h]
   exact o.val i d e
 .by_cases h':i=j
  .rw[if_pos h']
  .rw[if_neg h'];exact o.non i fun d z=>h d (by rw[Gc (OT h')];exact z)
 .have h:i≠j:=fun z=>hj (by rw[<- z];exact hi)
  rw[if_neg h];exact o.own i hi
 .have h:i≠j:=fun z=>hj (by rw[<- z];exact hi)
  rw[if_neg h] at ha
  split
  .exact OF
  .exact o.dj i hi k g a ha
end
end L3
namespace L2
open PySem
theorem Be(c:X.K=K):gG X (.type "tuple") (fun xs H Q=>∃p ys,xs=[.ref p]/\((SqL K H p ys/\∀l,H l=none->Q (.ref l) (upd H l (.tup ys)))\/(SqT K H p ys/\Q (.ref p) H))):=by subst c;exact x8
end L2
namespace L3
open PySem L2
section
variable {K:aae}{Γ:aad}{u:TS}{ta ti:TE}{da di:DE}{d e:DS}
theorem Rfs.Je{H:Hp}:∀{ds:List D}{vs:List V}{fp:List Addr}{i:Nat}{d:D},Rfs K H ds vs fp->fp.Nodup->ds[i]?=some d->∃v f,vs[i]?=some v/\Rf K H d v f/\(∀a∈f,a∈fp)/\f.Nodup
 |[],_,_,_,_,_,_,e=>by simp at e
 |d::ds,vs,fp,0,d',h,n,e=>by
  obtain ⟨x,r,j,p,rfl,rfl,g,c⟩:=h
  simp at e;subst e
  exact⟨x,j,rfl,g,fun a ha=>Oq _ ha,(Ow.mp n).1⟩
 |d::ds,vs,fp,i+1,d',h,n,e=>by
  obtain ⟨x,r,j,p,rfl,rfl,g,c⟩:=h
  obtain ⟨v,f,e1,o,k,m⟩:=Rfs.Je (i:=i) c (Ow.mp n).2.1 (by simpa using e)
  exact⟨v,f,by simpa using e1,o,fun a ha=>Fk _ (k a ha),m⟩
theorem Jd(h:oO x y P):∃ds i d,x=.tup ds/\y=.int i/\atI ds i=some d/\P d:=by
 unfold oO at h
 split at h
 .split at h
  .exact⟨_,_,_,rfl,rfl,by assumption,h⟩
  .exact h.elim
 .exact h.elim
theorem LJ{ds:List D}{i:Int}{d:D}{P:DK}(e:atI ds i=some d)(h:P d):oO (.tup ds) (.int i) P:=by
 show (match atI ds i with|some d=>P d|none=>False)
 rw[e];exact h
theorem HZ(ha:EM K Γ [] ta da)(hi:ER K Γ ti di):EM K Γ [] (tOp (xP K) ta ti) (vOp oO da di) :=
 ⟨fun δ P J k h=>ha.mono _ _ _ (fun x z=>hi.mono _ _ _ (fun y z=>by
   obtain ⟨ds,i,d,rfl,rfl,e,m⟩:=Jd z
   exact LJ e (k _ m)) z) h,
 fun {B0 fps δ I H Q} o h=>ha.run o (ha.mono _ _ _ (fun x z v L fp p B n1=>hi.run (o.same p) (hi.mono _ _ _ (fun y z w G g t=>by
   obtain ⟨ds,i,d,rfl,rfl,c,m⟩:=Jd z
   obtain ⟨a,xs,rfl,ha,hr⟩:=B
   have F:∃j,ixN ds.length i=some j/\ds[j]?=some d:=by
    unfold atI at c
    cases q:ixN ds.length i with
    |none=>rw[q] at c;cases c
    |some j=>rw[q] at c;exact⟨j,rfl,c⟩
   obtain ⟨j,E,n⟩:=F
   obtain ⟨u,f,C,s,r,hn⟩:=hr.Je n1.nd n
   exact⟨a,xs,i,u,rfl,t.int,.inl (.inl (g.st _ _ ha trivial)),by unfold atI;rw[hr.length,E];exact C,m u G f (p.trans g) (s.same g) ⟨hn,fun b hb=>(n1.mu b (r b hb)).same g,fun b hb=>n1.src b (r b hb)⟩⟩) z)) h)⟩
def AH(xs:List D)(P:DK):Prop:=match xs with|[x]=>asL x fun ds=>ds.all D.ax=true/\P (.tup ds)|_=>False
theorem KN:mz K (fun xs H Q=>∃p ys,xs=[.ref p]/\((SqL K H p ys/\∀l,H l=none->Q (.ref l) (upd H l (.tup ys)))\/(SqT K H p ys/\Q (.ref p) H))) AH :=
 ⟨fun xs P m k h=>by
  unfold AH at h ⊢
  revert h
  split
  .exact fun h=>by obtain ⟨ds,e,z⟩:=bq h;exact gh e ⟨z.1,k _ z.2⟩
  .exact id,
 fun {H xs vs Q} r h=>by
  unfold AH at h
  split at h
  .obtain ⟨v,rfl,g⟩:=r.one
   obtain ⟨ds,e,f,z⟩:=bq h
   obtain ⟨a,ys,j,rfl,i,hr⟩:=g.seq e
   obtain ⟨rfl,rfl⟩:=hr.gS f
   exact⟨a,_,rfl,.inl ⟨i,fun l c=>z _ _ [] (Same.gQ c) ⟨l,_,rfl,aq,hr.same (Same.gQ c)⟩ Nw.nil⟩⟩
  .exact h.elim⟩
end
def isNum:D->Bool|.int _=>true|_=>false
def kn(d:D):Bool:=d.tyn.isSome
end L3
namespace L2
open PySem PySem.Spec PyProof.Rows
theorem KL{X:Cx}{K:aae}{e:Expr}{f:Str}{pos:Pos}{c:TE}(h:X.K=K)(g:PE X e c)(hb:attributeBase e f X.env (eval e X.env)=eval e X.env):PE X (.Attribute e f pos) (pQ K c f):=h▸Mw g hb
theorem gJ{X:Cx}{K:aae}{o c:Expr}{f:Str}{pos h:Pos}{g tv:TE}(m:X.K=K)(ha:PE X o g)(i:PE X c tv)(j:swapsWith c (some (.Attribute o f h)) pos.line X.env=pure false):PS X (.Assign [.Attribute o f h] c pos) (Dy K g tv f):=m▸MY ha i j
structure lz(K:aae)(C:Addr)(x qual:Str)(st:Stmt)(ps:List Str)(f:Addr)(fd:FuncData):Prop where
 fn:Fun K x qual st f fd
 mt:Meth K C x f
 bd:Binds K fd ps []
structure x6(K:aae)(mg:Str->Option Value)(n:Str)(C:Addr)(qual:Str)(st:Stmt)(ps:List Str)(f:Addr)(fd:FuncData):Prop where
 fn:Fun K "__init__" qual st f fd
 mkk:Mk K C f
 bd:Binds K fd ps []
 mg:mg n=some (.ref C)
structure FL(K:aae)(C:Addr):Prop where
 cl:Cls K C
 ha:PySem.W.findIn K (.ref C) "__class__" = some (some (.builtin "object.__class__"))
 hn:PySem.W.specialIn K (.builtin "object.__class__") "__get__" = some (some (.builtin "getset_descriptor.__get__"))
 ht:PySem.W.takesIn K (.builtin "object.__class__")=some true
 hm:PySem.W.mroIn K C (.type "object")=some true
theorem aT{f:Str}{v:V}:∀{ns:List Str}{xs:List V}{i:Nat},ns.Nodup->ns[i]?=some f->xs[i]?=some v->(ns.zip xs).lookup f=some v
 |[],_,i,_,e,_=>by simp at e
 |_::_,[],i,_,_,e=>by simp at e
 |n::ns,x::xs,0,_,e1,e2=>by
  simp at e1 e2
  subst e1;subst e2
  simp
 |n::ns,x::xs,i+1,hd,e1,e2=>by
  obtain ⟨g,c⟩:=Om.mp hd
  simp only[P5] at e1 e2
  have h:f≠n:=fun z=>g (z▸OV e1)
  rw[QB,Qo,beq_eq_false_iff_ne.mpr h]
  exact aT c e1 e2
theorem eR{f:Str}:∀{ns:List Str}{xs:List V},f∉ns->(ns.zip xs).lookup f=none
 |[],_,_=>by simp
 |_::_,[],_=>by simp
 |n::ns,x::xs,h=>by
  have c:f≠n:=fun z=>h (z▸k0)
  rw[QB,Qo,beq_eq_false_iff_ne.mpr c]
  exact eR fun z=>h (gV _ z)
theorem Bp{f:Str}{v:V}:∀{ns:List Str}{xs:List V},f∉ns->ns.length=xs.length->kJ f v (ns.zip xs)=(ns++[f]).zip (xs++[v])
 |[],[],_,_=>rfl
 |[],_::_,_,h=>by simp at h
 |_::_,[],_,h=>by simp at h
 |n::ns,x::xs,h,c=>by
  have g:n≠f:=fun z=>h (z▸k0)
  rw[QB,kJ,if_neg g,Bp (fun z=>h (gV _ z)) (by simpa using c)]
  rfl
end L2
namespace L3
open PySem L2
section
variable {K:aae}{Γ:aad}{t u ta:TE}{d e da:DE}{C:Addr}{ns:List Str}{f:Str}
def asF(C:Addr)(ns:List Str)(i:Nat)(x:D)(P:DK):Prop:=match x with|.ins f c ds=>(f=C/\c=ns)/\asO (ds[i]?) P|_=>False
theorem AX:asF C ns i (.ins C ns ds) P=asO (ds[i]?) P:=by
 unfold asF
 simp
theorem AA(h:asF C ns i x P):∃ds y,x=.ins C ns ds/\ds[i]?=some y/\P y:=by
 cases x with
 |ins f c ds =>
  obtain ⟨⟨rfl,rfl⟩,h⟩:=h
  obtain ⟨y,e,h⟩:=K8 h
  exact⟨ds,y,rfl,e,h⟩
 |_=>exact h.elim
theorem Bf(k:∀z,P z->P' z)(h:asF C ns i x P):asF C ns i x P':=by
 obtain ⟨ds,y,rfl,e,h⟩:=AA h
 rw[AX,e]
 exact k _ h
def Jg(C:Addr)(ns:List Str)(i:Nat)(c:DE)(δ:Dl)(P:DK):Prop:=c δ fun x=>asF C ns i x P
theorem MJ(ns:List Str)(i:Nat)(m:Cls K C)(hn:bB K C f)(ha:ER K Γ ta da)(hi:ns[i]?=some f:=by rfl)(hd:ns.Nodup:=by decide +kernel):ER K Γ (pQ K ta f) (Jg C ns i da) :=
 ⟨fun δ P t k h=>ha.mono _ _ _ (fun x z=>Bf k z) h,
 fun o q=>ha.run o (ha.mono _ _ _ (fun x z v r c j=>by
  obtain ⟨ds,y,rfl,e,z⟩:=AA z
  obtain ⟨fp,a,dx,xs,s,rfl,n,_,hr⟩:=j
  obtain ⟨w,p,e1,g,_⟩:=hr.get e
  exact⟨a,C,dx,_,w,rfl,n,m,hn,aT hd hi e1,z w r c ⟨p,g⟩⟩) q)⟩
theorem bw(ns:List Str)(i:Nat)(n:Cls K C)(hn:bB K C f)(ha:ES K Γ ta da)(hi:ns[i]?=some f:=by rfl)(hd:ns.Nodup:=by decide +kernel):ES K Γ (pQ K ta f) (Jg C ns i da) :=
 ⟨fun δ P u k h=>ha.mono _ _ _ (fun x z=>Bf k z) h,
 fun o q=>ha.run o (ha.mono _ _ _ (fun x z v s fp c m n1=>by
  obtain ⟨ds,y,rfl,e,z⟩:=AA z
  obtain ⟨a,dx,xs,t,rfl,p,rfl,hr⟩:=m
  obtain ⟨w,r,e1,g,k⟩:=hr.get e
  exact⟨a,C,dx,_,w,rfl,p,n,hn,aT hd hi e1,z w s r c g fun j hj b hb=>n1 j hj b (gV _ (k b hb))⟩) q)⟩
def isI(C:Addr)(ns:List Str)(x:D):Prop:=match x with|.ins f c _=>f=C/\c=ns|_=>False
theorem Eb:isI C ns (.ins C ns ds)=True:=by
 unfold isI
 simp
theorem K2(h:isI C ns x):∃ds,x=.ins C ns ds:=by
 cases x with
 |ins f c ds=>obtain ⟨rfl,rfl⟩:=h;exact⟨ds,rfl⟩
 |_=>exact h.elim
def Fp(C:Addr)(ns:List Str)(S:DSp)(f:DE)(c:DA)(δ:Dl)(P:DK):Prop:=f δ fun x=>isI C ns x/\c δ fun xs=>S (x::xs) P
theorem ic(ns:List Str)(i:aB S)(ha:ER K Γ ta da)(hr:AR K Γ w dr)(hm:m∉ns:=by decide +kernel):EM K Γ [] (Bm C m (spP K S) [] E ta w) (Fp C ns S da dr) :=
 ⟨fun δ P T k h=>ha.mono _ _ _ (fun x z=>⟨z.1,hr.mono _ _ _ (fun y z=>i _ _ _ k z) z.2⟩) h,
 fun {B0 fps δ M H Q} o q=>ha.run o (ha.mono _ _ _ (fun x z v X f g=>by
  obtain ⟨B,t⟩:=z
  obtain ⟨ds,rfl⟩:=K2 B
  obtain ⟨fp,a,dx,xs,R,rfl,I,e,O⟩:=id g
  refine⟨a,dx,_,rfl,I,eR hm,hr.run (o.same f) (hr.mono _ _ _ (fun ys z vs U c G=>?_) t)⟩
  obtain ⟨p,L⟩:=g.same c
  obtain ⟨j,J⟩:=G
  exact⟨.ins C ns ds::ys,⟨p++j,_,_,p,j,by rw[Pb],rfl,L,J⟩,(o.b0.trans (f.trans c)).now,i _ _ _ (fun u z F H' fp s r n=>z F H' fp ((f.trans c).trans s) r (n.any.later (f.trans c))) z⟩) q)⟩
def spN(K:aae)(C:Addr)(S:DSp):Sp:=fun vs H Q _=>∃(x dx:Addr) (ws:List V) (ds:List D) (B0:Hp),vs=.ref x::ws/\B0 x=none/\H=upd B0 x (.ins C dx [])/\Rps K B0 ds ws/\gU K B0 /\
 S ds fun d=>∀ns xs dd c H',d=.ins C ns dd->Same B0 H'->H' x=some (.ins C dx (ns.zip xs))->Rfs K H' dd xs c->c.Nodup->(∀a∈c,B0 a=none/\a≠x/\Mu H' a)->Q .non H'
theorem En(h:∀ds P,S ds P->ds.length=n)(k:spN K C S vs H Q E):vs.length=n+1:=by
 obtain ⟨x,dx,ws,ds,B0,rfl,_,_,r,_,c⟩:=k
 obtain ⟨fp,r⟩:=r
 rw[H0,r.length,h _ _ c]
theorem uQ(m:aB S)(hi:∀ds P,S ds P->S ds fun d=>(∃ns dd,d=.ins C ns dd)/\P d)(hr:AR K Γ w dr):EM K Γ [] (EY C (spN K C S) [] E w) (mE S dr) :=
 ⟨fun δ P J k h=>hr.mono _ _ _ (fun y z=>m _ _ _ k z) h,
 fun {B0 fps δ F H Q} o q=>hr.run o (hr.mono _ _ _ (fun ys z vs i f s=>by
  intro x dx j u B
  have c:Same i (upd i dx (.own x)):=Same.gQ u
  refine⟨x,dx,vs,ys,upd i dx (.own x),by rw[Pb],by rw[au (OT B)];exact j,rfl,s.same c,(o.b0.trans (f.trans c)).now,m _ _ _ ?_ (hi _ _ z)⟩
  rintro d ⟨⟨ns,dd,rfl⟩,z⟩ G xs I p H' e r n t v g
  cases e
  refine⟨rfl,z (.ref x) H' (x::p) (f.trans (c.trans r)) ⟨x,dx,xs,p,rfl,n,rfl,t⟩ ⟨Om.mpr ⟨fun h=>(g x h).2.1 rfl,v⟩,fun a ha=>?_,fun a ha=>?_⟩⟩
  .rcases KE.mp ha with e|h
   .rw[e];exact .inr (.inr (.inr ⟨_,_,_,n⟩))
   .exact (g a h).2.2
  .rcases KE.mp ha with e|h
   .rw[e];exact .inl (f.free j)
   .exact .inl (f.free (c.free (g a h).1))) q)⟩
structure INI(K:aae)(C:Addr)(t:TS)(ns:List Str)(d:DA):Prop where
 mono:∀δ (P P':List D->Prop),(∀x,P x->P' x)->d δ P->d δ P'
 run:∀{B0 fps δ σ H x dx ns0 xs0 ds0 fq0 Dn},Ok K B0 [] fps δ σ H->σ[0]?=some (some (.ref x))->H x=some (.ins C dx (ns0.zip xs0))->B0 x=none->ns0.length=xs0.length->Rfs K H ds0 xs0 fq0->fq0.Nodup ->
  (∀a∈fq0,B0 a=none/\a≠x/\Mu H a)->(∀i,x∉fps i)->(∀n∈ns,n∉ns0)->(ns0++ns).Nodup->(ns0++ns).length<=100 ->
  d δ (fun ds=>∀H' xs fq,Same B0 H'->H' x=some (.ins C dx ((ns0++ns).zip xs))->Rfs K H' (ds0++ds) xs fq->fq.Nodup->(∀a∈fq,B0 a=none/\a≠x/\Mu H' a)->Dn.nx σ H')->t Dn σ H
theorem Rfs.snoc{H:Hp}:∀{ds:List D}{xs:List V}{c:List Addr}{d:D}{v:V}{fp:List Addr},Rfs K H ds xs c->Rf K H d v fp->Rfs K H (ds++[d]) (xs++[v]) (c++fp)
 |[],xs,c,d,v,fp,h,r=>by
  obtain ⟨rfl,rfl⟩:=h
  exact⟨v,[],fp,[],rfl,by simp,r,rfl,rfl⟩
 |n::ds,xs,c,d,v,fp,h,r=>by
  obtain ⟨x,f,m,j,rfl,rfl,i,g⟩:=h
  exact⟨x,f++[v],m,j++fp,rfl,by simp,i,g.snoc r⟩
theorem xc(P:Cls K C)(hn:bB K C f)(G:EM K [] [] ta da)
  (o:Ok K B0 [] fps δ σ H) (Q:σ[0]?=some (some (.ref x))) (F:H x=some (.ins C dx (ns0.zip xs0))) (hb:B0 x=none) (M:ns0.length=xs0.length) (hr:Rfs K H ds0 xs0 fq0) (R:fq0.Nodup)
  (c:∀a∈fq0,B0 a=none/\a≠x/\Mu H a) (T:∀i,x∉fps i) (O:f∉ns0) (U:ns0.length<100)
  (q:da δ fun y=>∀H' v s,Ok K B0 [] fps δ σ H'->H' x=some (.ins C dx ((ns0++[f]).zip (xs0++[v])))->Rfs K H' (ds0++[y]) (xs0++[v]) s->s.Nodup->(∀a∈s,B0 a=none/\a≠x/\Mu H' a)->Dn.nx σ H'):Dy K (bR 0) ta f Dn σ H:=by
 refine G.run o (G.mono _ _ _ (fun y z v g fp j L n1=>?_) q)
 have t:=j.st _ _ F trivial
 refine⟨.ref x,Q,x,C,dx,_,rfl,t,P,hn,by rw[List.length_zip];omega,?_⟩
 rw[Bp O M]
 have B:x∉fp:=fun h=>by have:=n1.fresh x h;rw[F] at this;cases this
 have keep:∀a,a≠x->upd g x (.ins C dx ((ns0++[f]).zip (xs0++[v]))) a=g a:=fun a ha=>au ha
 have E:∀a w,g a=some w->Im w->upd g x (.ins C dx ((ns0++[f]).zip (xs0++[v]))) a=some w:=fun a w e hi=>by
  have:a≠x:=fun z=>by
   subst z
   rw[t] at e
   cases e
   rcases hi with ⟨_,z⟩|⟨_,_,z⟩|⟨_,_,z⟩<;>cases z
  rw[keep a this];exact e
 have I:∀a,a≠x->Mu g a->Mu (upd g x (.ins C dx ((ns0++[f]).zip (xs0++[v])))) a:=fun a ha m=>m.upd (.inr (.inr (.inr ⟨_,_,_,rfl⟩)))
 have n:=o.same j
 refine z _ v (fq0++fp) ⟨n.len,n.b0.keep (fp:=[x]) (fun a ha=>by cases mo.mp ha;exact⟨hb,.inr (.inr (.inr ⟨_,_,_,t⟩))⟩) (fun a u hn e=>by rw[keep a (fun z=>hn (z▸mo.mpr rfl))];exact e),fun i dd e=>?_,n.non,fun _ h=>(nomatch h),fun _ h=>(nomatch h)⟩ aq (Rfs.snoc ((hr.same j).mono (fun a ha w e=>by rw[keep a (c a ha).2.1];exact e) E) (L.mono (fun a ha w e=>by rw[keep a (fun z=>B (z▸ha))];exact e) E)) ?_ fun a ha=>?_
 .obtain ⟨J,r,p⟩:=n.val i dd e
  exact⟨J,r,p.mono (fun a ha w e=>by rw[keep a (fun z=>T i (z▸ha))];exact e) E⟩
 .refine Ow.mpr ⟨R,n1.nd,fun a r b p e=>?_⟩
  subst e
  exact (c a r).2.2.some (n1.fresh a p)
 .rcases Oj.mp ha with h|h
  .exact⟨(c a h).1,(c a h).2.1,I a (c a h).2.1 ((c a h).2.2.same j)⟩
  .exact⟨o.b0.free (n1.fresh a h),fun z=>B (z▸h),I a (fun z=>B (z▸h)) (n1.mu a h)⟩
theorem Fh(p:Cls K C)(hn:bB K C f)(c:EM K [] [] ta da):INI K C (Dy K (bR 0) ta f) [f] (gH da tu) :=
 ⟨fun δ P M k h=>c.mono _ _ _ (fun x z=>k _ z) h,fun {B0 fps δ J H x dx ns0 xs0 ds0 fq0 Dn} o r i hb m hr G j I n L F q =>
  xc p hn c o r i hb m hr G j I (n f k0) (by simp at F;omega) (c.mono _ _ _ (fun y z H' v E g B u t s=>z H' _ E g.b0.toSame B u t s) q)⟩
theorem m4{f:Str}{t:TS}{ns:List Str}{r:DA}(O:Cls K C)(hn:bB K C f)(c:EM K [] [] ta da)(hr:INI K C t ns r):INI K C (zt (Dy K (bR 0) ta f) t) (f::ns) (gH da r) :=
 ⟨fun δ P P' k h=>c.mono _ _ _ (fun x z=>hr.mono _ _ _ (fun y z=>k _ z) z) h,fun {B0 fps δ σ H x dx ns0 xs0 ds0 fq0 Dn} o m J hb j Q Z L u M g s q =>
  xc O hn c o m J hb j Q Z L u (M f k0) (by simp at s;omega) (c.mono _ _ _ (fun y z H' v p F X U T R=>by
   have e1:ns0++f::ns=(ns0++[f])++ns:=by simp
   refine hr.run F m X hb (by simp [j]) U T R u (fun n Y B=>?_) (by rw[<- e1];exact g) (by rw[<- e1];exact s) (hr.mono _ _ _ (fun ds z H2 xs p E k1 i I G=>?_) z)
   .rw[e1] at g
    exact (Ow.mp g).2.2 n B n Y rfl
   .refine z H2 xs p E (by rw[e1];exact k1) ?_ I G
    rw[OM] at i
    exact i) q)⟩
theorem G7{N:List Str}{S:DSp}{t:TS}{ns:List Str}{d:DA}(g:INI K C t ns d)(hd:∀ds P,S ds P->d (none::(bA (N.drop 1) ds)) fun dd=>P (.ins C ns dd))(B:1<=N.length)(v:ns.Nodup:=by decide +kernel)(y:ns.length<=100:=by decide) :
  ∀{vs H Q E},spN K C S vs H Q E->t { nx:=fun _ H'=>Q .non H',rt:=Q } (L2.start N vs) H:=by
 rintro vs H Q E ⟨x,dx,ws,ds,B0,rfl,hb,rfl,r,tv,h⟩
 obtain ⟨fps,o⟩:=nO (N:=N.drop 1) r tv
 have f:Same B0 (upd B0 x (.ins C dx [])):=Same.gQ hb
 have c:=o.same f
 have u:L2.start N (.ref x::ws)=some (.ref x)::L2.start (N.drop 1) ws:=by
  unfold L2.start
  rw[Oi,Qp,H0,Pg,show N.length - (ws.length+1)=N.length - 1 - ws.length by omega]
 rw[u]
 refine g.run (B0:=B0) (fps:=fun i=>match i with|0=>[]|j+1=>fps j) (δ:=none::bA (N.drop 1) ds) (x:=x) (dx:=dx) (ns0:=[]) (xs0:=[]) (ds0:=[]) (fq0:=[]) ⟨by rw[H0,H0,c.len],⟨f,tv⟩,fun i dd e=>?_,fun i e=>?_,fun _ h=>(nomatch h),fun _ h=>(nomatch h)⟩ rfl aq hb rfl ⟨rfl,rfl⟩ Pl (fun _ h=>(nomatch h)) (fun i=>?_) (fun _ _ h=>(nomatch h)) v y (g.mono _ _ _ (fun dd z H' xs s m k1 q p n=>?_) (hd ds _ h))
 .cases i with
  |zero=>simp at e
  |succ j=>exact c.val j dd (by simpa using e)
 .cases i with
  |zero=>rfl
  |succ j=>exact c.non j fun dd z=>e dd (by simpa using z)
 .cases i with
  |zero=>exact fun h=>(nomatch h)
  |succ j=>exact fun h=>o.dom h hb
 .exact z ns xs dd s H' rfl m k1 q p n
end
end L3
namespace L2
open PySem PySem.Spec PyProof.Rows
section
variable {P:Program}{w:World}{H:Hp}{h:Heap}{a:Addr}
theorem BD:∀{ks:aab}{us:List Value},Vals (ks.map V.int) us->ItemsAre (intKind P w) ks us
 |[],_,.nil=>.nil
 |k::ks,_,.cons r t=>by
  obtain ⟨n,rfl⟩:=r
  exact .cons (by simp [intKind,Value.isInt]) (BD t)
theorem uO(ok:HOk P w H h)(e:H a=some (.tup [.int d,.ref b]))(e2:H b=some (.tup (ks.map V.int))):(jH P w).is h (d,ks) a:=by
 obtain ⟨_,B,r,o,u,s,n,p⟩:=(show bI P w H h a (.tup [.int d,.ref b]) from ok a _ e)
 obtain ⟨_,c,q,j,y,x,m,v⟩:=(show bI P w H h b (.tup (ks.map V.int)) from ok b _ e2)
 cases r with
 |cons g i =>
  cases i with
  |cons f z =>
   cases z
   obtain ⟨t,rfl⟩:=g
   cases (show _=Value.ref b from f)
   exact⟨o,n,t,b,u,s,p,j,c.toArray,m,y,x,v,by simpa using BD (P:=P) (w:=w) q⟩
theorem zw(ok:HOk P w H h)(e:H a=some (.memo φ ks)):(a == sysModules)=false/\∃xs,(∀x∈xs,lI H φ x)/\(∀k∈ks,k∈xs.map (·.1))/\h.DictOfH (jH P w) a xs:=by
 obtain ⟨y,xs,f,i,o,es,ep,r,q,p,m,j⟩:=(show bI P w H h a (.memo φ ks) from ok a _ e)
 refine⟨y,xs,f,i,o,es,ep,r,q,p,m,fun x c=>?_,j⟩
 obtain ⟨b,n,t,g,q2,_⟩:=f x c
 exact uO ok g q2
theorem qc(y:(a == sysModules)=false)(c:∀x∈xs,lI H' φ x)(f:∀k∈ks,k∈xs.map (·.1))(dd:h'.DictOfH (jH P w) a xs):bI P w H' h' a (.memo φ ks):=by
 obtain ⟨o,es,ep,m,j,i,h,_,g⟩:=dd
 exact⟨y,xs,c,f,o,es,ep,m,j,i,h,g⟩
theorem lI.upd{f:Int->aab->Int->Prop}{x:qh × Addr × Value}{o u:HO}(m:lI H f x)(e:H a=some u)(ne:∀ys,u≠.tup ys):lI (upd H a o) f x:=by
 obtain ⟨b,n,t,c,q2,q3⟩:=m
 exact⟨b,n,t,by rw[au (fun z=>by rw[z,e] at c;exact ne _ (OJ c))];exact c,by rw[au (fun z=>by rw[z,e] at q2;exact ne _ (OJ q2))];exact q2,q3⟩
def encL(l:aab):Nat:=l.foldl (fun n e=>n*8+(e.toNat+1)) 0
def Kl(k:qh):Nat:=encL k.2*8+k.1.toNat
theorem jn(l:aab)(e:Int):encL (l++[e])=encL l*8+(e.toNat+1):=by unfold encL;rw[List.foldl_append];rfl
theorem D3:∀(n:Nat) (l:aab),l.length<=n->(∀e∈l,0<=e/\e<7)->encL l<8 ^ n
 |0,l,h,_=>by rw[List.eq_nil_of_length_eq_zero (Nat.le_zero.mp h)];exact Nat.one_pos
 |n+1,l,h,hb=>by
  rcases Classical.em (l=[]) with z|z
  .rw[z];exact Nat.pow_pos nofun
  .rw[<- Pa z,jn]
   have g:=D3 n l.dropLast (by rw[List.length_dropLast];omega) (fun e c=>hb e (List.dropLast_subset _ c))
   have f:=hb (l.getLast z) (List.getLast_mem z)
   rw[Nat.pow_succ]
   omega
theorem IG:∀(n:Nat) (l m:aab),l.length<=n->(∀e∈l,0<=e/\e<7)->(∀e∈m,0<=e/\e<7)->encL l=encL m->l=m:=by
 intro n
 induction n with
 |zero =>
  intro l m h _ hm e
  have:l=[]:=List.eq_nil_of_length_eq_zero (Nat.le_zero.mp h)
  subst this
  rcases Classical.em (m=[]) with z|z
  .exact z.symm
  .rw[<- Pa z,jn] at e
   have:encL []=0:=rfl
   omega
 |succ n ih =>
  intro l m h f hm e
  rcases Classical.em (l=[]) with z|z
  .subst z
   rcases Classical.em (m=[]) with y|y
   .exact y.symm
   .rw[<- Pa y,jn] at e
    have:encL []=0:=rfl
    omega
  .rcases Classical.em (m=[]) with y|y
   .subst y
    rw[<- Pa z,jn] at e
    have:encL []=0:=rfl
    omega
   .have a1:=f (l.getLast z) (List.getLast_mem z)
    have a2:=hm (m.getLast y) (List.getLast_mem y)
    rw[<- Pa z,<- Pa y,jn,jn] at e
    have i:=ih l.dropLast m.dropLast (by rw[List.length_dropLast];omega) (fun e c=>f e (List.dropLast_subset _ c)) (fun e c=>hm e (List.dropLast_subset _ c)) ()
    have j:l.getLast z=m.getLast y:=()
    rw[<- Pa z,<- Pa y,i,j]
theorem zr(h:Cy k=true):(0<=k.1/\k.1<8)/\k.2.length<=5/\∀e∈k.2,0<=e/\e<7:=by
 unfold Cy at h
 simp only[Pj,decide_eq_true_eq,OP] at h
 exact⟨h.1.1,h.1.2,h.2⟩
theorem yA:∀(n:Nat) (l:aad),l.Nodup->(∀x∈l,x<n)->l.length<=n
 |0,l,_,h=>by
  cases l with
  |nil=>exact Ol _
  |cons x r=>exact absurd (h x k0) (QO _)
 |n+1,l,nd,h=>by
  have g:=yA n (l.filter (·≠n)) (nd.sublist List.filter_sublist) (fun x c=>by
   have:=O9.mp c
   have q:=h x this.1
   have:x≠n:=by simpa using this.2
   omega)
  have i:l.length<=(l.filter (·≠n)).length+1:=by
   clear h g
   induction l with
   |nil=>simp
   |cons x r ih =>
    rw[Om] at nd
    have:=ih nd.2
    by_cases c:x=n
    .subst c
     rw[List.filter_cons_of_neg (by simp),List.filter_eq_self.mpr (fun y f=>by simp;exact fun z=>nd.1 (z▸f)),H0]
     omega
    .rw[List.filter_cons_of_pos (by simpa using c),H0,H0]
     omega
  omega
theorem Jc{ks:List qh}(nd:ks.Nodup)(hb:∀k∈ks,Cy k=true):ks.length<=262144:=by
 have inj:(ks.map Kl).Nodup:=by
  refine Qi.mpr (List.Pairwise.imp_of_mem (fun {x y} g m ne e=>ne ?_) nd)
  obtain ⟨⟨j,i⟩,f,c⟩:=zr (hb x g)
  obtain ⟨⟨q,p⟩,o,h⟩:=zr (hb y m)
  unfold Kl at e
  exact Prod.ext () (IG 5 x.2 y.2 f c h ())
 have:=yA 262144 (ks.map Kl) inj (fun x g=>by
  obtain ⟨k,n,rfl⟩:=Oo.mp g
  obtain ⟨⟨j,i⟩,f,c⟩:=zr (hb k n)
  have:=D3 5 k.2 f c
  unfold Kl
  omega)
 rwa [dz] at this
theorem Iw{c:Int->aab->Int->Prop}{xs:List (qh × Addr × Value)}(f:∀x∈xs,lI H c x)(nd:(xs.map (·.1)).Nodup):xs.length<=262144:=by
 have:=Jc nd (fun k g=>by
  obtain ⟨x,hm,rfl⟩:=Oo.mp g
  obtain ⟨b,n,t,_,_,_,_,q⟩:=f x hm
  exact q)
 rwa [dz] at this
end
section
variable {X:Cx}
def Hx:R2:=fun x y H Q=>∃f g a c d ks,x=.ref f/\H f=some (.tup [.int d,.ref g])/\H g=some (.tup (ks.map V.int))/\y=.ref a/\H a=some (.memo c [])/\Q (.bl true) H/\Q (.bl false) (upd H a (.memo c [(d,ks)]))
theorem Iq(C:X.A.units+64<cLine):OpR X (compareOp .NotIn) Hx:=by
 intro i s t H x y v u Q I rx ry h
 obtain ⟨m,B,a,r,d,ks,rfl,e1,e2,rfl,f,j,q2⟩:=h
 cases (show v=Value.ref m from rx)
 cases (show u=Value.ref a from ry)
 obtain ⟨hd,xs,n,_,dd⟩:=zw I.hok f
 refine wpAny_notIn_heap (knd:=jH X.prog X.w) (k:=(d,ks)) (by show X.A.units+1+2<cLine;omega) (uO I.hok e1 e2) hd dd ?_
 cases hf:atKey xs (d,ks) with
 |none=>exact⟨.bl true,H,I.tok _,rfl,j⟩
 |some p =>
  refine⟨.bl false,_,?_,rfl,q2⟩
  have there:(d,ks)∈xs.map (·.1):=by
   unfold atKey at hf
   obtain ⟨z,c,_⟩:=Option.map_eq_some_iff.mp hf
   have:=List.find?_some c
   exact Oo.mpr ⟨z,Qr c,by simpa using this⟩
  refine I.write (x:=a) (e:=a) (h':=s.heap) (by rw[f];exact True.intro) (.inl rfl) (fun _ _ _ z=>z) (let ⟨o,_,_,g,_⟩:=dd;⟨o,g⟩) ?_
  exact qc hd (fun z c=>(n z c).upd f (fun ys z=>by cases z)) (fun k q=>by rw[mo.mp q];exact there) dd
theorem JZ{xs:List (qh × Addr × Value)}{k:qh}(h:k∈xs.map (·.1)):∃p,atKey xs k=some p/\(k,p)∈xs:=by
 cases hf:xs.find? (fun x=>decide (x.1=k)) with
 |none =>
  obtain ⟨z,f,e⟩:=Oo.mp h
  have:=List.find?_eq_none.mp hf z f
  simp at this
  exact absurd e this
 |some z =>
  have c:=List.find?_some hf
  have g:=Qr hf
  have c:z.1=k:=by simpa using c
  refine⟨z.2,by unfold atKey;rw[hf];rfl,?_⟩
  rw[<- c]
  exact g
def Dq:R2:=fun x y H Q=>∃f g a c d ks ps,x=.ref a/\y=.ref f/\H f=some (.tup [.int d,.ref g])/\H g=some (.tup (ks.map V.int))/\H a=some (.memo c ps)/\(d,ks)∈ps/\∀n,c d ks n->Q (.int n) (upd H a (.memo c []))
theorem JP(M:X.A.units+64<cLine):IxR X Dq:=by
 intro O c j s J H x y v u Q I rx ry h C
 obtain ⟨r,L,a,G,d,ks,ps,rfl,rfl,e1,e2,i,E,q⟩:=h
 cases (show v=Value.ref a from rx)
 cases (show u=Value.ref r from ry)
 obtain ⟨hd,xs,m,f,dd⟩:=zw I.hok i
 obtain ⟨p,F,hm⟩:=JZ (f _ E)
 obtain ⟨b,n,t,_,_,q3,q4,_⟩:=m _ hm
 refine tail_any dd.typeIs PySem.F.slot_dict_getitem.lookup (wpAny_getItem_heap (knd:=jH X.prog X.w) (k:=(d,ks)) (by show X.A.units+1+2<cLine;omega) (uO I.hok e1 e2) dd F ?_) C
 refine⟨.int n,_,?_,⟨t,q3⟩,q n q4⟩
 exact I.write (x:=a) (e:=a) (h':=s.heap) (by rw[i];exact True.intro) (.inl rfl) (fun _ _ _ z=>z) (let ⟨o,_,_,g,_⟩:=dd;⟨o,g⟩) (qc hd (fun z B=>(m z B).upd i (fun ys z=>by cases z)) (fun k f=>absurd f OF) dd)
def C6:Mx:=fun o i v H Q=>∃f g a c d ks ps n,o=.ref a/\i=.ref f/\v=.int n/\H f=some (.tup [.int d,.ref g])/\H g=some (.tup (ks.map V.int))/\H a=some (.memo c ps)/\Cy (d,ks)=true/\c d ks n/\Q (upd H a (.memo c [(d,ks)]))
theorem IX(hu:X.A.units+64<cLine):M4 X C6:=by
 intro x s σ H o i v G L u Q I ro ri rv h
 obtain ⟨C,J,a,j,d,ks,ps,n,rfl,rfl,rfl,e1,e2,f,hb,hn,q⟩:=h
 cases (show G=Value.ref a from ro)
 cases (show L=Value.ref C from ri)
 obtain ⟨t,rfl⟩:=(show ∃t,u=Value.int n t from rv)
 obtain ⟨hd,xs,m,hk,dd⟩:=zw I.hok f
 have nd:(xs.map (·.1)).Nodup:=let ⟨_,_,_,_,_,_,_,_,z⟩:=dd;z
 have r:=Iw m nd
 refine wpAny_setItem_heap (knd:=jH X.prog X.w) (k:=(d,ks)) (hsz:=OC r nofun) (by show X.A.units+1+2<cLine;omega) (uO I.hok e1 e2) dd fun h' F Rv=>⟨_,?_,q⟩
 have O:∃z,h'.get? a=some z:=let ⟨z,_,_,g,_⟩:=F;⟨z,g⟩
 have PD:lI (upd H a (.memo j [(d,ks)])) j ((d,ks),C,Value.int n t):=lI.upd ⟨J,n,t,e1,e2,rfl,hn,hb⟩ f (fun ys z=>by cases z)
 refine zG I (by rw[f];exact True.intro) Rv O (qc hd (fun z c=>?_) (fun k Y=>?_) F)
 .unfold storedH at c
  split at c
  .obtain ⟨y,M,rfl⟩:=Oo.mp c
   have B:=(m y M).upd (o:=.memo j [(d,ks)]) f (fun ys z=>by cases z)
   unfold putAt
   split
   .rename_i U
    obtain ⟨b,n',t',T,R,g3,g4,P⟩:=B
    refine⟨b,n,t,T,R,rfl,?_,P⟩
    rw[U];exact hn
   .exact B
  .rcases Oj.mp c with z|z
   .exact (m _ z).upd f (fun ys z=>by cases z)
   .rw[mo.mp z];exact PD
 .rw[mo.mp Y]
  unfold storedH
  split
  .rename_i Z
   rw[keys_map_putAt]
   obtain ⟨p,E⟩:=Option.isSome_iff_exists.mp Z
   unfold atKey at E
   obtain ⟨z,c,_⟩:=Option.map_eq_some_iff.mp E
   exact Oo.mpr ⟨z,Qr c,by simpa using List.find?_some c⟩
  .rw[Ov]
   exact Fk _ (mo.mpr rfl)
def Js:TE:=fun _ H Q=>∃c,∀p,H p=none->Q (.ref p) (upd H p (.memo c []))
theorem G3:PE X (.Dict [] [] pos) Js:=by
 intro f s j H Q I ⟨g,h⟩
 have i:H s.heap.objs.size=none:=I.hok.fresh (Ol _)
 refine wpAny_Dict_empty ⟨.ref s.heap.objs.size,_,I.laid (a:=s.heap.objs.size) (o:=.memo g []) (t':=s.toks) (fun _ _ q=>Heap.get?_push_of_some _ q) (Ol _) ?_,rfl,h _ i⟩
 refine qc (xs:=[]) ?_ (fun z c=>absurd c OF) (fun z c=>absurd c OF) (Heap.DictOfH.new s.heap)
 have:=I.big
 exact beq_eq_false_iff_ne.mpr (fun z=>by rw[z] at this;exact absurd this (O6 _))
end
end L2
namespace L3
open PySem L2
section
variable {K:aae}{Γ:aad}{te:TE}{de:DE}
def rV(δ:Dl)(P:DK):Prop:=∃c,P (.mem c)
theorem Ki:EM K Γ [] Js rV:=⟨fun _ _ _ k ⟨c,h⟩=>⟨c,k _ h⟩,fun {B0 fps δ g H Q} o ⟨c,q⟩=>⟨c,fun p f=>q (.ref p) _ [] (Same.gQ f) ⟨p,rfl,aq,rfl⟩ Nw.nil⟩⟩
theorem IJ(h:H a=some o):L2.upd H a o=H:=by
 funext b
 unfold L2.upd
 split
 .rename_i e;rw[e,h]
 .rfl
theorem Rfs.Fx{H:Hp}:∀{ks:aab}{xs:List V}{fp:List Addr},Rfs K H (ks.map D.int) xs fp->xs=ks.map V.int
 |[],xs,fp,h=>by obtain ⟨rfl,_⟩:xs=[]/\_:=h;rfl
 |k::ks,xs,fp,h=>by
  obtain ⟨x,r,g,f,rfl,_,⟨rfl,_⟩,c⟩:=h
  rw[Rfs.Fx c];rfl
def Ny(C:Addr)(ns:List Str)(i f:Nat)(g:DE)(E:aZ)(δ:Dl):Prop :=
 ∃ds c d ks,δ[0]?=some (some (.ins C ns ds))/\ds[i]?=some (.mem c)/\δ[f]?=some (some (.tup [.int d,.tup (ks.map D.int)]))/\Cy (d,ks)=true/\g δ (fun x=>∃n,x=.int n/\c d ks n)/\∀n,c d ks n->E.rt (.int n) δ
theorem KU(ns:List Str)(i m:Nat)(O:Cls K C)(hn:bB K C f)(Y:ER K Γ te de)(hi:ns[i]?=some f:=by rfl)(hd:ns.Nodup:=by decide +kernel)(hr:∀j∈Γr,j∈Γ:=by decide) :
  ST K ρ Γr Γl (zt (L1 (yv (tOp Hx (bR m) (pQ K (bR 0) f))) (j3 te (BE (pQ K (bR 0) f) (bR m) C6)) Hr) (C0 (tOp Dq (pQ K (bR 0) f) (bR m)))) Γ Γn (Ny C ns i m de):=by
 intro B0 Dn E fps δ U H k o h
 obtain ⟨ds,r,d,ks,e0,ei,ew,hb,h1,h2⟩:=h
 have r0:=o.val 0 _ e0
 have Wq:=o.val m _ ew
 obtain ⟨v0,y,p,dx,xs,fq,rfl,J,_,I⟩:=r0
 obtain ⟨wv,fw,gx,⟨a,rfl,ha,_⟩,_⟩:=I.get ei
 obtain ⟨vw,u,g,ys,rfl,M,G⟩:=Wq
 obtain ⟨y1,X,f1,f2,rfl,_,⟨rfl,_⟩,WU⟩:=G
 obtain ⟨y2,r2,f3,f4,rfl,_,⟨s,zs,rfl,Q,F⟩,Xf⟩:=WU
 obtain ⟨rfl,_⟩:r2=[]/\_:=Xf
 have ez:=F.Fx
 subst ez
 have L:=aT (v:=V.ref a) hd hi gx
 have Z:∀q,Same H q->C0 (tOp Dq (pQ K (bR 0) f) (bR m)) Dn U (L2.upd q a (.memo r [(d,ks)])):=fun q c=>by
  have T:=c.st _ _ J trivial
  have t:=c.st _ _ ha trivial
  have P:=c.st _ _ M trivial
  have R:=c.st _ _ Q trivial
  have ZZ:p≠a:=fun z=>by rw[z,t] at T;cases T
  have ZY:g≠a:=fun z=>by rw[z,t] at P;cases P
  have ZX:s≠a:=fun z=>by rw[z,t] at R;cases R
  refine⟨.ref p,y,p,C,dx,_,.ref a,rfl,by rw[au ZZ];exact T,O,hn,L,.ref g,u,g,s,a,r,d,ks,[(d,ks)],rfl,rfl,by rw[au ZY];exact P,by rw[au ZX];exact R,aq,mo.mpr rfl,fun n hn=>?_⟩
  rw[J9,IJ t]
  exact k.rt ((o.same c).sub hr) (Rf.sk (d:=.int n) rfl) (fun _=>⟨Pl,fun _ h=>(nomatch h),fun _ h=>(nomatch h),fun _ _ _ h=>(nomatch h)⟩) (h2 n hn)
 refine⟨.ref g,u,.ref p,y,p,C,dx,_,.ref a,rfl,J,O,hn,L,g,s,a,r,d,ks,rfl,M,Q,rfl,ha,⟨true,rfl,?_⟩,⟨false,rfl,?_⟩⟩
 .show j3 te (BE (pQ K (bR 0) f) (bR m) C6) _ U H
  refine Y.run o (Y.mono _ _ _ (fun x z v q c X=>?_) h1)
  obtain ⟨n,rfl,B⟩:=z
  have hv:v=.int n:=X.int
  subst hv
  exact⟨.ref p,y,p,C,dx,_,.ref a,rfl,c.st _ _ J trivial,O,hn,L,.ref g,u,g,s,a,r,d,ks,[],n,rfl,rfl,rfl,c.st _ _ M trivial,c.st _ _ Q trivial,c.st _ _ ha trivial,hb,B,Z q c⟩
 .exact Z H (Same.refl H)
end
end L3
namespace L2
open PySem PySem.Spec PySem.Calls PyProof.Rows
abbrev DB(n:Nat):aab:=(List.range n).map fun (k:Nat)=>(k:Int)
theorem D6:∀{vs:List Value}{ns:aab},vs.length=ns.length->(∀(j:Nat) v,vs[j]?=some v->∃z t,ns[j]?=some z/\v=.int z t)->IntsAre vs ns
 |[],[],_,_=>.nil
 |v::vs,n::ns,c,h=>by
  obtain ⟨z,t,e1,rfl⟩:=h 0 v rfl
  cases e1
  exact .cons _ _ (D6 (by simpa using c) fun j v f=>h (j+1) v (by rw[P5];exact f))
 |[],_::_,c,_=>by simp at c
 |_::_,[],c,_=>by simp at c
section
variable {prog:Program}{w:World}{A:Around}{E:Value->Shared->Prop}{s:Shared}
theorem B2{R:List Value->Shared->Prop}{r:Addr}{n:Nat}{t u v:Tok}(H:A.handled=none)(hr:IsRange s.heap r 0 (n:Int) 1 t u v)(O:n<=2 ^ 24)
  (h:∀(h':Heap) (c:Nat) (vs:List Value),(∀b o,s.heap.get? b=some o->h'.get? b=some o)->s.heap.objs.size<h'.objs.size->IntsAre vs (DB n)->R vs { s with heap:=h',toks:=c }) :
  wpAny (model prog w) A (collect (.ref r)) R E s:=by
 have hsz:Builtin.Range.rangeSize 0 (n:Int) 1=n:=by unfold Builtin.Range.rangeSize;rw[if_pos nofun];split<;>omega
 have F:Builtin.Range.small 0 (n:Int) 1=true:=small_one nofun nofun () ()
 have items:∀{acc:Array Value},ItemsOf (fun i v=>∃t,v=.int (0+i*1) t) acc n->IntsAre acc.toList (DB n):=fun {acc} g=>by
  refine D6 (by rw[OX,g.1,dz,Ot]) fun j v G=>?_
  have hj:j<n:=by rw[<- g.1,<- OX];exact (oe.mp G).1
  obtain ⟨t,rfl⟩:=g.2 j v (by simpa using G)
  exact⟨j,t,by rw[ox,O8 hj];rfl,by simp⟩
 unfold collect
 refine wpAny_bind (wpAny_runValue (codeAny_builtin entry_proto_collect' ?_))
 rw[Around.under_plainId PySem.F.plain_proto_collect _]
 show wpAny _ A.in1 (newList [] >>= fun l=>again (.builtin "list.__iadd__" ⟨[l,.ref r],[]⟩)) _ _ s
 refine wpAny_bind (wpAny_newObj_type ?_)
 refine wpAny_pure ⟨plainId_quiet PySem.F.plain_list_iadd _,codeAny_builtin entry_list_iadd' ?_⟩
 rw[Around.under_plainId PySem.F.plain_list_iadd _]
 have L:(s.heap.push { cls:=.type "list",data:=.seq ([]:List Value).toArray }).get? s.heap.objs.size=some { cls:=.type "list",data:=.seq #[] }:=Heap.get?_push_size _ rfl
 show wpAny _ A.in1 (Builtin.List.listExtendWith (.ref s.heap.objs.size) (.ref r) (.ref s.heap.objs.size)) _ _ _
 have key:=wpAny_extend_range (A:=A) (prog:=prog) (w:=w) (s:={ s with heap:=s.heap.push { cls:=.type "list",data:=.seq ([]:List Value).toArray } })
  (R:=fun (q:Result) (C:Shared)=>∃(h':Heap) (c:Nat) (m:Array Value) (B:Nat),q=.ok (.ret (.ref s.heap.objs.size))/\C={ s with heap:=h',toks:=c } /\
   (∀b o,s.heap.get? b=some o->h'.get? b=some o)/\h'.get? s.heap.objs.size=some { cls:=.type "list",dict:=none,data:=.seq m B,slots:=#[] }/\IntsAre m.toList (DB n))
  H (Heap.get?_push_of_some _ hr) F hsz O s.heap.objs.size (.ref s.heap.objs.size) 0 L
  (fun h' c m B z p g=>⟨h',c,m,B,rfl,rfl,fun b o e=>z b o (OK (Heap.lt_size e)) (Heap.get?_push_of_some _ e),p,items g⟩)
 refine wpAny_mono key (fun M C x=>?_) fun e C x=>?_
 .cases M with
  |done f =>
   obtain ⟨h',c,m,B,e,rfl,z,p,g⟩:=x
   cases e
   show wpAny _ A (load s.heap.objs.size >>= _) _ _ _
   refine wpAny_bind (wpAny_load p ?_)
   exact wpAny_pure (h h' c m.toList z (Heap.lt_size p) g)
  |again J =>
   refine⟨x.1,codeAny_mono x.2 fun q P y=>?_⟩
   obtain ⟨h',c,m,B,rfl,rfl,z,p,g⟩:=y
   show wpAny _ A (load s.heap.objs.size >>= _) _ _ _
   refine wpAny_bind (wpAny_load p ?_)
   exact wpAny_pure (h h' c m.toList z (Heap.lt_size p) g)
 .obtain ⟨_,_,_,_,I,_⟩:=x
  cases I
def Cw(h:Heap)(L:Addr):List (Addr × Obj):=(List.range h.objs.size).filterMap fun a=>if a=L then none else (h.get? a).map fun o=>(a,o)
theorem pR:(a,o)∈Cw h L↔a≠L/\h.get? a=some o:=by
 unfold Cw
 rw[List.mem_filterMap]
 constructor
 .rintro ⟨b,_,e⟩
  by_cases hb:b=L
  .rw[if_pos hb] at e;cases e
  .rw[if_neg hb] at e
   cases q:h.get? b with
   |none=>rw[q] at e;cases e
   |some g=>rw[q] at e;cases e;exact⟨hb,q⟩
 .rintro ⟨f,c⟩
  exact⟨a,OL.mpr (Heap.lt_size c),by rw[if_neg f,c];rfl⟩
def intOf:Value->Int
 |.int z _=>z
 |_=>0
theorem zA:∀{vs:List Value}{ns:aab},IntsAre vs ns->∀(j:Nat) v,vs[j]?=some v->∃z t,ns[j]?=some z/\v=.int z t
 |_,_,.nil,j,v,h=>by simp at h
 |_,_,.cons n t hr,0,v,h=>by cases h;exact⟨n,t,rfl,rfl⟩
 |_,_,.cons n t hr,j+1,v,h=>by
  rw[P5] at h ⊢
  exact zA hr j v h
theorem intsAre_map:∀{vs:List Value},(∀v∈vs,∃t,v=.int (intOf v) t)->IntsAre vs (vs.map intOf)
 |[],_=>.nil
 |v::vs,h=>by
  obtain ⟨t,e⟩:=h v k0
  rw[Oi,e]
  exact .cons _ _ (intsAre_map fun x c=>h x (gV _ c))
theorem Cg:∀{vs:List Value}{ns:aab},IntsAre vs ns->vs.map intOf=ns
 |_,_,.nil=>rfl
 |_,_,.cons n t hr=>by rw[Oi,Cg hr];rfl
theorem Dw{Q:Value->Shared->Prop}{r f L:Addr}{n:Nat}{t u v:Tok}{m:Str->Option Value}{key:Nat->Int}(hh:A.handled=none)(hr:IsRange s.heap r 0 (n:Int) 1 t u v)(Ta:n<64)(Y:s.heap.Ns L m)
  (Ra:∀(j:Nat) (y:Tok) (h:Heap) (x:Nat),j<n->(∀b o,b≠L->s.heap.get? b=some o->h.get? b=some o)->h.Ns L m ->
   wpAny (model prog w) A.in1.in1 (call (.ref f) [.int (j:Int) y]) (fun v U=>∃h' T t',U={ s with heap:=h',toks:=T }/\v=.int (key j) t'/\(∀b o,b≠L->h.get? b=some o->h'.get? b=some o)/\h'.Ns L m) (fun _ _=>False) { s with heap:=h,toks:=x })
  (hQ:∀(h':Heap) (x:Nat) (D:Addr) (out:Array Value) (c:Nat) (I:aab),(∀b o,b≠L->s.heap.get? b=some o->h'.get? b=some o)->h'.Ns L m->h'.get? D=some (seqObj "list" out c)->s.heap.objs.size<=D ->
   IntsAre out.toList I->I.Perm (DB n)->I.Pairwise (fun a b=>key a.toNat<=key b.toNat)->Q (.ref D) { s with heap:=h',toks:=x }) :
  wpAny (model prog w) A (call (.builtin "sorted") [.ref r] [(Str.ofString "key",.ref f)]) Q E s:=by
 refine call_function_entry_kw kind_sorted plain_sorted entry_sorted (ksk_s1 _ _) ?_
 unfold Builtin.«sorted»
 refine wpAny_bind (m:=checkCount "sorted" 1 1 _) (wpAny_pure ?_)
 refine wpAny_bind (B2 (A:=A.in1) hh hr () fun g Ye vs k1 Xv G=>?_)
 have C:vs.length=n:=by rw[G.length,dz,Ot]
 refine wpAny_bind (wpAny_newList ?_ (by rw[sizeLine_eq];omega))
 have Tg:(g.push (seqObj "list" vs.toArray 0)).get? g.objs.size=some (seqObj "list" vs.toArray 0):=Heap.get?_push_size _ rfl
 have J:∀b o,s.heap.get? b=some o->(g.push (seqObj "list" vs.toArray 0)).get? b=some o:=fun b o e=>Heap.get?_push_of_some _ (k1 b o e)
 have H:s.heap.objs.size<=g.objs.size:=QF Xv
 show wpAny _ _ _ _ _ { s with heap:=g.push (seqObj "list" vs.toArray 0),toks:=Ye }
 refine wpAny_bind (wpAny_holding (wpAny_call_entry_kw slot_list_sort ⟨_,Tg,rfl⟩ entry_list_sort ?Rl (ksk_l1 _ _)))
 show wpAny (model prog w) A.in1.in1 (Builtin.«list.sort» ⟨[.ref g.objs.size],[(Str.ofString "key",.ref f)]⟩) _ _ _
 rw[ksk_t1]
 have P:(g.push (seqObj "list" vs.toArray 0)).Ns L m:=by
  obtain ⟨o,es,ep,e1,e2⟩:=Y
  exact⟨o,es,ep,J L o e1,e2⟩
 have XZ:L<s.heap.objs.size:=Y.lt
 have XY:g.objs.size≠L:=Nat.ne_of_gt (OA XZ H)
 refine ksk_sort (kz:=(List.range n).map key) (h₀:=⟨#[],{}⟩) (L:=L) (m:=m) (news:=(Cw (g.push (seqObj "list" vs.toArray 0)) L).filter fun p=>decide (p.1≠g.objs.size)) (s:={ s with heap:=g.push (seqObj "list" vs.toArray 0),toks:=Ye })
  ⟨P,fun b o e=>by simp [Heap.get?] at e,Pd _⟩ (fun p q=>?_) Tg XY (by simp [Heap.get?]) (fun p q=>of_decide_eq_true (O9.mp q).2) (by rw[dz,Ot,C]) () ?_ ?_
 .obtain ⟨q1,q2⟩:=pR.mp (O9.mp q).1
  exact⟨q2,q1,by simp [Heap.get?]⟩
 .intro i v k B X h x own F N
  obtain ⟨z,y,e1,rfl⟩:=zA G i v B
  have hi:i<n:=by rw[<- C];exact (oe.mp B).1
  rw[ox,O8 hi] at e1 X
  cases e1
  cases X
  have kh:∀b o,b≠L->s.heap.get? b=some o->h.get? b=some o:=fun b o hb e =>
   (N (b,o) (Oq _ (O9.mpr ⟨pR.mpr ⟨hb,J b o e⟩,decide_eq_true (OK (OA (Heap.lt_size e) H))⟩))).1
  refine wpAny_mono (Ra i y h x hi kh F.ns) (fun v U ⟨h',T,t',e1,e2,kk,nn⟩=>?_) fun _ _ z=>z
  exact⟨h',T,t',e1,e2,⟨nn,fun b o e=>by simp [Heap.get?] at e,Pd _⟩,fun p q=>⟨kk _ _ (N p q).2.1 (N p q).1,(N p q).2⟩⟩
 .intro h' x out c F N ⟨ps,q,ho,hs⟩
  refine⟨_,rfl,wpAny_pure ⟨_,rfl,?_⟩⟩
  have M:∀p∈ps,(∃t,p.2=.int (intOf p.2) t)/\p.1=key (intOf p.2).toNat:=fun p R=>by
   obtain ⟨j,hj⟩:=List.mem_iff_getElem?.mp (q.mem_iff.mp R)
   obtain ⟨g1,Z⟩:=List.getElem?_zip_eq_some.mp hj
   obtain ⟨z,y,e1,e2⟩:=zA G j _ Z
   have O:j<n:=by rw[<- C];exact (oe.mp Z).1
   rw[ox,O8 O] at e1 g1
   cases e1
   refine⟨⟨y,by rw[e2];rfl⟩,?_⟩
   rw[e2]
   show p.1=key (j:Int).toNat
   rw[Oh]
   exact (OJ g1).symm
  refine hQ h' x g.objs.size out c (ps.map fun p=>intOf p.2) (fun b o hb e=>?_) F.ns (N _ k0).1 H ?_ ?_ ?_
  .exact (N (b,o) (gV _ (O9.mpr ⟨pR.mpr ⟨hb,J b o e⟩,decide_eq_true (OK (OA (Heap.lt_size e) H))⟩))).1
  .rw[ho,show (ps.map fun p=>intOf p.2)=(ps.map Prod.snd).map intOf by rw[OB];rfl]
   refine intsAre_map fun v B=>?_
   obtain ⟨p,R,rfl⟩:=Oo.mp B
   exact (M p R).1
  .refine (q.map fun p=>intOf p.2).trans ?_
   rw[show (((List.range n).map key).zip vs).map (fun p=>intOf p.2)=(((List.range n).map key).zip vs |>.map Prod.snd).map intOf by rw[OB];rfl,List.map_snd_zip (by rw[dz,Ot,C];exact Ol _),Cg G]
  .rw[Qi]
   refine hs.imp_of_mem fun {a b} ha hb h=>?_
   rw[<- (M a ha).2,<- (M b hb).2]
   exact h
end
abbrev ur(x y:Str)(p1 p2 p3 c:Pos):Expr:=.UnaryOp .USub (.Subscript (.Name x p1) (.Name y p2) p3) c
section
variable {prog:Program}{w:World}{A:Around}{E:Value->Shared->Prop}{s:Shared}
theorem HM{Q:Value->Shared->Prop}{f m cr a:Addr}{q x y:Str}{G:Arguments}{scope:Scope}{p1 p2 p3 u:Pos}{t F:Value}{g tz:Tok}{j:Nat}{z:Int}{items:Array Value}
  (L:s.heap.get? f=some (PySem.W.kla_obj "<lambda>" q G (ur x y p1 p2 p3 u) scope [(x,cr)] t m F)) (Q9:s.heap.CodeRec (.ref m) q) (SH:A.depth<recursionLimit) (h:s.heap.NoLimit)
  (RC:s.heap.IsCell cr (some (.ref a))) (M:s.heap.IsList a items) (I:items[j]?=some (.int z tz)) (hj:j<2 ^ 62)
  (hb:∀v:Value,bindArgs (PySem.W.kla_fn "<lambda>" q G (ur x y p1 p2 p3 u) scope [(x,cr)] t (.ref m) F) ⟨[v],[]⟩=pure [(y,v)])
  (B:scope.names.lookup y=some .local) (U:scope.names.lookup x=some .free) (X:∀n∈scope.names,n.2≠.cell) (i:scope.kind=.function) (P:scope.isCoroutine=false) (Y:scope.isGenerator=false)
  (Z:(x == ("__debug__" : Str))=false) (T:(y == ("__debug__" : Str))=false) (R:(x == ("__classdict__" : Str))=false)
  (O:∀(h':Heap) (H:Nat) (t':Tok),(∀b o,s.heap.get? b=some o->h'.get? b=some o)->Q (.int (-z) t') { s with heap:=h',toks:=H }) :
  wpAny (model prog w) A (call (.ref f) [.int (j:Int) g]) Q E s:=by
 refine wpAny_call (PySem.W.kla_callFunE SH L rfl P Y rfl Q9 ?_)
 rw[hb]
 refine wpAny_pure (wpAny_newFunctionEnv X (fun p J=>?_) (fun Ri Rj C=>⟨h.fresh _ C,?_⟩) i)
 .rw[mo.mp J];exact B
 have r:∀b o,s.heap.get? b=some o->Ri.get? b=some o:=fun b o e=>C.extBut b o (OK (Heap.lt_size e)) (Heap.get?_push_of_some _ e)
 refine PySem.W.kla_codeExpr ?_
 refine UnaryOp_ (Subscript_ ?_)
 refine wpAny_Name (wpAny_loadName_free (c:=cr) (v:=.ref a) i U ?_ (let ⟨o,e,d⟩:=RC;⟨o,r _ o e,d⟩) ?_ R) Z
 .show List.lookup x [(x,cr)]=some cr
  rw[List.lookup_cons_self]
 refine wpAny_Name (wpAny_loadName_local (v:=.int (j:Int) g) i B Rj ?_ ?_) T
 .show List.lookup y [(y,Value.int (j:Int) g)]=_
  rw[List.lookup_cons_self]
 refine item_listR (M.at fun o e=>r _ o e) () () (by rw[Oh];exact I) ?_
 exact neg_int (O _ _ _ r)
end
end L2
namespace L3
open PySem L2 PySem.Calls PyProof.Rows
def N6(g:TE):TE:=fun f H Q=>g f H fun x c=>∃n:Nat,x=.int (n:Int)/\∀r,c r=none->Q (.ref r) (upd c r (.rng 0 n))
section
variable {X:Cx}
theorem L7(r:Gl X "range")(hm:X.mg "range" = none)(u:PE X e te)(g:starEach [e] X.env=[(false,eval e X.env)]:=by rfl) :
  PE X (.Call (.Name "range" p) [e] [] pos) (N6 te):=by
 intro c s j H Q I h
 refine wpAny_Call_Name_kw (hX I r hm boot_range ?_)
 refine O2 ?_ g rfl
 rw[g]
 refine Calls.spliced_cons (thn (u c s j H _ I h) fun v f ⟨x,y,i,m,n,ex,q⟩=>?_)
 subst ex
 obtain ⟨t,rfl⟩:=m
 refine Calls.spliced_nil (call_range_1 ?_)
 have hn:y f.heap.objs.size=none:=i.hok.fresh (Ol _)
 exact⟨.ref f.heap.objs.size,_,i.laid (o:=.rng 0 (n:Int)) (fun b o e=>Heap.get?_push_of_some _ e) (Ol _) ⟨_,_,_,Heap.get?_push_size _ rfl⟩,rfl,q _ hn⟩
end
theorem rE{a b:Int}{t u:Tok}{c:Value}:∀{l:List Value},TriplesOk l->TriplesOk (l++[.int a t,.int b u,c])
 |[],_=>trivial
 |.int _ _::.int _ _::_::rest,h=>rE (l:=rest) h
theorem wz{pos:Pos}{a b:Int}{t u:Tok}{c f:Value}:∀{l:List Value},TriplesOk l->codeAmong pos (l++[.int a t,.int b u,c])=some f->codeAmong pos l=some f\/f=c
 |[],_,h=>by
  simp only[List.nil_append,codeAmong] at h
  split at h
  .exact .inr (OJ h).symm
  .cases h
 |.int l1 i::.int c1 g::x::rest,ht,h=>by
  simp only[Qp,codeAmong] at h ⊢
  split at h
  .rename_i e
   rw[if_pos e];exact .inl h
  .rename_i e
   rw[if_neg e]
   exact wz (l:=rest) ht h
section
variable {X:Cx}{x y:Str}{Pq:Arguments}{scope:Scope}{pos p1 p2 p3 p4:Pos}{cr c P:Addr}
def zN(x y:Str)(m:Arguments)(scope:Scope)(p1 p2 p3 g:Pos)(cr:Addr)(c:Value)(f i:Addr):HO :=
 .ext fun h=>∃j,h.get? f=some (PySem.W.kla_obj "<lambda>" BZ m (ur x y p1 p2 p3 g) scope [(x,cr)] c i j)
def BMd(base:Heap)(mg:Str->Option Value):Prop:=∃c ob,mg "__builtins__" = some (.ref c)/\c≠builtinsNs/\base.get? c=some ob/\ob.cls=.type "module"/\ob.dict=some builtinsNs/\ob.data=.plain
theorem KD{h:Heap}{f:Addr}{P:Program}{w:World}{H:Hp}(hr:h.CodeRec (.ref f) BZ):bI P w H h f (xT f):=by
 refine⟨hr,?_,fun j i ⟨c,o,vs,t,e1,e2,g⟩ k=>?_⟩
 .obtain ⟨c,o,vs,t,e1,e2,g⟩:=hr
  cases e1
  exact⟨o,e2⟩
 .cases e1
  exact⟨_,o,vs,t,rfl,k o e2,g⟩
theorem Ej{h:Heap}{f j:Addr}{P:Program}{w:World}{H:Hp}{g c:Value}(i:h.get? f=some (PySem.W.kla_obj "<lambda>" BZ Pq (ur x y p1 p2 p3 p4) scope [(x,cr)] g j c)) :
  bI P w H h f (zN x y Pq scope p1 p2 p3 p4 cr g f j):=⟨⟨c,i⟩,⟨_,i⟩,fun n m ⟨c,e⟩ k=>⟨c,k _ e⟩⟩
def Nx(P:Addr)(F:Addr->Addr->HO):TE:=fun g H Q=>TabAt P H/\∀f c H',Same H H'->H f=none->H' f=some (F f c)->H' c=some (xT c)->Q (.ref f) H'
theorem MZ(SS:closureFor scope X.env=pure [(x,cr)])(Sl:X.env.code=.ref c)(Q9:PySem.W.codeHdIn X.K c P=true)(hq:X.env.qual++"<lambda>" = BZ)(T1:defaultsOf Pq X.env=([],[]))(S9:BMd X.base X.mg) :
  PE X (.Lambda Pq (ur x y p1 p2 p3 p4) scope pos) (Nx P (zN x y Pq scope p1 p2 p3 p4 cr ((X.mg "__name__").getD .none))):=by
 intro pins s σ H Q I h
 obtain ⟨⟨ps,g,ht,UA⟩,q⟩:=h
 have J:s.heap.get? P=some (PySem.W.tabObj ps):=I.hok P _ g
 have KX:X.K.In s.heap:=I.mod.kin.keeps I.bk
 have C:=PySem.W.codeHd_of_K KX Q9
 have L:s.heap.Ns mainGlobals X.mg:=I.mod.glob.keeps I.bk
 have Y:mainGlobals≠P:=fun e=>by
  obtain ⟨o,es,ep,e1,e2,_⟩:=L
  rw[e,J] at e1;cases e1;cases e2
 obtain ⟨G,ob,b1,b2,b3,b4,b5,b6⟩:=S9
 have E:=I.bk _ _ b3
 have YO:G≠mainGlobals:=fun e=>by
  obtain ⟨o,es,ep,e1,e2,_⟩:=L
  rw[<- e,E] at e1;cases e1;rw[b6] at e2;cases e2
 have V5:G≠P:=fun e=>by rw[e,J] at E;cases E;cases b4
 refine PySem.W.kla_eval T1 ?_
 rw[hq]
 cases hf:codeAmong pos ps.toList with
 |none =>
  refine PySem.W.kla_makeFunction (mg:=X.mg) SS I.ok.glob L Sl C J ht hf Y ⟨G,ob,b1,b2,YO,V5,E,b4,b5,b6⟩ fun f Sa h' R hx SO PR W8 W2=>?_
  have YH:s.heap.objs.size<=h'.objs.size:=OC SO (QF PR)
  have Xg:H h'.objs.size=none:=I.hok.fresh YH
  have Ur:H f=none:=I.hok.fresh SO
  have Z4:P≠f:=aJ g Ur
  have Z3:P≠h'.objs.size:=aJ g Xg
  have Z0:f≠h'.objs.size:=OK PR
  generalize VX:ps++#[rawInt pos.line,rawInt pos.col,.ref f]=ps' at W2
  have RG:ps'.toList=ps.toList++[rawInt pos.line,rawInt pos.col,.ref f]:=by rw[<- VX,Array.toList_append]
  have i:∀b u,b≠P->H b=some u->upd (upd (upd H P (.tbl ps')) f (xT f)) h'.objs.size (zN x y Pq scope p1 p2 p3 p4 cr ((X.mg "__name__").getD .none) h'.objs.size f) b=some u:=fun b u hb e=>by
   rw[au (aJ e Xg),au (aJ e Ur),au hb];exact e
  have X9:upd (upd (upd H P (.tbl ps')) f (xT f)) h'.objs.size (zN x y Pq scope p1 p2 p3 p4 cr ((X.mg "__name__").getD .none) h'.objs.size f) P=some (.tbl ps'):=by
   rw[au Z3,au Z4,aq]
  have Zf:upd (upd (upd H P (.tbl ps')) f (xT f)) h'.objs.size (zN x y Pq scope p1 p2 p3 p4 cr ((X.mg "__name__").getD .none) h'.objs.size f) f=some (xT f):=by
   rw[au Z0,aq]
  have T:∀{b u},H b=some u->NT u->b≠P:=fun {b u} e n z=>by
   subst z;rw[g] at e;cases e;exact n
  have p:Same H (upd (upd (upd H P (.tbl ps')) f (xT f)) h'.objs.size (zN x y Pq scope p1 p2 p3 p4 cr ((X.mg "__name__").getD .none) h'.objs.size f)):=by
   refine⟨fun b u e n=>i b u (T e n) e,fun b F e=>?_,fun P' ⟨F,e,Z,g2⟩=>?_⟩
   .by_cases z:b=P
    .subst z;exact⟨_,X9⟩
    .exact⟨F,i b _ z e⟩
   .by_cases z:P'=P
    .subst z
     rw[g] at e;cases e
     refine⟨ps',X9,by rw[RG];exact rE Z,fun QQ v z=>?_⟩
     rw[RG] at z
     rcases wz Z z with z|z
     .obtain ⟨B,O,j⟩:=g2 QQ v z
      exact⟨B,O,i B _ (T j trivial) j⟩
     .exact⟨f,z,Zf⟩
    .exact⟨F,i P' _ z e,Z,fun QQ v z=>let ⟨B,O,j⟩:=g2 QQ v z;⟨B,O,i B _ (T j trivial) j⟩⟩
  have up:∀b o,b≠P->s.heap.get? b=some o->(h'.push (PySem.W.kla_obj "<lambda>" BZ Pq (ur x y p1 p2 p3 p4) scope [(x,cr)] ((X.mg "__name__").getD .none) f Sa)).get? b=some o:=fun b o hb e=>Heap.get?_push_of_some _ (hx b o hb e)
  have nL:X.env.locals≠P:=fun e=>by
   have:=I.free
   rw[e,g] at this;cases this
  have U:∀{b:Addr},H b=none->b≠P:=fun {b} e z=>by subst z;rw[g] at e;cases e
  refine⟨.ref h'.objs.size,_,?_,rfl,q h'.objs.size f _ p Xg aq Zf⟩
  refine I.step (g':=s.gens) (d':=s.drawn) (t':=R) (ch:=[]) (fun _ z=>nomatch z) (fun b o _ _ _ e n=>up b o (U n) e) (fun b o _ _ _ e n=>⟨o.slots,up b o (U n) e⟩) (fun b o _ e n=>?_) (fun b o _ e=>?_)
   (fun b xs e=>p.st b _ e trivial) (fun b o u e=>p.st b _ e trivial) (fun b F e=>?_) (fun m hm=>?_) (fun b o e=>?_) I.bare
  .have hb:=Heap.lt_size e
   rw[au (OK (OA hb YH)),au (OK (OA hb SO)),au (U n)];exact n
  .by_cases z:b=P
   .subst z;exact⟨_,Heap.get?_push_of_some _ W2⟩
   .exact⟨o,up b o z e⟩
  .by_cases z:b=P
   .subst z
    rw[g] at e;cases e
    exact⟨#[rawInt pos.line,rawInt pos.col,.ref f],by rw[VX];exact X9⟩
   .exact⟨#[],by rw[i b _ z e];simp⟩
  .obtain ⟨o,es,ep,ho,r⟩:=hm
   exact⟨o,es,ep,up _ o nL ho,r⟩
  .by_cases zf:b=h'.objs.size
   .subst zf
    rw[aq] at e;cases e
    exact Ej (Heap.get?_push_size _ rfl)
   rw[au zf] at e
   by_cases zc:b=f
   .subst zc
    rw[aq] at e;cases e
    exact KD (let ⟨cc,o,vs,t,e1,e2,e3⟩:=W8;⟨cc,o,vs,t,e1,Heap.get?_push_of_some _ e2,e3⟩)
   rw[au zc] at e
   by_cases M:b=P
   .subst M
    rw[aq] at e;cases e
    exact Heap.get?_push_of_some _ W2
   rw[au M] at e
   refine (I.hok b o e).vz (fun d w' hd z=>up d w' (fun y=>?_) z) (fun d z=>p.st d _ z trivial) fun d xs z=>p.st d _ z trivial
   subst y
   rcases hd with hd|hd
   .exact M hd.symm
   .rw[g] at hd;cases hd
 |some v =>
  obtain ⟨f,rfl,Sv⟩:=UA pos v hf
  refine PySem.W.kla_makeFunctionHit (mg:=X.mg) SS I.ok.glob L Sl C J ht hf ⟨G,ob,b1,b2,YO,V5,E,b4,b5,b6⟩ fun Sa h' R hk hsz=>?_
  have hn:H h'.objs.size=none:=I.hok.fresh hsz
  have hcf:f≠h'.objs.size:=aJ Sv hn
  exact⟨.ref h'.objs.size,_,I.laid (a:=h'.objs.size) (t':=R) (o:=zN x y Pq scope p1 p2 p3 p4 cr ((X.mg "__name__").getD .none) h'.objs.size f) (fun b o e=>Heap.get?_push_of_some _ (hk b o e)) hsz (Ej (Heap.get?_push_size _ rfl)),rfl,
   q _ f _ (Same.gQ hn) hn aq (by rw[au hcf];exact Sv)⟩
end
theorem L8{h:Heap}{L:Addr}{m c:Str->Option Value}(a:h.Ns L m)(b:h.Ns L c):m=c:=by
 obtain ⟨o,es,ep,e1,e2,_,j⟩:=a
 obtain ⟨n,es',p,g,f,_,i⟩:=b
 rw[e1] at g;cases g
 rw[e2] at f;cases f
 funext x
 rw[<- j x,<- i x]
def Ce(K:aae)(P:Addr)(i:Nat):TE:=fun f H Q=>∃(a:Addr) (ns:aab),f[i]?=some (some (.ref a))/\SqL K H a (ns.map V.int)/\ns.length<64/\TabAt P H /\
 ∀(l:Addr) (H':Hp) (c:aab),Same H H'->H l=none->H' l=some (.lst (c.map V.int))->c.Perm (DB ns.length)->c.Pairwise (fun a b=>-(ns.getD a.toNat 0)<=-(ns.getD b.toNat 0))->Q (.ref l) H'
section
variable {X:Cx}{K:aae}{x y:Str}{Pq:Arguments}{scope:Scope}{pos p1 p2 p3 p4:Pos}{cr c P:Addr}{i:Nat}{el:Expr}{tl:TE}{ps pr q2 q3 R5:Pos}
theorem Df(hK:X.K=K)(hc:X.calm=true)(hg:Gl X "sorted")(hm:X.mg "sorted" = none)(Ve:Gl X "range")(U7:X.mg "range" = none)(hl:PE X el tl)
  (htl:∀F H Q a xs,F[i]?=some (some (.ref a))->SqL X.K H a xs->Q (.int (xs.length:Int)) H->tl F H Q)
  (hN:X.N[i]?=some x) (hv:Vis X.env.scope x) (hkx:X.env.kindOf x=some .cell) (hcr:X.env.cells.lookup x=some cr) (SH:X.A.in1.in1.depth<recursionLimit)
  (SS:closureFor scope X.env=pure [(x,cr)]) (Sl:X.env.code=.ref c) (Q9:PySem.W.codeHdIn X.K c P=true) (hq:X.env.qual++"<lambda>" = BZ) (T1:defaultsOf Pq X.env=([],[])) (S9:BMd X.base X.mg)
  (hb:∀(v pm Sa:Value) (C:Addr),bindArgs (PySem.W.kla_fn "<lambda>" BZ Pq (ur x y p1 p2 p3 p4) scope [(x,cr)] pm (.ref C) Sa) ⟨[v],[]⟩=pure [(y,v)])
  (hy:scope.names.lookup y=some .local) (WW:scope.names.lookup x=some .free) (Ur:∀n∈scope.names,n.2≠.cell) (hk:scope.kind=.function) (XM:scope.isCoroutine=false) (TY:scope.isGenerator=false)
  (SR:(x == ("__debug__" : Str))=false) (XF:(y == ("__debug__" : Str))=false) (XI:(x == ("__classdict__" : Str))=false)
  (he:backTo q3 (starEach [Expr.Call (.Name "range" pr) [el] [] q2] X.env)=(false,eval (.Call (.Name "range" pr) [el] [] q2) X.env)::backTo q3 (starEach [] X.env):=by rfl)
  (hs:starEach [el] X.env=[(false,eval el X.env)]:=by rfl)
  (Rq:(backTo q3 (starEach [Expr.Call (.Name "range" pr) [el] [] q2] X.env)).any (·.1)=false:=by rfl)
  (Q3:(backToKw q3 (keywordEach [⟨some "key",.Lambda Pq (ur x y p1 p2 p3 p4) scope pos,R5⟩] X.env)).all (·.1.isSome)=true:=by rfl)
  (Xq:(backToKw q3 (keywordEach [⟨some "key",.Lambda Pq (ur x y p1 p2 p3 p4) scope pos,R5⟩] X.env)).any (·.1.isNone)=false:=by rfl)
  (Xo:(backToKw q3 (keywordEach [⟨some "key",.Lambda Pq (ur x y p1 p2 p3 p4) scope pos,R5⟩] X.env)).filterMap (·.1)=[("key" : Str)]:=by rfl) :
  PE X (.Call (.Name "sorted" ps) [.Call (.Name "range" pr) [el] [] q2] [⟨some "key",.Lambda Pq (ur x y p1 p2 p3 p4) scope pos,R5⟩] q3) (Ce K P i):=by
 subst hK
 intro E s F H Q I h
 obtain ⟨a,ns,VR,hS,Ta,hT,q⟩:=h
 have hpa:PA X [Expr.Call (.Name "range" pr) [el] [] q2] (bx (N6 tl) gT):=eV (L7 Ve U7 hl hs) cK
 have hpk:PK X [⟨some "key",.Lambda Pq (ur x y p1 p2 p3 p4) scope pos,R5⟩] (bx (Nx P (zN x y Pq scope p1 p2 p3 p4 cr ((X.mg "__name__").getD .none))) gT):=Ft (MZ SS Sl Q9 hq T1 S9) IS
 refine wpAny_Call_Name_kw (hX I hg hm boot_sorted ?_)
 refine callWith_kw (thn (hpa q3 E s F H (fun vs H1=>∃r:Addr,vs=[V.ref r]/\H r=none/\H1=upd H r (.rng 0 (ns.length:Int))) I (htl F H _ a _ VR hS ⟨ns.length,by rw[dz],fun r hr=>⟨r,rfl,hr,rfl⟩⟩)) fun us s1 ⟨vs,H1,I1,r1,r,e1,hr,e2⟩=>?_) he Rq Q3 Xq
 subst e1 e2
 obtain ⟨u1,rfl,ru⟩:=vals1 r1
 obtain rfl:u1=Value.ref r:=ru
 have Yi:Same H (upd H r (.rng 0 (ns.length:Int))):=Same.gQ hr
 refine thn (hpk q3 E s1 F _ (fun zs p=>∃f C:Addr,zs=[V.ref f]/\Same (upd H r (.rng 0 (ns.length:Int))) p/\p f=some (zN x y Pq scope p1 p2 p3 p4 cr ((X.mg "__name__").getD .none) f C)/\p C=some (xT C)) I1 ⟨Yi.ti _ hT,fun f C p sm _ T U=>⟨f,C,rfl,sm,T,U⟩⟩) fun ws G ⟨zs,p,g,rz,f,C,e1,Yh,T,U⟩=>?_
 subst e1
 obtain ⟨u2,rfl,Wr⟩:=vals1 rz
 obtain rfl:u2=Value.ref f:=Wr
 rw[Xo]
 have Wn:=Yi.trans Yh
 have Vs:=Wn.seq hS
 obtain ⟨m,hn,S8⟩:=g.loc
 obtain ⟨u,rr,look⟩:=S8 i x (.ref a) hN VR hv
 obtain rfl:u=Value.ref a:=rr
 have RC:G.heap.IsCell cr (some (.ref a)):=by
  rcases look with ⟨z,_⟩|⟨_,c2,z1,z2⟩
  .rw[hkx] at z;cases z
  .rw[hcr] at z1;cases z1;exact z2
 have TK:=g.hok r _ (Yh.st r _ aq trivial)
 obtain ⟨t1,t2,t3,TK⟩:=TK
 obtain ⟨⟨Sa,hfo⟩,_⟩:=g.hok f _ T
 obtain ⟨XJ,_⟩:=g.hok C _ U
 obtain ⟨OQ,rv,pl,hz⟩:=g.list Vs
 obtain ⟨oL,esL,epL,Y9,eL2,eL3⟩:=id hn
 have nl:∀{b:Addr}{o:Obj},G.heap.get? b=some o->(∀es ep,o.data≠.dict es ep)->b≠X.env.locals:=fun {b o} e d z=>by
  subst z;rw[e] at Y9;cases Y9;exact d _ _ eL2
 have O:∀{b:Addr}{o:HO},p b=some o->b≠X.env.locals:=fun {b o} e z=>by
  subst z;have:=g.free;rw[e] at this;cases this
 refine Dw (n:=ns.length) (L:=X.env.locals) (m:=m) (key:=fun j=>-(ns.getD j 0)) (I.ok.hd hc) TK Ta hn (fun j t0 hh Y hj B M=>?_) fun h' Y D out cp R B M hD SO hi hp hw=>?_
 .obtain ⟨oc,ec,dc⟩:=id RC
  obtain ⟨w1,Z,Wq⟩:=rv.get (show (ns.map V.int)[j]?=some (.int (ns.getD j 0)) by rw[ox,be,ab hj];rfl)
  obtain ⟨tz,rfl⟩:=Wq
  obtain ⟨oa,ea,ca,na,da⟩:=id pl.isList
  refine HM (s:={ G with heap:=hh,toks:=Y }) (cr:=cr) (a:=a) (items:=OQ.toArray) (z:=ns.getD j 0) (tz:=tz) (B _ _ (O T) hfo) ?_ SH ?_ ⟨oc,B _ _ (nl ec (fun es ep z=>by rw[dc] at z;cases z)) ec,dc⟩ (pl.isList.at fun o e=>B _ o (nl ea (fun es ep z=>by rw[da] at z;cases z)) e) (by simpa using Z) () (fun v=>hb v _ _ _) hy WW Ur hk XM TY SR XF XI fun h' UH t' kk=>⟨h',UH,t',rfl,rfl,fun b o _ e=>kk b o e,?_⟩
  .obtain ⟨cc,o,vs,t,e1,e2,e3⟩:=XJ
   cases e1
   exact⟨_,o,vs,t,rfl,B _ _ (O U) e2,e3⟩
  .exact g.mod.nolimit.keeps fun b o e=>B b o (fun z=>O6 b (by
    have h1:=Heap.lt_size e
    have h2:=g.ok.bsz
    have h3:=g.ok.above
    rw[<- z] at h3
    exact OA h1 (OC h2 h3))) (g.bk b o e)
  .obtain ⟨o,es,ep,e1,e2⟩:=M
   exact⟨o,es,ep,kk _ _ e1,e2⟩
 .have Xi:p D=none:=g.hok.fresh SO
  have sD:Same p (upd p D (.lst (R.map V.int))):=Same.gQ Xi
  refine⟨.ref D,upd p D (.lst (R.map V.int)),?_,rfl,q D _ R (Wn.trans sD) (Wn.free Xi) aq hp hw⟩
  have J:∀b u,p b=some u->upd p D (.lst (R.map V.int)) b=some u:=fun b u e=>by rw[au (aJ e Xi)];exact e
  refine g.step (g':=G.gens) (d':=G.drawn) (t':=Y) (ch:=[]) (fun _ z=>nomatch z) (fun b o hb _ _ e n=>B b o hb e) (fun b o hb _ _ e n=>⟨o.slots,B b o hb e⟩) (fun b o _ e n=>?_) (fun b o _ e=>?_)
   (fun b xs e=>J b _ e) (fun b o u e=>J b _ e) (fun b qs e=>⟨#[],by rw[J b _ e];simp⟩) (fun m' hm'=>?_) (fun b o e=>?_) g.bare
  .rw[au (OK (OA (Heap.lt_size e) SO))];exact n
  .by_cases z:b=X.env.locals
   .subst z
    obtain ⟨o',es,ep,e1,_⟩:=M
    exact⟨o',e1⟩
   .exact⟨o,B b o z e⟩
  .rw[L8 hm' hn];exact M
  .by_cases zD:b=D
   .subst zD
    rw[aq] at e;cases e
    have VZ:=hp.length_eq
    rw[dz,Ot] at VZ
    refine⟨by rw[dz,sizeLine_eq];omega,out.toList,cp,gu hi,?_⟩
    rw[hD]
   .rw[au zD] at e
    refine (g.hok b o e).vz (fun d w' hd z=>B d w' ?_ z) (fun d z=>J d _ z) fun d xs z=>J d _ z
    rcases hd with rfl|hd
    .exact O e
    .exact O hd
end
end L3
namespace L3
open PySem L2 PySem.Spec PyProof.Rows
def yE(P:Addr)(H:Hp):Prop:=(∀b,H b=none\/b=P\/∃o xs,H b=some (.frz o (.lst xs)))/\H P=some (.tbl #[])
theorem yE.tab(h:yE P H):TabAt P H:=⟨#[],h.2,trivial,fun pos c e=>by simp [codeAmong] at e⟩
theorem Gu{E:Program}{w:World}{K:aae}{mg I:Str->Option Value}{CX:CXT}{k:Nat}{O a c P:Addr}{X:FuncData}{x:Str}{sp:Sp}{f:Shared}{vs:List Value}{ns:aab}
  (T:K.In f.heap) (Rj:f.heap.Ns mainGlobals mg) (hb:f.heap.Ns builtinsNs I) (J:∀x:Str,x≠"__name__"->I x=bootBuiltins x) (Xm:f.heap.NoLimit) (hg:f.gens=#[])
  (ha:f.heap.get? a=some { cls:=.type "list",data:=.seq vs.toArray }) (hi:IntsAre vs ns) (U:ns.length<=sizeLine) (hr:fu k callerA) (p:f.heap.get? P=some (PySem.W.tabObj #[])) (Vu:K.lookup P=none) (Q9:PySem.W.codeHdIn K c P=true)
  (S9:BMd f.heap mg) (F:∀base:Heap,K.In base->base.Ns mainGlobals mg->BMd base mg->gP E w K mg base CX k O X [x] sp) (Vn:∀(s:Shared) (u:Value),BindsTo s X ⟨[u],[]⟩ [(x,u)])
  (SX:∀H:Hp,yE P H->SqL K H a (ns.map V.int)->sp [.ref a] H (fun v _=>v=.bl true) fun _ _ _=>False)
  (X0:∀H e g,CX [] H f (fun _ _ _=>False) e g->False) :
  codeAny (model E w) callerA (.call (.ref O) ⟨[.ref a],[]⟩) (fun r g=>r=.ok (.ret (.bool true))/\OldK f.heap g.heap/\g.os=f.os/\AllBare g.gens) f:=by
 have rv:=yK hi
 have WL:=hi.length
 have C:=PySem.W.codeHd_of_K T Q9
 have YR:a≠P:=fun z=>by rw[z,p] at ha;cases ha
 have VC:∀H:Hp,yE P H->SqL K H a (ns.map V.int)->HOk E w H f.heap->(∀b,H b≠none->b=a\/b=P)->(H a≠none->K.lookup a=none) ->
   codeAny (model E w) callerA (.call (.ref O) ⟨[.ref a],[]⟩) (fun r g=>r=.ok (.ret (.bool true))/\OldK f.heap g.heap/\g.os=f.os/\AllBare g.gens) f:=by
  intro H L hS hok M hK
  have UM:∀{b:Addr}{o:Obj}{es:Array DictEntry}{ep:Nat},f.heap.get? b=some o->o.data=.dict es ep->H b=none:=fun {b o es ep} e d=>by
   cases q:H b with
   |none=>rfl
   |some u =>
    rcases M b (by rw[q];simp) with z|z
    .subst z
     rw[ha] at e;cases e
     have d':Data.seq vs.toArray _=Data.dict es ep:=d
     cases d'
    .subst z
     rw[p] at e;cases e
     have d':Data.fields #[]=Data.dict es ep:=d
     cases d'
  have G:∀{b:Addr}{m:Str->Option Value},f.heap.Ns b m->(zz f.heap H).Ns b m:=fun {b m} ⟨o,es,ep,e,d,r⟩=>⟨o,es,ep,u7 e (UM e d),d,r⟩
  have Y:K.In (zz f.heap H):=fun b o e=>u7 (T b o e) (by
   cases q:H b with
   |none=>rfl
   |some u =>
    rcases M b (by rw[q];simp) with z|z
    .subst z
     rw[hK (by rw[q];simp)] at e;cases e
    .subst z
     rw[Vu] at e;cases e)
  have hM:Mod K mg (zz f.heap H):=⟨Y,G Rj,⟨I,G hb,J⟩,let ⟨mc,h1,h2⟩:=Xm;⟨mc,G h1,h2⟩⟩
  have e0:DN E w K mg (zz f.heap H) callerA [] f H:=⟨rfl,hM,fun b o e=>J2 e,Nat.le_of_eq (F3 _ _),trivial,fun b hb=>absurd (show b∈([]:List Addr) from hb) (by simp),hok,.of_eq hg⟩
  have XR:BMd (zz f.heap H) mg:=by
   obtain ⟨Q,ob,b1,b2,B,R,b5,b6⟩:=S9
   refine⟨Q,ob,b1,b2,u7 B ?_,R,b5,b6⟩
   cases q:H Q with
   |none=>rfl
   |some u =>
    rcases M Q (by rw[q];simp) with z|z
    .subst z;rw[ha] at B;cases B
     exact absurd (show Value.type "list" = Value.type "module" from R) nofun
    .subst z;rw[p] at B;cases B;cases R
  refine codeAny_mono ((F _ Y (G Rj) XR).run callerA [] f H ⟨[.ref a],[]⟩ [.ref a] [.ref a] _ _ hr e0 (Vn f (.ref a)) (.cons rfl .nil) (SX H L hS)) fun r g h=>?_
  cases r with
  |error e=>exact (X0 H e g h).elim
  |ok fl =>
   cases fl with
   |next=>exact False.elim h
   |brk=>exact False.elim h
   |cont=>exact False.elim h
   |ret u =>
    obtain ⟨v,H',os,bare,un,U4,r',q⟩:=h
    have q':v=.bl true:=q
    subst q'
    obtain rfl:u=Value.bool true:=r'
    have keep:∀b o,b≠P->f.heap.get? b=some o->g.heap.get? b=some o:=fun b o V5 e=>by
     cases q:H b with
     |none=>exact un.keep b o e q (by intro z;exact absurd (show b∈([]:List Addr) from z) (by simp)) (by simp)
     |some u =>
      rcases L.1 b with z|z|⟨ob,xs,z⟩
      .rw[q] at z;cases z
      .exact absurd z V5
      .have t:=un.frzs b ob _ z
       obtain ⟨e1,_⟩:=hok b _ z
       obtain ⟨e2,_⟩:=U4 b _ t
       rw[e] at e1;cases e1
       exact e2
    obtain ⟨n,hm⟩:=un.tbls P #[] L.2
    have Z:g.heap.get? P=some { cls:=.none,data:=.fields (#[]++n) }:=U4 P _ hm
    refine⟨rfl,⟨fun b o e=>?_,fun b o e=>?_⟩,os,bare⟩
    .by_cases z:b=P
     .subst z
      rw[p] at e;cases e
      exact .inr (.inl ⟨(C.tab p).isCodeTable,rfl,#[],n,rfl,Z⟩)
     .exact .inl (keep b o z e)
    .by_cases z:b=P
     .subst z;exact⟨_,Z⟩
     .exact⟨o,keep b o z e⟩
 cases hk:K.lookup a with
 |some o =>
  have e:=T a o hk
  rw[ha] at e
  cases e
  refine VC (fun b=>if b=P then some (.tbl #[]) else none) ⟨fun b=>?_,if_pos rfl⟩ (.inr ⟨_,vs.toArray,_,hk,rfl,rfl,rfl,by rw[OG,WL];exact U,by simpa using rv⟩) (fun b u z=>?_) (fun b z=>?_) fun z=>absurd (if_neg YR) z
  .by_cases z:b=P
   .exact .inr (.inl z)
   .exact .inl (if_neg z)
  .by_cases y:b=P
   .have j:=(if_pos y).symm.trans z
    cases j
    subst y
    exact p
   .have j:=(if_neg y).symm.trans z
    cases j
  .by_cases y:b=P
   .exact .inr y
   .exact absurd (if_neg y) z
 |none =>
  refine VC (fun b=>if b=a then some (.frz { cls:=.type "list",data:=.seq vs.toArray } (.lst (ns.map V.int))) else if b=P then some (.tbl #[]) else none) ⟨fun b=>?_,by show (if _ then _ else _)=_;rw[if_neg (OT YR),if_pos rfl]⟩ (.inl (.inr ⟨{ cls:=.type "list",data:=.seq vs.toArray },if_pos rfl⟩)) (fun b u z=>?_) (fun b z=>?_) fun _=>hk
  .by_cases y:b=a
   .exact .inr (.inr ⟨_,_,if_pos y⟩)
   .by_cases i:b=P
    .exact .inr (.inl i)
    .exact .inl (by show (if _ then _ else _)=_;rw[if_neg y,if_neg i])
  .by_cases y:b=a
   .have j:=(if_pos y).symm.trans z
    cases j
    subst y
    exact⟨ha,by rw[dz];exact U,vs,_,rv,ha⟩
   .have j:=(if_neg y).symm.trans z
    by_cases i:b=P
    .have t:=(if_pos i).symm.trans j
     cases t
     subst i
     exact p
    .have t:=(if_neg i).symm.trans j
     cases t
  .by_cases y:b=a
   .exact .inl y
   .by_cases i:b=P
    .exact .inr i
    .exact absurd (by show (if _ then _ else _)=_;rw[if_neg y,if_neg i]) z
theorem Hu{l:PySem.W.OpenLaw}{n k:Nat}{q:Program}{Rz:List Str}{M:(Str->Option Value)->Heap->Prop}{p:World->Heap->Prop}{d:DefRec}{K:Params->aae}{CX:World->CXT}{sp:World->Sp}{x:Str}{c P:Addr}
  (hn:l.most=some n) (U:n<=sizeLine) (R:d.params.defaults=[]) (hr:fu k callerA)
  (z:∀(w:World) (h:Heap),p w h->(K w.params).In h) (B:∀(w:World) (h:Heap),p w h->h.get? P=some (PySem.W.tabObj #[])) (Q:∀w:World,(K w.params).lookup P=none) (Q9:∀w:World,PySem.W.codeHdIn (K w.params) c P=true)
  (F:∀(w:World) (mg:Str->Option Value) (i:Addr) (h:Heap),(K w.params).In h->h.Ns mainGlobals mg->mg d.name=some (.ref i) ->
   ∃m:FuncData,(∀(s:Shared) (u:Value),BindsTo s m ⟨[u],[]⟩ [(x,u)]) /\
    ∀base:Heap,(K w.params).In base->base.Ns mainGlobals mg->BMd base mg->gP l.prog w (K w.params) mg base (CX w) k i m [x] (sp w))
  (X:∀(w:World) (H:Hp) (a:Addr) (ns:aab),ns.length<=n->yE P H->SqL (K w.params) H a (ns.map V.int)->sp w [.ref a] H (fun v _=>v=.bl true) fun _ _ _=>False)
  (O:∀(w:World) (H:Hp) (s:Shared) (e:Value) (j:Shared),CX w [] H s (fun _ _ _=>False) e j->False) :
  PySem.W.WalkO q Rz M p l.row.toRowW d [] (fun f vs=>PySem.call f vs):=by
 refine Att.A6 hn R fun w s₀ g mg mb i o pm cd J a vs ns G Y ho hd L S7 T Z r y=>?_
 have t:=z w _ Y
 obtain ⟨m,hb,I⟩:=F w mg i _ t G.T.g S7
 exact Gu t G.T.g G.T.b G.T.builtins G.T.nolimit y T Z (OC r U) hr (B w _ Y) (Q w) (Q9 w) (let ⟨bm,ob,b1,b2,b3,b4,b5,b6⟩:=G.T.bmain;⟨bm,ob,b1,b2,b3,b4,b5,b6⟩) I hb (fun H E C=>X w H a ns r E C) fun H e j=>O w H g e j
end L3
namespace L3
open PySem L2 PyProof.Rows
section
variable {P:Program}{w:World}{K:aae}{mg:Str->Option Value}{base:Heap}
theorem Mb(c:yE xZ H)(h:SqL K H a xs):Sc K H a xs:=by
 rcases h with (h|⟨o,h⟩)|h
 .rcases c.1 a with z|z|⟨o,ys,z⟩
  .rw[h] at z;cases z
  .subst z
   have:=c.2
   rw[h] at this;cases this
  .rw[h] at z;cases z
 .exact .inl ⟨o,h⟩
 .exact .inr h
def IE(K:aae)(mg:Str->Option Value)(base:Heap):Prop:=∃f g c,mg "falling_places" = some (.ref f)/\(∃i h sl,K.lookup f=some ⟨i,h,.func g,sl⟩)/\g.code=.ref c/\PySem.W.codeHdIn K c xZ=true/\BMd base mg
theorem Fun.okL{x qual:Str}{st:Stmt}{f c:Addr}{g:FuncData}{N ps:List Str}{k:Nat}{sp:Sp}(F:Fun K x qual st f g)(n:g.code=.ref c)(S:bS N ps (ak st))(len:∀vs H Q E,sp vs H Q E->vs.length=ps.length)
  (p:∀(A:Around) (outer:List Env) (s:Shared) (H:Hp) (vs:List V) (Q:VK) (E:XK),fu k (A.deeper (envOfC qual (ak st) s.heap.objs.size f (.ref c)))->sp vs H Q E ->
   ∃t,PSs (xR CX0 P w K mg base N qual (ak st) f (.ref c) A outer s H E).nox (cF st) t/\t { nx:=fun _ H'=>Q .non H',rt:=Q } (L2.start N vs) H):gP P w K mg base CX0 (k+1) f g ps sp:=by
 obtain ⟨y,v,kV,m,u,z,i,ct,j,rfl,lk,r⟩:=F.ex
 obtain rfl:i=.ref c:=n
 refine Lq lk r S len fun A outer s H vs Q E hr o=>?_
 obtain ⟨t,h,q⟩:=p A outer s H vs Q E hr o
 exact⟨t,h.nox,q⟩
theorem IE.of{f:Addr}{g:FuncData}{st:Stmt}{ps:List Str}(T:IE K mg base)(F:FnAt K mg "falling_places" st ps f g):∃c,g.code=.ref c/\PySem.W.codeHdIn K c xZ=true/\BMd base mg:=by
 obtain ⟨r,i,c,n,⟨q,p,sl,lk⟩,j,o,m⟩:=T
 have e1:=n.symm.trans F.mg
 cases e1
 obtain ⟨_,_,_,_,_,_,_,_,_,rfl,h,_⟩:=F.fn.ex
 rw[lk] at h
 cases h
 exact⟨c,j,o,m⟩
end
section
variable {K:aae}{Γ:aad}{i:Nat}
theorem M1(e:δ[i]?=some (some x))(h:P x):iI i δ P:=by
 unfold iI
 rw[e]
 exact h
def Hj(i:Nat):DE:=fun δ P=>iI i δ fun x=>asL x fun ds=>∃ns:aab,ds=ns.map D.int/\ns.length<64/\∀c:aab,c.Perm (DB ns.length)->c.Pairwise (fun a b=>ns.getD b.toNat 0<=ns.getD a.toNat 0)->P (dI c)
theorem C8(i:Nat):EM K Γ [] (Ce K xZ i) (Hj i) :=
 ⟨fun δ P C k h=>by
  obtain ⟨x,e,z⟩:=jF h
  obtain ⟨ds,e2,ns,u,f,z⟩:=bq z
  exact M1 e (gh e2 ⟨ns,u,f,fun c t s=>k _ (z c t s)⟩),
 fun {B0 fps δ y H Q} o h=>by
  obtain ⟨x,e,z⟩:=jF h
  obtain ⟨ds,e2,ns,rfl,f,z⟩:=bq z
  obtain ⟨v,n,r⟩:=o.val i _ e
  obtain ⟨a,xs,B,rfl,g,hr,_⟩:=r.seq e2
  obtain ⟨rfl,_⟩:=hr.gS bh
  refine⟨a,ns,n,by rw[OB] at g;exact g,f,o.b0.now,fun l H' c m q j p hw=>?_⟩
  exact z c p (hw.imp fun h=>by omega) _ _ [l] m (Rf.ofInts j) ⟨by simp,fun b hb=>by cases mo.mp hb;exact .inl ⟨_,j⟩,fun b hb=>by cases mo.mp hb;exact .inl q⟩⟩
end
end L3
namespace L3
open PySem
open L2 hiding D Rf Rfs Rp dI dT
section
variable {K:aae}
def rC:D->Bool
 |.tup ds=>ds.all D.ax
 |d=>D.ax d
theorem Rf.qv(h:Rf K H d v fp)(f:rC d=true):fp=[]:=by
 cases d with
 |tup ds =>
  obtain ⟨a,xs,e1,e2,h⟩:=h
  exact (h.gS f).2
 |scr _ =>
  obtain ⟨a,e1,e2,c⟩:=h
  exact c
 |_=>first|exact h.2|cases f
theorem Rfs.qv{H:Hp}:∀{ds:List D}{vs:List V}{fp:List Addr},Rfs K H ds vs fp->ds.all rC=true->fp=[]
 |[],_,_,h,_=>h.2
 |d::ds,vs,fp,h,f=>by
  obtain ⟨x,r,j,i,e1,e2,g,c⟩:=h
  rw[Qu,Pj] at f
  rw[e2,g.qv f.1,c.qv f.2];rfl
def yo(x:D)(y:D)(P:DK):Prop:=match x,y with|.lst a,.lst b=>(a.all rC=true/\b.all rC=true/\a.length+b.length<=1000)/\P (.lst (a++b))|_,_=>False
set_option tactic.hygienic true in
theorem MC:OpV K Kn yo:=⟨fun x y P P' k h=>by unfold yo at h ⊢;revert h;split<;>first|exact fun h=>⟨h.1,k _ h.2⟩|exact id,fun {H x y v w Q} r1 r2 h=>by
 unfold yo at h
 split at h
 .rename_i a b
  obtain ⟨⟨s1,s2,hl⟩,h⟩:=h
  obtain ⟨f1,l1,xs,q1,rfl,e1,_,TL⟩:=r1
  obtain ⟨f2,l2,ys,q2,rfl,e2,_,R0⟩:=r2
  obtain rfl:=TL.qv s1
  obtain rfl:=R0.qv s2
  refine⟨l1,l2,_,_,rfl,rfl,e1,e2,by rw[TL.length,R0.length];exact fA hl,fun p hp=>?_⟩
  exact h _ _ [p] (Same.gQ hp) ⟨p,_,[],rfl,aq,rfl,(TL.append R0).same (Same.gQ hp)⟩ ⟨by simp,fun b hb=>by cases mo.mp hb;exact .inl ⟨_,aq⟩,fun b hb=>by cases mo.mp hb;exact .inl hp⟩
 .exact h.elim⟩
def Peel(R R':DS):Prop:=R=R'
theorem b7(h:∀R',Peel R' R->A { E with nx:=R' E } δ):Dd A R E δ:=h R rfl
end
end L3
namespace L3
open PySem L2
section
variable {K:aae}{Γ:aad}{d e:DS}
variable {B0:Hp}{fps:Nat->List Addr}{δ:Dl}{σ:St}{H:Hp}
theorem Rfs.Oe(h:Rfs K H ds vs [])(r:Rfs K H es ws []):Rfs K H (ds++es) (vs++ws) []:=h.append r
theorem CD(o:Ok K B0 Γ fps δ σ H)(hi:i∈Γ)(e:δ[i]?=some (some (.lst ds)))(p:ds.all rC=true) :
  ∃a xs,σ[i]?=some (some (.ref a))/\H a=some (.lst xs)/\Rfs K H ds xs []/\∀{c:List D}{f:List V},Rfs K H c f []->Ok K B0 Γ (fun j=>if j=i then [a] else fps j) (δ.set i (some (.lst c))) σ (upd H a (.lst f)):=by
 obtain ⟨a,xs,s,m,q,g,h⟩:=o.z7 e
 obtain rfl:=h.qv p
 have n:=o.own i hi
 rw[g] at n
 have nt:=(n.2 a k0).2.mx
 refine⟨a,xs,m,q,h,fun {c f} r=>o.write hi (d':=.lst c) (fp':=[a]) m ⟨a,f,[],rfl,aq,rfl,r.upd (fun z=>(nomatch z)) nt⟩ (by simp) (fun b hb=>?_) (fun b hb=>?_) ?_⟩
 .cases mo.mp hb;exact .inl ⟨_,aq⟩
 .cases mo.mp hb;rw[g];exact .inl k0
 .rw[g];exact uL k0
end
section
variable {K:aae}{Γ:aad}{ta tb:TE}{da db:DE}
def Fb(f c:DE)(δ:Dl)(P:DK):Prop:=f δ fun x=>c δ fun y=>∃a b,x=.lst a/\y=.lst b/\a.length+b.length<=1000/\P (.lst (a++b))
theorem Ku(ha:EM K Γ [] ta da)(hb:EM K Γ [] tb db):EM K Γ [] (tOp Kn ta tb) (Fb da db) :=
 ⟨fun δ P R k h=>ha.mono _ _ _ (fun x z=>hb.mono _ _ _ (fun y ⟨a,b,e1,e2,u,q⟩=>⟨a,b,e1,e2,u,k _ q⟩) z) h,
 fun {B0 fps δ J H Q} o h=>ha.run o (ha.mono _ _ _ (fun x z v T M j E n1=>hb.run (o.same j) (hb.mono _ _ _ (fun y ⟨a,b,e1,e2,u,q⟩ w B L g C n2=>by
  subst e1 e2
  have I:=E.same g
  obtain ⟨l1,xs,n,rfl,G,rfl,k1⟩:=I
  obtain ⟨l2,ys,q2,rfl,F,rfl,t⟩:=C
  have c1:=k1.length
  have O:=t.length
  refine⟨l1,l2,xs,ys,rfl,rfl,G,F,fA (),fun p m=>?_⟩
  have i:Same B (upd B p (.lst (xs++ys))):=Same.gQ m
  have dj:∀c∈n,c∉q2:=fun c s r=>(n1.mu c (gV _ s)).some (n2.fresh c (gV _ r))
  refine q (.ref p) _ (p::(n++q2)) ((j.trans g).trans i) ⟨p,xs++ys,n++q2,rfl,aq,rfl,(k1.append t).same i⟩ ⟨Om.mpr ⟨fun hm=>?_,Ow.mpr ⟨(Om.mp n1.nd).2,(Om.mp n2.nd).2,fun c s d r e=>dj c s (e▸r)⟩⟩,fun c f=>?_,fun c f=>?_⟩
  .rcases Oj.mp hm with h|h
   .exact ((n1.mu p (gV _ h)).same g).some m
   .exact (n2.mu p (gV _ h)).some m
  .rcases KE.mp f with e|f
   .subst e;exact .inl ⟨_,aq⟩
   .rcases Oj.mp f with h|h
    .exact ((n1.mu c (gV _ h)).same g).same i
    .exact (n2.mu c (gV _ h)).same i
  .rcases KE.mp f with e|f
   .subst e;exact .inl ((j.trans g).free m)
   .rcases Oj.mp f with h|h
    .exact .inl (n1.fresh c (gV _ h))
    .exact .inl (j.free (n2.fresh c (gV _ h)))) z)) h)⟩
def NB(f:DE)(c:DT)(k:Nat)(idx:aad)(δ:Dl)(P:DK):Prop:=f δ fun x=>∃ds,x=.lst ds/\ds.length<=1000/\∃p:D->Bool,(∀d∈ds,∀R:Bool->Prop,R (p d)->c ((cO k idx δ).set 0 (some d)) R)/\P (.lst (ds.filter p))
theorem KO(ha:EM K Γ [] ta da)(ht:TR K [] tt dt)(hk:0<k:=by decide):EM K Γ [] (xo (BA K ta) (dZ 0) tt (bR 0) k idx) (NB da dt k idx):=by
 refine⟨fun δ P P' k h=>ha.mono _ _ _ (fun x ⟨ds,e,l,p,X,q2⟩=>⟨ds,e,l,p,X,k _ q2⟩) h,fun {B0 fps δ T H Q} o h=>ha.run o (ha.mono _ _ _ (fun x z v u fp B U n1=>?_) h)⟩
 obtain ⟨ds,rfl,hl,p,hp,q⟩:=z
 obtain ⟨a,xs,F,rfl,O,rfl,hr⟩:=U
 have c1:=hr.length
 have nd:=Om.mp n1.nd
 refine⟨a,rfl,⟨xs,.inl (.inl O)⟩,fun i m vs t=>∃r fs,m=ds.length - i/\i<=ds.length/\Same u t/\vs.length<=i/\Rfs K u (ds.drop i) (xs.drop i) r/\Rfs K u ((ds.take i).filter p) vs fs/\(fs++r).Nodup/\(∀b∈fs++r,b∈F),⟨ds.length,F,[],(),Pd _,Same.refl _,Pd _,by rw[Pf,Pf];exact hr,⟨rfl,rfl⟩,by rw[List.nil_append];exact nd.2,fun b hb=>by simpa using hb⟩,?_⟩
 rintro i m vs t ⟨r,fs,rfl,hi,f,hv,k1,n,J,sub⟩
 have sq:∀{L:Hp},Same u L->SqL K L a xs:=fun s=>.inl (.inl (s.st _ _ O trivial))
 by_cases g:i<ds.length
 .refine .inr ⟨⟨xs,xs[i]'(),sq f,ab ()⟩,fA (),_,fun Sz H' q=>q,fun x L C=>?_⟩
  obtain ⟨rfl,C⟩:=C
  have ex:=C xs (sq f)
  rw[ab ()] at ex
  cases ex
  rw[Ou g,Ou (show i<xs.length by omega)] at k1
  obtain ⟨x',r',g1,R,e1,e2,d1,d2⟩:=k1
  cases e1
  subst e2
  have Y:=(Hg (k:=k) (idx:=idx) (o.same (B.trans f)))
  have Z:=(Y.wH 0 (Same.refl _) (d1.same f) (fun _ h=>(nomatch h))).sub (Γ':=[]) (fun _ h=>(nomatch h))
  have hd:=hp ds[i] (ON g)
  have W6:((fK k idx T).set 0 (some (xs[i]'())))[0]?=some (some (xs[i]'())):=by
   rw[OD]
   simp [fK,Cq]
   omega
  refine ht.run Z (hd _ fun H4 M=>?_)
  by_cases hb:p ds[i]=true
  .rw[if_pos hb]
   refine⟨_,W6,ds.length - (i+1),(),R,fs++g1,rfl,g,f.trans M,by simp;omega,d2,?_,?_,?_⟩
   .rw[QG g,PV,List.filter_cons_of_pos hb,List.filter_nil]
    exact n.append (Rfs.one d1)
   .rw[OM];exact J
   .rw[OM];exact sub
  .rw[if_neg hb]
   refine⟨ds.length - (i+1),(),R,fs,rfl,g,f.trans M,(),d2,?_,?_,?_⟩
   .rw[QG g,PV,List.filter_cons_of_neg hb,List.filter_nil,Pb]
    exact n
   .obtain ⟨a1,a2,a3⟩:=Ow.mp J
    exact Ow.mpr ⟨a1,(Ow.mp a2).2.1,fun c h1 d h2=>a3 c h1 d (Fk _ h2)⟩
   .exact fun b T4=>sub b ((Oj.mp T4).elim (fun z=>Oq _ z) (fun z=>Fk _ (Fk _ z)))
 .have e:i=ds.length:=()
  subst e
  rw[Qn] at n
  refine .inl ⟨⟨xs,sq f,()⟩,fA (),fun j G=>?_⟩
  have y:Same t (upd t j (.lst vs)):=Same.gQ G
  have I:∀b∈fs,b∈F:=fun b hb=>sub b (Oq _ hb)
  refine q _ _ (j::fs) ((B.trans f).trans y) ⟨j,vs,fs,rfl,aq,rfl,n.same (f.trans y)⟩ ⟨Om.mpr ⟨fun h=>?_,(Ow.mp J).1⟩,fun c E=>?_,fun c E=>?_⟩
  .exact ((n1.mu j (gV _ (I j h))).same f).some G
  .rcases KE.mp E with e|h
   .subst e;exact .inl ⟨vs,aq⟩
   .exact ((n1.mu c (gV _ (I c h))).same f).same y
  .rcases KE.mp E with e|h
   .subst e;exact .inl ((B.trans f).free G)
   .exact .inl (n1.fresh c (gV _ (I c h)))
end
end L3
namespace Tal
def lines:Nat->aaa
 |0=>[[]]
 |w+1=>(lines w).map (fun l=>0::l)++(lines w).map (fun l=>1::l)
def aG(x:Int)(w:Nat):aaa:=(lines w).filter fun r=>decide (r.sum=x)
def sub:aab->aab->aab
 |a::as,b::bs=>(a - b)::sub as bs
 |[],_=>[]
 |_::_,[]=>[]
def W:aab->aab->Int
 |[],left=>if (∀x∈left,x=0) then 1 else 0
 |r::rs,left=>((aG r left.length).map fun l=>W rs (sub left l)).sum
theorem sub_len:∀{a b:aab},b.length=a.length->(sub a b).length=a.length
 |[],_,_=>rfl
 |a::as,[],h=>by simp at h
 |a::as,b::bs,h=>by show (sub as bs).length+1=as.length+1;rw[sub_len (by simpa using h)]
theorem lS:∀{a b:aab}{i:Nat},b.length=a.length->(sub a b).getD i 0=a.getD i 0 - b.getD i 0
 |[],[],i,_=>by simp [sub]
 |[],b::bs,_,h=>by simp at h
 |a::as,[],_,h=>by simp at h
 |a::as,b::bs,0,h=>by simp [sub]
 |a::as,b::bs,i+1,h=>by
  have:=lS (a:=as) (b:=bs) (i:=i) (by simpa using h)
  simpa [sub] using this
theorem qd(h:a.length=b.length):(List.range a.length).map (fun (i:Nat)=>a.getD i 0 - b.getD i 0)=sub a b:=by
 have l2:=sub_len (a:=a) (b:=b) h.symm
 refine Px (by rw[dz,Ot,l2]) fun i f c=>?_
 rw[Ph,Qa,<- lS h.symm,be,ab c]
 rfl
theorem bG:∀{w:Nat}{l:aab},l∈lines w->l.length=w/\∀z∈l,z=0\/z=1
 |0,l,h=>by
  rw[lines,mo] at h
  subst h
  exact⟨rfl,fun z c=>absurd c OF⟩
 |w+1,l,h=>by
  rw[lines,Oj,Oo,Oo] at h
  rcases h with ⟨m,hm,rfl⟩|⟨m,hm,rfl⟩
  all_goals
   have:=bG hm
   refine⟨by rw[H0,this.1],fun z c=>?_⟩
   rcases KE.mp c with e|e
   .subst e;simp
   .exact this.2 z e
theorem sL:∀{l:aab},(∀z∈l,z=0\/z=1)->l∈lines l.length
 |[],_=>by simp [lines]
 |x::l,h=>by
  have:=sL (l:=l) (fun z c=>h z (gV _ c))
  rw[H0,lines,Oj,Oo,Oo]
  rcases h x k0 with e|e
  .exact .inl ⟨l,this,by rw[e]⟩
  .exact .inr ⟨l,this,by rw[e]⟩
theorem jj:∀w,(lines w).length=2 ^ w
 |0=>rfl
 |w+1=>by rw[lines,Ox,dz,dz,jj w,Nat.pow_succ];omega
theorem aU:l∈aG x w↔l∈lines w/\l.sum=x:=by
 rw[aG,O9,decide_eq_true_eq]
theorem CZ:(aG x w).length<=2 ^ w:=by
 rw[<- jj w];exact Qf _ _
def S(w:Nat)(f:aab->Int):Int:=((lines w).map f).sum
theorem wO:S 0 f=f []:=by simp [S,lines]
theorem nQ:S (w+1) f=S w (fun l=>f (0::l))+S w (fun l=>f (1::l)):=by
 rw[S,lines,Ov,QP,OB,OB];rfl
theorem dA(h:∀l∈lines w,f l=g l):S w f=S w g:=by
 rw[S,S,O7 h]
theorem jG(p:aab->Bool)(f:aab->Int):∀ls:aaa,((ls.filter p).map f).sum=(ls.map fun l=>if p l=true then f l else 0).sum
 |[]=>rfl
 |l::ls=>by
  rw[Oi,Oy,<- jG p f ls,P6]
  split<;>simp
theorem kW:W (r::rs) left=S left.length (fun l=>if l.sum=r then W rs (sub left l) else 0):=by
 rw[W,aG,jG,S]
 congr 1
 refine O7 fun l _=>?_
 simp
theorem Ln:S w (fun l=>f l+g l)=S w f+S w g:=by
 unfold S
 induction lines w with
 |nil=>rfl
 |cons a l ih=>simp only[Oi,Oy,ih];omega
theorem NU:S w (fun l=>k*f l)=k*S w f:=by
 unfold S
 induction lines w with
 |nil=>simp
 |cons a l ih=>simp only[Oi,Oy,ih,Int.mul_add]
theorem wa:S w (fun _=>0)=0:=by
 unfold S
 induction lines w with
 |nil=>rfl
 |cons a l ih=>simp only[Oi,Oy,ih];omega
theorem DJ{v:Nat}:∀{w:Nat}{f:aab->aab->Int},S w (fun l=>S v fun m=>f l m)=S v (fun m=>S w fun l=>f l m)
 |0,f=>by rw[wO];exact dA fun m _=>by rw[wO]
 |w+1,f=>by
  rw[nQ,DJ (w:=w) (f:=fun l=>f (0::l)),DJ (w:=w) (f:=fun l=>f (1::l)),<- Ln]
  exact dA fun m _=>by rw[nQ]
theorem wF(h:∀l∈lines w,0<=f l):0<=S w f:=by
 unfold S
 revert h
 induction lines w with
 |nil=>intro _;simp
 |cons a l ih =>
  intro h
  have g:=h a k0
  have c:=ih fun m hm=>h m (gV _ hm)
  simp only[Oi,Oy];omega
theorem Md{B:Int}(g:0<=B):∀{w:Nat}{f:aab->Int},(∀l∈lines w,f l<=B)->S w f<=2 ^ w*B
 |0,f,h=>by
  rw[wO]
  have:=h [] (by simp [lines])
  simpa using this
 |w+1,f,h=>by
  rw[nQ]
  have j:=Md (w:=w) g (f:=fun l=>f (0::l)) fun l c=>h _ (by rw[lines,Oj];exact .inl (Oo.mpr ⟨l,c,rfl⟩))
  have i:=Md (w:=w) g (f:=fun l=>f (1::l)) fun l c=>h _ (by rw[lines,Oj];exact .inr (Oo.mpr ⟨l,c,rfl⟩))
  have:(2:Int) ^ (w+1)*B=2 ^ w*B+2 ^ w*B:=by rw[Int.pow_succ,Int.mul_right_comm];omega
  omega
theorem dM:∀{rs left:aab},0<=W rs left
 |[],left=>by rw[W];split<;>decide
 |r::rs,left=>by
  rw[kW]
  refine wF fun l _=>?_
  split
  .exact dM
  .decide
theorem Mr:∀{rs left:aab},W rs left<=(2 ^ left.length) ^ rs.length
 |[],left=>by rw[W];split<;>simp
 |r::rs,left=>by
  rw[kW,H0,Int.pow_succ,Int.mul_comm]
  have p:(0:Int)<=(2 ^ left.length) ^ rs.length:=Int.pow_nonneg (Int.pow_nonneg nofun)
  refine Md p fun l c=>?_
  split
  .have:=Mr (rs:=rs) (left:=sub left l)
   rw[sub_len (bG c).1] at this
   exact this
  .exact p
theorem MA(p:a.Perm b):∀(g:Int->aab->Int),(∀k m f,m.Perm f->g k m=g k f)->S a.length (fun l=>g l.sum (sub a l))=S b.length (fun l=>g l.sum (sub b l)):=by
 induction p with
 |nil=>intro g _;rfl
 |cons x q ih =>
  intro g c
  rw[H0,H0,nQ,nQ]
  have one:∀e:Int,_:=fun e=>ih (fun k m=>g (e+k) ((x - e)::m)) (fun k m f h=>c _ _ _ (h.cons _))
  have j:=one 0
  have i:=one 1
  simp only[Oy,sub]
  rw[j,i]
 |swap x y l =>
  intro g c
  simp only[H0,nQ,Oy,sub]
  have e1:S l.length (fun m=>g (0+(1+m.sum)) ((y - 0)::(x - 1)::sub l m))=S l.length (fun m=>g (1+(0+m.sum)) ((x - 1)::(y - 0)::sub l m)):=dA fun m _=>by
   rw[c _ _ _ (List.Perm.swap _ _ _),show (0+(1+m.sum):Int)=1+(0+m.sum) by omega]
  have e2:S l.length (fun m=>g (1+(0+m.sum)) ((y - 1)::(x - 0)::sub l m))=S l.length (fun m=>g (0+(1+m.sum)) ((x - 0)::(y - 1)::sub l m)):=dA fun m _=>by
   rw[c _ _ _ (List.Perm.swap _ _ _),show (0+(1+m.sum):Int)=1+(0+m.sum) by omega]
  have s:S l.length (fun m=>g (0+(0+m.sum)) ((y - 0)::(x - 0)::sub l m))=S l.length (fun m=>g (0+(0+m.sum)) ((x - 0)::(y - 0)::sub l m)):=dA fun m _=>c _ _ _ (List.Perm.swap _ _ _)
  have r:S l.length (fun m=>g (1+(1+m.sum)) ((y - 1)::(x - 1)::sub l m))=S l.length (fun m=>g (1+(1+m.sum)) ((x - 1)::(y - 1)::sub l m)):=dA fun m _=>c _ _ _ (List.Perm.swap _ _ _)
  omega
 |trans _ _ n o=>intro g c;rw[n g c,o g c]
theorem CF:∀{rs a b:aab},a.Perm b->W rs a=W rs b
 |[],a,b,p=>by
  rw[W,W]
  have:(∀x∈a,x=0)↔(∀x∈b,x=0):=⟨fun h x c=>h x (p.mem_iff.mpr c),fun h x c=>h x (p.mem_iff.mp c)⟩
  by_cases h:∀x∈a,x=0
  .rw[if_pos h,if_pos (this.mp h)]
  .rw[if_neg h,if_neg fun z=>h (this.mpr z)]
 |r::rs,a,b,p=>by
  rw[kW,kW]
  exact MA p (fun k m=>if k=r then W rs m else 0) fun k m g f=>by rw[CF (rs:=rs) f]
theorem LB:∀{rs left:aab}{i:Nat},i<left.length->(left.getD i 0<0\/(rs.length:Int)<left.getD i 0)->W rs left=0
 |[],left,i,hi,h=>by
  rw[W,if_neg]
  intro z
  have:=z (left.getD i 0) (by rw[be,ab hi];exact ON hi)
  simp only[PQ] at h
  omega
 |r::rs,left,i,hi,h=>by
  rw[kW]
  refine Eq.trans (dA fun l f=>?_) (wa (w:=left.length))
  have c:=bG f
  have:l.getD i 0=0\/l.getD i 0=1:=c.2 _ (by rw[be,ab (by rw[c.1];exact hi)];exact ON _)
  split
  .refine LB (i:=i) (by rw[sub_len c.1];exact hi) ?_
   rw[lS c.1]
   simp only[H0] at h
   omega
  .rfl
theorem Lv:∀{R:aab},W R []=if (∀x∈R,x=0) then 1 else 0
 |[]=>by rw[W]
 |r::R=>by
  rw[kW,PQ,wO,sub,Lv]
  by_cases h:r=0
  .rw[h,if_pos (by rfl)]
   congr 1
   simp
  .rw[if_neg (by intro z;exact h z.symm),if_neg]
   intro z;exact h (z r k0)
theorem Lb:∀{R C:aab}{c:Int},W R (c::C)=S R.length (fun l=>if l.sum=c then W (sub R l) C else 0)
 |[],C,c=>by
  rw[PQ,wO,W,sub,W]
  by_cases h:c=0
  .rw[h,if_pos (c:=List.sum []=0) (by rfl)]
   congr 1
   simp
  .rw[if_neg (c:=List.sum []=c) (by intro z;exact h z.symm),if_neg]
   intro z;exact h (z c k0)
 |r::R,C,c=>by
  rw[kW,H0,nQ,H0,nQ]
  have one:∀b:Int,S C.length (fun l=>if (b::l).sum=r then W R (sub (c::C) (b::l)) else 0)=S R.length (fun l=>if (b::l).sum=c then W (sub (r::R) (b::l)) C else 0):=fun b=>by
   have a1:S C.length (fun l=>if (b::l).sum=r then W R (sub (c::C) (b::l)) else 0)=S C.length fun l=>S R.length fun m=>if b+l.sum=r/\b+m.sum=c then W (sub R m) (sub C l) else 0:=by
    refine dA fun l _=>?_
    show (if (b::l).sum=r then W R ((c - b)::sub C l) else 0)=_
    have e:(b::l).sum=b+l.sum:=Oy
    rw[e]
    by_cases h:b+l.sum=r
    .rw[if_pos h,Lb]
     refine dA fun m _=>?_
     by_cases f:m.sum=c - b
     .rw[if_pos f,if_pos ⟨h,()⟩]
     .rw[if_neg f,if_neg (fun z=>f (by have:=z.2;omega))]
    .rw[if_neg h]
     exact (wa (w:=R.length)).symm.trans (dA fun m _=>by rw[if_neg (fun z=>h z.1)])
   have a2:S R.length (fun l=>if (b::l).sum=c then W (sub (r::R) (b::l)) C else 0)=S R.length fun m=>S C.length fun l=>if b+l.sum=r/\b+m.sum=c then W (sub R m) (sub C l) else 0:=by
    refine dA fun m hm=>?_
    show (if (b::m).sum=c then W ((r - b)::sub R m) C else 0)=_
    have e:(b::m).sum=b+m.sum:=Oy
    rw[e]
    by_cases h:b+m.sum=c
    .rw[if_pos h,kW]
     refine dA fun l _=>?_
     by_cases f:l.sum=r - b
     .rw[if_pos f,if_pos ⟨(),h⟩]
     .rw[if_neg f,if_neg (fun z=>f (by have:=z.1;omega))]
    .rw[if_neg h]
     exact (wa (w:=C.length)).symm.trans (dA fun l _=>by rw[if_neg (fun z=>h z.2)])
   rw[a1,a2,DJ]
  rw[one 0,one 1]
theorem IB:∀{R C:aab},W R C=W C R
 |R,[]=>by rw[Lv,W]
 |R,c::C=>by
  rw[Lb,kW]
  exact dA fun l _=>by rw[IB]
theorem GH(p:R.Perm R'):W R C=W R' C:=by
 rw[IB,CF p,IB]
def lx:aab->aab->Bool
 |[],[]=>false
 |[],_::_=>true
 |_::_,[]=>false
 |x::xs,y::ys=>if x=y then lx xs ys else decide (x<y)
theorem lZ:∀l:aab,lx l l=false
 |[]=>rfl
 |x::l=>by rw[lx,if_pos rfl];exact lZ l
theorem uM:lx (x::a) (x::b)=lx a b:=by rw[lx,if_pos rfl]
theorem xa:∀{a b c:aab},lx a b=true->lx b c=true->lx a c=true
 |[],[],_,h,_=>by simp [lx] at h
 |[],y::b,[],_,h=>by simp [lx] at h
 |[],y::b,z::c,_,_=>rfl
 |x::a,[],_,h,_=>by simp [lx] at h
 |x::a,y::b,[],_,h=>by simp [lx] at h
 |x::a,y::b,z::c,h,k=>by
  rw[lx] at h k ⊢
  split at h<;>split at k
  .rename_i e1 e2
   subst e1 e2
   rw[if_pos rfl];exact xa h k
  .rename_i e1 e2
   subst e1
   rw[if_neg e2];exact k
  .rename_i e1 e2
   subst e2
   rw[if_neg e1];exact h
  .rename_i e1 e2
   simp only[decide_eq_true_eq] at h k
   rw[if_neg ()];simp;omega
theorem IA(h:lx a b=true):lx b a=false:=by
 cases e:lx b a
 .rfl
 .have:=xa h e
  rw[lZ] at this;cases this
theorem BI:∀{a b:aab},a.length=b.length->a≠b->lx a b=true\/lx b a=true
 |[],[],_,h=>absurd rfl h
 |[],_::_,h,_=>by simp at h
 |_::_,[],h,_=>by simp at h
 |x::a,y::b,h,n=>by
  by_cases e:x=y
  .subst e
   rw[uM,uM]
   exact BI (by simpa using h) (fun z=>n (by rw[z]))
  .rw[lx,lx,if_neg e,if_neg (fun z=>e z.symm)]
   simp only[decide_eq_true_eq];omega
theorem rj:∀w,(lines w).Pairwise (fun a b=>lx a b=true)
 |0=>by rw[lines];exact List.pairwise_singleton _ _
 |w+1=>by
  have ih:=rj w
  rw[lines,List.pairwise_append]
  refine⟨?_,?_,?_⟩
  .rw[Qi];exact ih.imp fun h=>by rw[uM];exact h
  .rw[Qi];exact ih.imp fun h=>by rw[uM];exact h
  .intro a ha b hb
   obtain ⟨x,_,rfl⟩:=Oo.mp ha
   obtain ⟨y,_,rfl⟩:=Oo.mp hb
   rfl
theorem oW:(aG x w).Pairwise (fun a b=>lx a b=true):=(rj w).filter _
def A(r:Int)(rs left t:aab):Int:=(((aG r left.length).filter fun l=>lx l t).map fun l=>W rs (sub left l)).sum
def N:aab->aab->aaa->Int
 |r::rs,left,t::c=>A r rs left t+N rs (sub left t) c
 |_,_,_=>0
def Ok:aab->aab->aaa->Prop
 |[],left,[]=>∀x∈left,x=0
 |r::rs,left,t::c=>t∈aG r left.length/\Ok rs (sub left t) c
 |_,_,_=>False
theorem lK{f:aab->Int}(c:∀l,0<=f l){p q:aab->Bool}{t:aab}:∀{ls:aaa},(∀l∈ls,p l=true->q l=true)->ls.Nodup->((ls.filter p).map f).sum+(if t∈ls/\p t=false/\q t=true then f t else 0)<=((ls.filter q).map f).sum
 |[],_,_=>by simp
 |a::ls,h,nd=>by
  have ih:=lK (t:=t) c (ls:=ls) (fun l g=>h l (gV _ g)) (Om.mp nd).2
  have ha:=h a k0
  have na:=(Om.mp nd).1
  have j:=c a
  have i:=c t
  rw[P6,P6]
  by_cases e:t=a
  .subst e
   rw[if_neg (fun z=>na z.1)] at ih
   cases hp:p t with
   |true =>
    rw[ha hp]
    simp only[if_true,Oi,Oy]
    rw[if_neg (by simp)]
    omega
   |false =>
    cases hq:q t with
    |true=>simp;omega
    |false=>simp;omega
  .have m:(t∈a::ls/\p t=false/\q t=true)↔(t∈ls/\p t=false/\q t=true):=by simp [e]
   have e2:(if t∈a::ls/\p t=false/\q t=true then f t else 0)=if t∈ls/\p t=false/\q t=true then f t else 0:=by
    by_cases z:t∈ls/\p t=false/\q t=true
    .rw[if_pos z,if_pos (m.mpr z)]
    .rw[if_neg z,if_neg (fun y=>z (m.mp y))]
   rw[e2]
   cases hp:p a with
   |true =>
    rw[ha hp]
    simp only[if_true,Oi,Oy]
    omega
   |false =>
    cases hq:q a with
    |true=>simp only[if_true,Oi,Oy];simp only[Pm,if_false];omega
    |false=>simpa using ih
theorem lV:(aG x w).Nodup:=oW.imp fun {a b} h=>by
 intro e;subst e
 rw[lZ] at h;cases h
theorem G5:0<=A r rs left t:=by
 have:=lK (f:=fun l=>W rs (sub left l)) (fun _=>dM) (p:=fun _=>false) (q:=fun l=>lx l t) (t:=t) (ls:=aG r left.length) (fun _ _ h=>by cases h) lV
 rw[lZ,Pp.mpr (fun _ _=>by simp)] at this
 simpa [A] using this
theorem M7(ht:t∈aG r left.length)(h:lx t u=true):A r rs left t+W rs (sub left t)<=A r rs left u:=by
 have:=lK (f:=fun l=>W rs (sub left l)) (fun _=>dM) (p:=fun l=>lx l t) (q:=fun l=>lx l u) (t:=t) (ls:=aG r left.length) (fun _ _ z=>xa z h) lV
 rw[if_pos ⟨ht,lZ t,h⟩] at this
 exact this
theorem M8(ht:t∈aG r left.length):A r rs left t+W rs (sub left t)<=W (r::rs) left:=by
 have:=lK (f:=fun l=>W rs (sub left l)) (fun _=>dM) (p:=fun l=>lx l t) (q:=fun _=>true) (t:=t) (ls:=aG r left.length) (fun _ _ z=>rfl) lV
 rw[if_pos ⟨ht,lZ t,rfl⟩,List.filter_eq_self.mpr (fun _ _=>rfl)] at this
 exact this
theorem qQ:∀{R left:aab}{T:aaa},Ok R left T->0<=N R left T/\N R left T<W R left
 |[],left,[],h=>by
  show (0:Int)<=0/\(0:Int)<W [] left
  rw[W,if_pos (show ∀x∈left,x=0 from h)];decide
 |[],left,_::_,h=>h.elim
 |_::_,left,[],h=>h.elim
 |r::rs,left,t::c,h=>by
  have ih:=qQ h.2
  have:=M8 (rs:=rs) h.1
  have:=G5 (r:=r) (rs:=rs) (left:=left) (t:=t)
  rw[N];omega
def lxT:aaa->aaa->Bool
 |[],[]=>false
 |[],_::_=>true
 |_::_,[]=>false
 |x::xs,y::ys=>if x=y then lxT xs ys else lx x y
theorem xj:∀{R left:aab}{T U:aaa},Ok R left T->Ok R left U->lxT T U=true->N R left T<N R left U
 |[],left,[],[],_,_,h=>by simp [lxT] at h
 |[],left,_::_,_,h,_,_=>h.elim
 |[],left,[],_::_,_,h,_=>h.elim
 |_::_,left,[],_,h,_,_=>h.elim
 |_::_,left,_::_,[],_,h,_=>h.elim
 |r::rs,left,t::f,u::us,h,k,e=>by
  rw[lxT] at e
  rw[N,N]
  split at e
  .rename_i z
   subst z
   have:=xj h.2 k.2 e
   omega
  .have a:=M7 (rs:=rs) h.1 e
   have b:=(qQ h.2).2
   have c:=(qQ k.2).1
   omega
theorem tL:∀{R left:aab}{T:aaa},Ok R left T->T.length=R.length
 |[],left,[],h=>rfl
 |[],left,_::_,h=>h.elim
 |_::_,left,[],h=>h.elim
 |r::rs,left,t::c,h=>by rw[H0,H0,tL h.2]
theorem tE:∀{R left:aab}{T U:aaa},Ok R left T->Ok R left U->T≠U->lxT T U=true\/lxT U T=true
 |[],left,[],[],_,_,h=>absurd rfl h
 |[],left,_::_,_,h,_,_=>h.elim
 |[],left,[],_::_,_,h,_=>h.elim
 |_::_,left,[],_,h,_,_=>h.elim
 |_::_,left,_::_,[],_,h,_=>h.elim
 |r::rs,left,t::c,u::us,h,k,n=>by
  rw[lxT,lxT]
  by_cases e:t=u
  .subst e
   rw[if_pos rfl,if_pos rfl]
   exact tE h.2 k.2 (fun z=>n (by rw[z]))
  .rw[if_neg e,if_neg (fun z=>e z.symm)]
   refine BI ?_ e
   rw[(bG (aU.mp h.1).1).1,(bG (aU.mp k.1).1).1]
theorem LF(h:Ok R left T)(k:Ok R left U)(e:N R left T=N R left U):T=U:=by
 by_cases z:T=U
 .exact z
 .rcases tE h k z with y|y
  .have:=xj h k y;omega
  .have:=xj k h y;omega
theorem yd{f:aab->Int}(r:∀l,0<=f l){n:Int}:∀{ls:aaa}{acc:Int},ls.Pairwise (fun a b=>lx a b=true)->acc<=n->n<acc+(ls.map f).sum ->
  ∃pre x,(ls.filter fun l=>decide (acc+((ls.filter fun m=>lx m l).map f).sum<=n))=pre++[x]/\x∈ls/\acc+((ls.filter fun m=>lx m x).map f).sum<=n/\n<acc+((ls.filter fun m=>lx m x).map f).sum+f x
 |[],acc,_,j,i=>by simp at i;omega
 |y::ls,acc,t,j,i=>by
  obtain ⟨p,z⟩:=List.pairwise_cons.mp t
  have o:((y::ls).filter fun m=>lx m y)=[]:=by
   rw[Pp]
   intro a ha
   rcases KE.mp ha with e|e
   .rw[e,lZ];simp
   .rw[IA (p a e)];simp
  have al:∀l∈ls,((y::ls).filter fun m=>lx m l)=y::ls.filter fun m=>lx m l:=fun l h=>by
   rw[P6,if_pos (p l h)]
  have s:∀l,0<=((ls.filter fun m=>lx m l).map f).sum:=fun l=>by
   generalize ls.filter (fun m=>lx m l)=q
   induction q with
   |nil=>simp
   |cons a q ih=>have:=r a;simp only[Oi,Oy];omega
  rw[Oi,Oy] at i
  have u:decide (acc+(((y::ls).filter fun m=>lx m y).map f).sum<=n)=true:=by rw[o];simp;exact j
  have v:(ls.filter fun l=>decide (acc+(((y::ls).filter fun m=>lx m l).map f).sum<=n))=ls.filter fun l=>decide ((acc+f y)+((ls.filter fun m=>lx m l).map f).sum<=n):=by
   refine List.filter_congr fun l h=>?_
   rw[al l h,Oi,Oy,Int.add_assoc]
  rw[P6,if_pos u,v]
  by_cases c:acc+f y<=n
  .obtain ⟨pre,x,e,g,k1,B⟩:=yd r (ls:=ls) (acc:=acc+f y) z c ()
   refine⟨y::pre,x,by rw[e];rfl,gV _ g,?_,?_⟩
   .rw[al x g,Oi,Oy];omega
   .rw[al x g,Oi,Oy];omega
  .refine⟨[],y,?_,k0,?_,?_⟩
   .have:(ls.filter fun l=>decide ((acc+f y)+((ls.filter fun m=>lx m l).map f).sum<=n))=[]:=by
     rw[Pp]
     intro l _
     have:=s l
     simp;omega
    rw[this];rfl
   .rw[o];simp;exact j
   .rw[o];simp;omega
theorem Ka(i:0<=n)(h:n<W (r::rs) left) :
  ∃pre x,((aG r left.length).filter fun l=>decide (A r rs left l<=n))=pre++[x]/\x∈aG r left.length/\A r rs left x<=n/\n<A r rs left x+W rs (sub left x):=by
 obtain ⟨pre,x,e,g,k1,c⟩:=yd (f:=fun l=>W rs (sub left l)) (fun _=>dM) (ls:=aG r left.length) (acc:=0) oW i (by rw[OU];exact h)
 simp only[OU] at e k1 c
 exact⟨pre,x,e,g,k1,c⟩
def cols(w:Nat)(T:aaa):aab:=(List.range w).map fun k=>(T.map fun r=>r.getD k 0).sum
theorem bz:(cols w T).length=w:=by rw[cols,dz,Ot]
theorem gF(h:k<w):(cols w T).getD k 0=(T.map fun r=>r.getD k 0).sum:=by
 rw[cols,be,ox,O8 h];rfl
theorem k8{a b:aab}(h:a.length=b.length)(k:∀i,i<a.length->a.getD i 0=b.getD i 0):a=b:=by
 refine Px h fun i c f=>?_
 have:=k i c
 rw[be,be,ab c,ab f] at this
 exact this
theorem Ca(ht:t.length=w):sub (cols w (t::T)) t=cols w T:=by
 refine k8 (by rw[sub_len (by rw[bz,ht]),bz,bz]) fun i hi=>?_
 rw[sub_len (by rw[bz,ht]),bz] at hi
 rw[lS (by rw[bz,ht]),gF hi,gF hi,Oi,Oy]
 omega
theorem vB{w:Nat}:∀{T:aaa},(∀t∈T,t.length=w/\∀z∈t,z=0\/z=1)->Ok (T.map List.sum) (cols w T) T
 |[],_=>by
  show ∀x∈cols w [],x=0
  intro x c
  rw[cols,Oo] at c
  obtain ⟨k,_,rfl⟩:=c
  rfl
 |t::T,h=>by
  have ht:=h t k0
  refine⟨aU.mpr ⟨?_,rfl⟩,?_⟩
  .rw[bz,<- ht.1];exact sL ht.2
  .rw[Ca ht.1];exact vB fun u f=>h u (gV _ f)
theorem fo:∀{R left:aab}{T:aaa},Ok R left T->R=T.map List.sum/\left=cols left.length T/\∀t∈T,t.length=left.length/\∀z∈t,z=0\/z=1
 |[],left,[],h=>by
  refine⟨rfl,?_,fun _ h=>absurd h OF⟩
  refine k8 (by rw[bz]) fun i hi=>?_
  rw[gF hi,h (left.getD i 0) (by rw[be,ab hi];exact ON hi)]
  rfl
 |[],left,_::_,h=>h.elim
 |_::_,left,[],h=>h.elim
 |r::rs,left,t::g,h=>by
  have m:=aU.mp h.1
  have c:=bG m.1
  have ih:=fo h.2
  rw[sub_len c.1] at ih
  refine⟨by rw[Oi,m.2,<- ih.1],?_,fun u f=>?_⟩
  .refine k8 (by rw[bz]) fun i hi=>?_
   have e:=congrArg (fun l=>l.getD i 0) ih.2.1
   rw[lS c.1,gF hi] at e
   rw[gF hi,Oi,Oy]
   omega
  .rcases KE.mp f with e|e
   .rw[e];exact c
   .exact ih.2.2 u e
end Tal
namespace PySem.SeqAt
open PySem PyProof.Rows
open PySem.AutoSeq1 (wpAny_loadPart')
open MeetsSeq MeetsSeq2 MeetsSeq3
def jt(A:Around)(s:Shared)(y x:Value)(b:Bool):Prop :=
 ∀(prog:Program) (w:World) (E:Value->Shared->Prop) (Q:Value->Shared->Prop),Q (.bool b) s->wpAny (model prog w) A (richCompare .Lt y x) Q E s
theorem Dk(l b:Addr)(items c:Array Value)(n n2:Nat)(dd I:Option Addr)(sl H:Array (Option Value))(hsz:items.size=c.size)(e g:Nat->Bool)(F:∀i,items.size<=i->g i=false)(E:∀i,i<items.size->e i=true->g i=g (i+1))(k:Nat) :
  ∀i:Nat,items.size - i=k->Meets (Builtin.«list.__eq__.loop» ⟨[.ref l,.ref b,rawInt i,rawInt 0],[]⟩)
   (fun A R s=>s.heap.get? l=some { cls:=.type "list",dict:=dd,data:=.seq items n,slots:=sl }/\s.heap.get? b=some { cls:=.type "list",dict:=I,data:=.seq c n2,slots:=H } /\
    (∀j (B:j<items.size) (z:j<c.size),EqAt A.in1 s items[j] c[j] (e j)) /\
    (∀j (B:j<items.size) (z:j<c.size),e j=false->jt A.in1 s items[j] c[j] (g j)) /\
    R (.ok (.ret (.bool (g i)))) s):=by
 induction k with
 |zero =>
  intro i x prog w A R s h
  obtain ⟨v,C,d,u,os⟩:=s;obtain ⟨f,hb,r,q,h⟩:=h
  wp_walk using wpAny_loadPart' f,wpAny_loadPart' hb
  have m:items[((i:Nat):Int).toNat]?=none:=by simp;omega
  have o:c[((i:Nat):Int).toNat]?=none:=by simp;omega
  rw[F i ()] at h
  rw[m,o]
  wp_walk using wpAny_loadPart' f,wpAny_loadPart' hb
  show R (.ok (.ret (.bool (decide (items.size<c.size))))) _
  rw[hsz]
  simpa using h
 |succ k ih =>
  intro i x prog w A R s h
  obtain ⟨v,C,d,u,os⟩:=s;obtain ⟨f,hb,r,q,h⟩:=h
  wp_walk using wpAny_loadPart' f,wpAny_loadPart' hb
  have p:i<items.size:=()
  have t:i<c.size:=()
  have m:items[((i:Nat):Int).toNat]?=some items[i]:=by simp [p]
  have o:c[((i:Nat):Int).toNat]?=some c[i]:=by simp [t]
  have y:((i:Int)+1)=((i+1:Nat):Int):=by push_cast;rfl
  rw[m,o]
  refine wpAny_bind (r i p t prog w _ _ ?_)
  cases T4:e i with
  |true =>
   rw[E i p T4] at h
   wp_walk
   rw[y]
   exact⟨plainId_quiet plain_eq_loop _,codeAny_builtin entry_eq_loop (by
    rw[Around.under_plainId plain_eq_loop _]
    exact ih (i+1) () prog w A R _ ⟨f,hb,r,q,h⟩)⟩
  |false =>
   have G:=q i p t T4 prog w
   wp_walk using wpAny_loadPart' f,wpAny_loadPart' hb
   rw[m,o]
   wp_walk using G
   exact h
theorem GN(l b:Addr)(items c:Array Value)(n n2:Nat)(dd o:Option Addr)(sl m:Array (Option Value))(hsz:items.size=c.size)(e g:Nat->Bool)(v:∀i,items.size<=i->g i=false)(u:∀i,i<items.size->e i=true->g i=g (i+1)) :
  Meets (Builtin.«list.__lt__» ⟨[.ref l,.ref b],[]⟩)
   (fun A R s=>s.heap.get? l=some { cls:=.type "list",dict:=dd,data:=.seq items n,slots:=sl }/\s.heap.get? b=some { cls:=.type "list",dict:=o,data:=.seq c n2,slots:=m } /\
    (∀j (t:j<items.size) (r:j<c.size),EqAt A.in1 s items[j] c[j] (e j)) /\
    (∀j (t:j<items.size) (r:j<c.size),e j=false->jt A.in1 s items[j] c[j] (g j)) /\
    R (.ok (.ret (.bool (g 0)))) s):=by
 intro prog w A R s h
 obtain ⟨y,z,d,x,os⟩:=s;obtain ⟨f,hb,q,p,h⟩:=h
 have B:=AutoSeq1.sub_list_list
 wp_walk using wpAny_loadPart' f,wpAny_loadPart' hb
 exact⟨plainId_quiet plain_eq_loop _,codeAny_builtin entry_eq_loop (by
  rw[Around.under_plainId plain_eq_loop _]
  exact Dk l b items c n n2 dd o sl m hsz e g v u _ 0 rfl prog w A R _ ⟨f,hb,q,p,h⟩)⟩
theorem jt.lists{A:Around}{s:Shared}{l b:Addr}{items c:Array Value}{e g:Nat->Bool}(u:s.heap.IsList l items)(hb:s.heap.IsList b c)(hsz:items.size=c.size)(C:∀i,items.size<=i->g i=false)(B:∀i,i<items.size->e i=true->g i=g (i+1))(r:A.units<cLine)
  (v:∀j (z:j<items.size) (y:j<c.size),EqAt A.in1 s items[j] c[j] (e j)) (t:∀j (z:j<items.size) (y:j<c.size),e j=false->jt A.in1 s items[j] c[j] (g j)):jt A s (.ref l) (.ref b) (g 0):=fun prog w E Q h=>by
 obtain ⟨⟨cls,dd,data,sl⟩,f,m,n,hd⟩:=id u
 obtain ⟨⟨F,H,data2,G⟩,q,p,n2,o⟩:=id hb
 simp only at m hd p o
 subst m hd p o
 exact richCompare_meets_room (op:=.Lt) ⟨_,f,rfl⟩ ⟨_,q,rfl⟩ PySem.F.slot_list_lt PySem.F.entry_list_lt (PySem.F.args_list_lt_2 _ _) (GN l b items c n n2 dd H sl G hsz e g C B)
  ⟨f,q,v,t,show Value.bool (g 0)≠Value.notImplemented/\Q (.bool (g 0)) s from ⟨(fun x=>nomatch x),h⟩⟩ r
end PySem.SeqAt
namespace L2
open PySem PySem.Spec PyProof.Rows
open PySem.SeqAt
theorem Fg{ns c:aab}{i:Nat}(g:i<ns.length)(f:i<c.length):Tal.lx (ns.drop i) (c.drop i)=if ns[i]=c[i] then Tal.lx (ns.drop (i+1)) (c.drop (i+1)) else decide (ns[i]<c[i]):=by
 rw[Ou g,Ou f,Tal.lx]
theorem Br{t u:aaa}{i:Nat}(f:i<t.length)(c:i<u.length):Tal.lxT (t.drop i) (u.drop i)=if t[i]=u[i] then Tal.lxT (t.drop (i+1)) (u.drop (i+1)) else Tal.lx t[i] u[i]:=by
 rw[Ou f,Ou c,Tal.lxT]
section
variable {X:Cx}{pins:List (Addr × Obj)}{σ:St}{H:Hp}{s:Shared}
theorem Fv(I:Inv X pins σ H s)(hd:Rp H (dI ns) x)(c:Rp H (dI ms) y)(rx:RelV x u)(ry:RelV y w)(hl:ns.length=ms.length)(hu:A.units+3<cLine):jt A s u w (Tal.lx ns ms):=by
 obtain ⟨f,a,xs,fq,rfl,e1,rfl,hd⟩:=hd
 obtain ⟨g,b,ys,gq,rfl,e2,rfl,c⟩:=c
 obtain rfl:u=.ref a:=rx
 obtain rfl:w=.ref b:=ry
 obtain ⟨B,rv,pl,hz⟩:=I.list (SqL.of e1)
 obtain ⟨Z,q,Y,Te⟩:=I.list (SqL.of e2)
 have l1:=rv.length
 have l2:=q.length
 have R:=hd.length
 have P:=c.length
 rw[dz] at R P
 have z1:B.toArray.size=ns.length:=by simp;omega
 have r:∀i (p:i<ns.length) (o:i<ms.length),qL (ns.map D.int) (ms.map D.int) i=decide (ns[i]=ms[i]):=fun i p o=>by
  unfold qL
  rw[ox,ox,ab p,ab o]
  show D.eqb (.int _) (.int _)=_
  rw[D.eqb]
  by_cases z:ns[i]=ms[i]<;>simp [z]
 refine jt.lists (e:=qL (ns.map D.int) (ms.map D.int)) (g:=fun i=>Tal.lx (ns.drop i) (ms.drop i)) pl.isList Y.isList (by simp;omega) (fun i hi=>?_) (fun i hi t=>?_) () (qX I hd c rv q (D.fI _) (D.fI _) (by rw[D.kf];omega)) (fun j p o v=>?_)
 .show Tal.lx _ _=false
  rw[Pe (),Pe ()];rfl
 .show Tal.lx _ _=Tal.lx _ _
  rw[r i () ()] at t
  rw[Fg () (),if_pos (of_decide_eq_true t)]
 .have n:j<ns.length:=()
  have m:j<ms.length:=()
  show jt _ _ _ _ (Tal.lx _ _)
  rw[r j n m] at v
  rw[Fg n m,if_neg (of_decide_eq_false v)]
  obtain ⟨v1,f1,O,M,_⟩:=hd.get (i:=j) (d:=.int ns[j]) (by rw[ox,ab n];rfl)
  obtain ⟨v2,f2,q2,L,_⟩:=c.get (i:=j) (d:=.int ms[j]) (by rw[ox,ab m];rfl)
  obtain ⟨F,p1,J⟩:=rv.get O
  obtain ⟨C,p2,G⟩:=q.get q2
  have U:B.toArray[j]=F:=by
   obtain ⟨_,z⟩:=oe.mp p1
   simpa using z
  have T:Z.toArray[j]=C:=by
   obtain ⟨_,z⟩:=oe.mp p2
   simpa using z
  rw[U,T]
  obtain ⟨rfl,_⟩:=M
  obtain ⟨rfl,_⟩:=L
  obtain ⟨c1,rfl⟩:=J
  obtain ⟨c2,rfl⟩:=G
  intro prog w E Q h
  exact HT.IU _ _ _ _ _ _ prog w E Q h
theorem Kh(I:Inv X pins σ H s)(hd:Rp H (dT t) x)(c:Rp H (dT u) y)(rx:RelV x p)(ry:RelV y q)(v:t.map List.length=u.map List.length)(hu:A.units+5<cLine):jt A s p q (Tal.lxT t u):=by
 obtain ⟨f,a,xs,fq,rfl,e1,rfl,hd⟩:=hd
 obtain ⟨g,b,ys,gq,rfl,e2,rfl,c⟩:=c
 obtain rfl:p=.ref a:=rx
 obtain rfl:q=.ref b:=ry
 obtain ⟨F,rv,pl,hz⟩:=I.list (SqL.of e1)
 obtain ⟨Qk,r,RN,Te⟩:=I.list (SqL.of e2)
 have l1:=rv.length
 have l2:=r.length
 have T:=hd.length
 have R:=c.length
 rw[dz] at T R
 have Z:t.length=u.length:=by have:=congrArg List.length v;simpa using this
 have z1:F.toArray.size=t.length:=by simp;omega
 have B:∀i (o:i<t.length) (n:i<u.length),qL (t.map dI) (u.map dI) i=decide (t[i]=u[i]):=fun i o n=>by
  unfold qL
  rw[ox,ox,ab o,ab n]
  show D.eqb (.lst _) (.lst _)=_
  rw[D.eqb,D.oI]
 refine jt.lists (e:=qL (t.map dI) (u.map dI)) (g:=fun i=>Tal.lxT (t.drop i) (u.drop i)) pl.isList RN.isList (by simp;omega) (fun i hi=>?_) (fun i hi C=>?_) () (qX I hd c rv r (D.iL _) (D.iL _) (by have:=D.nC t;omega)) (fun j o n E=>?_)
 .show Tal.lxT _ _=false
  rw[Pe (),Pe ()];rfl
 .show Tal.lxT _ _=Tal.lxT _ _
  rw[B i () ()] at C
  rw[Br () (),if_pos (of_decide_eq_true C)]
 .have m:j<t.length:=()
  have h:j<u.length:=()
  show jt _ _ _ _ (Tal.lxT _ _)
  rw[B j m h] at E
  rw[Br m h,if_neg (of_decide_eq_false E)]
  obtain ⟨v1,f1,Q,P,_⟩:=hd.get (i:=j) (d:=dI t[j]) (by rw[ox,ab m];rfl)
  obtain ⟨v2,f2,q2,O,_⟩:=c.get (i:=j) (d:=dI u[j]) (by rw[ox,ab h];rfl)
  obtain ⟨J,p1,M⟩:=rv.get Q
  obtain ⟨G,p2,L⟩:=r.get q2
  have Y:F.toArray[j]=J:=by
   obtain ⟨_,z⟩:=oe.mp p1
   simpa using z
  have U:Qk.toArray[j]=G:=by
   obtain ⟨_,z⟩:=oe.mp p2
   simpa using z
  rw[Y,U]
  refine Fv I ⟨_,P⟩ ⟨_,O⟩ M L ?_ (by show A.units+1+3<cLine;omega)
  have:=congrArg (fun l=>l[j]?) v
  simp only[ox,ab m,ab h,Option.map_some] at this
  exact OJ this
end
section
variable {X:Cx}
def Nc:R2:=fun x y H Q=>∃ns c:aab,Rp H (dI ns) x/\Rp H (dI c) y/\ns.length=c.length/\Q (.bl (Tal.lx ns c)) H
theorem Mg(n:X.A.units+64<cLine):OpR X (compareOp .Lt) Nc:=by
 intro c s j H x y v u Q I rx ry h
 obtain ⟨ns,m,g,f,i,q⟩:=h
 exact Fv I g f rx ry i () _ _ _ _ ⟨.bl _,H,I,rfl,q⟩
def Lw:R2:=fun x y H Q=>∃t u:aaa,Rp H (dT t) x/\Rp H (dT u) y/\t.map List.length=u.map List.length/\Q (.bl (Tal.lxT t u)) H
theorem JH(n:X.A.units+64<cLine):OpR X (compareOp .Lt) Lw:=by
 intro c s j H x y v u Q I rx ry h
 obtain ⟨t,m,g,f,i,q⟩:=h
 exact Kh I g f rx ry i () _ _ _ _ ⟨.bl _,H,I,rfl,q⟩
end
end L2
namespace L3
open PySem L2
section
variable {K:aae}
def Ke(x y:D)(P:DK):Prop:=∃ns c:aab,x=dI ns/\y=dI c/\ns.length=c.length/\P (.bl (Tal.lx ns c))
theorem NH:OpV K Nc Ke:=⟨fun x y P o k h=>by
  obtain ⟨a,b,j,i,c,h⟩:=h
  exact⟨a,b,j,i,c,k _ h⟩,
 fun {H x y v w Q} ⟨n,g⟩ ⟨m,f⟩ h=>by
  obtain ⟨a,b,rfl,rfl,c,h⟩:=h
  exact⟨a,b,⟨n,g.old xB⟩,⟨m,f.old xB⟩,c,h _ H [] (Same.refl H) ⟨rfl,rfl⟩ Nw.nil⟩⟩
def E7(x y:D)(P:DK):Prop:=∃t u:aaa,x=dT t/\y=dT u/\t.map List.length=u.map List.length/\P (.bl (Tal.lxT t u))
theorem MR:OpV K Lw E7:=⟨fun x y P o k h=>by
  obtain ⟨a,b,j,i,c,h⟩:=h
  exact⟨a,b,j,i,c,k _ h⟩,
 fun {H x y v w Q} ⟨n,g⟩ ⟨m,f⟩ h=>by
  obtain ⟨a,b,rfl,rfl,c,h⟩:=h
  exact⟨a,b,⟨n,g.old Ay⟩,⟨m,f.old Ay⟩,c,h _ H [] (Same.refl H) ⟨rfl,rfl⟩ Nw.nil⟩⟩
end
end L3
namespace Tal
def wo(R:aab)(i:Nat):aab:=R.take i++R.drop (i+1)
def sh(r:Int)(R' C:aab)(k:Nat):Int:=((aG r C.length).map fun l=>W R' (sub C l)*l.getD k 0).sum
theorem Oa:sh r R' C k=S C.length (fun l=>if l.sum=r then W R' (sub C l)*l.getD k 0 else 0):=by
 rw[sh,aG,jG,S]
 congr 1
 refine O7 fun l _=>?_
 simp
theorem JG(h:i<R.length):(R.getD i 0::wo R i).Perm R:=by
 have e:R=R.take i++R.getD i 0::R.drop (i+1):=by
  rw[be,ab h]
  show R=R.take i++R[i]::R.drop (i+1)
  rw[<- Ou h,PJ]
 conv=>rhs;rw[e]
 exact List.perm_middle.symm
theorem N1(h:i<R.length):W (R.getD i 0::wo R i) C=W R C:=GH (JG h)
theorem Mh(h:∀l∈lines w,f l<=g l):S w f<=S w g:=by
 have:0<=S w (fun l=>g l + -1*f l):=wF fun l c=>by have:=h l c;omega
 rw[Ln,NU] at this
 omega
theorem eJ{w k:Nat}{l:aab}(h:l∈lines w):l.getD k 0=0\/l.getD k 0=1:=by
 rw[be]
 cases e:l[k]? with
 |none=>exact .inl rfl
 |some x=>exact (bG h).2 x (OV e)
theorem Jv:0<=sh r R' C k/\sh r R' C k<=W (r::R') C:=by
 rw[Oa,kW]
 constructor
 .refine wF fun l c=>?_
  split
  .have:=dM (rs:=R') (left:=sub C l)
   rcases eJ (k:=k) c with e|e<;>rw[e]<;>omega
  .decide
 .refine Mh fun l c=>?_
  split
  .have:=dM (rs:=R') (left:=sub C l)
   rcases eJ (k:=k) c with e|e<;>rw[e]<;>omega
  .decide
theorem Hw(h:i<R.length):(wo R i).length=R.length - 1:=by
 rw[wo,Ox,P4,Pg];omega
theorem HC(hi:i<R.length):0<=sh (R.getD i 0) (wo R i) C k/\sh (R.getD i 0) (wo R i) C k<=W R C:=by
 have:=Jv (r:=R.getD i 0) (R':=wo R i) (C:=C) (k:=k)
 rw[N1 hi] at this
 exact this
end Tal
namespace L3
open PySem L2
section
variable {K:aae}{ρ:Bool}{Γr Γl Γ Γn:aad}{H:Hp}
mutual
def D.strip:D->D
 |.non=>.non
 |.bl b=>.bl b
 |.int i=>.int i
 |.str x=>.str x
 |.lst ds=>.lst (D.bN ds)
 |.tup ds=>.tup (D.bN ds)
 |.dic x=>.dic x
 |.dit x=>.dit x
 |.scr x=>.scr x
 |.pin _ d=>d.strip
 |.mem c=>.mem c
 |.raw w=>.raw w
 |.ins C ns ds=>.ins C ns (D.bN ds)
def D.bN:List D->List D
 |[]=>[]
 |d::ds=>d.strip::D.bN ds
end
mutual
theorem Rf.strip:∀{d:D}{v:V}{fp:List Addr},Rf K H d v fp->Rf K H d.strip v fp
 |.non,_,_,h=>by rw[D.strip];exact h
 |.bl _,_,_,h=>by rw[D.strip];exact h
 |.int _,_,_,h=>by rw[D.strip];exact h
 |.str _,_,_,h=>by rw[D.strip];exact h
 |.lst ds,_,_,h=>by
  obtain ⟨a,xs,c,e1,e2,f,h⟩:=h
  rw[D.strip]
  exact⟨a,xs,c,e1,e2,f,Rfs.bN h⟩
 |.tup ds,_,_,h=>by
  obtain ⟨a,xs,e1,e2,h⟩:=h
  rw[D.strip]
  exact⟨a,xs,e1,e2,Rfs.bN h⟩
 |.dic _,_,_,h=>by rw[D.strip];exact h
 |.dit _,_,_,h=>by rw[D.strip];exact h
 |.scr _,_,_,h=>by rw[D.strip];exact h
 |.pin _ d,_,_,h=>by rw[D.strip];exact Rf.strip h.2
 |.mem _,_,_,h=>by rw[D.strip];exact h
 |.raw _,_,_,h=>by rw[D.strip];exact h
 |.ins C ns ds,_,_,h=>by
  obtain ⟨a,dx,xs,c,e1,e2,f,h⟩:=h
  rw[D.strip]
  exact⟨a,dx,xs,c,e1,e2,f,Rfs.bN h⟩
theorem Rfs.bN:∀{ds:List D}{vs:List V}{fp:List Addr},Rfs K H ds vs fp->Rfs K H (D.bN ds) vs fp
 |[],_,_,h=>by rw[D.bN];exact h
 |d::ds,_,_,h=>by
  obtain ⟨x,r,m,j,e1,e2,i,g⟩:=h
  rw[D.bN]
  exact⟨x,r,m,j,e1,e2,Rf.strip i,Rfs.bN g⟩
end
theorem ia:D.bN ds=ds.map D.strip:=by
 induction ds with
 |nil=>rw[D.bN];rfl
 |cons d ds ih=>rw[D.bN,ih];rfl
def AB(d:DE)(δ:Dl)(P:DK):Prop:=d δ fun x=>P x.strip
theorem ER.strip(h:ER K Γ t d):ER K Γ t (AB d) :=
 ⟨fun δ P i k q=>h.mono _ _ _ (fun x z=>k _ z) q,fun o q=>h.run o (h.mono _ _ _ (fun x z v g c f=>z v g c (let ⟨fp,r⟩:=f;⟨fp,Rf.strip r⟩)) q)⟩
theorem wU:(dI r).strip=dI r:=by
 rw[D.strip,ia,OB]
 congr 1
def Gv(t:aaa)(ds:List D):Prop:=ds.length=t.length/\∀(m:Nat) (r:aab),t[m]?=some r->∃a:Addr,ds[m]?=some (D.pin a (dI r))
def MD(c:List aaa)(chs:List D):Prop:=chs.length=c.length/\∀(k:Nat) (t:aaa),c[k]?=some t->∃ds:List D,chs[k]?=some (D.lst ds)/\Gv t ds
theorem Cc:∀{t:aaa}{ys:List V}{g:List Addr},Rfs K H (t.map dI) ys g->∃ds,Gv t ds/\Rfs K H ds ys g
 |[],ys,g,h=>⟨[],⟨rfl,fun m r e=>by simp at e⟩,h⟩
 |r::t,ys,g,h=>by
  obtain ⟨x,q,o,n,e1,e2,f,j⟩:=h
  obtain ⟨ds,c,hr⟩:=Cc j
  obtain ⟨a,ha⟩:∃a,x=.ref a:=let ⟨a,_,_,e,_⟩:=f;⟨a,e⟩
  refine⟨.pin a (dI r)::ds,⟨by rw[H0,c.1,H0],fun m i e=>?_⟩,x,q,o,n,e1,e2,⟨ha,f⟩,hr⟩
  cases m with
  |zero=>simp at e;subst e;exact⟨a,rfl⟩
  |succ m=>simp only[P5] at e ⊢;exact c.2 m i e
theorem B7:∀{c:List aaa}{ys:List V}{g:List Addr},Rfs K H (c.map dT) ys g->∃chs,MD c chs/\Rfs K H chs ys g
 |[],ys,g,h=>⟨[],⟨rfl,fun m r e=>by simp at e⟩,h⟩
 |t::c,ys,g,h=>by
  obtain ⟨x,q,v,u,e1,e2,p,o⟩:=h
  obtain ⟨chs,f,hr⟩:=B7 o
  obtain ⟨a,i,s,B,z,y,n⟩:=p
  obtain ⟨ds,j,C⟩:=Cc n
  refine⟨.lst ds::chs,⟨by rw[H0,f.1,H0],fun m t' e=>?_⟩,x,q,v,u,e1,e2,⟨a,i,s,B,z,y,C⟩,hr⟩
  cases m with
  |zero=>simp at e;subst e;exact⟨ds,rfl,j⟩
  |succ m=>simp only[P5] at e ⊢;exact f.2 m t' e
def N4(i:Nat)(d:DS)(E:aZ)(δ:Dl):Prop:=∃(C:Addr) (ns:List Str) (c:List aaa) (rest:List D),δ[i]?=some (some (.ins C ns (.lst (c.map dT)::rest)))/\∀chs:List D,MD c chs->d E (δ.set i (some (.ins C ns (.lst chs::rest))))
theorem JM(i:Nat)(h:ST K ρ Γr Γl t Γ Γn d):ST K ρ Γr Γl t Γ Γn (N4 i d):=by
 intro B0 Dn E fps δ R H k o q
 obtain ⟨C,ns,U,rest,e,q⟩:=q
 obtain ⟨v,z,r⟩:=o.val i _ e
 obtain ⟨g,dx,xs,F,e1,e2,Q,hr⟩:=id r
 obtain ⟨x,j,I,G,P,O,u,s⟩:=hr
 obtain ⟨a,f,B,M,L,J,p⟩:=u
 obtain ⟨chs,m,n⟩:=B7 p
 refine h k (o.Ah (y:=.ins C ns (.lst chs::rest)) e fun T c _=>?_) (q chs m)
 rw[z] at c;cases c
 exact⟨g,dx,xs,F,e1,e2,Q,x,j,I,G,P,O,⟨a,f,B,M,L,J,n⟩,s⟩
theorem Rfs.G9:∀{ds:List D}{xs:List V}{c:List Addr}{k:Nat}{d:D},Rfs K H ds xs c->ds[k]?=some d->∃pre f post x,c=pre++(f++post)/\xs[k]?=some x/\Rf K H d x f/\Rfs K H (ds.set k (.raw x)) xs (pre++post)
 |[],_,_,_,_,_,e=>by simp at e
 |d::ds,xs,c,0,d',h,e=>by
  obtain ⟨x,r,g,m,rfl,rfl,j,i⟩:=h
  simp at e;subst e
  exact⟨[],g,m,x,rfl,rfl,j,x,r,[],m,rfl,rfl,⟨rfl,rfl⟩,i⟩
 |d::ds,xs,c,k+1,d',h,e=>by
  obtain ⟨x,r,g,m,rfl,rfl,j,i⟩:=h
  obtain ⟨pre,f,post,y,rfl,e2,o,n⟩:=Rfs.G9 (k:=k) i (by simpa using e)
  exact⟨g++pre,f,post,y,by rw[OM],by simpa using e2,o,x,r,g,pre++post,rfl,by rw[OM],j,n⟩
def Av(d:DE)(δ:Dl)(P:DK):Prop:=d δ fun x=>∃a y,x=.pin a y/\P (.raw (.ref a))
theorem ER.rawOf(h:ER K Γ t d):EM K Γ [] t (Av d) :=
 ⟨fun δ P j k q=>h.mono _ _ _ (fun x ⟨a,y,e,z⟩=>⟨a,y,e,k _ z⟩) q,fun {B0 fps δ i H Q} o q=>h.run o (h.mono _ _ _ (fun x z v g c f=>by
  obtain ⟨a,y,rfl,z⟩:=z
  obtain ⟨fp,e,_⟩:=f
  exact z v g [] c ⟨e,rfl⟩ Nw.nil) q)⟩
def Nl(L S:Nat)(δ:Dl)(P:DK):Prop:=∃(a C:Addr) (ns:List Str) (chs rest:List D) (k:Nat) (rs:List D) (m:Nat) (d:D),δ[L]?=some (some (.raw (.ref a)))/\δ[S]?=some (some (.ins C ns (.lst chs::rest)))/\chs[k]?=some (.lst rs)/\rs[m]?=some (.pin a d)/\P d
theorem I0(L S:Nat):ER K Γ (bR L) (Nl L S) :=
 ⟨fun δ P P' k ⟨a,C,ns,chs,rest,i,rs,m,d,e1,e2,F,E,q⟩=>⟨a,C,ns,chs,rest,i,rs,m,d,e1,e2,F,E,k _ q⟩,fun {B0 fps δ J H Q} o q=>by
  obtain ⟨a,C,ns,chs,rest,k,rs,m,d,B,x,v,u,q⟩:=q
  obtain ⟨c,G,h⟩:=o.val L _ B
  obtain rfl:c=.ref a:=h.1
  obtain ⟨T,Yx,U,dx,xs,fq,rfl,e2,fS,hr⟩:=o.val S _ x
  obtain ⟨R,O,f1,f2,rfl,rfl,s,Z⟩:=hr
  obtain ⟨c0,ys,g,rfl,e7,rfl,r⟩:=s
  obtain ⟨y,f,ey,p,_⟩:=r.get v
  obtain ⟨X,M,Y,rfl,e8,rfl,n⟩:=p
  obtain ⟨z,t,ez,j,_⟩:=n.get u
  obtain ⟨rfl,I⟩:z=.ref a/\_:=j
  exact⟨.ref a,G,q _ H (Same.refl H) ⟨t,I⟩⟩⟩
def NV(T L S:Nat)(E:aZ)(δ:Dl):Prop:=∃(ds:List D) (C:Addr) (ns:List Str) (chs rest:List D) (k:Nat) (rs:List D) (m:Nat) (a:Addr) (d:D),δ[T]?=some (some (.lst ds))/\ds.length<1000/\δ[L]?=some (some (.raw (.ref a)))/\δ[S]?=some (some (.ins C ns (.lst chs::rest)))/\chs[k]?=some (.lst rs)/\rs[m]?=some (.pin a d) /\
 ∀w:V,E.nx (((δ.set L none).set S (some (.ins C ns (.lst (chs.set k (.raw w))::rest)))).set T (some (.lst (ds++[d]))))
theorem JT(T L S:Nat)(hT:T∈Γ:=by decide)(v:S∈Γ:=by decide)(hL:L∉Γ:=by decide)(J:T≠L:=by decide)(M:S≠L:=by decide)(YS:T≠S:=by decide):ST K ρ Γr Γl (yR (tBM K "list" Aj (bR T) (bx (bR L) gT))) Γ Γ (NV T L S):=by
 intro B0 Dn E fps δ σ H kk o h
 obtain ⟨ds,C,ns,chs,rest,k,rs,m,a,d,eT,hl,eL,eS,ek,em,hE⟩:=h
 obtain ⟨vL,W1,rL⟩:=o.val L _ eL
 obtain rfl:vL=.ref a:=rL.1
 obtain ⟨p,B,Y3,Yw,YB,r,Z⟩:=o.z7 eT
 obtain ⟨vS,Yx,q,dx,xs,fq,rfl,e2,fS,hr⟩:=o.val S _ eS
 obtain ⟨x0,xr,f1,n,rfl,rfl,h3,h4⟩:=hr
 obtain ⟨i,ys,g,rfl,e7,rfl,h5⟩:=h3
 obtain ⟨pre,f,post,y,rfl,ey,h6,h7⟩:=h5.G9 ek
 obtain ⟨F,zs,t,rfl,e8,rfl,h8⟩:=h6
 have U:=(o.own S v).1
 rw[fS] at U
 have R:=(o.own S v).2
 have X:=U
 simp only[Qp,OM] at X
 have ZT:t.Nodup:=by
  have:List.Sublist t (q::i::(pre++(F::(t++(post++n))))) :=
   ((((List.sublist_append_left t (post++n)).trans (List.sublist_cons_self _ _)).trans (List.sublist_append_right _ _)).trans (List.sublist_cons_self _ _)).trans (List.sublist_cons_self _ _)
  exact this.nodup X
 obtain ⟨z,s,ez,h9,YI,ZW⟩:=h8.Je ZT em
 obtain ⟨rfl,Vw⟩:z=.ref a/\_:=h9
 have G:∀b∈s,b∈fps S:=fun b hb=>by
  rw[fS]
  have:=YI b hb
  simp [this]
 have Q:List.Sublist (q::(i::(pre++post)++n)) (q::(i::(pre++((F::t)++post))++n)) :=
  ((((List.Sublist.refl pre).append (List.sublist_append_right _ _)).cons₂ i).append (List.Sublist.refl n)).cons₂ q
 have Wv:∀b∈s,b∉q::(i::(pre++post)++n):=fun b hb hz=>by
  have x:=YI b hb
  have nd:=X
  simp only[Om,Ow,KE,Oj] at nd
  simp only[Qp,OM,KE,Oj] at hz
  obtain ⟨n1,n2,n3,⟨n4,n5,n6,n7⟩,n8⟩:=nd
  rcases hz with z|z|z|z|z
  .subst z;exact n1 (.inr (.inr (.inr (.inl x))))
  .subst z;exact n2 (.inr (.inr (.inl x)))
  .exact n8 b z b (.inr (.inl x)) rfl
  .exact n7 b x b (.inl z) rfl
  .exact n7 b x b (.inr z) rfl
 have o1:=o.LD (σ':=σ) L hL rfl (fun _ _=>rfl)
 have O:(if S=L then [] else fps S)=fps S:=if_neg M
 have o2:=o1.write (H':=H) v (d':=.ins C ns (.lst (chs.set k (.raw (.ref F)))::rest)) (fp':=q::(i::(pre++post)++n)) Yx ⟨q,dx,_,_,rfl,e2,rfl,.ref i,xr,i::(pre++post),n,rfl,rfl,⟨i,ys,pre++post,rfl,e7,rfl,h7⟩,h4⟩ (Q.nodup U)
  (fun b hb=>(R b (by rw[fS];exact Q.subset hb)).2) (fun b hb=>.inl (by show b∈(if S=L then [] else fps S);rw[O,fS];exact Q.subset hb)) (fun b u _ e=>e)
 have Y:=o.own T hT
 have P:(if T=S then q::(i::(pre++post)++n) else if T=L then [] else fps T)=fps T:=by
  rw[if_neg YS,if_neg J]
 have Yn:=Y.1
 rw[r] at Yn
 obtain ⟨np,nq⟩:=Om.mp Yn
 have Vy:∀b∈s,b∉fps T:=fun b hb z=>o.dj S v T YS b (G b hb) z
 have Up:p∉s:=fun z=>Vy p z (by rw[r];exact k0)
 have nt:=(Y.2 p (by rw[r];exact k0)).2.mx
 refine⟨.ref p,Yw,.inl ⟨rfl,B,.inl (.inl YB)⟩,.ref a,W1,p,B,.ref a,rfl,rfl,YB,by rw[Z.length];exact OA hl (fA (Ol _)),?_⟩
 refine kk.nx (o2.write (H':=L2.upd H p (.lst (B++[.ref a]))) hT (d':=.lst (ds++[d])) (fp':=p::(Y3++s)) Yw ⟨p,B++[.ref a],Y3++s,rfl,aq,rfl,(Z.upd np nt).append ((Rfs.one Vw).upd Up nt)⟩ ?_ (fun b hb=>?_) (fun b hb=>?_) ?_) (hE (.ref F))
 .refine Om.mpr ⟨fun z=>?_,Ow.mpr ⟨nq,ZW,fun b hb c hc e=>?_⟩⟩
  .rcases Oj.mp z with z|z
   .exact np z
   .exact Up z
  .subst e;exact Vy b hc (by rw[r];exact gV _ hb)
 .rcases KE.mp hb with e|hb
  .subst e;exact .inl ⟨_,aq⟩
  .rcases Oj.mp hb with hb|hb
   .exact Mu.upd (Y.2 b (by rw[r];exact gV _ hb)).2 (.inl ⟨_,rfl⟩)
   .exact Mu.upd (R b (G b hb)).2 (.inl ⟨_,rfl⟩)
 .rcases KE.mp hb with e|hb
  .exact .inl (by show b∈(if T=S then q::(i::(pre++post)++n) else if T=L then [] else fps T);rw[P,r,e];exact k0)
  .rcases Oj.mp hb with hb|hb
   .exact .inl (by show b∈(if T=S then q::(i::(pre++post)++n) else if T=L then [] else fps T);rw[P,r];exact gV _ hb)
   .refine .inr ⟨(R b (G b hb)).1,fun j=>?_⟩
    show b∉(if j=S then q::(i::(pre++post)++n) else if j=L then [] else fps j)
    by_cases I:j=S
    .rw[if_pos I];exact Wv b hb
    .rw[if_neg I]
     by_cases j2:j=L
     .rw[if_pos j2];exact OF
     .rw[if_neg j2];exact o.dj S v j I b (G b hb)
 .intro b u hb hu
  replace hb:b∉(if T=S then q::(i::(pre++post)++n) else if T=L then [] else fps T):=hb
  rw[P] at hb
  rw[au (fun z=>hb (by rw[z,r];exact k0))];exact hu
end
end L3
namespace L3
open PySem
open L2 hiding D Rf Rfs Rp dI dT
theorem wK:∀{l:aab}{b:Nat}{v:Int},b<l.length->(l.set b v).sum=l.sum+(v - l.getD b 0)
 |[],b,v,h=>by simp at h
 |x::l,0,v,h=>by simp;omega
 |x::l,b+1,v,h=>by
  have:=wK (l:=l) (b:=b) (v:=v) (by simpa using h)
  simp only[List.set_cons_succ,Oy,this,List.getD_cons_succ]
  omega
def dO(t:aaa)(a:Nat):Int:=(rowAt t a).sum
def fg(t:aaa)(c:Nat):Int:=(t.map fun r=>r.getD c 0).sum
theorem nW(c:aP n m t)(ha:a<n)(hb:b<m):dO (setCell t a b v) a'=dO t a' + if a=a' then v - cellAt t a b else 0:=by
 have f:=c.1
 have hr:=c.row ha
 unfold dO rowAt setCell cellAt
 by_cases h:a=a'
 .subst h
  rw[if_pos rfl,be (l:=t.set a _),OD (),Pn,wK (by rw[show (t.getD a []).length=m from hr];exact hb)]
 .rw[if_neg h,be (l:=t.set a _),Gc h,<- be];omega
theorem nj(f:aP n m t)(ha:a<n)(hb:b<m):fg (setCell t a b v) c=fg t c+if b=c then v - cellAt t a b else 0:=by
 have g:=f.1
 have hr:=f.row ha
 unfold fg setCell cellAt
 rw[QV,wK (by rw[dz];omega)]
 have e:(t.map fun r=>r.getD c 0).getD a 0=(t.getD a []).getD c 0:=by
  rw[be,ox,ab (),be (l:=t),ab ()]
  rfl
 rw[e]
 have i:(t.getD a []).length=m:=hr
 by_cases h:b=c
 .subst h
  rw[if_pos rfl,be (l:=List.set _ _ _),OD (),Pn]
 .rw[if_neg h,be (l:=List.set _ _ _),Gc h,<- be];omega
theorem yO(g:t.length=u.length)(h:∀a,a<t.length->dO t a=dO u a):t.map List.sum=u.map List.sum:=by
 refine Px (by rw[dz,dz];exact g) fun a c f=>?_
 rw[dz] at c f
 have:=h a c
 unfold dO rowAt at this
 rw[be,be,ab c,ab f] at this
 rw[Ph,Ph]
 exact this
theorem BB(h:aP n m t)(hi:i<n)(g:k<n)(hj:j<m)(f:l<m)(r:cellAt t i j=1)(E:cellAt t i l=0)(C:cellAt t k j=0)(B:cellAt t k l=1) :
  (∀a,dO (cH t i j k l) a=dO t a)/\∀c,fg (cH t i j k l) c=fg t c:=by
 have u:j≠l:=fun z=>by rw[z] at r;omega
 have q:i≠k:=fun z=>by rw[z] at r;omega
 have o:=h.setCell (i:=i) (j:=j) (v:=0) hi
 have p:=o.setCell (i:=i) (j:=l) (v:=1) hi
 have s:=p.setCell (i:=k) (j:=j) (v:=1) g
 have e2:cellAt (setCell t i j 0) i l=0:=by rw[aW h hi hj,if_neg (fun z=>u z.2)];exact E
 have y:cellAt (setCell (setCell t i j 0) i l 1) k j=0:=by rw[aW o hi f,if_neg (fun z=>q z.1),aW h hi hj,if_neg (fun z=>q z.1)];exact C
 have x:cellAt (setCell (setCell (setCell t i j 0) i l 1) k j 1) k l=1:=by rw[aW p g hj,if_neg (fun z=>u z.2),aW o hi f,if_neg (fun z=>q z.1),aW h hi hj,if_neg (fun z=>q z.1)];exact B
 refine⟨fun a=>?_,fun c=>?_⟩
 .unfold cH
  rw[nW s g f,nW p g hj,nW o hi f,nW h hi hj,e2,y,x,r]
  split<;>split<;>omega
 .unfold cH
  rw[nj s g f,nj p g hj,nj o hi f,nj h hi hj,e2,y,x,r]
  split<;>split<;>omega
end L3
namespace L3
namespace Fl
def sN(n:Nat)(f:Nat->Int):Int:=((List.range n).map f).sum
theorem FC:sN 0 f=0:=rfl
theorem bK:sN (n+1) f=sN n f+f n:=by
 unfold sN;rw[PZ,Ov,QP];simp
theorem aw(h:∀i,i<n->f i=g i):sN n f=sN n g:=by
 unfold sN;congr 1;exact O7 fun i hi=>h i (OL.mp hi)
theorem iS{f g:Nat->Int}:∀{n:Nat},sN n (fun i=>f i+g i)=sN n f+sN n g
 |0=>rfl
 |n+1=>by rw[bK,bK,bK,iS];omega
theorem jA{f g:Nat->Int}:∀{n:Nat},sN n (fun i=>f i - g i)=sN n f - sN n g
 |0=>rfl
 |n+1=>by rw[bK,bK,bK,jA];omega
theorem aV:∀{n:Nat},sN n (fun _=>0)=0
 |0=>rfl
 |n+1=>by rw[bK,aV];rfl
theorem oA{m:Nat}{f:Nat->Nat->Int}:∀{n:Nat},sN n (fun i=>sN m fun j=>f i j)=sN m fun j=>sN n fun i=>f i j
 |0=>(aV (n:=m)).symm
 |n+1=>by
  rw[bK,oA,<- iS]
  exact aw fun j _=>bK.symm
theorem jq{f:Nat->Int}:∀{n:Nat},(∀i,i<n->0<=f i)->0<=sN n f
 |0,_=>Int.le_refl _
 |n+1,h=>by
  rw[bK]
  have:=jq (f:=f) (n:=n) fun i hi=>h i ()
  have:=h n ()
  omega
theorem tD{f:Nat->Int}{k:Nat}:∀{n:Nat},(∀i,i<n->0<=f i)->k<n->0<f k->0<sN n f
 |0,_,h,_=>by omega
 |n+1,h,g,c=>by
  rw[bK]
  have a:=jq (f:=f) (n:=n) fun i hi=>h i ()
  have b:=h n ()
  rcases P9 k n with z|z
  .have:=tD (fun i hi=>h i ()) z c
   omega
  .have e:k=n:=()
   subst e;omega
theorem wk{l:aab}:l.sum=sN l.length fun i=>l.getD i 0:=by
 unfold sN
 congr 1
 refine Px (by simp) fun i c f=>?_
 rw[Ph,Qa,be,ab c];rfl
theorem qw(h:aP n m t)(ha:a<n):dO t a=sN m fun j=>cellAt t a j:=by
 unfold dO;rw[wk,show (rowAt t a).length=m from h.row ha]
theorem ot(h:aP n m t):fg t b=sN n fun i=>cellAt t i b:=by
 unfold fg;rw[wk,dz,h.1]
 refine aw fun i hi=>?_
 have c:i<t.length:=by rw[h.1];exact hi
 unfold cellAt
 rw[be,ox,ab c,be (l:=t),ab c]
 rfl
theorem AN{f:Nat->Int}:∀{n:Nat}{R:aad},R.Nodup->(∀r∈R,r<n)->(R.map f).sum=sN n fun i=>if i∈R then f i else 0
 |n,[],_,_=>by simp [aV]
 |n,r::R,nd,h=>by
  obtain ⟨n1,n2⟩:=Om.mp nd
  rw[Oi,Oy,AN n2 fun x m=>h x (gV _ m)]
  have hr:=h r k0
  have e:sN n (fun i=>if i∈r::R then f i else 0)=sN n (fun i=>(if i=r then f i else 0)+if i∈R then f i else 0):=aw fun i _=>by
   by_cases j:i=r
   .subst j
    rw[if_pos k0,if_pos rfl,if_neg n1];omega
   .rw[if_neg j]
    by_cases c:i∈R
    .rw[if_pos (gV _ c),if_pos c];omega
    .rw[if_neg (fun z=>by rcases KE.mp z with z|z;exact j z;exact c z),if_neg c];omega
  rw[e,iS]
  congr 1
  have one:∀n:Nat,r<n->sN n (fun i=>if i=r then f i else 0)=f r:=by
   intro n
   induction n with
   |zero=>intro z;omega
   |succ k ih =>
    intro o
    rw[bK]
    rcases P9 r k with z|z
    .rw[ih z,if_neg ()];omega
    .have e:k=r:=()
     subst e
     rw[if_pos rfl]
     have:sN k (fun i=>if i=k then f i else 0)=0:=by
      rw[aw (g:=fun _=>0) fun i hi=>if_neg ()];exact aV
     rw[this];omega
  exact (one n hr).symm
def Cut(n m:Nat)(c cols:aab)(g f:aaa)(R C:aad):Prop :=
 sN m (fun j=>if j∈C then cols.getD j 0 else 0)+sN n (fun i=>sN m fun j=>(if i∈R/\j∉C then cellAt f i j else 0) - (if i∉R/\j∈C then cellAt g i j else 0))<sN n fun i=>if i∈R then c.getD i 0 else 0
structure St(n m:Nat)(rows cols:aab)(low high:aaa)(t:aaa)(w r:aab):Prop where
 rt:aP n m t
 wl:w.length=n
 rl:r.length=m
 bd:∀i j,i<n->j<m->cellAt low i j<=cellAt t i j/\cellAt t i j<=cellAt high i j
 rs:∀i,i<n->rows.getD i 0=w.getD i 0+dO t i
 cs:∀j,j<m->cols.getD j 0=r.getD j 0+fg t j
 rp:∀j,j<m->0<=r.getD j 0
 ng:∀i,i<n->w.getD i 0<0->∀j,j<m->cellAt t i j=cellAt low i j
theorem LP(s:St n m rows cols low high t w r)
  (x:∀i,i<n->0<w.getD i 0->i∈R) (v:∀i∈R,i<n/\(0<w.getD i 0\/∃j,j<m/\cellAt low i j<cellAt t i j)) (u:∀i∈R,∀j,j<m->cellAt t i j<cellAt high i j->j∈C) (p:∀j∈C,r.getD j 0<=0)
  (o:∀j∈C,∀i,i<n->cellAt low i j<cellAt t i j->i∈R) (k:Nat) (h:k<n) (hw:0<w.getD k 0):Cut n m rows cols low high R C:=by
 unfold Cut
 have e1:sN n (fun i=>if i∈R then rows.getD i 0 else 0)=sN n (fun i=>if i∈R then w.getD i 0 else 0)+sN n fun i=>sN m fun j=>if i∈R then cellAt t i j else 0:=by
  rw[<- iS]
  refine aw fun i hi=>?_
  by_cases z:i∈R
  .rw[if_pos z,if_pos z,s.rs i hi,qw s.rt hi]
   congr 1
   exact aw fun j _=>(if_pos z).symm
  .rw[if_neg z,if_neg z,aw (g:=fun _=>0) fun j _=>if_neg z,aV];rfl
 have e2:sN m (fun j=>if j∈C then cols.getD j 0 else 0)=sN m (fun j=>if j∈C then r.getD j 0 else 0)+sN n fun i=>sN m fun j=>if j∈C then cellAt t i j else 0:=by
  rw[oA,<- iS]
  refine aw fun j hj=>?_
  by_cases z:j∈C
  .rw[if_pos z,if_pos z,s.cs j hj,ot s.rt]
   congr 1
   exact aw fun i _=>(if_pos z).symm
  .rw[if_neg z,if_neg z,aw (g:=fun _=>0) fun i _=>if_neg z,aV];rfl
 have B:sN n (fun i=>sN m fun j=>if i∈R then cellAt t i j else 0)=sN n (fun i=>sN m fun j=>if j∈C then cellAt t i j else 0)+sN n (fun i=>sN m fun j=>(if i∈R/\j∉C then cellAt high i j else 0) - (if i∉R/\j∈C then cellAt low i j else 0)):=by
  rw[<- iS]
  refine aw fun i hi=>?_
  rw[<- iS]
  refine aw fun j hj=>?_
  have b:=s.bd i j hi hj
  by_cases f:i∈R<;>by_cases c:j∈C
  .rw[if_pos f,if_pos c,if_neg (fun q=>q.2 c),if_neg (fun q=>q.1 f)];omega
  .rw[if_pos f,if_neg c,if_pos ⟨f,c⟩,if_neg (fun q=>q.1 f)]
   have:¬ cellAt t i j<cellAt high i j:=fun q=>c (u i f j hj q)
   omega
  .rw[if_neg f,if_pos c,if_neg (fun q=>q.2 c),if_pos ⟨f,c⟩]
   have:¬ cellAt low i j<cellAt t i j:=fun q=>f (o j c i hi q)
   omega
  .rw[if_neg f,if_neg c,if_neg (fun q=>f q.1),if_neg (fun q=>c q.2)];omega
 have p1:0<sN n fun i=>if i∈R then w.getD i 0 else 0:=by
  refine tD (k:=k) (fun i hi=>?_) h ?_
  .by_cases z:i∈R
   .rw[if_pos z]
    rcases (v i z).2 with q|⟨j,hj,q⟩
    .omega
    .rcases Int.lt_or_le (w.getD i 0) 0 with y|y
     .have:=s.ng i hi y j hj;omega
     .exact y
   .rw[if_neg z];exact Int.le_refl _
  .rw[if_pos (x k h hw)];exact hw
 have p2:sN m (fun j=>if j∈C then r.getD j 0 else 0)=0:=by
  rw[aw (g:=fun _=>0) fun j hj=>?_,aV]
  by_cases z:j∈C
  .rw[if_pos z]
   have:=p j z
   have:=s.rp j hj
   omega
  .rw[if_neg z]
 rw[e1,e2,B,p2]
 omega
theorem filled(s:St n m rows cols low high t w r)(hr:rows.length=n)(c:cols.length=m)(g:rows.sum=cols.sum)(h:∀i,i<n->w.getD i 0<=0) :
  (∀i,i<n->dO t i=rows.getD i 0)/\∀j,j<m->fg t j=cols.getD j 0:=by
 have e1:rows.sum=sN n (fun i=>w.getD i 0)+sN n fun i=>sN m fun j=>cellAt t i j:=by
  rw[wk,hr,<- iS]
  exact aw fun i hi=>by rw[s.rs i hi,qw s.rt hi]
 have e2:cols.sum=sN m (fun j=>r.getD j 0)+sN n fun i=>sN m fun j=>cellAt t i j:=by
  rw[wk,c,oA,<- iS]
  exact aw fun j hj=>by rw[s.cs j hj,ot s.rt]
 have a1:=jq (f:=fun j=>r.getD j 0) (n:=m) s.rp
 have a2:0<=sN n (fun i=>0 - w.getD i 0):=jq fun i hi=>by have:=h i hi;omega
 rw[jA,aV] at a2
 refine⟨fun i hi=>?_,fun j hj=>?_⟩
 .have:=s.rs i hi
  have hw:=h i hi
  rcases Int.lt_or_le (w.getD i 0) 0 with z|z
  .have p:0<sN n (fun i=>0 - w.getD i 0):=tD (k:=i) (fun i hi=>by have:=h i hi;omega) hi ()
   rw[jA,aV] at p
   omega
  .omega
 .have:=s.cs j hj
  have hr:=s.rp j hj
  rcases Int.lt_or_le 0 (r.getD j 0) with z|z
  .have p:=tD (f:=fun j=>r.getD j 0) (k:=j) s.rp hj z
   omega
  .omega
def cellsOf:List (Nat × Nat)->List (Nat × Nat)
 |[]=>[]
 |[p]=>[p]
 |p::q::r=>p::(p.1,q.2)::cellsOf (q::r)
def lh:List (Nat × Nat)->Nat->List (Nat × Nat)
 |[],_=>[]
 |[p],c=>[p,(p.1,c)]
 |p::q::r,c=>p::(p.1,q.2)::lh (q::r) c
theorem xk{s c:Nat}:∀{ps:List (Nat × Nat)},cellsOf (ps++[(s,c)])=lh ps c++[(s,c)]
 |[]=>rfl
 |[p]=>rfl
 |p::q::r=>by
  show p::(p.1,q.2)::cellsOf (q::r++[(s,c)])=p::(p.1,q.2)::lh (q::r) c++[(s,c)]
  rw[xk];rfl
theorem yI{s c f:Nat}:∀{ps:List (Nat × Nat)},lh (ps++[(s,c)]) f=lh ps c++[(s,c),(s,f)]
 |[]=>rfl
 |[p]=>rfl
 |p::q::r=>by
  show p::(p.1,q.2)::lh (q::r++[(s,c)]) f=p::(p.1,q.2)::lh (q::r) c++[(s,c),(s,f)]
  rw[yI];rfl
def Lk(L:Nat->Nat->Prop):List (Nat × Nat)->Prop
 |p::q::r=>L p.1 q.2/\Lk L (q::r)
 |_=>True
theorem Eo{L:Nat->Nat->Prop}{s c:Nat}:∀{ps:List (Nat × Nat)},Lk L ps->(∀p,ps.getLast?=some p->L p.1 c)->Lk L (ps++[(s,c)])
 |[],_,_=>trivial
 |[p],_,h=>⟨h p rfl,trivial⟩
 |p::q::r,h,k=>⟨h.1,Eo (ps:=q::r) h.2 fun z e=>k z (by rw[PN];exact e)⟩
def ap:Int->List (Nat × Nat)->aaa->aaa
 |_,[],t=>t
 |x,p::r,t=>ap (-x) r (setCell t p.1 p.2 (cellAt t p.1 p.2+x))
def dl:Int->List (Nat × Nat)->Nat->Nat->Int
 |_,[],_,_=>0
 |x,p::r,a,b=>(if p.1=a/\p.2=b then x else 0)+dl (-x) r a b
def dlr:Int->List (Nat × Nat)->Nat->Int
 |_,[],_=>0
 |x,p::r,a=>(if p.1=a then x else 0)+dlr (-x) r a
def dlc:Int->List (Nat × Nat)->Nat->Int
 |_,[],_=>0
 |x,p::r,b=>(if p.2=b then x else 0)+dlc (-x) r b
theorem LH{n m:Nat}:∀{ps:List (Nat × Nat)}{x:Int}{t:aaa},aP n m t->(∀p∈ps,p.1<n/\p.2<m)->aP n m (ap x ps t)/\(∀a b,cellAt (ap x ps t) a b=cellAt t a b+dl x ps a b)/\(∀a,dO (ap x ps t) a=dO t a+dlr x ps a)/\∀b,fg (ap x ps t) b=fg t b+dlc x ps b
 |[],x,t,h,_=>⟨h,fun a b=>by simp [ap,dl],fun a=>by simp [ap,dlr],fun b=>by simp [ap,dlc]⟩
 |p::ps,x,t,h,g=>by
  obtain ⟨c,f⟩:=g p k0
  have s:aP n m (setCell t p.1 p.2 (cellAt t p.1 p.2+x)):=h.setCell c
  obtain ⟨k1,o,j,i⟩:=LH (ps:=ps) (x:=-x) s fun q r=>g q (gV _ r)
  refine⟨k1,fun a b=>?_,fun a=>?_,fun b=>?_⟩
  .show cellAt (ap (-x) ps _) a b=_
   rw[o,aW h c f]
   show _=cellAt t a b+((if p.1=a/\p.2=b then x else 0)+dl (-x) ps a b)
   by_cases z:p.1=a/\p.2=b
   .rw[if_pos z,if_pos z]
    obtain ⟨rfl,rfl⟩:=z
    omega
   .rw[if_neg z,if_neg z];omega
  .show dO (ap (-x) ps _) a=_
   rw[j,nW h c f]
   show _=dO t a+((if p.1=a then x else 0)+dlr (-x) ps a)
   by_cases z:p.1=a
   .rw[if_pos z,if_pos z];omega
   .rw[if_neg z,if_neg z];omega
  .show fg (ap (-x) ps _) b=_
   rw[i,nj h c f]
   show _=fg t b+((if p.2=b then x else 0)+dlc (-x) ps b)
   by_cases z:p.2=b
   .rw[if_pos z,if_pos z];omega
   .rw[if_neg z,if_neg z];omega
theorem EV{x:Int}{a:Nat}:∀{ps:List (Nat × Nat)}{p:Nat × Nat},ps.getLast?=some p->dlr x (cellsOf ps) a=if p.1=a then x else 0
 |[],p,e=>by simp at e
 |[q],p,e=>by
  obtain rfl:q=p:=by simpa using e
  show (if q.1=a then x else 0)+0=_
  omega
 |q::q2::r,p,e=>by
  show (if q.1=a then x else 0)+((if q.1=a then -x else 0)+dlr (- -x) (cellsOf (q2::r)) a)=_
  rw[Int.neg_neg,EV (ps:=q2::r) (p:=p) (by rw[PN] at e;exact e)]
  by_cases z:q.1=a
  .rw[if_pos z,if_pos z];omega
  .rw[if_neg z,if_neg z];omega
theorem DX{x:Int}{b:Nat}:∀{ps:List (Nat × Nat)}{p:Nat × Nat},dlc x (cellsOf (p::ps)) b=if p.2=b then x else 0
 |[],p=>by
  show (if p.2=b then x else 0)+0=_
  omega
 |q::r,p=>by
  show (if p.2=b then x else 0)+((if q.2=b then -x else 0)+dlc (- -x) (cellsOf (q::r)) b)=_
  rw[Int.neg_neg,DX (ps:=r) (p:=q)]
  by_cases z:q.2=b
  .rw[if_pos z,if_pos z];omega
  .rw[if_neg z,if_neg z];omega
theorem C9{x:Int}{a b:Nat}:∀{ps:List (Nat × Nat)},(∀p∈ps,p.1≠a)->dl x (cellsOf ps) a b=0
 |[],_=>rfl
 |[p],h=>by
  show (if p.1=a/\p.2=b then x else 0)+0=0
  rw[if_neg (fun z=>h p k0 z.1)];rfl
 |p::q::r,h=>by
  show (if p.1=a/\p.2=b then x else 0)+((if p.1=a/\q.2=b then -x else 0)+dl (- -x) (cellsOf (q::r)) a b)=0
  rw[if_neg (fun z=>h p k0 z.1),if_neg (fun z=>h p k0 z.1),Int.neg_neg,C9 (ps:=q::r) fun z c=>h z (gV _ c)];rfl
theorem HI{x:Int}{a b:Nat}{L:Nat->Nat->Prop}:∀{ps:List (Nat × Nat)},(ps.map Prod.fst).Nodup->(ps.map Prod.snd).Nodup->Lk L ps->dl x (cellsOf ps) a b=0\/(dl x (cellsOf ps) a b=x/\(a,b)∈ps)\/(dl x (cellsOf ps) a b=-x/\L a b/\∃p∈ps,p.1=a)
 |[],_,_,_=>.inl rfl
 |[p],_,_,_=>by
  show (if p.1=a/\p.2=b then x else 0)+0=0\/((if p.1=a/\p.2=b then x else 0)+0=x/\_)\/_
  by_cases z:p.1=a/\p.2=b
  .right;left
   rw[if_pos z]
   refine⟨(),?_⟩
   rw[<- z.1,<- z.2];exact k0
  .left;rw[if_neg z];rfl
 |p::q::r,n1,n2,i=>by
  have e:dl x (cellsOf (p::q::r)) a b=(if p.1=a/\p.2=b then x else 0)+((if p.1=a/\q.2=b then -x else 0)+dl (- -x) (cellsOf (q::r)) a b):=rfl
  rw[e,Int.neg_neg]
  rw[Oi] at n1 n2
  obtain ⟨t,g⟩:=Om.mp n1
  obtain ⟨s,u⟩:=Om.mp n2
  by_cases z:p.1=a
  .have j:dl x (cellsOf (q::r)) a b=0:=C9 fun y h w=>t (by rw[z,<- w];exact Oo.mpr ⟨y,h,rfl⟩)
   rw[j]
   by_cases f:p.2=b
   .have c:q.2≠b:=fun w=>s (by rw[f,<- w];exact Oo.mpr ⟨q,k0,rfl⟩)
    right;left
    rw[if_pos ⟨z,f⟩,if_neg (fun w=>c w.2)]
    refine⟨(),?_⟩
    rw[<- z,<- f];exact k0
   .rw[if_neg (fun w=>f w.2)]
    by_cases c:q.2=b
    .right;right
     rw[if_pos ⟨z,c⟩]
     refine⟨(),?_,p,k0,z⟩
     rw[<- z,<- c];exact i.1
    .left;rw[if_neg (fun w=>c w.2)];rfl
  .rw[if_neg (fun w=>z w.1),if_neg (fun w=>z w.1),OU,OU]
   rcases HI (x:=x) (a:=a) (b:=b) g u i.2 with w|w|w
   .exact .inl w
   .exact .inr (.inl ⟨w.1,gV _ w.2⟩)
   .obtain ⟨o,n,y,h,m⟩:=w
    exact .inr (.inr ⟨o,n,y,gV _ h,m⟩)
def Al(Q0 Q1:Nat × Nat->Prop):List (Nat × Nat)->Prop
 |[]=>True
 |p::r=>Q0 p/\Al Q1 Q0 r
theorem Ll{Q0 Q1:Nat × Nat->Prop}:∀{cs:List (Nat × Nat)},(∀(j:Nat) p,cs[j]?=some p->if j % 2=0 then Q0 p else Q1 p)->Al Q0 Q1 cs
 |[],_=>trivial
 |p::r,h=>by
  refine⟨by have:=h 0 p rfl;simpa using this,Ll fun j q e=>?_⟩
  have:=h (j+1) q (by simpa using e)
  by_cases z:j % 2=0
  .rw[if_pos z];rw[if_neg ()] at this;exact this
  .rw[if_neg z];rw[if_pos ()] at this;exact this
theorem Lg{Q0 Q1:Nat × Nat->Prop}:∀{cs:List (Nat × Nat)},Al Q0 Q1 cs->∀(j:Nat) p,cs[j]?=some p->if j % 2=0 then Q0 p else Q1 p
 |[],_,j,p,e=>by simp at e
 |q::r,h,0,p,e=>by
  obtain rfl:q=p:=by simpa using e
  exact h.1
 |q::r,h,j+1,p,e=>by
  have:=Lg h.2 j p (by simpa using e)
  by_cases z:j % 2=0
  .rw[if_pos z] at this;rw[if_neg ()];exact this
  .rw[if_neg z] at this;rw[if_pos ()];exact this
theorem Dh{Q0 Q1:Nat × Nat->Prop}:∀{ps:List (Nat × Nat)},Al Q0 Q1 (cellsOf ps)↔(∀p∈ps,Q0 p)/\Lk (fun a b=>Q1 (a,b)) ps
 |[]=>⟨fun _=>⟨fun p h=>(nomatch h),trivial⟩,fun _=>trivial⟩
 |[p]=>⟨fun h=>⟨fun q g=>by cases mo.mp g;exact h.1,trivial⟩,fun h=>⟨h.1 p k0,trivial⟩⟩
 |p::q::r=>by
  have ih:=Dh (Q0:=Q0) (Q1:=Q1) (ps:=q::r)
  refine⟨fun h=>?_,fun h=>?_⟩
  .obtain ⟨m,j,i⟩:Q0 p/\Q1 (p.1,q.2)/\Al Q0 Q1 (cellsOf (q::r)):=h
   obtain ⟨k1,f⟩:=ih.mp i
   exact⟨fun z c=>by rcases KE.mp c with y|y;rw[y];exact m;exact k1 z y,j,f⟩
  .exact⟨h.1 p k0,h.2.1,ih.mpr ⟨fun z c=>h.1 z (gV _ c),h.2.2⟩⟩
end Fl
end L3
namespace L2
open PySem PySem.Spec PyProof.Rows PySem.Calls
theorem wq:∀{us:List Value}{ns:aab},us.length=ns.length->(∀(j:Nat) (v:Value),us[j]?=some v->∃i t,ns[j]?=some i/\v=Value.int i t)->IntsAre us ns
 |[],[],_,_=>.nil
 |[],_::_,h,_=>by simp at h
 |_::_,[],h,_=>by simp at h
 |u::us,n::ns,h,k=>by
  obtain ⟨i,t,e1,rfl⟩:=k 0 u rfl
  obtain rfl:n=i:=by simpa using e1
  exact .cons n t (wq (by simpa using h) fun j v e=>k (j+1) v (by simpa using e))
section
variable {prog:Program}{w:World}{A:Around}{E:Value->Shared->Prop}{s:Shared}
theorem zH(hd:s.heap.DictOf (cG prog w) d kvs)(lo:(d == sysModules)=false)(J:A.handled=none)(F:kvs.map (·.1)=ns.map Sum.inl)(P:ns.length<64)
  (h:∀(h':Heap) (n:Nat) (a:Addr) (e:Nat) (out:Array Value) (g:aab),(∀b u,s.heap.get? b=some u->h'.get? b=some u)->s.heap.get? a=none->(∃c:Heap,(∀b u,s.heap.get? b=some u->c.get? b=some u)/\a=c.objs.size)->h'.get? a=some (seqObj "list" out e)->IntsAre out.toList g->g.Perm ns->g.Pairwise (·<=·)->Q (.ref a) { s with heap:=h',toks:=n }) :
  wpAny (model prog w) A (call (.builtin "sorted") [.ref d]) Q E s:=by
 obtain ⟨ep,q⟩:=hd.dictAt
 have o:kvs.length=ns.length:=by have:=congrArg List.length F;simpa using this
 have H:kvs.length<=sizeLine:=by rw[sizeLine_eq];omega
 refine Calls.call_function_entry kind_sorted plain_sorted entry_sorted (args_sorted1 _) ?_
 unfold Builtin.«sorted»
 refine wpAny_bind (m:=checkCount "sorted" 1 1 _) (wpAny_pure ?_)
 refine wpAny_bind (PySem.W.kdu_collect (A:=A.in1) (PySem.W.kdl_dict (knd:=cG prog w) (kvs:=kvs) (ep:=ep) lo) J q H fun h' n acc z I=>?_)
 have p:acc.toList.length=kvs.length:=by rw[OX];exact I.1
 have M:IntsAre acc.toList ns:=wq (by rw[p,o]) fun j v e=>by
  obtain ⟨k,x,e1,e2⟩:=I.2 j v (by rw[<- Array.getElem?_toList];exact e)
  have f:(kvs.map (·.1))[j]?=some k:=by rw[ox,e1];rfl
  rw[F,ox] at f
  cases e4:ns[j]? with
  |none=>rw[e4] at f;cases f
  |some i =>
   rw[e4] at f
   obtain rfl:Sum.inl i=k:=OJ f
   rw[CY] at e2
   rcases bW e2 with ⟨O,t,r,G⟩|⟨y,t,r,G⟩
   .cases r
    exact⟨i,t,rfl,G⟩
   .cases r
 refine wpAny_bind (wpAny_newList ?_ (by rw[p];exact H))
 have B:(h'.push (seqObj "list" acc.toList.toArray 0)).get? h'.objs.size=some (seqObj "list" acc.toList.toArray 0):=Heap.get?_push_size _ rfl
 show wpAny _ _ _ _ _ { s with heap:=h'.push (seqObj "list" acc.toList.toArray 0),toks:=n }
 refine wpAny_bind (wpAny_holding (wpAny_call_entry slot_list_sort ⟨_,B,rfl⟩ entry_list_sort (list_sort_tree B M (by rw[p];omega) fun out g a1 a2 a3=>⟨_,rfl,?_⟩) (args_list_sort _)))
 obtain ⟨e,L⟩:=sortedHeap_at (out:=out) B
 refine wpAny_pure ⟨_,rfl,h _ n h'.objs.size e out g (fun b u hb=>?_) ?_ ⟨h',z,rfl⟩ L a1 a2 a3⟩
 .have c:=z b u hb
  have C:=Heap.lt_size c
  rw[sortedHeap_old (OK C) (by rw[size_push'];exact QE C),Heap.get?_push_ne _ _ _ (OK C)]
  exact c
 .cases e0:s.heap.get? h'.objs.size with
  |none=>rfl
  |some u=>exact absurd (Heap.lt_size (z _ u e0)) (O6 _)
end
section
variable {X:Cx}{pins:List (Addr × Obj)}{σ:St}{H:Hp}{s:Shared}
theorem Ga(I:Inv X pins σ H s)(k:∀b u,s.heap.get? b=some u->h'.get? b=some u)(f:s.heap.get? a=none)(hn:H a=none)(g:bI X.prog X.w (upd H a o) h' a o) :
  Inv X pins σ (upd H a o) { s with heap:=h',toks:=t' } :=
 I.un { keep := fun b u q _ _ _ => k b u q
        slot:=fun b u q _ _ _=>⟨u.slots,k b u q⟩
        free:=fun b u q n _=>by rw[au (fun z=>by subst z;rw[f] at q;cases q)];exact n
        there:=fun b u q _=>⟨u,k b u q⟩
        tups:=fun b xs q=>by rw[au (aJ q hn)];exact q
        frzs:=fun b u xs q=>by rw[au (aJ q hn)];exact q
        tbls:=fun b ps q=>⟨#[],by rw[au (aJ q hn),q];simp⟩ }
  fun b u e=>by
   by_cases hb:b=a
   .subst hb;rw[aq] at e;cases e;exact g
   .rw[au hb] at e
    exact (I.hok b u e).vz (fun c v _ q=>k c v q) (fun c q=>by rw[au (aJ q hn)];exact q) fun c xs q=>by rw[au (aJ q hn)];exact q
theorem qA(x:X.calm=true):gG X (.builtin "sorted") (fun xs H Q=>∃(a:Addr) (kvs:List (Key × V)) (ns:aab),xs=[.ref a]/\H a=some (.dK kvs)/\kvs.map (·.1)=ns.map Sum.inl/\ns.length<64 /\
  ∀(l:Addr) (c:aab),H l=none->c.Perm ns->c.Pairwise (·<=·)->Q (.ref l) (upd H l (.lst (c.map V.int)))):=by
 intro pins s σ H xs us Q I r h
 obtain ⟨a,kvs,ns,rfl,y,v,t,q⟩:=h
 obtain ⟨u,rfl,g⟩:=vals1 r
 obtain rfl:u=Value.ref a:=g
 obtain ⟨_,lo,vs,m,hd⟩:=Lh I.hok y
 refine zH hd lo (I.ok.hd x) (by rw[<- m.keys];exact v) t fun h' f b e out c k1 p j n a1 a2 a3=>?_
 obtain ⟨z,i,q2⟩:=j
 have hn:H b=none:=(I.hok.kept i).fresh (Nat.le_of_eq q2.symm)
 have B:=a2.length_eq
 refine⟨.ref b,_,Ga (t':=f) (o:=.lst (c.map V.int)) I k1 p hn ⟨?_,out.toList,e,gu a1,?_⟩,rfl,q _ c hn a2 a3⟩
 .rw[dz];exact small ()
 .exact n
theorem Gi(G:aad)(p:∀i∈G,∀x,X.N[i]?=some x->X.env.scope.names.lookup x=none)(h:PSs X ss t) :
  PSs X ss (fun Dn c H=>∃σ':St,σ'.length=c.length/\(∀i,i∉G->σ'[i]?=c[i]?)/\t Dn σ' H):=by
 intro pins s c H D I q
 obtain ⟨σ',o,n,q⟩:=q
 obtain ⟨m,hm,lk⟩:=I.loc
 refine h pins s σ' H D ⟨I.ok,I.os,I.bare,I.base,⟨m,hm,fun i x v f g j=>?_⟩,I.cell,I.free,I.freeC,I.pin,I.hok,by rw[o];exact I.len⟩ q
 by_cases hi:i∈G
 .have e:=p i hi x f
  rcases j with z|z|z<;>rw[e] at z<;>cases z
 .rw[n i hi] at g
  exact lk i x v f g j
end
end L2
namespace L3
open PySem L2
section
variable {K:aae}{ρ:Bool}{Γr Γl Γ:aad}{te tx:TE}{de dx:DE}
variable {B0:Hp}{fps:Nat->List Addr}{δ:Dl}{σ:St}{H:Hp}{C:Addr}{f:Str}
theorem Ok.lend(o:Ok K B0 Γ fps δ σ H)(c:i<δ.length)(f:σ[i]?=some (some v))(r:Rf K H y v fp) :
  Ok K H [] (fun j=>if j=i then fp else fps j) (δ.set i (some y)) σ H:=by
 refine⟨by rw[OS];exact o.len,SB.refl o.b0.now,fun j d e=>?_,fun j q=>?_,fun _ h=>(nomatch h),fun _ h=>(nomatch h)⟩
 .by_cases hj:j=i
  .subst hj
   rw[OD c] at e;cases e
   exact⟨v,f,by show Rf K H y v (if j=j then fp else fps j);rw[if_pos rfl];exact r⟩
  .rw[Gc (OT hj)] at e
   show ∃v,_/\Rf K H d v (if j=i then fp else fps j)
   rw[if_neg hj]
   exact o.val j d e
 .by_cases hj:j=i
  .subst hj;exact absurd (OD c) (q y)
  .show (if j=i then fp else fps j)=[]
   rw[if_neg hj]
   exact o.non j fun d z=>q d (by rw[Gc (OT hj)];exact z)
def Fu(i f c:Nat)(δ:Dl)(P:D->Prop):Prop:=∃(s C:Addr) (ns:List Str) (a1 a2:Addr) (e1 e2:D) (rest:List D),δ[i]?=some (some (.pin s (.ins C ns (.raw (.ref a1)::.raw (.ref a2)::rest))))/\δ[f]?=some (some (.pin a1 e1))/\δ[c]?=some (some (.pin a2 e2))/\P (.ins C ns (e1::e2::rest))
theorem Fu.mono(h:Fu i g1 g2 δ P)(k:∀y,P y->P' y):Fu i g1 g2 δ P' :=
 let ⟨s,C,ns,a1,a2,e1,e2,rest,h0,h1,h2,p⟩:=h;⟨s,C,ns,a1,a2,e1,e2,rest,h0,h1,h2,k _ p⟩
theorem Fu.out(h:Fu i g1 g2 δ P)(o:Ok K B0 Γ fps δ σ H):∃y v fp,P y/\i<δ.length/\σ[i]?=some (some v)/\Rf K H y v fp:=by
 obtain ⟨s,C,ns,a1,a2,e1,e2,rest,c,q,n,p⟩:=h
 obtain ⟨v,j,e,a,dx,xs,F,t,m,_,r⟩:=o.val i _ c
 obtain ⟨z,u,L,J,rfl,_,⟨rfl,_⟩,r⟩:=r
 obtain ⟨x,f,I,G,rfl,_,⟨rfl,_⟩,r⟩:=r
 obtain ⟨E,_,rfl,g⟩:=o.val g1 _ q
 obtain ⟨B,_,rfl,q2⟩:=o.val g2 _ n
 exact⟨_,v,_,p,(oe.mp c).1,j,a,dx,_,_,t,m,rfl,.ref a1,_,_,_,rfl,rfl,g,.ref a2,_,_,_,rfl,rfl,q2,r⟩
def Lo(i f c:Nat)(d:DE)(δ:Dl)(P:DK):Prop:=Fu i f c δ fun y=>d (δ.set i (some y)) P
theorem AO(i t m:Nat)(h:EM K [] [] te de):EM K Γ [] te (Lo i t m de) :=
 ⟨fun δ P u k q=>q.mono fun y z=>h.mono _ _ _ k z,fun o q=>by
  obtain ⟨y,v,fp,p,j,g,r⟩:=q.out o
  exact h.run (o.lend j g r) (h.mono _ _ _ (fun x z c H' fp' s f n=>z c H' fp' s f n.any) p)⟩
theorem uR(i j g:Nat)(h:ER K [] te de):ER K Γ te (Lo i j g de) :=
 ⟨fun δ P m k q=>q.mono fun y z=>h.mono _ _ _ k z,fun o q=>by
  obtain ⟨y,v,fp,p,f,c,r⟩:=q.out o
  exact h.run (o.lend f c r) p⟩
def MU(i f c:Nat)(d:DT)(δ:Dl)(P:Bool->Prop):Prop:=Fu i f c δ fun y=>d (δ.set i (some y)) P
theorem Ep(i m j:Nat)(h:TR K [] c dc):TR K Γ c (MU i m j dc) :=
 ⟨fun δ P n k q=>q.mono fun y z=>h.mono _ _ _ k z,fun o q=>by
  obtain ⟨y,v,fp,p,g,f,r⟩:=q.out o
  exact h.run (o.lend g f r) p⟩
def Nq(i:Nat)(C:Addr)(ns:List Str)(k:Nat)(δ:Dl)(P:DK):Prop:=∃s ds y,δ[i]?=some (some (.pin s (.ins C ns ds)))/\ds[k]?=some y/\P y
theorem KS(i:Nat)(ns:List Str)(k:Nat)(t:Cls K C)(hn:bB K C f)(hi:ns[k]?=some f:=by rfl)(hd:ns.Nodup:=by decide +kernel)(h:i∈Γ:=by decide):EM K Γ [i] (pQ K (bR i) f) (Nq i C ns k) :=
 ⟨fun δ P G n ⟨s,ds,y,e,c,q⟩=>⟨s,ds,y,e,c,n _ q⟩,fun {B0 fps δ σ H Q} o q=>by
  obtain ⟨s,ds,y,e,c,q⟩:=q
  obtain ⟨v,p,rfl,a,dx,xs,F,z,u,j,r⟩:=o.val i _ e
  cases z
  have nd:=(o.own i h).1
  rw[j] at nd
  obtain ⟨w,g,x,E,sub,B⟩:=r.Je (Om.mp nd).2 c
  have m:∀b∈g,b∈fps i:=fun b hb=>by rw[j];exact gV _ (sub b hb)
  exact⟨.ref s,p,s,C,dx,_,w,rfl,u,t,hn,aT hd hi x,q w H g (Same.refl H) E ⟨B,fun b hb=>((o.own i h).2 b (m b hb)).2,fun b hb=>.inr ⟨i,mo.mpr rfl,m b hb⟩⟩⟩⟩
theorem Rfs.setM{H:Hp}:∀{ds:List D}{xs:List V}{f:List Addr}{m:Nat}{d:D},Rfs K H ds xs f->f.Nodup->ds[m]?=some d ->
  ∃x g,xs[m]?=some x/\Rf K H d x g/\g.Nodup/\(∀a∈g,a∈f)/\∀(b:Addr) (H':Hp) (d':D),b∈g->(∀u,H b=some u->¬ Im u)->(∀a u,a≠b->H a=some u->H' a=some u)->Rf K H' d' x g->Rfs K H' (ds.set m d') xs f
 |[],_,_,_,_,_,_,e=>by simp at e
 |d::ds,xs,f,0,d',h,nd,e=>by
  obtain ⟨x,r,i,q,rfl,rfl,p,o⟩:=h
  obtain ⟨n1,n2,j⟩:=Ow.mp nd
  obtain rfl:d=d':=by simpa using e
  refine⟨x,i,rfl,p,n1,fun a ha=>Oq _ ha,fun b H' d' hb hm c hr=>⟨x,r,i,q,rfl,rfl,hr,o.mono (fun a ha u e=>c a u (fun z=>j b hb a ha z.symm) e) fun a u e n=>c a u (fun z=>hm u (z▸e) n) e⟩⟩
 |d::ds,xs,f,m+1,d',h,nd,e=>by
  obtain ⟨x,r,i,q,rfl,rfl,p,o⟩:=h
  obtain ⟨n1,n2,j⟩:=Ow.mp nd
  obtain ⟨y,g,e1,t,s,sub,k⟩:=Rfs.setM (m:=m) o n2 (by simpa using e)
  exact⟨y,g,by simpa using e1,t,s,fun a ha=>Fk _ (sub a ha),fun b H' d' hb hm c hr=>⟨x,r,i,q,rfl,rfl,p.mono (fun a ha u e=>c a u (fun z=>j a ha b (sub b hb) z) e) (fun a u e n=>c a u (fun z=>hm u (z▸e) n) e),k b H' d' hb hm c hr⟩⟩
theorem Ok.fld(o:Ok K B0 Γ fps δ σ H)(hi:i∈Γ)(e:δ[i]?=some (some (.pin s (.ins C ns ds))))(E:ds[k]?=some d) :
  ∃dx xs x g,σ[i]?=some (some (.ref s))/\H s=some (.ins C dx (ns.zip xs))/\xs[k]?=some x/\Rf K H d x g/\g.Nodup/\(∀a∈g,a∈fps i/\a≠s) /\
   ∀(b:Addr) (H':Hp) (d':D),b∈g->(∀a u,a≠b->H a=some u->H' a=some u)->Mu H' b->Rf K H' d' x g->Ok K B0 Γ (fun j=>if j=i then fps i else fps j) (δ.set i (some (.pin s (.ins C ns (ds.set k d'))))) σ H':=by
 obtain ⟨v,p,rfl,a,dx,xs,B,F,q,h,r⟩:=o.val i _ e
 cases F
 have own:=o.own i hi
 rw[h] at own
 obtain ⟨nd,mu⟩:=own
 obtain ⟨n1,n2⟩:=Om.mp nd
 obtain ⟨x,g,ex,rg,ng,sub,M⟩:=r.setM n2 E
 refine⟨dx,xs,x,g,p,q,ex,rg,ng,fun a ha=>⟨by rw[h];exact gV _ (sub a ha),fun z=>n1 (z▸sub a ha)⟩,fun b H' d' hb f J hr=>?_⟩
 have bs:s≠b:=fun z=>n1 (by rw[z];exact sub b hb)
 have I:∀u,H b=some u->¬ Im u:=(mu b (gV _ (sub b hb))).2.mx
 have G:∀c∈fps i,Mu H' c:=fun c n=>by
  by_cases m:c=b
  .rw[m];exact J
  .rcases (mu c (by rw[<- h];exact n)).2 with ⟨y,z⟩|⟨y,z⟩|⟨y,z⟩|⟨O,L,fs,z⟩
   .exact .inl ⟨y,f _ _ m z⟩
   .exact .inr (.inl ⟨y,f _ _ m z⟩)
   .exact .inr (.inr (.inl ⟨y,f _ _ m z⟩))
   .exact .inr (.inr (.inr ⟨O,L,fs,f _ _ m z⟩))
 refine o.write hi (d':=.pin s (.ins C ns (ds.set k d'))) (fp':=fps i) p ⟨rfl,s,dx,xs,B,rfl,f _ _ bs q,h,M b H' d' hb I f hr⟩ (by rw[h];exact nd) G (fun a ha=>.inl ha) fun c u n t=>f c u (fun z=>n (by rw[z,h];exact gV _ (sub b hb))) t
theorem Im.nt(c:Im u):NT u:=by rcases c with ⟨_,rfl⟩|⟨_,_,rfl⟩|⟨_,_,rfl⟩<;>trivial
theorem Rfs.Lr{H:Hp}:∀{ds:List D}{xs:List V}{f:List Addr}{m:Nat}{d:D},Rfs K H ds xs f->f.Nodup->ds[m]?=some d ->
  ∃x g,xs[m]?=some x/\Rf K H d x g/\g.Nodup/\(∀a∈g,a∈f)/\∀(b:Addr) (H':Hp) (d':D),b∈g->(∀u,H b=some u->¬ Im u)->(∀a u,a≠b->H a=some u->NT u->H' a=some u)->Rf K H' d' x g->Rfs K H' (ds.set m d') xs f
 |[],_,_,_,_,_,_,e=>by simp at e
 |d::ds,xs,f,0,d',h,nd,e=>by
  obtain ⟨x,r,j,s,rfl,rfl,q,p⟩:=h
  obtain ⟨n1,n2,o⟩:=Ow.mp nd
  obtain rfl:d=d':=by simpa using e
  refine⟨x,j,rfl,q,n1,fun a ha=>Oq _ ha,fun b H' d' hb hm c hr=>⟨x,r,j,s,rfl,rfl,hr,p.mF (fun a ha u e n=>c a u (fun z=>o b hb a ha z.symm) e n) fun a u e i=>c a u (fun z=>hm u (z▸e) i) e i.nt⟩⟩
 |d::ds,xs,f,m+1,d',h,nd,e=>by
  obtain ⟨x,r,j,s,rfl,rfl,q,p⟩:=h
  obtain ⟨n1,n2,o⟩:=Ow.mp nd
  obtain ⟨y,g,e1,v,t,sub,k⟩:=Rfs.Lr (m:=m) p n2 (by simpa using e)
  exact⟨y,g,by simpa using e1,v,t,fun a ha=>Fk _ (sub a ha),fun b H' d' hb hm c hr=>⟨x,r,j,s,rfl,rfl,q.mF (fun a ha u e n=>c a u (fun z=>o a ha b (sub b hb) z) e n) (fun a u e i=>c a u (fun z=>hm u (z▸e) i) e i.nt),k b H' d' hb hm c hr⟩⟩
theorem Ok.Ob(o:Ok K B0 Γ fps δ σ H)(hi:i∈Γ)(e:δ[i]?=some (some (.pin s (.ins C ns ds))))(G:ds[k]?=some d) :
  ∃dx xs x g,σ[i]?=some (some (.ref s))/\H s=some (.ins C dx (ns.zip xs))/\xs[k]?=some x/\Rf K H d x g/\g.Nodup/\(∀a∈g,a∈fps i/\a≠s) /\
   ∀(b:Addr) (H':Hp) (d':D),b∈g->SB K B0 H'->(∀a u,a≠b->H a=some u->NT u->H' a=some u)->Mu H' b->Rf K H' d' x g->Ok K B0 Γ (fun j=>if j=i then fps i else fps j) (δ.set i (some (.pin s (.ins C ns (ds.set k d'))))) σ H':=by
 obtain ⟨v,q,rfl,a,dx,xs,F,I,t,h,r⟩:=o.val i _ e
 cases I
 have own:=o.own i hi
 rw[h] at own
 obtain ⟨nd,mu⟩:=own
 obtain ⟨n1,n2⟩:=Om.mp nd
 obtain ⟨x,g,ex,rg,ng,sub,P⟩:=r.Lr n2 G
 refine⟨dx,xs,x,g,q,t,ex,rg,ng,fun a ha=>⟨by rw[h];exact gV _ (sub a ha),fun z=>n1 (z▸sub a ha)⟩,fun b H' d' hb B f M hr=>?_⟩
 have bs:s≠b:=fun z=>n1 (by rw[z];exact sub b hb)
 have L:∀u,H b=some u->¬ Im u:=(mu b (gV _ (sub b hb))).2.mx
 have J:∀c∈fps i,Mu H' c:=fun c p=>by
  by_cases m:c=b
  .rw[m];exact M
  .rcases (mu c (by rw[<- h];exact p)).2 with ⟨y,z⟩|⟨y,z⟩|⟨y,z⟩|⟨Q,O,fs,z⟩
   .exact .inl ⟨y,f _ _ m z trivial⟩
   .exact .inr (.inl ⟨y,f _ _ m z trivial⟩)
   .exact .inr (.inr (.inl ⟨y,f _ _ m z trivial⟩))
   .exact .inr (.inr (.inr ⟨Q,O,fs,f _ _ m z trivial⟩))
 refine o.CS hi (d':=.pin s (.ins C ns (ds.set k d'))) (fp':=fps i) q ⟨rfl,s,dx,xs,F,rfl,f _ _ bs t trivial,h,P b H' d' hb L f hr⟩ (by rw[h];exact nd) J (fun a ha=>.inl ha) B fun c u p E n=>f c u (fun z=>p (by rw[z,h];exact gV _ (sub b hb))) E n
theorem Ok.HB(o:Ok K B0 Γ fps δ σ H)(hi:i∈Γ)(hb:b∈fps i):Same B0 (fun a=>if a=b then none else H a)/\Same (fun a=>if a=b then none else H a) H:=by
 have key:∀a u,B0 a=some u->a≠b:=fun a u e z=>by
  have:=((o.own i hi).2 b hb).1
  rw[z,this] at e;cases e
 refine⟨⟨fun b u e n=>?_,fun b ps e=>?_,fun P t=>?_⟩,Same.all fun c u e=>?_⟩
 .show (if _ then _ else _)=_
  rw[if_neg (key b u e)]
  exact o.b0.st b u e n
 .obtain ⟨f,z⟩:=o.b0.tb b ps e
  refine⟨f,?_⟩
  show (if _ then _ else _)=_
  rw[if_neg (key b _ e)];exact z
 .obtain ⟨s,q,_⟩:=id t
  obtain ⟨ps,e,p,m⟩:=o.b0.ti P t
  refine⟨ps,?_,p,fun pos r z=>?_⟩
  .show (if _ then _ else _)=_
   rw[if_neg (key P _ q)];exact e
  .obtain ⟨c,h,g⟩:=m pos r z
   refine⟨c,h,?_⟩
   show (if _ then _ else _)=_
   rw[if_neg (fun j=>AJ g (by rw[j];exact ((o.own i hi).2 b hb).2))];exact g
 .by_cases z:c=b
  .simp only[if_pos z] at e;cases e
  .simp only[if_neg z] at e;exact e
theorem Ef{es:List D}{j:Nat}{x:D}:(es.set j x).map D.toV=(es.map D.toV).set j x.toV:=QV
theorem Es{es:List D}{j:Nat}{x:D}(h:es.all D.ax=true)(f:x.ax=true):(es.set j x).all D.ax=true:=by
 rw[OP] at h ⊢
 intro y c
 rcases Qq c with z|z
 .exact h y z
 .rw[z];exact f
def NL(i:Nat)(C:Addr)(ns:List Str)(k:Nat)(c dx:DE)(E:aZ)(δ:Dl):Prop:=∃s ds es,δ[i]?=some (some (.pin s (.ins C ns ds)))/\ds[k]?=some (.lst es)/\es.all D.ax=true /\
 c δ fun x=>x.ax=true/\dx δ fun y=>asI [y] fun m=>∃j,ixN es.length m=some j/\E.nx (δ.set i (some (.pin s (.ins C ns (ds.set k (.lst (es.set j x)))))))
theorem EX(i:Nat)(ns:List Str)(k:Nat)(T:Cls K C)(hn:bB K C f)(F:ER K Γ te de)(t:ER K Γ tx dx)(p:ns[k]?=some f:=by rfl)(hd:ns.Nodup:=by decide +kernel)(hi:i∈Γ:=by decide) :
  ST K ρ Γr Γl (j3 te (BE (pQ K (bR i) f) tx yJ)) Γ Γ (NL i C ns k de dx):=by
 intro B0 Dn E fps δ σ H P o h
 obtain ⟨s,ds,es,e,I,B,h⟩:=h
 refine F.run o (F.mono _ _ _ (fun x z v H1 c n=>?_) h)
 obtain ⟨q,z⟩:=z
 obtain ⟨Y5,n⟩:=n
 obtain ⟨rfl,_⟩:=n.ax q
 obtain ⟨RJ,xs,w,g,Q,G,hw,_⟩:=(o.same c).fld hi e I
 refine⟨.ref s,Q,s,C,RJ,_,w,rfl,G,T,hn,aT hd p hw,t.run (o.same c) (t.mono _ _ _ (fun y z u H2 r M=>?_) z)⟩
 obtain ⟨m,rfl,j,Y,z⟩:=bF z
 have O:=(o.same c).same r
 obtain ⟨Za,Ua,J,g2,VT,UD,Z,rg,ng,Wa,KK⟩:=O.fld hi e I
 have U:ns.zip xs=ns.zip Ua:=by
  have:=(r.st _ _ G trivial).symm.trans UD
  injection this with this
  injection this
 have X:w=J:=by
  have l1:=aT hd p hw
  have l2:=aT hd p Z
  rw[U,l2] at l1
  exact (OJ l1).symm
 subst X
 obtain ⟨b,ys,fq,rfl,hb,rfl,L⟩:=id rg
 obtain ⟨rfl,rfl⟩:=L.gS B
 refine⟨b,_,m,j,rfl,M.int,hb,by rw[dz];exact Y,?_⟩
 rw[<- Ef]
 exact P.nx (KK b _ (.lst (es.set j x)) k0 (fun a u ha R=>by rw[au ha];exact R) (.inl ⟨_,aq⟩) ⟨b,_,[],rfl,aq,rfl,Rfs.qr (Es B q)⟩) z
def MO(i:Nat)(C:Addr)(ns:List Str)(k:Nat)(dx c:DE)(E:aZ)(δ:Dl):Prop:=∃s ds kvs,δ[i]?=some (some (.pin s (.ins C ns ds)))/\ds[k]?=some (.dic kvs) /\
 c δ fun x=>x.ax=true/\dx δ fun y=>asI [y] fun n=>kvs.length<1000/\E.nx (δ.set i (some (.pin s (.ins C ns (ds.set k (.dic (putK kvs (.inl n) x.toV)))))))
theorem GX(i:Nat)(ns:List Str)(k:Nat)(R:Cls K C)(hn:bB K C f)(t:ER K Γ tx dx)(B:ER K Γ te de)(p:ns[k]?=some f:=by rfl)(hd:ns.Nodup:=by decide +kernel)(hi:i∈Γ:=by decide) :
  ST K ρ Γr Γl (GR (pQ K (bR i) f) tx te) Γ Γ (MO i C ns k dx de):=by
 intro B0 Dn E fps δ σ H M o h
 obtain ⟨s,ds,kvs,e,G,h⟩:=h
 refine B.run o (B.mono _ _ _ (fun x z v H1 c j=>?_) h)
 obtain ⟨q,z⟩:=z
 obtain ⟨Y5,j⟩:=j
 obtain ⟨rfl,_⟩:=j.ax q
 obtain ⟨RJ,xs,w,g,O,F,hw,_⟩:=(o.same c).fld hi e G
 refine⟨.ref s,O,s,C,RJ,_,w,rfl,F,R,hn,aT hd p hw,t.run (o.same c) (t.mono _ _ _ (fun y z u H2 r J=>?_) z)⟩
 obtain ⟨n,rfl,Q,z⟩:=bF z
 have L:=(o.same c).same r
 obtain ⟨Za,Y,I,g2,VT,Z,X,rg,ng,Wa,KK⟩:=L.fld hi e G
 have T:ns.zip xs=ns.zip Y:=by
  have:=(r.st _ _ F trivial).symm.trans Z
  injection this with this
  injection this
 have U:w=I:=by
  have l1:=aT hd p hw
  have l2:=aT hd p X
  rw[T,l2] at l1
  exact (OJ l1).symm
 subst U
 obtain ⟨b,rfl,hb,m,rfl⟩:=id rg
 refine⟨b,upd H2 b (.dK (putK kvs (.inl n) x.toV)),rfl,?_,M.nx (KK b _ (.dic (putK kvs (.inl n) x.toV)) k0 (fun a u ha P=>by rw[au ha];exact P) (.inr (.inl ⟨_,aq⟩)) ⟨b,rfl,aq,yk m (jm q),rfl⟩) z⟩
 rw[J.int]
 exact GL.k (k:=Sum.inl n) hb (yc (QF Q))
theorem BU{v:V}:∀{ns:List Str}{xs:List V}{k:Nat}{f:Str},ns.Nodup->ns[k]?=some f->k<xs.length->kJ f v (ns.zip xs)=ns.zip (xs.set k v)
 |[],_,k,f,_,e,_=>by simp at e
 |_::_,[],k,f,_,_,h=>by simp at h
 |n::ns,x::xs,0,f,hd,e,h=>by
  obtain rfl:n=f:=by simpa using e
  rw[QB,kJ,if_pos rfl];rfl
 |n::ns,x::xs,k+1,f,hd,e,h=>by
  obtain ⟨i,g⟩:=Om.mp hd
  have c:ns[k]?=some f:=by simpa using e
  have j:n≠f:=fun z=>i (by rw[z];exact OV c)
  rw[QB,kJ,if_neg j,BU g c (by simpa using h)];rfl
def NS(i:Nat)(C:Addr)(ns:List Str)(k:Nat)(c:DE)(E:aZ)(δ:Dl):Prop:=∃s ds y,δ[i]?=some (some (.pin s (.ins C ns ds)))/\ds[k]?=some y/\y.ax=true /\
 c δ fun x=>x.ax=true/\E.nx (δ.set i (some (.pin s (.ins C ns (ds.set k x)))))
theorem Rfs.N0{H H':Hp}{x:D}(n:x.ax=true):∀{ds:List D}{xs:List V}{c:List Addr}{k:Nat}{y:D},Rfs K H ds xs c->ds[k]?=some y->y.ax=true->(∀a∈c,∀o,H a=some o->H' a=some o)->(∀a o,H a=some o->Im o->H' a=some o)->Rfs K H' (ds.set k x) (xs.set k x.toV) c
 |[],_,_,_,_,_,e,_,_,_=>by simp at e
 |d::ds,xs,c,0,y,h,e,g,k1,f=>by
  obtain ⟨w,r,p,m,rfl,rfl,j,i⟩:=h
  obtain rfl:d=y:=by simpa using e
  obtain ⟨_,rfl⟩:=j.ax g
  exact⟨x.toV,r,[],m,rfl,rfl,Rf.sk n,i.mono (fun a ha=>k1 a (by simpa using ha)) f⟩
 |d::ds,xs,c,k+1,y,h,e,g,k1,f=>by
  obtain ⟨w,r,p,m,rfl,rfl,j,i⟩:=h
  exact⟨w,r.set k x.toV,p,m,rfl,rfl,j.mono (fun a ha=>k1 a (Oq _ ha)) f,Rfs.N0 n i (by simpa using e) g (fun a ha=>k1 a (Fk _ ha)) f⟩
theorem K6(i:Nat)(ns:List Str)(k:Nat)(g:Cls K C)(hn:bB K C f)(B:ER K Γ te de)(P:ns[k]?=some f:=by rfl)(hd:ns.Nodup:=by decide +kernel)(X:ns.length<=100:=by decide)(hi:i∈Γ:=by decide) :
  ST K ρ Γr Γl (Dy K (bR i) te f) Γ Γ (NS i C ns k de):=by
 intro B0 Dn E fps δ σ H J o h
 obtain ⟨s,ds,y,e,F,M,h⟩:=h
 refine B.run o (B.mono _ _ _ (fun x z v G I n=>?_) h)
 obtain ⟨q,z⟩:=z
 obtain ⟨Y,n⟩:=n
 obtain ⟨rfl,_⟩:=n.ax q
 have p:=o.same I
 obtain ⟨v,t,rfl,a,dx,xs,R,T,Q,m,r⟩:=p.val i _ e
 cases T
 have own:=p.own i hi
 rw[m] at own
 obtain ⟨nd,mu⟩:=own
 obtain ⟨n1,n2⟩:=Om.mp nd
 have O:k<xs.length:=by rw[r.length];exact (oe.mp F).1
 refine⟨.ref s,t,s,C,dx,_,rfl,Q,g,hn,by rw[List.length_zip];omega,?_⟩
 rw[BU hd P O]
 have keep:∀c u,c≠s->G c=some u->upd G s (.ins C dx (ns.zip (xs.set k x.toV))) c=some u:=fun c u g j=>by rw[au g];exact j
 have U:=(mu s k0).2.mx
 refine J.nx (p.write hi (d':=.pin s (.ins C ns (ds.set k x))) (fp':=fps i) t ⟨rfl,s,dx,_,R,rfl,aq,m,r.N0 q F M (fun c g u j=>keep c u (fun z=>n1 (z▸g)) j) fun c u j L=>keep c u (fun z=>U u (z▸j) L) j⟩ (by rw[m];exact nd) (fun c g=>?_) (fun c g=>.inl g) fun c u g j=>keep c u (fun z=>g (by rw[z,m];exact k0)) j) z
 exact (mu c (by rw[<- m];exact g)).2.upd (.inr (.inr (.inr ⟨_,_,_,rfl⟩)))
end
section
variable {K:aae}{ρ:Bool}{Γr Γl Γ Γn:aad}{te ta t1 t2:TE}{de da dx d1 d2:DE}
variable {B0:Hp}{fps:Nat->List Addr}{δ:Dl}{σ:St}{H:Hp}{C:Addr}{f:Str}
def NG(i h g j:Nat)(C:Addr)(ns:List Str)(k:Nat)(d1 n d2:DE)(E:aZ)(δ:Dl):Prop:=∃s ds c,δ[i]?=some (some (.pin s (.ins C ns ds)))/\ds[k]?=some (.lst c)/\j<δ.length /\
 Fu i h g δ fun y=>d1 (δ.set i (some y)) fun z=>asI [z] fun m=>∃r es,ixN c.length m=some r/\c[r]?=some (.lst es)/\es.all D.ax=true /\
  n ((δ.set i (some y)).set j (some (.lst es))) fun x=>x.ax=true/\d2 ((δ.set i (some y)).set j (some (.lst es))) fun z=>asI [z] fun f=>∃q,ixN es.length f=some q /\
   E.nx ((δ.set j none).set i (some (.pin s (.ins C ns (ds.set k (.lst (c.set r (.lst (es.set q x)))))))))
theorem Ok.look(o:Ok K B0 Γ fps δ σ H)(c:j<δ.length)(r:Rf K H y v fp) :
  Ok K H [] (fun l=>if l=j then fp else fps l) (δ.set j (some y)) (σ.set j (some v)) H:=by
 refine⟨by rw[OS,OS];exact o.len,SB.refl o.b0.now,fun l d e=>?_,fun l q=>?_,fun _ h=>(nomatch h),fun _ h=>(nomatch h)⟩
 .by_cases hj:l=j
  .subst hj
   rw[OD c] at e;cases e
   exact⟨v,OD (by rw[o.len];exact c),by show Rf K H y v (if l=l then fp else fps l);rw[if_pos rfl];exact r⟩
  .rw[Gc (OT hj)] at e
   rw[Gc (OT hj)]
   show ∃v,_/\Rf K H d v (if l=j then fp else fps l)
   rw[if_neg hj]
   exact o.val l d e
 .by_cases hj:l=j
  .subst hj;exact absurd (OD c) (q y)
  .show (if l=j then fp else fps l)=[]
   rw[if_neg hj]
   exact o.non l fun d z=>q d (by rw[Gc (OT hj)];exact z)
theorem KJ(i g1 g2 j:Nat)(ns:List Str)(k:Nat)(hc:Cls K C)(hn:bB K C f)(h1:ER K [] t1 d1)(he:ER K [] te de)(h2:ER K [] t2 d2)(p:ns[k]?=some f:=by rfl)(hd:ns.Nodup:=by decide +kernel)(hi:i∈Γ:=by decide)(hj:j∉Γ:=by decide)(TX:i≠j:=by decide) :
  ST K ρ Γr Γl (zt (j3 (tOp (x9 K) (pQ K (bR i) f) t1) (dZ j)) (j3 te (BE (bR j) t2 yJ))) Γ Γ (NG i g1 g2 j C ns k d1 de d2):=by
 intro B0 Dn E fps δ σ H kk o h
 obtain ⟨s,ds,n,e,R,Uv,h⟩:=h
 obtain ⟨y,vy,fy,h,TV,Yv,ry⟩:=h.out o
 obtain ⟨RJ,xs,w,g,hv,hH,hw,_⟩:=o.fld hi e R
 refine⟨.ref s,hv,s,C,RJ,_,w,rfl,hH,hc,hn,aT hd p hw,h1.run (o.lend TV Yv ry) (h1.mono _ _ _ (fun z q u H2 F r2=>?_) h)⟩
 obtain ⟨m,rfl,r,es,er,Y8,L,q⟩:=bF q
 have I:=o.same F
 obtain ⟨Za,Ua,w2,g2,VT,UD,Uk,rg,ng,Wa,KK⟩:=I.fld hi e R
 have ez:ns.zip xs=ns.zip Ua:=by
  have:=(F.st _ _ hH trivial).symm.trans UD
  injection this with this
  injection this
 have ew:w=w2:=by
  have l1:=aT hd p hw
  have l2:=aT hd p Uk
  rw[ez,l2] at l1
  exact (OJ l1).symm
 subst ew
 obtain ⟨b,ys,fq,rfl,hb,rfl,Z⟩:=id rg
 obtain ⟨nb,nq⟩:=Om.mp ng
 obtain ⟨x,gx,ex,rx,nx,sub,KK2⟩:=Z.setM nq Y8
 obtain ⟨c,zs,fz,rfl,hcH,rfl,rz⟩:=id rx
 obtain ⟨rfl,rfl⟩:=rz.gS L
 refine⟨b,ys,m,.ref c,rfl,r2.int,.inl (.inl hb),by unfold atI;rw[Z.length,er];exact ex,?_⟩
 have oL:=(I.lend TV Yv (ry.same F)).look (j:=j) (by rw[OS];exact Uv) rx
 show j3 te (BE (bR j) t2 yJ) Dn (σ.set j (some (.ref c))) H2
 refine he.run oL (he.mono _ _ _ (fun x z v H3 Y G=>?_) q)
 obtain ⟨QT,z⟩:=z
 obtain ⟨fp3,G⟩:=G
 obtain ⟨rfl,_⟩:=G.ax QT
 have Xu:j<σ.length:=by rw[o.len];exact Uv
 refine⟨.ref c,OD Xu,h2.run (oL.same Y |>.sub fun _ h=>h) (h2.mono _ _ _ (fun y2 z u2 X s4 r4=>?_) z)⟩
 obtain ⟨m2,rfl,q,eq,z⟩:=bF z
 have B:=Y.trans s4
 have o4:=I.same B
 have o5:=o4.LD (σ':=σ.set j (some (.ref c))) j hj (by rw[OS]) (fun l hl=>Gc (OT hl))
 have Q:(δ.set j none)[i]?=some (some (.pin s (.ins C ns ds))):=by rw[Gc (OT TX)];exact e
 obtain ⟨dx5,Zq,w5,g5,hv5,M,J,ZF,ZU,aby,U⟩:=o5.fld hi Q R
 have O:ns.zip Ua=ns.zip Zq:=by
  have:=(B.st _ _ UD trivial).symm.trans M
  injection this with this
  injection this
 have P:V.ref b=w5:=by
  have l1:=aT hd p Uk
  have l2:=aT hd p J
  rw[O,l2] at l1
  exact (OJ l1).symm
 subst P
 obtain ⟨b',ys5,Y4,eb,YQ,rfl,ZD⟩:=id ZF
 cases eb
 rw[B.st _ _ hb trivial] at YQ;cases YQ
 obtain ⟨Z1,ZR⟩:=Om.mp ZU
 obtain ⟨x5,gx5,Y6,ZA,nx5,Wi,T⟩:=ZD.setM ZR Y8
 rw[ex] at Y6;cases Y6
 obtain ⟨c',zs5,fz5,ec,YN,rfl,Zz⟩:=id ZA
 cases ec
 obtain ⟨rfl,rfl⟩:=Zz.gS L
 refine⟨c,_,m2,q,rfl,r4.int,YN,by rw[dz];exact eq,?_⟩
 rw[<- Ef]
 have Zc:c∈Y4:=Wi c k0
 have cb:b≠c:=fun z=>Z1 (by rw[z];exact Zc)
 have keep:∀a u,a≠c->X a=some u->upd X c (.lst ((es.set q x).map D.toV)) a=some u:=fun a u ha t=>by rw[au ha];exact t
 have Tw:∀u,X c=some u->¬ Im u:=fun u t im=>by rw[YN] at t;cases t;rcases im with ⟨_,z⟩|⟨_,_,z⟩|⟨_,_,z⟩<;>cases z
 refine kk.nx (U c _ (.lst (n.set r (.lst (es.set q x)))) (gV _ Zc) keep (.inl ⟨_,aq⟩) ⟨b,ys,Y4,rfl,keep _ _ cb (B.st _ _ hb trivial),rfl,T c _ _ k0 Tw keep ⟨c,_,[],rfl,aq,rfl,Rfs.qr (Es L QT)⟩⟩) z
def LX(j i n m:Nat)(C:Addr)(ns:List Str)(k:Nat)(S:DSI)(E:aZ)(δ:Dl):Prop:=∃s ds kvs f c,δ[i]?=some (some (.pin s (.ins C ns ds)))/\ds[k]?=some (.dic kvs)/\δ[n]?=some (some f)/\δ[m]?=some (some c) /\
 S [f,c,.dic kvs] fun r h=>∃g,h=.dic g/\E.nx ((δ.set i (some (.pin s (.ins C ns (ds.set k (.dic g)))))).set j (some r))
theorem A1(j i m c:Nat)(ns:List Str)(k:Nat)(hS:HP S)(hc:Cls K C)(hn:bB K C f)(hf:ns[k]?=some f:=by rfl)(hd:ns.Nodup:=by decide +kernel)(hi:i∈Γ:=by decide)(hj:j∉Γ:=by decide)(h1:m≠i:=by decide)(h2:c≠i:=by decide) :
  ST K ρ Γr Γl (j3 (tX (spI K 2 S) [] Ex (bx (bR m) (bx (bR c) (bx (pQ K (bR i) f) gT)))) (dZ j)) Γ Γ (LX j i m c C ns k S):=by
 intro B0 Dn E fps δ σ H X o h
 obtain ⟨s,ds,kvs,M,L,e,ek,e1,e2,h⟩:=h
 obtain ⟨v1,y,Q⟩:=o.val m _ e1
 obtain ⟨F,VT,P⟩:=o.val c _ e2
 obtain ⟨RJ,xs,w,g,Y,hH,hw,rg,ng,Wa,KK⟩:=o.Ob hi e ek
 obtain ⟨b,rfl,hb,To,rfl⟩:=id rg
 have t:=(Wa b k0).1
 have Z7:=((o.own i hi).2 b t).2
 have d1:b∉fps m:=o.dj i hi m h1 b t
 have d2:b∉fps c:=o.dj i hi c h2 b t
 refine⟨v1,y,F,VT,.ref s,Y,s,C,RJ,_,.ref b,rfl,hH,hc,hn,aT hd hf hw,?_⟩
 refine⟨fun a=>if a=b then none else H a,(fun l=>match l with|0=>fps m|1=>fps c|2=>[b]|_=>[]),[M,L,.dic kvs],⟨rfl,⟨(o.HB hi t).2,o.b0.tv.same (o.HB hi t).1⟩,fun l d q=>?_,fun l q=>?_,fun l p=>?_,fun l p l' Us a ha=>?_⟩,⟨b,rfl⟩,hS _ _ _ (fun r x' z=>?_) h⟩
 .match l,q with
  |0,q=>cases q;exact⟨v1,rfl,Q⟩
  |1,q=>cases q;exact⟨F,rfl,P⟩
  |2,q=>cases q;exact⟨_,rfl,rg⟩
  |l+3,q=>simp at q
 .match l,q with
  |0,q=>exact absurd rfl (q _)
  |1,q=>exact absurd rfl (q _)
  |2,q=>exact absurd rfl (q _)
  |l+3,q=>rfl
 .cases mo.mp p
  refine⟨by simp,fun a ha=>?_⟩
  cases mo.mp ha
  exact⟨if_pos rfl,Z7⟩
 .cases mo.mp p
  cases mo.mp ha
  match l',Us with
  |0,_=>exact d1
  |1,_=>exact d2
  |2,z=>exact absurd rfl z
  |l+3,_=>exact OF
 .obtain ⟨S4,rfl,z⟩:=z
  intro w H' fp' fpw v G x O nb fb RE nw fw
  cases x
  obtain ⟨b',eb,J,Xy,rfl⟩:=id O
  cases eb
  have keep:∀a u,a≠b->H a=some u->NT u->H' a=some u:=fun a u ha Z n=>G.st a u (by show (if a=b then none else H a)=_;rw[if_neg ha];exact Z) n
  have U:=KK b H' (.dic S4) k0 ⟨(o.HB hi t).1.trans G,o.b0.tv⟩ keep (.inr (.inl ⟨_,J⟩)) ⟨b,rfl,J,Xy,rfl⟩
  refine X.nx ((U.wH j (Same.refl H') RE fun l p a ha q=>?_).sub fun l p=>bE.mpr ⟨p,fun z=>hj (by rw[<- mo.mp z];exact p)⟩) z
  obtain ⟨R,q2,q3⟩:=fw a ha
  have Rw:a≠b:=fun z=>q3 (by rw[z];exact k0)
  have I:(if a=b then none else H a)=none:=R
  rw[if_neg Rw] at I
  have T:a∈fps l:=by
   have:a∈(if l=i then fps i else fps l):=q
   by_cases B:l=i
   .rw[if_pos B] at this;rw[B];exact this
   .rw[if_neg B] at this;exact this
  exact o.dom T I
abbrev DSG:=D->List D->Addr × D->Addr × D->(D->Prop)->Prop
def Ih(S:DSG):Prop:=∀x ds g1 g2 (P c:D->Prop),(∀z,P z->c z)->S x ds g1 g2 P->S x ds g1 g2 c
def spG(K:aae)(S:DSG):Sp:=fun vs H Q _=>∃(B:Hp) (s:Addr) (x:D) (g:List Addr) (ws:List V) (ds:List D) (f c:Addr × D),vs=.ref s::ws/\SB K B H/\Rf K H x (.ref s) g/\g.Nodup/\(∀a∈g,B a=none/\Mu H a)/\Rps K B ds ws/\Rp K B f.2 (.ref f.1)/\Rp K B c.2 (.ref c.1) /\
 S x ds f c fun h=>∀H' fp',Same B H'->Rf K H' h (.ref s) fp'->fp'.Nodup->(∀b∈fp',B b=none/\Mu H' b)->Q .non H'
theorem JI(h:∀x ds f c P,S x ds f c P->ds.length+1=n)(k:spG K S vs H Q E):vs.length=n:=by
 obtain ⟨B,s,x,i,ws,ds,f,c,rfl,_,_,_,_,⟨fp,r⟩,_,_,g⟩:=k
 rw[H0,r.length,h _ _ _ _ _ g]
def N5(i g f:Nat)(C:Addr)(m:Str)(S:DSG)(h:DA)(E:aZ)(δ:Dl):Prop:=∃s ns ds a1 a2 e1 e2,δ[i]?=some (some (.pin s (.ins C ns ds)))/\δ[g]?=some (some (.pin a1 e1))/\δ[f]?=some (some (.pin a2 e2))/\m∉ns /\
 h δ fun xs=>S (.ins C ns ds) xs (a1,e1) (a2,e2) fun c=>E.nx (δ.set i (some (.pin s c)))
theorem JO(i x t:Nat)(Z:Ih S)(hr:AS K Γ w dr)(hi:i∈Γ:=by decide)(n1:x≠i:=by decide)(n2:t≠i:=by decide) :
  ST K ρ Γr Γl (yR (Bm C m (spG K S) [] Ex (bR i) w)) Γ Γ (N5 i x t C m S dr):=by
 intro B0 Dn E fps δ σ H U o h
 obtain ⟨s,ns,ds,a1,a2,e1,e2,e,G,F,hm,h⟩:=h
 obtain ⟨v,B,rfl,a,dx,xs,fq,ea,hH,ef,r⟩:=o.val i _ e
 cases ea
 refine⟨.ref s,B,s,dx,_,rfl,hH,eR hm,hr.run o (hr.mono _ _ _ (fun ys z vs p fp Q R Z6=>?_) h)⟩
 have c:=o.same Q
 obtain ⟨v',O,T⟩:=c.val i _ e
 rw[B] at O;cases O
 obtain ⟨w1,_,rfl,k1⟩:=c.val x _ G
 obtain ⟨w2,_,rfl,X⟩:=c.val t _ F
 have own:=c.own i hi
 have L:∀{d:D}{v:V}{g:List Addr},Rf K p d v g->(∀a∈g,a∉fps i)->Rf K (fun a=>if a∈fps i then none else p a) d v g:=fun hr hd=>hr.mono (fun a ha u f=>by rw[if_neg (hd a ha)];exact f) fun a u f y=>by
  rw[if_neg (fun z=>(own.2 a z).2.mx u f y)];exact f
 have Wh:Rfs K (fun a=>if a∈fps i then none else p a) ys vs fp:=R.mono (fun a ha u f=>by rw[if_neg (Z6 i hi a ha)];exact f) fun a u f y=>by
  rw[if_neg (fun z=>(own.2 a z).2.mx u f y)];exact f
 refine⟨fun a=>if a∈fps i then none else p a,s,.ins C ns ds,fps i,vs,ys,(a1,e1),(a2,e2),by rw[Pb],⟨(c.less hi).2,c.b0.tv.same (c.less hi).1⟩,T.2,own.1,fun a ha=>⟨if_pos ha,(own.2 a ha).2⟩,⟨fp,Wh⟩,⟨_,L k1 fun a ha=>fun z=>c.dj i hi x n1 a z ha⟩,⟨_,L X fun a ha=>fun z=>c.dj i hi t n2 a z ha⟩,Z _ _ _ _ _ _ (fun P z H' fp' I rx nx J=>?_) z⟩
 .refine U.nx (c.CS hi (d':=.pin s P) (fp':=fp') B ⟨rfl,rx⟩ nx (fun a ha=>(J a ha).2) (fun a ha=>?_) ⟨(c.less hi).1.trans I,c.b0.tv⟩ fun b u hb f n=>I.st b u (by show (if b∈fps i then none else p b)=_;rw[if_neg hb];exact f) n) z
  have:=(J a ha).1
  by_cases M:a∈fps i
  .exact .inl M
  .have q:(if a∈fps i then none else p a)=none:=this
   rw[if_neg M] at q
   exact .inr ⟨c.b0.free q,fun j Y=>c.dom Y q⟩
theorem Ok.Ld(o:Ok K B [] fps δ σ B)(r:Rp K B e (.ref a)):∃c,Ok K B [] c (δ++[some (.pin a e)]) (σ++[some (.ref a)]) B:=by
 obtain ⟨fp,r⟩:=r
 refine⟨fun j=>if j=δ.length then fp else fps j,by rw[Ox,Ox,o.len];rfl,o.b0,fun j d q=>?_,fun j q=>?_,fun _ h=>(nomatch h),fun _ h=>(nomatch h)⟩
 .by_cases hj:j=δ.length
  .subst hj
   rw[OI (Ol _),QU] at q
   cases q
   refine⟨.ref a,?_,rfl,?_⟩
   .rw[OI (Nat.le_of_eq o.len),o.len,QU];rfl
   .show Rf K B e (.ref a) (if δ.length=δ.length then fp else fps δ.length)
    rw[if_pos rfl];exact r
  .have f:j<δ.length:=by
    have:=(oe.mp q).1
    rw[Ox,PY] at this;omega
   rw[OE f] at q
   obtain ⟨v,g,rv⟩:=o.val j d q
   refine⟨v,?_,?_⟩
   .rw[OE (by rw[o.len];exact f)];exact g
   .show Rf K B d v (if j=δ.length then fp else fps j)
    rw[if_neg hj];exact rv
 .by_cases hj:j=δ.length
  .subst hj
   exact absurd (by rw[OI (Ol _),QU];rfl) (q (.pin a e))
  .show (if j=δ.length then fp else fps j)=[]
   rw[if_neg hj]
   refine o.non j fun d z=>q d ?_
   rw[OE (oe.mp z).1];exact z
theorem Ok.Na(o:Ok K B [] fps δ σ B)(g:SB K B H)(r:Rf K H x (.ref s) fx)(nd:fx.Nodup)(f:∀a∈fx,B a=none/\Mu H a):∃c,Ok K B [0] c (some (.pin s x)::δ) (some (.ref s)::σ) H:=by
 have h:=o.same g.toSame
 refine⟨fun j=>match j with|0=>fx|l+1=>fps l,by rw[H0,H0,o.len],g,fun j d q=>?_,fun j q=>?_,fun j hj=>?_,fun j hj l i a ha=>?_⟩
 .match j,q with
  |0,q=>cases q;exact⟨_,rfl,rfl,r⟩
  |l+1,q=>exact h.val l d (by simpa using q)
 .match j,q with
  |0,q=>exact absurd rfl (q _)
  |l+1,q=>exact o.non l fun d z=>q d (by simpa using z)
 .cases mo.mp hj
  exact⟨nd,f⟩
 .cases mo.mp hj
  match l,i with
  |0,z=>exact absurd rfl z
  |l+1,_=>exact fun z=>o.dom z (f a ha).1
abbrev xh(n:Nat)(s:Addr)(x:D)(ds:List D)(f c:Addr × D):Dl:=some (.pin s x)::(((ds.map some++List.replicate n none)++[some (.pin f.1 f.2)])++[some (.pin c.1 c.2)])
theorem yw(g:SB K B H)(r:Rf K H x (.ref s) fx)(nd:fx.Nodup)(j:∀a∈fx,B a=none/\Mu H a)(hr:Rps K B ds ws)(p:Rp K B g1.2 (.ref g1.1))(o:Rp K B g2.2 (.ref g2.1)) :
  ∃c,Ok K B [0] c (xh n s x ds g1 g2) (some (.ref s)::(((ws.map some++List.replicate n none)++[some (.ref g1.1)])++[some (.ref g2.1)])) H:=by
 have m:ws.length=ds.length:=let ⟨_,q⟩:=hr;q.length
 obtain ⟨t,f⟩:=nO (N:=List.replicate (ds.length+n) "") hr g.tv
 have e1:bA (List.replicate (ds.length+n) "") ds=ds.map some++List.replicate n none:=by
  unfold bA;rw[OH,Nat.add_sub_cancel_left]
 have e2:L2.start (List.replicate (ds.length+n) "") ws=ws.map some++List.replicate n none:=by
  unfold L2.start;rw[OH,m,Nat.add_sub_cancel_left]
 rw[e1,e2] at f
 obtain ⟨u,i⟩:=f.Ld p
 obtain ⟨v,h⟩:=i.Ld o
 exact h.Na g r nd j
abbrev Lc(s:Addr)(P:D->Prop):aZ:=⟨fun δ=>kd δ 0 fun a x=>a=s/\P x,fun _ _=>False,fun _=>False,fun _=>False⟩
def zF(G:aad)(t:TS):TS:=fun Dn σ H=>∃σ':St,σ'.length=σ.length/\(∀i,i∉G->σ'[i]?=σ[i]?)/\t Dn σ' H
theorem tY(hw:ws.length=m)(f:N.length=m+n+3)(g:G=[m+n+1,m+n+2]) :
  (some (V.ref s)::(((ws.map some++List.replicate n none)++[some (.ref a1)])++[some (.ref a2)])).length=(L2.start N (.ref s::ws)).length/\∀i,i∉G->(some (V.ref s)::(((ws.map some++List.replicate n none)++[some (.ref a1)])++[some (.ref a2)]))[i]?=(L2.start N (.ref s::ws))[i]?:=by
 subst g
 unfold L2.start
 have c:N.length - (V.ref s::ws).length=n+2:=by rw[H0,f,hw];omega
 rw[c]
 refine⟨by simp [hw],fun i hi=>?_⟩
 simp only[KE,OF,or_false,not_or] at hi
 cases i with
 |zero=>rfl
 |succ i =>
  show ((ws.map some++List.replicate n none)++[some (.ref a1)]++[some (.ref a2)])[i]?=(ws.map some++List.replicate (n+2) none)[i]?
  by_cases j:i<m
  .rw[OM,OM,OE (by rw[dz];omega),OE (by rw[dz];omega)]
  .by_cases h:i<m+n
   .rw[OM,OE (by rw[Ox,dz,OH];omega),OI (by rw[dz];omega),OI (by rw[dz];omega),O5,O5,if_pos (by rw[dz];omega),if_pos (by rw[dz];omega)]
   .rw[List.getElem?_eq_none (by simp [hw];omega),List.getElem?_eq_none (by simp [hw];omega)]
theorem Kk(m n:Nat)(y:ST K true [0] [] t [0] [0] d)(F:N.length=m+n+3)(I:G=[m+n+1,m+n+2])(hd:∀s x ds f c P,S x ds f c P->ds.length=m/\d (Lc s P) (xh n s x ds f c)) :
  ∀{vs H Q E},spG K S vs H Q E->zF G t { nx:=fun _ H'=>Q .non H',rt:=Q } (L2.start N vs) H:=by
 rintro vs H Q E ⟨B,s,x,T,ws,ds,f,c,rfl,p,rx,nx,M,hr,L,J,h⟩
 obtain ⟨C,q⟩:=hd s x ds f c _ h
 obtain ⟨j,o⟩:=yw (n:=n) p rx nx M hr L J
 have hw:ws.length=m:=by obtain ⟨_,r⟩:=hr;rw[r.length];exact C
 obtain ⟨e1,e2⟩:=tY (s:=s) (a1:=f.1) (a2:=c.1) hw F I
 refine⟨_,e1,e2,y (E:=Lc s _) ⟨fun {X U Y H'} g z=>?_,fun o (z:False)=>z.elim,fun o (z:False)=>z.elim,fun o r i (z:False)=>z.elim⟩ o q⟩
 obtain ⟨a,O,e,rfl,z⟩:=jk z
 obtain ⟨v,R,rfl,u⟩:=g.val 0 _ e
 have own:=g.own 0 (mo.mpr rfl)
 exact z H' _ g.b0.toSame u own.1 own.2
abbrev DSO:=D->Addr × D->Addr × D->DK->Prop
def Hq(S:DSO):Prop:=∀x g1 g2 (P c:DK),(∀z,P z->c z)->S x g1 g2 P->S x g1 g2 c
def spO(K:aae)(S:DSO):Sp:=fun vs H Q _=>∃(B:Hp) (s:Addr) (x:D) (g:List Addr) (f c:Addr × D),vs=[.ref s]/\SB K B H/\Rf K H x (.ref s) g/\g.Nodup/\(∀a∈g,B a=none/\Mu H a)/\Rp K B f.2 (.ref f.1)/\Rp K B c.2 (.ref c.1) /\
 S x f c fun r=>∀w H' fpw,Same B H'->Rf K H' r w fpw->fpw.Nodup->(∀a∈fpw,B a=none/\Mu H' a)->Q w H'
theorem JX(k:spO K S vs H Q E):vs.length=1:=by
 obtain ⟨B,s,x,g,f,c,rfl,_⟩:=k;rfl
theorem Kx(n:Nat)(p:ST K true [] [] t [0] Γn d)(F:N.length=n+3)(u:G=[n+1,n+2])(hd:∀s x f c P,S x f c P->d (lD P) (xh n s x [] f c)) :
  ∀{vs H Q E},spO K S vs H Q E->zF G t { nx:=fun _ H'=>Q .non H',rt:=Q } (L2.start N vs) H:=by
 rintro vs H Q E ⟨B,s,x,I,f,c,rfl,j,rx,nx,C,y,v,h⟩
 have q:=hd s x f c _ h
 obtain ⟨g,o⟩:=yw (n:=n) (ds:=[]) (ws:=[]) j rx nx C ⟨[],rfl,rfl⟩ y v
 obtain ⟨e1,e2⟩:=tY (m:=0) (n:=n) (N:=N) (s:=s) (a1:=f.1) (a2:=c.1) (ws:=[]) rfl () (G:=G) (by rw[u];simp)
 refine⟨_,e1,e2,p (E:=lD _) ⟨fun {fps δ σ H'} o z=>z _ H' [] o.b0.toSame ⟨rfl,rfl⟩ Pl fun _ h=>(nomatch h),fun o (z:False)=>z.elim,fun o (z:False)=>z.elim,fun o r i z=>z _ _ _ o.b0.toSame r (i rfl).nd fun a ha=>⟨(i rfl).nw a ha,(i rfl).mu a ha⟩⟩ o q⟩
def NY(C:Addr)(m:Str)(j:DSp)(i:DSO)(δ:Dl)(P:DK):Prop:=∃h g f c,δ[0]?=some (some h)/\δ[1]?=some (some g)/\δ[2]?=some (some f)/\δ[3]?=some (some c)/\f.isRef=true/\c.isRef=true /\
 ∀a2 a3,j [h,g,.pin a2 f,.pin a3 c] fun x=>(∃ns dd,x=.ins C ns dd/\m∉ns)/\i x (a2,f) (a3,c) P
theorem Kv(B:aB Si)(F:Hq So):EM K Γ [] (Bm C m (spO K So) [] E (EY C (spN K C Si) [] E' (bx (bR 0) (bx (bR 1) (bx (bR 2) (bx (bR 3) gT))))) gT) (NY C m Si So) :=
 ⟨fun δ P P' k ⟨p,n,j,i,t,e1,e2,s,g,f,h⟩=>⟨p,n,j,i,t,e1,e2,s,g,f,fun a2 a3=>B _ _ _ (fun x z=>⟨z.1,F _ _ _ _ _ k z.2⟩) (h a2 a3)⟩,fun {B0 fps δ σ H Q} o h=>by
  obtain ⟨p,n,j,i,t,e1,e2,s,X,U,h⟩:=h
  obtain ⟨v0,M,T⟩:=o.val 0 _ t
  obtain ⟨v1,L,R⟩:=o.val 1 _ e1
  obtain ⟨v2,J,g⟩:=o.val 2 _ e2
  obtain ⟨v3,I,f⟩:=o.val 3 _ s
  obtain ⟨a2,rfl⟩:=g.isRef X
  obtain ⟨a3,rfl⟩:=f.isRef U
  refine⟨v0,M,v1,L,.ref a2,J,.ref a3,I,fun x dx Y SR QY=>?_⟩
  have c:Same H (upd H dx (.own x)):=Same.gQ SR
  have y:(upd H dx (.own x)) x=none:=by rw[au (OT QY)];exact Y
  refine⟨x,dx,[v0,v1,.ref a2,.ref a3],[p,n,.pin a2 j,.pin a3 i],upd H dx (.own x),rfl,y,rfl,⟨_,v0,_,_,_,rfl,rfl,T.same c,v1,_,_,_,rfl,rfl,R.same c,.ref a2,_,_,_,rfl,rfl,⟨rfl,g.same c⟩,.ref a3,_,_,[],rfl,rfl,⟨rfl,f.same c⟩,rfl,rfl⟩,(o.b0.trans c).now,B _ _ _ ?_ (h a2 a3)⟩
  rintro d ⟨⟨ns,dd,rfl,hm⟩,z⟩ Sh xs S1 v H' e G q Z RH u
  cases e
  refine⟨rfl,x,dx,_,rfl,q,eR hm,upd H dx (.own x),x,.ins C ns dd,x::v,(a2,j),(a3,i),rfl,⟨G,(o.b0.trans c).now⟩,⟨x,dx,xs,v,rfl,q,rfl,Z⟩,Om.mpr ⟨fun h=>(u x h).2.1 rfl,RH⟩,fun a ha=>?_,⟨_,g.same c⟩,⟨_,f.same c⟩,F _ _ _ _ _ (fun r z w H3 fpw Zy O nd fr=>?_) z⟩
  .rcases KE.mp ha with e|h
   .rw[e];exact⟨y,.inr (.inr (.inr ⟨_,_,_,q⟩))⟩
   .exact⟨(u a h).1,(u a h).2.2⟩
  .exact z w H3 fpw (c.trans Zy) O ⟨nd,fun a ha=>(fr a ha).2,fun a ha=>.inl (c.free (fr a ha).1)⟩⟩
abbrev endsN(C s:Addr)(P:D->Prop):aZ:=⟨fun δ=>kd δ 0 fun a x=>a=s/\(∃ns dd,x=.ins C ns dd)/\P x,fun _ _=>False,fun _=>False,fun _=>False⟩
def Kw(K:aae)(C:Addr)(S:DSp):Sp:=fun vs H Q _=>∃(x dx:Addr) (ws:List V) (ds:List D) (B0:Hp),vs=.ref x::ws/\B0 x=none/\H=upd B0 x (.ins C dx [])/\Rps K B0 ds ws/\gU K B0 /\
 S ds fun d=>∀(ns:List Str) (xs:List V) (dd:List D) (c:List Addr) (f:Addr) (H':Hp),d=.ins C ns dd->Same B0 H'->H' x=some (.ins C f (ns.zip xs))->Rfs K H' dd xs c->c.Nodup->(∀a∈c,B0 a=none/\a≠x/\Mu H' a)->Q .non H'
theorem GY(h:∀ds P,S ds P->ds.length=n)(k:Kw K C S vs H Q E):vs.length=n+1:=by
 obtain ⟨x,dx,ws,ds,B0,rfl,_,_,r,_,c⟩:=k
 obtain ⟨fp,r⟩:=r
 rw[H0,r.length,h _ _ c]
theorem Ia(m:aB S)(hi:∀ds P,S ds P->S ds fun d=>(∃ns dd,d=.ins C ns dd)/\P d)(hr:AR K Γ w dr):EM K Γ [] (EY C (Kw K C S) [] E w) (mE S dr) :=
 ⟨fun δ P J k h=>hr.mono _ _ _ (fun y z=>m _ _ _ k z) h,
 fun {B0 fps δ σ H Q} o q=>hr.run o (hr.mono _ _ _ (fun ys z vs i f s=>by
  intro x dx j u F
  have c:Same i (upd i dx (.own x)):=Same.gQ u
  refine⟨x,dx,vs,ys,upd i dx (.own x),by rw[Pb],by rw[au (OT F)];exact j,rfl,s.same c,(o.b0.trans (f.trans c)).now,m _ _ _ ?_ (hi _ _ z)⟩
  rintro d ⟨⟨ns,dd,rfl⟩,z⟩ G xs I p v H' e r n t B g
  cases e
  refine⟨rfl,z (.ref x) H' (x::p) (f.trans (c.trans r)) ⟨x,v,xs,p,rfl,n,rfl,t⟩ ⟨Om.mpr ⟨fun h=>(g x h).2.1 rfl,B⟩,fun a ha=>?_,fun a ha=>?_⟩⟩
  .rcases KE.mp ha with e|h
   .rw[e];exact .inr (.inr (.inr ⟨_,_,_,n⟩))
   .exact (g a h).2.2
  .rcases KE.mp ha with e|h
   .rw[e];exact .inl (f.free j)
   .exact .inl (f.free (c.free (g a h).1))) q)⟩
def INB(K:aae)(C:Addr)(ns0:List Str)(t:TS)(d:List D->Dl->DK->Prop):Prop :=
 ∀⦃B0:Hp⦄ ⦃fps:Nat->List Addr⦄ ⦃δ:Dl⦄ ⦃σ:St⦄ ⦃H:Hp⦄ ⦃x dx:Addr⦄ ⦃xs0:List V⦄ ⦃ds0:List D⦄ ⦃fq0:List Addr⦄ ⦃R:Hp->Prop⦄ ⦃W:VK⦄,Ok K B0 [] fps (none::δ) σ H->σ[0]?=some (some (.ref x))->H x=some (.ins C dx (ns0.zip xs0))->B0 x=none->ns0.length=xs0.length->Rfs K H ds0 xs0 fq0->fq0.Nodup ->
  (∀a∈fq0,B0 a=none/\a≠x/\Mu H a)->(∀i,∀a∈fps i,B0 a≠none) ->
  d ds0 δ (fun y=>∀(ns:List Str) (xs:List V) (dd:List D) (c:List Addr) (f:Addr) (H':Hp),y=.ins C ns dd->Same B0 H'->H' x=some (.ins C f (ns.zip xs))->Rfs K H' dd xs c->c.Nodup->(∀a∈c,B0 a=none/\a≠x/\Mu H' a)->R H')->t { nx:=fun _ H'=>R H',rt:=W } σ H
theorem wV(B:Cls K C)(hn:bB K C f)(c:EM K [] [] ta da)(u:f∉ns0:=by decide +kernel)(s:ns0.length<100:=by decide)(h:INB K C (ns0++[f]) t d) :
  INB K C ns0 (zt (Dy K (bR 0) ta f) t) (fun ds0 δ P=>da (none::δ) fun y=>d (ds0++[y]) δ P):=by
 intro B0 fps δ σ H x dx xs0 ds0 fq0 R W o g p hb m hr J r j q
 refine xc (Dn:={ nx:=t { nx:=fun _ H'=>R H',rt:=W },rt:=W }) B hn c o g p hb m hr J r (fun i z=>j i x z hb) u s (c.mono _ _ _ (fun y z H' v L n I G F E=>?_) q)
 exact h n g I hb (by simp [m]) G F E j z
theorem Jw(B:ST K true [0] [] t [0] [0] d):INB K C ns0 t (fun ds0 δ P=>∀s,d (endsN C s P) (some (.pin s (.ins C ns0 ds0))::δ)):=by
 intro B0 fps δ σ H x dx xs0 ds0 fq0 R W o I m hb P2 hr Q f n q
 have u:Ok K B0 [0] (fun j=>match j with|0=>x::fq0|l+1=>fps (l+1)) (some (.pin x (.ins C ns0 ds0))::δ) σ H:=by
  refine⟨o.len,o.b0,fun j d e=>?_,fun j e=>?_,fun j hj=>?_,fun j hj l F a ha=>?_⟩
  .match j,e with
   |0,e=>cases e;exact⟨.ref x,I,rfl,x,dx,xs0,fq0,rfl,m,rfl,hr⟩
   |l+1,e=>exact o.val (l+1) d (by simpa using e)
  .match j,e with
   |0,e=>exact absurd rfl (e _)
   |l+1,e=>exact o.non (l+1) fun d z=>e d (by simpa using z)
  .cases mo.mp hj
   refine⟨Om.mpr ⟨fun z=>(f x z).2.1 rfl,Q⟩,fun a ha=>?_⟩
   rcases KE.mp ha with z|z
   .rw[z];exact⟨hb,.inr (.inr (.inr ⟨_,_,_,m⟩))⟩
   .exact⟨(f a z).1,(f a z).2.2⟩
  .cases mo.mp hj
   match l,F with
   |0,z=>exact absurd rfl z
   |l+1,_ =>
    intro z
    rcases KE.mp ha with y|y
    .exact n (l+1) a z (by rw[y];exact hb)
    .exact n (l+1) a z (f a y).1
 refine B (E:=endsN C x _) ⟨fun {Y X Z T} g z=>?_,fun o (z:False)=>z.elim,fun o (z:False)=>z.elim,fun o r i (z:False)=>z.elim⟩ u (q x)
 obtain ⟨a,y,e,rfl,⟨ns,dd,rfl⟩,z⟩:=jk z
 obtain ⟨v,U,rfl,b,O,xs,J,M,G,L,p⟩:=g.val 0 _ e
 cases M
 have own:=g.own 0 (mo.mpr rfl)
 rw[L] at own
 obtain ⟨n1,n2⟩:=Om.mp own.1
 exact z ns xs dd J O T rfl g.b0.toSame G p n2 fun c h=>⟨(own.2 c (gV _ h)).1,fun z=>n1 (z▸h),(own.2 c (gV _ h)).2⟩
theorem KW(g:INB K C [] t d)(hd:∀ds P,S ds P->d [] (bA (N.drop 1) ds) P)(n:1<=N.length) :
  ∀{vs H Q E},Kw K C S vs H Q E->t { nx:=fun _ H'=>Q .non H',rt:=Q } (L2.start N vs) H:=by
 rintro vs H Q E ⟨x,dx,ws,ds,B0,rfl,hb,rfl,r,tv,h⟩
 obtain ⟨fps,o⟩:=nO (N:=N.drop 1) r tv
 have f:Same B0 (upd B0 x (.ins C dx [])):=Same.gQ hb
 have c:=o.same f
 have m:L2.start N (.ref x::ws)=some (.ref x)::L2.start (N.drop 1) ws:=by
  unfold L2.start
  rw[Oi,Qp,H0,Pg,show N.length - (ws.length+1)=N.length - 1 - ws.length by omega]
 rw[m]
 refine g (B0:=B0) (fps:=fun i=>match i with|0=>[]|j+1=>fps j) (δ:=bA (N.drop 1) ds) (x:=x) (dx:=dx) (xs0:=[]) (ds0:=[]) (fq0:=[]) (R:=fun H'=>Q .non H') ⟨by rw[H0,H0,c.len],⟨f,tv⟩,fun i dd e=>?_,fun i e=>?_,fun _ h=>(nomatch h),fun _ h=>(nomatch h)⟩ rfl aq hb rfl ⟨rfl,rfl⟩ Pl (fun _ h=>(nomatch h)) (fun i a ha=>?_) (hd ds _ h)
 .cases i with
  |zero=>simp at e
  |succ j=>exact c.val j dd (by simpa using e)
 .cases i with
  |zero=>rfl
  |succ j=>exact c.non j fun dd z=>e dd (by simpa using z)
 .cases i with
  |zero=>nomatch ha
  |succ j=>exact o.dom ha
def y8(xs:List D)(P:DK):Prop:=match xs with|[x]=>xx x fun kvs=>∃ns:aab,kvs.map (·.1)=ns.map Sum.inl/\ns.length<64/\∀c:aab,c.Perm ns->c.Pairwise (·<=·)->P (dI c)|_=>False
theorem E5:mz K (fun xs H Q=>∃(a:Addr) (kvs:List (Key × V)) (ns:aab),xs=[.ref a]/\H a=some (.dK kvs)/\kvs.map (·.1)=ns.map Sum.inl/\ns.length<64/\∀(l:Addr) (c:aab),H l=none->c.Perm ns->c.Pairwise (·<=·)->Q (.ref l) (upd H l (.lst (c.map V.int)))) y8 :=
 ⟨fun xs P m k h=>by
  unfold y8 at h ⊢
  revert h
  split
  .exact fun h=>by obtain ⟨kvs,rfl,ns,e,z⟩:=hZ h;exact⟨ns,e,z.1,fun c a b=>k _ (z.2 c a b)⟩
  .exact id,
 fun {H xs vs Q} r h=>by
  unfold y8 at h
  split at h
  .obtain ⟨v,rfl,g⟩:=r.one
   obtain ⟨kvs,rfl,ns,e,z⟩:=hZ h
   obtain ⟨fp,a,rfl,ha,_,_⟩:=g
   exact⟨a,kvs,ns,rfl,ha,e,z.1,fun l c f i j=>z.2 c i j _ _ [l] (Same.gQ f) (Rf.ofInts aq) (Nw.one f aq).any⟩
  .exact h.elim⟩
end
theorem t6(G:aad)(c:∀i∈G,∀x,X.N[i]?=some x->X.env.scope.names.lookup x=none)(h:PSs X ss t):PSs X ss (zF G t):=Gi G c h
end L3
namespace L3
namespace Fl
open PySem L2
theorem ow{l:aab}{i j:Nat}{v:Int}(h:i<l.length):(l.set i v).getD j 0=if i=j then v else l.getD j 0:=by
 rw[be,Pc,be]
 by_cases e:i=j
 .rw[if_pos e,if_pos e,if_pos h];rfl
 .rw[if_neg e,if_neg e]
structure Wy(n m:Nat)(low high t:aaa)(w:aab)(g:Nat)(ps:List (Nat × Nat)):Prop where
 hd:∃p r,ps=p::r/\p.2=g
 rg:∀p∈ps,p.1<n/\p.2<m
 n1:(ps.map Prod.fst).Nodup
 n2:(ps.map Prod.snd).Nodup
 up:∀p∈ps,cellAt t p.1 p.2<cellAt high p.1 p.2
 lk:Lk (fun a b=>cellAt low a b<cellAt t a b) ps
 ls:∃p,ps.getLast?=some p/\0<w.getD p.1 0
theorem xg{n m:Nat}:∀{ps:List (Nat × Nat)},(∀p∈ps,p.1<n/\p.2<m)->∀p∈cellsOf ps,p.1<n/\p.2<m
 |[],_,p,h=>nomatch h
 |[q],k,p,h=>by cases mo.mp h;exact k q k0
 |q::q2::r,k,p,h=>by
  rcases KE.mp h with e|h
  .rw[e];exact k q k0
  .rcases KE.mp h with e|h
   .rw[e];exact⟨(k q k0).1,(k q2 (gV _ k0)).2⟩
   .exact xg (ps:=q2::r) (fun z c=>k z (gV _ c)) p h
theorem HR{L c:Nat->Nat->Prop}:∀{ps:List (Nat × Nat)},Lk L ps->Lk c ps->Lk (fun a b=>L a b/\c a b) ps
 |[],_,_=>trivial
 |[_],_,_=>trivial
 |p::q::r,h,k=>⟨⟨h.1,k.1⟩,HR (ps:=q::r) h.2 k.2⟩
theorem JD(s:St n m rows cols low high t w r)(hw:Wy n m low high t w g ps)(B:ps.getLast?=some p)(X:1<=x)
  (T:x<=w.getD p.1 0) (U:x<=r.getD g 0) (al:Al (fun c=>x<=cellAt high c.1 c.2 - cellAt t c.1 c.2) (fun c=>x<=cellAt t c.1 c.2 - cellAt low c.1 c.2) (cellsOf ps)) :
  St n m rows cols low high (ap x (cellsOf ps) t) (w.set p.1 (w.getD p.1 0 - x)) (r.set g (r.getD g 0 - x))/\p.1<n/\g<m:=by
 have R:p∈ps:=List.mem_of_getLast? B
 obtain ⟨pn,Y⟩:=hw.rg p R
 obtain ⟨q,rest,J,G⟩:=hw.hd
 have E:g<m:=by rw[<- G];exact (hw.rg q (by rw[J];exact k0)).2
 obtain ⟨a1,a2⟩:=Dh.mp al
 obtain ⟨k1,F,O,M⟩:=LH (x:=x) s.rt (xg hw.rg)
 have u:=HR hw.lk a2
 refine⟨⟨k1,by rw[OS];exact s.wl,by rw[OS];exact s.rl,fun i j hi hj=>?_,fun i hi=>?_,fun j hj=>?_,fun j hj=>?_,fun i hi hn j hj=>?_⟩,pn,E⟩
 .have b:=s.bd i j hi hj
  rw[F]
  rcases HI (x:=x) (a:=i) (b:=j) hw.n1 hw.n2 u with z|⟨z,Q⟩|⟨z,L,_⟩
  .rw[z];omega
  .have:=a1 (i,j) Q
   dsimp only at this
   rw[z];omega
  .dsimp only at L
   rw[z];omega
 .rw[O,EV B,ow (by rw[s.wl];exact pn),s.rs i hi]
  by_cases z:p.1=i
  .rw[if_pos z,if_pos z,<- z];omega
  .rw[if_neg z,if_neg z];omega
 .rw[M,J,DX,ow (by rw[s.rl];exact E),s.cs j hj,G]
  by_cases z:g=j
  .rw[if_pos z,if_pos z,<- z];omega
  .rw[if_neg z,if_neg z];omega
 .rw[ow (by rw[s.rl];exact E)]
  by_cases z:g=j
  .rw[if_pos z];omega
  .rw[if_neg z];exact s.rp j hj
 .rw[ow (by rw[s.wl];exact pn)] at hn
  by_cases z:p.1=i
  .rw[if_pos z] at hn;omega
  .rw[if_neg z] at hn
   rw[F]
   have e:dl x (cellsOf ps) i j=0:=by
    have st:∀y∈ps,y.1=i->∃b,b<m/\cellAt low i b<cellAt t i b\/0<w.getD i 0:=by
     intro y v e
     have:∀{f:List (Nat × Nat)},Lk (fun a b=>cellAt low a b<cellAt t a b) f->(∀z∈f,z.1<n/\z.2<m)->y∈f->f.getLast?=some p->y=p\/∃b,b<m/\cellAt low y.1 b<cellAt t y.1 b:=by
      intro f
      induction f with
      |nil=>intro _ _ h;nomatch h
      |cons a l ih =>
       intro I H o C
       cases l with
       |nil =>
        cases mo.mp o
        left;simpa using C
       |cons b l =>
        rcases KE.mp o with e|o
        .right
         rw[e]
         exact⟨b.2,(H b (gV _ k0)).2,I.1⟩
        .exact ih I.2 (fun z P=>H z (gV _ P)) o (by rw[PN] at C;exact C)
     rcases this hw.lk hw.rg v B with q|⟨b,hb,q⟩
     .exact absurd (by rw[<- q];exact e) z
     .exact⟨b,.inl ⟨hb,by rw[<- e];exact q⟩⟩
    refine C9 fun y v e=>?_
    obtain ⟨b,q⟩:=st y v e
    rcases q with ⟨hb,q⟩|q
    .have:=s.ng i hi hn b hb;omega
    .omega
   rw[e,s.ng i hi hn j hj];omega
def oV:Option Nat->V|none=>.non|some c=>.int (c:Int)
def oD:Option Nat->D|none=>.non|some g=>.int (g:Int)
def kA(as:List (Nat × Option Nat)):List (Key × V):=as.map fun p=>(Sum.inl (p.1:Int),oV p.2)
abbrev kys(as:List (Nat × Option Nat)):aad:=as.map Prod.fst
theorem Fm:(kA as).map (·.1)=((kys as).map fun (c:Nat)=>(c:Int)).map Sum.inl:=by
 unfold kA;rw[OB,OB,OB];rfl
theorem An:∀{as:List (Nat × Option Nat)}{c:Nat},c∉kys as->js (kA as) (.inl (c:Int))=none
 |[],c,_=>rfl
 |p::as,c,h=>by
  rw[kys,Oi,KE,not_or] at h
  show js ((Sum.inl (p.1:Int),oV p.2)::kA as) _=none
  rw[k9 (fun z=>h.1 (by have:=Sum.inl.inj z;omega)),An h.2]
theorem uZ:∀{as:List (Nat × Option Nat)}{c:Nat}{o:Option Nat},(kys as).Nodup->(c,o)∈as->js (kA as) (.inl (c:Int))=some (oV o)
 |[],c,o,_,h=>nomatch h
 |p::as,c,o,nd,h=>by
  rw[kys,Oi] at nd
  obtain ⟨n1,n2⟩:=Om.mp nd
  show js ((Sum.inl (p.1:Int),oV p.2)::kA as) _=_
  rcases KE.mp h with e|h
  .subst e;exact og rfl
  .rw [k9 (fun z => n1 (by have : p.1 = c := by have := Sum.inl.inj z; omega
                           rw[this];exact Oo.mpr ⟨_,h,rfl⟩)),uZ n2 h]
theorem NA{as:List (Nat × Option Nat)}{c:Nat}:(js (kA as) (.inl (c:Int))).isSome=decide (c∈kys as):=by
 by_cases h:c∈kys as
 .rw[decide_eq_true h]
  induction as with
  |nil=>nomatch h
  |cons p as ih =>
   show (js ((Sum.inl (p.1:Int),oV p.2)::kA as) _).isSome=_
   by_cases e:p.1=c
   .rw[og (by rw[e])];rfl
   .rw[k9 (fun z=>e (by have:=Sum.inl.inj z;omega))]
    rw[kys,Oi] at h
    rcases KE.mp h with z|z
    .exact absurd z.symm e
    .exact ih z
 .rw[decide_eq_false h,An h];rfl
theorem Jm(h:c∉kys as):putK (kA as) (.inl (c:Int)) (oV o)=kA (as++[(c,o)]):=by
 rw[IY _ (An h)]
 unfold kA;rw[Ov];rfl
theorem jI{B:Nat}{l:aad}(nd:l.Nodup)(h:∀a∈l,a<B):l.length<=B:=Mat.wL nd h
structure Rc(n m:Nat)(low high t:aaa)(w:aab)(as bs:List (Nat × Option Nat))(rk ck:Nat->Nat)(D:Nat):Prop where
 na:(kys as).Nodup
 nb:(kys bs).Nodup
 la:∀i∈kys as,i<n/\rk i<=D
 lb:∀j∈kys bs,j<m/\ck j<=D
 pa:∀i o,(i,o)∈as->(o=none/\0<w.getD i 0)\/∃c,o=some c/\c∈kys bs/\ck c<rk i/\cellAt low i c<cellAt t i c
 pb:∀j o,(j,o)∈bs->∃s,o=some s/\s∈kys as/\rk s<ck j/\cellAt t s j<cellAt high s j
 st:∀i,i<n->0<w.getD i 0->i∈kys as
abbrev nw(c:List (Nat × Nat)):List (Nat × Option Nat):=c.map fun p=>(p.1,some p.2)
theorem fk:kys (nw PD)=PD.map Prod.fst:=by unfold kys nw;rw[OB];rfl
theorem bZ:kys (as++bs)=kys as++kys bs:=Ov
variable {n m:Nat}{low high t:aaa}{w r:aab}{as bs:List (Nat × Option Nat)}{rk ck:Nat->Nat}{D:Nat}
theorem Rc.up(h:Rc n m low high t w as bs rk ck D)(nd:(kys bs++PD.map Prod.fst).Nodup)(hn:∀p∈PD,p.2∈kys as/\p.1<m/\cellAt t p.2 p.1<cellAt high p.2 p.1) :
  Rc n m low high t w as (bs++nw PD) rk (fun c=>if c∈PD.map Prod.fst then D+1 else ck c) (D+1):=by
 obtain ⟨d1,d2,d3⟩:=Ow.mp nd
 have old:∀c∈kys bs,c∉PD.map Prod.fst:=fun c v z=>d3 c v c z rfl
 refine⟨h.na,by rw[bZ,fk];exact nd,fun i hi=>⟨(h.la i hi).1,by have:=(h.la i hi).2;omega⟩,fun j hj=>?_,fun i o e=>?_,fun j o e=>?_,h.st⟩
 .rw[bZ,fk] at hj
  rcases Oj.mp hj with z|z
  .show j<m/\(if j∈PD.map Prod.fst then D+1 else ck j)<=D+1
   rw[if_neg (old j z)]
   have:=h.lb j z;omega
  .obtain ⟨p,f,rfl⟩:=Oo.mp z
   show p.1<m/\(if p.1∈PD.map Prod.fst then D+1 else ck p.1)<=D+1
   rw[if_pos z]
   exact⟨(hn p f).2.1,Ol _⟩
 .rcases h.pa i o e with z|⟨c,e1,e2,r,g⟩
  .exact .inl z
  .refine .inr ⟨c,e1,by rw[bZ];exact Oq _ e2,?_,g⟩
   show (if c∈PD.map Prod.fst then D+1 else ck c)<rk i
   rw[if_neg (old c e2)];exact r
 .rcases Oj.mp e with z|z
  .obtain ⟨s,e1,e2,r,g⟩:=h.pb j o z
   refine⟨s,e1,e2,?_,g⟩
   show rk s<if j∈PD.map Prod.fst then D+1 else ck j
   rw[if_neg (old j (Oo.mpr ⟨_,z,rfl⟩))];exact r
  .obtain ⟨p,f,q⟩:=Oo.mp z
   cases q
   obtain ⟨u,q2,q3⟩:=hn p f
   refine⟨p.2,rfl,u,?_,q3⟩
   show rk p.2<if p.1∈PD.map Prod.fst then D+1 else ck p.1
   rw[if_pos (Oo.mpr ⟨p,f,rfl⟩)]
   have:=(h.la p.2 u).2;omega
theorem Rc.down(h:Rc n m low high t w as bs rk ck D)(nd:(kys as++PD.map Prod.fst).Nodup)(hn:∀p∈PD,p.2∈kys bs/\p.1<n/\cellAt low p.1 p.2<cellAt t p.1 p.2) :
  Rc n m low high t w (as++nw PD) bs (fun i=>if i∈PD.map Prod.fst then D+1 else rk i) ck (D+1):=by
 obtain ⟨d1,d2,d3⟩:=Ow.mp nd
 have old:∀c∈kys as,c∉PD.map Prod.fst:=fun c v z=>d3 c v c z rfl
 refine⟨by rw[bZ,fk];exact nd,h.nb,fun j hj=>?_,fun i hi=>⟨(h.lb i hi).1,by have:=(h.lb i hi).2;omega⟩,fun j o e=>?_,fun i o e=>?_,fun i hi hw=>by rw[bZ];exact Oq _ (h.st i hi hw)⟩
 .rw[bZ,fk] at hj
  rcases Oj.mp hj with z|z
  .show j<n/\(if j∈PD.map Prod.fst then D+1 else rk j)<=D+1
   rw[if_neg (old j z)]
   have:=h.la j z;omega
  .obtain ⟨p,f,rfl⟩:=Oo.mp z
   show p.1<n/\(if p.1∈PD.map Prod.fst then D+1 else rk p.1)<=D+1
   rw[if_pos z]
   exact⟨(hn p f).2.1,Ol _⟩
 .rcases Oj.mp e with z|z
  .rcases h.pa j o z with q|⟨c,e1,e2,r,g⟩
   .exact .inl q
   .refine .inr ⟨c,e1,e2,?_,g⟩
    show ck c<if j∈PD.map Prod.fst then D+1 else rk j
    rw[if_neg (old j (Oo.mpr ⟨_,z,rfl⟩))];exact r
  .obtain ⟨p,f,q⟩:=Oo.mp z
   cases q
   obtain ⟨u,q2,q3⟩:=hn p f
   refine .inr ⟨p.2,rfl,u,?_,q3⟩
   show ck p.2<if p.1∈PD.map Prod.fst then D+1 else rk p.1
   rw[if_pos (Oo.mpr ⟨p,f,rfl⟩)]
   have:=(h.lb p.2 u).2;omega
 .obtain ⟨s,e1,e2,r,g⟩:=h.pb i o e
  refine⟨s,e1,by rw[bZ];exact Oq _ e2,?_,g⟩
  show (if s∈PD.map Prod.fst then D+1 else rk s)<ck i
  rw[if_neg (old s e2)];exact r
structure Cl(n m:Nat)(low high t:aaa)(r:aab)(layer:aad)(as bs:List (Nat × Option Nat))(goal:Option Nat):Prop where
 ly:∀l∈layer,l∈kys as
 cr:∀i∈kys as,i∉layer->∀j,j<m->cellAt t i j<cellAt high i j->j∈kys bs
 cc:∀j∈kys bs,∀i,i<n->cellAt low i j<cellAt t i j->i∈kys as
 gl:match goal with|none=>∀c∈kys bs,r.getD c 0<=0|some g=>g∈kys bs/\0<r.getD g 0
structure Wp(n m:Nat)(low high t:aaa)(bs:List (Nat × Option Nat))(rk ck:Nat->Nat)(g:Nat)(ps:List (Nat × Nat))(c:Nat):Prop where
 hd:(ps=[]/\c=g)\/∃p l,ps=p::l/\p.2=g
 ci:c∈kys bs
 rg:∀p∈ps,p.1<n/\p.2<m
 rk:∀p∈ps,ck c<rk p.1/\ck c<ck p.2
 n1:(ps.map Prod.fst).Nodup
 n2:(ps.map Prod.snd).Nodup
 up:∀p∈ps,cellAt t p.1 p.2<cellAt high p.1 p.2
 lk:Lk (fun a b=>cellAt low a b<cellAt t a b) ps
 ls:∀p,ps.getLast?=some p->cellAt low p.1 c<cellAt t p.1 c
theorem Wp.step(h:Rc n m low high t w as bs rk ck D)(q:Wp n m low high t bs rk ck g ps c)(e:(c,some s)∈bs) :
  s∈kys as/\((s,none)∈as->Wy n m low high t w g (ps++[(s,c)]))/\∀i,(s,some i)∈as->Wp n m low high t bs rk ck g (ps++[(s,c)]) i/\ck i<ck c:=by
 obtain ⟨F,e1,e2,G,C⟩:=h.pb c (some s) e
 cases e1
 have x:=(h.la s e2).1
 have B:=(h.lb c q.ci).1
 have rg:∀p∈ps++[(s,c)],p.1<n/\p.2<m:=fun p f=>by
  rcases Oj.mp f with z|z
  .exact q.rg p z
  .cases mo.mp z;exact⟨x,B⟩
 have n1:((ps++[(s,c)]).map Prod.fst).Nodup:=by
  rw[Ov]
  refine Ow.mpr ⟨q.n1,by simp,fun a ha b hb z=>?_⟩
  obtain ⟨p,f,rfl⟩:=Oo.mp ha
  have:b=s:=by simpa using hb
  have:=(q.rk p f).1
  rw[z,‹b=s›] at this;omega
 have n2:((ps++[(s,c)]).map Prod.snd).Nodup:=by
  rw[Ov]
  refine Ow.mpr ⟨q.n2,by simp,fun a ha b hb z=>?_⟩
  obtain ⟨p,f,rfl⟩:=Oo.mp ha
  have:b=c:=by simpa using hb
  have:=(q.rk p f).2
  rw[z,‹b=c›] at this;omega
 have up:∀p∈ps++[(s,c)],cellAt t p.1 p.2<cellAt high p.1 p.2:=fun p f=>by
  rcases Oj.mp f with z|z
  .exact q.up p z
  .cases mo.mp z;exact C
 have lk:=Eo (s:=s) q.lk q.ls
 have hd:∃p l,ps++[(s,c)]=p::l/\p.2=g:=by
  rcases q.hd with ⟨o,j⟩|⟨p,l,o,j⟩
  .subst o;exact⟨(s,c),[],rfl,j⟩
  .subst o;exact⟨p,l++[(s,c)],rfl,j⟩
 refine⟨e2,fun z=>⟨hd,rg,n1,n2,up,lk,(s,c),by simp,?_⟩,fun i z=>?_⟩
 .rcases h.pa s none z with ⟨_,y⟩|⟨_,y,_⟩
  .exact y
  .cases y
 .rcases h.pa s (some i) z with ⟨y,_⟩|⟨H,y,u,E,r⟩
  .cases y
  .cases y
   refine⟨⟨.inr hd,u,rg,fun p f=>?_,n1,n2,up,lk,fun p f=>?_⟩,()⟩
   .rcases Oj.mp f with v|v
    .have:=q.rk p v;omega
    .cases mo.mp v
     show ck i<rk s/\ck i<ck c
     omega
   .have:p=(s,c):=by simpa using f.symm
    rw[this];exact r
end Fl
end L3
namespace L3.Fl
theorem MK(ht:aP n m t)(bd:∀i j,i<n->j<m->cellAt low i j<=cellAt t i j/\cellAt t i j<=cellAt high i j)(rs:∀i,i<n->dO t i=rows.getD i 0)(cs:∀j,j<m->fg t j=cols.getD j 0):¬ Cut n m rows cols low high R C:=by
 unfold Cut
 have e1:sN n (fun i=>if i∈R then rows.getD i 0 else 0)=sN n fun i=>sN m fun j=>if i∈R then cellAt t i j else 0:=aw fun i hi=>by
  by_cases z:i∈R
  .rw[if_pos z,<- rs i hi,qw ht hi]
   exact aw fun j _=>(if_pos z).symm
  .rw[if_neg z,aw (g:=fun _=>0) fun j _=>if_neg z,aV]
 have e2:sN m (fun j=>if j∈C then cols.getD j 0 else 0)=sN n fun i=>sN m fun j=>if j∈C then cellAt t i j else 0:=by
  rw[oA]
  refine aw fun j hj=>?_
  by_cases z:j∈C
  .rw[if_pos z,<- cs j hj,ot ht]
   exact aw fun i _=>(if_pos z).symm
  .rw[if_neg z,aw (g:=fun _=>0) fun i _=>if_neg z,aV]
 rw[e1,e2,<- iS]
 refine Int.not_lt.mpr ?_
 have le:∀(n:Nat) (f g:Nat->Int),(∀i,i<n->f i<=g i)->sN n f<=sN n g:=by
  intro n
  induction n with
  |zero=>intro f g _;exact Int.le_refl _
  |succ k ih =>
   intro f g h
   rw[bK,bK]
   have:=ih f g fun i hi=>h i ()
   have:=h k ()
   omega
 refine le _ _ _ fun i hi=>?_
 rw[<- iS]
 refine le _ _ _ fun j hj=>?_
 have b:=bd i j hi hj
 by_cases o:i∈R<;>by_cases c:j∈C
 .rw[if_pos o,if_pos c,if_neg (fun q=>q.2 c),if_neg (fun q=>q.1 o)];omega
 .rw[if_pos o,if_neg c,if_pos ⟨o,c⟩,if_neg (fun q=>q.1 o)];omega
 .rw[if_neg o,if_pos c,if_neg (fun q=>q.2 c),if_pos ⟨o,c⟩];omega
 .rw[if_neg o,if_neg c,if_neg (fun q=>o q.1),if_neg (fun q=>c q.2)];omega
end L3.Fl
namespace L3
namespace Rg
open Fl
abbrev Q4:=Int × Int × Int × Int
def goT(n m:Nat):aaa->List Q4->Option aaa
 |t,[]=>some t
 |t,(i,j,k,l)::r=>if cI n m t i j k l then goT n m (cH t i.toNat j.toNat k.toNat l.toNat) r else none
theorem tK(h:cI n m t i j k l):goT n m t ((i,j,k,l)::r)=goT n m (cH t i.toNat j.toNat k.toNat l.toNat) r:=by rw[goT,if_pos h]
theorem zL(h:¬ cI n m t i j k l):goT n m t ((i,j,k,l)::r)=none:=by rw[goT,if_neg h]
theorem oo{n m:Nat}{ys:List Q4}:∀{xs:List Q4}{t u:aaa},goT n m t xs=some u->goT n m t (xs++ys)=goT n m u ys
 |[],t,u,h=>by cases h;rfl
 |(i,j,k,l)::xs,t,u,h=>by
  by_cases c:cI n m t i j k l
  .rw[tK c] at h
   rw[Qp,tK c]
   exact oo h
  .rw[zL c] at h;cases h
theorem qx(c:aP n m t)(h:cI n m t i j k l):aP n m (cH t i.toNat j.toNat k.toNat l.toNat):=by
 obtain ⟨hi,g,hj,f,_⟩:=h
 exact (((c.setCell ()).setCell ()).setCell ()).setCell ()
structure Kp(n m:Nat)(t u:aaa):Prop where
 on:jZ n m u
 rs:∀a,dO u a=dO t a
 cs:∀b,fg u b=fg t b
theorem v8{n m:Nat}:∀{xs:List Q4}{t u:aaa},jZ n m t->goT n m t xs=some u->Kp n m t u
 |[],t,u,h,e=>by cases e;exact⟨h,fun _=>rfl,fun _=>rfl⟩
 |(i,j,k,l)::xs,t,u,h,e=>by
  by_cases c:cI n m t i j k l
  .rw[tK c] at e
   obtain ⟨hi,r,hj,p,c1,o,g,f⟩:=c
   have q:=v8 (zO h () ()) e
   have s:=BB h.1 (i:=i.toNat) (j:=j.toNat) (k:=k.toNat) (l:=l.toNat) () () () () c1 o g f
   exact⟨q.on,fun a=>(q.rs a).trans (s.1 a),fun b=>(q.cs b).trans (s.2 b)⟩
  .rw[zL c] at e;cases e
theorem rR{f:Nat->Int}{c:Nat}:∀{m:Nat},c<m->sN m (fun j=>if j=c then f j else 0)=f c
 |0,h=>by omega
 |m+1,h=>by
  rw[bK]
  rcases P9 c m with z|z
  .rw[rR z,if_neg ()];omega
  .have e:c=m:=()
   subst e
   rw[if_pos rfl,aw (g:=fun _=>0) (fun i hi=>if_neg ()),aV];omega
theorem IF{f:Nat->Int}:∀{m:Nat},sN m (fun q=>f q - f (q+1))=f 0 - f m
 |0=>by rw[FC];omega
 |m+1=>by rw[bK,IF];omega
def ii(p:Prop)[Decidable p]:Int:=if p then 1 else 0
structure Ring(n m L:Nat)(T:Nat->Nat->Int)(r c:Nat->Nat):Prop where
 two:2<=L
 ri:∀p q,p<L->q<L->r p=r q->p=q
 ci:∀p q,p<L->q<L->c p=c q->p=q
 rn:∀p,p<L->r p<n
 cm:∀p,p<L->c p<m
 a:∀p,p<L->T (r p) (c p)=0
 b:∀p,p+1<L->T (r (p+1)) (c p)=1
 e:T (r 0) (c (L - 1))=1
def dl(L:Nat)(r c:Nat->Nat)(p a b:Nat):Int:=(ii (a=r p) - ii (a=r (p+1)))*(ii (b=c p) - ii (b=c (L - 1)))
def St(n m L:Nat)(T:Nat->Nat->Int)(r c:Nat->Nat)(S:Nat->Bool)(U:aaa):Prop:=aP n m U/\∀a b,a<n->b<m->cellAt U a b=T a b+sN (L - 1) fun q=>if S q then dl L r c q a b else 0
def q4(L:Nat)(r c:Nat->Nat)(p:Nat):Q4:=((r p:Int),(c (L - 1):Int),(r (p+1):Int),(c p:Int))
section
variable {n m L:Nat}{T:Nat->Nat->Int}{r c:Nat->Nat}{S:Nat->Bool}{U:aaa}
theorem mJ[Decidable p](h:p):ii p=1:=if_pos h
theorem gO[Decidable p](h:¬ p):ii p=0:=if_neg h
theorem Ring.inn(h:Ring n m L T r c)(j:p+1<L):sN (L - 1) (fun q=>if S q then dl L r c q (r p) (c p) else 0)=if S p then 1 else 0:=by
 have:=h.two
 rw[aw (g:=fun q=>if q=p then (if S q then 1 else 0) else 0) fun q i=>?_,rR (f:=fun q=>if S q then 1 else 0) (show p<L - 1 by omega)]
 by_cases z:q=p
 .subst z
  rw[if_pos rfl]
  unfold dl
  rw[mJ rfl,gO (fun z=>by have:=h.ri _ _ () () z;omega),mJ rfl,gO (fun z=>by have:=h.ci _ _ () () z;omega)]
  rfl
 .rw[if_neg z]
  unfold dl
  rw[gO (p:=c p=c q) (fun y=>z (h.ci _ _ () () y).symm),gO (p:=c p=c (L - 1)) (fun z=>by have:=h.ci _ _ () () z;omega),Int.sub_self,Qc]
  split<;>rfl
theorem Ring.out(h:Ring n m L T r c)(j:p+1<L):sN (L - 1) (fun q=>if S q then dl L r c q (r (p+1)) (c p) else 0)=if S p then -1 else 0:=by
 have:=h.two
 rw[aw (g:=fun q=>if q=p then (if S q then -1 else 0) else 0) fun q i=>?_,rR (f:=fun q=>if S q then -1 else 0) (show p<L - 1 by omega)]
 by_cases z:q=p
 .subst z
  rw[if_pos rfl]
  unfold dl
  rw[gO (fun z=>by have:=h.ri _ _ () () z;omega),mJ rfl,mJ rfl,gO (fun z=>by have:=h.ci _ _ () () z;omega)]
  rfl
 .rw[if_neg z]
  unfold dl
  rw[gO (p:=c p=c q) (fun y=>z (h.ci _ _ () () y).symm),gO (p:=c p=c (L - 1)) (fun z=>by have:=h.ci _ _ () () z;omega),Int.sub_self,Qc]
  split<;>rfl
theorem Ring.las(h:Ring n m L T r c)(t:p<L):sN (L - 1) (fun q=>if S q then dl L r c q (r p) (c (L - 1)) else 0)=(if 1<=p/\S (p - 1) then 1 else 0) - (if p+1<L/\S p then 1 else 0):=by
 have:=h.two
 rw[aw (g:=fun q=>(if q=p - 1 then (if 1<=p/\S q then 1 else 0) else 0) - (if q=p then (if S q then 1 else 0) else 0)) fun q o=>?_,jA]
 .congr 1
  .rw[rR (f:=fun q=>if 1<=p/\S q then 1 else 0) (show p - 1<L - 1 by omega)]
  .by_cases z:p+1<L
   .rw[rR (f:=fun q=>if S q then 1 else 0) (show p<L - 1 by omega)]
    simp [z]
   .rw[aw (g:=fun _=>0) (fun q o=>if_neg ()),aV,if_neg (fun y=>z y.1)]
 .unfold dl
  rw[gO (p:=c (L - 1)=c q) (fun y=>by have:=h.ci _ _ () () y;omega),mJ (p:=c (L - 1)=c (L - 1)) rfl]
  by_cases i:q=p
  .subst i
   rw[mJ rfl,gO (p:=r q=r (q+1)) (fun y=>by have:=h.ri _ _ () () y;omega),if_pos rfl]
   rw[show (if q=q - 1 then (if 1<=q/\S q=true then (1:Int) else 0) else 0)=0 by
    split
    .rw[if_neg ()]
    .rfl]
   split<;>rfl
  .rw[if_neg i,gO (p:=r p=r q) (fun y=>i (h.ri _ _ () () y).symm)]
   by_cases j:q+1=p
   .rw[if_pos (c:=q=p - 1) (),mJ (p:=r p=r (q+1)) (by rw[j])]
    by_cases s:S q=true
    .rw[if_pos s,if_pos ⟨(),s⟩];rfl
    .rw[if_neg s,if_neg (fun y=>s y.2)];rfl
   .rw[gO (p:=r p=r (q+1)) (fun y=>j (h.ri _ _ () () y).symm)]
    rw[show (if q=p - 1 then (if 1<=p/\S q=true then (1:Int) else 0) else 0)=0 by
     split
     .rw[if_neg ()]
     .rfl]
    split<;>rfl
theorem Ring.step(h:Ring n m L T r c)(g:St n m L T r c S U)(o:p+1<L)(sp:S p=false)(c1:T (r p) (c (L - 1))+(if 1<=p/\S (p - 1) then 1 else 0)=1)(F:T (r (p+1)) (c (L - 1))=if p+1+1<L/\S (p+1) then 1 else 0) :
  ∃C,goT n m U (q4 L r c p::rest)=goT n m C rest/\St n m L T r c (fun q=>S q || decide (q=p)) C:=by
 have two:=h.two
 have rp:=h.rn p ()
 have v:=h.rn (p+1) o
 have t:=h.cm p ()
 have cl:=h.cm (L - 1) ()
 have s:r p≠r (p+1):=fun z=>by have:=h.ri _ _ () () z;omega
 have x:c p≠c (L - 1):=fun z=>by have:=h.ci _ _ () () z;omega
 have e1:cellAt U (r p) (c (L - 1))=1:=by
  rw[g.2 _ _ rp cl,h.las (show p<L by omega),if_neg (c:=p+1<L/\S p=true) (fun z=>by rw[sp] at z;exact absurd z.2 Oz)]
  omega
 have e2:cellAt U (r p) (c p)=0:=by
  rw[g.2 _ _ rp t,h.inn o,h.a p (),sp];rfl
 have B:cellAt U (r (p+1)) (c (L - 1))=0:=by
  rw[g.2 _ _ v cl,h.las o,if_neg (c:=1<=p+1/\S (p+1 - 1)=true) (fun z=>by rw[QA,sp] at z;exact absurd z.2 Oz),F]
  omega
 have y:cellAt U (r (p+1)) (c p)=1:=by
  rw[g.2 _ _ v t,h.out o,h.b p o,sp];rfl
 have E:cI n m U (r p:Int) (c (L - 1):Int) (r (p+1):Int) (c p:Int):=⟨⟨(),()⟩,⟨(),()⟩,⟨(),()⟩,⟨(),()⟩,e1,e2,B,y⟩
 refine⟨_,tK E,qx g.1 E,fun a b ha hb=>?_⟩
 simp only[Oh]
 rw[zE g.1 rp v cl t]
 have u:(sN (L - 1) fun q=>if (S q || decide (q=p))=true then dl L r c q a b else 0)=(sN (L - 1) fun q=>if S q then dl L r c q a b else 0)+dl L r c p a b:=by
  rw[<- rR (f:=fun q=>dl L r c q a b) (show p<L - 1 by omega),<- iS]
  refine aw fun q _=>?_
  by_cases z:q=p
  .subst z;simp [sp]
  .simp [z]
 rw[u,<- Int.add_assoc,<- g.2 a b ha hb]
 unfold dl
 by_cases a1:a=r p
 .subst a1
  rw[mJ (p:=r p=r p) rfl,gO (p:=r p=r (p+1)) s,if_neg (fun z=>s z.1.symm),if_neg (fun z=>s z.1.symm)]
  by_cases j:b=c p
  .subst j
   rw[if_pos ⟨rfl,rfl⟩,e2,mJ rfl,gO x];rfl
  .rw[if_neg (fun z=>j z.2.symm),gO j]
   by_cases i:b=c (L - 1)
   .subst i
    rw[if_pos ⟨rfl,rfl⟩,e1,mJ rfl];rfl
   .rw[if_neg (fun z=>i z.2.symm),gO i,Int.sub_self,Qc,QW]
 .rw[gO a1]
  by_cases a2:a=r (p+1)
  .subst a2
   rw[mJ rfl]
   by_cases j:b=c p
   .subst j
    rw[if_pos ⟨rfl,rfl⟩,y,mJ rfl,gO x];rfl
   .rw[if_neg (fun z=>j z.2.symm),gO j]
    by_cases i:b=c (L - 1)
    .subst i
     rw[if_pos ⟨rfl,rfl⟩,B,mJ rfl];rfl
    .rw[if_neg (fun z=>i z.2.symm),if_neg (fun z=>a1 z.1.symm),if_neg (fun z=>a1 z.1.symm),gO i,Int.sub_self,Qc,QW]
  .rw[gO a2,if_neg (fun z=>a2 z.1.symm),if_neg (fun z=>a2 z.1.symm),if_neg (fun z=>a1 z.1.symm),if_neg (fun z=>a1 z.1.symm),Int.sub_self,Int.zero_mul,QW]
theorem St.cg(h:St n m L T r c S U)(e:∀q,q+1<L->S q=S' q):St n m L T r c S' U:=⟨h.1,fun a b ha hb=>by
 rw[h.2 a b ha hb,aw (n:=L - 1) fun q f=>by rw[e q ()]]⟩
def ah(L:Nat)(T:Nat->Nat->Int)(r c:Nat->Nat)(p:Nat):Bool:=decide (T (r (p+1)) (c (L - 1))=0)
theorem Ring.first(h:Ring n m L T r c)(hb:∀p,p<L->T (r p) (c (L - 1))=0\/T (r p) (c (L - 1))=1)(f:p<L):T (r p) (c (L - 1))+(if 1<=p/\ah L T r c (p - 1)=true then 1 else 0)=1:=by
 rcases Nat.eq_zero_or_pos p with z|z
 .subst z
  rw[if_neg (),h.e];rfl
 .have e:ah L T r c (p - 1)=decide (T (r p) (c (L - 1))=0):=by unfold ah;rw[show p - 1+1=p by omega]
  rw[e]
  rcases hb p f with y|y
  .rw[y,if_pos ⟨z,by simp⟩];rfl
  .rw[y,if_neg (fun w=>by simp at w)];rfl
theorem Ring.ahead(h:Ring n m L T r c)(hb:∀p,p<L->T (r p) (c (L - 1))=0\/T (r p) (c (L - 1))=1){t:aaa}(ht:St n m L T r c (fun _=>false) t):∀k,k+1<=L->∃U,goT n m t (((List.range k).filter (ah L T r c)).map (q4 L r c))=some U/\St n m L T r c (fun q=>decide (q<k) && ah L T r c q) U
 |0,_=>⟨t,rfl,ht.cg fun q _=>by simp⟩
 |k+1,s=>by
  obtain ⟨U,e,f⟩:=h.ahead hb ht k ()
  rw[PZ,PV,Ov,oo e]
  by_cases z:ah L T r c k=true
  .obtain ⟨j,i,o⟩:=h.step f (p:=k) () (by simp) (by
    refine Eq.trans (congrArg (T (r k) (c (L - 1))+·) ?_) (h.first hb (p:=k) ())
    by_cases y:1<=k/\ah L T r c (k - 1)=true
    .rw[if_pos y,if_pos ⟨y.1,by simp [y.2];omega⟩]
    .rw[if_neg y,if_neg (fun w=>y ⟨w.1,by simp at w;exact w.2.2⟩)]) (by
    rw[if_neg (fun w=>by simp at w;omega)]
    exact of_decide_eq_true z) (rest:=[])
   refine⟨j,?_,o.cg fun q g=>?_⟩
   .rw[show (List.filter (ah L T r c) [k])=[k] by simp [z]]
    exact i
   .by_cases y:q=k
    .subst y;simp [z]
    .have:decide (q<k+1)=decide (q<k):=decide_eq_decide.mpr ()
     simp [y,this]
  .refine⟨U,?_,f.cg fun q g=>?_⟩
   .rw[show (List.filter (ah L T r c) [k])=[] by simp [z]];rfl
   .by_cases y:q=k
    .subst y;simp [z]
    .have:decide (q<k+1)=decide (q<k):=decide_eq_decide.mpr ()
     simp [this]
theorem Ring.behind(h:Ring n m L T r c)(hb:∀p,p<L->T (r p) (c (L - 1))=0\/T (r p) (c (L - 1))=1):∀M,M+1<=L->∀U,St n m L T r c (fun q=>ah L T r c q || decide (M<=q)) U->∃g,goT n m U ((((List.range M).filter fun q=>!ah L T r c q).reverse).map (q4 L r c))=some g/\St n m L T r c (fun _=>true) g
 |0,_,U,f=>⟨U,rfl,f.cg fun q _=>by simp⟩
 |M+1,x,U,f=>by
  rw[PZ,PV,List.reverse_append,Ov]
  by_cases z:ah L T r c M=true
  .rw[show (List.filter (fun q=>!ah L T r c q) [M])=[] by simp [z]]
   refine h.behind hb M () U (f.cg fun q j=>?_)
   by_cases y:q=M
   .subst y;simp [z]
   .have:decide (M+1<=q)=decide (M<=q):=decide_eq_decide.mpr ()
    rw[this]
  .have i:ah L T r c M=false:=by simpa using z
   have one:T (r (M+1)) (c (L - 1))=1:=by
    rcases hb (M+1) () with y|y
    .exact absurd (show ah L T r c M=true from decide_eq_true y) z
    .exact y
   have lt:M+1+1<L:=by
    rcases P9 (M+1+1) L with y|y
    .exact y
    .have e:L - 1=M+1:=()
     have:=h.a (M+1) ()
     rw[e] at one
     omega
   rw[show (List.filter (fun q=>!ah L T r c q) [M])=[M] by simp [z]]
   obtain ⟨g,o,v⟩:=h.step f (p:=M) () (by simp [i]) (by
    refine Eq.trans (congrArg (T (r M) (c (L - 1))+·) ?_) (h.first hb (p:=M) ())
    by_cases y:1<=M/\ah L T r c (M - 1)=true
    .rw[if_pos y,if_pos ⟨y.1,by simp [y.2]⟩]
    .rw[if_neg y,if_neg (fun w=>y ⟨w.1,by
      have:=w.2
      rw[Bool.or_eq_true] at this
      rcases this with u|u
      .exact u
      .have:=of_decide_eq_true u;omega⟩)]) (by
    rw[one,if_pos ⟨lt,by simp⟩]) (rest:=(((List.range M).filter fun q=>!ah L T r c q).reverse).map (q4 L r c))
   obtain ⟨t,e2,s⟩:=h.behind hb M () g (v.cg fun q j=>by
    by_cases y:q=M
    .subst y;simp
    .have:decide (M+1<=q)=decide (M<=q):=decide_eq_decide.mpr ()
     rw[this];simp [y])
   exact⟨t,o.trans e2,s⟩
def rsw(L:Nat)(T:Nat->Nat->Int)(r c:Nat->Nat):aad:=(List.range (L - 1)).filter (ah L T r c)++((List.range (L - 1)).filter fun q=>!ah L T r c q).reverse
theorem J5:(rsw L T r c).length=L - 1:=by
 unfold rsw
 rw[Ox,List.length_reverse]
 have:=List.length_eq_countP_add_countP (ah L T r c) (l:=List.range (L - 1))
 rw[Ot,List.countP_eq_length_filter,List.countP_eq_length_filter] at this
 have e:(fun q=>!ah L T r c q)=fun a=>decide ¬ ah L T r c a=true:=by
  funext q;cases ah L T r c q<;>rfl
 rw[e]
 omega
theorem Ring.all(h:Ring n m L T r c)(hb:∀p,p<L->T (r p) (c (L - 1))=0\/T (r p) (c (L - 1))=1)(i:aP n m t)(ht:∀a b,a<n->b<m->cellAt t a b=T a b):∃U,goT n m t ((rsw L T r c).map (q4 L r c))=some U/\St n m L T r c (fun _=>true) U:=by
 have:=h.two
 obtain ⟨U,e,f⟩:=h.ahead hb (t:=t) ⟨i,fun a b ha hb=>by
  have z:(sN (L - 1) fun q=>if (fun _:Nat=>false) q=true then dl L r c q a b else 0)=0:=(aw (g:=fun _=>0) (fun q _=>rfl)).trans aV
  rw[ht a b ha hb,z,QW]⟩ (L - 1) ()
 obtain ⟨o,e2,j⟩:=h.behind hb (L - 1) () U (f.cg fun q s=>by
  have e1:decide (q<L - 1)=true:=decide_eq_true ()
  have e2:decide (L - 1<=q)=false:=decide_eq_false ()
  rw[e1,e2];simp)
 refine⟨o,?_,j⟩
 unfold rsw
 rw[Ov,oo e]
 exact e2
def nx(L p:Nat):Nat:=if p+1<L then p+1 else 0
theorem Ring.sum(h:Ring n m L T r c){a b:Nat}:sN (L - 1) (fun q=>dl L r c q a b)=sN L fun p=>(ii (a=r p) - ii (a=r (nx L p)))*ii (b=c p):=by
 have two:=h.two
 obtain ⟨K,rfl⟩:∃K,L=K+1:=⟨L - 1,()⟩
 have o:∀q,q<K->nx (K+1) q=q+1:=fun q i=>if_pos ()
 have j:nx (K+1) K=0:=if_neg ()
 rw[QA,bK,j,aw (n:=K) (g:=fun q=>(ii (a=r q) - ii (a=r (q+1)))*ii (b=c q) - (ii (a=r q) - ii (a=r (q+1)))*ii (b=c K)) fun q i=>?_,jA]
 .rw[aw (n:=K) (f:=fun p=>(ii (a=r p) - ii (a=r (nx (K+1) p)))*ii (b=c p)) (g:=fun q=>(ii (a=r q) - ii (a=r (q+1)))*ii (b=c q)) fun q i=>by rw[o q i]]
  have s:(sN K fun q=>(ii (a=r q) - ii (a=r (q+1)))*ii (b=c K))=(ii (a=r 0) - ii (a=r K))*ii (b=c K):=by
   rw[<- IF (f:=fun q=>ii (a=r q))]
   by_cases z:b=c K
   .rw[mJ z,Int.mul_one]
    exact aw fun q _=>Int.mul_one _
   .rw[gO z,Qc,aw (g:=fun _=>0) (fun q _=>Qc _),aV]
  rw[s,Int.sub_mul,Int.sub_mul]
  omega
 .unfold dl
  rw[QA,Int.mul_sub]
def pos(x y:Int):Int:=if y<x then 1 else 0
def apart(n m:Nat)(t o:aaa):Int:=sN n fun a=>sN m fun b=>pos (cellAt t a b) (cellAt o a b)
theorem qC:0<=apart n m t o:=jq fun a _=>jq fun b _=>by unfold pos;split<;>omega
structure BO(n m L:Nat)(t o:aaa)(r c:Nat->Nat):Prop extends Ring n m L (cellAt t) r c where
 oa:∀p,p<L->cellAt o (r p) (c p)=1
 ob:∀p,p<L->cellAt t (r (nx L p)) (c p)=1/\cellAt o (r (nx L p)) (c p)=0
theorem BO.less(h:BO n m L t o r c)(u:St n m L (cellAt t) r c (fun _=>true) U):apart n m U o=apart n m t o - L:=by
 have two:=h.two
 have s:∀p,p<L->nx L p<L:=fun p i=>by unfold nx;split<;>omega
 have v:∀p,p<L->nx L p≠p:=fun p i=>by unfold nx;split<;>omega
 have pt:∀a b,a<n->b<m->pos (cellAt U a b) (cellAt o a b)=pos (cellAt t a b) (cellAt o a b) - sN L fun p=>ii (a=r (nx L p))*ii (b=c p):=fun a b ha hb=>by
  rw[u.2 a b ha hb,aw (n:=L - 1) (g:=fun q=>dl L r c q a b) (fun q _=>if_pos rfl),h.toRing.sum]
  by_cases z:∃p,p<L/\b=c p
  .obtain ⟨p,i,rfl⟩:=z
   have one:∀f:Nat->Int,(sN L fun q=>f q*ii (c p=c q))=f p:=fun f=>by
    rw[<- rR (f:=f) i]
    refine aw fun q j=>?_
    by_cases y:q=p
    .subst y;rw[if_pos rfl,mJ rfl,Int.mul_one]
    .rw[if_neg y,gO (fun w=>y (h.ci _ _ i j w).symm),Qc]
   rw[one (fun q=>ii (a=r q) - ii (a=r (nx L q))),one fun q=>ii (a=r (nx L q))]
   by_cases a1:a=r p
   .subst a1
    rw[mJ rfl,gO (fun w=>v p i (h.ri _ _ i (s p i) w).symm),h.a p i,h.oa p i];rfl
   .rw[gO a1]
    by_cases a2:a=r (nx L p)
    .subst a2
     rw[mJ rfl,(h.ob p i).1,(h.ob p i).2];rfl
    .rw[gO a2];simp
  .have nil:∀f:Nat->Int,(sN L fun q=>f q*ii (b=c q))=0:=fun f=>by
    rw[aw (g:=fun _=>0) (fun q j=>by rw[gO (fun w=>z ⟨q,j,w⟩),Qc]),aV]
   rw[nil,nil,QW,Int.sub_zero]
 unfold apart
 rw[aw (n:=n) (g:=fun a=>(sN m fun b=>pos (cellAt t a b) (cellAt o a b)) - sN m fun b=>sN L fun p=>ii (a=r (nx L p))*ii (b=c p)) (fun a ha=>by rw[<- jA];exact aw fun b hb=>pt a b ha hb),jA]
 congr 1
 rw[aw (n:=n) (g:=fun a=>sN L fun p=>ii (a=r (nx L p))) fun a _=>?_,oA,aw (n:=L) (g:=fun _=>1) fun p i=>?_]
 .have:∀k:Nat,sN k (fun _=>(1:Int))=k:=fun k=>by
   induction k with
   |zero=>rfl
   |succ k ih=>rw[bK,ih];omega
  exact this L
 .exact rR (f:=fun _=>1) (h.rn _ (s p i))
 .rw[oA]
  refine aw fun p i=>?_
  refine Eq.trans (aw fun b _=>?_) (rR (f:=fun _=>ii (a=r (nx L p))) (h.cm p i))
  by_cases y:b=c p
  .rw[if_pos y,mJ y,Int.mul_one]
  .rw[if_neg y,gO y,Qc]
end
end Rg
end L3
namespace L3
open PySem L2
section
variable {K:aae}{Γ:aad}{te:TE}{de:DE}
def DR(i:Nat)(c:DE)(E:aZ)(δ:Dl):Prop:=i6 δ i fun ds=>c δ fun x=>∃es,x=D.lst es/\ds.all rC=true/\es.all rC=true/\ds.length+es.length<=1000/\E.nx (δ.set i (some (.lst (ds++es))))
theorem Hs(i:Nat)(c:ER K Γ te de)(hi:i∈Γ:=by decide):ST0 K (yR (tBM K "list" Fc (bR i) (bx te gT))) Γ Γ (DR i de):=by
 intro B0 Dn E fps δ C H k o h
 obtain ⟨ds,e,h⟩:=fF h
 obtain ⟨m,xs0,I,j,B,G,F⟩:=o.z7 e
 refine⟨.ref m,j,.inl ⟨rfl,xs0,.inl (.inl B)⟩,c.run o (c.mono _ _ _ (fun x z v L s r=>?_) h)⟩
 obtain ⟨es,rfl,t,q,p,z⟩:=z
 obtain ⟨fp,b,n,J,rfl,hb,rfl,r⟩:=r
 obtain rfl:=r.qv q
 obtain ⟨a,xs,g,y,f,u⟩:=CD (o.same s) hi e t
 rw[j] at g;cases g
 exact⟨m,b,xs,n,rfl,rfl,y,hb,by rw[f.length,r.length];exact fA p,k (u (Rfs.Oe f r)) z⟩
end
end L3
namespace L3
namespace Rg
open Fl
section
variable {n m:Nat}{t o:aaa}
theorem Hb(i:aP n m t)(j:aP n m o)(ha:a<n)(hb:b<m)(q:dO t a=dO o a)(hd:cellAt t a b≠cellAt o a b):∃c,c<m/\cellAt t a c<cellAt o a c:=by
 refine PH fun z=>?_
 have g:∀c,c<m->0<=cellAt t a c - cellAt o a c:=fun c h=>by
  rcases Int.lt_or_le (cellAt t a c) (cellAt o a c) with y|y
  .exact absurd ⟨c,h,y⟩ z
  .omega
 have p:=tD (f:=fun c=>cellAt t a c - cellAt o a c) g hb (by have:=g b hb;omega)
 rw[jA,<- qw i ha,<- qw j ha] at p
 omega
theorem G2(h:aP n m t)(i:aP n m o)(ha:a<n)(q:fg t b=fg o b)(hd:cellAt t a b<cellAt o a b):∃c,c<n/\cellAt o c b<cellAt t c b:=by
 refine PH fun z=>?_
 have j:∀c,c<n->0<=cellAt o c b - cellAt t c b:=fun c g=>by
  rcases Int.lt_or_le (cellAt o c b) (cellAt t c b) with y|y
  .exact absurd ⟨c,g,y⟩ z
  .omega
 have p:=tD (f:=fun c=>cellAt o c b - cellAt t c b) j ha ()
 rw[jA,<- ot h,<- ot i] at p
 omega
structure Pt(n m:Nat)(t o:aaa)(f:Nat->Nat)(row:Nat)(rs cs:aad):Prop where
 len:cs.length=rs.length
 nd:rs.Nodup
 rn:∀x∈rs,x<n
 cm:∀x∈cs,x<m
 a:∀p,p<rs.length->cellAt t (rs.getD p 0) (cs.getD p 0)=0/\cellAt o (rs.getD p 0) (cs.getD p 0)=1
 b:∀p,p+1<rs.length->rs.getD (p+1) 0=f (cs.getD p 0)
 l:1<=rs.length->row=f (cs.getD (rs.length - 1) 0)
 fb:∀p,p<rs.length->cellAt t (f (cs.getD p 0)) (cs.getD p 0)=1/\cellAt o (f (cs.getD p 0)) (cs.getD p 0)=0
 hr:row<n/\∃b,b<m/\cellAt t row b≠cellAt o row b
theorem gA(h:p<xs.length):(xs++[x]).getD p 0=xs.getD p 0:=by
 rw[be,OE h,<- be]
theorem gL:(xs++[x]).getD xs.length 0=x:=by
 rw[be,OI (Ol _),QU];rfl
theorem Pt.step(h:Pt n m t o f row rs cs)(hn:row∉rs)(q:c<m)(c1:cellAt t row c=0)(v:cellAt o row c=1)(fn:f c<n)(u:cellAt t (f c) c=1)(s:cellAt o (f c) c=0):Pt n m t o f (f c) (rs++[row]) (cs++[c]):=by
 have e:=h.len
 have g:(rs++[row]).length=rs.length+1:=by rw[Ox];rfl
 have gl:(cs++[c]).getD rs.length 0=c:=by rw[<- e];exact gL
 refine⟨by rw[g,Ox,e];rfl,?_,?_,?_,?_,?_,?_,?_,fn,c,q,()⟩
 .rw[Ow]
  exact⟨h.nd,by simp,fun x i y r z=>hn (by rw[mo.mp r] at z;rw[<- z];exact i)⟩
 .intro x i
  rcases Oj.mp i with y|y
  .exact h.rn x y
  .rw[mo.mp y];exact h.hr.1
 .intro x i
  rcases Oj.mp i with y|y
  .exact h.cm x y
  .rw[mo.mp y];exact q
 .intro p j
  rw[g] at j
  rcases P9 p rs.length with y|y
  .rw[gA y,gA ()];exact h.a p y
  .have:p=rs.length:=()
   subst this
   rw[gL,gl];exact⟨c1,v⟩
 .intro p j
  rw[g] at j
  rw[gA (xs:=cs) ()]
  rcases P9 (p+1) rs.length with y|y
  .rw[gA y];exact h.b p y
  .have:rs.length=p+1:=()
   rw[<- this,gL,h.l (),this,QA]
 .intro _
  rw[g,QA,gl]
 .intro p j
  rw[g] at j
  rcases P9 p rs.length with y|y
  .rw[gA ()];exact h.fb p y
  .have:p=rs.length:=()
   subst this
   rw[gl];exact⟨u,s⟩
theorem gD{xs:aad}{s p:Nat}:(xs.drop s).getD p 0=xs.getD (s+p) 0:=by
 rw[be,List.getElem?_drop,<- be]
theorem Pt.ring(h:Pt n m t o f row rs cs)(v:rs[s]?=some row):BO n m (rs.drop s).length t o (fun p=>(rs.drop s).getD p 0) (fun p=>(cs.drop s).getD p 0):=by
 obtain ⟨sl,F⟩:=oe.mp v
 have e:=h.len
 have B:(rs.drop s).length=rs.length - s:=Pg
 have r:rs.getD s 0=row:=by rw[be,v];rfl
 have mem:∀p,p<rs.length->rs.getD p 0∈rs:=fun p c=>by rw[be,ab c];exact ON c
 have E:∀p,p<rs.length->cs.getD p 0∈cs:=fun p c=>by rw[be,ab ()];exact ON _
 have inj:∀p q,p<rs.length->q<rs.length->rs.getD p 0=rs.getD q 0->p=q:=fun p q c g z=>by
  rw[be,ab c,be,ab g] at z
  exact (List.getElem_inj h.nd).mp z
 have u:∀p,p<rs.length - s->rs.getD (s+nx (rs.length - s) p) 0=f (cs.getD (s+p) 0):=fun p c=>by
  unfold nx
  by_cases y:p+1<rs.length - s
  .rw[if_pos y,<- Nat.add_assoc,h.b (s+p) ()]
  .rw[if_neg y,Nat.add_zero,r,h.l (),show rs.length - 1=s+p by omega]
 have two:2<=rs.length - s:=by
  rcases P9 (rs.length - s) 2 with y|y
  .have e1:rs.length - 1=s:=()
   have j:=h.l ()
   have i:=(h.fb s sl).1
   have C:=(h.a s sl).1
   rw[e1] at j
   rw[<- j] at i
   rw[r] at C
   omega
  .exact y
 have x:∀p,p<rs.length - s->nx (rs.length - s) p<rs.length - s:=fun p c=>by unfold nx;split<;>omega
 rw[B]
 refine⟨⟨two,fun p q c g z=>?_,fun p q c g z=>?_,fun p c=>?_,fun p c=>?_,fun p c=>?_,fun p c=>?_,?_⟩,fun p c=>?_,fun p c=>?_⟩
 .rw[gD,gD] at z
  have:=inj _ _ () () z
  omega
 .rw[gD,gD] at z
  have j:=u p c
  rw[z,<- u q g] at j
  have l1:=x p c
  have l2:=x q g
  have i:=inj _ _ () () j
  unfold nx at i
  split at i<;>split at i<;>omega
 .show (rs.drop s).getD p 0<n
  rw[gD];exact h.rn _ (mem _ ())
 .show (cs.drop s).getD p 0<m
  rw[gD];exact h.cm _ (E _ ())
 .show cellAt t ((rs.drop s).getD p 0) ((cs.drop s).getD p 0)=0
  rw[gD,gD];exact (h.a _ ()).1
 .show cellAt t ((rs.drop s).getD (p+1) 0) ((cs.drop s).getD p 0)=1
  rw[gD,gD,<- Nat.add_assoc,h.b (s+p) ()]
  exact (h.fb _ ()).1
 .show cellAt t ((rs.drop s).getD 0 0) ((cs.drop s).getD (rs.length - s - 1) 0)=1
  rw[gD,gD,Nat.add_zero,r,show s+(rs.length - s - 1)=rs.length - 1 by omega,h.l ()]
  exact (h.fb _ ()).1
 .show cellAt o ((rs.drop s).getD p 0) ((cs.drop s).getD p 0)=1
  rw[gD,gD];exact (h.a _ ()).2
 .show cellAt t ((rs.drop s).getD (nx (rs.length - s) p) 0) ((cs.drop s).getD p 0)=1/\cellAt o ((rs.drop s).getD (nx (rs.length - s) p) 0) ((cs.drop s).getD p 0)=0
  rw[gD,gD,u p c]
  exact h.fb _ ()
end
end Rg
end L3
namespace L3
open PySem L2
section
variable {K:aae}{ρ:Bool}{Γr Γl:aad}{te:TE}{de:DE}{H:Hp}
def Nf:D->Bool|.tup _=>true|_=>false
theorem E9:∀{u:aaa}{ys:List V}{f:List Addr},Rfs K H (u.map dI) ys f->∀c∈f,∃r∈u,H c=some (.lst (r.map V.int))
 |[],ys,f,h,c,g=>by obtain ⟨_,rfl⟩:=h;nomatch g
 |r::u,ys,f,h,c,g=>by
  obtain ⟨x,q,p,o,rfl,rfl,m,j⟩:=h
  obtain ⟨a,xs,n,rfl,ha,rfl,hr⟩:=m
  have e1:=hr.wI
  have e2:n=[]:=hr.qv (by rw[Qb];exact OP.mpr fun _ _=>rfl)
  subst e1;subst e2
  rcases Oj.mp g with z|z
  .rw[mo.mp z];exact⟨r,k0,ha⟩
  .obtain ⟨i,hm,e⟩:=E9 j c z
   exact⟨i,gV _ hm,e⟩
def z5(i a:Nat)(c:DE)(E:aZ)(δ:Dl):Prop:=i6 δ i fun es=>es.all rC=true/\es.all Nf=true/\c δ fun x=>∃u:aaa,x=dT u/\u≠[]/\(∀r∈u,r≠[])/\E.nx (δ.set a (some x))
theorem IC(i a:Nat)(C:ER K [i] te de)(X:i≠a:=by decide):ST K ρ Γr Γl (j3 te (dZ a)) [i] [i] (z5 i a de):=by
 intro B0 Dn E fps δ Z H k o h
 obtain ⟨es,e,I,t,h⟩:=fF h
 refine C.run o (C.mono _ _ _ (fun x z v H' s r=>?_) h)
 obtain ⟨u,rfl,L,J,M⟩:=z
 obtain ⟨fp,r⟩:=r
 obtain ⟨U,xs,fq,g1,F,P,n⟩:=(o.same s).z7 e
 obtain rfl:=n.qv I
 obtain ⟨b,ys,p,rfl,hb,rfl,hr⟩:=r
 have B:∀x G,xs=x::G->∃c f,x=.ref c/\H' c=some (.tup f):=fun x G ex=>by
  subst ex
  cases es with
  |nil=>exact absurd n.length (by simp)
  |cons d es =>
   obtain ⟨x',q',R,Q,e1,e2,m,O⟩:=n
   cases e1
   rw[Qu,Pj] at t
   cases d with
   |tup ds=>obtain ⟨c,f,T,g,_⟩:=m;exact⟨c,f,T,g⟩
   |_=>exact absurd t.1 Oz
 have no:∀c∈b::p,c≠U:=fun c g y=>by
  subst y
  rcases KE.mp g with w|w
  .subst w
   rw[F] at hb;cases hb
   cases u with
   |nil=>exact L rfl
   |cons r u =>
    obtain ⟨x,q,R,Q,rfl,_,m,O⟩:=hr
    obtain ⟨c,f,rfl,Y⟩:=B x q rfl
    obtain ⟨c2,zs,fz,e1,e2,_⟩:=m
    cases e1
    rw[Y] at e2;cases e2
  .obtain ⟨r,hm,e1⟩:=E9 hr c w
   rw[F] at e1;cases e1
   cases r with
   |nil=>exact J _ hm rfl
   |cons i0 r =>
    obtain ⟨c,f,ex,_⟩:=B _ _ rfl
    cases ex
 have ok:=o.wH a s (x:=dT u) (v:=.ref b) (fp:=b::p) ⟨b,ys,p,rfl,hb,rfl,hr⟩ (fun j hj c g=>by
  rw[mo.mp hj,P]
  exact fun y=>no c g (mo.mp y))
 exact k.nx (ok.sub fun j hj=>bE.mpr ⟨hj,fun y=>by rw[mo] at y hj;exact X (hj.symm.trans y)⟩) M
end
section
variable {K:aae}{Γ:aad}{H:Hp}{te:TE}{de:DE}{d:DS}
def Km(c:DE)(δ:Dl)(P:List D->Prop):Prop:=c δ fun x=>∃ds,x=.tup ds/\ds.all D.ax=true/\P ds
theorem MW(m:ER K Γ te de):IT K Γ (ML K te) (Km de) :=
 ⟨fun δ P L k h=>m.mono _ _ _ (fun x ⟨ds,e,g,z⟩=>⟨ds,e,g,k _ z⟩) h,
 fun {B0 fps δ E H R} o h=>m.run o (m.mono _ _ _ (fun x z v H' s r=>by
  obtain ⟨ds,rfl,g,z⟩:=z
  obtain ⟨fp,a,xs,rfl,ha,hr⟩:=r
  have F:=hr.gS g
  refine⟨a,rfl,⟨xs,.inl (.inl ha)⟩,z (Itt K a) H' [] s (fun _ _ _ h=>(nomatch h)) fun B G J t=>?_⟩
  have n:B a=some (.tup xs):=t a _ ha (.inl ⟨_,rfl⟩)
  have u:=hr.length
  refine⟨fun {i q} c hi=>⟨xs,xs[i]'(),.inl (.inl (c.st _ _ n trivial)),by simp [u,hi]⟩,fun {i q y M d} c j hd=>?_,fun {i q} c hi=>⟨xs,.inl (.inl (c.st _ _ n trivial)),()⟩⟩
  obtain ⟨rfl,j⟩:=j
  have ex:=j xs (.inl (.inl (c.st _ _ n trivial)))
  obtain ⟨w,f,hw,C,I⟩:=hr.get hd
  rw[ex] at hw;cases hw
  have p:d.ax=true:=OP.mp g d (OV hd)
  obtain ⟨rfl,rfl⟩:=C.ax p
  exact⟨Same.refl _,[],Rf.sk p,fun _ h=>(nomatch h)⟩) h)⟩
end
end L3
namespace L3
open PySem
open L2 hiding D Rf Rfs Rp dI dT
section
variable {K:aae}{Γ:aad}
def Ng(i k:Nat)(δ:Dl)(P:DK):Prop:=∃ds y,δ[i]?=some (some (.tup ds))/\ds[k]?=some y/\P y
theorem Ac{c:Type}{xs:List c}{k:Nat}{w:c}(h:xs[k]?=some w):atI xs (k:Int)=some w:=by
 have f:k<xs.length:=(oe.mp h).1
 unfold atI
 rw[cB () ()]
 simpa using h
theorem Ew(i k:Nat)(h:i∈Γ:=by decide):EM K Γ [i] (tOp (xP K) (bR i) (tC (.int (k:Int)))) (Ng i k) :=
 ⟨fun δ P t f ⟨ds,y,e,c,q⟩=>⟨ds,y,e,c,f _ q⟩,fun {B0 fps δ s H Q} o q=>by
  obtain ⟨ds,y,e,c,q⟩:=q
  obtain ⟨v,g,a,xs,rfl,ha,r⟩:=o.val i _ e
  obtain ⟨w,j,m,p,sub,n⟩:=r.Je (o.own i h).1 c
  exact⟨.ref a,g,a,xs,k,w,rfl,rfl,by first|exact .inl ha|exact .inl (.inl ha)|exact ha,Ac m,q w H j (Same.refl H) p ⟨n,fun b hb=>((o.own i h).2 b (sub b hb)).2,fun b hb=>.inr ⟨i,mo.mpr rfl,sub b hb⟩⟩⟩⟩
def Ms(i:Nat)(δ:Dl)(P:List D->Prop):Prop:=∃x y z,δ[i]?=some (some (.tup [x,y,z]))/\P [y,z]
theorem Bb(i:Nat)(h:i∈Γ:=by decide):AM K Γ [i] (bx (tOp (xP K) (bR i) (tC (.int 1))) (bx (tOp (xP K) (bR i) (tC (.int 2))) gT)) (Ms i) :=
 ⟨fun δ P J n ⟨x,y,z,e,q⟩=>⟨x,y,z,e,n _ q⟩,fun {B0 fps δ t H Q} o q=>by
  obtain ⟨x,y,z,e,q⟩:=q
  obtain ⟨v,f,a,xs,rfl,ha,r⟩:=o.val i _ e
  have own:=o.own i h
  obtain ⟨v0,C,I,G,rfl,j,q0,r⟩:=r
  obtain ⟨v1,B,p,F,rfl,rfl,m,r⟩:=r
  obtain ⟨c,u,g,E,rfl,rfl,q2,r⟩:=r
  obtain ⟨rfl,rfl⟩:=r
  rw[j] at own
  obtain ⟨nd,mu⟩:=own
  have s:=(Ow.mp nd).2.1
  have sq:SqT K H a [v0,v1,c]:=by first|exact .inl ha|exact .inl (.inl ha)|exact ha
  refine⟨.ref a,f,a,_,1,v1,rfl,rfl,sq,Ac (k:=1) rfl,.ref a,f,a,_,2,c,rfl,rfl,sq,Ac (k:=2) rfl,q _ H _ (Same.refl H) ⟨v1,_,p,g++[],rfl,rfl,m,c,_,g,[],rfl,rfl,q2,rfl,rfl⟩ ⟨s,fun b hb=>(mu b (Fk _ hb)).2,fun b hb=>.inr ⟨i,mo.mpr rfl,?_⟩⟩⟩
  rw[j];exact Fk _ hb⟩
end
end L3
namespace Tal
theorem Ii{f:aab->Int}:∀{ls:aaa},(∀l∈ls,0<=f l)->0<=(ls.map f).sum
 |[],_=>by simp
 |a::ls,h=>by
  rw[Oi,Oy]
  have:=h a k0
  have:=Ii (f:=f) (ls:=ls) fun l c=>h l (gV _ c)
  omega
theorem uK{f:aab->Int}:∀{ls:aaa},(∀l∈ls,0<=f l)->(0<(ls.map f).sum↔∃l∈ls,0<f l)
 |[],_=>by simp
 |a::ls,h=>by
  have j:=h a k0
  have g:∀l∈ls,0<=f l:=fun l c=>h l (gV _ c)
  have ih:=uK g
  have i:=Ii g
  rw[Oi,Oy]
  constructor
  .intro z
   by_cases q:0<f a
   .exact⟨a,k0,q⟩
   .obtain ⟨l,c,k⟩:=ih.mp ()
    exact⟨l,gV _ c,k⟩
  .rintro ⟨l,c,k⟩
   rcases KE.mp c with e|e
   .subst e;omega
   .have:=ih.mpr ⟨l,e,k⟩;omega
theorem yn:∀{R C:aab},0<W R C↔∃T,Ok R C T
 |[],C=>by
  unfold W
  constructor
  .intro h
   by_cases z:∀x∈C,x=0
   .exact⟨[],z⟩
   .rw[if_neg z] at h;omega
  .rintro ⟨T,h⟩
   cases T with
   |nil=>rw[if_pos (show ∀x∈C,x=0 from h)];omega
   |cons _ _=>exact h.elim
 |r::R,C=>by
  rw[W,uK fun l _=>dM]
  constructor
  .rintro ⟨l,c,h⟩
   obtain ⟨T,f⟩:=yn.mp h
   exact⟨l::T,c,f⟩
  .rintro ⟨T,h⟩
   cases T with
   |nil=>exact h.elim
   |cons l T=>exact⟨l,h.1,yn.mpr ⟨T,h.2⟩⟩
theorem M3:0<sh r R' C k↔∃l T,Ok (r::R') C (l::T)/\l.getD k 0=1:=by
 have f:∀l∈aG r C.length,0<=W R' (sub C l)*l.getD k 0:=fun l c=>by
  have:=dM (rs:=R') (left:=sub C l)
  rcases eJ (k:=k) (aU.mp c).1 with e|e<;>rw[e]<;>omega
 rw[sh,uK f]
 constructor
 .rintro ⟨l,c,h⟩
  rcases eJ (k:=k) (aU.mp c).1 with e|e
  .rw[e] at h;omega
  .obtain ⟨T,g⟩:=yn.mp (show 0<W R' (sub C l) by rw[e] at h;omega)
   exact⟨l,T,⟨c,g⟩,e⟩
 .rintro ⟨l,T,h,e⟩
  refine⟨l,h.1,?_⟩
  have:=yn.mpr ⟨T,h.2⟩
  rw[e];omega
theorem B5{f g:aab->Int}:∀{ls:aaa},(ls.map f).sum - (ls.map g).sum=(ls.map fun l=>f l - g l).sum
 |[]=>rfl
 |a::ls=>by
  rw[Oi,Oi,Oi,Oy,Oy,Oy,<- B5]
  omega
theorem NC:sh r R' C k<W (r::R') C↔∃l T,Ok (r::R') C (l::T)/\l.getD k 0=0:=by
 have f:∀l∈aG r C.length,0<=W R' (sub C l) - W R' (sub C l)*l.getD k 0:=fun l c=>by
  have:=dM (rs:=R') (left:=sub C l)
  rcases eJ (k:=k) (aU.mp c).1 with e|e<;>rw[e]<;>omega
 have e:sh r R' C k<W (r::R') C↔0<((aG r C.length).map fun l=>W R' (sub C l) - W R' (sub C l)*l.getD k 0).sum:=by
  rw[<- B5,sh,W];omega
 rw[e,uK f]
 constructor
 .rintro ⟨l,c,h⟩
  rcases eJ (k:=k) (aU.mp c).1 with e|e
  .obtain ⟨T,g⟩:=yn.mp (show 0<W R' (sub C l) by rw[e] at h;omega)
   exact⟨l,T,⟨c,g⟩,e⟩
  .rw[e] at h;omega
 .rintro ⟨l,T,h,e⟩
  refine⟨l,h.1,?_⟩
  have:=yn.mpr ⟨T,h.2⟩
  rw[e];omega
theorem Ip{a b:aab}(p:a.Perm b):a.sum=b.sum:=by
 induction p with
 |nil=>rfl
 |cons x _ ih=>rw[Oy,Oy,ih]
 |swap x y l=>rw[Oy,Oy,Oy,Oy];omega
 |trans _ _ f c=>exact f.trans c
theorem F4(p:T.Perm U):cols w T=cols w U:=by
 unfold cols
 exact O7 fun k _=>Ip (p.map _)
theorem Fq(p:T.Perm U)(h:Ok R C T):Ok (U.map List.sum) C U:=by
 obtain ⟨_,e,q⟩:=fo h
 rw[e,F4 p]
 exact vB fun t ht=>q t (p.mem_iff.mpr ht)
theorem Ji(hi:i<R.length)(h:Ok (R.getD i 0::wo R i) C (l::T)):∃U,Ok R C U/\U.getD i []=l:=by
 have e:=(fo h).1
 rw[Oi] at e
 have e1:=List.cons.inj e
 have c:T.length=R.length - 1:=by have:=congrArg List.length e1.2;rw[Hw hi,dz] at this;exact this.symm
 have f:(T.take i).length=i:=by rw[P4,c];omega
 refine⟨T.take i++l::T.drop i,?_,?_⟩
 .have p:(l::T).Perm (T.take i++l::T.drop i):=by
   refine List.Perm.trans ?_ List.perm_middle.symm
   rw[PJ]
  have o:=Fq p h
  have er:(T.take i++l::T.drop i).map List.sum=R:=by
   rw[Ov,Oi,<- e1.1,QJ,Qt,<- e1.2,wo]
   have l1:(R.take i).length=i:=by rw[P4];omega
   rw[List.take_append_of_le_length (),Po (),List.drop_append_of_le_length (),Pe (),List.nil_append]
   rw[be,ab hi]
   show R.take i++R[i]::R.drop (i+1)=R
   rw[<- Ou hi,PJ]
  rw[er] at o
  exact o
 .rw[be,OI (),f,QU];rfl
theorem Ey(hi:i<R.length)(h:Ok R C U):∃T,Ok (R.getD i 0::wo R i) C (U.getD i []::T):=by
 have g:=tL h
 have e:=(fo h).1
 have c:i<U.length:=()
 refine⟨U.take i++U.drop (i+1),?_⟩
 have f:U=U.take i++U.getD i []::U.drop (i+1):=by
  rw[be,ab c]
  show U=U.take i++U[i]::U.drop (i+1)
  rw[<- Ou c,PJ]
 have p:U.Perm (U.getD i []::(U.take i++U.drop (i+1))):=by
  conv=>lhs;rw[f]
  exact List.perm_middle
 have o:=Fq p h
 rw[Oi,Ov,QJ,Qt,<- e] at o
 have e2:(U.getD i []).sum=R.getD i 0:=by
  rw[e,be,be,ox,ab c];rfl
 rw[e2] at o
 exact o
theorem uX(hi:i<R.length):0<sh (R.getD i 0) (wo R i) C k↔∃T,Ok R C T/\(T.getD i []).getD k 0=1:=by
 rw[M3]
 constructor
 .rintro ⟨l,T,h,e⟩
  obtain ⟨U,c,g⟩:=Ji hi h
  exact⟨U,c,by rw[g];exact e⟩
 .rintro ⟨U,h,e⟩
  obtain ⟨T,f⟩:=Ey hi h
  exact⟨_,T,f,e⟩
theorem AG(hi:i<R.length):sh (R.getD i 0) (wo R i) C k<W R C↔∃T,Ok R C T/\(T.getD i []).getD k 0=0:=by
 rw[<- N1 hi,NC]
 constructor
 .rintro ⟨l,T,h,e⟩
  obtain ⟨U,c,g⟩:=Ji hi h
  exact⟨U,c,by rw[g];exact e⟩
 .rintro ⟨U,h,e⟩
  obtain ⟨T,f⟩:=Ey hi h
  exact⟨_,T,f,e⟩
end Tal
namespace L2
open PySem PySem.Spec PyProof.Rows
section
variable {X:Cx}{k k':Nat}{f:Addr}{fd:FuncData}{ps:List Str}{sp:Sp}{x:Str}{st:Stmt}{e a b Rx iter:Expr}{es:List Expr}{t:TA}{te ta tb:TE}{p pos QQ tp:Pos}{wi:TI}{scope:Scope}
theorem wcl(F:gP X.prog X.w X.K X.mg X.base CX0 k f fd ps sp)(hr:fu k' X.A)(E:FnAt X.K X.mg x st ps f fd)(ha:PA X (e::es) t)(c:k<=k':=by decide)(g:Gl X x:=by exact rfl)
  (i:(x == ("__debug__" : Str))=false:=by decide) (h:starEach (e::es) X.env=(false,eval e X.env)::starEach es X.env:=by rfl) (j:(backTo pos (starEach es X.env)).any (·.1)=false:=by rfl):PE X (.Call (.Name x p) (e::es) [] pos) (tX sp [] E0 t) :=
 ET F (hr.mono c) g E.mg E.fn.kp E.bd .nil fL ha i h j
theorem wst(i:Nat)(j:X.N.Nodup)(h:PE X e te)(hi:X.N[i]?=some x:=by exact rfl)(c:Loc X.env.scope x:=by first|exact Or.inl rfl|exact Or.inr rfl)(f:swapsWith e (some (.Name x QQ)) pos.line X.env=pure false:=by rfl)
  (g:X.fn x=true\/X.env.scope.names.lookup x=some .local:=by first|exact .inl rfl|exact .inr rfl|assumption):PS X (.Assign [.Name x QQ] e pos) (j3 te (dZ i)):=LY j hi c h f g
theorem wpg(i:Nat)(g:X.N.Nodup)(hi:X.N[i]?=some x:=by exact rfl)(c:Loc X.env.scope x:=by first|exact Or.inl rfl|exact Or.inr rfl)
  (f:X.fn x=true\/X.env.scope.names.lookup x=some .local:=by first|exact .inl rfl|exact .inr rfl|assumption):PG X (.Name x pos) (dZ i):=bT g hi c f
theorem wix(K:aae)(ha:PE X a ta)(hb:PE X b tb)(h:X.K=K:=by exact rfl)(c:Ai b:=by exact fun _ _=>rfl):PE X (.Subscript a b pos) (tOp (x9 K) ta tb):=Hd (Jf h) ha hb c
theorem wit(K:aae)(ha:PE X a ta)(hb:PE X b tb)(h:X.K=K:=by exact rfl)(c:Ai b:=by exact fun _ _=>rfl):PE X (.Subscript a b pos) (tOp (xP K) ta tb):=Hd (KP h) ha hb c
theorem wil(K:aae)(ha:PE X a ta)(h:X.K=K:=by exact rfl):PI X tg a (BA K ta):=G1 h ha
theorem wln(K:aae)(hm:X.mg "len" = none)(ha:PE X a ta)(h:X.K=K:=by exact rfl)(f:Gl X "len":=by rfl)(c:starEach [a] X.env=(false,eval a X.env)::starEach [] X.env:=by rfl)(g:(backTo pos (starEach [] X.env)).any (·.1)=false:=by rfl) :
  PE X (.Call (.Name "len" p) [a] [] pos) (tCB (fun xs H Q=>∃p ys,xs=[.ref p]/\(SqL K H p ys\/SqT K H p ys)/\Q (.int ys.length) H) (bx ta gT)):=az (FX h) f hm PySem.boot_len (eV ha cK c) nofun nofun c g
theorem wfo{f:List Stmt}{g:TG}{tb:TS}{c:Expr}(hi:PI X c iter wi)(j:PG X c g)(hb:PSs X f tb)(i:PassesOwn (model X.prog X.w) X.A X.env X.xe:=by exact PassesOwn.never)(m:X.calm=true:=by exact rfl)(h:∀x,foldedSetIterable iter X.env x=pure x:=by intro _;rfl):PS X (.For c iter f [] pos) (K7 wi g tb):=LN i m hi j hb h
theorem wco(sc0:Scope)(x:Str)(cap:List Str)(idx:aad)(hi:PI X (.Name x tp) iter wi)(j:∀cs C fp s₀ H₀,PE (cxC X ([x]++cap) scope cs C fp s₀ H₀) Rx te)(h:DC sc0 scope [x] cap=true:=by decide +kernel)(e:X.env.scope=sc0:=by exact rfl)(ci:idx.map (fun i=>X.N[i]?)=cap.map some:=by exact rfl)(nd:si ([x]++cap)=true:=by decide +kernel)
  (c:∀cs C fp s₀ H₀,Loc (cxC X ([x]++cap) scope cs C fp s₀ H₀).env.scope x:=by exact fun _ _ _ _ _=>by first|exact Or.inl rfl|exact Or.inr rfl)
  (g:∀cs C fp s₀ H₀,(cxC X ([x]++cap) scope cs C fp s₀ H₀).fn x=true\/(cxC X ([x]++cap) scope cs C fp s₀ H₀).env.scope.names.lookup x=some .local:=by exact fun _ _ _ _ _=>by first|exact .inl rfl|exact .inr rfl)
  (m:X.calm=true:=by rfl) (f:∀x,foldedSetIterable iter X.env x=pure x:=by intro _;rfl):PE X (.ListComp Rx [⟨.Name x tp,iter,[],0⟩] scope pos) (sQ wi (dZ 0) te [x].length idx) :=
 rJ (tn:=[x]) (aH.of h e ci) hi (iC.name (Nat.zero_lt_one)) (fun cs C fp s₀ H₀=>bT (i:=0) (aM nd) rfl (c cs C fp s₀ H₀) (g cs C fp s₀ H₀)) j m f
end
section
variable {X:Cx}{k k':Nat}{ps:List Str}{sp:Sp}{x:Str}{st:Stmt}{e a b e1 e2 e3:Expr}{es:List Expr}{t:TA}{te ta tb t1 t2 t3:TE}{p pos:Pos}
def Ze(P:Program)(w:World)(K:aae)(mg:Str->Option Value)(base:Heap)(k:Nat)(x:Str)(st:Stmt)(ps:List Str)(sp:Sp):Prop:=∃f c,FnAt K mg x st ps f c/\gP P w K mg base CX0 k f c ps sp
theorem wcc(C:Ze X.prog X.w X.K X.mg X.base k x st ps sp)(hr:fu k' X.A)(ha:PA X (e::es) t)(c:k<=k':=by decide)(f:Gl X x:=by exact rfl)
  (h:(x == ("__debug__" : Str))=false:=by decide) (g:starEach (e::es) X.env=(false,eval e X.env)::starEach es X.env:=by rfl) (i:(backTo pos (starEach es X.env)).any (·.1)=false:=by rfl):PE X (.Call (.Name x p) (e::es) [] pos) (tX sp [] E0 t) :=
 let ⟨_,_,E,F⟩:=C;wcl F hr E ha c f h g i
theorem p1(h:PE X e1 t1)(c:starEach [e1] X.env=(false,eval e1 X.env)::starEach [] X.env:=by rfl):PA X [e1] (bx t1 gT):=eV h cK c
theorem p2(h:PE X e1 t1)(f:PE X e2 t2)(c:starEach [e1,e2] X.env=(false,eval e1 X.env)::starEach [e2] X.env:=by rfl)(g:starEach [e2] X.env=(false,eval e2 X.env)::starEach [] X.env:=by rfl):PA X [e1,e2] (bx t1 (bx t2 gT)):=eV h (eV f cK g) c
theorem p3(h:PE X e1 t1)(g:PE X e2 t2)(f:PE X e3 t3)(c:starEach [e1,e2,e3] X.env=(false,eval e1 X.env)::starEach [e2,e3] X.env:=by rfl)(j:starEach [e2,e3] X.env=(false,eval e2 X.env)::starEach [e3] X.env:=by rfl)(i:starEach [e3] X.env=(false,eval e3 X.env)::starEach [] X.env:=by rfl):PA X [e1,e2,e3] (bx t1 (bx t2 (bx t3 gT))):=eV h (p2 g f j i) c
theorem pc(c:OpR X (compareOp op) r)(ha:PE X a ta)(hb:PE X b tb)(h:op≠.In:=by decide)(f:op≠.NotIn:=by decide):PT X (.Compare a [op] [b] pos) (yv (tOp r ta tb)):=uS c ha hb (jr _ h f)
theorem pr(c:PE X e te):PSs X [.Return (some e) pos] (C0 te):=aA (Mj c)
end
end L2
namespace L3
open PySem
open L2 hiding D Rf Rfs Rp dI dT
open PyProof.Rows hiding St
section
variable {K:aae}{ρ:Bool}{Γr Γl Γ UG Γn M:aad}{u:TS}{te ta tb tc:TE}{de da db dc:DE}{e:DS}
theorem wfd{X:Cx}{e:Expr}{f:Str}{pos:Pos}(K:aae)(c:PE X e ta)(g:X.K=K:=by exact rfl)(hb:attributeBase e f X.env (eval e X.env)=eval e X.env:=by rfl):PE X (.Attribute e f pos) (pQ K ta f):=KL g c hb
theorem rv(i:Nat)(h:i∉Γ:=by decide):ER K Γ (bR i) (iI i):=ES.er (af i h)
theorem ri:ER K Γ (tC (.int i)) (vC (.int i)):=EM.er ee
theorem a1(h:ER K Γ ta da):AR K Γ (bx ta gT) (gH da tu):=rQ h He
theorem a2(h:ER K Γ ta da)(c:ER K Γ tb db):AR K Γ (bx ta (bx tb gT)) (gH da (gH db tu)):=rQ h (a1 c)
theorem a3(h:ER K Γ ta da)(f:ER K Γ tb db)(c:ER K Γ tc dc):AR K Γ (bx ta (bx tb (bx tc gT))) (gH da (gH db (gH dc tu))):=rQ h (a2 f c)
theorem ro{r:R2}{rv:D2}(c:OpV K r rv)(ha:ER K Γ ta da)(hb:ER K Γ tb db):ER K Γ (tOp r ta tb) (vOp rv da db):=EM.er (bY c ha hb)
theorem tt{r:R2}{rv:D2}(c:OpV K r rv)(ha:ER K Γ ta da)(hb:ER K Γ tb db):TR K Γ (yv (tOp r ta tb)) (t5 (vOp rv da db)):=qo (ro c ha hb)
theorem rl{S:DSp}{E:XK}{u:TA}{c:DA}(f:aB S)(hr:AR K Γ u c):ER K Γ (tX (spP K S) [] E u) (mE S c):=EM.er (aY f hr)
theorem sl{S:DSp}{E:XK}{u:TA}{c:DA}(f:aB S)(hr:AR K Γ u c):ES K Γ (tX (spP K S) [] E u) (mE S c):=EM.es (aY f hr)
theorem rn(h:ER K Γ ta da):ER K Γ (tCB (fun xs H Q=>∃p ys,xs=[.ref p]/\(SqL K H p ys\/SqT K H p ys)/\Q (.int ys.length) H) (bx ta gT)) (mE zS (gH da tu)):=EM.er (aX Hk (a1 h))
theorem rx(ha:ES K Γ ta da)(hb:ER K Γ tb db):ER K Γ (tOp (x9 K) ta tb) (vOp rf da db):=ES.er (br ha hb)
theorem ry(ha:ES K Γ ta da)(hb:ER K Γ tb db):ER K Γ (tOp (xP K) ta tb) (vOp oO da db):=ES.er (vq ha hb)
theorem sq(i:Nat)(c:ES K Γ te de)(f:ST K ρ Γr Γl u [] UG e):ST K ρ Γr Γl (zt (j3 te (dZ i)) u) Γ UG (Dd (GD i de) e):=aj (ST.post (Γn:=[]) (aO i c) (fun _ h=>(nomatch h))) f
theorem sr(c:EM K Γ [] te de)(hr:∀j∈Γr,j∈Γ/\j∉([]:aad):=by decide):ST K ρ Γr Γl (C0 te) Γ Γn (GB [] de):=cD (M:=[]) c (fun _ h=>(nomatch h)) hr
end
section
variable {P:Program}{w:World}{K:aae}{mg:Str->Option Value}{base:Heap}{x:Str}{st:Stmt}{N ps:List Str}{k:Nat}{S:DSp}{t:TS}{d:DS}{Γn:aad}
theorem m3(N:List Str)(h:∃f g,FnAt K mg x st ps f g)
  (o:∀{f:Addr}{c:Value}{A:Around}{outer:List Env}{s:Shared}{H:Hp}{E:XK},fu k (A.deeper (envOfC x (ak st) s.heap.objs.size f c))->N.Nodup->PSs (xR CX0 P w K mg base N x (ak st) f c A outer s H E).nox (cF st) t)
  (n:ST K true [] [] t [] Γn d) (m:∀ds P,S ds P->d (lD P) (bA N ds)) (i:bS N ps (ak st):=by walk_at "S") (j:∀ds P,S ds P->ds.length=ps.length:=by walk_at "l"):Ze P w K mg base (k+1) x st ps (spP K S):=by
 obtain ⟨f,g,F⟩:=h
 exact⟨f,g,F,F.fn.ok i (fun vs H Q E h=>j5 j h) fun c A outer s H vs Q E hr h=>⟨_,o hr i.nd,pI n m h⟩⟩
theorem dJ(N:List Str)(h:∃f o,FnAt K mg x st ps f o)
  (n:∀{f:Addr}{c:Value}{A:Around}{outer:List Env}{s:Shared}{H:Hp}{E:XK},fu k (A.deeper (envOfC x (ak st) s.heap.objs.size f c))->N.Nodup->PSs (xR CX0 P w K mg base N x (ak st) f c A outer s H E).nox (cF st) t)
  (m:ST K true [] [] t [] [] d) (j:∀ds P,S ds P->d (lD P) (bA N ds)) (g:bS N ps (ak st):=by walk_at "S") (i:∀ds P,S ds P->ds.length=ps.length:=by walk_at "l"):Ze P w K mg base (k+1) x st ps (spP K S):=m3 N h n m j g i
theorem N9(N:List Str)(h:∃f g,FnAt K mg x st ps f g)
  (o:∀{f:Addr}{c:Value}{A:Around}{outer:List Env}{s:Shared}{H:Hp}{E:XK},fu k (A.deeper (envOfC x (ak st) s.heap.objs.size f c))->N.Nodup->PSs (xR CX0 P w K mg base N x (ak st) f c A outer s H E).nox (cF st) t)
  (n:ST K false [] [] t [] Γn d) (m:∀ds P,S ds P->d (lD P) (bA N ds)) (i:bS N ps (ak st):=by walk_at "S") (j:∀ds P,S ds P->ds.length=ps.length:=by walk_at "l"):Ze P w K mg base (k+1) x st ps (spR K S):=by
 obtain ⟨f,g,F⟩:=h
 exact⟨f,g,F,F.fn.ok i (fun vs H Q E h=>Jy j h) fun c A outer s H vs Q E hr h=>⟨_,o hr i.nd,JK n m h⟩⟩
end
end L3
namespace L3
open PySem
open L2 hiding D Rf Rfs Rp dI dT
section
variable {C:Addr}{ns:List Str}
theorem ZB{c g:Type}{f:c->g}{a:c}{l:List c}:List.map f (a::l)=f a::List.map f l:=rfl
theorem Z2{g c:Type}{f:g->c}:List.map f []=[]:=rfl
theorem Qw{c:Type}{a:c}{l:List c}:(a::l)[0]?=some a:=rfl
theorem Qx{c:Type}{a:c}{l:List c}{i:Nat}:(a::l)[i+1]?=l[i]?:=rfl
theorem QL{c:Type}{a b:c}{l:List c}:(a::l).set 0 b=b::l:=rfl
theorem QZ{c:Type}{a b:c}{l:List c}{i:Nat}:(a::l).set (i+1) b=a::l.set i b:=rfl
theorem Q6{c:Type}{a:c}{l:List c}:(a::l).length=l.length+1:=rfl
theorem Q7{c:Type}:([]:List c).length=0:=rfl
theorem Wb{g c:Type}{f:c->g->c}{a:g}{b:c}{l:List g}:(a::l).foldl f b=l.foldl f (f b a):=rfl
theorem ZJ{g c:Type}{f:c->g->c}{b:c}:([]:List g).foldl f b=b:=rfl
theorem ZK{c:Type}{a:c}{l m:List c}:(a::l)++m=a::(l++m):=rfl
theorem ZL{c:Type}{m:List c}:[]++m=m:=rfl
theorem ZM{c:Type}{a b:c}:(some a).getD b=a:=rfl
theorem ZN{a b:Prop}:(if true=true then a else b)=a:=rfl
theorem ZO{a b:Prop}:(if false=true then a else b)=b:=rfl
theorem ZP{c:Type}{a:c}{n:Nat}:List.replicate (n+1) a=a::List.replicate n a:=rfl
theorem ZQ{c:Type}{a:c}:List.replicate 0 a=[]:=rfl
theorem Z9{a b:Prop}:(if (!true)=true then a else b)=b:=rfl
theorem Qe{a b:Prop}:(if (!false)=true then a else b)=a:=rfl
theorem Qg{a b:Prop}:(if True then a else b)=a:=rfl
theorem Qh{a b:Prop}:(if False then a else b)=b:=rfl
theorem lJ:y8 [.dic kvs] P=(∃ns:aab,kvs.map (·.1)=ns.map Sum.inl/\ns.length<64/\∀c:aab,c.Perm ns->c.Pairwise (·<=·)->P (dI c)):=rfl
theorem vi:EC n g (.tup ds) δ Q=(ds.length=n/\g ds δ Q):=rfl
theorem qb:Iy g gs (x::xs) δ Q=(g x δ fun c=>gs xs c Q):=rfl
theorem sM:LG [] δ Q=(Q δ):=rfl
theorem rZ:vI0 g (.int i) (.int j) P=(P (g i j)):=rfl
theorem u6{P:DK}{C:Int->Int->Prop}{g:Int->Int->D}{i j:Int}:vI C g (.int i) (.int j) P=(C i j/\P (g i j)):=rfl
theorem vk:vU g (.int i) P=(P (g i)):=rfl
theorem vT:asB (.bl k) Q=(Q k):=rfl
theorem sv:asI [.int i] Q=(Q i):=rfl
theorem pA:IH [.int i,.int j] Q=(Q i j):=rfl
theorem tF:asL (.lst ds) Q=(Q ds):=rfl
theorem sX{ns:aab}{Q:List D->Prop}:asL (.scr ns) Q=(Q (ns.map D.int)):=rfl
theorem pM:rf (.lst ds) (.int i) P=(asO (atI ds i) P):=rfl
theorem pD{P:DK}{ns:aab}{i:Int}:rf (.scr ns) (.int i) P=(asO (atI (ns.map D.int) i) P):=rfl
theorem pN:oO (.tup ds) (.int i) P=(asO (atI ds i) P):=rfl
theorem pP:zS [.lst ds] P=(P (.int ds.length)):=rfl
theorem pC:zS [.tup ds] P=(P (.int ds.length)):=rfl
theorem qa:BF QD x .non P=(P (.bl (if QD then !x.ui else x.ui))):=rfl
theorem pZ:G6 (.lst a) (.lst b) P=((a.all D.ax=true/\b.all D.ax=true/\a.length+b.length<=1000)/\P (.lst (a++b))):=rfl
theorem pS:JJ (.lst a) (.int k) P=((a.all D.ax=true/\(-(2 ^ 63)<=k/\k<2 ^ 63)/\a.length*k.toNat<=1000)/\P (.lst (xI a k.toNat))):=rfl
theorem m7:yu [.lst ds] P=(ds.all D.ax=true/\P (.lst ds)):=rfl
theorem nv:xx (.dic kvs) P=(P kvs):=rfl
theorem lL:AH [.lst ds] P=(ds.all D.ax=true/\P (.tup ds)):=rfl
theorem pV:asO (some d) P=(P d):=rfl
theorem xy:zS [.scr ds] P=P (.int ds.length):=propext Hl
theorem t8{ns:aab}{P:DK}:yu [.scr ns] P=P (dI ns):=propext GA
theorem tP{ns:aab}{P:DK}:Hn [dI ns] P=P (.int ns.sum):=propext Gr
theorem uc{ns:aab}{Q:aab->Prop}:AU (dI ns) Q=Q ns:=propext oH
theorem qI{ns:List Bool}{P:DK}:Ir [.lst (ns.map D.bl)] P=P (.bl (ns.any id)):=propext CM
theorem qq{ns:aab}{P:DK}:A2 [dI ns] P=(0<ns.length/\∀M,M∈ns->(∀x∈ns,M<=x)->P (.int M)):=propext wN
theorem ra{ns:aab}{P:DK}:B4 [dI ns] P=(0<ns.length/\∀M,M∈ns->(∀x∈ns,x<=M)->P (.int M)):=propext DM
theorem qZ{ns:aab}{P:DK}:Cf [dI ns] P=(ns.length<64/\∀c:aab,c.Perm ns->c.Pairwise (·<=·)->P (dI c)):=propext CI
theorem yW:sj QD (.bl i) (.bl j) P=P (.bl (if QD then !decide (i=j) else decide (i=j))):=propext Ky
theorem vN:sj QD (.str i) (.str j) P=P (.bl (if QD then !decide (i=j) else decide (i=j))):=propext Hc
theorem wZ:sj QD (.int i) (.int j) P=P (.bl (if QD then !decide (i=j) else decide (i=j))):=propext Iz
theorem N2{c:Sort _}{f:c}{p:c->Prop}:(∀a,f=a->p a)=p f:=propext forall_eq'
theorem Nj[Decidable p]:(decide p=false)=¬ p:=propext decide_eq_false_iff_not
end
end L3
namespace L2
open PySem PySem.Spec PyProof.Rows
section
variable {X:Cx}{K:aae}
theorem Jx(q:A.handled=none)(g:s.heap.IsTuple l (intItems xs))(t:0<xs.size)
  (h:∀v h' f,(intItems xs)[argBest (fun i j=>decide (numAt xs i<numAt xs j)) (xs.size - 1)]?=some v->(∀b o,s.heap.get? b=some o->h'.get? b=some o)->Q v { s with heap:=h',toks:=f }) :
  wpAny (model prog w) A (call (.builtin "min") [.ref l]) Q E s:=by
 have n:l<s.heap.objs.size:=by obtain ⟨_,e,_⟩:=g;exact Heap.lt_size e
 refine call_min_walk (wpAny_pyIter_tuple g ?_)
 refine⟨_,[_,l],[_],_,_,_,_,rfl,Walks.tuple (A:=A.in1) q _ l (OK n) (intItems xs),⟨⟨_,Heap.get?_push_size _ rfl,rfl,rfl⟩,g.push _⟩,fun c m=>?_,by simpa [intItems] using t,CmpOf.ints_lt (numAt xs) (fun _ _=>intItems_at),fun v h' f r p=>?_⟩
 .show c<(s.heap.push _).objs.size
  rw[Heap.size_push]
  rcases KE.mp m with rfl|m
  .exact PU _
  .rw[mo.mp m];exact QE n
 .refine h v h' f (by simpa [intItems] using r) fun b o e=>p b o (fun hm=>?_) (Heap.get?_push_of_some _ e)
  have:=Heap.lt_size e
  rw[mo.mp hm] at this
  exact O6 _ this
theorem FO(z:X.K=K)(p:X.calm=true):gG X (.builtin "min") (fun xs H Q=>∃(a:Addr) (ns:aab),xs=[.ref a]/\SqT K H a (ns.map V.int)/\0<ns.length/\∀M,M∈ns->(∀x∈ns,M<=x)->Q (.int M) H):=by
 subst z
 intro g s E H xs us Q I r h
 obtain ⟨a,ns,rfl,y,C,q⟩:=h
 obtain ⟨u,rfl,m⟩:=vals1 r
 obtain rfl:u=Value.ref a:=m
 obtain ⟨L,rv,pl,G⟩:=I.tuple y
 have hi:=jN rv
 obtain ⟨c,e⟩:=hi.allInts.items
 have f:ns=c.toList.map (·.1):=by rw[<- hi.numsOf,<- nums_intItems,<- e]
 have hsz:0<c.size:=by
  have i:=C;rw[f,dz,OX] at i;exact i
 refine Jx (I.ok.hd p) (by rw[<- e];exact pl) hsz fun v h' F n o=>?_
 obtain ⟨t,rfl⟩:=intItems_at n
 obtain ⟨J,B⟩:=argBest_lt (numAt c) (c.size - 1)
 refine⟨.int _,H,I.kept o,⟨t,rfl⟩,q _ ?_ fun b hb=>?_⟩
 .rw[f,numAt_eq];exact getD_mem (by rw[dz,OX];omega)
 .rw[f] at hb
  obtain ⟨j,hj,rfl⟩:=mem_getD hb
  rw[dz,OX] at hj
  rw[<- numAt_eq];exact B j ()
end
end L2
namespace L3
open PySem
open L2 hiding D Rf Rfs Rp dI dT
section
variable {K:aae}
def Nk(xs:List D)(P:DK):Prop:=∃ns:aab,xs=[.tup (ns.map D.int)]/\0<ns.length/\∀M,M∈ns->(∀x∈ns,M<=x)->P (.int M)
theorem LK:mz K (fun xs H Q=>∃(a:Addr) (ns:aab),xs=[.ref a]/\SqT K H a (ns.map V.int)/\0<ns.length/\∀M,M∈ns->(∀x∈ns,M<=x)->Q (.int M) H) Nk:=⟨fun xs P n k ⟨ns,e,c,h⟩=>⟨ns,e,c,fun M a b=>k _ (h M a b)⟩,
 fun {H xs vs Q} r h=>by
  obtain ⟨ns,rfl,c,h⟩:=h
  obtain ⟨v,rfl,g⟩:=r.one
  obtain ⟨a,ys,m,rfl,f,hr⟩:=g.tup
  rw[hr.wI] at f
  exact⟨a,ns,rfl,f,c,fun M j i=>h M j i _ H [] (Same.refl H) ⟨rfl,rfl⟩ Nw.nil⟩⟩
end
section
variable {K:aae}{Γ:aad}{i j:Nat}{t:TS}{d:Nat->DS}
def vE(a:Nat)(x:D)(δ:Dl)(N:Dl->Prop):Prop:=x.ax=true/\N (δ.set a (some x))
def IV(j a:Nat)(c:DI)(d:Nat->DS)(m:Nat)(E:aZ)(δ:Dl):Prop:=c (δ.set j none) fun ds=>i7 (vE a) (d m) E ds δ
theorem JQ(a:Nat)(hi:IT K Γ wi di)(hb:STA K i j t Γ d)(ha:a∉Γ:=by decide)(s:a≠j:=by decide)(M:a≠i:=by decide):STA K i j (K7 wi (dZ a) t) Γ (fun m=>IV j a di d m):=by
 intro B0 Dn E m a0 fps δ y H k o h
 refine hi.run o.ok (hi.mono _ _ _ (fun ds z J H1 fq C n1 Q2=>?_) h)
 obtain ⟨v,R,p,L⟩:=(o.ok.same C).rebase
 have r:F7 K J v ds:=Q2 v p.b0 (fun a ha=>L a fun j hj=>n1 j hj a ha) fun a u e U=>by
  rw[L a fun j hj ha=>((p.own j hj).2 a ha).2.mx u e U];exact e
 refine⟨fun n q y H=>q=ds.length - n/\n<=ds.length/\∃fps δ,AOk K v Γ i j m a0 fps δ y H/\i7 (vE a) (d m) E (ds.drop n) δ,⟨ds.length,(),Pd _,fps,δ,⟨p,o.hi,o.hj,(o.same C).al⟩,by rw[Pf];exact z⟩,?_⟩
 rintro n q QX H2 ⟨rfl,Sj,RI,Sy,c,f⟩
 by_cases g:n<ds.length
 .refine .inr ⟨r.go c.ok.b0 g,_,fun σ' H' q=>q,fun x H3 X=>?_⟩
  obtain ⟨B,fp,F,n3⟩:=r.yld c.ok.b0 X (ab g)
  rw[Ou g] at f
  obtain ⟨O,Q⟩:=f
  obtain ⟨_,rfl⟩:=F.ax O
  have G:=(c.ok.wH a B F (fun _ _ _ w=>(nomatch w))).sub (Γ':=Γ) fun l I=>bE.mpr ⟨I,fun q=>ha (by rw[<- mo.mp q];exact I)⟩
  rw[List.set_comm _ _ (OT s)] at G
  obtain ⟨ds0,es,xs,b,g1,g2,g3,g4,g5,Z,Y⟩:=c.al
  refine hb (E:={ nx:=i7 (vE a) (d m) E (ds.drop (n+1)),ct:=i7 (vE a) (d m) E (ds.drop (n+1)),bk:=E.nx,rt:=E.rt }) (fun T P=>⟨ds.length - (n+1),(),rfl,g,_,_,T,P⟩) ⟨G,o.hi,o.hj,ds0,es,xs,b,?_,g2,?_,?_,B.st _ _ g5 trivial,Z,?_⟩ Q
  .rw[Gc M];exact g1
  .rw[Gc s];exact g3
  .rw[Gc M];exact g4
  .rw[Gc s];exact Y
 .have e:n=ds.length:=()
  subst e
  rw[P7] at f
  exact .inl ⟨r.stop c.ok.b0 (Ol _),k ⟨c.ok.base R o.ok.b0.tv,c.hi,c.hj,c.al⟩ f⟩
end
end L3
namespace L3
open PySem L2
section
variable {K:aae}{h:Heap}{mg:Str->Option Value}{x m q:Str}{st:Stmt}{ps:List Str}{f C:Addr}{oc:Value}{od an:Option Addr}{osl:Array (Option Value)}{kV doc pm cdv ct:Value}
abbrev Iv(x q:Str)(st:Stmt)(ps:List Str):Prop:=∀(kV doc pm:Value) (an:Option Addr) (cdv ct:Value) (us:List Value),us.length=ps.length->bindArgs (PySem.W.fnOf x q (fX st) (cF st) (ak st) .none kV doc pm an cdv ct) ⟨us,[]⟩=pure (ps.zip us)
theorem fnA(X:K.In h)(G:h.Ns mainGlobals mg)(a:PySem.W.nsIn K mainGlobals x=some (some (.ref f)))(l:K.lookup f=some ⟨oc,od,.func (PySem.W.fnOf x x (fX st) (cF st) (ak st) .none kV doc pm an cdv ct),osl⟩)(c:PySem.W.codeIn K cdv x=true)(k:PySem.W.keepIn K (.ref f)=true)(b:Iv x x st ps):∃f g,FnAt K mg x st ps f g :=
 ⟨f,_,mL l c k,PM X G a,(mL l c k).binds b⟩
theorem mtA(a:PySem.W.findIn K (.ref C) m=some (some (.ref f)))(i:PySem.W.isFn K (.ref f)=true)(l:K.lookup f=some ⟨oc,od,.func (PySem.W.fnOf m q (fX st) (cF st) (ak st) .none kV doc pm an cdv ct),osl⟩)(c:PySem.W.codeIn K cdv q=true)(k:PySem.W.keepIn K (.ref f)=true)(b:Iv m q st ps):∃f g,lz K C m q st ps f g :=
 ⟨f,_,mL l c k,⟨a,i,k⟩,(mL l c k).binds b⟩
theorem mkA(X:K.In h)(G:h.Ns mainGlobals mg)(e:PySem.W.nsIn K mainGlobals x=some (some (.ref C)))(g:PySem.W.makesIn K C=true)(a:PySem.W.findIn K (.ref C) "__init__" = some (some (.ref f)))(i:PySem.W.isFn K (.ref f)=true)(j:PySem.W.keepIn K (.ref C)=true)(l:K.lookup f=some ⟨oc,od,.func (PySem.W.fnOf "__init__" q (fX st) (cF st) (ak st) .none kV doc pm an cdv ct),osl⟩)(c:PySem.W.codeIn K cdv q=true)(k:PySem.W.keepIn K (.ref f)=true)(b:Iv "__init__" q st ps):∃f m,x6 K mg x C q st ps f m :=
 ⟨f,_,mL l c k,⟨g,a,i,j⟩,(mL l c k).binds b,PM X G e⟩
theorem n_z{C:List Value->Prop}(h:C []):∀us:List Value,us.length=0->C us
 |[],_=>h
theorem n_s{C:List Value->Prop}{k:Nat}(h:∀(a:Value) (us:List Value),us.length=k->C (a::us)):∀us:List Value,us.length=k+1->C us
 |a::us,e=>h a us (Nat.succ.inj e)
end
end L3
namespace Mine
open PySem L3
open L2 hiding D Rf Rfs Rp dI dT
open PyProof.Rows hiding St
open L3.Fl hiding St
open L3.Rg hiding St
local macro_rules|`(tactic|walk_at "o")=>`(tactic|first|exact Or.inl rfl|exact Or.inr rfl)
local macro_rules|`(tactic|walk_at "s")=>`(tactic|exact⟨rfl,rfl,rfl,by decide +kernel,rfl,by decide +kernel,by decide +kernel⟩)
local macro_rules|`(tactic|walk_at "dd")=>`(tactic|dsimp only[Qw,Qx,QL,QZ,Q6,Q7,Wb,ZJ,ZK,ZL,ZM,ZN,ZO,Z9,Qe,Qg,Qh,Jg,Fp,Av,lJ,rV,Fb,Ke,E7,AB,Km,z5,DR,yo,E4,Dd,Eg,GD,DY,GB,Ks,KY,vg,vi,qb,sM,Kb,vIf,iI,vC,vOp,vUn,rZ,u6,vk,t5,vT,KZ,vOr,Kg,DZ,EE,y9,tu,gH,Gf,KH,mE,F8,EF,Eh,sv,pA,tF,sX,pM,pD,pN,uU,Ek,pP,pC,i6,uY,vIs,za,DH,zB,zQ,zo,AW,CQ,C3,Cp,C5,DP,Cr,Cz,DL,Cv,qa,D.ui,vp,D.ax,Ff,vd,zh,tH,sC,sF,D4,Gg,pZ,pS,m7,lQ,vSl,EH,qG,IK,kd,EL,Ei,Kd,Ea,D9,nv,Af,lL,sS,AK,CH,Ab,D.toV,EJ,pV,kill,lD,Int.reduceToNat,Int.reduceEq,Int.reduceLT,Int.reduceLE,Int.reducePow,Int.reduceAdd,Int.reduceMul,Int.reduceSub,Int.reduceNeg,Int.toNat_natCast])
local macro_rules|`(tactic|walk_at "v0")=>`(tactic|simp only[Jg,AX,Fp,Eb,Av,lJ,oD,rV,Fb,Ke,E7,AB,Km,z5,DR,yo,E4,Dd,Eg,GD,DY,GB,Ks,KY,vg,vi,qb,sM,Kb,vIf,iI,vC,vOp,vUn,rZ,u6,vk,t5,vT,KZ,vOr,Kg,DZ,EE,y9,tu,gH,Gf,KH,mE,F8,EF,Eh,sv,pA,tF,sX,pM,pD,pN,uU,Ek,pP,xy,pC,i6,uY,vIs,za,DH,zB,zQ,zo,AW,CQ,C3,Cp,C5,DP,Cr,Cz,DL,Cv,qa,D.ui,vp,D.ax,Ff,vd,zh,tH,sC,sF,D4,Gg,pZ,pS,m7,t8,tP,uc,lQ,vSl,EH,qI,qq,ra,qG,IK,kd,EL,Ei,Kd,Ea,D9,nv,Af,qZ,lL,sS,AK,CH,Ab,D.toV,Option.some.injEq,N2,yW,vN,EJ,HE,GV,Ig,GQ,pV,kill,List.foldl_nil,List.foldl_cons,List.set_cons_zero,List.set_cons_succ,List.getElem?_cons_zero,List.getElem?_cons_succ,List.getElem?_nil,lD,wZ,Bool.false_eq_true,Bool.not_false,Bool.not_true,if_true,if_false,ite_true,ite_false,true_and,and_true,List.length_cons,List.length_nil,decide_eq_true_eq,Bool.not_eq_true',Nj,List.length_map,Bool.true_eq_false,eq_self,not_true_eq_false,not_false_eq_true,Int.reduceToNat,Int.reduceEq,Int.reduceLT,Int.reduceLE,Int.reducePow,Int.reduceAdd,Int.reduceMul,Int.reduceSub,Int.reduceNeg,Int.toNat_natCast])
local macro_rules|`(tactic|walk_at "v1")=>`(tactic|first|(walk_at "dd";try walk_at "v0")|walk_at "v0")
local macro_rules|`(tactic|walk_at "vb0")=>`(tactic|simp only[Jg,AX,Fp,Eb,Av,lJ,oD,rV,Fb,Ke,E7,AB,Km,z5,DR,yo,E4,Dd,Eg,GD,DY,GB,Ks,KY,vg,vi,qb,sM,Kb,vIf,iI,vC,vOp,vUn,rZ,u6,vk,t5,vT,KZ,vOr,Kg,DZ,EE,y9,tu,gH,Gf,KH,mE,F8,EF,Eh,sv,pA,tF,sX,pM,pD,pN,uU,Ek,pP,xy,pC,i6,uY,vIs,za,DH,zB,zQ,zo,AW,CQ,C3,Cp,C5,DP,Cr,Cz,DL,Cv,qa,D.ui,vp,D.ax,Ff,vd,zh,tH,sC,sF,D4,Gg,pZ,pS,m7,t8,tP,uc,lQ,vSl,EH,qI,qq,ra,qG,IK,kd,EL,Ei,Kd,Ea,D9,nv,Af,qZ,lL,sS,AK,CH,Ab,D.toV,Option.some.injEq,N2,yW,vN,EJ,HE,GV,Ig,GQ,pV,kill,List.foldl_nil,List.foldl_cons,List.set_cons_zero,List.set_cons_succ,List.getElem?_cons_zero,List.getElem?_cons_succ,List.getElem?_nil,lD,wZ,Bool.false_eq_true,Bool.not_false,Bool.not_true,if_true,if_false,ite_true,ite_false,true_and,and_true,List.length_cons,List.length_nil,decide_eq_true_eq,Bool.not_eq_true',Nj,List.length_map,Bool.true_eq_false,eq_self,not_true_eq_false,not_false_eq_true,Int.reduceToNat,Int.reduceEq,Int.reduceLT,Int.reduceLE,Int.reducePow,Int.reduceAdd,Int.reduceMul,Int.reduceSub,Int.reduceNeg,Int.toNat_natCast,iY,cO,List.reduceReplicate,List.replicate_succ,List.replicate_zero,List.map_cons,List.map_nil,Option.getD_some,List.cons_append,List.nil_append,Nat.reduceAdd])
local macro_rules|`(tactic|walk_at "vb1")=>`(tactic|first|(walk_at "dd";try walk_at "vb0")|walk_at "vb0")
local macro_rules|`(tactic|walk_at "v")=>`(tactic|try (walk_at "v1"))
local macro_rules|`(tactic|walk_at "vb")=>`(tactic|try (walk_at "vb1"))
local macro_rules|`(tactic|walk_at "cd")=>`(tactic|first|exact⟨by decide,100,by decide,by decide⟩|exact⟨by omega,100,by omega,by decide⟩ |exact ()| decide|rfl|exact⟨by decide,by decide,by decide⟩|exact⟨64,64,by omega,by omega,by decide⟩|exact⟨200,200,by omega,by omega,by decide⟩|exact bh)
local macro_rules|`(tactic|walk_at "go")=>`(tactic|repeat (first|(walk_at "v1")|((with_reducible refine And.intro ?k1 ?_);(case k1=>walk_at "cd"))))
local macro_rules|`(tactic|walk_at "gb")=>`(tactic|repeat (first|(walk_at "vb1")|((with_reducible refine And.intro ?k1 ?_);(case k1=>walk_at "cd"))))
local macro_rules|`(tactic|symm)=>`(tactic|walk_at "go")
local macro_rules|`(tactic|rfl')=>`(tactic|walk_at "gb")
local macro_rules|`(tactic|ac_nf)=>`(tactic|walk_at "v")
local macro_rules|`(tactic|ac_rfl)=>`(tactic|walk_at "st")
local macro_rules|`(tactic|walk_at "m")=>`(tactic|first|with_reducible exact id|exact ‹∀ z,_ → _› _|(refine Exists.imp fun _=>?_;walk_at "m")|(refine And.imp ?_ ?_ <;> walk_at "m")|(refine forall_imp fun _=>?_;walk_at "m"))
local macro_rules|`(tactic|walk_at "M")=>`(tactic|(intro _ _ _ _;walk_at "m"))
local macro_rules|`(tactic|walk_at "L")=>`(tactic|first|exact fun h=>congrArg List.length (And.left h)|(refine fun h=>Exists.elim h ?_;intro _;walk_at "L"))
local macro_rules|`(tactic|walk_at "l")=>`(tactic|(intro _ _;walk_at "L"))
local macro_rules|`(tactic|walk_at "st")=>`(tactic|dsimp only[bA,ZB,Z2,Q6,Q7,ZK,ZL,ZP,ZQ,Nat.reduceAdd,Nat.reduceSub,Nat.sub_self,Nat.zero_add,List.reduceReplicate,List.append_nil])
local macro_rules|`(tactic|walk_at "S")=>`(tactic|exact by walk_at "s")
def top (i:Nat):Stmt:=PySem.Challenge.pw_evenmix_k73_whole_any_two_by_number.main.body.getD i (.Pass ⟨0,0,0,0⟩)
def zC(i j:Nat):Stmt:=(match top i with|.ClassDef _ _ _ b _ _ _ _ _ _ _=>b|_=>[]).getD j (.Pass ⟨0,0,0,0⟩)
abbrev tj:Stmt:=top 10
abbrev oJ:List Str:=["row"]
abbrev bp:Stmt:=top 11
abbrev bo:List Str:=["row"]
theorem qY:bS bo bo (ak bp):=by walk_at "S"
abbrev fR:Stmt:=top 12
abbrev gd:List Str:=["one","other"]
abbrev md:Stmt:=top 13
abbrev mj:List Str:=["one","other"]
abbrev pF:Stmt:=top 14
abbrev Dx:List Str:=["row","heads","head","number"]
abbrev pK:List Str:=["row"]
abbrev fB:Stmt:=top 15
abbrev p9:List Str:=["one","other","above"]
abbrev fi:List Str:=["one","other"]
abbrev ny:Stmt:=top 17
abbrev kj:List Str:=["thing"]
abbrev pU:Stmt:=top 18
abbrev lP:List Str:=["number","many"]
abbrev gk:Stmt:=top 19
abbrev fZ:List Str:=["table"]
abbrev gI:Stmt:=top 20
abbrev gv:List Str:=["table"]
abbrev gz:Stmt:=top 21
abbrev dq:List Str:=["table"]
abbrev fY:Stmt:=top 22
abbrev gf:List Str:=["table"]
abbrev ki:Stmt:=top 23
abbrev ko:List Str:=["table","place"]
abbrev pJ:Stmt:=top 25
abbrev CA:List Str:=["table","swap","first","second"]
abbrev p7:List Str:=["table","swap"]
abbrev nB:Stmt:=top 26
abbrev A3:List Str:=["table","swap","made"]
abbrev mS:List Str:=["table","swap"]
abbrev iP:Stmt:=top 27
abbrev uD:List Str:=["one","other","table","swaps","ring","some"]
abbrev iW:List Str:=["one","other"]
abbrev jV:Stmt:=top 28
abbrev wY:List Str:=["table","swaps","swap"]
abbrev jR:List Str:=["table","swaps"]
abbrev jO:Stmt:=top 29
abbrev wJ:List Str:=["table","other","row","rows","columns","column","start"]
abbrev jD:List Str:=["table","other"]
abbrev fO:Stmt:=top 30
abbrev gw:List Str:=["table","other"]
abbrev me:Stmt:=top 31
abbrev zR:List Str:=["table","rows","columns","ahead","behind","last","place","swap"]
abbrev mq:List Str:=["table","rows","columns"]
abbrev lY:Stmt:=top 34
abbrev jb:List Str:=["rows","columns"]
abbrev gn:Stmt:=zC 35 0
abbrev cj:List Str:=["self","rows","width"]
theorem xX:bS cj cj (ak gn):=by walk_at "S"
abbrev dS:Stmt:=zC 35 1
abbrev mn:List Str:=["self","done","left","want"]
abbrev bU:List Str:=["self","done","left"]
theorem pw:bS mn bU (ak dS):=by walk_at "S"
abbrev c7:Stmt:=zC 35 2
abbrev kF:List Str:=["self","done","left","line","lesser"]
abbrev eE:List Str:=["self","done","left","line"]
theorem nG:bS kF eE (ak c7):=by walk_at "S"
abbrev jd:Stmt:=top 36
abbrev i8:List Str:=["number","width"]
abbrev iK:Stmt:=top 37
abbrev BQ:List Str:=["width","lines","place"]
abbrev nS:List Str:=["width"]
abbrev p6:Stmt:=top 38
abbrev lN:List Str:=["rows","columns"]
abbrev j4:Stmt:=top 39
abbrev j6:List Str:=["rows","columns"]
abbrev eZ:Stmt:=top 40
abbrev uI:List Str:=["rows","columns","row","tally","shares","line","ways"]
abbrev iO:List Str:=["rows","columns","row"]
abbrev oq:Stmt:=top 41
abbrev Gj:List Str:=["rows","columns","number","tally","left","table","done","line"]
abbrev rY:List Str:=["rows","columns","number"]
abbrev nN:Stmt:=top 42
abbrev BM:List Str:=["table","left","tally","number","done"]
abbrev mU:List Str:=["table"]
abbrev iX:Stmt:=top 44
abbrev eQ:List Str:=["rows","columns","low","high"]
abbrev gK:Stmt:=top 45
abbrev gM:List Str:=["low","high"]
abbrev gi:Stmt:=zC 46 0
abbrev bH:List Str:=["self","rows","columns","low","high"]
theorem uC:bS bH bH (ak gi):=by walk_at "S"
abbrev du:Stmt:=zC 46 1
abbrev j7:List Str:=["self","reach","low#","high#"]
abbrev cA:List Str:=["self"]
theorem jv:bS j7 cA (ak du):=by walk_at "S"
abbrev dF:Stmt:=zC 46 2
abbrev nK:List Str:=["self","way","goal","start","amount","step","row","low#","high#"]
abbrev dE:List Str:=["self","way"]
theorem b9:bS nK dE (ak dF):=by walk_at "S"
abbrev eP:Stmt:=zC 46 3
abbrev iT:List Str:=["self","way","step","row","column"]
abbrev cX:List Str:=["self","way","step"]
theorem gZ:bS iT cX (ak eP):=by walk_at "S"
abbrev je:Stmt:=zC 47 0
abbrev l9:List Str:=["self","filling","raising","lowering","layer","row","fresh"]
abbrev fV:List Str:=["self","filling"]
theorem cC:bS l9 fV (ak je):=by walk_at "S"
abbrev kq:Stmt:=zC 47 1
abbrev nM:List Str:=["self","cells","column","row"]
abbrev iG:List Str:=["self"]
theorem gp:bS nM iG (ak kq):=by walk_at "S"
abbrev oC:Stmt:=top 48
abbrev oy:List Str:=["lesser","greater"]
abbrev qE:Stmt:=top 49
abbrev vK:List Str:=["layer","ways","reached","fresh","source","place"]
abbrev qm:List Str:=["layer","ways","reached"]
theorem oF:bS vK qm (ak qE):=by walk_at "S"
abbrev dy:Stmt:=top 50
abbrev qM:List Str:=["columns","rooms","free"]
abbrev fW:List Str:=["columns","rooms"]
abbrev oj:Stmt:=top 52
abbrev oz:List Str:=["sums","many"]
abbrev dX:Stmt:=top 53
abbrev dR:List Str:=["sums","level"]
abbrev mO:Stmt:=top 54
abbrev Bv:List Str:=["rows","columns","many"]
abbrev mR:List Str:=["rows","columns"]
abbrev jS:Stmt:=top 55
abbrev xp:List Str:=["rows","columns","left","table","number","row"]
abbrev jy:List Str:=["rows","columns"]
abbrev iu:Stmt:=top 56
abbrev iA:List Str:=["places","many"]
abbrev r8:Stmt:=top 58
abbrev F0:List Str:=["rows","columns","cell","noughts","ones","without","having"]
abbrev tf:List Str:=["rows","columns","cell"]
abbrev i9:Stmt:=top 59
abbrev jf:List Str:=["rows","columns","number"]
abbrev kP:Stmt:=top 60
abbrev xU:List Str:=["table","cell","turned"]
abbrev kr:List Str:=["table","cell"]
abbrev kB:Stmt:=top 62
abbrev ig:List Str:=["_law_script","_law_k"]
abbrev mX:Stmt:=top 63
abbrev kl:List Str:=["_law_found"]
abbrev m6:Stmt:=top 64
abbrev BH:List Str:=["_law_script","_law_number","_law_cell"]
abbrev mW:List Str:=["_law_script","_law_number"]
abbrev ix:Stmt:=top 65
abbrev xY:List Str:=["_law_script","_law_high","_law_wide","_law_ones","_law_cell","_law_line","_law_at_here"]
abbrev kS:List Str:=["_law_script","_law_high","_law_wide"]
abbrev jc:Stmt:=top 66
abbrev ji:List Str:=["_law_ones"]
abbrev jY:Stmt:=top 67
abbrev lX:List Str:=["_law_ones"]
abbrev iq:Stmt:=top 68
abbrev xJ:List Str:=["_law_found","_law_high","_law_wide","_law_row"]
abbrev kG:List Str:=["_law_found","_law_high","_law_wide"]
abbrev oG:Stmt:=top 69
abbrev FR:List Str:=["_law_ones","_law_swap","_law_i","_law_j","_law_k","_law_l"]
abbrev sY:List Str:=["_law_ones","_law_swap"]
abbrev ij:Stmt:=top 70
abbrev xV:List Str:=["_law_ones","_law_swap","_law_found","_law_k","_law_line","_law_at_here"]
abbrev kH:List Str:=["_law_ones","_law_swap"]
abbrev wx:Stmt:=top 71
abbrev Hh:List Str:=["_law_rows","_law_columns","_law_number","_law_found"]
abbrev u0:List Str:=["_law_rows","_law_columns","_law_number"]
abbrev cw:Stmt:=top 72
abbrev zZ:List Str:=["_law_one","_law_other","_law_numbers","_law_rows","_law_columns","_law_swaps","_law_apart","_law_last","_law_swap","_law_number"]
abbrev mh:List Str:=["_law_one","_law_other","_law_numbers"]
abbrev pL:Stmt:=top 73
abbrev mf:List Str:=["_law_share","_law_many"]
abbrev iH:Stmt:=top 74
abbrev A9:List Str:=["_law_script","_law_first","_law_high","_law_wide","_law_ones"]
abbrev nh:List Str:=["_law_script"]
abbrev nJ:Stmt:=top 75
abbrev Hf:List Str:=["_law_script","_law_ones","_law_number","_law_also","_law_mixed_here","_law_rows","_law_columns","_law_many","_law_numbers","_law_one","_law_other","_law_cell","_law_word_here"]
abbrev vM:List Str:=["_law_script"]
theorem gB:bS Hf vM (ak nJ):=by walk_at "S"
structure Zp(K:aae)(mg:Str->Option Value)(ξ:Heap):Prop where
 len_:mg "len" = none
 isinstance_:mg "isinstance" = none
 int_:mg "int" = none
 bool_:mg "bool" = none
 list_:mg "list" = none
 range_:mg "range" = none
 min_:mg "min" = none
 max_:mg "max" = none
 sum_:mg "sum" = none
 sorted_:mg "sorted" = none
 tuple_:mg "tuple" = none
 zip_:mg "zip" = none
 any_:mg "any" = none
 reversed_:mg "reversed" = none
 MOST_COUNTED_:∃t,mg "MOST_COUNTED" = some (Value.int 5 t)
 lam_:L3.IE K mg ξ
structure Cs where
 (Filling Reach Tally:Addr)
abbrev Zx(K:aae)(mg:Str->Option Value)(x:Str)(st:Stmt)(ps:List Str):Prop:=∃f c,FnAt K mg x st ps f c
structure Zw(K:aae)(mg:Str->Option Value)(c:Cs):Prop where
 h_falling:Zx K mg "falling" tj oJ
 h_falling_places:Zx K mg "falling_places" bp bo
 h_places_below:Zx K mg "places_below" fR gd
 h_less_row:Zx K mg "less_row" md mj
 h_heads_of:Zx K mg "heads_of" pF pK
 h_first_head_above:Zx K mg "first_head_above" fB fi
 h_is_number:Zx K mg "is_number" ny kj
 h_is_place:Zx K mg "is_place" pU lP
 h_copied_table:Zx K mg "copied_table" gk fZ
 h_sums_of_rows:Zx K mg "sums_of_rows" gI gv
 h_sums_of_columns:Zx K mg "sums_of_columns" gz dq
 h_turned_table:Zx K mg "turned_table" fY gf
 h_column_of:Zx K mg "column_of" ki ko
 h_can_swap:Zx K mg "can_swap" pJ p7
 h_swap_made:Zx K mg "swap_made" nB mS
 h_swaps_between:Zx K mg "swaps_between" iP iW
 h_table_behind:Zx K mg "table_behind" jV jR
 h_ring_between:Zx K mg "ring_between" jO jD
 h_first_unlike:Zx K mg "first_unlike" fO gw
 h_ring_swaps:Zx K mg "ring_swaps" me mq
 h_check_size:Zx K mg "check_size" lY jb
 h_Tally_init:∃f fd,x6 K mg "Tally" c.Tally "Tally.__init__" gn cj f fd
 h_Tally_ways:∃f fd,lz K c.Tally "ways" "Tally.ways" dS bU f fd
 h_Tally_ahead:∃f fd,lz K c.Tally "ahead" "Tally.ahead" c7 eE f fd
 h_lines_with:Zx K mg "lines_with" jd i8
 h_all_lines:Zx K mg "all_lines" iK nS
 h_count_of:Zx K mg "count_of" p6 lN
 h_shares_of:Zx K mg "shares_of" j4 j6
 h_shares_in_row:Zx K mg "shares_in_row" eZ iO
 h_ones_at:Zx K mg "ones_at" oq rY
 h_number_of:Zx K mg "number_of" nN mU
 h_table_between:Zx K mg "table_between" iX eQ
 h_check_bounds:Zx K mg "check_bounds" gK gM
 h_Filling_init:∃f fd,x6 K mg "Filling" c.Filling "Filling.__init__" gi bH f fd
 h_Filling_outcome:∃f fd,lz K c.Filling "outcome" "Filling.outcome" du cA f fd
 h_Filling_pour:∃f fd,lz K c.Filling "pour" "Filling.pour" dF dE f fd
 h_Filling_slack:∃f fd,lz K c.Filling "slack" "Filling.slack" eP cX f fd
 h_Reach_init:∃f fd,x6 K mg "Reach" c.Reach "Reach.__init__" je fV f fd
 h_Reach_way:∃f fd,lz K c.Reach "way" "Reach.way" kq iG f fd
 h_ways_up:Zx K mg "ways_up" oC oy
 h_spread:Zx K mg "spread" qE qm
 h_first_with_room:Zx K mg "first_with_room" dy fW
 h_heap_of:Zx K mg "heap_of" oj oz
 h_how_many_reach:Zx K mg "how_many_reach" dX dR
 h_ones_with:Zx K mg "ones_with" mO mR
 h_filled_table:Zx K mg "filled_table" jS jy
 h_row_of_ones:Zx K mg "row_of_ones" iu iA
 h_fate_of:Zx K mg "fate_of" r8 tf
 h_full_table:Zx K mg "full_table" i9 jf
 h_turned_cell:Zx K mg "turned_cell" kP kr
 h_law_cell_at:Zx K mg "_law_cell_at" kB ig
 h_law_whole:Zx K mg "_law_whole" mX kl
 h_law_mixed:Zx K mg "_law_mixed" m6 mW
 h_law_flipped:Zx K mg "_law_flipped" ix kS
 h_law_across:Zx K mg "_law_across" jc ji
 h_law_down:Zx K mg "_law_down" jY lX
 h_law_is_ones:Zx K mg "_law_is_ones" iq kG
 h_law_can:Zx K mg "_law_can" oG sY
 h_law_swapped:Zx K mg "_law_swapped" ij kH
 h_law_at:Zx K mg "_law_at" wx u0
 h_law_walked:Zx K mg "_law_walked" cw mh
 h_law_word:Zx K mg "_law_word" pL mf
 h_law_drawn:Zx K mg "_law_drawn" iH nh
 h_law:Zx K mg "law" nJ vM
structure Zu(K:aae)(mg:Str->Option Value)(ξ:Heap)(c:Cs):Prop where
 m_Filling:mg "Filling" = some (.ref c.Filling)
 m_Reach:mg "Reach" = some (.ref c.Reach)
 m_Tally:mg "Tally" = some (.ref c.Tally)
 i_Filling:FL K c.Filling
 n_Filling_low:bB K c.Filling "low"
 n_Filling_high:bB K c.Filling "high"
 n_Filling_table:bB K c.Filling "table"
 n_Filling_wants:bB K c.Filling "wants"
 n_Filling_rooms:bB K c.Filling "rooms"
 i_Reach:FL K c.Reach
 n_Reach_rows:bB K c.Reach "rows"
 n_Reach_columns:bB K c.Reach "columns"
 n_Reach_goal:bB K c.Reach "goal"
 i_Tally:FL K c.Tally
 n_Tally_choices:bB K c.Tally "choices"
 n_Tally_known:bB K c.Tally "known"
structure Zk(K:aae)(mg:Str->Option Value)(ξ:Heap)(c:Cs):Prop extends Zp K mg ξ,Zu K mg ξ c,Zw K mg c
section
variable {P:Program}{w:World}{K:aae}{mg:Str->Option Value}{ξ:Heap}{c:Cs}
def yT:DSp:=fun ds P=>∃ns,ds=[dI ns]/\ns.length<64/\P (dI (zq ns))
theorem zm:aB yT:=by walk_at "M"
theorem CV(Z:Zk K mg ξ c):Ze P w K mg ξ 1 "falling" tj oJ (spP K yT):=by
 refine dJ oJ Z.h_falling (fun hr nd=>(pr (FU (uB (K:=K) rfl) (by rfl) Z.sorted_ boot_sorted (p1 (pv 0)) (Ft iZ IS)))) (sr (AZ (a1 (rv 0)))) fun ds P i=>?_
 obtain ⟨ns,rfl,h,j⟩:=i
 ac_rfl
 ac_nf
 refine⟨h,fun m f g=>?_⟩
 rw[El f g]
 exact j
def gX:DSp:=fun ds P=>∃ns:aab,ds=[dI ns]/\ns.length<64/\∀c:aab,c.Perm (DB ns.length)->c.Pairwise (fun a b=>ns.getD b.toNat 0<=ns.getD a.toNat 0)->P (dI c)
theorem i5:aB gX:=by walk_at "M"
theorem pT:∀ds P,gX ds P->ds.length=1:=by
 intro ds P h
 obtain ⟨_,e,_⟩:=h
 rw[e];rfl
theorem j9(Z:Zk K mg ξ c):Ze P w K mg ξ 1 "falling_places" bp bo (spP K gX):=by
 obtain ⟨f,n,F⟩:=Z.h_falling_places
 refine⟨f,n,F,?_⟩
 obtain ⟨c_,p,o,r⟩:=Z.lam_.of F
 refine L3.Fun.okL F.fn p qY (fun vs H Q E h=>j5 pT h) (fun A outer s H vs Q E hr h=>?_)
 refine⟨_,(pr (Df (K:=K) (i:=0) (cr:=s.heap.objs.size+1) rfl rfl rfl Z.sorted_ rfl Z.range_ (wln K Z.len_ (pv 0)) (fun t H Q a xs e g q=>⟨_,e,_,_,rfl,.inl g,q⟩) rfl (Or.inr (Or.inl rfl)) rfl rfl (by have:=hr.dp;show _<_;exact Nat.lt_of_le_of_lt (OC (Nat.le_add_right _ _) (Nat.le_add_right _ _)) this) rfl rfl o rfl rfl r (fun _ _ _ _=>rfl) rfl rfl (by decide +kernel) rfl rfl rfl nofun nofun nofun)),pI (Γn:=[]) (N:=bo) (sr (C8 0)) (fun ds P g=>?_) h⟩
 obtain ⟨ns,rfl,j,m⟩:=g
 rw[show bA bo [dI ns]=[some (dI ns)] from rfl]
 ac_nf
 exact⟨ns,rfl,j,m⟩
def bO(one c:aab):aad:=(List.range one.length).filter fun p=>decide (one.getD p 0<c.getD p 0)
def n0:DSp:=fun ds P=>∃one c,ds=[dI one,dI c]/\one.length<=1000/\one.length=c.length/\P (dI ((bO one c).map fun (p:Nat)=>(p:Int)))
theorem bL:aB n0:=by walk_at "M"
theorem cf(Z:Zk K mg ξ c):Ze P w K mg ξ 1 "places_below" fR gd (spP K n0):=by
 refine dJ gd Z.h_places_below (fun hr nd=>(pr (ja rfl (aH.of (sc0:=(ak fR)) (tn:=["place"]) (cap:=["one","other"]) (idx:=[0,1]) (by decide +kernel) rfl rfl) (aS rfl Z.range_ (p1 (wln K Z.len_ (pv 0)))) (iC.name nofun) (fun _ _ _ _ _=>bT (i:=0) (aM (l:=["place","one","other"]) (by decide +kernel)) rfl (by walk_at "o") (by first|exact .inl rfl|exact .inr rfl)) (fun _ _ _ _ _=>iy (pc ph (wix K (pv 1) (pv 0)) (wix K (pv 2) (pv 0)))) (fun _ _ _ _ _=>(pv 0)) (by intro _;rfl)))) (sr (j8 (bJ (a1 (rn (rv 0)))) (ar 0) (tt iF (rx (af 1) (rv 0)) (rx (af 2) (rv 0))) (ER.ax (rv 0)))) fun ds P m=>?_
 obtain ⟨one,f,rfl,j,q,o⟩:=m
 ac_rfl
 ac_nf
 refine sW (lo:=0) (n:=one.length) (p:=fun p=>decide (one.getD p 0<f.getD p 0)) (g:=fun (p:Nat)=>.int (p:Int)) (fun R h=>?_) j (fun i hi R h=>?_) ?_
 .symm;exact h
 .rfl'
  rw[OU]
  refine aD () (aD () ?_)
  rfl'
  split
  .rename_i c
   rw[decide_eq_true c] at h
   exact h
  .rename_i c
   rw[decide_eq_false c] at h
   exact h
 .rw[dw];exact o
def mv(ns:aab):aab:=(List.range ns.length).map fun (i:Nat)=>Maj.sd ns (i+1)
theorem lW:(mv ns).length=ns.length:=by unfold mv;rw[dz,Ot]
theorem yN(h:i<ns.length):(mv ns).getD i 0=Maj.sd ns (i+1):=by
 unfold mv
 rw[be,ox,O8 h];rfl
def wA:DSp:=fun ds P=>∃ns,ds=[dI ns]/\ns.length<64/\P (dI (mv ns))
theorem oZ:aB wA:=by walk_at "M"
theorem uj(Z:Zk K mg ξ c):Ze P w K mg ξ 2 "heads_of" pF pK (spP K wA):=by
 refine m3 (Γn:=[1]) Dx Z.h_heads_of (fun hr nd=>(aa (wst 1 nd (bt cK)) (aa (wst 2 nd ai) (aa (wfo (wil K (wcc (CV Z) hr (p1 (pv 0)))) (wpg 3 nd) (aa (wst 2 nd (aI eD (pv 2) (pv 3))) (aA (cy (lC OO O4 O3 cZ (pv 1) (p1 (pv 2))))))) (pr (pv 1)))))) (aj (ST.post (Γn:=[1]) (aQ (M:=[]) 1 (bu aL))) (aj (ST.post (Γn:=[1]) (aO 2 (EM.es ee))) (aj (dH (aN (sl zm (a1 (rv 0)))) (ar 3) (aj (ST.post (Γn:=[1]) (aO 2 (EM.es (bY cz (rv 2) (rv 3))))) (ST.post (Γn:=[1]) (dY (M:=[]) 1 (ER.ax (rv 2)))))) (cD (M:=[1]) (dB 1))))) fun ds P m=>?_
 obtain ⟨ns,rfl,h,n⟩:=m
 ac_rfl
 symm
 refine⟨ns,rfl,h,?_⟩
 ac_nf
 have q:=tO ns
 refine cW (as:=zq ns) (f:=L3.D.int) (fun i δ=>∃g:Option D,δ=[some (dI ns),some (dI ((List.range i).map fun (j:Nat)=>Maj.sd ns (j+1))),some (.int (Maj.sd ns i)),g]) ⟨none,rfl⟩ ?_ ?_
 .rintro i a δ N e ⟨g,rfl⟩ o
  obtain ⟨s,r⟩:=oe.mp e
  have p:Maj.sd ns i+a=Maj.sd ns (i+1):=by
   unfold Maj.sd
   rw[List.take_add_one,e,QP];simp
  symm
  rw[p,Ed]
  have er:(List.range (i+1)).map (fun (j:Nat)=>Maj.sd ns (j+1))=(List.range i).map (fun (j:Nat)=>Maj.sd ns (j+1))++[Maj.sd ns (i+1)]:=by rw[PZ,Ov];rfl
  exact⟨by rw[Ot];omega,o _ ⟨some (.int a),by rw[er]⟩⟩
 .rintro δ ⟨g,rfl⟩
  ac_nf
  rw[q]
  exact n
def LZ(one c:aab):D:=match Maj.above one c with|[]=>.non|p::_=>.int ((p:Int)+1)
theorem BG(h:one.length=other.length):bO (mv other) (mv one)=Maj.above one other:=by
 unfold bO Maj.above
 rw[lW,h]
 refine List.filter_congr fun p c=>?_
 have:=OL.mp c
 rw[yN (),yN ()]
def jU:DSp:=fun ds P=>∃one c,ds=[dI one,dI c]/\one.length<64/\one.length=c.length/\P (LZ one c)
theorem mI:aB jU:=by walk_at "M"
theorem oQ(Z:Zk K mg ξ c):Ze P w K mg ξ 3 "first_head_above" fB fi (spP K jU):=by
 refine dJ p9 Z.h_first_head_above (fun hr nd=>(aa (wst 2 nd (wcc (cf Z) hr (p2 (wcc (uj Z) hr (p1 (pv 1))) (wcc (uj Z) hr (p1 (pv 0)))))) (aa (bc (pc (Ij hr.units) (pv 2) (bt cK)) (pr fC) aE) (pr (aI eD (wix K (pv 2) ai) ai))))) (sq 2 (sl bL (a2 (rl oZ (a1 (rv 1))) (rl oZ (a1 (rv 0))))) (aj (bf (tt Lj (rv 2) (EM.er (bu aL))) (sr ff) aF) (sr (bY cz (rx (af 2) ri) ri)))) fun ds P j=>?_
 obtain ⟨one,f,rfl,i,h,g⟩:=j
 ac_rfl
 ac_nf
 refine⟨f,rfl,(),⟨one,rfl,i,?_⟩⟩
 refine⟨mv f,mv one,rfl,by rw[lW];omega,by rw[lW,lW,h],?_⟩
 rw[BG h]
 unfold LZ at g
 symm
 refine c8 (ys:=[]) ?_
 ac_nf
 cases e:Maj.above one f with
 |nil =>
  rw[e] at g
  rw[if_pos (by rfl)]
  exact g
 |cons p ps =>
  rw[e] at g
  rw[if_neg (by simp)]
  ac_nf
  rw[Oi,Oi]
  ac_nf
  exact g
def we:DSp:=fun ds P=>∃one c:aab,ds=[dI one,dI c]/\one.length=c.length/\one.length<=1000/\P (dI ((List.range one.length).map fun (i:Nat)=>one.getD i 0 - c.getD i 0))
theorem bV:aB we:=by walk_at "M"
theorem cP(Z:Zk K mg ξ c):Ze P w K mg ξ 1 "less_row" md mj (spP K we):=by
 refine dJ mj Z.h_less_row (fun hr nd=>(pr (wco (ak md) "place" ["one","other"] [0,1] (aS rfl Z.range_ (p1 (wln K Z.len_ (pv 0)))) (fun _ _ _ _ _=>(aI iR (wix K (pv 1) (pv 0)) (wix K (pv 2) (pv 0))))))) (sr (aK (bJ (a1 (rn (rv 0)))) (ar 0) (bY cz (rx (af 1) (rv 0)) (rx (af 2) (rv 0))))) fun ds P m=>?_
 obtain ⟨one,f,rfl,p,j,o⟩:=m
 ac_rfl
 ac_nf
 refine cL (lo:=0) (n:=one.length) (g:=fun (i:Nat)=>.int (one.getD i 0 - f.getD i 0)) (fun R h=>?_) j (fun i hi R h=>?_) ?_
 .symm;exact h
 .rfl'
  rw[OU]
  refine aD () (aD () ?_)
  rfl'
  exact h
 .rw[dw];exact o
def t7:DSp:=fun ds P=>∃d,ds=[d]/\kn d=true/\P (.bl (isNum d))
theorem xC:aB t7:=by walk_at "M"
theorem As(Z:Zk K mg ξ c):Ze P w K mg ξ 1 "is_number" ny kj (spP K t7):=by
 refine dJ kj Z.h_is_number (fun hr nd=>(pr (pG (az (cq (K:=K) rfl) (by rfl) Z.isinstance_ boot_isinstance (p2 (pv 0) (kg (v:=.ty "int") rfl Z.int_ boot_int rfl))) (vt (HH (az (cq (K:=K) rfl) (by rfl) Z.isinstance_ boot_isinstance (p2 (pv 0) (kg (v:=.ty "bool") rfl Z.bool_ boot_bool rfl)))))))) (sr (l4 (EM.er (fJ Em (rv 0))) (Fs (EM.er (fJ Bz (rv 0)))))) fun ds P g=>?_
 obtain ⟨d,rfl,f,h⟩:=g
 ac_rfl
 cases d with
 |scr ns=>cases f
 |pin a d=>cases f
 |mem i=>cases f
 |raw w=>cases f
 |ins a b c=>cases f
 |_=>ac_nf;exact h
def wM:DSp:=fun ds P=>∃x m,ds=[.int x,.int m]/\P (.bl (decide (0<=x/\x<m)))
theorem cY:aB wM:=by walk_at "M"
theorem fG(Z:Zk K mg ξ c):Ze P w K mg ξ 1 "is_place" pU lP (spP K wM):=by
 refine dJ lP Z.h_is_place (fun hr nd=>(pr (wt Cd ph ai (pv 0) (pv 1)))) (sr (nD iF iF ri (rv 0) (rv 1))) fun ds P g=>?_
 obtain ⟨x,m,rfl,f⟩:=g
 ac_rfl
 ac_nf
 split
 .rename_i c
  have e:decide (0<=x/\x<m)=decide (x<m):=by rw[P1,decide_eq_true_eq,decide_eq_true_eq];exact⟨fun z=>z.2,fun z=>⟨c,z⟩⟩
  rw[e] at f
  exact f
 .rename_i c
  rw[decide_eq_false (fun z=>c z.1)] at f
  exact f
def nE:DSp:=fun ds P=>∃t,ds=[dT t]/\t.length<=1000/\P (dT t)
theorem fU:aB nE:=by walk_at "M"
theorem iQ(Z:Zk K mg ξ c):Ze P w K mg ξ 1 "copied_table" gk fZ (spP K nE):=by
 refine dJ fZ Z.h_copied_table (fun hr nd=>(pr (wco (ak gk) "row" [] [] (wil K (pv 0)) (fun _ _ _ _ _=>(bD (bg (K:=K) rfl) (by rfl) Z.list_ boot_list (p1 (pv 0))))))) (sr (aK (aN (af 0)) (ar 0) (aX fh (a1 (rv 0))))) fun ds P g=>?_
 obtain ⟨t,rfl,f,i⟩:=g
 ac_rfl
 ac_nf
 refine lH (t:=t) (fun R h=>h) f (fun r hr R h=>by rfl';exact h) ?_
 exact i
def mQ:DSp:=fun ds P=>∃t,ds=[dT t]/\t.length<=1000/\P (dI (t.map List.sum))
theorem cx:aB mQ:=by walk_at "M"
theorem cU(Z:Zk K mg ξ c):Ze P w K mg ξ 1 "sums_of_rows" gI gv (spP K mQ):=by
 refine dJ gv Z.h_sums_of_rows (fun hr nd=>(pr (wco (ak gI) "row" [] [] (wil K (pv 0)) (fun _ _ _ _ _=>(az (bX (K:=K) rfl rfl) (by rfl) Z.sum_ boot_sum (p1 (pv 0))))))) (sr (aK (aN (af 0)) (ar 0) (aX mZ (a1 (rv 0))))) fun ds P i=>?_
 obtain ⟨t,rfl,f,j⟩:=i
 ac_rfl
 ac_nf
 refine kZ (t:=t) (g:=fun r=>.int r.sum) (fun R h=>h) f (fun r hr R h=>?_) ?_
 .rfl'
  exact h
 .rw[dw];exact j
def t4:DSp:=fun ds P=>∃(t:aaa) (j:Nat),ds=[dT t,.int j]/\t.length<=1000/\(∀r∈t,j<r.length)/\P (dI (fH t j))
theorem jz:aB t4:=by walk_at "M"
theorem lR(Z:Zk K mg ξ c):Ze P w K mg ξ 1 "column_of" ki ko (spP K t4):=by
 refine dJ ko Z.h_column_of (fun hr nd=>(pr (wco (ak ki) "row" ["place"] [1] (wil K (pv 0)) (fun _ _ _ _ _=>(wix K (pv 0) (pv 1)))))) (sr (aK (aN (af 0)) (ar 0) (ER.ax (rx (af 0) (rv 1))))) fun ds P i=>?_
 obtain ⟨t,j,rfl,f,hj,m⟩:=i
 ac_rfl
 ac_nf
 refine kZ (t:=t) (g:=fun r=>.int (r.getD j 0)) (fun R h=>h) f (fun r hr R h=>?_) ?_
 .rfl'
  have:=hj r hr
  refine aD () ?_
  rw[Oh]
  exact⟨rfl,h⟩
 .rw[dw];exact m
def turned(m:Nat)(t:aaa):aaa:=(List.range m).map fun (j:Nat)=>fH t j
def nI:DSp:=fun ds P=>∃(t:aaa) (n m:Nat),ds=[dT t]/\aP n m t/\1<=n/\n<=1000/\m<=1000/\P (dT (turned m t))
theorem fQ:aB nI:=by walk_at "M"
theorem iN(Z:Zk K mg ξ c):Ze P w K mg ξ 2 "turned_table" fY gf (spP K nI):=by
 refine dJ gf Z.h_turned_table (fun hr nd=>(pr (wco (ak fY) "place" ["table"] [0] (aS rfl Z.range_ (p1 (wln K Z.len_ (wix K (pv 0) ai)))) (fun _ _ _ _ _=>(wcc (lR Z) hr (p2 (pv 1) (pv 0))))))) (sr (aK (bJ (a1 (rn (rx (af 0) ri)))) (ar 0) (aY jz (a2 (rv 1) (rv 0))))) fun ds P o=>?_
 obtain ⟨t,n,m,rfl,f,hn,s,hm,p⟩:=o
 ac_rfl
 have ht:=f.1
 have q:=f.row (i:=0) ()
 ac_nf
 refine cL (lo:=0) (n:=m) (g:=fun (j:Nat)=>dI (fH t j)) (fun R h=>?_) hm (fun j hj R h=>?_) ?_
 .ac_nf
  refine bC () ?_
  ac_nf
  rw[q]
  exact⟨(),h⟩
 .rfl'
  rw[OU]
  exact⟨t,j,rfl,(),fun r hr=>by rw[f.2 r hr];exact hj,h⟩
 .rw[zg];exact p
def ka:DSp:=fun ds P=>∃(t:aaa) (n m:Nat),ds=[dT t]/\aP n m t/\1<=n/\n<=1000/\m<=1000/\P (dI ((turned m t).map List.sum))
theorem cn:aB ka:=by walk_at "M"
theorem cS(Z:Zk K mg ξ c):Ze P w K mg ξ 3 "sums_of_columns" gz dq (spP K ka):=by
 refine dJ dq Z.h_sums_of_columns (fun hr nd=>(pr (wcc (cU Z) hr (p1 (wcc (iN Z) hr (p1 (pv 0))))))) (sr (aY cx (a1 (rl fQ (a1 (rv 0)))))) fun ds P f=>?_
 obtain ⟨t,n,m,rfl,g,hn,i,hm,h⟩:=f
 ac_rfl
 ac_nf
 refine⟨t,n,m,rfl,g,hn,i,hm,?_⟩
 exact⟨turned m t,rfl,by unfold turned;rw[dz,Ot];exact hm,h⟩
def Low(n m:Nat)(f c:aaa):Prop:=∀i j,i<n->j<m->cellAt f i j<=cellAt c i j
theorem GP:bO a b=[]↔∀j,j<a.length->b.getD j 0<=a.getD j 0:=by
 unfold bO
 rw[Pp]
 refine⟨fun h j hj=>?_,fun h j hj=>?_⟩
 .have:=h j (OL.mpr hj)
  simp at this
  exact this
 .have:=h j (OL.mp hj)
  simp
  exact this
def mV:DSp:=fun ds P=>∃(f c:aaa) (n m:Nat),ds=[dT f,dT c]/\aP n m f/\aP n m c/\n<=50/\m<=50/\Low n m f c/\P .non
theorem Iu:((List.range n).map fun _=>false).any id=false:=by
 rw[List.any_eq_false]
 intro b hb
 obtain ⟨_,_,rfl⟩:=Oo.mp hb
 exact Oz
theorem qR:aB mV:=by walk_at "M"
theorem uu(Z:Zk K mg ξ c):Ze P w K mg ξ 2 "check_bounds" gK gM (spP K mV):=by
 refine dJ gM Z.h_check_bounds (fun hr nd=>(aA (bc (cJ (az (Gm (K:=K) rfl rfl) (by rfl) Z.any_ boot_any (p1 (wco (ak gK) "row" ["low","high"] [0,1] (aS rfl Z.range_ (p1 (wln K Z.len_ (pv 0)))) (fun _ _ _ _ _=>(ie (kM hr.units) (wcc (cf Z) hr (p2 (wix K (pv 2) (pv 0)) (wix K (pv 1) (pv 0)))) (bt cK) (jr _))))))) (aA jL) aE))) (bf (kL (EM.er (aX Mz (a1 (EM.er (aK (bJ (a1 (rn (rv 0)))) (ar 0) (bY oY (rl bL (a2 (rx (af 2) (rv 0)) (rx (af 1) (rv 0)))) (EM.er (bu aL))))))))) iE aF) fun ds P s=>?_
 obtain ⟨r,f,n,m,rfl,o,p,x,y,u,t⟩:=s
 ac_rfl
 have l1:=o.1
 have l2:=p.1
 symm
 refine cL (lo:=0) (n:=n) (g:=fun _=>.bl false) (fun R h=>?_) () (fun i hi R h=>?_) ?_
 .symm
  rw[l1]
  exact h
 .rfl'
  rw[OU]
  have v:=o.row hi
  have q:=p.row hi
  refine bC () (bC () ?_)
  rw[Oh]
  refine⟨_,_,rfl,(),(),?_⟩
  rw[GP.mpr fun j hj=>u i j hi (by rw[q] at hj;exact hj)]
  rfl'
  exact c8 (xs:=[]) (ys:=[]) h
 rw[show (List.range n).map (fun _=>L3.D.bl false)=((List.range n).map fun _=>false).map L3.D.bl by rw[OB];rfl]
 symm
 rw[Iu]
 symm
 exact t
abbrev dN(rs:aad):D:=dI (rs.map fun (r:Nat)=>(r:Int))
abbrev nT(ws:List aad):aaa:=ws.map fun l=>l.map fun (x:Nat)=>(x:Int)
def upL(n:Nat)(a b:aaa):List aad:=(List.range n).map fun p=>bO (rowAt a p) (rowAt b p)
def yh:DSp:=fun ds P=>∃(a b:aaa) (n m:Nat),ds=[dT a,dT b]/\aP n m a/\aP n m b/\n<=50/\m<=50/\P (dT (nT (upL n a b)))
theorem qJ:aB yh:=by walk_at "M"
theorem wG(Z:Zk K mg ξ c):Ze P w K mg ξ 2 "ways_up" oC oy (spP K yh):=by
 refine dJ oy Z.h_ways_up (fun hr nd=>(pr (wco (ak oC) "place" ["lesser","greater"] [0,1] (aS rfl Z.range_ (p1 (wln K Z.len_ (pv 0)))) (fun _ _ _ _ _=>(wcc (cf Z) hr (p2 (wix K (pv 1) (pv 0)) (wix K (pv 2) (pv 0)))))))) (sr (aK (bJ (a1 (rn (rv 0)))) (ar 0) (aY bL (a2 (rx (af 1) (rv 0)) (rx (af 2) (rv 0)))))) fun ds P q=>?_
 obtain ⟨a,b,n,m,rfl,o,j,t,u,f⟩:=q
 ac_rfl
 have l1:=o.1
 have l2:=j.1
 symm
 refine cL (lo:=0) (n:=n) (g:=fun (i:Nat)=>dN (bO (rowAt a i) (rowAt b i))) (fun R h=>?_) () (fun i hi R h=>?_) ?_
 .symm
  rw[l1]
  exact h
 .rfl'
  rw[OU]
  have s:=o.row hi
  have r:=j.row hi
  refine bC () (bC () ?_)
  rw[Oh]
  exact⟨_,_,rfl,(),(),h⟩
 unfold nT upL at f
 rw[OB,show (dT ((List.range n).map ((fun l=>l.map fun (x:Nat)=>(x:Int)) ∘ fun p=>bO (rowAt a p) (rowAt b p))))=L3.D.lst ((List.range n).map fun (i:Nat)=>dN (bO (rowAt a i) (rowAt b i))) by show L3.D.lst (List.map dI _)=_;rw[OB];rfl] at f
 exact f
def ke:DSp:=fun ds P=>∃(cs:aad) (r:aab),ds=[dN cs,dI r]/\cs.length<=100/\(∀c∈cs,c<r.length)/\(∀c∈cs,0<r.getD c 0->P (.int (c:Int)))/\((∀c∈cs,¬ 0<r.getD c 0)->P .non)
theorem mN:aB ke:=by walk_at "M"
theorem p5(Z:Zk K mg ξ c):Ze P w K mg ξ 1 "first_with_room" dy fW (spP K ke):=by
 refine dJ qM Z.h_first_with_room (fun hr nd=>(aa (y7 rfl (aH.of (sc0:=(ak dy)) (tn:=["column"]) (cap:=["rooms"]) (idx:=[1]) (by decide +kernel) rfl rfl) nd rfl (by walk_at "o") (wil K (pv 0)) (iC.name nofun) (fun _ _ _ _ _=>bT (i:=0) (aM (l:=["column","rooms"]) (by decide +kernel)) rfl (by walk_at "o") (by first|exact .inl rfl|exact .inr rfl)) (fun _ _ _ _ _=>iy (pc uk (wix K (pv 1) (pv 0)) ai)) (fun _ _ _ _ _=>(pv 0))) (pr (vG (pc (kM hr.units) (pv 2) (bt cK)) (wix K (pv 2) ai) fC)))) (sq 2 (EM.es (j8 (aN (af 0)) (ar 0) (tt iF (rx (af 1) (rv 0)) ri) (ER.ax (rv 0)))) (sr (Hv (tt oY (rv 2) (EM.er (bu aL))) (ER.ax (rx (af 2) ri)) ff))) fun ds P n=>?_
 obtain ⟨cs,r,rfl,v,hr,o,s⟩:=n
 ac_rfl
 symm
 refine jM (as:=cs) (f:=fun (c:Nat)=>.int (c:Int)) (p:=fun c=>decide (0<r.getD c 0)) (g:=fun (c:Nat)=>.int (c:Int)) (fun R h=>?_) () (fun i hi R h=>?_) ?_
 .symm
  rw[OB] at *
  exact h
 .rfl'
  have:=hr i hi
  refine aD () ?_
  rw[Oh]
  rfl'
  by_cases z:0<r.getD i 0
  .rw[if_pos z]
   rw[decide_eq_true z] at h
   exact h
  .rw[if_neg z]
   rw[decide_eq_false z] at h
   exact h
 cases e:cs.filter (fun c=>decide (0<r.getD c 0)) with
 |nil =>
  symm
  refine c8 (xs:=[]) (ys:=[]) ?_
  symm
  refine s fun c m z=>?_
  rw[Pp] at e
  exact e c m (by simpa using z)
 |cons q l =>
  have j:q∈cs.filter (fun c=>decide (0<r.getD c 0)):=by rw[e];exact k0
  obtain ⟨u,t⟩:=O9.mp j
  rw[show L3.D.lst ((q::l).map fun (c:Nat)=>L3.D.int (c:Int))=dI ((q::l).map fun (c:Nat)=>(c:Int)) by show _=L3.D.lst (List.map L3.D.int _);rw[OB];rfl]
  symm
  refine c8 (ys:=[]) ?_
  rw[decide_eq_false (by simp)]
  symm
  refine aD (by simp only[Oi,H0];omega) ⟨rfl,?_⟩
  exact o q u (of_decide_eq_true t)
abbrev j0(p:Nat × Nat):D:=.tup [.int (p.1:Int),.int (p.2:Int)]
abbrev Bx(c:Cs)(g f t:aaa)(w r:aab):D:=.ins c.Filling ["low","high","table","wants","rooms"] [dT g,dT f,dT t,dI w,dI r]
abbrev xF(c:Cs)(al ah:Addr)(t:aaa)(w r:aab):D:=.ins c.Filling ["low","high","table","wants","rooms"] [.raw (.ref al),.raw (.ref ah),dT t,dI w,dI r]
theorem l7{ps:List (Nat × Nat)}{k:Nat}{p:Nat × Nat}{P:DK}(e:ps[k]?=some p)(h:P (j0 p)):asO (atI (ps.map j0) (k:Int)) P:=by
 have c:=(oe.mp e).1
 refine (xf ?_).mpr h
 unfold atI
 rw[cB () (by rw[dz];omega),Oh]
 show (ps.map j0)[k]?=_
 rw[ox,e];rfl
def iM(c:Cs):DSp:=fun ds P=>∃(g f t:aaa) (w r:aab) (n m k:Nat) (cs:List (Nat × Nat)) (p:Nat × Nat),ds=[Bx c g f t w r,.lst (cs.map j0),.int (k:Int)]/\aP n m g/\aP n m f/\aP n m t/\cs[k]?=some p/\p.1<n/\p.2<m/\P (.int (if k % 2=0 then cellAt f p.1 p.2 - cellAt t p.1 p.2 else cellAt t p.1 p.2 - cellAt g p.1 p.2))
theorem pO:aB (iM c):=by walk_at "M"
theorem rm:∀ds P,iM c ds P->ds.length=3:=by
 intro ds P h
 obtain ⟨_,_,_,_,_,_,_,_,_,_,e,_⟩:=h
 rw[e];rfl
theorem sV(F:lz K c.Filling "slack" "Filling.slack" eP cX f fd)(Z:Zk K mg ξ c):gP P w K mg ξ CX0 1 f fd cX (spP K (iM c)):=by
 refine F.fn.ok gZ (fun vs H Q E h=>j5 rm h) (fun x A outer s H vs Q E hr h=>?_)
 refine⟨_,(aa (wst 3 gZ.nd (wit K (wix K (pv 1) (pv 2)) ai)) (aa (wst 4 gZ.nd (wit K (wix K (pv 1) (pv 2)) ai)) (aa (bc (pc eI (aI g8 (pv 2) ai) ai) (pr (aI iR (wix K (wix K (wfd K (pv 0)) (pv 3)) (pv 4)) (wix K (wix K (wfd K (pv 0)) (pv 3)) (pv 4)))) aE) (pr (aI iR (wix K (wix K (wfd K (pv 0)) (pv 3)) (pv 4)) (wix K (wix K (wfd K (pv 0)) (pv 3)) (pv 4))))))),pI (Γn:=[]) (N:=iT) (sq 3 (vq (br (af 1) (rv 2)) ri) (sq 4 (vq (br (af 1) (rv 2)) ri) (aj (bf (tt kK (ro bP (rv 2) ri) ri) (sr (bY cz (rx (br (bw ["low","high","table","wants","rooms"] 1 Z.i_Filling.cl Z.n_Filling_high (af 0)) (rv 3)) (rv 4)) (rx (br (bw ["low","high","table","wants","rooms"] 2 Z.i_Filling.cl Z.n_Filling_table (af 0)) (rv 3)) (rv 4)))) aF) (sr (bY cz (rx (br (bw ["low","high","table","wants","rooms"] 2 Z.i_Filling.cl Z.n_Filling_table (af 0)) (rv 3)) (rv 4)) (rx (br (bw ["low","high","table","wants","rooms"] 0 Z.i_Filling.cl Z.n_Filling_low (af 0)) (rv 3)) (rv 4))))))) (fun ds P q=>?_) h⟩
 obtain ⟨i,g,t,w,r,n,m,k,cs,p,rfl,u,v,o,e,p1,p2,j⟩:=q
 rw[show bA iT [Bx c i g t w r,.lst (cs.map j0),.int (k:Int)]=[some (Bx c i g t w r),some (.lst (cs.map j0)),some (.int (k:Int)),none,none] from rfl]
 symm
 refine l7 e ?_
 symm
 refine l7 e ?_
 symm
 by_cases z:k % 2=0
 .rw[if_pos ()]
  rw[if_pos z] at j
  refine dD v () () ?_
  rw[Oh,Oh]
  refine dD o () () ?_
  rw[Oh,Oh]
  exact j
 .rw[if_neg ()]
  rw[if_neg z] at j
  refine dD o () () ?_
  rw[Oh,Oh]
  refine dD u () () ?_
  rw[Oh,Oh]
  exact j
open L3.Fl in
def vn:DSI:=fun ds P=>∃(ls:aad) (ws:List aad) (as:List (Nat × Option Nat)) (B:Nat),ds=[dN ls,dT (nT ws),.dic (kA as)]/\B<=50/\(∀l∈ls,l<ws.length)/\(∀v∈ws,v.length<=50/\∀p∈v,p<B)/\(kys as).Nodup/\(∀p∈kys as,p<B) /\
 ∀PD:List (Nat × Nat),(kys as++PD.map Prod.fst).Nodup->(∀p∈PD,p.2∈ls/\p.1∈ws.getD p.2 [])->(∀s∈ls,∀p∈ws.getD s [],p∈kys as++PD.map Prod.fst)->P (dN (PD.map Prod.fst)) (.dic (kA (as++nw PD)))
theorem tT:HP vn:=by
 intro xs P r k h
 obtain ⟨a1,a2,a3,p,e,o,n,m,j,i,h⟩:=h
 exact⟨a1,a2,a3,p,e,o,n,m,j,i,fun q g f c=>k _ _ (h q g f c)⟩
theorem xi:∀ds P,vn ds P->ds.length=3:=by
 intro ds P h
 obtain ⟨_,_,_,_,e,_⟩:=h
 rw[e];rfl
theorem ye(Z:Zk K mg ξ c):Ze P w K mg ξ 1 "spread" qE qm (spI K 2 vn):=by
 obtain ⟨f,fd,F⟩:=Z.h_spread
 refine⟨f,fd,F,?_⟩
 refine F.fn.ok oF (fun vs H Q E h=>KG xi h) (fun cdv A outer s H vs Q E hr h=>?_)
 refine⟨_,(aa (wst 3 oF.nd (bt cK)) (aa (wfo (wil K (pv 0)) (wpg 4 oF.nd) (aA (wfo (wil K (wix K (pv 1) (pv 4))) (wpg 5 oF.nd) (aA (bc (MI (FW (Bs hr) (pv 5) (pv 2)) (by with_unfolding_all rfl)) (aa (EB (Bs hr) (pv 2) (pv 5) (pv 4) rfl) (aA (cy (lC OO O4 O3 cZ (pv 3) (p1 (pv 5)))))) aE))))) (pr (pv 3)))),KI (Γn:=[3,2]) (N:=vK) (p:=2) (aj (ST.post (Γn:=[3,2]) (aQ (M:=[]) 3 (bu aL))) (aj (dH (aN (af 0)) (ar 4) (dH (aN (br (af 1) (rv 4))) (ar 5) (bf (kL (EM.er (Gq (rv 5) (qS 2)))) (aj (Mv 2 (GU 2 (rv 5) (rv 4))) (ST.post (Γn:=[3,2]) (dY (M:=[]) 3 (ER.ax (rv 5))))) aF))) (cD (M:=[3]) (dB 3)))) (fun ds P a x hS C=>?_) nofun (fun ds P h=>by have:=xi ds P h;omega) h⟩
 obtain ⟨ls,ws,as,B,rfl,hB,X,hw,na,ba,hP⟩:=hS
 cases C
 simp only[List.set_cons_zero,List.set_cons_succ]
 rw[show bA vK [dN ls,dT (nT ws),.pin a (.dic (L3.Fl.kA as))]=[some (dN ls),some (dT (nT ws)),some (.pin a (.dic (L3.Fl.kA as))),none,none,none] from rfl]
 symm
 have lw:(nT ws).length=ws.length:=by unfold nT;rw[dz]
 have le:∀g:List (Nat × Nat),(kys as++g.map Prod.fst).Nodup->(∀p∈g,p.2∈ls/\p.1∈ws.getD p.2 [])->(kA (as++nw g)).length<=50/\g.length<=50:=fun g h1 h2=>by
  have:=jI (B:=B) h1 fun q j=>by
   rcases Oj.mp j with z|z
   .exact ba q z
   .obtain ⟨p,t,rfl⟩:=Oo.mp z
    obtain ⟨k1,k2⟩:=h2 p t
    have Th:=X _ k1
    refine (hw (ws.getD p.2 []) ?_).2 _ k2
    rw[be,ab Th]
    exact ON Th
  rw[Ox,dz,dz] at this
  refine⟨?_,()⟩
  unfold kA nw
  rw[dz,Ox,dz];omega
 rw[show List.map L3.D.int (List.map (fun (r:Nat)=>(r:Int)) ls)=ls.map (fun (r:Nat)=>L3.D.int (r:Int)) by rw[OB];rfl]
 refine cW (as:=ls) (f:=fun (r:Nat)=>L3.D.int (r:Int)) (fun i δ=>∃(g:List (Nat × Nat)) (R m:Option D),δ=[some (dN ls),some (dT (nT ws)),some (L3.D.pin a (L3.D.dic (kA (as++nw g)))),some (dN (g.map Prod.fst)),R,m]/\(kys as++g.map Prod.fst).Nodup/\(∀p∈g,p.2∈ls/\p.1∈ws.getD p.2 [])/\∀s∈ls.take i,∀p∈ws.getD s [],p∈kys as++g.map Prod.fst) ⟨[],none,none,by simp [nw],by simpa using na,fun p h=>(nomatch h),fun s h=>by simp at h⟩ ?_ ?_
 .rintro i s δ N e ⟨g,R,m,rfl,nd,hn,n⟩ hN
  have I:s∈ls:=OV e
  have L:=X s I
  have ew:rowAt (nT ws) s=(ws.getD s []).map fun (x:Nat)=>(x:Int):=by
   unfold rowAt nT
   rw[be,ox,ab L,be,ab L];rfl
  obtain ⟨v,G⟩:∃v,ws.getD s []=v:=⟨_,rfl⟩
  have vin:v∈ws:=by rw[<- G,be,ab L];exact ON L
  symm
  refine bC () ?_
  rw[Oh,ew,G]
  symm
  rw[show List.map L3.D.int (List.map (fun (r:Nat)=>(r:Int)) v)=v.map (fun (r:Nat)=>L3.D.int (r:Int)) by rw[OB];rfl]
  refine cW (as:=v) (f:=fun (r:Nat)=>L3.D.int (r:Int)) (fun k δ=>∃(g:List (Nat × Nat)) (m:Option D),δ=[some (dN ls),some (dT (nT ws)),some (L3.D.pin a (L3.D.dic (kA (as++nw g)))),some (dN (g.map Prod.fst)),some (.int (s:Int)),m]/\(kys as++g.map Prod.fst).Nodup/\(∀p∈g,p.2∈ls/\p.1∈ws.getD p.2 [])/\(∀s∈ls.take i,∀p∈ws.getD s [],p∈kys as++g.map Prod.fst)/\∀p∈v.take k,p∈kys as++g.map Prod.fst) ⟨g,m,rfl,nd,hn,n,fun p h=>by simp at h⟩ ?_ ?_
  .rintro k p δ N' Y ⟨g,m,rfl,nd,hn,n,J⟩ YX
   have t:p∈v:=OV Y
   obtain ⟨l1,l2⟩:=le g nd hn
   have T:∀q,q∈v.take (k+1)->q∈v.take k\/q=p:=fun q j=>by
    rw[List.take_succ,Y] at j
    rcases Oj.mp j with z|z
    .exact .inl z
    .exact .inr (by simpa using z)
   have U:kys (as++nw g)=kys as++g.map Prod.fst:=by rw[bZ,fk]
   symm
   rw[NA,U]
   by_cases hi:p∈kys as++g.map Prod.fst
   .rw[decide_eq_true hi]
    symm
    refine YX _ ⟨g,_,rfl,nd,hn,n,fun q j=>?_⟩
    rcases T q j with z|z
    .exact J q z
    .rw[z];exact hi
   .rw[decide_eq_false hi]
    symm
    have ep:putK (kA (as++nw g)) (.inl (p:Int)) (.int (s:Int))=kA (as++nw (g++[(p,s)])):=by
     have:=Jm (as:=as++nw g) (c:=p) (o:=some s) (by rw[U];exact hi)
     rw[show oV (some s)=V.int (s:Int) from rfl] at this
     rw[this]
     unfold nw
     rw[Ov,<- OM];rfl
    rw[ep,Ed]
    have ef:(g.map Prod.fst).map (fun (r:Nat)=>(r:Int))++[(p:Int)]=((g++[(p,s)]).map Prod.fst).map fun (r:Nat)=>(r:Int):=by
     rw[Ov,Ov];rfl
    rw[ef]
    refine YX _ ⟨g++[(p,s)],_,rfl,?_,fun q j=>?_,fun u O q j=>?_,fun q j=>?_⟩
    .rw[Ov,<- OM]
     refine Ow.mpr ⟨nd,by simp,fun x C y hy z=>?_⟩
     have:y=p:=by simpa using hy
     rw[z,this] at C;exact hi C
    .rcases Oj.mp j with z|z
     .exact hn q z
     .cases mo.mp z
      exact⟨I,by rw[G];exact t⟩
    .rw[Ov,<- OM]
     exact Oq _ (n u O q j)
    .rw[Ov,<- OM]
     rcases T q j with z|z
     .exact Oq _ (J q z)
     .rw[z];exact Fk _ (by simp)
  .rintro δ ⟨g,m,rfl,nd,hn,n,J⟩
   refine hN _ ⟨g,_,_,rfl,nd,hn,fun u O q j=>?_⟩
   rw[List.take_succ,e] at O
   rcases Oj.mp O with z|z
   .exact n u z q j
   .have:u=s:=by simpa using z
    rw[this,G] at j
    exact J q (by rw[Qn];exact j)
 .rintro δ ⟨g,R,m,rfl,nd,hn,n⟩
  symm
  exact hP g nd hn fun s I p t=>n s (by rw[Qn];exact I) p t
abbrev Bn(c:Cs)(as bs:List (Nat × Option Nat))(f:Option Nat):D:=.ins c.Reach ["rows","columns","goal"] [.dic (kA as),.dic (kA bs),oD f]
theorem CN(h:i∈kys as):∃o,(i,o)∈as:=by
 obtain ⟨p,c,rfl⟩:=Oo.mp h
 exact⟨p.2,c⟩
theorem A5{c:Nat}:∀{ps:List (Nat × Nat)},(lh ps c).length=2*ps.length
 |[]=>rfl
 |[p]=>rfl
 |p::q::r=>by
  show (lh (q::r) c).length+1+1=_
  rw[A5];simp only[H0];omega
def nP(c:Cs):DSp:=fun ds P=>∃(h f t:aaa) (w:aab) (as bs:List (Nat × Option Nat)) (rk i:Nat->Nat) (n m B g:Nat),ds=[Bn c as bs (some g)]/\Rc n m h f t w as bs rk i B/\g∈kys bs/\n<=50/\∀ps,Wy n m h f t w g ps->P (.lst ((cellsOf ps).map j0))
theorem vQ:aB (nP c):=by walk_at "M"
theorem xQ:∀ds P,nP c ds P->ds.length=1:=by
 intro ds P h
 obtain ⟨_,_,_,_,_,_,_,_,_,_,_,_,e,_⟩:=h
 rw[e];rfl
theorem Ag(F:lz K c.Reach "way" "Reach.way" kq iG f fd)(Z:Zk K mg ξ c):gP P w K mg ξ CX0 1 f fd iG (spP K (nP c)):=by
 refine F.fn.ok gp (fun vs H Q E h=>j5 xQ h) (fun cdv A outer s H vs Q E hr h=>?_)
 refine⟨_,(aa (wst 1 gp.nd (bt cK)) (aa (wst 2 gp.nd (wfd K (pv 0))) (aa (nU PassesOwn.never (pc zI (pv 2) fC) (aa (wst 3 gp.nd (EU (Bs hr) (wfd K (pv 0)) (pv 2) (fun _ _=>rfl))) (aa (cy (lC OO O4 O3 cZ (pv 1) (p1 (eh (p2 (pv 3) (pv 2)))))) (aa (wst 2 gp.nd (EU (Bs hr) (wfd K (pv 0)) (pv 3) (fun _ _=>rfl))) (aA (bc (pc zI (pv 2) fC) (aA (cy (lC OO O4 O3 cZ (pv 1) (p1 (eh (p2 (pv 3) (pv 2))))))) aE)))))) (pr (pv 1))))),pI (Γn:=[1]) (N:=nM) (aj (ST.post (Γn:=[1]) (aQ (M:=[]) 1 (bu aL))) (aj (ST.post (Γn:=[1]) (aO 2 (bw ["rows","columns","goal"] 2 Z.i_Reach.cl Z.n_Reach_goal (af 0)))) (aj (nu (tt Dj (rv 2) (EM.er ff)) (aj (ST.post (Γn:=[1]) (aO 3 (EM.es (ER.flat (Fn (ES.er (bw ["rows","columns","goal"] 1 Z.i_Reach.cl Z.n_Reach_columns (af 0))) (rv 2)))))) (aj (ST.post (Γn:=[1]) (dY (M:=[]) 1 (fD (av (ER.flat (rv 3)) (av (ER.flat (rv 2)) aL))))) (aj (ST.post (Γn:=[1]) (aO 2 (EM.es (ER.flat (Fn (ES.er (bw ["rows","columns","goal"] 0 Z.i_Reach.cl Z.n_Reach_rows (af 0))) (rv 3)))))) (bf (tt Dj (rv 2) (EM.er ff)) (ST.post (Γn:=[1]) (dY (M:=[]) 1 (fD (av (ER.flat (rv 3)) (av (ER.flat (rv 2)) aL))))) aF))))) (cD (M:=[1]) (dB 1))))) (fun ds P U=>?_) h⟩
 obtain ⟨x,j,t,w,as,bs,rk,z,n,m,B,g,rfl,y,T,n5,X⟩:=U
 rw[show bA nM [Bn c as bs (some g)]=[some (Bn c as bs (some g)),none,none,none] from rfl]
 symm
 refine⟨fun G δ=>(∃(ps:List (Nat × Nat)) (i:Nat) (u:Option D),G=z i + 1/\δ=[some (Bn c as bs (some g)),some (.lst ((lh ps i).map j0)),some (.int (i:Int)),u]/\Wp n m x j t bs rk z g ps i)\/(∃(ps:List (Nat × Nat)) (u:Option D),G=0/\δ=[some (Bn c as bs (some g)),some (.lst ((cellsOf ps).map j0)),some .non,u]/\Wy n m x j t w g ps),⟨z g+1,.inl ⟨[],g,none,rfl,rfl,⟨.inl ⟨rfl,rfl⟩,T,fun p h=>(nomatch h),fun p h=>(nomatch h),Pl,Pl,fun p h=>(nomatch h),trivial,fun p h=>by simp at h⟩⟩⟩,?_⟩
 rintro G δ (⟨ps,i,u,rfl,rfl,hw⟩|⟨ps,u,rfl,rfl,hw⟩)
 .obtain ⟨o,I⟩:=CN hw.ci
  obtain ⟨s,e1,_⟩:=y.pb i o I
  subst e1
  obtain ⟨L,XD,V3⟩:=Wp.step y hw I
  obtain ⟨J,C⟩:=CN L
  have hl:=A5 (c:=i) (ps:=ps)
  have VX:ps.length<=50:=by
   have:=jI (B:=n) hw.n1 fun q O=>by
    obtain ⟨p,R,rfl⟩:=Oo.mp O
    exact (hw.rg p R).1
   rw[dz] at this;omega
  symm
  refine AD (v:=.int (s:Int)) (uZ y.nb I) ?_
  symm
  cases J with
  |none =>
   refine AD (v:=.non) (uZ y.na C) ?_
   symm
   rw[show (lh ps i).map j0++[L3.D.tup [L3.D.int (s:Int),L3.D.int (i:Int)]]=(cellsOf (ps++[(s,i)])).map j0 by rw[xk,Ov];rfl]
   exact⟨0,(),.inr ⟨ps++[(s,i)],_,rfl,rfl,XD C⟩⟩
  |some r =>
   obtain ⟨Y,h2⟩:=V3 r C
   refine AD (v:=.int (r:Int)) (uZ y.na C) ?_
   symm
   refine⟨by rw[Ox,dz,PY];omega,?_⟩
   rw[show (lh ps i).map j0++[L3.D.tup [L3.D.int (s:Int),L3.D.int (i:Int)]]++[L3.D.tup [L3.D.int (s:Int),L3.D.int (r:Int)]]=(lh (ps++[(s,i)]) r).map j0 by rw[yI,Ov,OM];rfl]
   exact⟨z r+1,(),.inl ⟨ps++[(s,i)],r,_,rfl,rfl,Y⟩⟩
 .symm
  exact X ps hw
theorem kY:p∈bO a b↔p<a.length/\a.getD p 0<b.getD p 0:=by
 unfold bO
 rw[O9,OL,decide_eq_true_eq]
theorem yX:(bO a b).length<=a.length:=by
 unfold bO
 exact OC (Qf _ _) (by rw[Ot];exact Ol _)
theorem BV:(bO a b).Nodup:=List.nodup_range.filter _
theorem HN(h:s<n):(upL n a b).getD s []=bO (rowAt a s) (rowAt b s):=by
 unfold upL
 rw[be,ox,O8 h];rfl
theorem vP(h:s<m):rowAt (turned m t) s=fH t s:=by
 unfold rowAt turned
 rw[be,ox,O8 h];rfl
theorem Fy:(fH t s).length=t.length:=by unfold fH;rw[dz]
theorem Fo(h:p<t.length):(fH t s).getD p 0=cellAt t p s:=by
 unfold fH cellAt
 rw[be,ox,ab h,be (l:=t),ab h];rfl
theorem tR(h:aP n m t):aP m n (turned m t):=⟨by unfold turned;rw[dz,Ot],fun r hr=>by
 obtain ⟨j,_,rfl⟩:=Oo.mp hr
 rw[Fy];exact h.1⟩
def dU(c:Cs):DSp:=fun ds P=>∃(i f t:aaa) (w r:aab) (n m:Nat),ds=[Bx c i f t w r]/\aP n m i/\aP n m f/\aP n m t/\w.length=n/\r.length=m/\1<=n/\n<=50/\1<=m/\m<=50 /\
 ∀(g:aad) (as bs:List (Nat × Option Nat)) (h:Option Nat) (rk j:Nat->Nat) (B:Nat),Rc n m i f t w as bs rk j B->Cl n m i f t r g as bs h->(h=none->g=[])->P (Bn c as bs h)
theorem uF:aB (dU c):=by walk_at "M"
theorem vH:∀ds P,dU c ds P->ds.length=1:=by
 intro ds P h
 obtain ⟨_,_,_,_,_,_,_,e,_⟩:=h
 rw[e];rfl
theorem wR:∀ds P,(dU c) ds P->(dU c) ds fun d=>(∃ns dd,d=.ins c.Reach ns dd)/\P d:=by
 intro ds P h
 unfold dU at h ⊢
 obtain ⟨a1,a2,a3,B,z,y,x,e,v,u,t,s,r,q,p,o,n,h⟩:=h;exact⟨a1,a2,a3,B,z,y,x,e,v,u,t,s,r,q,p,o,n,fun a b c d e f g m j i=>⟨⟨_,_,rfl⟩,h a b c d e f g m j i⟩⟩
theorem ya(F:x6 K mg "Reach" c.Reach "Reach.__init__" je fV f fd)(Z:Zk K mg ξ c):gP P w K mg ξ CX0 3 f fd fV (Kw K c.Reach (dU c)):=by
 refine F.fn.ok cC (fun vs H Q E h=>GY vH h) (fun cdv A outer s H vs Q E hr h=>?_)
 refine⟨_,(aa (gJ (K:=K) rfl (pv 0) Bd rfl) (aa (gJ (K:=K) rfl (pv 0) Bd rfl) (aa (gJ (K:=K) rfl (pv 0) fC rfl) (aa (wst 2 cC.nd (wcc (wG Z) hr (p2 (wfd K (pv 1)) (wfd K (pv 1))))) (aa (wst 3 cC.nd (wcc (wG Z) hr (p2 (wcc (iN Z) hr (p1 (wfd K (pv 1)))) (wcc (iN Z) hr (p1 (wfd K (pv 1))))))) (aa (wst 4 cC.nd (wcc (cf Z) hr (p2 (aI Aq (bt (p1 ai)) (wln K Z.len_ (wfd K (pv 1)))) (wfd K (pv 1))))) (aa (wfo (wil K (pv 4)) (wpg 5 cC.nd) (aA (EB (Bs hr) (wfd K (pv 0)) (pv 5) fC rfl))) (aA (nU PassesOwn.never (PW.pt (Ae (pc (kM hr.units) (pv 4) (bt cK)) (uT (pc vX (wfd K (pv 0)) fC)))) (aa (wst 6 cC.nd (wcc (ye Z) hr (p3 (pv 4) (pv 2) (wfd K (pv 0))))) (aa (gJ (K:=K) rfl (pv 0) (wcc (p5 Z) hr (p2 (pv 6) (wfd K (pv 1)))) rfl) (aA (wst 4 cC.nd (wcc (ye Z) hr (p3 (pv 6) (pv 3) (wfd K (pv 0))))))))))))))))),KW (N:=l9) (wV Z.i_Reach.cl Z.n_Reach_rows Fd (h:=wV Z.i_Reach.cl Z.n_Reach_columns Fd (h:=wV Z.i_Reach.cl Z.n_Reach_goal ff (h:=Jw (aj (ST.post (Γn:=[0]) (aO 2 (sl qJ (a2 (ES.er (bw ["low","high","table","wants","rooms"] 2 Z.i_Filling.cl Z.n_Filling_table (af 1))) (ES.er (bw ["low","high","table","wants","rooms"] 1 Z.i_Filling.cl Z.n_Filling_high (af 1))))))) (aj (ST.post (Γn:=[0]) (aO 3 (sl qJ (a2 (rl fQ (a1 (ES.er (bw ["low","high","table","wants","rooms"] 0 Z.i_Filling.cl Z.n_Filling_low (af 1))))) (rl fQ (a1 (ES.er (bw ["low","high","table","wants","rooms"] 2 Z.i_Filling.cl Z.n_Filling_table (af 1))))))))) (aj (ST.post (Γn:=[0]) (aO 4 (sl bL (a2 (ro DQ (EM.er (bu (av ee aL))) (rn (ES.er (bw ["low","high","table","wants","rooms"] 3 Z.i_Filling.cl Z.n_Filling_wants (af 1))))) (ES.er (bw ["low","high","table","wants","rooms"] 3 Z.i_Filling.cl Z.n_Filling_wants (af 1))))))) (aj (dH (aN (af 4)) (ar 5) (GX 0 ["rows","columns","goal"] 0 Z.i_Reach.cl Z.n_Reach_rows (rv 5) (EM.er ff))) (nu (Au (tt oY (rv 4) (EM.er (bu aL))) (tt BC (MJ ["rows","columns","goal"] 2 Z.i_Reach.cl Z.n_Reach_goal (qS 0)) (EM.er ff))) (aj (A1 6 0 4 2 ["rows","columns","goal"] 1 tT Z.i_Reach.cl Z.n_Reach_columns) (aj (K6 0 ["rows","columns","goal"] 2 Z.i_Reach.cl Z.n_Reach_goal (rl mN (a2 (rv 6) (ES.er (bw ["low","high","table","wants","rooms"] 4 Z.i_Filling.cl Z.n_Filling_rooms (af 1)))))) (A1 4 0 6 3 ["rows","columns","goal"] 0 tT Z.i_Reach.cl Z.n_Reach_rows)))))))))))) (fun ds P hS=>?_) nofun h⟩
 obtain ⟨y,u,t,w,r,n,m,rfl,hL,hH,hT,lw,lr,n1,n5,m1,m5,hP⟩:=hS
 rw[show bA (l9.drop 1) [Bx c y u t w r]=[some (Bx c y u t w r),none,none,none,none,none] from rfl]
 have Wg:∀s,s<n->∀p,p∈(upL n t u).getD s []↔p<m/\cellAt t s p<cellAt u s p:=fun s M p=>by
  rw[HN M,kY,show (rowAt t s).length=m from hT.row M]
 have X7:∀s,s<m->∀p,p∈(upL m (turned m y) (turned m t)).getD s []↔p<n/\cellAt y p s<cellAt t p s:=fun s M p=>by
  rw[HN M,kY,vP M,vP M,Fy,hL.1]
  refine and_congr_right fun G=>?_
  rw[Fo (by rw[hL.1];exact G),Fo (by rw[hT.1];exact G)]
 have Yj:aP m n (turned m y):=tR hL
 have ZC:aP m n (turned m t):=tR hT
 have Yp:(upL n t u).length=n:=by unfold upL;rw[dz,Ot]
 have ldn:(upL m (turned m y) (turned m t)).length=m:=by unfold upL;rw[dz,Ot]
 have Yy:∀v∈upL n t u,v.length<=50/\∀p∈v,p<m:=fun v hv=>by
  obtain ⟨s,M,rfl⟩:=Oo.mp hv
  have M:=OL.mp M
  have e:=hT.row M
  exact⟨OC yX (by rw[e];exact m5),fun p G=>by have:=(kY.mp G).1;rw[e] at this;exact this⟩
 have XG:∀v∈upL m (turned m y) (turned m t),v.length<=50/\∀p∈v,p<n:=fun v hv=>by
  obtain ⟨s,M,rfl⟩:=Oo.mp hv
  have M:=OL.mp M
  have e:=Yj.row M
  exact⟨OC yX (by rw[e];exact n5),fun p G=>by have:=(kY.mp G).1;rw[e] at this;exact this⟩
 generalize hup:upL n t u=upW at Wg Yp Yy
 generalize TZ:upL m (turned m y) (turned m t)=dnW at X7 ldn XG
 symm
 intro T
 symm
 refine⟨t,u,n,m,rfl,hT,hH,n5,m5,?_⟩
 refine⟨y,n,m,rfl,hL,n1,(),(),?_⟩
 refine⟨t,n,m,rfl,hT,n1,(),(),?_⟩
 refine⟨turned m y,turned m t,m,n,rfl,Yj,ZC,m5,n5,?_⟩
 rw[hup,TZ]
 refine⟨nofun,⟨rfl,(),()⟩,?_⟩
 rw[xm]
 refine⟨List.replicate w.length 0,w,rfl,by rw[OH];omega,OH,?_⟩
 have UQ:∀p,p∈bO (List.replicate w.length 0) w↔p<n/\0<w.getD p 0:=fun p=>by
  rw[kY,OH,lw]
  refine and_congr_right fun G=>?_
  rw[be (l:=List.replicate n 0),O5,if_pos ()];rfl
 have Uh:(bO (List.replicate w.length 0) w).Nodup:=BV
 generalize bO (List.replicate w.length 0) w=ly at UQ Uh
 refine gh rfl ?_
 have YF:ly.length<=50:=OC (jI Uh fun p G=>((UQ p).mp G).1) n5
 rw[show List.map L3.D.int (List.map (fun (r:Nat)=>(r:Int)) ly)=ly.map (fun (r:Nat)=>L3.D.int (r:Int)) by rw[OB];rfl]
 refine cW (as:=ly) (f:=fun (r:Nat)=>L3.D.int (r:Int)) (fun i δ=>∃Y:Option D,δ=[some (.pin T (Bn c ((ly.take i).map fun p=>(p,none)) [] none)),some (Bx c y u t w r),some (dT (nT upW)),some (dT (nT dnW)),some (dN ly),Y,none]) ⟨none,rfl⟩ ?_ ?_
 .rintro i p δ N e ⟨Y,rfl⟩ hN
  have hi:=(oe.mp e).1
  have U:kys ((ly.take i).map fun p=>(p,(none:Option Nat)))=ly.take i:=by unfold kys;rw[OB];exact QM _
  have G:p∉ly.take i:=fun z=>by
   have:=Uh
   rw[<- PJ i ly] at this
   obtain ⟨_,_,h3⟩:=Ow.mp this
   refine h3 p z p ?_ rfl
   rw[Ou hi]
   have:=(oe.mp e).2
   rw[this];exact k0
  refine⟨T,_,kA ((ly.take i).map fun p=>(p,none)),rfl,rfl,rfl,?_⟩
  have lk:(kA ((ly.take i).map fun p=>(p,(none:Option Nat)))).length<1000:=by
   unfold kA;rw[dz,dz,P4];omega
  refine⟨lk,?_⟩
  show N _
  have ep:putK (kA ((ly.take i).map fun p=>(p,(none:Option Nat)))) (.inl (p:Int)) (L3.D.toV L3.D.non)=kA ((ly.take (i+1)).map fun p=>(p,none)):=by
   rw[show L3.D.toV L3.D.non=oV none from rfl,Jm (by rw[U];exact G),List.take_succ,e,Ov];rfl
  rw[ep]
  exact hN _ ⟨_,rfl⟩
 .rintro δ ⟨Y,rfl⟩
  rw[Qn]
  have U:kys (ly.map fun p=>(p,(none:Option Nat)))=ly:=by unfold kys;rw[OB];exact QM _
  have ZG:Rc n m y u t w (ly.map fun p=>(p,none)) [] (fun _=>0) (fun _=>0) 0:=⟨by rw[U];exact Uh,Pl,fun i hi=>⟨((UQ i).mp (by rw[U] at hi;exact hi)).1,Ol _⟩,fun j hj=>(nomatch hj),fun i o e=>by
   obtain ⟨p,G,q⟩:=Oo.mp e
   cases q
   exact .inl ⟨rfl,((UQ _).mp G).2⟩,fun j o e=>(nomatch e),fun i hi hw=>by rw[U];exact (UQ i).mpr ⟨hi,hw⟩⟩
  have cl0:Cl n m y u t r ly (ly.map fun p=>(p,none)) [] none:=⟨fun l L=>by rw[U];exact L,fun i hi hn=>absurd (by rw[U] at hi;exact hi) hn,fun j hj=>(nomatch hj),fun c hc=>(nomatch hc)⟩
  refine⟨fun μ δ=>∃(x:aad) (as bs:List (Nat × Option Nat)) (J:Option Nat) (rk ck:Nat->Nat) (B:Nat) (Y o6:Option D),μ=2*(m - bs.length)+(if x=[] then 0 else 1)/\δ=[some (.pin T (Bn c as bs J)),some (Bx c y u t w r),some (dT (nT upW)),some (dT (nT dnW)),some (dN x),Y,o6]/\Rc n m y u t w as bs rk ck B/\Cl n m y u t r x as bs J,⟨_,ly,_,[],none,_,_,0,_,none,rfl,rfl,ZG,cl0⟩,?_⟩
  rintro μ δ ⟨x,as,bs,J,rk,ck,B,Y,o6,rfl,rfl,R,X⟩
  symm
  refine c8 (xs:=x.map fun (r:Nat)=>(r:Int)) (ys:=[]) ?_
  symm
  by_cases L:x=[]
  .rw[if_neg (by rw[L];simp)]
   exact⟨⟨_,_,rfl⟩,hP x as bs J rk ck B R X fun _=>L⟩
  rw[if_pos (by rw[List.map_eq_nil_iff];exact L)]
  cases J with
  |some g =>
   symm
   exact⟨⟨_,_,rfl⟩,hP x as bs (some g) rk ck B R X fun z=>by cases z⟩
  |none =>
  symm
  rw[if_neg L]
  refine⟨T,_,kA bs,dN x,dT (nT upW),rfl,rfl,rfl,rfl,x,upW,bs,m,rfl,m5,fun l L=>by rw[Yp];exact (R.la l (X.ly l L)).1,Yy,R.nb,fun p G=>(R.lb p G).1,fun I nd hn hc=>⟨_,rfl,?_⟩⟩
  have up2:∀p∈I,p.2∈kys as/\p.1<m/\cellAt t p.2 p.1<cellAt u p.2 p.1:=fun p G=>by
   obtain ⟨q1,q2⟩:=hn p G
   have q3:=X.ly _ q1
   exact⟨q3,(Wg p.2 (R.la _ q3).1 p.1).mp q2⟩
  have O:=R.up nd up2
  generalize hck:(fun c=>if c∈I.map Prod.fst then B+1 else ck c)=ck2 at O
  have J0:bs.length+I.length<=m:=by
   have:=jI (B:=m) O.nb fun p G=>(O.lb p G).1
   rw[dz,Ox,dz] at this
   exact this
  have lt:∀C:List (Nat × Nat),(∀p∈C,p.2∈I.map Prod.fst)->2*(m - (bs++nw I).length)+(if C.map Prod.fst=[] then 0 else 1)<2*(m - bs.length)+1:=fun C h2=>by
   rw[Ox,dz]
   cases I with
   |nil =>
    cases C with
    |nil=>simp
    |cons q l=>exact absurd (h2 q k0) (by simp)
   |cons q l =>
    simp only[H0] at J0 ⊢
    split<;>omega
  have Tr:∀C:List (Nat × Nat),(∀p∈C,p.2∈I.map Prod.fst/\p.1∈dnW.getD p.2 [])->∀p∈C,p.2∈kys (bs++nw I)/\p.1<n/\cellAt y p.1 p.2<cellAt t p.1 p.2:=fun C h2 p G=>by
   obtain ⟨q1,q2⟩:=h2 p G
   have q3:p.2∈kys (bs++nw I):=by rw[bZ,fk];exact Fk _ q1
   exact⟨q3,(X7 p.2 (O.lb _ q3).1 p.1).mp q2⟩
  have Zb:∀C:List (Nat × Nat),∀i∈kys (as++nw C),i∉C.map Prod.fst->∀j,j<m->cellAt t i j<cellAt u i j->j∈kys (bs++nw I):=fun C i hi hni j hj PR=>by
   rw[bZ,fk] at hi ⊢
   have V1:i∈kys as:=(Oj.mp hi).resolve_right hni
   by_cases TV:i∈x
   .exact hc i TV j ((Wg i (R.la i V1).1 j).mpr ⟨hj,PR⟩)
   .exact Oq _ (X.cr i V1 TV j hj PR)
  have Zd:∀C:List (Nat × Nat),(∀s∈I.map Prod.fst,∀p∈dnW.getD s [],p∈kys as++C.map Prod.fst)->∀j∈kys (bs++nw I),∀i,i<n->cellAt y i j<cellAt t i j->i∈kys (as++nw C):=fun C h2 j hj i hi PR=>by
   have hjm:=(O.lb j hj).1
   rw[bZ,fk] at hj ⊢
   rcases Oj.mp hj with z|z
   .exact Oq _ (X.cc j z i hi PR)
   .exact h2 j z i ((X7 j hjm i).mpr ⟨hi,PR⟩)
  refine⟨T,_,L3.D.non,rfl,rfl,rfl,?_⟩
  symm
  have gl0:∀c∈kys bs,r.getD c 0<=0:=X.gl
  refine⟨I.map Prod.fst,r,rfl,by rw[dz];omega,fun q hq=>by rw[lr];exact (O.lb q (by rw[bZ,fk];exact Fk _ hq)).1,fun g hg Xv=>?_,fun hno=>?_⟩
  .refine⟨rfl,?_⟩
   refine⟨T,_,kA as,dN (I.map Prod.fst),dT (nT dnW),rfl,rfl,rfl,rfl,I.map Prod.fst,dnW,as,n,rfl,n5,fun l L=>?_,XG,O.na,fun p G=>(O.la p G).1,fun C SE Sj UB=>⟨_,rfl,?_⟩⟩
   .rw[ldn]
    exact (O.lb l (by rw[bZ,fk];exact Fk _ L)).1
   exact⟨_,lt C (fun p G=>(Sj p G).1),C.map Prod.fst,as++nw C,bs++nw I,some g,_,ck2,_,_,_,rfl,rfl,O.down SE (Tr C Sj),⟨fun l L=>by rw[bZ,fk];exact Fk _ L,Zb C,Zd C UB,⟨by rw[bZ,fk];exact Fk _ hg,Xv⟩⟩⟩
  .refine⟨rfl,?_⟩
   refine⟨T,_,kA as,dN (I.map Prod.fst),dT (nT dnW),rfl,rfl,rfl,rfl,I.map Prod.fst,dnW,as,n,rfl,n5,fun l L=>?_,XG,O.na,fun p G=>(O.la p G).1,fun C SE Sj UB=>⟨_,rfl,?_⟩⟩
   .rw[ldn]
    exact (O.lb l (by rw[bZ,fk];exact Fk _ L)).1
   exact⟨_,lt C (fun p G=>(Sj p G).1),C.map Prod.fst,as++nw C,bs++nw I,none,_,ck2,_,_,_,rfl,rfl,O.down SE (Tr C Sj),⟨fun l L=>by rw[bZ,fk];exact Fk _ L,Zb C,Zd C UB,fun q hq=>by
    rw[bZ,fk] at hq
    rcases Oj.mp hq with z|z
    .exact gl0 q z
    .have:=hno q z;omega⟩⟩
theorem C7{p:Nat × Nat}:∀{l:List (Nat × Nat)},(cellsOf (p::l))[0]?=some p
 |[]=>rfl
 |_::_=>rfl
theorem vW:∀{ps:List (Nat × Nat)},(cellsOf ps).getLast?=ps.getLast?
 |[]=>rfl
 |[p]=>rfl
 |p::q::r=>by
  have ih:=vW (ps:=q::r)
  have:cellsOf (q::r)≠[]:=by cases r<;>exact List.cons_ne_nil _ _
  show (p::(p.1,q.2)::cellsOf (q::r)).getLast?=_
  cases e:cellsOf (q::r) with
  |nil=>exact absurd e this
  |cons a l=>rw[PN,PN,<- e,ih,PN]
theorem yq:∀{ps:List (Nat × Nat)},(cellsOf ps).length<=2*ps.length
 |[]=>Ol _
 |[p]=>by show 1<=2*1;omega
 |p::q::r=>by
  have ih:=yq (ps:=q::r)
  show (cellsOf (q::r)).length+1+1<=_
  simp only[H0] at ih ⊢;omega
theorem KA{ps:List (Nat × Nat)}{p:Nat × Nat}{P:DK}(e:ps.getLast?=some p)(h:P (j0 p)):asO (atI (ps.map j0) (-1)) P:=by
 have c:ps≠[]:=fun z=>by rw[z] at e;cases e
 have f:0<ps.length:=List.length_pos_iff.mpr c
 refine (xf ?_).mpr h
 have:ixN (ps.map j0).length (-1)=some (ps.length - 1):=by
  unfold ixN
  rw[dz,if_neg (),if_pos ()]
  congr 1;omega
 unfold atI
 rw[this]
 show (ps.map j0)[ps.length - 1]?=_
 rw[ox,<- List.getLast?_eq_getElem?,e];rfl
def slA(f c t:aaa)(cs:List (Nat × Nat))(k:Nat):Int:=if k % 2=0 then cellAt c (cs.getD k (0,0)).1 (cs.getD k (0,0)).2 - cellAt t (cs.getD k (0,0)).1 (cs.getD k (0,0)).2 else cellAt t (cs.getD k (0,0)).1 (cs.getD k (0,0)).2 - cellAt f (cs.getD k (0,0)).1 (cs.getD k (0,0)).2
theorem Ja:∀{l:aab}{i:Nat}{v:Int},i<l.length->v<l.getD i 0->0<l.getD i 0->((l.set i v).map Int.toNat).sum<(l.map Int.toNat).sum
 |[],i,v,h,_,_=>by simp at h
 |x::l,0,v,_,f,c=>by
  replace f:v<x:=f
  replace c:0<x:=c
  simp only[List.set_cons_zero,Oi,Oy]
  omega
 |x::l,i+1,v,h,f,c=>by
  have:=Ja (l:=l) (i:=i) (v:=v) (by simpa using h) f c
  simp only[List.set_cons_succ,Oi,Oy]
  omega
def mu(w:aab):Nat:=(w.map Int.toNat).sum
def jK(c:Cs):DSG:=fun x ds q p P=>∃(h f t:aaa) (w r i cols:aab) (al ah:Addr) (g n m:Nat) (ps:List (Nat × Nat)),x=xF c al ah t w r/\ds=[.lst ((cellsOf ps).map j0)]/\q=(al,dT h)/\p=(ah,dT f)/\aP n m h/\aP n m f/\Fl.St n m i cols h f t w r/\Wy n m h f t w g ps/\0<r.getD g 0/\n<=50 /\
 ∀t' j o,Fl.St n m i cols h f t' j o->mu j < mu w->P (xF c al ah t' j o)
theorem qg:Ih (jK c):=by
 intro x ds J I P L k h
 obtain ⟨a1,a2,a3,G,F,E,C,B,z,H,i,g,f,e1,e2,y,v,u,t,s,r,q,p,h⟩:=h
 exact⟨a1,a2,a3,G,F,E,C,B,z,H,i,g,f,e1,e2,y,v,u,t,s,r,q,p,fun t' n o m j=>k _ (h t' n o m j)⟩
theorem su:∀x ds g f P,jK c x ds g f P->ds.length+1=2:=by
 intro x ds g f P h
 obtain ⟨_,_,_,_,_,_,_,_,_,_,_,_,_,_,e,_⟩:=h
 rw[e];rfl
theorem uG(F:lz K c.Filling "pour" "Filling.pour" dF dE f fd)(Z:Zk K mg ξ c):gP P w K mg ξ CX0 2 f fd dE (spG K (jK c)):=by
 obtain ⟨f0,d0,Qs⟩:=Z.h_Filling_slack
 have Rm:=sV (P:=P) (w:=w) Qs Z
 refine F.fn.ok b9 (fun vs H Q E h=>JI su h) (fun cdv A outer s H vs Q E hr h=>?_)
 refine⟨_,t6 [7,8] (fun i hi x hx=>by
  rcases (show i=7\/i=8 by simpa using hi) with rfl|rfl<;>(obtain rfl:=OJ hx;rfl)) ((aa (wst 2 b9.nd (wit K (wix K (pv 1) ai) ai)) (aa (wst 3 b9.nd (wit K (wix K (pv 1) (ED Az ai)) ai)) (aa (wst 4 b9.nd (az (oE (K:=K) rfl rfl) (by rfl) Z.min_ boot_min (p1 (aI tJ (bt (p2 (wix K (wfd K (pv 0)) (pv 3)) (wix K (wfd K (pv 0)) (pv 2)))) (wco (ak dF) "step" ["self","way"] [0,1] (aS rfl Z.range_ (p1 (wln K Z.len_ (pv 1)))) (fun _ _ _ _ _=>(iz (pv 1) Z.i_Filling.cl Qs.mt Rm (hr.mono nofun) Qs.bd .nil fL (p2 (pv 2) (pv 0))))))))) (aa (wfo (aS rfl Z.range_ (p1 (wln K Z.len_ (pv 1)))) (wpg 5 b9.nd) (aa (wst 6 b9.nd (wix K (wfd K (pv 0)) (wit K (wix K (pv 1) (pv 5)) ai))) (aA (gW (aI eD (wix K (pv 6) (wit K (wix K (pv 1) (pv 5)) ai)) (vG (pc eI (aI g8 (pv 5) ai) ai) (pv 4) (ED Az (pv 4)))) (jT (pv 6) (wit K (wix K (pv 1) (pv 5)) ai) set_list))))) (aa (gW (aI iR (wix K (wfd K (pv 0)) (pv 3)) (pv 4)) (jT (wfd K (pv 0)) (pv 3) set_list)) (aA (gW (aI iR (wix K (wfd K (pv 0)) (pv 2)) (pv 4)) (jT (wfd K (pv 0)) (pv 2) set_list))))))))),Kk (N:=nK) 1 5 (aj (ST.post (Γn:=[0]) (aO 2 (vq (br (af 1) ri) ri))) (aj (ST.post (Γn:=[0]) (aO 3 (vq (br (af 1) (EM.er (E6 D7 ri))) ri))) (aj (ST.post (Γn:=[0]) (aO 4 (EM.es (AO 0 7 8 (aX AF (a1 (ro E8 (EM.er (bu (av (ER.ax (rx (bw ["low","high","table","wants","rooms"] 3 Z.i_Filling.cl Z.n_Filling_wants (af 0)) (rv 3))) (av (ER.ax (rx (bw ["low","high","table","wants","rooms"] 4 Z.i_Filling.cl Z.n_Filling_rooms (af 0)) (rv 2))) aL)))) (EM.er (aK (bJ (a1 (rn (rv 1)))) (ar 0) (ic (C:=c.Filling) ["low","high","table","wants","rooms"] pO (rv 1) (a2 (rv 2) (rv 0)))))))))))) (aj (dH (bJ (a1 (rn (rv 1)))) (ar 5) (KJ 0 7 8 6 ["low","high","table","wants","rooms"] 2 Z.i_Filling.cl Z.n_Filling_table (ry (br (af 1) (rv 5)) ri) (ro cz (rx (af 6) (ry (br (af 1) (rv 5)) ri)) (EM.er (Hv (tt kK (ro bP (rv 5) ri) ri) (ER.ax (rv 4)) (E6 D7 (rv 4))))) (ry (br (af 1) (rv 5)) ri))) (aj (EX 0 ["low","high","table","wants","rooms"] 3 Z.i_Filling.cl Z.n_Filling_wants (uR 0 7 8 (ro cz (rx (bw ["low","high","table","wants","rooms"] 3 Z.i_Filling.cl Z.n_Filling_wants (af 0)) (rv 3)) (rv 4))) (uR 0 7 8 (rv 3))) (EX 0 ["low","high","table","wants","rooms"] 4 Z.i_Filling.cl Z.n_Filling_rooms (uR 0 7 8 (ro cz (rx (bw ["low","high","table","wants","rooms"] 4 Z.i_Filling.cl Z.n_Filling_rooms (af 0)) (rv 2)) (rv 4))) (uR 0 7 8 (rv 2)))))))) rfl rfl (fun I x ds g1 g2 P hS=>?_) h⟩
 obtain ⟨u,o,t,w,r,rows,cols,al,ah,g,n,m,ps,rfl,rfl,rfl,rfl,hL,hH,UC,M,hg,n5,hP⟩:=hS
 refine⟨rfl,?_⟩
 rw[show xh 5 I (xF c al ah t w r) [L3.D.lst ((cellsOf ps).map j0)] (al,dT u) (ah,dT o)=[some (.pin I (xF c al ah t w r)),some (.lst ((cellsOf ps).map j0)),none,none,none,none,none,some (.pin al (dT u)),some (.pin ah (dT o))] from rfl]
 have Tp:∃X l0,ps=X::l0/\X.2=g:=M.hd
 obtain ⟨X,l0,Y7,eg⟩:=Tp
 obtain ⟨pl,X5,Zt⟩:=M.ls
 have V4:(cellsOf ps)[0]?=some X:=by rw[Y7];exact C7
 have SS:(cellsOf ps).getLast?=some pl:=by rw[vW];exact X5
 have TK:=xg M.rg
 have Wu:pl∈ps:=List.mem_of_getLast? X5
 obtain ⟨pln,plm⟩:=M.rg pl Wu
 have gm:g<m:=by rw[<- eg];exact (M.rg X (by rw[Y7];exact k0)).2
 have VX:ps.length<=50:=by
  have:=jI (B:=n) M.n1 fun q hq=>by
   obtain ⟨p,T,rfl⟩:=Oo.mp hq
   exact (M.rg p T).1
  rw[dz] at this;omega
 have hcn:(cellsOf ps).length<=100:=OC yq ()
 have Zi:Al (fun q=>cellAt t q.1 q.2<cellAt o q.1 q.2) (fun q=>cellAt u q.1 q.2<cellAt t q.1 q.2) (cellsOf ps):=Dh.mpr ⟨M.up,M.lk⟩
 have L:=fun x x1 xw xr al=>JD (x:=x) UC M X5 x1 xw xr al
 have lw:=UC.wl
 have lr:=UC.rl
 have hT:=UC.rt
 generalize Tp:cellsOf ps=cs at V4 SS TK hcn Zi L
 symm
 refine l7 (k:=0) V4 ?_
 symm
 refine KA SS ?_
 symm
 rw[eg]
 refine⟨I,c.Filling,_,al,ah,dT u,dT o,[dT t,dI w,dI r],rfl,rfl,rfl,?_⟩
 symm
 refine aD () ?_
 rw[Oh]
 refine⟨rfl,?_⟩
 refine aD () ?_
 rw[Oh]
 refine⟨rfl,nofun,?_⟩
 have Wl:∀k,k<cs.length->∃p,cs[k]?=some p/\slA u o t cs k=if k % 2=0 then cellAt o p.1 p.2 - cellAt t p.1 p.2 else cellAt t p.1 p.2 - cellAt u p.1 p.2:=fun k J=>⟨cs[k],ab J,by unfold slA;rw[be,ab J];rfl⟩
 refine cL (lo:=0) (n:=cs.length) (g:=fun (k:Nat)=>.int (slA u o t cs k)) (fun R h=>?_) () (fun k J R h=>?_) ?_
 .symm
  exact h
 .rfl'
  obtain ⟨p,ep,es⟩:=Wl k J
  have T:=TK p (OV ep)
  rw[OU]
  rw[es] at h
  exact⟨u,o,t,w,r,n,m,k,cs,p,rfl,hL,hH,hT,ep,T.1,T.2,h⟩
 rw[show (List.range cs.length).map (fun (k:Nat)=>L3.D.int (slA u o t cs k))=((List.range cs.length).map fun k=>slA u o t cs k).map L3.D.int by rw[OB];rfl]
 refine⟨⟨rfl,bh,by rw[dz,dz,Ot];simp only[H0,PQ];omega⟩,?_⟩
 rw[show L3.D.lst ([L3.D.int (w.getD pl.1 0),L3.D.int (r.getD g 0)]++((List.range cs.length).map fun k=>slA u o t cs k).map L3.D.int)=dI ([w.getD pl.1 0,r.getD g 0]++(List.range cs.length).map fun k=>slA u o t cs k) by show _=L3.D.lst (List.map L3.D.int _);rw[Ov];rfl]
 refine wN.mpr ⟨by simp,fun x hx Sr=>?_⟩
 have x2:=Sr (w.getD pl.1 0) (by simp)
 have x3:=Sr (r.getD g 0) (by simp)
 have x4:∀k,k<cs.length->x<=slA u o t cs k:=fun k J=>Sr _ (Fk _ (Oo.mpr ⟨k,OL.mpr J,rfl⟩))
 have x1:1<=x:=by
  rcases Oj.mp hx with z|z
  .simp only[KE,OF,or_false] at z
   omega
  .obtain ⟨k,J,rfl⟩:=Oo.mp z
   have J:=OL.mp J
   obtain ⟨p,ep,es⟩:=Wl k J
   have q:=Lg Zi k p ep
   rw[es]
   by_cases y:k % 2=0
   .rw[if_pos y] at q ⊢;omega
   .rw[if_neg y] at q ⊢;omega
 obtain ⟨XU,_,_⟩:=L x x1 x2 x3 (Ll fun j p ep=>by
  have hj:=(oe.mp ep).1
  obtain ⟨p',T6,es⟩:=Wl j hj
  rw[ep] at T6;cases T6
  have:=x4 j hj
  rw[es] at this
  by_cases y:j % 2=0
  .rw[if_pos y] at this ⊢;exact this
  .rw[if_neg y] at this ⊢;exact this)
 clear L
 refine⟨(),?_⟩
 refine nR (lo:=0) (n:=cs.length) (fun k δ=>∃(G:aaa) (o5:Option D),δ=[some (.pin I (xF c al ah G w r)),some (.lst (cs.map j0)),some (.int (g:Int)),some (.int (pl.1:Int)),some (.int x),o5,none,some (.pin al (dT u)),some (.pin ah (dT o))]/\aP n m G/\ap (if k % 2=0 then x else -x) (cs.drop k) G=ap x cs t) ⟨t,none,rfl,hT,rfl⟩ ?_ ?_
 .rintro k δ N J ⟨G,o5,rfl,Y,O⟩ hN
  rw[OU]
  have U:cs[k]?=some cs[k]:=ab J
  obtain ⟨p,T⟩:∃p,cs[k]=p:=⟨_,rfl⟩
  rw[T] at U
  obtain ⟨pn,pm⟩:=TK p (OV U)
  have W7:=Y.row pn
  have PR:=Y.1
  rw[Ou J,T] at O
  refine⟨I,_,G.map dI,rfl,rfl,by simp only[OS,H0,PQ];omega,I,c.Filling,_,al,ah,dT u,dT o,[dT G,dI w,dI r],rfl,rfl,rfl,?_⟩
  symm
  refine l7 U ?_
  symm
  refine⟨p.1,(rowAt G p.1).map L3.D.int,by rw[cB () (),Oh],?_,bh,?_⟩
  .rw[ox,show G[p.1]?=some (rowAt G p.1) by unfold rowAt;rw[be,ab ()];rfl];rfl
  symm
  refine l7 U ?_
  symm
  refine aD () ?_
  rw[Oh]
  symm
  have QN:∀v:Int,ap (if (k+1) % 2=0 then x else -x) (cs.drop (k+1)) (setCell G p.1 p.2 v)=ap x cs t->N [some (.pin I (L3.D.ins c.Filling ["low","high","table","wants","rooms"] [.raw (.ref al),.raw (.ref ah),.lst ((G.map dI).set p.1 (.lst (((rowAt G p.1).map L3.D.int).set p.2 (.int v)))),dI w,dI r])),some (.lst (cs.map j0)),some (.int (g:Int)),some (.int (pl.1:Int)),some (.int x),some (.int (k:Int)),none,some (.pin al (dT u)),some (.pin ah (dT o))]:=fun v hv=>by
   rw[vF,show L3.D.lst (((rowAt G p.1).set p.2 v).map L3.D.int)=dI ((rowAt G p.1).set p.2 v) from rfl,<- QV]
   exact hN _ ⟨setCell G p.1 p.2 v,_,rfl,Y.setCell pn,hv⟩
  have Zh:∀y:Int,ap y (p::cs.drop (k+1)) G=ap (-y) (cs.drop (k+1)) (setCell G p.1 p.2 (cellAt G p.1 p.2+y)):=fun y=>rfl
  by_cases y:k % 2=0
  .rw[if_pos y,Zh] at O
   rw[if_pos ()]
   refine l7 U ?_
   symm
   exact⟨p.2,by rw[cB () (),Oh],QN _ (by rw[if_neg ()];exact O)⟩
  .rw[if_neg y,Zh,Int.neg_neg] at O
   rw[if_neg ()]
   refine l7 U ?_
   symm
   exact⟨p.2,by rw[cB () (),Oh],QN _ (by rw[if_pos ()];exact O)⟩
 .rintro δ ⟨G,o5,rfl,Y,O⟩
  rw[P7] at O
  replace O:G=ap x cs t:=O
  subst O
  symm
  refine⟨I,_,w.map L3.D.int,rfl,rfl,bh,I,c.Filling,_,al,ah,dT u,dT o,[dT (ap x cs t),dI w,dI r],rfl,rfl,rfl,?_⟩
  symm
  refine aD () ?_
  rw[Oh]
  refine⟨rfl,I,c.Filling,_,al,ah,dT u,dT o,[dT (ap x cs t),dI w,dI r],rfl,rfl,rfl,?_⟩
  symm
  refine⟨pl.1,by rw[cB () (),Oh],?_⟩
  rw[vF]
  refine⟨I,_,r.map L3.D.int,rfl,rfl,bh,I,c.Filling,_,al,ah,dT u,dT o,[dT (ap x cs t),dI (w.set pl.1 (w.getD pl.1 0 - x)),dI r],rfl,rfl,rfl,?_⟩
  symm
  refine aD () ?_
  rw[Oh]
  refine⟨rfl,I,c.Filling,_,al,ah,dT u,dT o,[dT (ap x cs t),dI (w.set pl.1 (w.getD pl.1 0 - x)),dI r],rfl,rfl,rfl,?_⟩
  symm
  refine⟨g,by rw[cB () (),Oh],?_⟩
  rw[vF]
  exact hP _ _ _ XU (Ja () () Zt)
def yS(a b:aab):aab:=(List.range a.length).map fun (i:Nat)=>a.getD i 0 - b.getD i 0
theorem Ci:(yS a b).length=a.length:=by unfold yS;rw[dz,Ot]
theorem less_get(h:i<a.length):(yS a b).getD i 0=a.getD i 0 - b.getD i 0:=by
 unfold yS
 rw[be,ox,O8 h];rfl
def cM(c:Cs):DSp:=fun ds P=>∃(f cols:aab) (g:aaa) (al ah:Addr) (d:D) (n m:Nat),ds=[dI f,dI cols,.pin al (dT g),.pin ah d]/\aP n m g/\f.length=n/\cols.length=m/\1<=n/\n<=50/\m<=50/\P (xF c al ah g (yS f (g.map List.sum)) (yS cols ((turned m g).map List.sum)))
theorem qP:aB (cM c):=by walk_at "M"
theorem sZ:∀ds P,cM c ds P->ds.length=4:=by
 intro ds P h
 obtain ⟨_,_,_,_,_,_,_,_,e,_⟩:=h
 rw[e];rfl
theorem Gz:∀ds P,(cM c) ds P->(cM c) ds fun d=>(∃ns dd,d=.ins c.Filling ns dd)/\P d:=by
 intro ds P h
 unfold cM at h ⊢
 obtain ⟨a1,a2,a3,s,r,q,p,o,e,n,m,j,i,g,f,h⟩:=h;exact⟨a1,a2,a3,s,r,q,p,o,e,n,m,j,i,g,f,⟨_,_,rfl⟩,h⟩
theorem uE(F:x6 K mg "Filling" c.Filling "Filling.__init__" gi bH f fd)(Z:Zk K mg ξ c):gP P w K mg ξ CX0 4 f fd bH (spN K c.Filling (cM c)):=by
 refine F.fn.ok uC (fun vs H Q E h=>En sZ h) (fun q A outer s H vs Q E hr h=>?_)
 refine⟨_,(aa (gJ (K:=K) rfl (pv 0) (pv 3) rfl) (aa (gJ (K:=K) rfl (pv 0) (pv 4) rfl) (aa (gJ (K:=K) rfl (pv 0) (wcc (iQ Z) hr (p1 (pv 3))) rfl) (aa (gJ (K:=K) rfl (pv 0) (wcc (cP Z) hr (p2 (pv 1) (wcc (cU Z) hr (p1 (pv 3))))) rfl) (aA (gJ (K:=K) rfl (pv 0) (wcc (cP Z) hr (p2 (pv 2) (wcc (cS Z) hr (p1 (pv 3))))) rfl)))))),G7 (N:=bH) (m4 Z.i_Filling.cl Z.n_Filling_low (ER.rawOf (rv 3)) (m4 Z.i_Filling.cl Z.n_Filling_high (ER.rawOf (rv 4)) (m4 Z.i_Filling.cl Z.n_Filling_table (aY fU (a1 (qS 3))) (m4 Z.i_Filling.cl Z.n_Filling_wants (aY bV (a2 (rv 1) (rl cx (a1 (qS 3))))) (Fh Z.i_Filling.cl Z.n_Filling_rooms (aY bV (a2 (rv 2) (rl cn (a1 (qS 3)))))))))) (fun ds P o=>?_) nofun (by decide +kernel) nofun h⟩
 obtain ⟨g,cols,i,al,ah,d,n,m,rfl,j,u,v,n1,r,t,p⟩:=o
 rw[show bA (bH.drop 1) [dI g,dI cols,.pin al (dT i),.pin ah d]=[some (dI g),some (dI cols),some (.pin al (dT i)),some (.pin ah d)] from rfl]
 have l1:=j.1
 symm
 refine⟨al,_,rfl,?_⟩
 symm
 refine⟨ah,_,rfl,?_⟩
 symm
 refine⟨i,rfl,(),?_⟩
 symm
 refine⟨i,rfl,(),?_⟩
 refine⟨g,_,rfl,by rw[dz];omega,(),?_⟩
 symm
 refine⟨i,n,m,rfl,j,n1,(),(),?_⟩
 refine⟨cols,_,rfl,by unfold turned;rw[dz,dz,Ot];omega,(),?_⟩
 exact p
theorem xb(p:ms.Perm (l.map fun (x:Nat)=>(x:Int)))(o:ms.Pairwise (·<=·))(nd:l.Nodup):∃R:aad,ms=R.map (fun (x:Nat)=>(x:Int))/\R.Perm l/\R.Pairwise (· < ·):=by
 have pos:∀x∈ms,0<=x:=fun x f=>by
  obtain ⟨y,_,rfl⟩:=Oo.mp (p.mem_iff.mp f)
  omega
 have e:(ms.map Int.toNat).map (fun (x:Nat)=>(x:Int))=ms:=by
  rw[OB]
  conv=>rhs;rw[<- QM ms]
  exact O7 fun x f=>by show ((x.toNat:Nat):Int)=x;have:=pos x f;omega
 have p2:(ms.map Int.toNat).Perm l:=by
  have:=p.map Int.toNat
  rw[OB] at this
  rw [show l.map (Int.toNat ∘ fun (x : Nat) => (x : Int)) = l by conv => rhs; rw [<- QM l]
                                                                 exact O7 fun x _=>rfl] at this
  exact this
 refine⟨ms.map Int.toNat,e.symm,p2,?_⟩
 have g:(ms.map Int.toNat).Nodup:=p2.nodup_iff.mpr nd
 have c:(ms.map Int.toNat).Pairwise (·<=·):=Qi.mpr (o.imp fun {a b} h=>by omega)
 exact (c.and g).imp fun {a b} h=>by omega
theorem Gw(o:aP n m low)(hj:j<m)(h:cols.getD j 0<fg low j):Cut n m rows cols low high [] [j]:=by
 unfold Cut
 have e1:sN n (fun i=>if i∈([]:aad) then rows.getD i 0 else 0)=0:=by
  rw[aw (g:=fun _=>0) fun i _=>if_neg OF,aV]
 have e2:sN m (fun c=>if c∈[j] then cols.getD c 0 else 0)=cols.getD j 0:=by
  rw[<- AN (f:=fun c=>cols.getD c 0) (by simp) (by simpa using hj)];simp
 have p:sN n (fun i=>sN m fun c=>(if i∈([]:aad)/\c∉[j] then cellAt high i c else 0) - (if i∉([]:aad)/\c∈[j] then cellAt low i c else 0))=0 - fg low j:=by
  rw[ot o]
  conv=>rhs;rw[<- aV (n:=n)]
  rw[<- jA]
  refine aw fun i _=>?_
  have:sN m (fun c=>(if i∈([]:aad)/\c∉[j] then cellAt high i c else 0) - (if i∉([]:aad)/\c∈[j] then cellAt low i c else 0))=sN m (fun _=>0) - sN m (fun c=>if c∈[j] then cellAt low i c else 0):=by
   rw[<- jA]
   refine aw fun c _=>?_
   rw[if_neg (fun z=>OF z.1)]
   congr 1
   by_cases z:c∈[j]
   .rw[if_pos z,if_pos ⟨OF,z⟩]
   .rw[if_neg z,if_neg (fun y=>z y.2)]
  rw[this,aV,<- AN (f:=fun c=>cellAt low i c) (by simp) (by simpa using hj)]
  simp
 rw[e1,e2,p];omega
theorem Fe:eqV (V.int a) (V.int b)=true↔a=b:=by
 show decide (a=b)=true↔_
 rw[decide_eq_true_eq]
theorem A7{M:Int}:∀{l:aab},M∈l->∃j,j<l.length/\l.getD j 0=M/\∀k,k<j->l.getD k 0≠M
 |[],h=>nomatch h
 |x::l,h=>by
  by_cases e:x=M
  .exact⟨0,by simp,e,fun k c=>by omega⟩
  .obtain ⟨j,i,g,f⟩:=A7 (l:=l) ((KE.mp h).resolve_left (fun z=>e z.symm))
   refine⟨j+1,by simpa using i,g,fun k c=>?_⟩
   cases k with
   |zero=>exact e
   |succ k=>exact f k ()
structure Bt(n m:Nat)(rows cols:aab)(low high t:aaa):Prop where
 rt:aP n m t
 bd:∀i j,i<n->j<m->cellAt low i j<=cellAt t i j/\cellAt t i j<=cellAt high i j
 rs:∀i,i<n->dO t i=rows.getD i 0
 cs:∀j,j<m->fg t j=cols.getD j 0
structure Ct(n m:Nat)(rows cols:aab)(low high:aaa)(R Cs:aad):Prop where
 up1:R.Pairwise (· < ·)
 up2:Cs.Pairwise (· < ·)
 l1:∀i∈R,i<n
 l2:∀j∈Cs,j<m
 cut:Cut n m rows cols low high R Cs
def km(c:Cs):DSO:=fun x p o P=>∃(g h:aaa) (w r f cols:aab) (al ah:Addr) (n m:Nat),x=xF c al ah g w r/\p=(al,dT g)/\o=(ah,dT h)/\aP n m g/\aP n m h/\Low n m g h/\1<=n/\n<=50/\1<=m/\m<=50/\f.length=n/\cols.length=m/\f.sum=cols.sum/\w.length=n/\r.length=m /\
 (∀i,i<n->f.getD i 0=w.getD i 0+dO g i)/\(∀j,j<m->cols.getD j 0=r.getD j 0+fg g j) /\
 (∀t,Bt n m f cols g h t->P (.tup [.str "table",dT t]))/\∀R Cs,Ct n m f cols g h R Cs->P (.tup [.str "cut",dN R,dN Cs])
theorem mK:Hq (km c):=by
 intro x T Q P U k h
 obtain ⟨a1,a2,a3,L,J,I,H,G,F,M,e1,e2,E,B,y,v,u,s,r,q,p,o,O,n,m,j,i,g,f⟩:=h
 exact⟨a1,a2,a3,L,J,I,H,G,F,M,e1,e2,E,B,y,v,u,s,r,q,p,o,O,n,m,j,i,fun t z=>k _ (g t z),fun R C z=>k _ (f R C z)⟩
theorem Zl{f:Addr}{fd:FuncData}(F:lz K c.Filling "outcome" "Filling.outcome" du cA f fd)(Z:Zk K mg ξ c):gP P w K mg ξ CX0 5 f fd cA (spO K (km c)):=by
 obtain ⟨f0,d0,Qv⟩:=Z.h_Reach_init
 have RL:=ya (P:=P) (w:=w) Qv Z
 obtain ⟨f1,d1,QC⟩:=Z.h_Filling_pour
 have Rt:=uG (P:=P) (w:=w) QC Z
 obtain ⟨f2,d2,QS⟩:=Z.h_Reach_way
 have RZ:=Ag (P:=P) (w:=w) QS Z
 refine F.fn.ok jv (fun vs H Q E h=>JX h) (fun cdv A outer s H vs Q E hr h=>?_)
 refine⟨_,t6 [2,3] (fun i hi x hx=>by
  rcases (show i=2\/i=3 by simpa using hi) with rfl|rfl<;>(obtain rfl:=OJ hx;rfl)) ((aa (bc (pc ph (az (oE (K:=K) rfl rfl) (by rfl) Z.min_ boot_min (p1 (wfd K (pv 0)))) ai) (pr (eh (p3 dP (bt cK) (bt (p1 (lC OO PySem.F.slot_list_index PySem.F.type_list_index B3 (wfd K (pv 0)) (p1 (az (oE (K:=K) rfl rfl) (by rfl) Z.min_ boot_min (p1 (wfd K (pv 0))))))))))) aE) (aa (nU PassesOwn.never (pc uk (az (yp (K:=K) rfl rfl) (by rfl) Z.max_ boot_max (p1 (wfd K (pv 0)))) ai) (aa (wst 1 jv.nd (oB Qv.mkk RL (hr.mono nofun) rfl Qv.mg Qv.bd .nil fL (p1 (pv 0)))) (aa (bc (pc vX (wfd K (pv 1)) fC) (pr (eh (p3 dP (az (qA rfl) (by rfl) Z.sorted_ boot_sorted (p1 (wfd K (pv 1)))) (az (qA rfl) (by rfl) Z.sorted_ boot_sorted (p1 (wfd K (pv 1))))))) aE) (aA (cy (iz (pv 0) Z.i_Filling.cl QC.mt Rt (hr.mono nofun) QC.bd .nil fL (p1 (B9 (pv 1) Z.i_Reach.cl QS.mt RZ (hr.mono nofun) QS.bd .nil fL)))))))) (pr (eh (p2 dP (wfd K (pv 0)))))))),Kx (Γn:=[]) (N:=j7) 1 (aj (bf (Ep 0 2 3 (tt iF (EM.er (aX AF (a1 (ES.er (bw ["low","high","table","wants","rooms"] 4 Z.i_Filling.cl Z.n_Filling_rooms (af 0)))))) ri)) (sr (AO 0 2 3 (fD (av eB (av (bu aL) (av (bu (av (Bh (ES.er (bw ["low","high","table","wants","rooms"] 4 Z.i_Filling.cl Z.n_Filling_rooms (af 0))) (EM.er (aX AF (a1 (ES.er (bw ["low","high","table","wants","rooms"] 4 Z.i_Filling.cl Z.n_Filling_rooms (af 0))))))) aL)) aL)))))) aF) (aj (nu (Ep 0 2 3 (tt iF (EM.er (aX Hz (a1 (ES.er (bw ["low","high","table","wants","rooms"] 3 Z.i_Filling.cl Z.n_Filling_wants (af 0)))))) ri)) (aj (ST.post (Γn:=[0]) (aO 1 (EM.es (AO 0 2 3 (Ia uF wR (a1 (rv 0))))))) (aj (bf (tt BC (ES.er (bw ["rows","columns","goal"] 2 Z.i_Reach.cl Z.n_Reach_goal (af 1))) (EM.er ff)) (sr (fD (av eB (av (aX E5 (a1 (ES.er (bw ["rows","columns","goal"] 0 Z.i_Reach.cl Z.n_Reach_rows (af 1))))) (av (aX E5 (a1 (ES.er (bw ["rows","columns","goal"] 1 Z.i_Reach.cl Z.n_Reach_columns (af 1))))) aL))))) aF) (JO 0 2 3 qg (Kr (EM.es (ic (C:=c.Reach) ["rows","columns","goal"] vQ (rv 1) He)) L9))))) (cD (M:=[0]) (fD (ip eB (ip (KS 0 ["low","high","table","wants","rooms"] 2 Z.i_Filling.cl Z.n_Filling_table) aL)))))) rfl rfl (fun I x g1 g2 P hS=>?_) h⟩
 obtain ⟨v,u,w,r,G,cols,al,ah,n,m,rfl,rfl,rfl,Y,hH,U9,n1,X,m1,m5,lr,lc,W3,lw,Yq,hrs,Tp,hT,Y0⟩:=hS
 rw[show xh 1 I (xF c al ah v w r) [] (al,dT v) (ah,dT u)=[some (.pin I (xF c al ah v w r)),none,some (.pin al (dT v)),some (.pin ah (dT u))] from rfl]
 refine⟨I,c.Filling,_,al,ah,dT v,dT u,[dT v,dI w,dI r],rfl,rfl,rfl,?_⟩
 symm
 intro M hM Sr
 have ZE:∀j,j<m->M<=r.getD j 0:=fun j hj=>Sr _ (by rw[be,ab ()];exact ON _)
 by_cases U:M<0
 .rw[if_pos U]
  refine⟨I,c.Filling,_,al,ah,dT v,dT u,[dT v,dI w,dI r],rfl,rfl,rfl,?_⟩
  symm
  refine qK rfl ⟨bh,(),fun M' YY Xn=>?_⟩
  obtain ⟨j,hj,ej,hf⟩:=A7 YY
  have hMM:=Xn M hM
  have at_:∀k,k<r.length->(r.map L3.D.int)[k]?=some (.int (r.getD k 0)):=fun k L=>by
   rw[ox,ab L,be,ab L];rfl
  refine⟨j,⟨_,at_ j hj,?_⟩,fun k z L ez=>?_,nofun,nofun,?_⟩
  .rw[ej];exact Fe.mpr rfl
  .rw[at_ k ()] at ez
   cases ez
   exact Bool.eq_false_iff.mpr fun q=>hf k L (Fe.mp q)
  .have:=Tp j ()
   exact Y0 [] [j] ⟨.nil,List.pairwise_singleton _ _,fun i hi=>(nomatch hi),fun q hq=>by cases mo.mp hq;omega,Gw Y () ()⟩
 rw[if_neg U]
 have Zv:Fl.St n m G cols v u v w r:=⟨Y,lw,Yq,fun i j hi hj=>⟨Int.le_refl _,U9 i j hi hj⟩,hrs,Tp,fun j hj=>by have:=ZE j hj;omega,fun i hi _ j hj=>rfl⟩
 refine⟨fun μ δ=>∃(t:aaa) (w r:aab) (o1:Option D),μ=mu w/\δ=[some (.pin I (xF c al ah t w r)),o1,some (.pin al (dT v)),some (.pin ah (dT u))]/\Fl.St n m G cols v u t w r,⟨_,v,w,r,none,rfl,rfl,Zv⟩,?_⟩
 rintro μ δ ⟨t,w,r,o1,rfl,rfl,J⟩
 have lw:=J.wl
 refine⟨I,c.Filling,_,al,ah,dT v,dT u,[dT t,dI w,dI r],rfl,rfl,rfl,?_⟩
 symm
 intro M hM SO
 have Zs:∀i,i<n->w.getD i 0<=M:=fun i hi=>SO _ (by rw[be,ab ()];exact ON _)
 by_cases U:0<M
 .rw[if_pos U]
  obtain ⟨k,L,ek⟩:∃k,k<n/\w.getD k 0=M:=by
   obtain ⟨k,L,e⟩:=PB hM
   exact⟨k,(),by rw[be,ab L];exact e⟩
  refine⟨I,c.Filling,_,al,ah,dT v,dT u,[dT t,dI w,dI r],rfl,rfl,rfl,?_⟩
  symm
  refine⟨v,u,t,w,r,n,m,rfl,Y,hH,J.rt,J.wl,J.rl,n1,X,m1,m5,fun layer as bs T rk ck B y O hg=>?_⟩
  cases T with
  |none =>
   have YF:=hg rfl
   symm
   have la:(kys as).length<=50:=OC (jI y.na fun p hp=>(y.la p hp).1) X
   have lb:(kys bs).length<=50:=OC (jI y.nb fun p hp=>(y.lb p hp).1) m5
   refine⟨(kys as).map fun (p:Nat)=>(p:Int),Fm,by rw[dz];omega,fun ms p1 p2=>?_⟩
   refine⟨(kys bs).map fun (p:Nat)=>(p:Int),Fm,by rw[dz];omega,fun ms2 q1 q2=>?_⟩
   obtain ⟨R,rfl,rp,ru⟩:=xb p1 p2 y.na
   obtain ⟨Cs,rfl,cp,cu⟩:=xb q1 q2 y.nb
   symm
   refine Y0 R Cs ⟨ru,cu,fun i hi=>(y.la i (rp.mem_iff.mp hi)).1,fun j hj=>(y.lb j (cp.mem_iff.mp hj)).1,LP J (fun i hi hw=>rp.mem_iff.mpr (y.st i hi hw)) (fun i hi=>?_) (fun i hi j hj PR=>cp.mem_iff.mpr (O.cr i (rp.mem_iff.mp hi) (by rw[YF];exact OF) j hj PR)) (fun j hj=>O.gl j (cp.mem_iff.mp hj)) (fun j hj i hi PR=>rp.mem_iff.mpr (O.cc j (cp.mem_iff.mp hj) i hi PR)) k L ()⟩
   have RV:=rp.mem_iff.mp hi
   refine⟨(y.la i RV).1,?_⟩
   obtain ⟨o,ho⟩:=CN RV
   rcases y.pa i o ho with z|⟨c',_,z2,_,z4⟩
   .exact .inl z.2
   .exact .inr ⟨c',(y.lb c' z2).1,z4⟩
  |some g =>
   symm
   refine⟨I,_,_,al,ah,dT v,dT u,rfl,rfl,rfl,by decide +kernel,?_⟩
   symm
   refine⟨v,u,t,w,as,bs,rk,ck,n,m,B,g,rfl,y,O.gl.1,X,fun ps hW=>?_⟩
   refine⟨v,u,t,w,r,G,cols,al,ah,g,n,m,ps,rfl,rfl,rfl,rfl,Y,hH,J,hW,O.gl.2,X,fun t' w' r' Rv SI=>?_⟩
   exact⟨mu w',SI,t',w',r',_,rfl,rfl,Rv⟩
 .rw[if_neg U]
  symm
  refine⟨I,_,dT t,rfl,rfl,?_⟩
  symm
  have fl:=filled J lr lc W3 fun i hi=>by have:=Zs i hi;omega
  exact hT t ⟨J.rt,J.bd,fl.1,fl.2⟩
def mC:DSp:=fun ds P=>∃(c cols:aab) (g f:aaa) (n m:Nat),ds=[dI c,dI cols,dT g,dT f]/\aP n m g/\aP n m f/\1<=n/\n<=50/\1<=m/\m<=50/\c.length=n/\cols.length=m/\Low n m g f/\c.sum=cols.sum /\
 (∀t,Bt n m c cols g f t->P (.tup [.str "table",dT t]))/\∀U V,Ct n m c cols g f U V->P (.tup [.str "cut",dN U,dN V])
theorem jW:aB mC:=by walk_at "M"
theorem lg(Z:Zk K mg ξ c):Ze P w K mg ξ 6 "table_between" iX eQ (spP K mC):=by
 obtain ⟨J,L,u⟩:=Z.h_Filling_outcome
 have H:=Zl (P:=P) (w:=w) u Z
 obtain ⟨I,d1,p⟩:=Z.h_Filling_init
 have G:=uE (P:=P) (w:=w) p Z
 refine dJ eQ Z.h_table_between (fun hr nd=>(aa (cy (wcc (uu Z) hr (p2 (pv 2) (pv 3)))) (aa (bc (pc pq (az (bX (K:=K) rfl rfl) (by rfl) Z.sum_ boot_sum (p1 (pv 0))) (az (bX (K:=K) rfl rfl) (by rfl) Z.sum_ boot_sum (p1 (pv 1)))) (pr (eh (p3 dP (az (bX (K:=K) rfl rfl) (by rfl) Z.sum_ boot_sum (p1 (pv 0))) (az (bX (K:=K) rfl rfl) (by rfl) Z.sum_ boot_sum (p1 (pv 1)))))) aE) (pr (B9 (oB p.mkk G (hr.mono nofun) rfl p.mg p.bd .nil fL (eV (pv 0) (p3 (pv 1) (pv 2) (pv 3)))) Z.i_Filling.cl u.mt H (hr.mono nofun) u.bd .nil fL))))) (aj (qN (rl qR (a2 (rv 2) (rv 3)))) (aj (bf (tt xE (EM.er (aX mZ (a1 (rv 0)))) (EM.er (aX mZ (a1 (rv 1))))) iE aF) (sr (Kv qP mK)))) fun ds P E=>?_
 obtain ⟨h,cols,f,g,n,m,rfl,o,x,n1,q,B,r,s,t,y,v,C,F⟩:=E
 ac_rfl
 symm
 refine⟨f,g,n,m,rfl,o,x,q,r,y,?_⟩
 symm
 .rw[if_neg (fun z=>z v)]
  refine⟨dI h,dI cols,dT f,dT g,rfl,rfl,rfl,rfl,rfl,rfl,fun a2 a3=>?_⟩
  refine⟨h,cols,f,a2,a3,dT g,n,m,rfl,o,s,t,n1,q,r,⟨_,_,rfl,by decide +kernel⟩,?_⟩
  have l1:=o.1
  refine⟨f,g,_,_,h,cols,a2,a3,n,m,rfl,rfl,rfl,o,x,y,n1,q,B,r,s,t,v,by rw[Ci];exact s,by rw[Ci];exact t,fun i hi=>?_,fun j hj=>?_,C,F⟩
  .rw[less_get ()]
   have:(f.map List.sum).getD i 0=dO f i:=by
    unfold dO rowAt
    rw[be,ox,ab (),be,ab ()];rfl
   rw[this];omega
  .rw[less_get ()]
   have:((turned m f).map List.sum).getD j 0=fg f j:=by
    unfold turned fg
    rw[be,ox,ox,O8 hj];rfl
   rw[this];omega
def reach(ns:aab)(m:Int):Int:=((ns.filter fun n=>decide (m<=n)).length:Nat)
def lj:DSp:=fun ds P=>∃ns m,ds=[dI ns,.int m]/\ns.length<=1000/\P (.int (reach ns m))
theorem oM:aB lj:=by walk_at "M"
theorem qW(Z:Zk K mg ξ c):Ze P w K mg ξ 1 "how_many_reach" dX dR (spP K lj):=by
 refine dJ dR Z.h_how_many_reach (fun hr nd=>(pr (wln K Z.len_ (ja rfl (aH.of (sc0:=(ak dX)) (tn:=["number"]) (cap:=["level"]) (idx:=[1]) (by decide +kernel) rfl rfl) (wil K (pv 0)) (iC.name nofun) (fun _ _ _ _ _=>bT (i:=0) (aM (l:=["number","level"]) (by decide +kernel)) rfl (by walk_at "o") (by first|exact .inl rfl|exact .inr rfl)) (fun _ _ _ _ _=>iy (pc Jn (pv 0) (pv 1))) (fun _ _ _ _ _=>(pv 0)) (by intro _;rfl))))) (sr (aX Hk (a1 (EM.er (j8 (aN (af 0)) (ar 0) (tt iF (rv 0) (rv 1)) (ER.ax (rv 0))))))) fun ds P j=>?_
 obtain ⟨ns,m,rfl,f,o⟩:=j
 ac_rfl
 ac_nf
 refine Cn (ns:=ns) (p:=fun n=>decide (m<=n)) (g:=L3.D.int) (fun R h=>h) f (fun n hn R h=>?_) ?_
 .walk_at "vb"
  by_cases c:m<=n
  .rw[decide_eq_true c] at h;rw[if_pos c];exact h
  .rw[decide_eq_false c] at h;rw[if_neg c];exact h
 .rw[Ie,dz];exact o
def lp(ns:aab)(m:Nat):aab:=(List.range m).map fun (k:Nat)=>reach ns (1+(k:Int))
def yF:DSp:=fun ds P=>∃(ns:aab) (m:Nat),ds=[dI ns,.int m]/\ns.length<=1000/\m<=8/\P (dI (lp ns m))
theorem zU:aB yF:=by walk_at "M"
theorem CJ(Z:Zk K mg ξ c):Ze P w K mg ξ 2 "heap_of" oj oz (spP K yF):=by
 refine dJ oz Z.h_heap_of (fun hr nd=>(pr (wco (ak oj) "level" ["sums"] [0] (Gd rfl Z.range_ (p2 ai (aI eD (pv 1) ai))) (fun _ _ _ _ _=>(wcc (qW Z) hr (p2 (pv 1) (pv 0))))))) (sr (aK (JF (a2 ri (ro cz (rv 1) ri))) (ar 0) (aY oM (a2 (rv 1) (rv 0))))) fun ds P o=>?_
 obtain ⟨ns,m,rfl,j,hm,f⟩:=o
 ac_rfl
 ac_nf
 have e:(((m:Int)+1) - 1).toNat=m:=()
 refine cL (lo:=1) (n:=m) (g:=fun (k:Nat)=>.int (reach ns (1+(k:Int)))) (fun R h=>?_) () (fun i hi R h=>?_) ?_
 .ac_nf
  rw[e]
  exact⟨(),h⟩
 .walk_at "vb"
  exact⟨ns,_,rfl,j,h⟩
 .unfold lp at f;rw[dI,OB] at f;exact f
theorem NN{ns:aab}{x:Int}:inD (.int x) (ns.map L3.D.int)=decide (x∈ns):=by
 have:inD (.int x) (ns.map L3.D.int)=true↔x∈ns:=by
  unfold inD inV
  rw[List.any_eq_true]
  constructor
  .rintro ⟨v,f,e⟩
   obtain ⟨d,hd,rfl⟩:=Oo.mp f
   obtain ⟨z,c,rfl⟩:=Oo.mp hd
   have g:(z == x)=true:=e
   rw[<- eq_of_beq g];exact c
  .intro h
   exact⟨.int x,Oo.mpr ⟨.int x,Oo.mpr ⟨x,h,rfl⟩,rfl⟩,by show (x == x)=true;exact beq_self_eq_true _⟩
 by_cases h:x∈ns
 .rw[decide_eq_true h];exact this.mpr h
 .rw[decide_eq_false h]
  cases e:inD (.int x) (ns.map L3.D.int) with
  |false=>rfl
  |true=>exact absurd (this.mp e) h
theorem Lx{c:Bool}{x:Int}{ns:aab}{P:DK}(h:P (.bl (if c then !decide (x∈ns) else decide (x∈ns)))):vIn c (.int x) (dI ns) P:=by
 refine⟨rfl,bh,?_⟩
 rw[NN]
 exact h
def pj:DSp:=fun ds P=>∃(ps:aab) (n:Nat),ds=[dI ps,.int n]/\n<=1000/\∀r:aab,r.length=n->P (dI r)
theorem sU:aB pj:=by walk_at "M"
theorem vO(Z:Zk K mg ξ c):Ze P w K mg ξ 1 "row_of_ones" iu iA (spP K pj):=by
 refine dJ iA Z.h_row_of_ones (fun hr nd=>(pr (wco (ak iu) "place" ["places"] [0] (aS rfl Z.range_ (p1 (pv 1))) (fun _ _ _ _ _=>(vG (uS (M6 (K:=K) rfl) (pv 0) (pv 1) (by with_unfolding_all rfl)) ai ai))))) (sr (aK (bJ (a1 (rv 1))) (ar 0) (Hv (tt NO (rv 0) (rv 1)) ee ee))) fun ds P f=>?_
 obtain ⟨ps,n,rfl,hn,j⟩:=f
 ac_rfl
 ac_nf
 refine cL (lo:=0) (n:=n) (g:=fun (i:Nat)=>.int (if (i:Int)∈ps then 1 else 0)) (fun R h=>?_) hn (fun i hi R h=>?_) ?_
 .symm;exact h
 .rfl'
  rw[OU]
  refine Lx ?_
  simp only[Pm,if_false]
  rfl'
  by_cases h':(i:Int)∈ps
  .rw[if_pos h'] at h ⊢
   exact h
  .rw[if_neg h'] at h ⊢
   exact h
 .rw[dw];exact j _ (by rw[dz,Ot])
theorem MH{ns:aab}{k:Nat}:L3.cutD (ns.map L3.D.int) none (some (k:Int))=(ns.take k).map L3.D.int:=by
 unfold L3.cutD
 rw[dz,HT.mY,HT.qf,Pf,Nat.sub_zero,QJ]
 rcases Nat.le_total k ns.length with h|h
 .rw[Qy h]
 .rw[Nat.min_eq_right h,Po (by rw[dz];exact Ol _),Po (by rw[dz];exact h)]
def nk:DSp:=fun ds P=>∃c cols:aab,ds=[dI c,dI cols]/\cols.length<64/\c.length<=100/\(∀r∈c,0<=r)/\∀t:aaa,P (dT t)
theorem rM:aB nk:=by walk_at "M"
theorem uy(Z:Zk K mg ξ c):Ze P w K mg ξ 2 "filled_table" jS jy (spP K nk):=by
 refine m3 (Γn:=[3]) xp Z.h_filled_table (fun hr nd=>(aa (wst 2 nd (pv 1)) (aa (wst 3 nd (bt cK)) (aa (wfo (wil K (pv 0)) (wpg 4 nd) (aa (wst 5 nd (wcc (vO Z) hr (p2 (jJ (jX (K:=K) rfl) (wcc (j9 Z) hr (p1 (pv 2))) lO (l6 (pv 4))) (wln K Z.len_ (pv 2))))) (aa (wst 2 nd (wcc (cP Z) hr (p2 (pv 2) (pv 5)))) (aA (cy (lC OO O4 O3 cZ (pv 3) (p1 (pv 5)))))))) (pr (pv 3)))))) (sq 2 (af 1) (aj (ST.post (Γn:=[3]) (aQ (M:=[]) 3 (bu aL))) (aj (dH (aN (af 0)) (ar 4) (aj (ST.post (Γn:=[5,3]) (aQ (M:=[]) 5 (aY sU (a2 (EM.er (v7 (rl i5 (a1 (rv 2))) or_none (or_some (rv 4)))) (rn (rv 2)))))) (aj (ST.post (Γn:=[5,3]) (aO 2 (sl bV (a2 (rv 2) (cN 5))))) (ST.post (Γn:=[3]) (dY (M:=[5]) 3 (dB 5)))))) (cD (M:=[3]) (dB 3))))) fun ds P n=>?_
 obtain ⟨g,cols,rfl,x,y,q,o⟩:=n
 ac_rfl
 symm
 refine cW (as:=g) (f:=L3.D.int) (fun i δ=>∃(left:aab) (t:aaa) (j h:Option D),δ=[some (dI g),some (dI cols),some (dI left),some (dT t),j,h]/\left.length=cols.length/\t.length=i)
  ⟨cols,[],none,none,rfl,rfl,rfl⟩ ?_ ?_
 .rintro i r δ N e ⟨left,t,j,h,rfl,m,ht⟩ p
  obtain ⟨hi,v⟩:=oe.mp e
  have s:=q r (OV e)
  obtain ⟨k,rfl⟩:∃k:Nat,r=(k:Int):=⟨r.toNat,()⟩
  symm
  refine⟨left,rfl,(),fun fp u hw=>?_⟩
  symm
  rw[MH]
  try refine⟨bh,?_⟩
  refine⟨fp.take k,cols.length,by rw[m],(),fun w hw=>?_⟩
  refine⟨left,w,rfl,(),(),?_⟩
  symm
  try refine⟨(),?_⟩
  rw[show List.map dI t++[dI w]=(t++[w]).map dI by rw[Ov];rfl]
  exact p _ ⟨_,_,_,_,rfl,by rw[dz,Ot];exact m,by rw[Ox,ht];rfl⟩
 .rintro δ ⟨left,t,j,h,rfl,m,ht⟩
  ac_nf
  exact o t
def Sg(m:Nat)(f:Nat->Int):Int:=((List.range m).map f).sum
theorem KR:Sg 0 f=0:=rfl
theorem mw:Sg (m+1) f=Sg m f+f m:=by
 unfold Sg
 rw[PZ,Ov,QP]
 simp
theorem rq(h:∀j,j<m->f j=g j):Sg m f=Sg m g:=by
 unfold Sg
 exact congrArg List.sum (O7 fun j hj=>h j (OL.mp hj))
theorem zx{f g:Nat->Int}:∀{m:Nat},Sg m (fun j=>f j+g j)=Sg m f+Sg m g
 |0=>rfl
 |m+1=>by rw[mw,mw,mw,zx];omega
theorem IZ{f g:Nat->Int}:∀{m:Nat},(∀j,j<m->f j<=g j)->Sg m f<=Sg m g
 |0,_=>Int.le_refl _
 |m+1,h=>by
  rw[mw,mw]
  have:=IZ (m:=m) fun j hj=>h j ()
  have:=h m ()
  omega
theorem om:∀{m:Nat},Sg m (fun _=>0)=0
 |0=>rfl
 |m+1=>by rw[mw,om];rfl
def gC(m:Nat):aab->(Nat->Int)->Prop
 |[],c=>∀j,j<m->c j=0
 |r::rs,c=>∃b:Nat->Int,(∀j,j<m->b j=0\/b j=1)/\Sg m b=r/\gC m rs fun j=>c j - b j
theorem gC.congr{m:Nat}:∀{rs:aab}{c f:Nat->Int},gC m rs c->(∀j,j<m->c j=f j)->gC m rs f
 |[],c,f,h,e=>fun j hj=>by rw[<- e j hj];exact h j hj
 |r::rs,c,f,⟨b,n,i,g⟩,e=>⟨b,n,i,g.congr fun j hj=>by rw[e j hj]⟩
theorem gC.swap{m:Nat}{i h:Int}{rs:aab}{c:Nat->Int}:gC m (i::h::rs) c->gC m (h::i::rs) c
 |⟨g,r,q,f,p,o,n⟩=>⟨f,p,o,g,r,q,n.congr fun j _=>by show c j - g j - f j=c j - f j - g j;omega⟩
theorem gC.perm(p:rs.Perm ss):∀{c:Nat->Int},gC m rs c->gC m ss c:=by
 induction p with
 |nil=>exact fun h=>h
 |cons x _ ih=>exact fun ⟨b,i,g,f⟩=>⟨b,i,g,ih f⟩
 |swap x y l=>exact fun h=>h.swap
 |trans _ _ j n=>exact fun h=>n (j h)
theorem gC.nonneg{m:Nat}:∀{rs:aab}{c:Nat->Int},gC m rs c->∀j,j<m->0<=c j
 |[],c,h,j,hj=>by rw[h j hj];omega
 |r::rs,c,⟨b,g,i,f⟩,j,hj=>by
  have:=gC.nonneg f j hj
  rcases g j hj with e|e<;>omega
theorem gC.sums{m:Nat}:∀{rs:aab}{c:Nat->Int},gC m rs c->rs.sum=Sg m c
 |[],c,h=>by rw[rq (g:=fun _=>0) h,om];rfl
 |r::rs,c,⟨b,n,i,f⟩=>by
  rw[Oy,f.sums,<- i,<- zx]
  exact rq fun j _=>by omega
theorem gC.head{m:Nat}{ys:aab}:∀{xs:aab}{c:Nat->Int},gC m (xs++ys) c->xs.sum<=Sg m fun j=>min (c j) (xs.length:Int)
 |[],c,h=>by
  have:Sg m (fun _=>0)<=Sg m fun j=>min (c j) (([]:aab).length:Int):=IZ fun j hj=>by
   have:=h.nonneg j hj
   simp only[PQ]
   omega
  rw[om] at this
  exact this
 |r::xs,c,⟨b,i,g,f⟩=>by
  have ih:=gC.head (xs:=xs) f
  rw[Oy,<- g]
  refine Int.le_trans (Int.add_le_add_left ih _) ?_
  rw[<- zx]
  refine IZ fun j hj=>?_
  rw[H0]
  rcases i j hj with e|e<;>rw[e]<;>omega
theorem pH{c m:Int}{ns:aab}:reach (c::ns) m=(if m<=c then 1 else 0)+reach ns m:=by
 unfold reach
 rw[P6]
 by_cases h:m<=c
 .rw[if_pos (by simpa using h),if_pos h,H0];omega
 .rw[if_neg (by simpa using h),if_neg h];omega
theorem wj{a b:Int}(h:a<=b):∀{ns:aab},reach ns b<=reach ns a
 |[]=>by simp [reach]
 |c::ns=>by
  have:=wj h (ns:=ns)
  rw[pH,pH]
  by_cases f:b<=c
  .rw[if_pos f,if_pos ()];omega
  .rw[if_neg f];split<;>omega
theorem Gs:(lp ns m).Pairwise (·>=·):=by
 unfold lp
 rw[Qi]
 exact (List.pairwise_lt_range (n:=m)).imp fun h=>wj ()
theorem Eu{c:Int}(f:0<=c):∀(k:Nat),Sg k (fun l=>if 1+(l:Int)<=c then 1 else 0)=min c k
 |0=>by rw[KR];omega
 |k+1=>by
  rw[mw,Eu f k]
  split<;>omega
theorem Cb{k:Nat}:∀{ns:aab},(∀c∈ns,0<=c)->Sg k (fun l=>reach ns (1+(l:Int)))=(ns.map fun c=>min c (k:Int)).sum
 |[],_=>by
  rw[QH,rq (g:=fun _=>0) (fun j _=>by simp [reach]),om];rfl
 |c::ns,h=>by
  rw[Oi,Oy,<- Cb fun x f=>h x (gV _ f),<- Eu (h c k0),<- zx]
  exact rq fun j _=>pH
theorem zp{f:Int->Int}{ns:aab}:Sg ns.length (fun j=>f (ns.getD j 0))=(ns.map f).sum:=by
 unfold Sg
 congr 1
 refine Px (by simp) fun i g c=>?_
 rw[dz] at c
 rw[Ph,Ph,Qa,be,ab c,Pn]
theorem F5(h:∀c∈ns,0<=c)(f:k<=m):((lp ns m).take k).sum=(ns.map fun c=>min c (k:Int)).sum:=by
 rw[<- Cb h]
 unfold lp Sg
 rw[<- QJ,List.take_range,Qy f]
theorem gC.heads{f cols fs:aab}(h:gC cols.length f fun j=>cols.getD j 0)(g:fs.Perm f){k:Nat}(i:k<=f.length):(fs.take k).sum<=((lp cols f.length).take k).sum:=by
 have o:∀c∈cols,0<=c:=fun c m=>by
  obtain ⟨j,hj,rfl⟩:=PB m
  have:=h.nonneg j hj
  rwa [be,ab hj,Pn] at this
 have n:gC cols.length (fs.take k++fs.drop k) fun j=>cols.getD j 0:=by rw[PJ];exact h.perm g.symm
 have:=n.head
 rw[P4,g.length_eq,Qy i] at this
 rw[F5 o i,<- zp]
 exact this
theorem gC.JC{m:Nat}:∀{t:aaa},(∀r∈t,r.length=m)->(∀r∈t,∀v∈r,v=0\/v=1)->gC m (t.map List.sum) fun j=>(t.map fun r=>r.getD j 0).sum
 |[],_,_=>fun j _=>rfl
 |r::t,h,g=>by
  have i:=h r k0
  refine⟨fun j=>r.getD j 0,fun j hj=>?_,?_,(gC.JC (fun x c=>h x (gV _ c)) fun x c=>g x (gV _ c)).congr fun j hj=>?_⟩
  .refine g r k0 _ ?_
   show r.getD j 0∈r
   rw[be,ab (),Pn]
   exact ON _
  .rw[<- i,zp (f:=fun x=>x),List.map_id']
  .show _=(List.map _ (r::t)).sum - r.getD j 0
   rw[Oi,Oy];omega
def HW(c cols:aab):Prop:=gC cols.length c (fun j=>cols.getD j 0)
theorem BS(h:HW rows cols):rows.sum=cols.sum:=by
 have h':gC cols.length rows (fun j=>cols.getD j 0):=h
 rw[h'.sums]
 have:=zp (f:=fun x:Int=>x) (ns:=cols)
 rw[List.map_id'] at this
 exact this
theorem yb:(lp ns m).length=m:=by unfold lp;rw[dz,Ot]
theorem Mm(h:gC cols.length rows (fun j=>cols.getD j 0)):Maj.above rows (lp cols rows.length)=[]:=by
 unfold Maj.above
 rw[Pp]
 intro p c
 have g:=OL.mp c
 try rw[yb] at g
 rw[decide_eq_true_eq]
 have:=h.heads (ou rows) (k:=p+1) ()
 have f:zq (lp cols rows.length)=lp cols rows.length:=(El (List.Perm.refl _) Gs).symm
 unfold Maj.sd
 rw[f]
 omega
def tQ:DSp:=fun ds P=>∃c cols:aab,ds=[dI c,dI cols]/\c.length<=8/\cols.length<=8/\(∀r∈c,0<=r)/\HW c cols/\∀t:aaa,P (.tup [.str "table",dT t])
theorem wD:aB tQ:=by walk_at "M"
theorem zV(Z:Zk K mg ξ c):Ze P w K mg ξ 4 "ones_with" mO mR (spP K tQ):=by
 refine dJ Bv Z.h_ones_with (fun hr nd=>(aa (bc (pc ph (az (bX (K:=K) rfl rfl) (by rfl) Z.sum_ boot_sum (p1 (pv 0))) (az (bX (K:=K) rfl rfl) (by rfl) Z.sum_ boot_sum (p1 (pv 1)))) (pr (eh (p2 dP (Bj rfl rfl Z.list_ rfl Z.range_ (wln K Z.len_ (pv 1)))))) aE) (aa (wst 2 nd (wcc (oQ Z) hr (p2 (pv 0) (wcc (CJ Z) hr (p2 (pv 1) (wln K Z.len_ (pv 0))))))) (aa (bc (pc zI (pv 2) fC) (pr (eh (p2 dP (az (qT (K:=K) rfl) (by rfl) Z.sorted_ boot_sorted (p1 (jJ (jX (K:=K) rfl) (wcc (j9 Z) hr (p1 (pv 0))) lO (l6 (pv 2)))))))) aE) (pr (eh (p2 dP (wcc (uy Z) hr (p2 (pv 0) (pv 1)))))))))) (aj (bf (tt iF (EM.er (aX mZ (a1 (rv 0)))) (EM.er (aX mZ (a1 (rv 1))))) (sr (fD (av eB (av (CP (rn (rv 1))) aL)))) aF) (sq 2 (sl mI (a2 (rv 0) (rl zU (a2 (rv 1) (rn (rv 0)))))) (aj (bf (tt Dj (rv 2) (EM.er ff)) (sr (fD (av eB (av (aX Jp (a1 (EM.er (v7 (rl i5 (a1 (rv 0))) or_none (or_some (rv 2)))))) aL)))) aF) (sr (fD (av eB (av (aY rM (a2 (rv 0) (rv 1))) aL))))))) fun ds P j=>?_
 obtain ⟨f,cols,rfl,g,i,n,h,m⟩:=j
 ac_rfl
 symm
 rw[if_neg (by have:=BS h;omega)]
 symm
 refine⟨cols,f.length,rfl,(),g,?_⟩
 refine⟨f,lp cols f.length,rfl,(),yb.symm,?_⟩
 unfold LZ
 rw[Mm h]
 symm
 refine⟨f,cols,rfl,(),(),n,fun t=>?_⟩
 symm
 exact m t
def cE(n m:Nat)(x:Int):aaa:=List.replicate n (List.replicate m x)
theorem sE:aP n m (cE n m x):=⟨by unfold cE;rw[OH],fun r hr=>by rw[List.eq_of_mem_replicate hr,OH]⟩
def rD:DSp:=fun ds P=>∃(c cols:aab) (x:Int),ds=[dI c,dI cols,.int x]/\c.length<=8/\cols.length<=8/\P (dT (cE c.length cols.length x))
theorem mB:aB rD:=by walk_at "M"
theorem oS(Z:Zk K mg ξ c):Ze P w K mg ξ 1 "full_table" i9 jf (spP K rD):=by
 refine dJ jf Z.h_full_table (fun hr nd=>(pr (wco (ak i9) "row" ["columns","number"] [1,2] (wil K (pv 0)) (fun _ _ _ _ _=>(aI Aq (bt (p1 (pv 2))) (wln K Z.len_ (pv 1))))))) (sr (aK (aN (af 0)) (ar 0) (bY DQ (EM.er (bu (av (ER.ax (rv 2)) aL))) (rn (rv 1))))) fun ds P j=>?_
 obtain ⟨i,cols,x,rfl,o,n,m⟩:=j
 ac_rfl
 symm
 refine fP (as:=i) (f:=L3.D.int) (g:=fun _=>dI (List.replicate cols.length x)) (fun R h=>h) () (fun r p R h=>?_) ?_
 .rfl'
  refine⟨⟨rfl,(),by simp;omega⟩,?_⟩
  rw[xm]
  exact h
 .rw[show i.map (fun _=>dI (List.replicate cols.length x))=(cE i.length cols.length x).map dI by unfold cE;rw[List.map_replicate];exact List.map_const ..]
  exact m
def ju(t:aaa)(i j:Nat):aaa:=setCell t i j (1 - cellAt t i j)
def oU:DSp:=fun ds P=>∃(t:aaa) (i j n m:Nat),ds=[dT t,.tup [.int i,.int j]]/\aP n m t/\1<=n/\n<=8/\m<=8/\i<n/\j<m/\P (dT (ju t i j))
theorem lF:aB oU:=by walk_at "M"
theorem mM(Z:Zk K mg ξ c):Ze P w K mg ξ 2 "turned_cell" kP kr (spP K oU):=by
 refine m3 (Γn:=[2]) xU Z.h_turned_cell (fun hr nd=>(aa (wst 2 nd (wcc (iQ Z) hr (p1 (pv 0)))) (aa (gW (aI iR ai (wix K (wix K (pv 2) (wit K (pv 1) ai)) (wit K (pv 1) ai))) (jT (wix K (pv 2) (wit K (pv 1) ai)) (wit K (pv 1) ai) set_list)) (pr (pv 2))))) (aj (ST.post (Γn:=[2]) (aQ (M:=[]) 2 (aY fU (a1 (rv 0))))) (aj (iJ 2 (bY cz ri (C1 (C1 (cN 2) (ry (af 1) ri)) (ry (af 1) ri))) (ry (af 1) ri) (ry (af 1) ri)) (cD (M:=[2]) (dB 2)))) fun ds P o=>?_
 obtain ⟨t,i,j,n,m,rfl,f,n1,q,r,hi,hj,p⟩:=o
 ac_rfl
 have lt:=f.1
 have g:=f.row hi
 symm
 refine⟨t,rfl,(),?_⟩
 refine gE (t:=t) (a:=i) (b:=j) (v:=1 - cellAt t i j) rfl (fun R h=>?_) (fun R h=>?_) (fun R h=>?_) () (by rw[Oh,g];omega) ?_
 .symm
  refine dD f () () ?_
  symm
  exact h
 .symm
  exact h
 .symm
  exact h
 symm
 exact p
theorem bM(hi:i<n)(hj:j<m):cellAt (cE n m x) i j=x:=by
 unfold cellAt cE
 rw[be,be,O5,if_pos hi,Pn,O5,if_pos hj];rfl
def yg:DSp:=fun ds P=>∃(c cols:aab) (i j n m:Nat),ds=[dI c,dI cols,.tup [.int (i:Int),.int (j:Int)]]/\c.length=n/\n<=8/\cols.length=m/\m<=8/\(∀r∈c,0<=r)/\HW c cols/\i<n/\j<m /\
 (∀U V,Ct n m c cols (cE n m 0) (ju (cE n m 1) i j) U V->P (.tup [.str "one",dN U,dN V])) /\
 (∀U V,Ct n m c cols (ju (cE n m 0) i j) (cE n m 1) U V->P (.tup [.str "zero",dN U,dN V])) /\
 ∀t t',Bt n m c cols (cE n m 0) (ju (cE n m 1) i j) t->Bt n m c cols (ju (cE n m 0) i j) (cE n m 1) t'->P (.tup [.str "free",dT t,dT t'])
theorem zX:aB yg:=by walk_at "M"
theorem Dg(Z:Zk K mg ξ c):Ze P w K mg ξ 7 "fate_of" r8 tf (spP K yg):=by
 refine m3 (Γn:=[6,5,4,3]) F0 Z.h_fate_of (fun hr nd=>(aa (bc (PW.pt (fE (dm (cJ (wcc (fG Z) hr (p2 (wit K (pv 2) ai) (wln K Z.len_ (pv 0)))))) (eA (dm (cJ (wcc (fG Z) hr (p2 (wit K (pv 2) ai) (wln K Z.len_ (pv 1))))))))) (aA jL) aE) (aa (bc (pc pq (wit K (wcc (zV Z) hr (p2 (pv 0) (pv 1))) ai) dP) (aA jL) aE) (aa (wst 3 nd (wcc (oS Z) hr (p3 (pv 0) (pv 1) ai))) (aa (wst 4 nd (wcc (oS Z) hr (p3 (pv 0) (pv 1) ai))) (aa (wst 5 nd (wcc (lg Z) hr (eV (pv 0) (p3 (pv 1) (pv 3) (wcc (mM Z) hr (p2 (pv 4) (pv 2))))))) (aa (bc (pc eI (wit K (pv 5) ai) dP) (pr (eh (p3 dP (wit K (pv 5) ai) (wit K (pv 5) ai)))) aE) (aa (wst 6 nd (wcc (lg Z) hr (eV (pv 0) (p3 (pv 1) (wcc (mM Z) hr (p2 (pv 3) (pv 2))) (pv 4))))) (aa (bc (pc eI (wit K (pv 6) ai) dP) (pr (eh (p3 dP (wit K (pv 6) ai) (wit K (pv 6) ai)))) aE) (pr (eh (p3 dP (wit K (pv 5) ai) (wit K (pv 6) ai))))))))))))) (aj (bf (fM (df (kL (rl cY (a2 (ry (af 2) ri) (rn (rv 0)))))) (df (kL (rl cY (a2 (ry (af 2) ri) (rn (rv 1))))))) iE aF) (aj (bf (tt xE (EM.er (HZ (aY wD (a2 (rv 0) (rv 1))) ri)) (EM.er eB)) iE aF) (aj (ST.post (Γn:=[3]) (aQ (M:=[]) 3 (aY mB (a3 (rv 0) (rv 1) ri)))) (aj (ST.post (Γn:=[4,3]) (aQ (M:=[]) 4 (aY mB (a3 (rv 0) (rv 1) ri)))) (aj (ST.post (Γn:=[5,4,3]) (aQ (M:=[]) 5 (aY jW (rQ (rv 0) (a3 (rv 1) (cN 3) (rl lF (a2 (cN 4) (rv 2)))))))) (aj (bf (tt kK (IL (cN 5) ri) (EM.er eB)) (cD (M:=[5]) (fD (ip eB (Bb 5)))) aF) (aj (ST.post (Γn:=[6,5,4,3]) (aQ (M:=[]) 6 (aY jW (rQ (rv 0) (a3 (rv 1) (rl lF (a2 (cN 3) (rv 2))) (cN 4)))))) (aj (bf (tt kK (IL (cN 6) ri) (EM.er eB)) (cD (M:=[6]) (fD (ip eB (Bb 6)))) aF) (cD (M:=[5,6]) (fD (ip eB (ip (Ew 5 1) (ip (Ew 6 1) aL))))))))))))) fun ds P F=>?_
 obtain ⟨f,cols,i,j,n,m,rfl,rfl,h,rfl,o,G,y,hi,hj,p1,p2,p3⟩:=F
 ac_rfl
 have n1:1<=f.length:=()
 have v:1<=cols.length:=()
 refine b7 fun g e1=>?_
 symm
 refine⟨_,_,rfl,?_⟩
 symm
 rw[if_neg (by simp [hi])]
 refine⟨_,_,rfl,?_⟩
 symm
 rw[if_neg (by simp [hj])]
 subst e1
 refine b7 fun g e1=>?_
 symm
 refine⟨f,cols,rfl,h,o,G,y,fun t=>?_⟩
 symm
 subst e1
 refine b7 fun g e1=>?_
 have u:f.sum=cols.sum:=BS y
 have q:=sE (n:=f.length) (m:=cols.length) (x:=0)
 have p:=sE (n:=f.length) (m:=cols.length) (x:=1)
 have B:Low f.length cols.length (cE f.length cols.length 0) (ju (cE f.length cols.length 1) i j):=fun a b ha hb=>by
  unfold ju
  rw[aW p hi hj,bM ha hb,bM ha hb,bM hi hj];split<;>omega
 have z:Low f.length cols.length (ju (cE f.length cols.length 0) i j) (cE f.length cols.length 1):=fun a b ha hb=>by
  unfold ju
  rw[aW q hi hj,bM ha hb,bM ha hb,bM hi hj];split<;>omega
 symm
 refine⟨f,cols,0,rfl,h,o,?_⟩
 subst e1
 refine b7 fun g e1=>?_
 symm
 refine⟨f,cols,1,rfl,h,o,?_⟩
 subst e1
 refine b7 fun g e1=>?_
 symm
 refine⟨_,i,j,_,_,rfl,p,n1,h,o,hi,hj,?_⟩
 refine⟨f,cols,_,_,_,_,rfl,q,p.setCell hi,n1,(),v,(),rfl,rfl,B,u,fun E s=>?_,fun U V s=>?_⟩
 .subst e1
  refine b7 fun g e1=>?_
  symm
  rw[if_neg nofun]
  subst e1
  refine b7 fun g e1=>?_
  symm
  refine⟨_,i,j,_,_,rfl,q,n1,h,o,hi,hj,?_⟩
  refine⟨f,cols,_,_,_,_,rfl,q.setCell hi,p,n1,(),v,(),rfl,rfl,z,u,fun C r=>?_,fun U V r=>?_⟩
  .subst e1
   symm
   rw[if_neg nofun]
   exact⟨_,_,rfl,rfl,_,_,rfl,rfl,nofun,p3 E C s r⟩
  .subst e1
   symm
   exact⟨_,_,_,rfl,by show 3<=1000;decide,p2 U V r⟩
 .subst e1
  symm
  exact⟨_,_,_,rfl,by show 3<=1000;decide,p1 U V s⟩
def dW(i j k l:Int):D:=.tup [.int i,.int j,.int k,.int l]
def xq:DSp:=fun ds P=>∃(t:aaa) (n m:Nat) (i j k l:Int),ds=[dT t,dW i j k l]/\aP n m t/\1<=n/\P (.bl (decide (cI n m t i j k l)))
theorem xD:aB xq:=by walk_at "M"
theorem A4(Z:Zk K mg ξ c):Ze P w K mg ξ 2 "can_swap" pJ p7 (spP K xq):=by
 refine dJ CA Z.h_can_swap (fun hr nd=>(aa (bc (PW.pt (fE (dm (cJ (wcc (fG Z) hr (p2 (wit K (pv 1) ai) (wln K Z.len_ (pv 0)))))) (eA (dm (cJ (wcc (fG Z) hr (p2 (wit K (pv 1) ai) (wln K Z.len_ (pv 0))))))))) (pr iZ) aE) (aa (wst 2 nd (wix K (pv 0) (wit K (pv 1) ai))) (aa (wst 3 nd (wix K (pv 0) (wit K (pv 1) ai))) (aa (bc (PW.pt (fE (dm (cJ (wcc (fG Z) hr (p2 (wit K (pv 1) ai) (wln K Z.len_ (pv 2)))))) (eA (dm (cJ (wcc (fG Z) hr (p2 (wit K (pv 1) ai) (wln K Z.len_ (pv 2))))))))) (pr iZ) aE) (pr (pG (wt eI eI (wix K (pv 2) (wit K (pv 1) ai)) (wix K (pv 3) (wit K (pv 1) ai)) ai) (vt (wt eI eI (wix K (pv 2) (wit K (pv 1) ai)) (wix K (pv 3) (wit K (pv 1) ai)) ai))))))))) (aj (bf (fM (df (kL (rl cY (a2 (ry (af 1) ri) (rn (rv 0)))))) (df (kL (rl cY (a2 (ry (af 1) ri) (rn (rv 0))))))) (sr jP) aF) (sq 2 (br (af 0) (ry (af 1) ri)) (sq 3 (br (af 0) (ry (af 1) ri)) (aj (bf (fM (df (kL (rl cY (a2 (ry (af 1) ri) (rn (rv 2)))))) (df (kL (rl cY (a2 (ry (af 1) ri) (rn (rv 2))))))) (sr jP) aF) (sr (l4 (EM.er (nD kK kK (rx (af 2) (ry (af 1) ri)) (rx (af 3) (ry (af 1) ri)) ri)) (nD kK kK (rx (af 2) (ry (af 1) ri)) (rx (af 3) (ry (af 1) ri)) ri))))))) fun ds P p=>?_
 obtain ⟨t,n,m,i,j,k,l,rfl,o,hn,f⟩:=p
 ac_rfl
 have q:=o.1
 unfold dW
 ac_nf
 rw[q]
 refine⟨_,_,rfl,?_⟩
 by_cases hi:0<=i/\i<(n:Int)
 .rw[decide_eq_true hi]
  ac_nf
  refine⟨_,_,rfl,?_⟩
  by_cases h:0<=k/\k<(n:Int)
  .rw[decide_eq_true h]
   ac_nf
   have ri:=o.row (i:=i.toNat) ()
   have rk:=o.row (i:=k.toNat) ()
   refine bC () ?_
   ac_nf
   refine bC () ?_
   ac_nf
   rw[ri]
   refine⟨_,_,rfl,?_⟩
   by_cases hj:0<=j/\j<(m:Int)
   .rw[decide_eq_true hj]
    ac_nf
    refine⟨_,_,rfl,?_⟩
    by_cases g:0<=l/\l<(m:Int)
    .rw[decide_eq_true g]
     ac_nf
     refine aD () (aD () ?_)
     ac_nf
     have key:∀b:Bool,(b=true↔cellAt t i.toNat j.toNat=1/\cellAt t i.toNat l.toNat=0/\cellAt t k.toNat j.toNat=0/\cellAt t k.toNat l.toNat=1)->P (.bl b):=fun b hb=>by
      have e:decide (cI n m t i j k l)=b:=by
       rw[P1,decide_eq_true_eq,hb]
       exact⟨fun z=>z.2.2.2.2,fun z=>⟨hi,h,hj,g,z⟩⟩
      rw[e] at f;exact f
     split
     .rename_i a1
      by_cases a2:cellAt t k.toNat l.toNat=1
      .rw[if_pos (show (rowAt t k.toNat).getD l.toNat 0=1 from a2)]
       ac_nf
       refine aD () (aD () ?_)
       ac_nf
       split
       .rename_i a3
        refine key _ ?_
        rw[decide_eq_true_eq]
        exact⟨fun z=>⟨Eq.trans a1 a2,Eq.trans a3 z,z,a2⟩,fun z=>z.2.2.1⟩
       .rename_i a3
        refine key _ ⟨fun z=>(nomatch z),fun z=>?_⟩
        exact absurd (Eq.trans z.2.1 z.2.2.1.symm) a3
      .rw[if_neg (show ¬ (rowAt t k.toNat).getD l.toNat 0=1 from a2)]
       ac_nf
       exact key _ ⟨fun z=>(nomatch z),fun z=>absurd z.2.2.2 a2⟩
     .rename_i a1
      refine key _ ⟨fun z=>(nomatch z),fun z=>?_⟩
      exact absurd (Eq.trans z.1 z.2.2.2.symm) a1
    .rw[decide_eq_false g]
     ac_nf
     rw[decide_eq_false (fun z=>g z.2.2.2.1)] at f;exact f
   .rw[decide_eq_false hj]
    ac_nf
    rw[decide_eq_false (fun z=>hj z.2.2.1)] at f;exact f
  .rw[decide_eq_false h]
   ac_nf
   rw[decide_eq_false (fun z=>h z.2.1)] at f;exact f
 .rw[decide_eq_false hi]
  ac_nf
  rw[decide_eq_false (fun z=>hi z.1)] at f;exact f
def tZ:DSp:=fun ds P=>∃(t:aaa) (n m:Nat) (i j k l:Int),ds=[dT t,dW i j k l]/\aP n m t/\1<=n/\n<=8/\cI n m t i j k l/\P (dT (cH t i.toNat j.toNat k.toNat l.toNat))
theorem vf:aB tZ:=by walk_at "M"
theorem zj(Z:Zk K mg ξ c):Ze P w K mg ξ 3 "swap_made" nB mS (spP K tZ):=by
 refine m3 (Γn:=[2]) A3 Z.h_swap_made (fun hr nd=>(aa (bc (dm (cJ (wcc (A4 Z) hr (p2 (pv 0) (pv 1))))) (aA jL) aE) (aa (wst 2 nd (wcc (iQ Z) hr (p1 (pv 0)))) (aa (gW ai (jT (wix K (pv 2) (wit K (pv 1) ai)) (wit K (pv 1) ai) set_list)) (aa (gW ai (jT (wix K (pv 2) (wit K (pv 1) ai)) (wit K (pv 1) ai) set_list)) (aa (gW ai (jT (wix K (pv 2) (wit K (pv 1) ai)) (wit K (pv 1) ai) set_list)) (aa (gW ai (jT (wix K (pv 2) (wit K (pv 1) ai)) (wit K (pv 1) ai) set_list)) (pr (pv 2))))))))) (aj (bf (df (kL (rl xD (a2 (rv 0) (rv 1))))) iE aF) (aj (ST.post (Γn:=[2]) (aQ (M:=[]) 2 (aY fU (a1 (rv 0))))) (aj (iJ 2 ee (ry (af 1) ri) (ry (af 1) ri)) (aj (iJ 2 ee (ry (af 1) ri) (ry (af 1) ri)) (aj (iJ 2 ee (ry (af 1) ri) (ry (af 1) ri)) (aj (iJ 2 ee (ry (af 1) ri) (ry (af 1) ri)) (cD (M:=[2]) (dB 2)))))))) fun ds P z=>?_
 obtain ⟨t,n,m,i,j,k,l,rfl,f,hn,y,h,p⟩:=z
 ac_rfl
 ac_nf
 refine⟨t,n,m,i,j,k,l,rfl,f,hn,?_⟩
 .rw[decide_eq_true h]
  obtain ⟨hi,E,hj,C,_⟩:=id h
  symm
  have F:=f.1
  refine⟨t,rfl,(),?_⟩
  have g:aP n m (setCell t i.toNat j.toNat 0):=f.setCell ()
  have o:aP n m (setCell (setCell t i.toNat j.toNat 0) i.toNat l.toNat 1):=g.setCell ()
  have q:aP n m (setCell (setCell (setCell t i.toNat j.toNat 0) i.toNat l.toNat 1) k.toNat j.toNat 1):=o.setCell ()
  unfold cH at p
  have x:=f.row (i:=i.toNat) ()
  have u:=g.row (i:=i.toNat) ()
  have s:=o.row (i:=k.toNat) ()
  have r:=q.row (i:=k.toNat) ()
  have l1:=g.1
  have l2:=o.1
  have B:=q.1
  ac_nf
  refine gE (t:=t) (a:=i) (b:=j) (v:=0) rfl (fun R h=>h) (fun R h=>?_) (fun R h=>?_) () (by rw[x];omega) ?_
  .unfold dW;ac_nf;exact h
  .unfold dW;ac_nf;exact h
  ac_nf
  refine gE (t:=setCell t i.toNat j.toNat 0) (a:=i) (b:=l) (v:=1) rfl (fun R h=>h) (fun R h=>?_) (fun R h=>?_) () (by rw[u];omega) ?_
  .unfold dW;ac_nf;exact h
  .unfold dW;ac_nf;exact h
  ac_nf
  refine gE (t:=setCell (setCell t i.toNat j.toNat 0) i.toNat l.toNat 1) (a:=k) (b:=j) (v:=1) rfl (fun R h=>h) (fun R h=>?_) (fun R h=>?_) () (by rw[s];omega) ?_
  .unfold dW;ac_nf;exact h
  .unfold dW;ac_nf;exact h
  ac_nf
  refine gE (t:=setCell (setCell (setCell t i.toNat j.toNat 0) i.toNat l.toNat 1) k.toNat j.toNat 1) (a:=k) (b:=l) (v:=0) rfl (fun R h=>h) (fun R h=>?_) (fun R h=>?_) () (by rw[r];omega) ?_
  .unfold dW;ac_nf;exact h
  .unfold dW;ac_nf;exact h
  ac_nf
  exact p
def dS4(q:Q4):D:=dW q.1 q.2.1 q.2.2.1 q.2.2.2
theorem rG{c:List Q4}:(c.map dS4).all L3.rC=true:=by
 rw[Qb,OP];exact fun _ _=>rfl
def jC:DSp:=fun ds P=>∃(t u:aaa) (n m:Nat) (c:List Q4),ds=[dT t,.lst (c.map dS4)]/\aP n m t/\1<=n/\n<=8/\goT n m t c=some u/\P (dT u)
theorem qU:aB jC:=by walk_at "M"
theorem uo(Z:Zk K mg ξ c):Ze P w K mg ξ 4 "table_behind" jV jR (spR K jC):=by
 refine N9 (Γn:=[]) wY Z.h_table_behind (fun hr nd=>(aa (wfo (wil K (pv 1)) (wpg 2 nd) (aA (wst 0 nd (wcc (zj Z) hr (p2 (pv 0) (pv 2)))))) (pr (pv 0)))) (aj (dH (aN (af 1)) (ar 2) (ST.post (Γn:=[]) (aO 0 (sl vf (a2 (rv 0) (rv 2)))))) (JV (rv 0))) fun ds P v=>?_
 obtain ⟨t,w,n,m,o,rfl,x,n1,r,s,y⟩:=v
 ac_rfl
 symm
 refine cW (as:=o) (f:=dS4) (fun i δ=>∃(u:aaa) (p:Option D),δ=[some (dT u),some (.lst (o.map dS4)),p]/\aP n m u/\goT n m u (o.drop i)=some w) ⟨t,none,rfl,x,s⟩ ?_ ?_
 .rintro a ⟨i,j,k,l⟩ δ N e ⟨u,p,rfl,q,g⟩ B
  obtain ⟨E,C⟩:=oe.mp e
  rw[Ou E,C] at g
  have h:cI n m u i j k l:=PH fun z=>by rw[zL z] at g;cases g
  symm
  exact⟨u,n,m,i,j,k,l,rfl,q,n1,r,h,B _ ⟨_,_,rfl,qx q h,by rw[tK h] at g;exact g⟩⟩
 .rintro δ ⟨u,p,rfl,q,g⟩
  rw[P7] at g
  cases g
  symm
  exact y
def nA:DSp:=fun ds P=>∃(t o:aaa) (n m:Nat),ds=[dT t,dT o]/\aP n m t/\aP n m o/\n<=8/\t≠o/\∀a:Nat,a<n->rowAt t a≠rowAt o a->P (.int (a:Int))
theorem rO:aB nA:=by walk_at "M"
theorem ux(Z:Zk K mg ξ c):Ze P w K mg ξ 1 "first_unlike" fO gw (spP K nA):=by
 refine dJ gw Z.h_first_unlike (fun hr nd=>(pr (wix K (ja rfl (aH.of (sc0:=(ak fO)) (tn:=["row"]) (cap:=["table","other"]) (idx:=[0,1]) (by decide +kernel) rfl rfl) (aS rfl Z.range_ (p1 (wln K Z.len_ (pv 0)))) (iC.name nofun) (fun _ _ _ _ _=>bT (i:=0) (aM (l:=["row","table","other"]) (by decide +kernel)) rfl (by walk_at "o") (by first|exact .inl rfl|exact .inr rfl)) (fun _ _ _ _ _=>iy (pc (kM hr.units) (wix K (pv 1) (pv 0)) (wix K (pv 2) (pv 0)))) (fun _ _ _ _ _=>(pv 0)) (by intro _;rfl)) ai))) (sr (ER.ax (rx (EM.es (j8 (bJ (a1 (rn (rv 0)))) (ar 0) (tt oY (rx (af 1) (rv 0)) (rx (af 2) (rv 0))) (ER.ax (rv 0)))) ri))) fun ds P q=>?_
 obtain ⟨t,o,n,m,rfl,j,s,z,x,r⟩:=q
 ac_rfl
 have lt:=j.1
 have lo:=s.1
 symm
 refine sW (lo:=0) (n:=n) (p:=fun a=>decide (rowAt t a≠rowAt o a)) (g:=fun (a:Nat)=>.int (a:Int)) (fun R h=>?_) () (fun a ha R h=>?_) ?_
 .symm
  rw[lt]
  exact h
 .rfl'
  rw[OU]
  refine bC () ?_
  rw[Oh]
  rfl'
  refine bC () ?_
  rw[Oh]
  rfl'
  refine c8 ?_
  by_cases e:rowAt t a=rowAt o a
  .have h':R []:=by rw[decide_eq_false (show ¬ rowAt t a≠rowAt o a from fun y=>y e)] at h;exact h
   rw[if_pos rfl,decide_eq_true e]
   rfl'
   exact h'
  .have h':R [.int (a:Int)]:=by rw[decide_eq_true (show rowAt t a≠rowAt o a from e)] at h;exact h
   rw[if_pos rfl,decide_eq_false e]
   rfl'
   exact h'
 obtain ⟨a,l,f⟩:∃a l,(List.range n).filter (fun a=>decide (rowAt t a≠rowAt o a))=a::l:=by
  cases e:(List.range n).filter (fun a=>decide (rowAt t a≠rowAt o a)) with
  |cons a l=>exact⟨a,l,rfl⟩
  |nil =>
   refine absurd (Px () fun i v u=>?_) x
   have:=Pp.mp e i (OL.mpr ())
   rw[decide_eq_true_eq,Classical.not_not] at this
   unfold rowAt at this
   rw[be,ab v,be,ab u] at this
   exact this
 have ha:a∈(List.range n).filter (fun a=>decide (rowAt t a≠rowAt o a)):=by rw[f];exact k0
 have hm:=O9.mp ha
 rw[f,Oi]
 symm
 exact r a (OL.mp hm.1) (of_decide_eq_true hm.2)
theorem Od{U:aad}{k:Nat}:((k:Int)∈U.map fun (r:Nat)=>(r:Int))↔k∈U:=by
 rw[Oo]
 exact ⟨fun ⟨a, ha, e⟩ => by have : a = k :=()
                             rw[<- this];exact ha,fun h=>⟨k,h,rfl⟩⟩
theorem NM{c:Bool}{k:Nat}{U:aad}{P:DK}(h:P (.bl (if c then !decide (k∈U) else decide (k∈U)))):vIn c (.int (k:Int)) (dN U) P:=by
 refine Lx ?_
 rw[show decide ((k:Int)∈U.map fun (r:Nat)=>(r:Int))=decide (k∈U) from decide_eq_decide.mpr Od]
 exact h
theorem Nn{rs:aad}{s:Nat}(h:s<=rs.length):L3.cutD ((rs.map fun (r:Nat)=>(r:Int)).map L3.D.int) (some (s:Int)) none=((rs.drop s).map fun (r:Nat)=>(r:Int)).map L3.D.int:=by
 unfold L3.cutD
 rw[dz,dz,HT.mY,HT.qf,Qy h,Po (by rw[Pg,dz,dz];exact Ol _),Qt,Qt]
theorem D5{rs:aad}{x:Nat}:dN (rs++[x])=L3.D.lst ((rs.map fun (p:Nat)=>(p:Int)).map L3.D.int++[L3.D.int (x:Int)]):=by
 show L3.D.lst _=_
 rw[Ov,Ov];rfl
theorem gN{rs:aad}{p:Nat}:(rs.map fun (r:Nat)=>(r:Int)).getD p 0=((rs.getD p 0:Nat):Int):=by
 rw[be,ox,be]
 cases rs[p]?<;>rfl
theorem Ap(c:aP n m t)(ha:a<n):(fH t b).getD a 0=cellAt t a b:=by
 have:=c.1
 unfold fH cellAt
 rw[be,ox,ab (),be (l:=t),ab ()];rfl
theorem F6{a b:aab}{c:Nat}(h:c∈bO a b):c<a.length/\a.getD c 0<b.getD c 0:=by
 unfold bO at h
 have:=O9.mp h
 exact⟨OL.mp this.1,of_decide_eq_true this.2⟩
theorem xA{a b:aab}{c:Nat}(f:c<a.length)(h:a.getD c 0<b.getD c 0):∃d l,bO a b=d::l/\d<a.length/\a.getD d 0<b.getD d 0:=by
 have m:c∈bO a b:=O9.mpr ⟨OL.mpr f,decide_eq_true h⟩
 cases e:bO a b with
 |nil=>rw[e] at m;nomatch m
 |cons d l =>
  have:=F6 (a:=a) (b:=b) (c:=d) (by rw[e];exact k0)
  exact⟨d,l,rfl,this⟩
theorem MN(f:aP n m t)(g:aP n m o)(ha:a<n)(h:rowAt t a≠rowAt o a):∃b,b<m/\cellAt t a b≠cellAt o a b:=by
 refine PH fun z=>h (Px (by rw[f.row ha,g.row ha]) fun i c j=>?_)
 refine PH fun y=>z ⟨i,by rw[f.row ha] at c;exact c,fun w=>y ?_⟩
 have w:(rowAt t a).getD i 0=(rowAt o a).getD i 0:=w
 rw[be,ab c,be,ab j] at w
 exact w
def nY:DSp:=fun ds P=>∃(t o:aaa) (n m:Nat),ds=[dT t,dT o]/\jZ n m t/\jZ n m o/\1<=n/\n<=8/\1<=m/\m<=8/\(∀a,a<n->dO t a=dO o a)/\(∀b,b<m->fg t b=fg o b)/\t≠o/\∀rs cs:aad,cs.length=rs.length->rs.length<=8->Rg.BO n m rs.length t o (fun p=>rs.getD p 0) (fun p=>cs.getD p 0)->P (.tup [dN rs,dN cs])
theorem qu:aB nY:=by walk_at "M"
theorem uH(Z:Zk K mg ξ c):Ze P w K mg ξ 2 "ring_between" jO jD (spP K nY):=by
 refine m3 (Γn:=[4,3]) wJ Z.h_ring_between (fun hr nd=>(aa (wst 2 nd (wcc (ux Z) hr (p2 (pv 0) (pv 1)))) (aa (wst 3 nd (bt cK)) (aa (wst 4 nd (bt cK)) (aa (nU PassesOwn.never (uS (FI (K:=K) rfl) (pv 2) (pv 3) (by with_unfolding_all rfl)) (aa (wst 5 nd (wix K (wcc (cf Z) hr (p2 (wix K (pv 0) (pv 2)) (wix K (pv 1) (pv 2)))) ai)) (aa (cy (lC OO O4 O3 cZ (pv 3) (p1 (pv 2)))) (aa (cy (lC OO O4 O3 cZ (pv 4) (p1 (pv 5)))) (aA (wst 2 nd (wix K (wcc (cf Z) hr (p2 (wcc (lR Z) hr (p2 (pv 1) (pv 5))) (wcc (lR Z) hr (p2 (pv 0) (pv 5))))) ai))))))) (aa (wst 6 nd (lC OO PySem.F.slot_list_index PySem.F.type_list_index B3 (pv 3) (p1 (pv 2)))) (pr (eh (p2 (jJ (jX (K:=K) rfl) (pv 3) (l6 (pv 6)) lO) (jJ (jX (K:=K) rfl) (pv 4) (l6 (pv 6)) lO)))))))))) (sq 2 (sl rO (a2 (rv 0) (rv 1))) (aj (ST.post (Γn:=[3]) (aQ (M:=[]) 3 (bu aL))) (aj (ST.post (Γn:=[4,3]) (aQ (M:=[]) 4 (bu aL))) (aj (nu (tt NO (rv 2) (cN 3)) (aj (ST.post (Γn:=[4,3]) (aO 5 (br (sl bL (a2 (rx (af 0) (rv 2)) (rx (af 1) (rv 2)))) ri))) (aj (ST.post (Γn:=[4,3]) (dY (M:=[]) 3 (ER.ax (rv 2)))) (aj (ST.post (Γn:=[4,3]) (dY (M:=[]) 4 (ER.ax (rv 5)))) (ST.post (Γn:=[4,3]) (aO 2 (br (sl bL (a2 (rl jz (a2 (rv 1) (rv 5))) (rl jz (a2 (rv 0) (rv 5))))) ri))))))) (aj (ST.post (Γn:=[4,3]) (aO 6 (EM.es (Bh (cN 3) (rv 2))))) (sr (fD (av (v7 (cN 3) (or_some (rv 6)) or_none) (av (v7 (cN 4) (or_some (rv 6)) or_none) aL))))))))) fun ds P hS=>?_
 obtain ⟨t,o,n,m,rfl,g,i,n1,U,m1,m8,hr,V4,QY,hP⟩:=hS
 ac_rfl
 symm
 refine⟨t,o,n,m,rfl,g.1,i.1,U,QY,fun a ha hu=>?_⟩
 symm
 obtain ⟨f,hf⟩:∃f:Nat->Nat,∀c,f c=(bO (fH o c) (fH t c)).getD 0 0:=⟨fun c=>(bO (fH o c) (fH t c)).getD 0 0,fun _=>rfl⟩
 have lt:=g.1.1
 have lo:=i.1.1
 have L:∀{x y:Int},(x=0\/x=1)->(y=0\/y=1)->x<y->x=0/\y=1:=fun h1 h2 h3=>by omega
 refine⟨fun k δ=>∃(row:Nat) (rs cs:aad) (I:Option D),δ=[some (dT t),some (dT o),some (.int (row:Int)),some (dN rs),some (dN cs),I,none]/\Rg.Pt n m t o f row rs cs/\k=n - rs.length,⟨_,a,[],[],none,rfl,⟨rfl,Pl,fun x h=>(nomatch h),fun x h=>(nomatch h),fun p h=>absurd h (QO _),fun p h=>absurd h (QO _),fun h=>absurd h nofun,fun p h=>absurd h (QO _),ha,MN g.1 i.1 ha hu⟩,rfl⟩,?_⟩
 rintro k δ ⟨row,rs,cs,I,rfl,j,rfl⟩
 have X:rs.length<=n:=Mat.wL j.nd j.rn
 have lcs:=j.len
 obtain ⟨q,b0,G,Vl⟩:=j.hr
 symm
 refine NM ?_
 by_cases u:row∈rs
 .simp only[if_true,decide_eq_true u,QK]
  symm
  obtain ⟨v,H⟩:=List.getElem?_of_mem u
  obtain ⟨sl,T⟩:=oe.mp H
  unfold qz
  dsimp only
  refine⟨bh,v,⟨.int (row:Int),by rw[ox,ox,H];rfl,by show ((row:Int) == (row:Int))=true;exact beq_self_eq_true _⟩,fun C z hm J=>?_,bh,bh,nofun,?_⟩
  .rw[ox,ox,ab (show C < rs.length by omega)] at J
   cases J
   show (((rs[C]:Nat):Int) == (row:Int))=false
   refine beq_eq_false_iff_ne.mpr fun y=>?_
   have y:rs[C]=rs[v]:=by rw[T];omega
   have:=(List.getElem_inj j.nd).mp y
   omega
  .rw[Nn (),Nn ()]
   exact hP (rs.drop v) (cs.drop v) (by rw[Pg,Pg];omega) (by rw[Pg];omega) (j.ring H)
 .simp only[if_true,decide_eq_false u,Bool.not_false]
  symm
  have Y:=g.1.row q
  have Yq:=i.1.row q
  refine bC () ?_
  rw[Oh]
  refine bC () ?_
  rw[Oh]
  obtain ⟨c',Sv,Xk⟩:=Rg.Hb g.1 i.1 q G (hr row q) Vl
  obtain ⟨c,l,hl,hc,PR⟩:=xA (a:=rowAt t row) (b:=rowAt o row) (c:=c') () Xk
  refine⟨rowAt t row,rowAt o row,rfl,(),(),?_⟩
  rw[hl,Oi]
  symm
  rw[Oi]
  symm
  have cm:c<m:=()
  obtain ⟨c1,c2⟩:=L (g.cell q cm) (i.cell q cm) PR
  have lr:(rs++[row]).length<=n:=Mat.wL (n:=n) (by
   rw[Ow]
   exact⟨j.nd,by simp,fun x E y hy z=>u (by rw[mo.mp hy] at z;rw[<- z];exact E)⟩) (fun x E=>by
   rcases Oj.mp E with y|y
   .exact j.rn x y
   .rw[mo.mp y];exact q)
  rw[Ox,PY] at lr
  refine⟨o,c,rfl,(),fun r hr=>by rw[i.1.2 r hr];exact cm,?_⟩
  refine⟨t,c,rfl,(),fun r hr=>by rw[g.1.2 r hr];exact cm,?_⟩
  obtain ⟨d',O,SJ⟩:=Rg.G2 g.1 i.1 q (V4 c cm) (show cellAt t row c<cellAt o row c by omega)
  obtain ⟨d,l2,R,F,Q⟩:=xA (a:=fH o c) (b:=fH t c) (c:=d') (by rw[lB];omega) (by rw[Ap i.1 O,Ap g.1 O];exact SJ)
  rw[lB] at F
  have s:d<n:=()
  rw[Ap i.1 s,Ap g.1 s] at Q
  obtain ⟨d1,d2⟩:=L (i.cell s cm) (g.cell s cm) Q
  have B:f c=d:=by rw[hf,R];rfl
  refine⟨fH o c,fH t c,rfl,by rw[lB];omega,by rw[lB,lB];omega,?_⟩
  rw[R,Oi]
  symm
  rw[Oi]
  symm
  refine⟨n - (rs.length+1),(),d,rs++[row],cs++[c],some (.int (c:Int)),by rw[D5,D5],?_,by rw[Ox,PY]⟩
  rw[<- B]
  exact j.step u cm c1 c2 (by rw[B];exact s) (by rw[B];exact d2) (by rw[B];exact d1)
theorem FQ{ns:aab}{Q:DK}(h:0<ns.length)(k:Q (.int (ns.getD (ns.length - 1) 0))):asO (atI (ns.map L3.D.int) (-1)) Q:=by
 have:ixN (ns.map L3.D.int).length (-1)=some (ns.length - 1):=by
  unfold ixN
  rw[dz,if_neg (),if_pos ()]
  congr 1;omega
 unfold atI
 rw[this]
 show asO ((ns.map L3.D.int)[ns.length - 1]?) Q
 rw[ox,ab ()]
 rw[be,ab ()] at k
 exact k
theorem fS(h:g p=true):(List.range (p+1)).filter g=(List.range p).filter g++[p]:=by
 rw[PZ,PV];simp [h]
theorem fN(h:g p=false):(List.range (p+1)).filter g=(List.range p).filter g:=by
 rw[PZ,PV];simp [h]
def qF:DSp:=fun ds P=>∃(t o:aaa) (n m:Nat) (rs cs:aad),ds=[dT t,dN rs,dN cs]/\jZ n m t/\n<=8/\m<=8/\cs.length=rs.length/\rs.length<=8/\Rg.BO n m rs.length t o (fun p=>rs.getD p 0) (fun p=>cs.getD p 0)/\P (.lst (((Rg.rsw rs.length (cellAt t) (fun p=>rs.getD p 0) (fun p=>cs.getD p 0)).map (Rg.q4 rs.length (fun p=>rs.getD p 0) (fun p=>cs.getD p 0))).map dS4))
theorem uq:aB qF:=by walk_at "M"
theorem xM(Z:Zk K mg ξ c):Ze P w K mg ξ 1 "ring_swaps" me mq (spP K qF):=by
 refine m3 (Γn:=[4,3]) zR Z.h_ring_swaps (fun hr nd=>(aa (wst 3 nd (bt cK)) (aa (wst 4 nd (bt cK)) (aa (wst 5 nd (wix K (pv 2) (ED Az ai))) (aa (wfo (aS rfl Z.range_ (p1 (aI iR (wln K Z.len_ (pv 1)) ai))) (wpg 6 nd) (aa (wst 7 nd (eh (eV (wix K (pv 1) (pv 6)) (p3 (pv 5) (wix K (pv 1) (aI eD (pv 6) ai)) (wix K (pv 2) (pv 6)))))) (aA (bc (pc eI (wix K (wix K (pv 0) (wix K (pv 1) (aI eD (pv 6) ai))) (pv 5)) ai) (aA (cy (lC OO O4 O3 cZ (pv 3) (p1 (pv 7))))) (aA (cy (lC OO O4 O3 cZ (pv 4) (p1 (pv 7))))))))) (pr (aI tJ (pv 3) (By (K:=K) rfl rfl rfl Z.list_ rfl Z.reversed_ (pv 4))))))))) (aj (ST.post (Γn:=[3]) (aQ (M:=[]) 3 (bu aL))) (aj (ST.post (Γn:=[4,3]) (aQ (M:=[]) 4 (bu aL))) (aj (ST.post (Γn:=[4,3]) (aO 5 (br (af 2) (EM.er (E6 D7 ri))))) (aj (dH (bJ (a1 (ro cz (rn (rv 1)) ri))) (ar 6) (aj (ST.post (Γn:=[4,3]) (aO 7 (EM.es (fD (av (ER.flat (rx (af 1) (rv 6))) (av (ER.flat (rv 5)) (av (ER.flat (rx (af 1) (ro cz (rv 6) ri))) (av (ER.flat (rx (af 2) (rv 6))) aL)))))))) (bf (tt kK (rx (br (af 0) (rx (af 1) (ro cz (rv 6) ri))) (rv 5)) ri) (ST.post (Γn:=[4,3]) (dY (M:=[]) 3 (ER.flat (rv 7)))) (ST.post (Γn:=[4,3]) (dY (M:=[]) 4 (ER.flat (rv 7))))))) (sr (bY MC (cN 3) (Dr (cN 4)))))))) fun ds P G=>?_
 obtain ⟨t,o,n,m,rs,cs,rfl,y,I,J,F,L,h,i⟩:=G
 ac_rfl
 have two:=h.two
 have lt:=y.1.1
 have E:(rs.map fun (r:Nat)=>(r:Int)).length=rs.length:=dz ..
 have u:(cs.map fun (r:Nat)=>(r:Int)).length=cs.length:=dz ..
 obtain ⟨r,er⟩:∃r:Nat->Nat,(fun p=>rs.getD p 0)=r:=⟨_,rfl⟩
 obtain ⟨cc,C⟩:∃c:Nat->Nat,(fun p=>cs.getD p 0)=c:=⟨_,rfl⟩
 have v:∀p,rs.getD p 0=r p:=fun p=>by rw[<- er]
 have B:∀p,cs.getD p 0=cc p:=fun p=>by rw[<- C]
 rw[er,C] at h i
 symm
 refine FQ () ?_
 rw[u,gN,B,F]
 symm
 rw[show ((rs.length:Int) - 1).toNat=rs.length - 1 by omega]
 refine nR (lo:=0) (n:=rs.length - 1) (fun k δ=>∃(s j:Option D),δ=[some (dT t),some (dN rs),some (dN cs),some (.lst ((((List.range k).filter (Rg.ah rs.length (cellAt t) r cc)).map (Rg.q4 rs.length r cc)).map dS4)),some (.lst ((((List.range k).filter fun q=>!Rg.ah rs.length (cellAt t) r cc q).map (Rg.q4 rs.length r cc)).map dS4)),some (.int ((cc (rs.length - 1):Nat):Int)),s,j]) ⟨none,none,rfl⟩ ?_ ?_
 .rintro p δ N O ⟨s,j,rfl⟩ z
  rw[OU]
  have l1:∀g:Nat->Bool,((((List.range p).filter g).map (Rg.q4 rs.length r cc)).map dS4).length<=p:=fun g=>by
   rw[dz,dz]
   exact OC (Qf ..) (by rw[Ot];exact Ol _)
  have rp:=h.rn (p+1) ()
  have cl:=h.cm (rs.length - 1) ()
  have H:=y.1.row rp
  symm
  refine aD () ?_
  rw[Oh,gN,v]
  symm
  refine aD () ?_
  rw[show ((p:Int)+1).toNat=p+1 by omega,gN,v]
  symm
  refine aD () ?_
  rw[Oh,gN,B]
  symm
  refine aD () ?_
  rw[show ((p:Int)+1).toNat=p+1 by omega,gN,v]
  symm
  refine bC () ?_
  rw[Oh]
  symm
  refine aD () ?_
  rw[Oh]
  symm
  have x:=l1 (Rg.ah rs.length (cellAt t) r cc)
  have q2:=l1 fun q=>!Rg.ah rs.length (cellAt t) r cc q
  rw[dz,dz] at x q2
  by_cases e:(rowAt t (r (p+1))).getD (cc (rs.length - 1)) 0=0
  .have f:Rg.ah rs.length (cellAt t) r cc p=true:=decide_eq_true e
   rw[if_pos e]
   refine⟨(),z _ ⟨some (.int (p:Int)),some (dS4 (Rg.q4 rs.length r cc p)),?_⟩⟩
   rw[fS (g:=Rg.ah rs.length (cellAt t) r cc) f,fN (g:=fun q=>!Rg.ah rs.length (cellAt t) r cc q) (by simp [f]),Ov,Ov]
   rfl
  .have f:Rg.ah rs.length (cellAt t) r cc p=false:=decide_eq_false e
   rw[if_neg e]
   refine⟨(),z _ ⟨some (.int (p:Int)),some (dS4 (Rg.q4 rs.length r cc p)),?_⟩⟩
   rw[fN (g:=Rg.ah rs.length (cellAt t) r cc) f,fS (g:=fun q=>!Rg.ah rs.length (cellAt t) r cc q) (by simp [f]),Ov,Ov]
   rfl
 .rintro δ ⟨s,j,rfl⟩
  have l1:∀g:Nat->Bool,((List.range (rs.length - 1)).filter g).length<=rs.length - 1:=fun g=>OC (Qf ..) (by rw[Ot];exact Ol _)
  have x:=l1 (Rg.ah rs.length (cellAt t) r cc)
  have q2:=l1 fun q=>!Rg.ah rs.length (cellAt t) r cc q
  symm
  refine⟨⟨rG,by rw[List.all_reverse];exact rG,by rw[List.length_reverse,dz,dz];omega⟩,?_⟩
  unfold Rg.rsw at i
  rw[Ov,Ov,List.map_reverse,List.map_reverse] at i
  exact i
theorem IM{B:Int}{f:Nat->Int}:∀{n:Nat},(∀i,i<n->f i<=B)->sN n f<=n*B
 |0,_=>by rw[FC];simp
 |n+1,h=>by
  rw[bK,show ((n+1:Nat):Int)*B=n*B+B by rw[Int.natCast_add,Int.add_mul];simp]
  have:=IM (n:=n) fun i hi=>h i ()
  have:=h n ()
  omega
theorem HG(g:n<=8)(h:m<=8):Rg.apart n m t o<=64:=by
 unfold Rg.apart
 have c:∀a,a<n->(sN m fun b=>Rg.pos (cellAt t a b) (cellAt o a b))<=8:=fun a _=>by
  have:=IM (B:=1) (n:=m) (f:=fun b=>Rg.pos (cellAt t a b) (cellAt o a b)) fun b _=>by unfold Rg.pos;split<;>omega
  omega
 have:=IM c
 omega
theorem Nv{c:List Q4}:(c.map dS4).all L3.Nf=true:=by
 rw[Qb,OP];exact fun _ _=>rfl
def mG:DSp:=fun ds P=>∃(t o:aaa) (n m:Nat),ds=[dT t,dT o]/\jZ n m t/\jZ n m o/\1<=n/\n<=8/\1<=m/\m<=8/\(∀a,a<n->dO t a=dO o a)/\(∀b,b<m->fg t b=fg o b) /\
 ∀c:List Rg.Q4,Rg.goT n m t c=some o->(c.length:Int)<=64->(t=o/\c=[]\/(c.length:Int)+1<=Rg.apart n m t o)->P (.lst (c.map dS4))
theorem pE:aB mG:=by walk_at "M"
theorem sf(Z:Zk K mg ξ c):Ze P w K mg ξ 5 "swaps_between" iP iW (spP K mG):=by
 refine m3 (Γn:=[3]) uD Z.h_swaps_between (fun hr nd=>(aa (bc (PW.pt (fE (pc (kM hr.units) (wcc (cU Z) hr (p1 (pv 0))) (wcc (cU Z) hr (p1 (pv 1)))) (eA (pc (kM hr.units) (wcc (cS Z) hr (p1 (pv 0))) (wcc (cS Z) hr (p1 (pv 1))))))) (aA jL) aE) (aa (wst 2 nd (pv 0)) (aa (wst 3 nd (bt cK)) (aa (nU PassesOwn.never (pc (kM hr.units) (pv 2) (pv 1)) (aa (wst 4 nd (wcc (uH Z) hr (p2 (pv 2) (pv 1)))) (aa (wst 5 nd (wcc (xM Z) hr (p3 (pv 2) (wit K (pv 4) ai) (wit K (pv 4) ai)))) (aa (wst 2 nd (wcc (uo Z) hr (p2 (pv 2) (pv 5)))) (aA (cy (lC OO PySem.F.slot_list_extend PySem.F.type_list_extend Gp (pv 3) (p1 (pv 5))))))))) (pr (pv 3))))))) (aj (bf (fM (tt oY (rl cx (a1 (rv 0))) (rl cx (a1 (rv 1)))) (tt oY (rl cn (a1 (rv 0))) (rl cn (a1 (rv 1))))) iE aF) (sq 2 (af 0) (aj (ST.post (Γn:=[3]) (aQ (M:=[]) 3 (bu aL))) (aj (nu (tt oY (rv 2) (rv 1)) (aj (ST.post (Γn:=[3]) (aO 4 (sl qu (a2 (rv 2) (rv 1))))) (aj (ST.post (Γn:=[3]) (aO 5 (sl uq (a3 (rv 2) (ry (af 4) ri) (ry (af 4) ri))))) (aj (IC 3 2 (JS (S:=jC) qU (a2 (rv 2) (rv 5)))) (ST0.st (Hs 3 (rv 5))))))) (cD (M:=[3]) (dB 3)))))) fun ds P T=>?_
 obtain ⟨t,o,n,m,rfl,C,E,n1,j,O,v,hr,L,X⟩:=T
 ac_rfl
 have lt:=C.1.1
 have lo:=E.1.1
 have e1:t.map List.sum=o.map List.sum:=yO () fun a ha=>hr a ()
 have e2:(turned m t).map List.sum=(turned m o).map List.sum:=by
  unfold turned
  rw[OB,OB]
  exact O7 fun b hb=>L b (OL.mp hb)
 symm
 refine⟨t,rfl,(),o,rfl,(),?_⟩
 refine c8 ?_
 rw[if_pos rfl,decide_eq_true e1]
 symm
 refine⟨t,n,m,rfl,C.1,n1,(),(),o,n,m,rfl,E.1,n1,(),(),?_⟩
 refine c8 ?_
 rw[if_pos rfl,decide_eq_true e2]
 symm
 have a64:=HG (n:=n) (m:=m) (t:=t) (o:=o) j v
 refine⟨fun k δ=>∃(u:aaa) (f:List Q4) (G F:Option D),δ=[some (dT t),some (dT o),some (dT u),some (.lst (f.map dS4)),G,F]/\Rg.goT n m t f=some u/\((u=t/\f=[])\/(f.length:Int)+1+Rg.apart n m u o<=Rg.apart n m t o)/\k=(Rg.apart n m u o).toNat,⟨_,t,[],none,none,rfl,rfl,.inl ⟨rfl,rfl⟩,rfl⟩,?_⟩
 rintro k δ ⟨u,f,G,F,rfl,B,y,rfl⟩
 have kp:=Rg.v8 C B
 have lu:=kp.on.1.1
 have a0:=Rg.qC (n:=n) (m:=m) (t:=u) (o:=o)
 have sl:(f.length:Int)<=64:=by
  rcases y with ⟨_,rfl⟩|h
  .simp
  .omega
 symm
 refine tq ?_
 by_cases s:u=o
 .rw[if_pos rfl,decide_eq_true s]
  symm
  subst s
  refine X f B sl ?_
  rcases y with ⟨h1,Y⟩|h
  .exact .inl ⟨h1.symm,Y⟩
  .exact .inr ()
 .rw[if_pos rfl,decide_eq_false s]
  symm
  refine⟨u,o,n,m,rfl,kp.on,E,n1,j,O,v,fun a ha=>by rw[kp.rs a,hr a ha],fun b hb=>by rw[kp.cs b,L b hb],s,fun rs cs l1 Q g=>?_⟩
  symm
  refine⟨u,o,n,m,rs,cs,rfl,kp.on,j,v,l1,Q,g,?_⟩
  have two:=g.two
  obtain ⟨U,q,UC⟩:=g.toRing.all (fun p R=>kp.on.cell (g.rn p R) (g.cm _ ())) kp.on.1 (fun a b _ _=>rfl)
  have less:=g.less UC
  have A0:=Rg.qC (n:=n) (m:=m) (t:=U) (o:=o)
  obtain ⟨i,J⟩:∃i,(Rg.rsw rs.length (cellAt u) (fun p=>rs.getD p 0) (fun p=>cs.getD p 0)).map (Rg.q4 rs.length (fun p=>rs.getD p 0) (fun p=>cs.getD p 0))=i:=⟨_,rfl⟩
  have x:i.length=rs.length - 1:=by rw[<- J,dz,Rg.J5]
  rw[J] at q ⊢
  have I:=Rg.v8 kp.on q
  have H:=I.on.1.1
  symm
  refine⟨rG,Nv,u,U,n,m,i,rfl,kp.on.1,n1,j,q,U,rfl,fun z=>by rw[z] at H;simp at H;omega,fun r hr z=>by have:=I.on.1.2 r hr;rw[z] at this;simp at this;omega,_,rfl,rG,rG,by rw[dz];omega,(Rg.apart n m U o).toNat,(),U,f++i,_,_,by rw[Ov],by rw[Rg.oo B];exact q,.inr ?_,rfl⟩
  rw[Ox,x,less]
  rcases y with ⟨rfl,rfl⟩|h
  .simp;omega
  .omega
theorem IW:dT (a++b)=.lst (a.map dI++b.map dI):=congrArg L3.D.lst (Ov)
theorem MB{w:Nat}(h:w<=5):(Tal.lines w).length<=32:=by rw[Tal.jj];exact OC (Ql nofun h) nofun
theorem Am{x:Int}{w:Nat}(h:w<=5):(Tal.aG x w).length<=32:=OC Tal.CZ (OC (Ql nofun h) nofun)
def um:DSp:=fun ds P=>∃w:Nat,ds=[.int w]/\w<=5/\P (dT (Tal.lines w))
theorem wC:aB um:=by walk_at "M"
theorem AQ(Z:Zk K mg ξ c):Ze P w K mg ξ 1 "all_lines" iK nS (spP K um):=by
 refine m3 (Γn:=[1]) BQ Z.h_all_lines (fun hr nd=>(aa (wst 1 nd (bt (p1 (bt cK)))) (aa (wfo (aS rfl Z.range_ (p1 (pv 0))) (wpg 2 nd) (aA (wst 1 nd (aI tJ (wco (ak iK) "line" [] [] (wil K (pv 1)) (fun _ _ _ _ _=>(aI tJ (bt (p1 ai)) (pv 0)))) (wco (ak iK) "line" [] [] (wil K (pv 1)) (fun _ _ _ _ _=>(aI tJ (bt (p1 ai)) (pv 0)))))))) (pr (pv 1))))) (aj (ST.post (Γn:=[1]) (aQ (M:=[]) 1 (bu (av (bu aL) aL)))) (aj (dH (bJ (a1 (rv 0))) (ar 2) (ST.post (Γn:=[1]) (aQ (M:=[]) 1 (Ku (aK (aN (af 1)) (ar 0) (bY E8 (EM.er (bu (av ee aL))) (rv 0))) (aK (aN (af 1)) (ar 0) (bY E8 (EM.er (bu (av ee aL))) (rv 0))))))) (cD (M:=[1]) (dB 1)))) fun ds P o=>?_
 obtain ⟨w,rfl,hw,p⟩:=o
 ac_rfl
 symm
 refine nR (lo:=0) (n:=w) (fun i δ=>∃(j:Option D),δ=[some (.int w),some (dT (Tal.lines i)),j]) ⟨none,rfl⟩ ?_ ?_
 .rintro i δ N hi ⟨j,rfl⟩ q
  have m:(Tal.lines i).length<=16:=by rw[Tal.jj];exact OC (Ql nofun (show i<=4 by omega)) nofun
  have one:∀(e:Int) (P:DK),P (dT ((Tal.lines i).map fun r=>e::r))->mD (F8 (iI 1)) (vg 0) Gg (vOp G6 (Gf (gH (vC (L3.D.int e)) tu)) (iI 0)) (0+1) [] [some (L3.D.int w),some (dT (Tal.lines i)),some (.int (0+(i:Int)))] P:=fun e P h=>by
   refine fP (as:=Tal.lines i) (f:=dI) (g:=fun r=>dI (e::r)) (fun R h=>h) () (fun r s R h=>?_) ?_
   .have:=(Tal.bG s).1
    rfl'
    refine⟨⟨rfl,bh,by first|omega|(rw[dz];show 1+_<=_;omega)|(simp;omega)⟩,h⟩
   .rw[show (Tal.lines i).map (fun r=>dI (e::r))=((Tal.lines i).map fun r=>e::r).map dI by rw[OB];rfl]
    exact h
  symm
  refine one 0 _ ?_
  refine one 1 _ ?_
  refine⟨_,_,rfl,rfl,by simp;omega,?_⟩
  refine q _ ⟨some (.int (0+(i:Int))),?_⟩
  rw[<- IW];rfl
 .rintro δ ⟨j,rfl⟩
  symm
  exact p
def qB:DSp:=fun ds P=>∃(x:Int) (w:Nat),ds=[.int x,.int w]/\w<=5/\P (dT (Tal.aG x w))
theorem mH:aB qB:=by walk_at "M"
theorem px(Z:Zk K mg ξ c):Ze P w K mg ξ 2 "lines_with" jd i8 (spP K qB):=by
 refine dJ i8 Z.h_lines_with (fun hr nd=>(pr (ja rfl (aH.of (sc0:=(ak jd)) (tn:=["line"]) (cap:=["number"]) (idx:=[0]) (by decide +kernel) rfl rfl) (wil K (wcc (AQ Z) hr (p1 (pv 1)))) (iC.name nofun) (fun _ _ _ _ _=>bT (i:=0) (aM (l:=["line","number"]) (by decide +kernel)) rfl (by walk_at "o") (by first|exact .inl rfl|exact .inr rfl)) (fun _ _ _ _ _=>iy (pc eI (az (bX (K:=K) rfl rfl) (by rfl) Z.sum_ boot_sum (p1 (pv 0))) (pv 1))) (fun _ _ _ _ _=>(pv 0)) (by intro _;rfl)))) (sr (KO (aY wC (a1 (rv 1))) (tt kK (EM.er (aX mZ (a1 (rv 0)))) (rv 1)))) fun ds P f=>?_
 obtain ⟨x,w,rfl,hw,g⟩:=f
 ac_rfl
 symm
 refine⟨w,rfl,hw,?_⟩
 have m:=MB hw
 refine⟨(Tal.lines w).map dI,rfl,by rw[dz];omega,fun d=>match d with|.lst ds=>decide ((ds.map fun z=>match z with|.int i=>i|_=>0).sum=x)|_=>false,fun d hd R h=>?_,?_⟩
 .obtain ⟨r,n,rfl⟩:=Oo.mp hd
  have e:((r.map L3.D.int).map fun z=>match z with|.int i=>i|_=>0)=r:=by rw[OB];exact QM r
  simp only[e] at h
  rfl'
  exact h
 .have j:((Tal.lines w).map dI).filter (fun d=>match d with|.lst ds=>decide ((ds.map fun z=>match z with|.int i=>i|_=>0).sum=x)|_=>false)=(Tal.aG x w).map dI:=by
   rw[List.filter_map,Tal.aG]
   congr 1
   refine List.filter_congr fun r _=>?_
   have e:((r.map L3.D.int).map fun z=>match z with|.int i=>i|_=>0)=r:=by rw[OB];exact QM r
   show decide (((r.map L3.D.int).map fun z=>match z with|.int i=>i|_=>0).sum=x)=decide (r.sum=x)
   rw[e]
  rw[j]
  exact g
def Phi(c:aab):Int->aab->Int->Prop:=fun d ks n=>n=Tal.W (c.drop d.toNat) ks
def oP(c:Cs)(f:aab)(chs:List D):D:=.ins c.Tally ["choices","known"] [.lst chs,.mem (Phi f)]
def tN(c:aab)(w:Nat):List D:=c.map fun r=>dT (Tal.aG r w)
def tly(c:Cs)(f:aab)(w:Nat):D:=oP c f (tN f w)
def Chs(d:Nat)(c:aab)(w:Nat)(chs:List D):Prop:=chs.length=c.length/\∀k,d<=k->k<c.length->chs[k]?=some (dT (Tal.aG (c.getD k 0) w))
theorem uN{d w:Nat}{c:aab}:Chs d c w (tN c w):=⟨by unfold tN;rw[dz],fun k _ f=>by unfold tN;rw[ox,be,ab f];rfl⟩
theorem Chs.up{d e w:Nat}{c:aab}{chs:List D}(h:Chs d c w chs)(k:d<=e):Chs e c w chs:=⟨h.1,fun i hi=>h.2 i (OC k hi)⟩
theorem getD_at{c:aab}{i:Nat}(h:i<c.length):c.getD i 0=c[i]:=by rw[be,ab h];rfl
def dQ(c:Cs):DSp:=fun ds P=>∃(f:aab) (w:Nat),ds=[dI f,.int w]/\w<=5/\f.length<=8/\P (tly c f w)
theorem eX:aB (dQ c):=by walk_at "M"
theorem vZ:∀ds P,(dQ c) ds P->ds.length=2:=by
 intro ds P h
 obtain ⟨_,_,e,_⟩:=h
 rw[e];rfl
theorem gy:∀ds P,(dQ c) ds P->(dQ c) ds fun d=>(∃ns dd,d=.ins c.Tally ns dd)/\P d:=by
 intro ds P h
 unfold dQ at h ⊢
 obtain ⟨f,w,e,i,g,h⟩:=h;exact⟨f,w,e,i,g,⟨⟨_,_,rfl⟩,h⟩⟩
theorem il(F:x6 K mg "Tally" c.Tally "Tally.__init__" gn cj f fd)(Z:Zk K mg ξ c):gP P w K mg ξ CX0 3 f fd cj (spN K c.Tally (dQ c)):=by
 refine F.fn.ok xX (fun vs H Q E h=>En vZ h) (fun n A outer s H vs Q E hr h=>?_)
 refine⟨_,(aa (gJ (K:=K) rfl (pv 0) (wco (ak gn) "number" ["width"] [2] (wil K (pv 1)) (fun _ _ _ _ _=>(wcc (px Z) hr (p2 (pv 0) (pv 1))))) rfl) (aA (gJ (K:=K) rfl (pv 0) G3 rfl))),G7 (N:=cj) (m4 Z.i_Tally.cl Z.n_Tally_choices (aK (aN (af 1)) (ar 0) (aY mH (a2 (rv 0) (rv 1)))) (Fh Z.i_Tally.cl Z.n_Tally_known Ki)) (fun ds P j=>?_) nofun (by decide +kernel) nofun h⟩
 obtain ⟨i,w,rfl,hw,o,m⟩:=j
 rw[show bA (cj.drop 1) [dI i,.int w]=[some (dI i),some (.int w)] from rfl]
 symm
 refine fP (as:=i) (f:=L3.D.int) (g:=fun r=>dT (Tal.aG r w)) (fun R h=>h) () (fun r p R h=>?_) ?_
 .rfl'
  exact⟨r,w,rfl,hw,h⟩
 .exact⟨_,m⟩
def cR(c:Cs)(n:Nat):DSp:=fun ds P=>∃(f:aab) (chs:List D) (done w:Nat) (left:aab),ds=[oP c f chs,.int done,dI left]/\Chs done f w chs/\left.length=w/\1<=w/\w<=5/\f.length<=5/\done<=f.length/\f.length - done<n/\P (.int (Tal.W (f.drop done) left))
theorem uv(h:spP K (cR c 0) vs H Q E):False:=by
 obtain ⟨ds,_,_,f,chs,done,w,left,_,_,_,_,_,_,_,z,_⟩:=h
 exact absurd z (QO _)
theorem HQ(c:x∈left)(h:x<0\/(rs.length:Int)<x):Tal.W rs left=0:=by
 obtain ⟨i,hi,rfl⟩:=PB c
 refine Tal.LB hi ?_
 rw[be,ab hi];exact h
theorem Ez{c:aab}{d:Nat}{ks:aab}{n:Int}:Phi c (d:Int) ks n↔n=Tal.W (c.drop d) ks:=Iff.rfl
theorem cV:aB (cR c n):=by
 intro xs P q k h
 obtain ⟨ch,chs,done,w,left,e,p,o,m,j,i,g,f,h⟩:=h
 exact⟨ch,chs,done,w,left,e,p,o,m,j,i,g,f,k _ h⟩
theorem nV:∀ds P,cR c n ds P->ds.length=3:=by
 intro ds P h
 obtain ⟨_,_,_,_,_,e,_⟩:=h
 rw[e];rfl
theorem bQ(F:lz K c.Tally "ways" "Tally.ways" dS bU f fd)(Z:Zk K mg ξ c)(hk:2<=k)(PF:gP P w K mg ξ CX0 k f fd bU (spP K (cR c n))):gP P w K mg ξ CX0 (k+1) f fd bU (spP K (cR c (n+1))):=by
 obtain ⟨f0,d0,v,Sd⟩:=cP (P:=P) (w:=w) Z
 have U:=F
 refine F.fn.ok pw (fun vs H Q E h=>j5 nV h) (fun cdv A outer s H vs Q E hr h=>?_)
 refine⟨_,(aa (bc (PW.pt (fE (pc ph (az (oE (K:=K) rfl rfl) (by rfl) Z.min_ boot_min (p1 (pv 2))) ai) (eA (pc uk (az (yp (K:=K) rfl rfl) (by rfl) Z.max_ boot_max (p1 (pv 2))) (aI iR (wln K Z.len_ (wfd K (pv 0))) (pv 1)))))) (pr ai) aE) (aa (bc (pc eI (pv 1) (wln K Z.len_ (wfd K (pv 0)))) (pr ai) aE) (aa (wst 3 pw.nd (eh (p2 (pv 1) (bD (Be (K:=K) rfl) (by rfl) Z.tuple_ boot_tuple (p1 (az (qT (K:=K) rfl) (by rfl) Z.sorted_ boot_sorted (p1 (pv 2)))))))) (aa (bc (uS (Iq hr.units) (pv 3) (wfd K (pv 0)) (by with_unfolding_all rfl)) (aA (gW (az (bX (K:=K) rfl rfl) (by rfl) Z.sum_ boot_sum (p1 (wco (ak dS) "line" ["self","done","left"] [0,1,2] (wil K (wix K (wfd K (pv 0)) (pv 1))) (fun _ _ _ _ _=>(iz (pv 1) Z.i_Tally.cl U.mt PF (hr.mono ()) U.bd .nil fL (p2 (aI eD (pv 2) ai) (ET Sd (hr.mono ()) rfl v.mg v.fn.kp v.bd .nil fL (p2 (pv 3) (pv 0))))))))) (jT (wfd K (pv 0)) (pv 3) (IX hr.units)))) aE) (pr (Hd (JP hr.units) (wfd K (pv 0)) (pv 3) (fun _ _=>rfl))))))),pI (Γn:=[]) (N:=mn) (aj (bf (fM (tt iF (EM.er (aX AF (a1 (rv 2)))) ri) (tt iF (EM.er (aX Hz (a1 (rv 2)))) (ro cz (rn (ES.er (bw ["choices","known"] 0 Z.i_Tally.cl Z.n_Tally_choices (af 0)))) (rv 1)))) (sr ee) aF) (aj (bf (tt kK (rv 1) (rn (ES.er (bw ["choices","known"] 0 Z.i_Tally.cl Z.n_Tally_choices (af 0))))) (sr ee) aF) (sq 3 (EM.es (fD (av (ER.ax (rv 1)) (av (aX KN (a1 (EM.er (aX Jp (a1 (rv 2)))))) aL)))) (KU ["choices","known"] 1 3 Z.i_Tally.cl Z.n_Tally_known (EM.er (aX mZ (a1 (EM.er (aK (aN (br (bw ["choices","known"] 0 Z.i_Tally.cl Z.n_Tally_choices (af 0)) (rv 1))) (ar 0) (ic (C:=c.Tally) ["choices","known"] cV (rv 1) (a2 (ro cz (rv 2) ri) (rl bV (a2 (rv 3) (rv 0)))))))))))))) (fun ds P hS=>?_) h⟩
 obtain ⟨i,chs,done,w,left,rfl,q,G,X,y,c5,hd,hn,j⟩:=hS
 rw[show bA mn [oP c i chs,.int done,dI left]=[some (oP c i chs),some (.int done),some (dI left),none] from rfl]
 have SS:=q.1
 unfold oP
 symm
 intro M hM T
 by_cases u:M<0
 .rw[if_pos u];rw[HQ hM (.inl u)] at j;exact j
 rw[if_neg u]
 refine⟨(),?_⟩
 intro M2 t O
 by_cases I:(chs.length:Int) - done<M2
 .rw[if_pos I];rw[HQ t (.inr (by rw[Pg];omega))] at j;exact j
 rw[if_neg I]
 by_cases h2:done=i.length
 .rw[if_pos ()]
  rw[Pe (),Tal.W,if_pos (fun x B=>by have:=T x B;have:=O x B;omega)] at j
  exact j
 rw[if_neg ()]
 refine⟨(),fun z p _=>⟨bh,nofun,?_⟩⟩
 have o:done<i.length:=()
 have J:Tal.W (i.drop done) z=Tal.W (i.drop done) left:=Tal.CF p
 refine⟨_,Phi i,(done:Int),z,rfl,rfl,rfl,?_,?_,fun m hm=>?_⟩
 .unfold Cy
  simp only[Pj,decide_eq_true_eq,OP]
  refine⟨⟨⟨(),()⟩,by rw[p.length_eq];omega⟩,fun e Y=>?_⟩
  have L:=p.mem_iff.mp Y
  have:=T e L
  have:=O e L
  omega
 .have l5:=Am (x:=i[done]) y
  symm
  refine fP (as:=Tal.aG i[done] w) (f:=dI) (g:=fun r=>.int (Tal.W (i.drop (done+1)) (Tal.sub left r))) (fun R h=>?_) () (fun r R0 R h=>?_) ?_
  .symm
   refine zy () () ?_
   rw[Oh,q.2 done (Ol _) o,getD_at o]
   exact h
  .have VU:=(Tal.bG (Tal.aU.mp R0).1).1
   rfl'
   refine⟨left,r,rfl,(),(),?_⟩
   rw[Tal.qd ()]
   refine⟨i,chs,done+1,w,_,rfl,q.up (Pk _),by rw[Tal.sub_len ()];exact G,X,y,c5,o,(),?_⟩
   exact h
  .rw[dw]
   symm
   refine⟨_,rfl,?_⟩
   rw[Ez,J,Ou o,Tal.W,G]
 .rw[Ez] at hm
  rw[hm,J]
  exact j
theorem ir(F:lz K c.Tally "ways" "Tally.ways" dS bU f fd)(Z:Zk K mg ξ c):gP P w K mg ξ CX0 9 f fd bU (spP K (cR c 7)):=by
 have g:gP P w K mg ξ CX0 2 f fd bU (spP K (cR c 0)):=⟨fun vs H Q E h=>j5 nV h,fun A outer s H args us vs Q E hr i hb r h=>(uv h).elim⟩
 exact (bQ F Z nofun (bQ F Z nofun (bQ F Z nofun (bQ F Z nofun (bQ F Z nofun (bQ F Z nofun (bQ F Z nofun g)))))))
def kR(c:Cs):DSp:=fun ds P=>∃(f:aab) (chs:List D) (done w:Nat) (left g:aab) (hd:done<f.length),ds=[oP c f chs,.int done,dI left,dI g]/\Chs done f w chs/\left.length=w/\g.length=w/\1<=w/\w<=5/\f.length<=5/\P (.int (Tal.A f[done] (f.drop (done+1)) left g))
theorem g9:aB (kR c):=by walk_at "M"
theorem uz:∀ds P,(kR c) ds P->ds.length=4:=by
 intro ds P h
 obtain ⟨_,_,_,_,_,_,_,e,_⟩:=h
 rw[e];rfl
theorem nZ(F:lz K c.Tally "ahead" "Tally.ahead" c7 eE f fd)(Z:Zk K mg ξ c):gP P w K mg ξ CX0 10 f fd eE (spP K (kR c)):=by
 obtain ⟨O,T,t⟩:=Z.h_Tally_ways
 have L:=ir (P:=P) (w:=w) t Z
 refine F.fn.ok nG (fun vs H Q E h=>j5 uz h) (fun G A outer s H vs Q E hr h=>?_)
 refine⟨_,(aa (y7 rfl (aH.of (sc0:=(ak c7)) (tn:=["choice"]) (cap:=["line"]) (idx:=[3]) (by decide +kernel) rfl rfl) nG.nd rfl (by walk_at "o") (wil K (wix K (wfd K (pv 0)) (pv 1))) (iC.name nofun) (fun _ _ _ _ _=>bT (i:=0) (aM (l:=["choice","line"]) (by decide +kernel)) rfl (by walk_at "o") (by first|exact .inl rfl|exact .inr rfl)) (fun _ _ _ _ _=>iy (pc (Mg hr.units) (pv 0) (pv 1))) (fun _ _ _ _ _=>(pv 0))) (pr (az (bX (K:=K) rfl rfl) (by rfl) Z.sum_ boot_sum (p1 (wco (ak c7) "choice" ["self","done","left"] [0,1,2] (wil K (pv 4)) (fun _ _ _ _ _=>(iz (pv 1) Z.i_Tally.cl t.mt L (hr.mono nofun) t.bd .nil fL (p2 (aI eD (pv 2) ai) (wcc (cP Z) hr (p2 (pv 3) (pv 0))))))))))),pI (Γn:=[]) (N:=kF) (sq 4 (ER.es0 (Ee (aN (br (bw ["choices","known"] 0 Z.i_Tally.cl Z.n_Tally_choices (af 0)) (rv 1))) (ar 0) (tt NH (rv 0) (rv 1)) (rv 0))) (sr (aX mZ (a1 (EM.er (aK (aN (af 4)) (ar 0) (ic (C:=c.Tally) ["choices","known"] cV (rv 1) (a2 (ro cz (rv 2) ri) (rl bV (a2 (rv 3) (rv 0))))))))))) (fun ds P B=>?_) h⟩
 obtain ⟨j,chs,done,w,left,m,q,rfl,n,v,U,z,u,I,y⟩:=B
 rw[show bA kF [oP c j chs,.int done,dI left,dI m]=[some (oP c j chs),some (.int done),some (dI left),some (dI m),none] from rfl]
 have X:=n.1
 have M:=Am (x:=j[done]) u
 unfold oP
 symm
 refine jM (as:=Tal.aG j[done] w) (f:=dI) (g:=dI) (p:=fun l=>Tal.lx l m) (fun R h=>?_) () (fun r o R h=>?_) ?_
 .symm
  refine zy () () ?_
  rw[Oh,n.2 done (Ol _) q,getD_at q]
  exact h
 .have J:=(Tal.bG (Tal.aU.mp o).1).1
  rfl'
  refine⟨r,m,rfl,rfl,(),?_⟩
  cases e:Tal.lx r m
  .rw[e] at h;exact h
  .rw[e] at h;exact h
 .symm
  refine fP (as:=(Tal.aG j[done] w).filter fun l=>Tal.lx l m) (f:=dI) (g:=fun r=>.int (Tal.W (j.drop (done+1)) (Tal.sub left r))) (fun R h=>h) (by have:=Qf (fun l=>Tal.lx l m) (Tal.aG j[done] w);omega) (fun r o R h=>?_) ?_
  .have J:=(Tal.bG (Tal.aU.mp (O9.mp o).1).1).1
   rfl'
   refine⟨left,r,rfl,(),(),?_⟩
   rw[Tal.qd ()]
   refine⟨j,chs,done+1,w,_,rfl,n.up (Pk _),by rw[Tal.sub_len ()];exact v,z,u,I,q,(),?_⟩
   exact h
  .rw[dw]
   symm
   rw[Tal.A,v] at y
   exact y
def qe:DSp:=fun ds P=>∃xs ys:List D,ds=[.lst xs,.lst ys]/\xs.length<=5/\ys.length<=5/\P .non
theorem eY:aB qe:=by walk_at "M"
theorem iB(Z:Zk K mg ξ c):Ze P w K mg ξ 1 "check_size" lY jb (spP K qe):=by
 refine dJ jb Z.h_check_size (fun hr nd=>(aA (bc (PW.pt (fE (pc uk (wln K Z.len_ (pv 0)) (Er (v:=.int 5) rfl Z.MOST_COUNTED_.choose_spec ⟨_,rfl⟩)) (eA (pc uk (wln K Z.len_ (pv 1)) (Er (v:=.int 5) rfl Z.MOST_COUNTED_.choose_spec ⟨_,rfl⟩))))) (aA jL) aE))) (bf (fM (tt iF (rn (rv 0)) ri) (tt iF (rn (rv 1)) ri)) iE aF) fun ds P f=>?_
 obtain ⟨a,b,rfl,i,h,g⟩:=f
 ac_rfl
 symm
 rw[if_neg (),if_neg ()]
 exact g
def wu:DSp:=fun ds P=>∃c cols:aab,ds=[dI c,dI cols]/\1<=cols.length/\c.length<=5/\cols.length<=5/\P (.int (Tal.W c cols))
theorem xH:aB wu:=by walk_at "M"
theorem Bu(Z:Zk K mg ξ c):Ze P w K mg ξ 10 "count_of" p6 lN (spP K wu):=by
 obtain ⟨s,t,i⟩:=Z.h_Tally_ways
 have q:=ir (P:=P) (w:=w) i Z
 obtain ⟨r,d1,g⟩:=Z.h_Tally_init
 have p:=il (P:=P) (w:=w) g Z
 refine dJ lN Z.h_count_of (fun hr nd=>(aa (cy (wcc (iB Z) hr (p2 (pv 0) (pv 1)))) (pr (iz (oB g.mkk p (hr.mono nofun) rfl g.mg g.bd .nil fL (p2 (pv 0) (wln K Z.len_ (pv 1)))) Z.i_Tally.cl i.mt q (hr.mono nofun) i.bd .nil fL (p2 ai (pv 1)))))) (aj (qN (rl eY (a2 (rv 0) (rv 1)))) (sr (ic (C:=c.Tally) ["choices","known"] cV (EM.er (uQ eX gy (a2 (rv 0) (rn (rv 1))))) (a2 ri (rv 1))))) fun ds P m=>?_
 obtain ⟨f,cols,rfl,o,j,h,n⟩:=m
 ac_rfl
 symm
 refine⟨_,_,rfl,by rw[dz];exact j,by rw[dz];exact h,?_⟩
 symm
 refine⟨f,cols.length,rfl,h,(),?_⟩
 exact⟨⟨rfl,rfl⟩,f,_,0,cols.length,cols,rfl,uN,rfl,o,h,j,Pd _,(),n⟩
def eC(c cols:aab)(i:Nat)(ls:aaa):aab:=(List.range cols.length).map fun (k:Nat)=>(ls.map fun l=>Tal.W (Tal.wo c i) (Tal.sub cols l)*l.getD k 0).sum
theorem wW(h:k<cols.length):(eC rows cols i ls).getD k 0=(ls.map fun l=>Tal.W (Tal.wo rows i) (Tal.sub cols l)*l.getD k 0).sum:=by
 unfold eC
 rw[be,ox,O8 h];rfl
theorem De:(eC rows cols i ls).length=cols.length:=by unfold eC;rw[dz,Ot]
def iV(c:Cs):DSp:=fun ds P=>∃(f cols:aab) (i:Nat),ds=[dI f,dI cols,.int i]/\1<=cols.length/\cols.length<=5/\f.length<=5/\i<f.length/\P (dI (eC f cols i (Tal.aG (f.getD i 0) cols.length)))
theorem Nz(g:R.length<=5)(f:C.length<=5):(Tal.W R C).natAbs<2 ^ 26:=by
 have a:=Tal.dM (rs:=R) (left:=C)
 have b:=Tal.Mr (rs:=R) (left:=C)
 have c:((2:Int) ^ C.length) ^ R.length<=33554432:=by
  have d:((2:Nat) ^ C.length) ^ R.length<=33554432:=OC (Nat.pow_le_pow_left (Ql nofun f) _) (OC (Ql nofun g) nofun)
  have e:((2:Int) ^ C.length) ^ R.length=(((2 ^ C.length) ^ R.length:Nat):Int):=by rw[Int.natCast_pow,Int.natCast_pow];rfl
  rw[e]
  generalize (2 ^ C.length) ^ R.length=q at d
  omega
 have p:(2:Nat) ^ 26=67108864:=by decide
 rw[p]
 omega
theorem pY:aB (iV c):=by walk_at "M"
theorem sJ(Z:Zk K mg ξ c):Ze P w K mg ξ 10 "shares_in_row" eZ iO (spP K (iV c)):=by
 obtain ⟨O,Q,o⟩:=Z.h_Tally_init
 have H:=il (P:=P) (w:=w) o Z
 obtain ⟨L,d1,s⟩:=Z.h_Tally_ways
 have I:=ir (P:=P) (w:=w) s Z
 refine m3 (Γn:=[4]) uI Z.h_shares_in_row (fun hr nd=>(aa (wst 3 nd (oB o.mkk H (hr.mono nofun) rfl o.mg o.bd .nil fL (p2 (aI tJ (jJ (jX (K:=K) rfl) (pv 0) lO (l6 (pv 2))) (jJ (jX (K:=K) rfl) (pv 0) (l6 (aI eD (pv 2) ai)) lO)) (wln K Z.len_ (pv 1))))) (aa (wst 4 nd (aI Aq (bt (p1 ai)) (wln K Z.len_ (pv 1)))) (aa (wfo (wil K (wcc (px Z) hr (p2 (wix K (pv 0) (pv 2)) (wln K Z.len_ (pv 1))))) (wpg 5 nd) (aa (wst 6 nd (iz (pv 3) Z.i_Tally.cl s.mt I (hr.mono nofun) s.bd .nil fL (p2 ai (wcc (cP Z) hr (p2 (pv 1) (pv 5)))))) (aA (wst 4 nd (wco (ak eZ) "place" ["shares","line","ways"] [4,5,6] (aS rfl Z.range_ (p1 (wln K Z.len_ (pv 1)))) (fun _ _ _ _ _=>(aI eD (wix K (pv 1) (pv 0)) (aI AI (pv 3) (wix K (pv 2) (pv 0)))))))))) (pr (pv 4)))))) (sq 3 (EM.es (uQ eX gy (a2 (ro E8 (EM.er (v7 (rv 0) or_none (or_some (rv 2)))) (EM.er (v7 (rv 0) (or_some (ro cz (rv 2) ri)) or_none))) (rn (rv 1))))) (aj (ST.post (Γn:=[4]) (aQ (M:=[]) 4 (bY DQ (EM.er (bu (av ee aL))) (rn (rv 1))))) (aj (dH (aN (sl mH (a2 (rx (af 0) (rv 2)) (rn (rv 1))))) (ar 5) (aj (ST.post (Γn:=[4]) (aO 6 (EM.es (ic (C:=c.Tally) ["choices","known"] cV (rv 3) (a2 ri (rl bV (a2 (rv 1) (rv 5)))))))) (ST.post (Γn:=[4]) (aQ (M:=[]) 4 (aK (bJ (a1 (rn (rv 1)))) (ar 0) (bY cz (rx (af 1) (rv 0)) (ro bP (rv 3) (rx (af 2) (rv 0))))))))) (cD (M:=[4]) (dB 4))))) fun ds P y=>?_
 obtain ⟨m,cols,i,rfl,x,p,J,hi,B⟩:=y
 ac_rfl
 symm
 have c1:L3.cutD (m.map L3.D.int) none (some (i:Int))=(m.take i).map L3.D.int:=by rw[K5 (),Oh,QJ]
 have F:L3.cutD (m.map L3.D.int) (some ((i:Int)+1)) none=(m.drop (i+1)).map L3.D.int:=by rw[Gy () (by rw[dz];omega),show ((i:Int)+1).toNat=i+1 by omega,Qt]
 have lo:(Tal.wo m i).length=m.length - 1:=Tal.Hw hi
 rw[c1,F,MG]
 refine⟨⟨bh,bh,by simp;omega⟩,Tal.wo m i,cols.length,rfl,p,(),nofun,⟨rfl,⟨(),()⟩,()⟩,aD () ⟨_,cols.length,rfl,p,?_⟩⟩
 rw[Oh]
 refine cW (as:=Tal.aG (m.getD i 0) cols.length) (f:=dI) (fun j δ=>∃(r q:Option D),δ=[some (dI m),some (dI cols),some (.int i),some (tly c (Tal.wo m i) cols.length),some (dI (eC m cols i ((Tal.aG (m.getD i 0) cols.length).take j))),r,q]) ⟨none,none,?_⟩ ?_ ?_
 .rw[xm]
  have e:eC m cols i ((Tal.aG (m.getD i 0) cols.length).take 0)=List.replicate cols.length 0:=by
   unfold eC
   rw[List.take_zero]
   show (List.range cols.length).map (fun _=>(0:Int))=_
   rw[List.map_const',Ot]
  rw[e]
 .rintro j l δ N e ⟨r,q,rfl⟩ E
  have v:l∈Tal.aG (m.getD i 0) cols.length:=OV e
  have t:=(Tal.bG (Tal.aU.mp v).1).1
  have G:=(oe.mp e).1
  symm
  refine⟨⟨rfl,rfl⟩,cols,l,rfl,(),(),?_⟩
  rw[Tal.qd ()]
  refine⟨Tal.wo m i,_,0,cols.length,_,rfl,uN,Tal.sub_len t,x,p,(),Pd _,(),?_⟩
  rw[Pf]
  symm
  refine cL (lo:=0) (n:=cols.length) (g:=fun k=>.int ((eC m cols i ((Tal.aG (m.getD i 0) cols.length).take j)).getD k 0+Tal.W (Tal.wo m i) (Tal.sub cols l)*l.getD k 0)) (fun R h=>?_) () (fun k u R h=>?_) ?_
  .symm
   exact h
  .rfl'
   rw[OU]
   refine aD (by rw[De];omega) (aD () ?_)
   rfl'
   refine⟨⟨26,2,Nz () (by rw[Tal.sub_len t];omega),?_,nofun⟩,h⟩
   rcases Tal.eJ (k:=k) (Tal.aU.mp v).1 with z|z<;>rw[z]<;>decide
  .refine E _ ⟨some (dI l),some (.int (Tal.W (Tal.wo m i) (Tal.sub cols l))),?_⟩
   rw[dw]
   have es:(List.range cols.length).map (fun k=>(eC m cols i ((Tal.aG (m.getD i 0) cols.length).take j)).getD k 0+Tal.W (Tal.wo m i) (Tal.sub cols l)*l.getD k 0)=eC m cols i ((Tal.aG (m.getD i 0) cols.length).take (j+1)):=by
    conv=>rhs;unfold eC
    refine O7 fun k u=>?_
    rw[wW (OL.mp u),QG G,Ov,QP]
    rw[(oe.mp e).2]
    simp
   rw[es]
 .rintro δ ⟨r,q,rfl⟩
  symm
  rw[Qn]
  exact B
def uP(c cols:aab):aaa:=(List.range c.length).map fun (i:Nat)=>eC c cols i (Tal.aG (c.getD i 0) cols.length)
def uf:DSp:=fun ds P=>∃c cols:aab,ds=[dI c,dI cols]/\1<=cols.length/\c.length<=5/\cols.length<=5/\P (dT (uP c cols))
theorem v5:aB uf:=by walk_at "M"
theorem zd(Z:Zk K mg ξ c):Ze P w K mg ξ 11 "shares_of" j4 j6 (spP K uf):=by
 refine dJ j6 Z.h_shares_of (fun hr nd=>(aa (cy (wcc (iB Z) hr (p2 (pv 0) (pv 1)))) (pr (wco (ak j4) "row" ["rows","columns"] [0,1] (aS rfl Z.range_ (p1 (wln K Z.len_ (pv 0)))) (fun _ _ _ _ _=>(wcc (sJ Z) hr (p3 (pv 1) (pv 2) (pv 0)))))))) (aj (qN (rl eY (a2 (rv 0) (rv 1)))) (sr (aK (bJ (a1 (rn (rv 0)))) (ar 0) (aY (S:=iV c) pY (a3 (rv 1) (rv 2) (rv 0)))))) fun ds P o=>?_
 obtain ⟨f,cols,rfl,q,j,m,p⟩:=o
 ac_rfl
 symm
 refine⟨_,_,rfl,by rw[dz];exact j,by rw[dz];exact m,?_⟩
 symm
 refine cL (lo:=0) (n:=f.length) (g:=fun (i:Nat)=>dI (eC f cols i (Tal.aG (f.getD i 0) cols.length))) (fun R h=>?_) () (fun i hi R h=>?_) ?_
 .symm
  exact h
 .rfl'
  rw[OU]
  exact⟨f,cols,i,rfl,q,m,j,hi,h⟩
 .rw[zg]
  exact p
theorem JN:(turned m t).map List.sum=Tal.cols m t:=by
 unfold turned Tal.cols
 rw[OB];rfl
def tS:DSp:=fun ds P=>∃(t:aaa) (n m:Nat),ds=[dT t]/\aP n m t/\1<=n/\n<=5/\1<=m/\m<=5/\P (.int (Tal.N (t.map List.sum) (Tal.cols m t) t))
theorem xl:aB tS:=by walk_at "M"
theorem zJ(Z:Zk K mg ξ c):Ze P w K mg ξ 11 "number_of" nN mU (spP K tS):=by
 obtain ⟨R,T,h⟩:=Z.h_Tally_init
 have L:=il (P:=P) (w:=w) h Z
 obtain ⟨Q,d1,q⟩:=Z.h_Tally_ahead
 have J:=nZ (P:=P) (w:=w) q Z
 refine m3 (Γn:=[3]) BM Z.h_number_of (fun hr nd=>(aa (wst 1 nd (wcc (cS Z) hr (p1 (pv 0)))) (aa (cy (wcc (iB Z) hr (p2 (pv 0) (pv 1)))) (aa (wst 2 nd (oB h.mkk L (hr.mono nofun) rfl h.mg h.bd .nil fL (p2 (wcc (cU Z) hr (p1 (pv 0))) (wln K Z.len_ (pv 1))))) (aa (wst 3 nd ai) (aa (wfo (aS rfl Z.range_ (p1 (wln K Z.len_ (pv 0)))) (wpg 4 nd) (aa (wst 3 nd (aI eD (pv 3) (iz (pv 2) Z.i_Tally.cl q.mt J (hr.mono nofun) q.bd .nil fL (p3 (pv 4) (pv 1) (wix K (pv 0) (pv 4)))))) (aA (wst 1 nd (wcc (cP Z) hr (p2 (pv 1) (wix K (pv 0) (pv 4)))))))) (pr (pv 3)))))))) (sq 1 (sl cn (a1 (rv 0))) (aj (qN (rl eY (a2 (rv 0) (rv 1)))) (sq 2 (EM.es (uQ eX gy (a2 (rl cx (a1 (rv 0))) (rn (rv 1))))) (aj (ST.post (Γn:=[3]) (aQ (M:=[]) 3 ee)) (aj (dH (bJ (a1 (rn (rv 0)))) (ar 4) (aj (ST.post (Γn:=[3]) (aQ (M:=[]) 3 (bY cz (cN 3) (EM.er (ic (C:=c.Tally) ["choices","known"] g9 (rv 2) (a3 (rv 4) (rv 1) (rx (af 0) (rv 4)))))))) (ST.post (Γn:=[3]) (aO 1 (sl bV (a2 (rv 1) (rx (af 0) (rv 4)))))))) (cD (M:=[3]) (dB 3))))))) fun ds P F=>?_
 obtain ⟨t,n,m,rfl,o,n1,y,E,B,G⟩:=F
 have s:n<=5/\m<=5:=⟨y,B⟩
 ac_rfl
 have ht:=o.1
 symm
 refine⟨t,n,m,rfl,o,n1,(),(),?_⟩
 rw[JN]
 symm
 have r:(Tal.cols m t).length=m:=Tal.bz
 refine⟨_,_,rfl,by simp [ht];omega,by simp [r];omega,?_⟩
 symm
 refine⟨t,rfl,(),?_⟩
 rw[r]
 have O:(t.map List.sum).length=n:=by rw[dz];exact ht
 refine⟨t.map List.sum,m,rfl,s.2,(),?_⟩
 symm
 rw[ht]
 refine nR (lo:=0) (n:=n) (fun i δ=>∃(x:Int) (j:Option D),δ=[some (dT t),some (dI (Tal.cols m (t.drop i))),some (tly c (t.map List.sum) m),some (.int x),j]/\x+Tal.N ((t.map List.sum).drop i) (Tal.cols m (t.drop i)) (t.drop i)=Tal.N (t.map List.sum) (Tal.cols m t) t) ⟨0,none,rfl,by rw[Pf,Pf,OU]⟩ ?_ ?_
 .rintro i δ N hi ⟨x,j,rfl,f⟩ H
  have u:i<(t.map List.sum).length:=()
  have v:i<t.length:=()
  have er:rowAt t i=t[i]:=by show t.getD i []=_;rw[be,ab v];rfl
  have g:(rowAt t i).length=m:=o.row ()
  symm
  rw[OU]
  refine⟨⟨rfl,rfl⟩,bC () ?_⟩
  rw[Oh]
  refine⟨t.map List.sum,_,i,m,_,rowAt t i,u,rfl,uN,Tal.bz,g,E,s.2,(),?_⟩
  symm
  refine bC () ?_
  rw[Oh]
  refine⟨_,rowAt t i,rfl,by rw[Tal.bz,g],by rw[Tal.bz];omega,?_⟩
  rw[Tal.qd (by rw[Tal.bz,g])]
  have p:t.drop i=rowAt t i::t.drop (i+1):=by rw[er];exact Ou v
  have es:Tal.sub (Tal.cols m (t.drop i)) (rowAt t i)=Tal.cols m (t.drop (i+1)):=by rw[p];exact Tal.Ca g
  rw[es]
  refine H _ ⟨_,_,rfl,?_⟩
  rw[<- f]
  have I:Tal.N ((t.map List.sum).drop i) (Tal.cols m (t.drop i)) (t.drop i)=Tal.A (t.map List.sum)[i] ((t.map List.sum).drop (i+1)) (Tal.cols m (t.drop i)) (rowAt t i)+Tal.N ((t.map List.sum).drop (i+1)) (Tal.cols m (t.drop (i+1))) (t.drop (i+1)):=by
   rw[Ou u,<- es]
   conv=>lhs;rw[p]
   rw[Tal.N,<- p]
  rw[I]
  omega
 .rintro δ ⟨x,j,rfl,f⟩
  symm
  rw[Pe (),Pe ()] at f
  have z:Tal.N [] (Tal.cols m []) []=0:=rfl
  rw[z,QW] at f
  rw[f]
  exact G
theorem CB{t:aaa}:L3.D.bN (t.map dI)=t.map dI:=by
 rw[ia,OB]
 exact O7 fun r _=>wU
theorem Jq:(dT t).strip=dT t:=by rw[L3.D.strip,CB]
theorem pX:(oP c rows chs).strip=oP c rows (L3.D.bN chs):=by
 unfold oP
 rw[L3.D.strip,L3.D.bN,L3.D.bN,L3.D.bN,L3.D.strip,L3.D.strip]
theorem FT{c:aab}{w:Nat}:L3.D.bN (tN c w)=tN c w:=by
 unfold tN
 rw[ia,OB]
 exact O7 fun r _=>Jq
theorem GK{c:Cs}{f:aab}{w:Nat}:(tly c f w).strip=tly c f w:=by
 unfold tly
 rw[pX,FT]
theorem C4(h:Gv t ds):L3.D.bN ds=t.map dI:=by
 rw[ia]
 refine List.ext_getElem? fun m=>?_
 rw[ox,ox]
 cases e:t[m]? with
 |none =>
  have:ds[m]?=none:=by
   rw[List.getElem?_eq_none_iff] at e ⊢
   rw[h.1];exact e
  rw[this];rfl
 |some r =>
  obtain ⟨a,ha⟩:=h.2 m r e
  rw[ha]
  show some (L3.D.strip (.pin a (dI r)))=some (dI r)
  rw[L3.D.strip,wU]
def AY(i:Nat)(c:aab)(w:Nat)(chs:List D):Prop:=chs.length=c.length/\∀k,i<=k->k<c.length->∃ds:List D,chs[k]?=some (L3.D.lst ds)/\Gv (Tal.aG (c.getD k 0) w) ds
theorem AY.chs{i w:Nat}{c:aab}{chs:List D}(h:AY i c w chs):Chs i c w (L3.D.bN chs):=by
 refine⟨by rw[ia,dz];exact h.1,fun k j g=>?_⟩
 obtain ⟨ds,e,f⟩:=h.2 k j g
 rw[ia,ox,e]
 show some (L3.D.strip (.lst ds))=_
 rw[L3.D.strip,C4 f]
theorem AY.cut{i w:Nat}{c:aab}{chs:List D}{v:V}(h:AY i c w chs):AY (i+1) c w (chs.set i (.raw v)):=by
 refine⟨by rw[OS];exact h.1,fun k g f=>?_⟩
 rw[Gc ()]
 exact h.2 k () f
theorem AY.of{c:aab}{w:Nat}{chs:List D}(h:MD (c.map fun r=>Tal.aG r w) chs):AY 0 c w chs:=by
 refine⟨by rw[h.1,dz],fun k _ f=>?_⟩
 exact h.2 k _ (by rw[ox,ab f,getD_at f];rfl)
def toL:D->aab
 |.pin _ (.lst ds)=>ds.map fun z=>match z with|.int i=>i|_=>0
 |_=>[]
theorem zM:toL (.pin a (dI r))=r:=by
 show (r.map L3.D.int).map _=r
 rw[OB];exact QM r
theorem p8{q:aab->Bool}:∀{t:aaa}{ds:List D}{pre:aaa}{x:aab},Gv t ds->t.filter q=pre++[x]->∃(c:List D) (a:Addr) (m:Nat),ds.filter (fun d=>q (toL d))=c++[L3.D.pin a (dI x)]/\ds[m]?=some (L3.D.pin a (dI x))
 |[],ds,pre,x,h,e=>by simp at e
 |r::t,[],pre,x,h,e=>by have:=h.1;simp at this
 |r::t,d::ds,pre,x,h,e=>by
  obtain ⟨a,ha⟩:=h.2 0 r rfl
  have ha:d=.pin a (dI r):=by simpa using ha
  subst ha
  have h':Gv t ds:=⟨by have:=h.1;simpa using this,fun m o s=>h.2 (m+1) o s⟩
  rw[P6] at e ⊢
  rw[zM]
  by_cases i:q r=true
  .rw[if_pos i] at e ⊢
   cases pre with
   |nil =>
    have e2:r=x/\t.filter q=[]:=by simpa using e
    obtain ⟨rfl,j⟩:=e2
    refine⟨[],a,0,?_,rfl⟩
    have:ds.filter (fun d=>q (toL d))=[]:=by
     rw[Pp] at j ⊢
     intro d hd
     obtain ⟨m,hm,rfl⟩:=PB hd
     have n:m<t.length:=by rw[<- h'.1];exact hm
     obtain ⟨b,hb⟩:=h'.2 m t[m] (ab n)
     rw[ab hm] at hb
     rw[OJ hb,zM]
     exact j _ (ON n)
    rw[this];rfl
   |cons p pre =>
    have e2:r=p/\t.filter q=pre++[x]:=by simpa using e
    obtain ⟨c,b,m,g,f⟩:=p8 h' e2.2
    exact⟨.pin a (dI r)::c,b,m+1,by rw[g];rfl,by simpa using f⟩
  .rw[if_neg i] at e ⊢
   obtain ⟨c,b,m,g,f⟩:=p8 h' e
   exact⟨c,b,m+1,g,by simpa using f⟩
def yl:DSp:=fun ds P=>∃(c cols:aab) (n:Int),ds=[dI c,dI cols,.int n]/\c.length<=5/\1<=cols.length/\cols.length<=5/\0<=n/\n<Tal.W c cols/\∀T,Tal.Ok c cols T->Tal.N c cols T=n->P (dT T)
theorem qp:aB yl:=by walk_at "M"
theorem vh(Z:Zk K mg ξ c):Ze P w K mg ξ 11 "ones_at" oq rY (spP K yl):=by
 obtain ⟨f0,d0,H⟩:=Z.h_Tally_init
 have PX:=il (P:=P) (w:=w) H Z
 obtain ⟨f1,d1,F⟩:=Z.h_Tally_ahead
 have Qm:=nZ (P:=P) (w:=w) F Z
 obtain ⟨f2,d2,Q⟩:=Z.h_Tally_ways
 have PF:=ir (P:=P) (w:=w) Q Z
 refine m3 (Γn:=[5,3]) Gj Z.h_ones_at (fun hr nd=>(aa (cy (wcc (iB Z) hr (p2 (pv 0) (pv 1)))) (aa (wst 3 nd (oB H.mkk PX (hr.mono nofun) rfl H.mg H.bd .nil fL (p2 (pv 0) (wln K Z.len_ (pv 1))))) (aa (bc (PW.pt (fE (dm (cJ (wcc (As Z) hr (p1 (pv 2))))) (eA (dm (BX Cd ph ai (pv 2) (iz (pv 3) Z.i_Tally.cl Q.mt PF (hr.mono nofun) Q.bd .nil fL (p2 ai (pv 1)))))))) (aA jL) aE) (aa (wst 4 nd (pv 1)) (aa (wst 5 nd (bt cK)) (aa (wfo (aS rfl Z.range_ (p1 (wln K Z.len_ (pv 0)))) (wpg 6 nd) (aa (wst 7 nd (wix K (ja rfl (aH.of (sc0:=(ak oq)) (tn:=["choice"]) (cap:=["number","tally","left","done"]) (idx:=[2,3,4,6]) (by decide +kernel) rfl rfl) (wil K (wix K (wfd K (pv 3)) (pv 6))) (iC.name nofun) (fun _ _ _ _ _=>bT (i:=0) (aM (l:=["choice","number","tally","left","done"]) (by decide +kernel)) rfl (by walk_at "o") (by first|exact .inl rfl|exact .inr rfl)) (fun _ _ _ _ _=>iy (pc Cd (iz (pv 2) Z.i_Tally.cl F.mt Qm (hr.mono nofun) F.bd .nil fL (p3 (pv 4) (pv 3) (pv 0))) (pv 1))) (fun _ _ _ _ _=>(pv 0)) (by intro _;rfl)) (ED Az ai))) (aa (wst 2 nd (aI iR (pv 2) (iz (pv 3) Z.i_Tally.cl F.mt Qm (hr.mono nofun) F.bd .nil fL (p3 (pv 6) (pv 4) (pv 7))))) (aa (wst 4 nd (wcc (cP Z) hr (p2 (pv 4) (pv 7)))) (aA (cy (lC OO O4 O3 cZ (pv 5) (p1 (pv 7))))))))) (pr (pv 5))))))))) (aj (qN (rl eY (a2 (rv 0) (rv 1)))) (aj (ST.post (Γn:=[3]) (aQ (M:=[]) 3 (uQ eX gy (a2 (rv 0) (rn (rv 1)))))) (aj (bf (fM (df (kL (rl xC (a1 (rv 2))))) (df (qo (EM.er (nD iF iF ri (rv 2) (EM.er (ic (C:=c.Tally) ["choices","known"] cV (ER.strip (cN 3)) (a2 ri (rv 1))))))))) iE aF) (aj (ST.post (Γn:=[3]) (aO 4 (af 1))) (aj (ST.post (Γn:=[5,3]) (aQ (M:=[]) 5 (bu aL))) (aj (JM 3 (dH (bJ (a1 (rn (rv 0)))) (ar 6) (aj (ST.post (Γn:=[5,3]) (aO 7 (EM.es (ER.rawOf (C1 (Ee (aN (br (bw ["choices","known"] 0 Z.i_Tally.cl Z.n_Tally_choices (af 3)) (rv 6))) (ar 0) (tt iF (EM.er (ic (C:=c.Tally) ["choices","known"] g9 (ER.strip (rv 2)) (a3 (rv 4) (rv 3) (ER.strip (rv 0))))) (rv 1)) (rv 0)) (EM.er (E6 D7 ri))))))) (aj (ST.post (Γn:=[5,3]) (aO 2 (EM.es (bY cz (rv 2) (EM.er (ic (C:=c.Tally) ["choices","known"] g9 (ER.strip (cN 3)) (a3 (rv 6) (rv 4) (I0 7 3)))))))) (aj (ST.post (Γn:=[5,3]) (aO 4 (sl bV (a2 (rv 4) (I0 7 3))))) (JT 5 7 3)))))) (cD (M:=[5]) (dB 5)))))))) fun ds P hS=>?_
 obtain ⟨o,cols,n,rfl,G,c1,v,h0,h1,hP⟩:=hS
 ac_rfl
 symm
 refine⟨_,_,rfl,by rw[dz];exact G,by rw[dz];exact v,?_⟩
 refine⟨o,cols.length,rfl,v,(),?_⟩
 dsimp only
 rw[GK]
 refine⟨_,rfl,rfl,?_⟩
 symm
 rw[if_pos h0]
 refine⟨⟨rfl,rfl⟩,o,_,0,cols.length,cols,rfl,uN,rfl,c1,v,G,Pd _,(),?_⟩
 rw[Pf]
 symm
 rw[if_neg (fun z=>z h1)]
 refine⟨nofun,c.Tally,[Str.ofString "choices",Str.ofString "known"],o.map fun r=>Tal.aG r cols.length,[.mem (Phi o)],?_,fun chs y=>?_⟩
 .show some (some (tly c o cols.length))=_
  unfold tly oP tN
  rw[OB];rfl
 have s:=AY.of y
 symm
 refine nR (lo:=0) (n:=o.length) (fun i δ=>∃(m:Int) (left:aab) (tbl:aaa) (chs:List D) (I:Option D),δ=[some (dI o),some (dI cols),some (.int m),some (oP c o chs),some (dI left),some (dT tbl),I,none]/\left.length=cols.length/\tbl.length=i/\AY i o cols.length chs/\0<=m/\m<Tal.W (o.drop i) left/\∀T,Tal.Ok (o.drop i) left T->Tal.N (o.drop i) left T=m->Tal.Ok o cols (tbl++T)/\Tal.N o cols (tbl++T)=n) ⟨n,cols,[],chs,none,rfl,rfl,rfl,s,h0,h1,fun T a b=>⟨a,b⟩⟩ ?_ ?_
 .rintro i δ N hi ⟨m,left,tbl,chs,I,rfl,u,lt,s,X,t,B⟩ hN
  obtain ⟨ds,L,y⟩:=s.2 i (Ol _) hi
  have ea:o.drop i=o.getD i 0::o.drop (i+1):=by rw[getD_at hi];exact Ou hi
  rw[ea] at t B
  obtain ⟨pre,x,ex,J,k1,k2⟩:=Tal.Ka X t
  rw[u] at ex J
  obtain ⟨E,a,U,ef,em⟩:=p8 y ex
  have lx:x.length=cols.length:=(Tal.bG (Tal.aU.mp J).1).1
  have ld:=y.1
  have l5:=Am (x:=o.getD i 0) v
  have lc:=s.1
  symm
  refine jM (as:=ds) (f:=fun d=>d) (g:=fun d=>d) (p:=fun d=>decide (Tal.A (o.getD i 0) (o.drop (i+1)) left (toL d)<=m)) (fun R h=>?_) () (fun d hd R h=>?_) ?_
  .unfold oP
   symm
   rw[OU]
   refine zy () () ?_
   rw[Oh,L]
   rw[List.map_id'] at h
   exact h
  .obtain ⟨j,hj,rfl⟩:=PB hd
   have YG:j<(Tal.aG (o.getD i 0) cols.length).length:=()
   obtain ⟨b,hb⟩:=y.2 j _ (ab YG)
   have hr:=(Tal.bG (Tal.aU.mp (ON YG)).1).1
   generalize (Tal.aG (o.getD i 0) cols.length)[j]=r at hb hr
   rw[ab hj] at hb
   rw[OJ hb] at h ⊢
   rw[zM] at h
   rfl'
   rw[OU,pX]
   refine⟨⟨rfl,rfl⟩,o,L3.D.bN chs,i,cols.length,left,r,hi,?_,s.chs,u,hr,c1,v,G,?_⟩
   .rw[L3.D.strip,wU]
   .rw[<- getD_at hi]
    rfl'
    by_cases q:Tal.A (o.getD i 0) (o.drop (i+1)) left r<=m
    .rw[if_pos q]
     rw[decide_eq_true q] at h
     exact h
    .rw[if_neg q]
     rw[decide_eq_false q] at h
     exact h
  .rw[List.map_id',ef]
   have al:atI (E++[L3.D.pin a (dI x)]) (-1)=some (L3.D.pin a (dI x)):=by
    unfold atI
    have:ixN (E++[L3.D.pin a (dI x)]).length (-1)=some E.length:=by
     unfold ixN
     rw[Ox,PY,if_neg (),if_pos ()]
     congr 1;omega
    rw[this]
    show (E++[L3.D.pin a (dI x)])[E.length]?=_
    rw[OI (Ol _),QU];rfl
   refine (xf al).mpr ⟨a,dI x,rfl,?_⟩
   rw[OU,pX]
   refine⟨⟨rfl,rfl⟩,?_⟩
   have Yc:∀(e2 e4:Option D) (O:DK),O (dI x)->Nl 7 3 [some (dI o),some (dI cols),e2,some (oP c o chs),e4,some (dT tbl),some (L3.D.int (i:Int)),some (L3.D.raw (V.ref a))] O:=fun e2 e4 O z=>⟨a,c.Tally,_,chs,[.mem (Phi o)],i,ds,U,dI x,rfl,rfl,L,em,z⟩
   refine Yc _ _ _ ?_
   refine⟨o,L3.D.bN chs,i,cols.length,left,x,hi,rfl,s.chs,u,lx,c1,v,G,?_⟩
   rw[<- getD_at hi]
   symm
   refine Yc _ _ _ ?_
   refine⟨left,x,rfl,(),(),?_⟩
   rw[Tal.qd ()]
   refine⟨tbl.map dI,c.Tally,_,chs,[.mem (Phi o)],i,ds,U,a,dI x,rfl,by rw[dz];omega,rfl,rfl,L,em,fun w=>?_⟩
   refine hN _ ⟨m - Tal.A (o.getD i 0) (o.drop (i+1)) left x,Tal.sub left x,tbl++[x],chs.set i (.raw w),some (.int (i:Int)),?_,by rw[Tal.sub_len ()];exact u,by rw[Ox,lt];rfl,s.cut,(),(),fun T q1 q2=>?_⟩
   .rw[IW];rfl
   .have q:=B (x::T) ⟨by rw[u];exact J,q1⟩ (by rw[Tal.N,q2];omega)
    rw[OM]
    exact q
 .rintro δ ⟨m,left,tbl,chs,I,rfl,u,lt,s,X,t,B⟩
  symm
  rw[Pe (Ol _)] at t B
  have Y:∀x∈left,x=0:=by
   rw[Tal.W] at t
   by_cases z:∀x∈left,x=0
   .exact z
   .rw[if_neg z] at t;omega
  rw[Tal.W,if_pos Y] at t
  have q:=B [] Y (by show (0:Int)=m;omega)
  rw[Pb] at q
  exact hP tbl q.1 q.2
def kI:DSp:=fun ds P=>∃(ns:aab) (j:Nat),ds=[.scr ns,.int j]/\P (.int (ns.getD j 0))
theorem EZ{ns:aab}{x:Int}{P:DK}(c:0<=x)(h:P (.int (ns.getD x.toNat 0))):kI [.scr ns,.int x] P:=⟨ns,x.toNat,by rw[Int.toNat_of_nonneg c],h⟩
theorem lG:aB kI:=by walk_at "M"
theorem nz(Z:Zk K mg ξ c):Ze P w K mg ξ 1 "_law_cell_at" kB ig (spP K kI):=by
 refine dJ ig Z.h_law_cell_at (fun hr nd=>(aa (bc (pc ph (pv 1) (wln K Z.len_ (pv 0))) (pr (wix K (pv 0) (pv 1))) aE) (pr ai))) (aj (bf (tt iF (rv 1) (rn (rv 0))) (sr (ER.ax (rx (af 0) (rv 1)))) aF) (sr ee)) fun ds P g=>?_
 obtain ⟨ns,j,rfl,f⟩:=g
 ac_rfl
 ac_nf
 split
 .rename_i c
  rw[Ls () c,GW,Oh]
  exact⟨rfl,f⟩
 .rename_i c
  have e:ns.getD j 0=0:=by rw[be,List.getElem?_eq_none ()];rfl
  rw[e] at f
  exact f
def tM:DSp:=fun ds P=>∃i,ds=[.int i]/\P (.bl true)
theorem gj:aB tM:=by walk_at "M"
theorem jg(Z:Zk K mg ξ c):Ze P w K mg ξ 1 "_law_whole" mX kl (spP K tM):=by
 refine dJ kl Z.h_law_whole (fun hr nd=>(pr (pG (az (cq (K:=K) rfl) (by rfl) Z.isinstance_ boot_isinstance (p2 (pv 0) (kg (v:=.ty "int") rfl Z.int_ boot_int rfl))) (vt (HH (az (cq (K:=K) rfl) (by rfl) Z.isinstance_ boot_isinstance (p2 (pv 0) (kg (v:=.ty "bool") rfl Z.bool_ boot_bool rfl)))))))) (sr (l4 (EM.er (fJ Em (rv 0))) (Fs (EM.er (fJ Bz (rv 0)))))) fun ds P f=>?_
 obtain ⟨i,rfl,g⟩:=f
 ac_rfl
 ac_nf
 exact g
def tU:DSp:=fun ds P=>∃(ns:aab) (x:Int),ds=[.scr ns,.int x]/\ns.length<=63/\0<=x/\x<2 ^ 60/\∀y:Int,0<=y->P (.int y)
theorem jw:aB tU:=by walk_at "M"
theorem mr(Z:Zk K mg ξ c):Ze P w K mg ξ 1 "_law_mixed" m6 mW (spP K tU):=by
 refine dJ BH Z.h_law_mixed (fun hr nd=>(aa (wfo (wil K (pv 0)) (wpg 2 nd) (aA (wst 1 nd (aI g8 (aI eD (aI AI (pv 1) ai) (pv 2)) (aI eD (aI MM ai ai) ai))))) (pr (pv 1)))) (aj (dH (aN (af 0)) (ar 2) (ST.post (Γn:=[]) (aO 1 (EM.es (bY bP (ro cz (ro bP (rv 1) ri) (rv 2)) (ro cz (ro bP ri ri) ri)))))) (sr (ER.ax (rv 1)))) fun ds P m=>?_
 obtain ⟨ns,x,rfl,r,g,j,p⟩:=m
 ac_rfl
 ac_nf
 refine cW (as:=ns) (f:=L3.D.int) (fun i δ=>∃(y:Int) (o:Option D),δ=[some (.scr ns),some (.int y),o]/\0<=y/\y<2 ^ 60) ⟨x,none,rfl,g,j⟩ ?_ ?_
 .rintro i a δ N e ⟨y,o,rfl,g,j⟩ q
  symm
  have h:=emod_lt (x:=y*48271+a) (n:=1000000000000000009) nofun
  exact q _ ⟨_,_,rfl,h.1,by have:=h.2;omega⟩
 .rintro δ ⟨y,o,rfl,g,j⟩
  ac_nf
  exact p y g
theorem FN{c:Type}{as:List c}{f:c->D}:L3.cutD (as.map f) (some 1) none=(as.drop 1).map f:=by
 unfold L3.cutD
 rw[dz,HT.mY,show (some (1:Int))=some ((1:Nat):Int) from rfl,HT.qf,Qt]
 rcases P9 as.length 1 with h|h
 .have:as=[]:=List.length_eq_zero_iff.mp ()
  subst this;rfl
 .rw[Qy h,Po (by rw[Pg,dz];exact Ol _)]
theorem HA(f:x=0\/x=1):jZ n m ((List.range n).map fun _=>List.replicate m x):=⟨⟨by rw[dz,Ot],fun r hr=>by
 obtain ⟨_,_,rfl⟩:=Oo.mp hr
 exact OH⟩,fun r hr y c=>by
 obtain ⟨_,_,rfl⟩:=Oo.mp hr
 rw[(List.mem_replicate.mp c).2];exact f⟩
theorem JY:xI [L3.D.int x] m=(List.replicate m x).map L3.D.int:=by
 unfold xI
 rw[List.map_replicate]
 induction m with
 |zero=>rfl
 |succ m ih=>rw[Pr,Pr,Qj,ih];rfl
def pk:DSp:=fun ds P=>∃(ns:aab) (n m:Nat),ds=[.scr ns,.int (n:Int),.int (m:Int)]/\ns.length<=63/\1<=n/\n<=8/\1<=m/\m<=8/\∀t:aaa,jZ n m t->P (dT t)
theorem tw:aB pk:=by walk_at "M"
theorem vA(Z:Zk K mg ξ c):Ze P w K mg ξ 2 "_law_flipped" ix kS (spP K pk):=by
 refine m3 (Γn:=[3]) xY Z.h_law_flipped (fun hr nd=>(aa (wb (i:=3) (aH.of (sc0:=(ak ix)) (tn:=["_law_row"]) (cap:=["_law_script","_law_wide"]) (idx:=[0,2]) (by decide +kernel) rfl rfl) nd rfl (by walk_at "o") (aS rfl Z.range_ (p1 (pv 1))) (iC.name nofun) (fun _ _ _ _ _=>bT (i:=0) (aM (l:=["_law_row","_law_script","_law_wide"]) (by decide +kernel)) rfl (by walk_at "o") (by first|exact .inl rfl|exact .inr rfl)) (fun _ _ _ _ _=>(aI Aq (bt (p1 (aI g8 (aI jE (wcc (nz Z) hr (p2 (pv 1) ai)) ai) ai))) (pv 2)))) (aa (wfo (wil K (jJ (jX (K:=K) rfl) (pv 0) (l6 ai) lO)) (wpg 4 nd) (aa (wst 5 nd (wix K (pv 3) (aI g8 (pv 4) (pv 1)))) (aa (wst 6 nd (aI g8 (aI jE (pv 4) (pv 1)) (pv 2))) (aA (gW (aI iR ai (wix K (pv 5) (pv 6))) (jT (pv 5) (pv 6) set_list)))))) (pr (pv 3))))) (aj (ST.post (Γn:=[3]) (aQ (M:=[]) 3 (aK (bJ (a1 (rv 1))) (ar 0) (bY DQ (EM.er (bu (av (bY bP (ro bP (rl lG (a2 (rv 1) ri)) ri) ri) aL))) (rv 2))))) (aj (dH (aN (EM.es (v7 (rv 0) (or_some ri) or_none))) (ar 4) (BJ 3 5 (ro bP (rv 4) (rv 1)) (JR (K1 6 (ro bP (ro bP (rv 4) (rv 1)) (rv 2))) (D0 (ro cz ri (rx (af 5) (rv 6))) (rv 6))))) (cD (M:=[3]) (dB 3)))) fun ds P B=>?_
 obtain ⟨ns,n,m,rfl,O,n1,H,J,I,C⟩:=B
 ac_rfl
 obtain ⟨x,u⟩:∃x,ns.getD (0:Int).toNat 0=x:=⟨_,rfl⟩
 have G:=emod_lt (x:=x / 64) (n:=2) ()
 refine b7 fun F e1=>?_
 symm
 refine cL (lo:=0) (n:=n) (g:=fun (_:Nat)=>dI (List.replicate m (x / 64 % 2))) (fun R h=>?_) () (fun i hi R h=>?_) ?_
 .symm
  exact h
 .rfl'
  refine EZ () ?_
  rw[u]
  rfl'
  rw[JY]
  first|exact h|exact⟨rfl,h⟩|exact⟨⟨rfl,(),()⟩,h⟩
 rw[zg]
 symm
 subst e1
 refine b7 fun F e1=>?_
 symm
 rw[FN]
 refine cW (as:=ns.drop 1) (f:=L3.D.int) (fun i δ=>∃(t:aaa) (s o:Option D),δ=[some (.scr ns),some (.int (n:Int)),some (.int (m:Int)),some (dT t),s,none,o]/\jZ n m t) ⟨_,none,none,rfl,HA ()⟩ ?_ ?_
 .rintro i b δ N e ⟨t,s,o,rfl,j⟩ E
  have lt:=j.1.1
  have a1:=emod_lt (x:=b) (n:=(n:Int)) ()
  have a2:=emod_lt (x:=b / n) (n:=(m:Int)) ()
  obtain ⟨p,z⟩:∃p:Nat,b % (n:Int)=p:=⟨(b % (n:Int)).toNat,()⟩
  obtain ⟨q,y⟩:∃q:Nat,b / (n:Int) % m=q:=⟨(b / (n:Int) % m).toNat,()⟩
  have L:=j.1.row (i:=p) ()
  have Q:=j.cell (a:=p) (b:=q) () ()
  ac_nf
  refine yf (t:=t) (a:=(p:Int)) rfl (fun R h=>?_) (by simp only[H0,PQ,OS];omega) () ?_
  .symm
   rw[z]
   exact h
  rw[Oh]
  symm
  rw[y]
  refine Aw (t:=t) (r:=rowAt t p) (b:=q) (v:=1 - cellAt t p q) rfl rfl (fun R h=>?_) (fun R h=>?_) () ?_
  .symm
   refine aD () ?_
   rw[Oh]
   symm
   exact h
  .symm
   exact h
  symm
  exact E _ ⟨_,_,_,rfl,j.set (a:=p) (b:=q) (v:=1 - cellAt t p q) () ()⟩
 .rintro δ ⟨t,s,o,rfl,j⟩
  subst e1
  symm
  exact C t j
def rA:DSp:=fun ds P=>∃t:aaa,ds=[dT t]/\t.length<=1000/\P (dI (t.map List.sum))
theorem iU:aB rA:=by walk_at "M"
theorem kD(Z:Zk K mg ξ c):Ze P w K mg ξ 1 "_law_across" jc ji (spP K rA):=by
 refine dJ ji Z.h_law_across (fun hr nd=>(pr (wco (ak jc) "_law_row" [] [] (wil K (pv 0)) (fun _ _ _ _ _=>(az (bX (K:=K) rfl rfl) (by rfl) Z.sum_ boot_sum (p1 (pv 0))))))) (sr (aK (aN (af 0)) (ar 0) (aX mZ (a1 (rv 0))))) fun ds P i=>?_
 obtain ⟨t,rfl,f,j⟩:=i
 ac_rfl
 ac_nf
 refine kZ (t:=t) (g:=fun r=>.int r.sum) (fun R h=>h) f (fun r hr R h=>?_) ?_
 .rfl'
  exact h
 .rw[dw];exact j
def vv:DSp:=fun ds P=>∃(t:aaa) (n m:Nat),ds=[dT t]/\aP n m t/\1<=n/\n<=1000/\m<=1000/\P (dI (Tal.cols m t))
theorem kC:aB vv:=by walk_at "M"
theorem nF(Z:Zk K mg ξ c):Ze P w K mg ξ 1 "_law_down" jY lX (spP K vv):=by
 refine dJ lX Z.h_law_down (fun hr nd=>(pr (wco (ak jY) "_law_k" ["_law_ones"] [0] (aS rfl Z.range_ (p1 (wln K Z.len_ (wix K (pv 0) ai)))) (fun _ _ _ _ _=>(az (bX (K:=K) rfl rfl) (by rfl) Z.sum_ boot_sum (p1 (rJ (aH.of (sc0:=(vY _ (ak jY))) (tn:=["_law_row"]) (cap:=["_law_k"]) (idx:=[0]) (by decide +kernel) rfl rfl) (wil K (pv 1)) (iC.name nofun) (fun _ _ _ _ _=>bT (i:=0) (aM (l:=["_law_row","_law_k"]) (by decide +kernel)) rfl (by walk_at "o") (by first|exact .inl rfl|exact .inr rfl)) (fun _ _ _ _ _=>(wix K (pv 0) (pv 1)))))))))) (sr (aK (bJ (a1 (rn (rx (af 0) ri)))) (ar 0) (aX mZ (a1 (EM.er (aK (aN (af 1)) (ar 0) (ER.ax (rx (af 0) (rv 1))))))))) fun ds P o=>?_
 obtain ⟨t,n,m,rfl,f,n1,n9,j,p⟩:=o
 have l1:=f.1
 have l2:=f.row (i:=0) ()
 ac_rfl
 ac_nf
 refine cL (lo:=0) (n:=m) (g:=fun (k:Nat)=>.int (t.map fun r=>r.getD k 0).sum) (fun R h=>?_) j (fun k q R h=>?_) ?_
 .symm
  refine bC () ?_
  symm
  rw[l2]
  first|exact h|exact⟨(),h⟩
 .rfl'
  rw[OU]
  refine kZ (t:=t) (g:=fun r=>.int (r.getD k 0)) (fun R h=>h) () (fun r hr R h=>?_) ?_
  .have:=f.2 r hr
   rfl'
   refine aD () ?_
   rw[Oh]
   first|exact⟨rfl,h⟩|exact h
  rw[dw]
  rfl'
  exact h
 .rw[dw];exact p
def oX:DSp:=fun ds P=>∃(t:aaa) (n m:Nat),ds=[dT t,.int n,.int m]/\jZ n m t/\m<=8/\P (.bl true)
theorem tG:aB oX:=by walk_at "M"
theorem vc(Z:Zk K mg ξ c):Ze P w K mg ξ 2 "_law_is_ones" iq kG (spP K oX):=by
 refine dJ xJ Z.h_law_is_ones (fun hr nd=>(aa (bc (PW.pt (fE (dm (cJ (az (cq (K:=K) rfl) (by rfl) Z.isinstance_ boot_isinstance (p2 (pv 0) (kg (v:=.ty "list") rfl Z.list_ boot_list rfl))))) (eA (pc pq (wln K Z.len_ (pv 0)) (pv 1))))) (pr iZ) aE) (aa (wfo (wil K (pv 0)) (wpg 3 nd) (aa (bc (PW.pt (fE (dm (cJ (az (cq (K:=K) rfl) (by rfl) Z.isinstance_ boot_isinstance (p2 (pv 3) (kg (v:=.ty "list") rfl Z.list_ boot_list rfl))))) (eA (pc pq (wln K Z.len_ (pv 3)) (pv 2))))) (pr iZ) aE) (aA (bc (pc pq (wln K Z.len_ (ja rfl (aH.of (sc0:=(ak iq)) (tn:=["_law_number"]) (cap:=[]) (idx:=[]) (by decide +kernel) rfl rfl) (wil K (pv 3)) (iC.name nofun) (fun _ _ _ _ _=>bT (i:=0) (aM (l:=["_law_number"]) (by decide +kernel)) rfl (by walk_at "o") (by first|exact .inl rfl|exact .inr rfl)) (fun _ _ _ _ _=>iy (PW.pt (Ae (cJ (wcc (jg Z) hr (p1 (pv 0)))) (uT (BX Cd Cd ai (pv 0) ai))))) (fun _ _ _ _ _=>(pv 0)) (by intro _;rfl))) (pv 2)) (pr iZ) aE)))) (pr iZ)))) (aj (bf (fM (df (kL (EM.er (fJ wX (rv 0))))) (tt xE (rn (rv 0)) (rv 1))) (sr jP) aF) (aj (dH (aN (af 0)) (ar 3) (aj (bf (fM (df (kL (EM.er (fJ wX (rv 3))))) (tt xE (rn (rv 3)) (rv 2))) (sr jP) aF) (bf (tt xE (rn (EM.er (j8 (aN (af 3)) (ar 0) (Au (kL (rl gj (a1 (rv 0)))) (qo (EM.er (nD iF iF ri (rv 0) ri)))) (ER.ax (rv 0))))) (rv 2)) (sr jP) aF))) (sr jP))) fun ds P y=>?_
 obtain ⟨t,n,m,rfl,j,s,B⟩:=y
 ac_rfl
 have u:=j.1.1
 ac_nf
 rw[if_neg (fun z=>z (by rw[u]))]
 refine cW (as:=t) (f:=dI) (fun i δ=>∃o:Option D,δ=[some (dT t),some (.int n),some (.int m),o]) ⟨none,rfl⟩ ?_ ?_
 .rintro i r δ N e ⟨o,rfl⟩ C
  have hr:r∈t:=OV e
  have p:=j.1.2 r hr
  ac_nf
  rw[p,if_neg (fun z=>z rfl)]
  refine Ge (ns:=r) (g:=fun x=>.int x) (fun R h=>h) () (fun x q R h=>?_) ?_
  .rfl'
   refine⟨x,rfl,?_⟩
   rfl'
   have:=j.2 r hr x q
   rw[if_pos ()]
   rfl'
   rw[if_pos ()]
   exact h
  rw[dw]
  ac_nf
  rw[p,if_neg (fun z=>z rfl)]
  exact C _ ⟨_,rfl⟩
 .rintro δ ⟨o,rfl⟩
  ac_nf
  exact B
def yC:DSp:=fun ds P=>∃(t:aaa) (n m:Nat) (i j k l:Int),ds=[dT t,dW i j k l]/\aP n m t/\1<=n/\n<=8/\1<=m/\m<=8/\cI n m t i j k l/\P (.bl true)
theorem zi:aB yC:=by walk_at "M"
theorem Ds(Z:Zk K mg ξ c):Ze P w K mg ξ 2 "_law_can" oG sY (spP K yC):=by
 refine dJ FR Z.h_law_can (fun hr nd=>(aa (bc (PW.pt (fE (dm (cJ (az (cq (K:=K) rfl) (by rfl) Z.isinstance_ boot_isinstance (p2 (pv 1) (kg (v:=.ty "tuple") rfl Z.tuple_ boot_tuple rfl))))) (fE (pc pq (wln K Z.len_ (pv 1)) ai) (eA (pc pq (wln K Z.len_ (ja rfl (aH.of (sc0:=(ak oG)) (tn:=["_law_one"]) (cap:=[]) (idx:=[]) (by decide +kernel) rfl rfl) (J6 (K:=K) rfl (pv 1)) (iC.name nofun) (fun _ _ _ _ _=>bT (i:=0) (aM (l:=["_law_one"]) (by decide +kernel)) rfl (by walk_at "o") (by first|exact .inl rfl|exact .inr rfl)) (fun _ _ _ _ _=>iy (cJ (wcc (jg Z) hr (p1 (pv 0))))) (fun _ _ _ _ _=>(pv 0)) (by intro _;rfl))) ai))))) (pr iZ) aE) (aa (gW (pv 1) (FA (n:=4) (K:=K) rfl rfl (eO (wpg 2 nd) (eO (wpg 3 nd) (eO (wpg 4 nd) (eO (wpg 5 nd) zY)))))) (aa (bc (PW.pt (fE (pc ph (az (FO (K:=K) rfl rfl) (by rfl) Z.min_ boot_min (p1 (pv 1))) ai) (fE (pc Jn (az (tm rfl) (by rfl) Z.max_ boot_max (p2 (pv 2) (pv 4))) (wln K Z.len_ (pv 0))) (eA (pc Jn (az (tm rfl) (by rfl) Z.max_ boot_max (p2 (pv 3) (pv 5))) (wln K Z.len_ (wix K (pv 0) ai))))))) (pr iZ) aE) (pr (pG (ie eI (wix K (wix K (pv 0) (pv 2)) (pv 3)) ai (jr _)) (pG (ie eI (wix K (wix K (pv 0) (pv 2)) (pv 5)) ai (jr _)) (pG (ie eI (wix K (wix K (pv 0) (pv 4)) (pv 3)) ai (jr _)) (vt (ie eI (wix K (wix K (pv 0) (pv 4)) (pv 5)) ai (jr _))))))))))) (aj (bf (fM (df (kL (EM.er (fJ kit_tuple (rv 1))))) (fM (tt xE (rn (rv 1)) ri) (tt xE (rn (EM.er (j8 (MW (rv 1)) (ar 0) (kL (rl gj (a1 (rv 0)))) (ER.ax (rv 0))))) ri))) (sr jP) aF) (aj (Fj (af 1) (Hm (eF (ar 2) (eF (ar 3) (eF (ar 4) (eF (ar 5) AE)))))) (aj (bf (fM (tt iF (EM.er (aX LK (a1 (rv 1)))) ri) (fM (tt iF (EM.er (aX Dc (a2 (rv 2) (rv 4)))) (rn (rv 0))) (tt iF (EM.er (aX Dc (a2 (rv 3) (rv 5)))) (rn (rx (af 0) ri))))) (sr jP) aF) (sr (l4 (ro kK (rx (br (af 0) (rv 2)) (rv 3)) ri) (l4 (ro kK (rx (br (af 0) (rv 2)) (rv 5)) ri) (l4 (ro kK (rx (br (af 0) (rv 4)) (rv 3)) ri) (bY kK (rx (br (af 0) (rv 4)) (rv 5)) ri)))))))) fun ds P s=>?_
 obtain ⟨t,n,m,i,j,k,l,rfl,o,n1,G,I,H,B,u⟩:=s
 ac_rfl
 obtain ⟨hi,Q,hj,O,c1,F,E,C⟩:=B
 have lt:=o.1
 have r:=o.row (i:=0) ()
 have J:=o.row (i:=i.toNat) ()
 have lk:=o.row (i:=k.toNat) ()
 unfold dW
 refine b7 fun q e1=>?_
 symm
 rw[if_neg (fun z=>z nofun)]
 refine jM (as:=[i,j,k,l]) (f:=L3.D.int) (p:=fun _=>true) (g:=L3.D.int) (fun R h=>?_) (by show 4<=1000;omega) (fun x L R h=>?_) ?_
 .symm
  exact⟨_,rfl,rfl,h⟩
 .rfl'
  refine⟨_,rfl,?_⟩
  rfl'
  exact h
 rw[show ([i,j,k,l].filter fun _=>true)=[i,j,k,l] from rfl]
 symm
 rw[if_neg (fun z=>z nofun)]
 subst e1
 refine b7 fun q e1=>?_
 symm
 subst e1
 refine b7 fun q e1=>?_
 symm
 refine⟨[i,j,k,l],rfl,by simp,fun M y _=>?_⟩
 have T:0<=M:=by
  simp only[KE,OF,or_false] at y
  omega
 symm
 rw[if_neg (),if_neg (by split<;>omega)]
 refine bC () ?_
 symm
 rw[show (rowAt t 0).length=m from r,if_neg (by split<;>omega)]
 subst e1
 symm
 refine dD o () () ?_
 symm
 rw[if_pos c1]
 refine dD o () () ?_
 symm
 rw[if_pos F]
 refine dD o () () ?_
 symm
 rw[if_pos E]
 refine dD o () () ?_
 symm
 rw[decide_eq_true C]
 exact u
def oT:DSp:=fun ds P=>∃(t:aaa) (n m:Nat) (i j k l:Int),ds=[dT t,dW i j k l]/\aP n m t/\n<=8/\m<=8/\cI n m t i j k l/\P (dT (cH t i.toNat j.toNat k.toNat l.toNat))
theorem sy:aB oT:=by walk_at "M"
theorem xu(Z:Zk K mg ξ c):Ze P w K mg ξ 1 "_law_swapped" ij kH (spP K oT):=by
 refine m3 (Γn:=[2]) xV Z.h_law_swapped (fun hr nd=>(aa (wb (i:=2) (aH.of (sc0:=(ak ij)) (tn:=["_law_line"]) (cap:=[]) (idx:=[]) (by decide +kernel) rfl rfl) nd rfl (by walk_at "o") (wil K (pv 0)) (iC.name nofun) (fun _ _ _ _ _=>bT (i:=0) (aM (l:=["_law_line"]) (by decide +kernel)) rfl (by walk_at "o") (by first|exact .inl rfl|exact .inr rfl)) (fun _ _ _ _ _=>(bD (bg (K:=K) rfl) (by rfl) Z.list_ boot_list (p1 (pv 0))))) (aa (wfo (wil K (bt (p2 (wit K (pv 1) ai) (wit K (pv 1) ai)))) (wpg 3 nd) (aa (wst 4 nd (wix K (pv 2) (pv 3))) (aA (wfo (wil K (bt (p2 (wit K (pv 1) ai) (wit K (pv 1) ai)))) (wpg 5 nd) (aA (gW (aI iR ai (wix K (pv 4) (pv 5))) (jT (pv 4) (pv 5) set_list))))))) (pr (pv 2))))) (aj (ST.post (Γn:=[2]) (aQ (M:=[]) 2 (aK (aN (af 0)) (ar 0) (aX fh (a1 (rv 0)))))) (aj (dH (aN (EM.es (bu (av (ER.ax (ry (af 1) ri)) (av (ER.ax (ry (af 1) ri)) aL))))) (ar 3) (BJ 2 4 (rv 3) (JQ 5 (aN (EM.es (bu (av (ER.ax (ry (af 1) ri)) (av (ER.ax (ry (af 1) ri)) aL))))) (D0 (ro cz ri (rx (af 4) (rv 5))) (rv 5))))) (cD (M:=[2]) (dB 2)))) fun ds P q=>?_
 obtain ⟨t,n,m,i,j,k,l,rfl,f,J,L,B,s⟩:=q
 ac_rfl
 obtain ⟨hi,p,hj,Q,c1,T,G,F⟩:=B
 have lt:=f.1
 unfold dW
 refine b7 fun U e1=>?_
 symm
 refine lH (t:=t) (fun R h=>by symm;exact h) () (fun r hr R h=>by rfl';exact h) ?_
 symm
 subst e1
 symm
 have H:j.toNat≠l.toNat:=fun z=>by rw[z] at c1;omega
 have g:i.toNat≠k.toNat:=fun z=>by rw[z] at c1;omega
 have inn:∀(w:aaa) (r x y:Int) (o:Option D) (E:aZ),aP n m w->0<=r/\r<n->cellAt w r.toNat j.toNat=1 - x->cellAt w r.toNat l.toNat=1 - y ->
   E.nx [some (dT t),some (L3.D.tup [.int i,.int j,.int k,.int l]),some (dT (setCell (setCell w r.toNat j.toNat x) r.toNat l.toNat y)),some (.int r),none,some (.int l)] ->
   ze 2 4 (iI 3) (fun m=>IV 4 5 (F8 (Gf (gH (vp (vOp oO (iI 1) (vC (L3.D.int 1)))) (gH (vp (vOp oO (iI 1) (vC (L3.D.int 3)))) tu)))) (fun m=>JB 2 4 (vOp (vI0 fun i j=>L3.D.int (i - j)) (vC (L3.D.int 1)) (vOp rf (iI 4) (iI 5))) (iI 5) m) m) E
    [some (dT t),some (L3.D.tup [.int i,.int j,.int k,.int l]),some (dT w),some (.int r),none,o]:=by
  intro w r x y o E hw hr ex C u
  have O:=hw.1
  have I:=hw.row (i:=r.toNat) ()
  refine yf (t:=w) (a:=r) rfl (fun R h=>by symm;exact h) (by simp only[H0];omega) () ?_
  unfold IV
  symm
  simp only[i7,vE]
  refine⟨rfl,?_⟩
  symm
  refine Aw (t:=w) (r:=rowAt w r.toNat) (b:=j) (v:=x) rfl rfl (fun R h=>?_) (fun R h=>by symm;exact h) () ?_
  .symm
   refine aD () ?_
   symm
   rw[show 1 - (rowAt w r.toNat).getD j.toNat 0=x from by have:(rowAt w r.toNat).getD j.toNat 0=1 - x:=ex;omega]
   exact h
  symm
  refine Aw (t:=setCell w r.toNat j.toNat x) (r:=(rowAt w r.toNat).set j.toNat x) (b:=l) (v:=y) rfl rfl (fun R h=>?_) (fun R h=>by symm;exact h) (by rw[OS];omega) ?_
  .symm
   refine aD (by rw[OS];omega) ?_
   symm
   rw[be,Gc H,<- be,show 1 - (rowAt w r.toNat).getD l.toNat 0=y from by have:(rowAt w r.toNat).getD l.toNat 0=1 - y:=C;omega]
   exact h
  symm
  have er:rowAt (setCell w r.toNat j.toNat x) r.toNat=(rowAt w r.toNat).set j.toNat x:=by
   unfold setCell rowAt
   rw[be,OD ()];rfl
  rw[<- er]
  exact u
 simp only[i7]
 symm
 refine inn t i 0 1 none _ f hi () () ?_
 symm
 refine inn _ k 1 0 _ _ ((f.setCell ()).setCell ()) p ?_ ?_ ?_
 .rw[aW (f.setCell ()) () (),if_neg (fun z=>g z.1),aW f () (),if_neg (fun z=>g z.1)];exact G
 .rw[aW (f.setCell ()) () (),if_neg (fun z=>g z.1),aW f () (),if_neg (fun z=>g z.1)];exact F
 symm
 exact s
def A8:DSp:=fun ds P=>∃(c cols:aab) (n:Int),ds=[dI c,dI cols,.int n]/\1<=c.length/\c.length<=5/\1<=cols.length/\cols.length<=5/\0<=n/\n<Tal.W c cols/\∀T,Tal.Ok c cols T->Tal.N c cols T=n->P (dT T)
theorem ug:aB A8:=by walk_at "M"
theorem ym(Z:Zk K mg ξ c):Ze P w K mg ξ 12 "_law_at" wx u0 (spP K A8):=by
 refine m3 (Γn:=[3]) Hh Z.h_law_at (fun hr nd=>(aa (wst 3 nd (wcc (vh Z) hr (p3 (bD (bg (K:=K) rfl) (by rfl) Z.list_ boot_list (p1 (pv 0))) (bD (bg (K:=K) rfl) (by rfl) Z.list_ boot_list (p1 (pv 1))) (pv 2)))) (aa (bc (dm (cJ (wcc (vc Z) hr (p3 (pv 3) (wln K Z.len_ (pv 0)) (wln K Z.len_ (pv 1)))))) (pr fC) aE) (aa (bc (PW.pt (fE (pc (kM hr.units) (wcc (kD Z) hr (p1 (pv 3))) (pv 0)) (eA (pc (kM hr.units) (wcc (nF Z) hr (p1 (pv 3))) (pv 1))))) (pr fC) aE) (pr (pv 3)))))) (aj (ST.post (Γn:=[3]) (aQ (M:=[]) 3 (aY qp (a3 (EM.er (aX fh (a1 (rv 0)))) (EM.er (aX fh (a1 (rv 1)))) (rv 2))))) (aj (bf (df (kL (rl tG (a3 (cN 3) (rn (rv 0)) (rn (rv 1)))))) (sr ff) aF) (aj (bf (fM (tt oY (rl iU (a1 (cN 3))) (rv 0)) (tt oY (rl kC (a1 (cN 3))) (rv 1))) (sr ff) aF) (cD (M:=[3]) (dB 3))))) fun ds P q=>?_
 obtain ⟨f,cols,n,rfl,o,m,c1,v,u,t,s⟩:=q
 ac_rfl
 refine b7 fun j e1=>?_
 symm
 refine⟨f,cols,n,rfl,m,c1,v,u,t,fun T g hn=>?_⟩
 subst e1
 obtain ⟨h,e2,i⟩:=Tal.fo g
 have p:=Tal.tL g
 have rt:aP f.length cols.length T:=⟨p,fun r hr=>(i r hr).1⟩
 refine b7 fun j e1=>?_
 symm
 refine⟨T,_,_,rfl,⟨rt,fun r hr=>(i r hr).2⟩,(),?_⟩
 symm
 subst e1
 refine b7 fun j e1=>?_
 symm
 refine⟨T,rfl,(),?_⟩
 refine c8 ?_
 rw[if_pos rfl,decide_eq_true h.symm]
 symm
 refine⟨T,_,_,rfl,rt,o,(),(),?_⟩
 refine c8 ?_
 rw[if_pos rfl,decide_eq_true e2.symm]
 symm
 subst e1
 symm
 exact s T g hn
theorem zip_rows(h:t.length=s.length):(((t.map dI).zip (s.map dI)).map fun p=>L3.D.tup [p.1,p.2])=(List.range t.length).map fun i=>L3.D.tup [dI (rowAt t i),dI (rowAt s i)]:=by
 refine Px (by simp [h]) fun i g f=>?_
 have c:i<t.length:=by simpa using f
 have q2:i<s.length:=()
 rw[Ph,List.getElem_zip,Ph,Ph,Ph,Qa]
 show L3.D.tup [dI t[i],dI s[i]]=L3.D.tup [dI (t.getD i []),dI (s.getD i [])]
 rw[be,be,ab c,ab q2];rfl
theorem NI{p:Nat->Bool}:∀{m:Nat},((((List.range m).filter p).length:Nat):Int)=sN m fun b=>if p b then 1 else 0
 |0=>rfl
 |m+1=>by
  rw[PZ,PV,Ox,bK,<- NI,Int.natCast_add]
  congr 1
  cases h:p m<;>simp [h]
theorem rH(h:Tal.Ok rows cols t):jZ rows.length cols.length t:=by
 obtain ⟨_,_,c⟩:=Tal.fo h
 exact⟨⟨Tal.tL h,fun r hr=>(c r hr).1⟩,fun r hr=>(c r hr).2⟩
theorem FE(h:Tal.Ok rows cols t):dO t a=rows.getD a 0:=by
 rw[(Tal.fo h).1]
 unfold dO rowAt
 rw[be,be,ox]
 cases t[a]?<;>rfl
theorem Ar(h:Tal.Ok rows cols t)(hb:b<cols.length):fg t b=cols.getD b 0:=by
 rw[(Tal.fo h).2.1,Tal.gF hb];rfl
theorem EO(h:Tal.Ok rows cols t)(c:jZ rows.length cols.length u)(hr:∀a,dO u a=dO t a)(f:∀b,fg u b=fg t b):Tal.Ok rows cols u:=by
 have own:=Tal.vB (w:=cols.length) (T:=u) fun r hr=>⟨c.1.2 r hr,c.2 r hr⟩
 have e1:u.map List.sum=rows:=by
  rw[(Tal.fo h).1]
  exact yO (by rw[c.1.1,Tal.tL h]) fun a _=>hr a
 have e2:Tal.cols cols.length u=cols:=by
  refine Tal.k8 Tal.bz fun b hb=>?_
  rw[Tal.bz] at hb
  rw[Tal.gF hb,<- Ar h hb];exact f b
 rw[e1,e2] at own
 exact own
def qH:DSp:=fun ds P=>∃(t o:aaa) (c cols:aab),ds=[dT t,dT o,.lst [.int (Tal.N c cols t),.int (Tal.N c cols o)]]/\Tal.Ok c cols t/\Tal.Ok c cols o/\1<=c.length/\c.length<=5/\1<=cols.length/\cols.length<=5/\P (.bl true)
theorem uA:aB qH:=by walk_at "M"
theorem xS(Z:Zk K mg ξ c):Ze P w K mg ξ 12 "_law_walked" cw mh (spP K qH):=by
 refine dJ zZ Z.h_law_walked (fun hr nd=>(aa (wst 3 nd (wcc (kD Z) hr (p1 (pv 0)))) (aa (wst 4 nd (wcc (nF Z) hr (p1 (pv 0)))) (aa (wst 5 nd (wcc (sf Z) hr (p2 (wco (ak cw) "_law_line" [] [] (wil K (pv 0)) (fun _ _ _ _ _=>(bD (bg (K:=K) rfl) (by rfl) Z.list_ boot_list (p1 (pv 0))))) (wco (ak cw) "_law_line" [] [] (wil K (pv 1)) (fun _ _ _ _ _=>(bD (bg (K:=K) rfl) (by rfl) Z.list_ boot_list (p1 (pv 0)))))))) (aa (wst 6 nd (az (bX (K:=K) rfl rfl) (by rfl) Z.sum_ boot_sum (p1 (rJ (aH.of (sc0:=(ak cw)) (tn:=["_law_mine","_law_yours"]) (cap:=[]) (idx:=[]) (by decide +kernel) rfl rfl) (J3 (K:=K) rfl rfl Z.zip_ (p2 (pv 0) (pv 1))) (iC.tup (qt.cons nofun (qt.cons nofun qt.nil))) (fun _ _ _ _ _=>FA (K:=K) (n:=2) rfl rfl (eO (bT (i:=0) (aM (l:=["_law_mine","_law_yours"]) (by decide +kernel)) rfl (by walk_at "o") (by first|exact .inl rfl|exact .inr rfl)) (eO (bT (i:=1) (aM (l:=["_law_mine","_law_yours"]) (by decide +kernel)) rfl (by walk_at "o") (by first|exact .inl rfl|exact .inr rfl)) zY))) (fun _ _ _ _ _=>(wln K Z.len_ (ja rfl (aH.of (sc0:=(vY _ (ak cw))) (tn:=["_law_k"]) (cap:=["_law_mine","_law_yours"]) (idx:=[0,1]) (by decide +kernel) rfl rfl) (aS rfl Z.range_ (p1 (wln K Z.len_ (pv 0)))) (iC.name nofun) (fun _ _ _ _ _=>bT (i:=0) (aM (l:=["_law_k","_law_mine","_law_yours"]) (by decide +kernel)) rfl (by walk_at "o") (by first|exact .inl rfl|exact .inr rfl)) (fun _ _ _ _ _=>iy (pc uk (wix K (pv 1) (pv 0)) (wix K (pv 2) (pv 0)))) (fun _ _ _ _ _=>(pv 0)) (by intro _;rfl)))))))) (aa (bc (PW.pt (fE (dm (cJ (az (cq (K:=K) rfl) (by rfl) Z.isinstance_ boot_isinstance (p2 (pv 5) (kg (v:=.ty "list") rfl Z.list_ boot_list rfl))))) (eA (pc uk (wln K Z.len_ (pv 5)) (az (tm rfl) (by rfl) Z.max_ boot_max (p2 ai (aI iR (pv 6) ai))))))) (pr iZ) aE) (aa (wst 7 nd (wix K (pv 2) ai)) (aa (wfo (wil K (pv 5)) (wpg 8 nd) (aa (bc (dm (cJ (wcc (Ds Z) hr (p2 (pv 0) (pv 8))))) (pr iZ) aE) (aa (wst 0 nd (wcc (xu Z) hr (p2 (pv 0) (pv 8)))) (aa (wst 9 nd (wcc (zJ Z) hr (p1 (wco (ak cw) "_law_line" [] [] (wil K (pv 0)) (fun _ _ _ _ _=>(bD (bg (K:=K) rfl) (by rfl) Z.list_ boot_list (p1 (pv 0)))))))) (aa (bc (PW.pt (fE (dm (cJ (wcc (jg Z) hr (p1 (pv 9))))) (fE (pc eI (pv 9) (pv 7)) (eA (pc (kM hr.units) (wcc (vh Z) hr (p3 (bD (bg (K:=K) rfl) (by rfl) Z.list_ boot_list (p1 (pv 3))) (bD (bg (K:=K) rfl) (by rfl) Z.list_ boot_list (p1 (pv 4))) (pv 9))) (pv 0)))))) (pr iZ) aE) (aA (wst 7 nd (pv 9)))))))) (pr (pG (ie (Ij hr.units) (pv 0) (pv 1) (jr _)) (vt (ie eI (pv 7) (wix K (pv 2) ai) (jr _))))))))))))) (sq 3 (sl iU (a1 (rv 0))) (sq 4 (sl kC (a1 (rv 0))) (sq 5 (sl pE (a2 (EM.er (aK (aN (af 0)) (ar 0) (aX fh (a1 (rv 0))))) (EM.er (aK (aN (af 1)) (ar 0) (aX fh (a1 (rv 0))))))) (sq 6 (EM.es (aX mZ (a1 (EM.er (aK (L0 (af 0) (af 1)) (Hm (eF (ar 0) (eF (ar 1) AE))) (aX Hk (a1 (EM.er (j8 (bJ (a1 (rn (rv 0)))) (ar 0) (tt iF (rx (af 1) (rv 0)) (rx (af 2) (rv 0))) (ER.ax (rv 0))))))))))) (aj (bf (fM (df (kL (EM.er (fJ wX (rv 5))))) (tt iF (rn (rv 5)) (EM.er (aX Dc (a2 ri (ro cz (rv 6) ri)))))) (sr jP) aF) (sq 7 (br (af 2) ri) (aj (dH (aN (af 5)) (ar 8) (aj (bf (df (kL (rl zi (a2 (rv 0) (rv 8))))) (sr jP) aF) (sq 0 (sl sy (a2 (rv 0) (rv 8))) (sq 9 (sl xl (a1 (EM.er (aK (aN (af 0)) (ar 0) (aX fh (a1 (rv 0))))))) (aj (bf (fM (df (kL (rl gj (a1 (rv 9))))) (fM (tt kK (rv 9) (rv 7)) (tt oY (rl qp (a3 (EM.er (aX fh (a1 (rv 3)))) (EM.er (aX fh (a1 (rv 4)))) (rv 9))) (rv 0)))) (sr jP) aF) (ST.post (Γn:=[]) (aO 7 (af 9)))))))) (sr (l4 (ro Lj (rv 0) (rv 1)) (bY kK (rv 7) (rx (af 2) ri))))))))))) fun ds P hS=>?_
 obtain ⟨t,o,s,cols,rfl,G,Y,n1,n5,m1,m5,hP⟩:=hS
 ac_rfl
 obtain ⟨n,en⟩:∃n,s.length=n:=⟨_,rfl⟩
 obtain ⟨m,M⟩:∃m,cols.length=m:=⟨_,rfl⟩
 have E:=rH G
 have Q:=rH Y
 rw[en,M] at E Q
 have lt:=E.1.1
 have lo:=Q.1.1
 refine b7 fun J e1=>?_
 symm
 refine⟨t,rfl,(),?_⟩
 rw[<- (Tal.fo G).1]
 subst e1
 refine b7 fun J e1=>?_
 symm
 refine⟨t,n,m,rfl,E.1,(),(),(),?_⟩
 rw[<- M,<- (Tal.fo G).2.1]
 subst e1
 refine b7 fun J e1=>?_
 symm
 refine lH (t:=t) (fun R h=>by symm;exact h) () (fun r hr R h=>by rfl';exact h) ?_
 refine lH (t:=o) (fun R h=>by symm;exact h) () (fun r hr R h=>by rfl';exact h) ?_
 refine⟨t,o,n,m,rfl,E,Q,(),(),(),(),fun a _=>by rw[FE G,FE Y],fun b hb=>by rw[Ar G (),Ar Y ()],fun F hg Ta Sw=>?_⟩
 subst e1
 refine b7 fun J e1=>?_
 symm
 refine fP (as:=List.range n) (f:=fun a=>L3.D.tup [dI (rowAt t a),dI (rowAt o a)]) (g:=fun a=>.int ((((List.range m).filter fun b=>decide (cellAt o a b<cellAt t a b)).length:Nat):Int)) (fun R h=>?_) (by rw[Ot];omega) (fun a ha R h=>?_) ?_
 .unfold Nr
  symm
  rw[zip_rows (),lt]
  exact h
 .have ha:=OL.mp ha
  have l1:=E.1.row ha
  have l2:=Q.1.row ha
  rfl'
  refine sW (lo:=0) (n:=m) (p:=fun b=>decide (cellAt o a b<cellAt t a b)) (g:=fun (b:Nat)=>.int (b:Int)) (fun R h=>?_) () (fun b hb R h=>?_) ?_
  .rfl'
   rw[l1]
   exact h
  .rfl'
   rw[OU]
   refine aD () ?_
   rw[Oh]
   rfl'
   refine aD () ?_
   rw[Oh]
   rfl'
   by_cases e:cellAt o a b<cellAt t a b
   .rw[if_pos (show (rowAt o a).getD b 0<(rowAt t a).getD b 0 from e)]
    rw[decide_eq_true e] at h
    exact h
   .rw[if_neg (show ¬ (rowAt o a).getD b 0<(rowAt t a).getD b 0 from e)]
    rw[decide_eq_false e] at h
    exact h
  rfl'
  exact h
 rw[dw]
 symm
 have eap:((List.range n).map fun a=>((((List.range m).filter fun b=>decide (cellAt o a b<cellAt t a b)).length:Nat):Int)).sum=Rg.apart n m t o:=by
  show sN n _=sN n _
  refine aw fun a _=>?_
  rw[NI]
  refine aw fun b _=>?_
  unfold Rg.pos
  simp only[decide_eq_true_eq]
 rw[eap]
 subst e1
 refine b7 fun J e1=>?_
 symm
 have ZS:¬ (if Rg.apart n m t o - 1>0 then Rg.apart n m t o - 1 else 0)<(F.length:Int):=by
  rcases Sw with ⟨_,rfl⟩|h
  .split<;>simp<;>omega
  .split<;>omega
 rw[if_neg ZS]
 subst e1
 refine b7 fun J e1=>?_
 symm
 subst e1
 refine b7 fun J e1=>?_
 symm
 refine cW (as:=F) (f:=dS4) (fun i δ=>∃(u:aaa) (X U:Option D),δ=[some (dT u),some (dT o),some (.lst [.int (Tal.N s cols t),.int (Tal.N s cols o)]),some (dI s),some (dI cols),some (.lst (F.map dS4)),some (.int (Rg.apart n m t o)),some (.int (Tal.N s cols u)),X,U]/\Rg.goT n m t (F.take i)=some u) ⟨t,none,none,rfl,rfl⟩ ?_ ?_
 .rintro i q δ N e ⟨u,X,U,rfl,H⟩ hN
  obtain ⟨hi,eq⟩:=oe.mp e
  have kp:=Rg.v8 E H
  obtain ⟨y,x,C,B⟩:=q
  have V3:Rg.goT n m u ((y,x,C,B)::F.drop (i+1))=some o:=by
   rw[<- Rg.oo H,<- eq,<- Ou hi,PJ];exact hg
  have O:cI n m u y x C B:=PH fun z=>by rw[Rg.zL z] at V3;cases V3
  have Tv:Rg.goT n m t (F.take (i+1))=some (cH u y.toNat x.toNat C.toNat B.toNat):=by
   rw[List.take_add_one,e]
   show Rg.goT n m t (F.take i++[(y,x,C,B)])=_
   rw[Rg.oo H,Rg.tK O];rfl
  have lu:=kp.on.1.1
  have ku:Tal.Ok s cols u:=EO G (by rw[en,M];exact kp.on) kp.rs kp.cs
  have I:=Rg.v8 E Tv
  obtain ⟨v,ev⟩:∃v,cH u y.toNat x.toNat C.toNat B.toNat=v:=⟨_,rfl⟩
  have c5:=O.2.2.2.2.1
  have c6:cellAt v y.toNat x.toNat=0:=by
   obtain ⟨bi,bk,bj,bl,c1,c2,c3,c4⟩:=id O
   have r1:=kp.on.1.setCell (i:=y.toNat) (j:=x.toNat) (v:=0) ()
   have r2:=r1.setCell (i:=y.toNat) (j:=B.toNat) (v:=1) ()
   have r3:=r2.setCell (i:=C.toNat) (j:=x.toNat) (v:=1) ()
   have WE:B.toNat≠x.toNat:=fun z=>by rw[z] at c2;omega
   have Tx:C.toNat≠y.toNat:=fun z=>by rw[z] at c3;omega
   rw[<- ev]
   unfold cH
   rw[aW r3 () (),if_neg (fun z=>Tx z.1),aW r2 () (),if_neg (fun z=>Tx z.1),aW r1 () (),if_neg (fun z=>WE z.2),aW kp.on.1 () (),if_pos ⟨rfl,rfl⟩]
  rw[ev] at Tv I
  have lv:=I.on.1.1
  have L:Tal.Ok s cols v:=EO G (by rw[en,M];exact I.on) I.rs I.cs
  have e4:dS4 (y,x,C,B)=dW y x C B:=rfl
  have bv:=Tal.qQ L
  rw[e4]
  refine b7 fun R2 e2=>?_
  symm
  refine⟨u,n,m,y,x,C,B,rfl,kp.on.1,(),(),(),(),O,?_⟩
  symm
  subst e2
  refine b7 fun R2 e2=>?_
  symm
  refine⟨u,n,m,y,x,C,B,rfl,kp.on.1,(),(),O,?_⟩
  rw[ev]
  subst e2
  refine b7 fun R2 e2=>?_
  symm
  refine lH (t:=v) (fun R h=>by symm;exact h) () (fun r hr R h=>by rfl';exact h) ?_
  refine⟨v,n,m,rfl,I.on.1,(),(),(),(),?_⟩
  have eN:Tal.N (v.map List.sum) (Tal.cols m v) v=Tal.N s cols v:=by rw[<- M,<- (Tal.fo L).1,<- (Tal.fo L).2.1]
  rw[eN]
  subst e2
  refine b7 fun R2 e2=>?_
  symm
  refine⟨_,rfl,?_⟩
  symm
  rw[if_neg (fun z=>by rw[Tal.LF L ku z] at c6;omega)]
  symm
  refine⟨s,cols,_,rfl,n5,m1,m5,bv.1,bv.2,fun T E hn=>?_⟩
  rw[Tal.LF E L hn]
  refine tq ?_
  rw[if_pos rfl,decide_eq_true rfl]
  symm
  subst e2
  symm
  exact hN _ ⟨_,_,_,rfl,Tv⟩
 rintro δ ⟨u,X,U,rfl,H⟩
 rw[Qn,hg] at H
 cases H
 subst e1
 dsimp only
 symm
 refine tq ?_
 rw[if_neg nofun,decide_eq_true rfl]
 symm
 rw[decide_eq_true trivial]
 exact hP
def vJ(s m:Int):D:=if s=0 then .str "zero" else if s=m then .str "one" else .str "free"
def vo:DSp:=fun ds P=>∃s m:Int,ds=[.int s,.int m]/\P (vJ s m)
theorem xO:aB vo:=by walk_at "M"
theorem Bl(Z:Zk K mg ξ c):Ze P w K mg ξ 1 "_law_word" pL mf (spP K vo):=by
 refine dJ mf Z.h_law_word (fun hr nd=>(aa (bc (pc eI (pv 0) ai) (pr dP) aE) (aa (bc (pc eI (pv 0) (pv 1)) (pr dP) aE) (pr dP)))) (aj (bf (tt kK (rv 0) ri) (sr eB) aF) (aj (bf (tt kK (rv 0) (rv 1)) (sr eB) aF) (sr eB))) fun ds P i=>?_
 obtain ⟨s,m,rfl,f⟩:=i
 ac_rfl
 unfold vJ at f
 symm
 by_cases h:s=0
 .rw[if_pos h] at f ⊢
  exact f
 rw[if_neg h] at f ⊢
 by_cases g:s=m
 .rw[if_pos g] at f ⊢
  exact f
 rw[if_neg g] at f ⊢
 exact f
theorem NR:Builtin.bitAnd z 1=0\/Builtin.bitAnd z 1=1:=by
 unfold Builtin.bitAnd
 by_cases h:0<=z
 .rw[decide_eq_true h,decide_eq_true (show (0:Int)<=1 by decide)]
  have:z.toNat &&& (1:Int).toNat<=1:=Nat.and_le_right
  simp only
  omega
 .rw[decide_eq_false h,decide_eq_true (show (0:Int)<=1 by decide)]
  have:(1:Int).toNat &&& (Builtin.bitNot z).toNat<=1:=Nat.and_le_left
  simp only
  omega
def uh:DSp:=fun ds P=>∃(ns:aab),ds=[.scr ns]/\ns.length<=63/\∀(t:aaa) (n m:Nat) (x z:Int) (Y:D),jZ n m t->1<=n->n<=5->1<=m->m<=5->(Y=.non\/∃y:Int,Y=.int y)->P (.lst [dT t,.int x,Y,.int z])
theorem vm:aB uh:=by walk_at "M"
theorem AL(Z:Zk K mg ξ c):Ze P w K mg ξ 3 "_law_drawn" iH nh (spP K uh):=by
 refine m3 (Γn:=[4]) A9 Z.h_law_drawn (fun hr nd=>(aa (wst 1 nd (wcc (nz Z) hr (p2 (pv 0) ai))) (aa (wst 2 nd (aI eD ai (aI g8 (pv 1) ai))) (aa (wst 3 nd (aI eD ai (aI g8 (aI jE (pv 1) ai) ai))) (aa (bc (PW.pt (Ae (pc eI (aI g8 (aI jE (pv 1) ai) ai) ai) (uT (pc uk (wln K Z.len_ (pv 0)) ai)))) (aa (wb (i:=4) (aH.of (sc0:=(ak iH)) (tn:=["_law_row"]) (cap:=["_law_script","_law_wide"]) (idx:=[0,3]) (by decide +kernel) rfl rfl) nd rfl (by walk_at "o") (aS rfl Z.range_ (p1 (pv 2))) (iC.name nofun) (fun _ _ _ _ _=>bT (i:=0) (aM (l:=["_law_row","_law_script","_law_wide"]) (by decide +kernel)) rfl (by walk_at "o") (by first|exact .inl rfl|exact .inr rfl)) (fun _ _ _ _ _=>(rJ (aH.of (sc0:=(vY _ (ak iH))) (tn:=["_law_column"]) (cap:=["_law_row","_law_script"]) (idx:=[0,1]) (by decide +kernel) rfl rfl) (aS rfl Z.range_ (p1 (pv 2))) (iC.name nofun) (fun _ _ _ _ _=>bT (i:=0) (aM (l:=["_law_column","_law_row","_law_script"]) (by decide +kernel)) rfl (by walk_at "o") (by first|exact .inl rfl|exact .inr rfl)) (fun _ _ _ _ _=>(aI LQ (aI LR (wix K (pv 2) ai) (aI eD (aI AI ai (pv 1)) (pv 0))) ai))))) (pr (bt (eV (pv 4) (p3 (wix K (pv 0) ai) fC (wix K (pv 0) ai)))))) aE) (aa (wst 4 nd (wcc (vA Z) hr (p3 (pv 0) (pv 2) (pv 3)))) (pr (bt (eV (pv 4) (p3 (wcc (mr Z) hr (p2 (pv 0) ai)) (aI jE (wcc (mr Z) hr (p2 (pv 0) ai)) ai) (wcc (mr Z) hr (p2 (pv 0) ai)))))))))))) (sq 1 (sl lG (a2 (rv 0) ri)) (sq 2 (EM.es (bY cz ri (ro bP (rv 1) ri))) (sq 3 (EM.es (bY cz ri (ro bP (ro bP (rv 1) ri) ri))) (aj (bf (Au (tt kK (ro bP (ro bP (rv 1) ri) ri) ri) (tt iF (rn (rv 0)) ri)) (aj (ST.post (Γn:=[4]) (aQ (M:=[]) 4 (aK (bJ (a1 (rv 2))) (ar 0) (aK (bJ (a1 (rv 2))) (ar 0) (bY cz (ro bP (rx (af 2) ri) (ro cz (ro bP ri (rv 1)) (rv 0))) ri))))) (cD (M:=[4]) (bu (ip (dB 4) (av (ER.ax (rx (af 0) ri)) (av ff (av (ER.ax (rx (af 0) ri)) aL))))))) aF) (aj (ST.post (Γn:=[4]) (aQ (M:=[]) 4 (aY tw (a3 (rv 0) (rv 2) (rv 3))))) (cD (M:=[4]) (bu (ip (dB 4) (av (aY jw (a2 (rv 0) ri)) (av (bY bP (rl jw (a2 (rv 0) ri)) ri) (av (aY jw (a2 (rv 0) ri)) aL))))))))))) fun ds P F=>?_
 obtain ⟨ns,rfl,f,v⟩:=F
 ac_rfl
 refine b7 fun o e1=>?_
 symm
 refine EZ () ?_
 obtain ⟨x,E⟩:∃x,ns.getD (0:Int).toNat 0=x:=⟨_,rfl⟩
 rw[E]
 have L:=emod_lt (x:=x) (n:=5) ()
 have J:=emod_lt (x:=x / 8) (n:=5) ()
 obtain ⟨n,hn⟩:∃n:Nat,1+x % 5=n:=⟨(1+x % 5).toNat,()⟩
 obtain ⟨m,hm⟩:∃m:Nat,1+x / 8 % 5=m:=⟨(1+x / 8 % 5).toNat,()⟩
 have n1:1<=n:=()
 have s:n<=5:=()
 have p:1<=m:=()
 have u:m<=5:=()
 subst e1
 refine b7 fun o e1=>?_
 symm
 rw[hn]
 subst e1
 refine b7 fun o e1=>?_
 symm
 rw[hm]
 subst e1
 refine b7 fun o e1=>?_
 have rest:o (lD P) [some (.scr ns),some (.int x),some (.int (n:Int)),some (.int (m:Int)),none]:=by
  subst e1
  symm
  refine⟨ns,n,m,rfl,f,n1,(),p,(),fun t q=>?_⟩
  refine⟨ns,_,rfl,f,nofun,nofun,fun I _=>?_⟩
  refine⟨ns,_,rfl,f,nofun,nofun,fun H _=>?_⟩
  symm
  refine⟨ns,_,rfl,f,nofun,nofun,fun G _=>?_⟩
  exact⟨nofun,v t n m _ _ _ q n1 s p u (.inr ⟨_,rfl⟩)⟩
 symm
 by_cases c1:x / 128 % 2=1
 .rw[if_pos c1]
  by_cases B:(3:Int)<(ns.length:Int)
  .rw[if_pos B]
   obtain ⟨y,C⟩:∃y,ns.getD (1:Int).toNat 0=y:=⟨_,rfl⟩
   refine cL (lo:=0) (n:=n) (g:=fun (i:Nat)=>dI ((List.range m).map fun (j:Nat)=>Builtin.bitAnd (y / 2 ^ (8*(i:Int)+(j:Int)).toNat) 1)) (fun R h=>by symm;exact h) () (fun i hi R h=>?_) ?_
   .rfl'
    refine cL (lo:=0) (n:=m) (g:=fun (j:Nat)=>.int (Builtin.bitAnd (y / 2 ^ (8*(i:Int)+(j:Int)).toNat) 1)) (fun R h=>by rfl';exact h) () (fun j hj R h=>?_) ?_
    .rfl'
     refine aD () ?_
     rw[C]
     rfl'
     rw[OU,OU]
     exact h
    .rw[dw]
     exact h
   rw[zg]
   have q:jZ n m ((List.range n).map fun (i:Nat)=>(List.range m).map fun (j:Nat)=>Builtin.bitAnd (y / 2 ^ (8*(i:Int)+(j:Int)).toNat) 1):=by
    refine⟨⟨by rw[dz,Ot],fun r hr=>?_⟩,fun r hr z f=>?_⟩
    .obtain ⟨_,_,rfl⟩:=Oo.mp hr
     rw[dz,Ot]
    .obtain ⟨_,_,rfl⟩:=Oo.mp hr
     obtain ⟨_,_,rfl⟩:=Oo.mp f
     exact NR
   refine aD () ⟨rfl,aD () ⟨rfl,nofun,?_⟩⟩
   exact v _ n m _ _ _ q n1 s p u (.inl rfl)
  .rw[if_neg B]
   exact rest
 .rw[if_neg c1]
  exact rest
theorem zv:∀{rs left:aab},gC left.length rs (fun j=>left.getD j 0)↔∃T,Tal.Ok rs left T
 |[],left=>by
  constructor
  .intro h
   refine⟨[],fun x n=>?_⟩
   obtain ⟨i,hi,rfl⟩:=PB n
   have z:left.getD i 0=0:=h i hi
   rw[getD_at hi] at z
   exact z
  .rintro ⟨T,h⟩
   cases T with
   |nil =>
    intro j hj
    show left.getD j 0=0
    rw[getD_at hj]
    exact h _ (ON hj)
   |cons _ _=>exact h.elim
 |r::rs,left=>by
  constructor
  .rintro ⟨b,u,t,s⟩
   have lb:((List.range left.length).map b).length=left.length:=by rw[dz,Ot]
   have hb:∀z∈(List.range left.length).map b,z=0\/z=1:=fun z g=>by
    obtain ⟨j,hj,rfl⟩:=Oo.mp g
    exact u j (OL.mp hj)
   have f:=Tal.sL hb
   rw[lb] at f
   have v:=Tal.sub_len lb
   have p:gC (Tal.sub left ((List.range left.length).map b)).length rs (fun j=>(Tal.sub left ((List.range left.length).map b)).getD j 0):=by
    rw[v]
    refine s.congr fun j hj=>?_
    rw[Tal.lS lb]
    show _=_ - ((List.range left.length).map b).getD j 0
    rw[be (l:=(List.range left.length).map b),ox,O8 hj]
    rfl
   obtain ⟨T,o⟩:=zv.mp p
   exact⟨_::T,Tal.aU.mpr ⟨f,t⟩,o⟩
  .rintro ⟨T,h⟩
   cases T with
   |nil=>exact h.elim
   |cons l T =>
    have m:=Tal.aU.mp h.1
    have c:=Tal.bG m.1
    refine⟨fun j=>l.getD j 0,fun j _=>Tal.eJ m.1,?_,?_⟩
    .rw[<- m.2,wk,c.1];rfl
    .have q:=zv.mpr ⟨T,h.2⟩
     rw[Tal.sub_len c.1] at q
     exact q.congr fun j _=>Tal.lS c.1
theorem Lu(h:Bt rows.length cols.length rows cols low high t)(m:∀i j,i<rows.length->j<cols.length->0<=cellAt low i j)(n:∀i j,i<rows.length->j<cols.length->cellAt high i j<=1):Tal.Ok rows cols t:=by
 have own:=Tal.vB (w:=cols.length) (T:=t) fun r hr=>by
  refine⟨h.rt.2 r hr,fun z g=>?_⟩
  obtain ⟨i,hi,rfl⟩:=PB hr
  obtain ⟨j,hj,rfl⟩:=PB g
  have f:i<rows.length:=by have:=h.rt.1;omega
  have c:j<cols.length:=by have:=h.rt.2 _ hr;omega
  have b:=h.bd i j f c
  have e:cellAt t i j=t[i][j]:=by
   unfold cellAt
   rw[be,be,ab hi,Pn,ab hj];rfl
  have:=m i j f c
  have:=n i j f c
  omega
 have e1:t.map List.sum=rows:=by
  refine Tal.k8 (by rw[dz,h.rt.1]) fun i hi=>?_
  rw[dz] at hi
  rw[<- h.rs i (by rw[<- h.rt.1];exact hi)]
  unfold dO rowAt
  rw[be,be,ox,ab hi];rfl
 have e2:Tal.cols cols.length t=cols:=by
  refine Tal.k8 Tal.bz fun j hj=>?_
  rw[Tal.bz] at hj
  rw[Tal.gF hj,<- h.cs j hj];rfl
 rw[e1,e2] at own
 exact own
theorem Lz(h:Tal.Ok rows cols t)(hb:∀i j,i<rows.length->j<cols.length->cellAt t i j=0\/cellAt t i j=1->cellAt low i j<=cellAt t i j/\cellAt t i j<=cellAt high i j):Bt rows.length cols.length rows cols low high t:=by
 obtain ⟨e1,e2,f⟩:=Tal.fo h
 have lt:=Tal.tL h
 have rt:aP rows.length cols.length t:=⟨lt,fun r hr=>(f r hr).1⟩
 refine⟨rt,fun i j hi hj=>hb i j hi hj ?_,fun i hi=>?_,fun j hj=>?_⟩
 .have c:i<t.length:=()
  have hr:=(f _ (ON c))
  have g:j<(t[i]).length:=()
  have e:cellAt t i j=t[i][j]:=by
   unfold cellAt
   rw[be,be,ab c,Pn,ab g];rfl
  rw[e]
  exact hr.2 _ (ON g)
 .conv=>rhs;rw[e1]
  have c:i<t.length:=()
  unfold dO rowAt
  rw[be,be,ox,ab c];rfl
 .conv=>rhs;rw[e2]
  rw[Tal.gF hj];rfl
theorem Ct.no{n m:Nat}{c cols:aab}{g f:aaa}{U V:aad}(h:Ct n m c cols g f U V){t:aaa}(b:Bt n m c cols g f t):False:=MK b.rt b.bd b.rs b.cs h.cut
theorem jo(hi:i<n)(hj:j<m)(ha:a<n)(hb:b<m):cellAt (ju (cE n m x) i j) a b=if i=a/\j=b then 1 - x else x:=by
 unfold ju
 rw[aW sE hi hj,bM hi hj,bM ha hb]
section
variable {rows cols:aab}{i j:Nat}(hi:i<rows.length)(hj:j<cols.length)
include hi hj
theorem GS{U V:aad}(h:Ct rows.length cols.length rows cols (cE rows.length cols.length 0) (ju (cE rows.length cols.length 1) i j) U V):Tal.sh (rows.getD i 0) (Tal.wo rows i) cols j=Tal.W rows cols:=by
 have le:=Tal.HC (R:=rows) (C:=cols) (k:=j) hi
 by_cases z:Tal.sh (rows.getD i 0) (Tal.wo rows i) cols j<Tal.W rows cols
 .obtain ⟨T,c,e⟩:=(Tal.AG hi).mp z
  refine (h.no (Lz c fun a b ha hb q=>?_)).elim
  rw[bM ha hb,jo hi hj ha hb]
  split
  .rename_i w
   obtain ⟨rfl,rfl⟩:=w
   have e:cellAt T i j=0:=e
   omega
  .omega
 .omega
theorem GJ{U V:aad}(h:Ct rows.length cols.length rows cols (ju (cE rows.length cols.length 0) i j) (cE rows.length cols.length 1) U V):Tal.sh (rows.getD i 0) (Tal.wo rows i) cols j=0:=by
 have le:=Tal.HC (R:=rows) (C:=cols) (k:=j) hi
 by_cases z:0<Tal.sh (rows.getD i 0) (Tal.wo rows i) cols j
 .obtain ⟨T,c,e⟩:=(Tal.uX hi).mp z
  refine (h.no (Lz c fun a b ha hb q=>?_)).elim
  rw[bM ha hb,jo hi hj ha hb]
  split
  .rename_i w
   obtain ⟨rfl,rfl⟩:=w
   have e:cellAt T i j=1:=e
   omega
  .omega
 .omega
theorem FV{t:aaa}(h:Bt rows.length cols.length rows cols (cE rows.length cols.length 0) (ju (cE rows.length cols.length 1) i j) t):Tal.sh (rows.getD i 0) (Tal.wo rows i) cols j<Tal.W rows cols:=by
 refine (Tal.AG hi).mpr ⟨t,Lu h (fun a b ha hb=>by rw[bM ha hb];omega) (fun a b ha hb=>by rw[jo hi hj ha hb];split<;>omega),?_⟩
 have b:=h.bd i j hi hj
 rw[bM hi hj,jo hi hj hi hj,if_pos ⟨rfl,rfl⟩] at b
 show cellAt t i j=0
 omega
theorem FJ{t:aaa}(h:Bt rows.length cols.length rows cols (ju (cE rows.length cols.length 0) i j) (cE rows.length cols.length 1) t):0<Tal.sh (rows.getD i 0) (Tal.wo rows i) cols j:=by
 refine (Tal.uX hi).mpr ⟨t,Lu h (fun a b ha hb=>by rw[jo hi hj ha hb];split<;>omega) (fun a b ha hb=>by rw[bM ha hb];omega),?_⟩
 have b:=h.bd i j hi hj
 rw[bM hi hj,jo hi hj hi hj,if_pos ⟨rfl,rfl⟩] at b
 show cellAt t i j=1
 omega
end
theorem Jt:∀{l:aab},(∀v∈l,v=0\/v=1)->0<=l.sum
 |[],_=>Int.le_refl _
 |a::l,h=>by
  have g:=h a k0
  have f:=Jt fun v c=>h v (gV _ c)
  rw[Oy]
  omega
theorem Nh(h:Tal.Ok rows cols t):∀r∈rows,0<=r:=fun r hr=>by
 rw[(Tal.fo h).1] at hr
 obtain ⟨l,c,rfl⟩:=Oo.mp hr
 exact Jt ((rH h).2 l c)
theorem Nb(f:Tal.Ok rows cols t)(i:Tal.Ok rows cols u):decide (Tal.N rows cols t<Tal.N rows cols u)=Tal.lxT t u:=by
 cases e:Tal.lxT t u with
 |true=>exact decide_eq_true (Tal.xj f i e)
 |false =>
  refine decide_eq_false fun z=>?_
  by_cases h:t=u
  .subst h;omega
  .rcases Tal.tE f i h with c|c
   .rw[e] at c;cases c
   .have g:=Tal.xj i f c
    omega
def wg:DSp:=fun ds P=>∃ns,ds=[.scr ns]/\ns.length<=63/\P (.bl true)
theorem Jl{ns:aab}{P:DK}(c:ns.length<=63)(h:P (.bl true)):wg [.scr ns] P:=⟨ns,rfl,c,h⟩
theorem NJ:aB wg:=by walk_at "M"
theorem KQ:∀ds P,wg ds P->ds.length=1:=by
 intro ds P h
 obtain ⟨_,e,_⟩:=h
 rw[e];rfl
theorem MP(F:FnAt K mg "law" nJ vM f fd)(Z:Zk K mg ξ c):gP P w K mg ξ CX0 13 f fd vM (spP K wg):=by
 refine F.fn.ok gB (fun vs H Q E h=>j5 KQ h) (fun cdv A outer s H vs Q E hr h=>?_)
 refine⟨_,(aa (gW (wcc (AL Z) hr (p1 (pv 0))) (K9 (K:=K) rfl rfl (eO (wpg 1 gB.nd) (eO (wpg 2 gB.nd) (eO (wpg 3 gB.nd) (eO (wpg 4 gB.nd) zY)))))) (aa (wst 5 gB.nd (wcc (kD Z) hr (p1 (pv 1)))) (aa (wst 6 gB.nd (wcc (nF Z) hr (p1 (pv 1)))) (aa (wst 7 gB.nd (wcc (Bu Z) hr (p2 (bD (bg (K:=K) rfl) (by rfl) Z.list_ boot_list (p1 (pv 5))) (bD (bg (K:=K) rfl) (by rfl) Z.list_ boot_list (p1 (pv 6)))))) (aa (bc (PW.pt (fE (dm (cJ (wcc (jg Z) hr (p1 (pv 7))))) (eA (pc ph (pv 7) ai)))) (pr iZ) aE) (aa (bc (pc vX (pv 3) fC) (aA (wst 3 gB.nd (aI jE (pv 2) (pv 7)))) aE) (aa (wst 8 gB.nd (bt (p2 (aI g8 (pv 2) (pv 7)) (aI g8 (pv 3) (pv 7))))) (aa (wst 9 gB.nd (wcc (ym Z) hr (p3 (pv 5) (pv 6) (wix K (pv 8) ai)))) (aa (wst 10 gB.nd (wcc (ym Z) hr (p3 (pv 5) (pv 6) (wix K (pv 8) ai)))) (aa (bc (PW.pt (fE (pc vX (pv 9) fC) (fE (pc vX (pv 10) fC) (eA (pc pq (ie ph (wix K (pv 8) ai) (wix K (pv 8) ai) (jr _)) (ie (JH hr.units) (pv 9) (pv 10) (jr _))))))) (pr iZ) aE) (aa (bc (dm (cJ (wcc (xS Z) hr (p3 (pv 9) (pv 10) (pv 8))))) (pr iZ) aE) (aa (wst 11 gB.nd (eh (p2 (aI g8 (pv 4) (wln K Z.len_ (pv 5))) (aI g8 (aI jE (pv 4) ai) (wln K Z.len_ (pv 6)))))) (aa (wst 12 gB.nd (wit K (wcc (Dg Z) hr (p3 (bD (bg (K:=K) rfl) (by rfl) Z.list_ boot_list (p1 (pv 5))) (bD (bg (K:=K) rfl) (by rfl) Z.list_ boot_list (p1 (pv 6))) (pv 11))) ai)) (aa (bc (PW.pt (Ae (pc pq (wix K (wix K (pv 9) (wit K (pv 11) ai)) (wit K (pv 11) ai)) (wix K (wix K (pv 10) (wit K (pv 11) ai)) (wit K (pv 11) ai))) (uT (pc pq (pv 12) dP)))) (pr iZ) aE) (pr (ie eI (pv 12) (wcc (Bl Z) hr (p2 (wix K (wix K (wcc (zd Z) hr (p2 (bD (bg (K:=K) rfl) (by rfl) Z.list_ boot_list (p1 (pv 5))) (bD (bg (K:=K) rfl) (by rfl) Z.list_ boot_list (p1 (pv 6))))) (wit K (pv 11) ai)) (wit K (pv 11) ai)) (pv 7))) (jr _))))))))))))))))),pI (Γn:=[]) (N:=Hf) (aj (Fj (sl vm (a1 (rv 0))) (MT (eF (ar 1) (eF (ar 2) (eF (ar 3) (eF (ar 4) AE)))))) (sq 5 (sl iU (a1 (rv 1))) (sq 6 (sl kC (a1 (rv 1))) (sq 7 (sl xH (a2 (EM.er (aX fh (a1 (rv 5)))) (EM.er (aX fh (a1 (rv 6)))))) (aj (bf (fM (df (kL (rl gj (a1 (rv 7))))) (tt iF (rv 7) ri)) (sr jP) aF) (aj (bf (tt BC (rv 3) (EM.er ff)) (ST.post (Γn:=[]) (aO 3 (EM.es (bY bP (rv 2) (rv 7))))) aF) (sq 8 (EM.es (bu (av (bY bP (rv 2) (rv 7)) (av (bY bP (rv 3) (rv 7)) aL)))) (sq 9 (sl ug (a3 (rv 5) (rv 6) (rx (af 8) ri))) (sq 10 (sl ug (a3 (rv 5) (rv 6) (rx (af 8) ri))) (aj (bf (fM (tt BC (rv 9) (EM.er ff)) (fM (tt BC (rv 10) (EM.er ff)) (tt xE (ro iF (rx (af 8) ri) (rx (af 8) ri)) (ro MR (rv 9) (rv 10))))) (sr jP) aF) (aj (bf (df (kL (rl uA (a3 (rv 9) (rv 10) (rv 8))))) (sr jP) aF) (sq 11 (EM.es (fD (av (bY bP (rv 4) (rn (rv 5))) (av (bY bP (ro bP (rv 4) ri) (rn (rv 6))) aL)))) (sq 12 (EM.es (HZ (aY zX (a3 (EM.er (aX fh (a1 (rv 5)))) (EM.er (aX fh (a1 (rv 6)))) (rv 11))) ri)) (aj (bf (Au (tt xE (rx (br (af 9) (ry (af 11) ri)) (ry (af 11) ri)) (rx (br (af 10) (ry (af 11) ri)) (ry (af 11) ri))) (tt xE (rv 12) (EM.er eB))) (sr jP) aF) (sr (bY kK (rv 12) (rl xO (a2 (rx (br (sl v5 (a2 (EM.er (aX fh (a1 (rv 5)))) (EM.er (aX fh (a1 (rv 6)))))) (ry (af 11) ri)) (ry (af 11) ri)) (rv 7))))))))))))))))))) (fun ds P hS=>?_) h⟩
 obtain ⟨ns,rfl,hz,hP⟩:=hS
 rw[show bA Hf [.scr ns]=[some (.scr ns),none,none,none,none,none,none,none,none,none,none,none,none] from rfl]
 refine b7 fun o e1=>?_
 symm
 refine⟨ns,rfl,hz,fun t n m x z Y L n1 n5 m1 m5 hY=>?_⟩
 symm
 have lt:=L.1.1
 obtain ⟨g,er⟩:∃g,t.map List.sum=g:=⟨_,rfl⟩
 obtain ⟨cols,G⟩:∃cols,Tal.cols m t=cols:=⟨_,rfl⟩
 have lr:g.length=n:=by rw[<- er,dz,lt]
 have lc:cols.length=m:=by rw[<- G];exact Tal.bz
 have O:Tal.Ok g cols t:=by
  rw[<- er,<- G]
  exact Tal.vB fun r hr=>⟨L.1.2 r hr,L.2 r hr⟩
 subst e1
 refine b7 fun o e1=>?_
 symm
 refine⟨t,rfl,(),?_⟩
 rw[er]
 subst e1
 refine b7 fun o e1=>?_
 symm
 refine⟨t,n,m,rfl,L.1,n1,(),(),?_⟩
 rw[G]
 subst e1
 refine b7 fun o e1=>?_
 symm
 refine⟨g,cols,rfl,(),(),(),?_⟩
 have b0:=Tal.qQ O
 obtain ⟨W,eW⟩:∃W,Tal.W g cols=W:=⟨_,rfl⟩
 rw[eW] at b0 ⊢
 subst e1
 refine b7 fun o e1=>?_
 symm
 refine⟨_,rfl,?_⟩
 symm
 rw[if_neg ()]
 subst e1
 refine b7 fun o e1=>?_
 have W0:0<W:=()
 have CW:Lp x W:=by
  refine⟨W0,26,?_,nofun⟩
  have w1:=Tal.Mr (rs:=g) (left:=cols)
  rw[eW,lr,lc] at w1
  have w2:((2:Int) ^ m) ^ n<=2 ^ 25:=by
   rcases (show m=1\/m=2\/m=3\/m=4\/m=5 by omega) with rfl|rfl|rfl|rfl|rfl<;>rcases (show n=1\/n=2\/n=3\/n=4\/n=5 by omega) with rfl|rfl|rfl|rfl|rfl<;>decide
  omega
 have rest:∀y:Int,o { nx:=fun _=>P L3.D.non,rt:=fun x _=>P x,bk:=fun _=>False,ct:=fun _=>False } [some (.scr ns),some (dT t),some (.int x),some (.int y),some (.int z),some (dI g),some (dI cols),some (.int W),none,none,none,none,none]:=fun y=>by
  subst e1
  refine b7 fun o e1=>?_
  symm
  have x1:=emod_lt (x:=x) (n:=W) ()
  have y1:=emod_lt (x:=y) (n:=W) ()
  generalize x % W=a at x1 ⊢
  generalize y % W=b at y1 ⊢
  subst e1
  refine b7 fun o e1=>?_
  symm
  refine⟨g,cols,_,rfl,(),(),(),(),x1.1,(),fun T J v=>?_⟩
  subst v
  subst e1
  refine b7 fun o e1=>?_
  symm
  refine⟨g,cols,_,rfl,(),(),(),(),y1.1,(),fun U I u=>?_⟩
  subst u
  subst e1
  refine b7 fun o e1=>?_
  symm
  have v:=rH J
  have u:=rH I
  have lT:=v.1.1
  have lU:=u.1.1
  refine⟨T,U,rfl,rfl,?_,?_⟩
  .refine Px (by rw[dz,dz];omega) fun i h1 h2=>?_
   rw[Ph,Ph,v.1.2 _ (ON _),u.1.2 _ (ON _)]
  rw[if_neg (fun q=>q (Nb J I))]
  subst e1
  refine b7 fun o e1=>?_
  symm
  refine⟨T,U,g,cols,rfl,J,I,(),(),(),(),?_⟩
  symm
  subst e1
  refine b7 fun o e1=>?_
  symm
  have i1:=emod_lt (x:=z) (n:=(g.length:Int)) ()
  have j1:=emod_lt (x:=z / 8) (n:=(cols.length:Int)) ()
  obtain ⟨i,ei⟩:∃i:Nat,z % (g.length:Int)=i:=⟨(z % (g.length:Int)).toNat,()⟩
  obtain ⟨j,ej⟩:∃j:Nat,z / 8 % (cols.length:Int)=j:=⟨(z / 8 % (cols.length:Int)).toNat,()⟩
  have hi:i<g.length:=()
  have hj:j<cols.length:=()
  rw[ei,ej]
  subst e1
  refine b7 fun o e1=>?_
  have sl:=Tal.HC (R:=g) (C:=cols) (k:=j) hi
  have X:∀w:Str,.str w=vJ (Tal.sh (g.getD i 0) (Tal.wo g i) cols j) W->o { nx:=fun _=>P L3.D.non,rt:=fun x _=>P x,bk:=fun _=>False,ct:=fun _=>False } [some (.scr ns),some (dT t),some (.int x),some (.int y),some (.int z),some (dI g),some (dI cols),some (.int W),some (.lst [.int (Tal.N g cols T),.int (Tal.N g cols U)]),some (dT T),some (dT U),some (.tup [.int (i:Int),.int (j:Int)]),some (.str w)]:=fun w hw=>by
   subst e1
   refine b7 fun o e1=>?_
   symm
   refine dD v.1 () () ?_
   symm
   refine dD u.1 () () ?_
   symm
   have p:o { nx:=fun _=>P L3.D.non,rt:=fun x _=>P x,bk:=fun _=>False,ct:=fun _=>False } [some (.scr ns),some (dT t),some (.int x),some (.int y),some (.int z),some (dI g),some (dI cols),some (.int W),some (.lst [.int (Tal.N g cols T),.int (Tal.N g cols U)]),some (dT T),some (dT U),some (.tup [.int (i:Int),.int (j:Int)]),some (.str w)]:=by
    subst e1
    symm
    refine⟨g,cols,rfl,(),(),(),?_⟩
    refine bC (by unfold uP;rw[dz,Ot];omega) ?_
    have M:rowAt (uP g cols) i=eC g cols i (Tal.aG (g.getD i 0) cols.length):=by
     unfold uP rowAt
     rw[be,ox,O8 hi];rfl
    symm
    rw[M]
    refine aD (by unfold eC;rw[dz,Ot];omega) ?_
    rw[Oh,wW hj]
    refine⟨_,_,rfl,?_⟩
    rw[show ((Tal.aG (g.getD i 0) cols.length).map fun l=>Tal.W (Tal.wo g i) (Tal.sub cols l)*l.getD j 0).sum=Tal.sh (g.getD i 0) (Tal.wo g i) cols j from rfl,<- hw]
    symm
    rw[decide_eq_true trivial]
    exact hP
   by_cases G:cellAt T i j=cellAt U i j
   .rw[if_neg (fun q=>q G)]
    exact p
   .rw[if_pos G,if_neg ?_]
    .exact p
    have a1:=v.cell hi hj
    have a2:=u.cell hi hj
    have p1:0<Tal.sh (g.getD i 0) (Tal.wo g i) cols j:=by
     by_cases q:cellAt T i j=1
     .exact (Tal.uX hi).mpr ⟨T,J,q⟩
     .exact (Tal.uX hi).mpr ⟨U,I,show cellAt U i j=1 by omega⟩
    have p2:Tal.sh (g.getD i 0) (Tal.wo g i) cols j<Tal.W g cols:=by
     by_cases q:cellAt T i j=0
     .exact (Tal.AG hi).mpr ⟨T,J,q⟩
     .exact (Tal.AG hi).mpr ⟨U,I,show cellAt U i j=0 by omega⟩
    unfold vJ at hw
    rw[if_neg (),if_neg ()] at hw
    cases hw
    exact fun q=>q rfl
  symm
  refine⟨g,cols,i,j,_,_,rfl,rfl,(),rfl,(),Nh O,zv.mpr ⟨t,O⟩,hi,hj,fun A B h=>?_,fun A B h=>?_,fun A B h h'=>?_⟩
  .symm
   refine X _ ?_
   have q:=GS hi hj h
   unfold vJ
   rw[if_neg (),if_pos ()]
  .symm
   refine X _ ?_
   unfold vJ
   rw[if_pos (GJ hi hj h)]
  .symm
   refine X _ ?_
   have q1:=FV hi hj h
   have q2:=FJ hi hj h'
   unfold vJ
   rw[if_neg (),if_neg ()]
 symm
 rcases hY with rfl|⟨y,rfl⟩
 .rw[if_pos rfl]
  exact⟨CW,rest _⟩
 .rw[if_neg (fun q=>(nomatch q))]
  exact rest y
end
end Mine
set_option maxHeartbeats 16000000
namespace Mine
open PySem L2 PyProof.Rows
theorem all_mk{l:PySem.W.OpenLaw}{w:World}{K:aae}{h:Heap}{mg:Str->Option Value}{q n y:Addr}(X:K.In h)(G:h.Ns mainGlobals mg)(Vf:mg "law" = some (.ref q))
  {Q u Z H:Option Addr}{O U:Array (Option Value)}{P o r R x t Y J F L B I:Value}
  {i j m:Addr}
  (q0:∃f g,FnAt K mg "falling" tj oJ f g)
  (a1:PySem.W.nsIn K mainGlobals "falling_places" = some (some (.ref n))) (l1:K.lookup n=some ⟨P,Q,.func (PySem.W.fnOf "falling_places" "falling_places" (fX bp) (cF bp) (ak bp) .none o r R u x t),O⟩) (c1:PySem.W.codeIn K x "falling_places" = true) (k1:PySem.W.keepIn K (.ref n)=true)
  (q2:∃f g,FnAt K mg "places_below" fR gd f g)
  (q3:∃f g,FnAt K mg "less_row" md mj f g)
  (q4:∃f g,FnAt K mg "heads_of" pF pK f g)
  (q5:∃f g,FnAt K mg "first_head_above" fB fi f g)
  (q6:∃f g,FnAt K mg "is_number" ny kj f g)
  (q7:∃f g,FnAt K mg "is_place" pU lP f g)
  (q8:∃f g,FnAt K mg "copied_table" gk fZ f g)
  (q9:∃f g,FnAt K mg "sums_of_rows" gI gv f g)
  (q10:∃f g,FnAt K mg "sums_of_columns" gz dq f g)
  (q11:∃f g,FnAt K mg "turned_table" fY gf f g)
  (q12:∃f g,FnAt K mg "column_of" ki ko f g)
  (q13:∃f g,FnAt K mg "can_swap" pJ p7 f g)
  (q14:∃f g,FnAt K mg "swap_made" nB mS f g)
  (q15:∃f g,FnAt K mg "swaps_between" iP iW f g)
  (q16:∃f g,FnAt K mg "table_behind" jV jR f g)
  (q17:∃f g,FnAt K mg "ring_between" jO jD f g)
  (q18:∃f g,FnAt K mg "first_unlike" fO gw f g)
  (q19:∃f g,FnAt K mg "ring_swaps" me mq f g)
  (q20:∃f g,FnAt K mg "check_size" lY jb f g)
  (q21:∃f g,x6 K mg "Tally" m "Tally.__init__" gn cj f g)
  (q22:∃f g,lz K m "ways" "Tally.ways" dS bU f g)
  (q23:∃f g,lz K m "ahead" "Tally.ahead" c7 eE f g)
  (q24:∃f g,FnAt K mg "lines_with" jd i8 f g)
  (q25:∃f g,FnAt K mg "all_lines" iK nS f g)
  (q26:∃f g,FnAt K mg "count_of" p6 lN f g)
  (q27:∃f g,FnAt K mg "shares_of" j4 j6 f g)
  (q28:∃f g,FnAt K mg "shares_in_row" eZ iO f g)
  (q29:∃f g,FnAt K mg "ones_at" oq rY f g)
  (q30:∃f g,FnAt K mg "number_of" nN mU f g)
  (q31:∃f g,FnAt K mg "table_between" iX eQ f g)
  (q32:∃f g,FnAt K mg "check_bounds" gK gM f g)
  (q33:∃f g,x6 K mg "Filling" i "Filling.__init__" gi bH f g)
  (q34:∃f g,lz K i "outcome" "Filling.outcome" du cA f g)
  (q35:∃f g,lz K i "pour" "Filling.pour" dF dE f g)
  (q36:∃f g,lz K i "slack" "Filling.slack" eP cX f g)
  (q37:∃f g,x6 K mg "Reach" j "Reach.__init__" je fV f g)
  (q38:∃f g,lz K j "way" "Reach.way" kq iG f g)
  (q39:∃f g,FnAt K mg "ways_up" oC oy f g)
  (q40:∃f g,FnAt K mg "spread" qE qm f g)
  (q41:∃f g,FnAt K mg "first_with_room" dy fW f g)
  (q42:∃f g,FnAt K mg "heap_of" oj oz f g)
  (q43:∃f g,FnAt K mg "how_many_reach" dX dR f g)
  (q44:∃f g,FnAt K mg "ones_with" mO mR f g)
  (q45:∃f g,FnAt K mg "filled_table" jS jy f g)
  (q46:∃f g,FnAt K mg "row_of_ones" iu iA f g)
  (q47:∃f g,FnAt K mg "fate_of" r8 tf f g)
  (q48:∃f g,FnAt K mg "full_table" i9 jf f g)
  (q49:∃f g,FnAt K mg "turned_cell" kP kr f g)
  (q50:∃f g,FnAt K mg "_law_cell_at" kB ig f g)
  (q51:∃f g,FnAt K mg "_law_whole" mX kl f g)
  (q52:∃f g,FnAt K mg "_law_mixed" m6 mW f g)
  (q53:∃f g,FnAt K mg "_law_flipped" ix kS f g)
  (q54:∃f g,FnAt K mg "_law_across" jc ji f g)
  (q55:∃f g,FnAt K mg "_law_down" jY lX f g)
  (q56:∃f g,FnAt K mg "_law_is_ones" iq kG f g)
  (q57:∃f g,FnAt K mg "_law_can" oG sY f g)
  (q58:∃f g,FnAt K mg "_law_swapped" ij kH f g)
  (q59:∃f g,FnAt K mg "_law_at" wx u0 f g)
  (q60:∃f g,FnAt K mg "_law_walked" cw mh f g)
  (q61:∃f g,FnAt K mg "_law_word" pL mf f g)
  (q62:∃f g,FnAt K mg "_law_drawn" iH nh f g)
  (a63:PySem.W.nsIn K mainGlobals "law" = some (some (.ref y))) (l63:K.lookup y=some ⟨Y,Z,.func (PySem.W.fnOf "law" "law" (fX nJ) (cF nJ) (ak nJ) .none J F L H B I),U⟩) (c63:PySem.W.codeIn K B "law" = true) (k63:PySem.W.keepIn K (.ref y)=true)
  (e_Filling:PySem.W.nsIn K mainGlobals "Filling" = some (some (.ref i)))
  (e_Reach:PySem.W.nsIn K mainGlobals "Reach" = some (some (.ref j)))
  (e_Tally:PySem.W.nsIn K mainGlobals "Tally" = some (some (.ref m)))
  (i_Filling:FL K i)
  (na_Filling_low:PySem.W.findIn K (.ref i) "low" = some none)
  (na_Filling_high:PySem.W.findIn K (.ref i) "high" = some none)
  (na_Filling_table:PySem.W.findIn K (.ref i) "table" = some none)
  (na_Filling_wants:PySem.W.findIn K (.ref i) "wants" = some none)
  (na_Filling_rooms:PySem.W.findIn K (.ref i) "rooms" = some none)
  (i_Reach:FL K j)
  (na_Reach_rows:PySem.W.findIn K (.ref j) "rows" = some none)
  (na_Reach_columns:PySem.W.findIn K (.ref j) "columns" = some none)
  (na_Reach_goal:PySem.W.findIn K (.ref j) "goal" = some none)
  (i_Tally:FL K m)
  (na_Tally_choices:PySem.W.findIn K (.ref m) "choices" = some none)
  (na_Tally_known:PySem.W.findIn K (.ref m) "known" = some none)
  {Rb:Tok} (g_MOST_COUNTED:PySem.W.nsIn K mainGlobals "MOST_COUNTED" = some (some (Value.int 5 Rb)))
  {z:Addr} (hcf:x=.ref z) (hch:PySem.W.codeHdIn K z L3.xZ=true)
  (z_len:PySem.W.nsIn K mainGlobals "len" = some none) (z_isinstance:PySem.W.nsIn K mainGlobals "isinstance" = some none) (z_int:PySem.W.nsIn K mainGlobals "int" = some none) (z_bool:PySem.W.nsIn K mainGlobals "bool" = some none) (z_list:PySem.W.nsIn K mainGlobals "list" = some none) (z_range:PySem.W.nsIn K mainGlobals "range" = some none) (z_min:PySem.W.nsIn K mainGlobals "min" = some none) (z_max:PySem.W.nsIn K mainGlobals "max" = some none) (z_sum:PySem.W.nsIn K mainGlobals "sum" = some none) (z_sorted:PySem.W.nsIn K mainGlobals "sorted" = some none) (z_tuple:PySem.W.nsIn K mainGlobals "tuple" = some none) (z_zip:PySem.W.nsIn K mainGlobals "zip" = some none) (z_any:PySem.W.nsIn K mainGlobals "any" = some none) (z_reversed:PySem.W.nsIn K mainGlobals "reversed" = some none) :
  ∃g:FuncData,(∀(s:Shared) (v:Value),BindsTo s g ⟨[v],[]⟩ [("_law_script",v)])/\∀ξ:Heap,K.In ξ->ξ.Ns mainGlobals mg->L3.BMd ξ mg->gP l.prog w K mg ξ CX0 13 q g vM (L3.spP K wg):=by
 have e:=Vf.symm.trans (PM X G a63)
 cases e
 have T:∀ξ:Heap,L3.BMd ξ mg->Zp K mg ξ:=fun ξ T3=>⟨OZ X G z_len,OZ X G z_isinstance,OZ X G z_int,OZ X G z_bool,OZ X G z_list,OZ X G z_range,OZ X G z_min,OZ X G z_max,OZ X G z_sum,OZ X G z_sorted,OZ X G z_tuple,OZ X G z_zip,OZ X G z_any,OZ X G z_reversed,⟨_,PM X G g_MOST_COUNTED⟩,⟨n,_,z,PM X G a1,⟨_,_,_,l1⟩,hcf,hch,T3⟩⟩
 have M:=mL (st:=bp) l1 c1 k1
 have E1:FnAt K mg "falling_places" bp bo n _:=⟨M,PM X G a1,M.binds (ps:=bo) fun _ _ _ _ _ _ us p=>match us,p with|[_],_=>rfl⟩
 have E:=mL (st:=nJ) l63 c63 k63
 have C:FnAt K mg "law" nJ vM q _:=⟨E,PM X G a63,E.binds (ps:=vM) fun _ _ _ _ _ _ us p=>match us,p with|[_],_=>rfl⟩
 have A_:Zw K mg ⟨i,j,m⟩:=⟨q0,⟨_,_,E1⟩,q2,q3,q4,q5,q6,q7,q8,q9,q10,q11,q12,q13,q14,q15,q16,q17,q18,q19,q20,q21,q22,q23,q24,q25,q26,q27,q28,q29,q30,q31,q32,q33,q34,q35,q36,q37,q38,q39,q40,q41,q42,q43,q44,q45,q46,q47,q48,q49,q50,q51,q52,q53,q54,q55,q56,q57,q58,q59,q60,q61,q62,⟨_,_,C⟩⟩
 exact⟨PySem.W.fnOf "law" "law" (fX nJ) (cF nJ) (ak nJ) .none J F L H B I,fun s v=>.of_eq rfl,fun ξ hb _ S9=>MP (c:=⟨i,j,m⟩) C ⟨T ξ S9,⟨PM X G e_Filling,PM X G e_Reach,PM X G e_Tally,i_Filling,na_Filling_low,na_Filling_high,na_Filling_table,na_Filling_wants,na_Filling_rooms,i_Reach,na_Reach_rows,na_Reach_columns,na_Reach_goal,i_Tally,na_Tally_choices,na_Tally_known⟩,A_⟩⟩
theorem walk{l:PySem.W.OpenLaw}{q:Program}{E:List Str}{y:(Str->Option Value)->Heap->Prop}{c:World->Heap->Prop}{d:DefRec}{K:Params->aae}(hn:l.most=some 63)(C:d.params.defaults=[])
  (o:∀(w:World) (h:Heap),c w h->(K w.params).In h) (p:∀(w:World) (h:Heap),c w h->h.get? L3.xZ=some (PySem.W.tabObj #[])) (B:∀w:World,(K w.params).lookup L3.xZ=none) {c_:Addr} (G:∀w:World,PySem.W.codeHdIn (K w.params) c_ L3.xZ=true)
  (F:∀(w:World) (mg:Str->Option Value) (j:Addr) (h:Heap),(K w.params).In h->h.Ns mainGlobals mg->mg d.name=some (.ref j) ->
   ∃i:FuncData,(∀(s:Shared) (u:Value),BindsTo s i ⟨[u],[]⟩ [("_law_script",u)])/\∀ξ:Heap,(K w.params).In ξ->ξ.Ns mainGlobals mg->L3.BMd ξ mg->gP l.prog w (K w.params) mg ξ CX0 13 j i ["_law_script"] (L3.spP (K w.params) wg)) :
  PySem.W.WalkO q E y c l.row.toRowW d [] (fun f vs=>PySem.call f vs) :=
 L3.Hu (n:=63) (k:=13) (x:="_law_script") (CX:=fun _=>CX0) (sp:=fun w=>L3.spP (K w.params) wg) hn nofun C ⟨rfl,nofun,nofun⟩ o p B G F (fun w H a ns m g t=>⟨[.scr ns],⟨[],_,_,[],[],rfl,rfl,⟨a,rfl,L3.Mb g t,rfl⟩,rfl,rfl⟩,g.tab,Jl m (fun v H' fp s r n=>r.1)⟩) fun _ _ _ _ _ z=>z
end Mine
open PySem PySem.W PyProof.Rows
local macro_rules|`(tactic|walk_at "bb")=>`(tactic|first|exact L3.n_z rfl|(refine L3.n_s fun _=>?_;walk_at "bb"))
local macro_rules|`(tactic|walk_at "b")=>`(tactic|(intro _ _ _ _ _ _;walk_at "bb"))
local macro_rules|`(tactic|walk_at "f")=>`(tactic|(refine' L3.fnA (by assumption) (by assumption) ?a ?l ?c ?k (by walk_at "b");(case a=>k_is);(case l=>k_is);(case c=>k_is);(case k=>k_is)))
local macro_rules|`(tactic|walk_at "m")=>`(tactic|(refine' L3.mtA ?a ?i ?l ?c ?k (by walk_at "b");(case a=>k_is);(case i=>k_is);(case l=>k_is);(case c=>k_is);(case k=>k_is)))
local macro_rules|`(tactic|walk_at "i")=>`(tactic|(refine' L3.mkA (by assumption) (by assumption) ?e ?m ?a ?i ?d ?l ?c ?k (by walk_at "b");(case e=>k_is);(case m=>k_is);(case a=>k_is);(case i=>k_is);(case d=>k_is);(case l=>k_is);(case c=>k_is);(case k=>k_is)))
local macro_rules|`(tactic|walk_at "c")=>`(tactic|exact⟨⟨by k_is,by k_is,by k_is,by k_is⟩,by k_is,by k_is,by k_is,by k_is⟩)
local macro_rules|`(tactic|walk_at "y")=>`(tactic|(refine' L3.xoA ?a ?b;(case a=>k_is);(case b=>k_exc)))
local macro_rules|`(tactic|walk_at "x")=>`(tactic|(refine' L3.xcA ?a ?b ?c ?d ?e ?f ?g;(case a=>k_is);(case b=>k_exc);(case c=>k_is);(case d=>k_is);(case e=>k_is);(case f=>k_is);(case g=>k_is)))
namespace PySem.W.Fast
def tw17922703442022301494:=0
def tw5859866232529681494:=0
def tw1882364211176781057:=0
def tw8967200211580821951:=0
def tw10695431477418124108:=0
def tw13059158807585830745:=0
def tw12392258111928374335:=0
def tw14511185159818236334:=0
def tw8586483175961863336:=0
def tw69120374774368969:=0
def tw9061060111031622852:=0
def tw1257223338476206328:=0
def tw7461946985549394136:=0
def tw2260636128458797713:=0
def tw17456660181367685019:=0
def tw10004645094048444638:=0
def tw6769510339903883422:=0
def tw1233712456186062955:=0
def tw16924074421748597203:=0
def tw16578833675444412034:=0
def tw6889574513889624795:=0
def tw6516024828734357122:=0
def tw6672727289242318843:=0
def tw10657404842500347076:=0
def tw13311565899899955665:=0
def tw5267504473033921872:=0
def tw3627825760190828588:=0
def tw9054602182365574070:=0
def tw879232957921218193:=0
def tw14315795982386662653:=0
def tw14720319207505376976:=0
def tw461409902417638649:=0
def tw10796829361366626512:=0
def tw18209761086475663664:=0
def tw304845545450645871:=0
def tw10601675884853551785:=0
def tw11872541877916636202:=0
def tw1840197541420587903:=0
def tw11098532280463319318:=0
def tw9249838749488951653:=0
def tw5525703231393132935:=0
def tw7148087421141636163:=0
def tw17056146273457296671:=0
def tw17836073150825191713:=0
def tw1261729649517953495:=0
def tw6041310328280413411:=0
def tw282240347516014843:=0
def tw11501393517146940859:=0
def tw9882712007357804682:=0
def tw3783215630699926417:=0
def tw12052990552190018405:=0
def tw5618153232119718808:=0
def tw14523209519138543541:=0
def tw12623980715322111322:=0
def tw7427768879932642111:=0
def tw12676582788624988542:=0
def tw16313350562105569977:=0
def tw9901830424710171582:=0
def tw14933133750742844963:=0
def tw13551210191863552750:=0
def tw9624001345126128965:=0
def tw16282574596182329421:=0
def tw5716427327415289453:=0
def tw15961234334040805632:=0
def tw6869748071084376334:=0
def tw6280852995206623851:=0
def tw15129001842862528915:=0
def tw6263428710778718528:=0
def tw5132395105092470389:=0
def tw11294896026248970254:=0
def tw1752213481325301513:=0
def tw13398461807464384944:=0
def tw7667802993712760611:=0
def tw9600423203127999356:=0
def tw10827321851034077810:=0
def tw10922534486150787170:=0
def tw17166600858085490710:=0
def tw662840671380595650:=0
def tw18343641465806814989:=0
def tw8888887220120215280:=0
def tw4561591377959292142:=0
def tw7309741806340145166:=0
def tw2492251773151775725:=0
def tw10601509743727937705:=0
def tw3308312815419747506:=0
def tw12255548664169425534:=0
def tw8499971081860475489:=0
def tw15407822416888460436:=0
def tw18162730531302853513:=0
def tw17352321785480353866:=0
def tw17941165271044720033:=0
def tw3225915916988450336:=0
def tw16243424796623181752:=0
def tw16674548484390180990:=0
def tw14288829035377977326:=0
def tw4838109305797952917:=0
def tw6240712643486512187:=0
def tw10217911358189904420:=0
def tw2448053423279095321:=0
def tw5512877091290989920:=0
def tw6039322003510439908:=0
def tw8674348127140826527:=0
def tw5554094591004736082:=0
def tw3940745047935565874:=0
def tw6281699846990850799:=0
def tw11086305866260438639:=0
def tw8826932552309893231:=0
def tw4765619915309033052:=0
def tw15347348577027728821:=0
def tw4911267311030352925:=0
def tw8052328063629632596:=0
def tw5887839775578749629:=0
def tw10933379072452377310:=0
def tw10630855441580352873:=0
def tw13259149404372124684:=0
def tw1289794514125482368:=0
def tw1511052812380666151:=0
def tw5971159862514421493:=0
def tw9796749721448227033:=0
def tw4352313004947909306:=0
def tw4337881297701900191:=0
def tw13552276773644184916:=0
def tw2538742251043588554:=0
def tw11034012370191736922:=0
def tw2256435696129730706:=0
def tw8107224431103766444:=0
def tw13402900734614965649:=0
def tw13166787334646120663:=0
def tw11995262435658577263:=0
def tw18110622790126066465:=0
def tw10864137015291200762:=0
def tw18258534591083645313:=0
def tw756386141611081206:=0
def tw647372005010354065:=0
def tw10213388624473783642:=0
def tw5021337871671255474:=0
def tw4311948266215236219:=0
def tw10881845395727423350:=0
def tw10740415362367007578:=0
def tw267168762252505807:=0
def tw270263470844165000:=0
def tw13095429070235118597:=0
def tw13023679292241497292:=0
def tw2901277608548764663:=0
def tw17400818664197026572:=0
def tw6381454793474130947:=0
def tw8569685273274902781:=0
def tw4971169477395895248:=0
def tw17915236109962737298:=0
def tw16082725880997860390:=0
def tw3038673398123431132:=0
def tw13425075878145895143:=0
def tw6829750817373971596:=0
def tw6097562261515783220:=0
def tw4486892065995978535:=0
def tw14832141446485234238:=0
def tw9957901871660628241:=0
def tw16731163902989445936:=0
def tw2092771985802805541:=0
def tw13267546855385614150:=0
def tw9445486316252410956:=0
def tw16181264440488136536:=0
def tw16114392014092478548:=0
def tw17084833852733504216:=0
def tw14506575499796947270:=0
def tw10613494499823978257:=0
def tw7312307420975385189:=0
def tw3104162964775001451:=0
def tw11814673424495721382:=0
def tw16395286993108267208:=0
def tw637300954724523824:=0
def tw4508200101403214402:=0
def tw8032294132962718625:=0
def tw10648300245875739754:=0
def tw6176206446261636495:=0
def tw6255226982039657520:=0
def tw1760115318420338853:=0
def tw5071806962205495987:=0
def tw1846951155990248941:=0
def tw5879302450940659786:=0
def tw4010235094089404883:=0
def tw12373089865900905302:=0
def tw5989033812259030970:=0
def tw7799467204212110866:=0
def tw3424046312375793855:=0
def tw7003206804272107440:=0
def tw11795910394751522583:=0
def tw15250524679265958453:=0
def tw81500368079515486:=0
def tw5551964543940937470:=0
def tw8555712161961620978:=0
def tw390589754706456835:=0
def tw5053170488434026801:=0
def tw16481582557940840965:=0
def tw15126178826065638952:=0
def tw12315092555208193550:=0
def tw3089850319982073983:=0
def tw10744863642543778717:=0
def tw18178191898528651078:=0
def tw7330841115506986059:=0
def tw9446020133108958999:=0
def tw1128798993429637679:=0
def tw10666060467971409910:=0
def tw9323450643554967059:=0
def tw14448458152643399338:=0
def tw2405896162006696296:=0
def tw12966725038706149223:=0
def tw1184306528918163166:=0
def tw2608937062548197301:=0
def tw1961986472975878007:=0
def tw12404336762471464847:=0
def tw16763395064538307691:=0
def tw6641667841748278433:=0
def tw9366187845448729856:=0
def tw9828755993589171233:=0
def tw18239232105818071931:=0
def tw15694783197898766982:=0
def tw13573841989913212744:=0
def tw12963977010199184737:=0
def tw10022081742156452866:=0
def tw6744203861118258835:=0
def tw10983255542103644016:=0
def tw6230274267179538026:=0
def tw7224616962022189583:=0
def tw17758998749158922019:=0
def tw7750790788317876960:=0
def tw5524461696929986503:=0
def tw14183017288920455700:=0
def tw6926274870855522099:=0
def tw11243710031893166536:=0
def tw10397995567779757845:=0
def tw1183775206993858253:=0
def tw14553970292516825991:=0
def tw1740141470881209694:=0
def tw10798943153384995828:=0
def tw6282577270872633881:=0
def tw13979622923606212680:=0
def tw11659246553631779419:=0
def tw9110985713255448468:=0
def tw17903869774306032324:=0
def tw7997472751201945263:=0
def tw15977500089912623584:=0
def tw539727239322387855:=0
def tw16442305884859103775:=0
def tw15599366087253764653:=0
def tw18175180971477439395:=0
def tw10527926021834792332:=0
def tw1682793109497970835:=0
def tw6211667567542864610:=0
def tw7129925450056853399:=0
def tw12146343015293410847:=0
def tw14521486719585718008:=0
def tw17791749701806746268:=0
def tw657246863171990183:=0
def tw13393649379443330094:=0
def tw12999314963566515659:=0
def tw10344446852590186088:=0
def tw730164791497012093:=0
def tw12764497069326319984:=0
def tw9740501646165628767:=0
def tw9797737932787195938:=0
def tw10424589874798629371:=0
def tw9517817143118809814:=0
def tw17392358902653043603:=0
def tw1146472402874389942:=0
def tw17509511778138146081:=0
def tw5772410068545658717:=0
def tw3976374950381790839:=0
def tw10320998705364779469:=0
def tw10106230477360031996:=0
def tw10408857681939065916:=0
def tw17429344367980833579:=0
def tw4985392023586241614:=0
def tw11548251802871606471:=0
def tw16741243565355666639:=0
def tw1436069592207292708:=0
def tw5272454550791529486:=0
def tw16575141291893635381:=0
def tw12761204277827836822:=0
def tw17677656260464930506:=0
def tw15640857424751948335:=0
def tw2474129452114981104:=0
def tw18122389517522879724:=0
def tw17925459917096978676:=0
def tw7436739856244712157:=0
def tw8194354303874812612:=0
def tw591910615241694820:=0
def tw3303625646298422480:=0
def tw1853570188146128067:=0
def tw3835225272423434406:=0
def tw15062223020978808990:=0
def tw14072980840478984686:=0
def tw15117924816652481555:=0
def tw10399910213110634539:=0
def tw12560356821905673813:=0
def tw16456111019051488848:=0
def tw3490590886916001335:=0
def tw1204204706773093720:=0
def tw1030689730005513521:=0
def tw6207110514433569986:=0
def tw11842949341784767948:=0
def tw7629615736430548938:=0
def tw7854799283666482447:=0
def tw1065854775114705272:=0
def tw16091318928257136906:=0
def tw1334995735859076313:=0
def tw6362300127555409239:=0
def tw3886145451852760644:=0
def tw2487431834078041662:=0
def tw7929951970836272838:=0
def tw10709358855847457151:=0
def tw13834838186666127237:=0
def tw6475068071096487445:=0
def tw18402877136542024138:=0
def tw6205534072235427954:=0
def tw9038591938124206688:=0
def tw10158431801328338483:=0
def tw12490371209467078318:=0
def tw3917570295283643466:=0
def tw15509208601215584022:=0
def tw1741949970921704469:=0
def tw13999924776552295358:=0
def tw17371705001292591807:=0
def tw8179262265979205296:=0
def tw7730719676178297339:=0
def tw10457957532727246018:=0
def tw12937689449715296296:=0
def tw9871025896570614984:=0
def tw16770632451439367193:=0
def tw13694383509030847840:=0
def tw9604780091894682292:=0
def tw16975888603243290840:=0
def tw12207372397180087189:=0
def tw6380338155401120734:=0
def tw12709417508200524129:=0
def tw1158674521602945530:=0
def tw1536972302921929728:=0
def tw16465656015289039175:=0
def tw1747946969440842227:=0
def tw1900901057947804272:=0
def tw11774123768214263853:=0
def tw17986212325519331251:=0
def tw18419507479563292717:=0
def tw8524560003303405606:=0
def tw746677603397245126:=0
def tw10094887222196263609:=0
def tw4713806544069702253:=0
def tw13573802720979653158:=0
def tw10295825997248538929:=0
def tw7855843803539952529:=0
def tw16774045376334082913:=0
def tw426327077362905726:=0
def tw16234830223282770719:=0
def tw7521318268441333047:=0
def tw14602841211100908713:=0
def tw18067472226829752948:=0
def tw15895807288263904115:=0
def tw17713286825490203763:=0
def tw13274567584808944984:=0
def tw4229031215407430513:=0
def tw12339364415670881619:=0
def tw6171071455360930846:=0
def tw12239761773536061505:=0
def tw13891658578903266661:=0
def tw15002789391994229747:=0
def tw9446236162629536547:=0
def tw11686543413448263177:=0
def tw8659741811113838806:=0
def tw14833588220488155610:=0
def tw8480929408104096364:=0
def tw3986769679169137937:=0
def tw11554674247337052774:=0
def tw9978756006220711847:=0
def tw13196096574060132777:=0
def tw11249589281906774731:=0
def tw18342871700381580249:=0
def tw12426595551437049639:=0
def tw15687484948889030093:=0
def tw5644715837092022702:=0
def tw647758921116087532:=0
def tw127898742368662135:=0
def tw12670583547048255820:=0
def tw17279985494290392421:=0
def tw3548232777804805797:=0
def tw4857008813732730537:=0
def tw6988511967519022860:=0
def tw9784808961024028438:=0
def tw5736830780488318289:=0
def tw110369243478634992:=0
def tw4276501290367139946:=0
def tw11874375551201057287:=0
def tw15233672171807276003:=0
def tw10105826930704675771:=0
def tw12925277001247075640:=0
def tw5977030366132339511:=0
def tw5663883074273016127:=0
def tw235358812730147056:=0
def tw1240980220967651176:=0
def tw6894152669627223287:=0
def tw16708587573208502069:=0
def tw1109202094509152409:=0
def tw4537041206897666820:=0
def tw1157554166751397766:=0
def tw7088747735517930575:=0
def tw13223228186106907075:=0
def tw18424315651273925517:=0
def tw8653887156140344339:=0
def tw13259857043743671123:=0
def tw12436544026785672746:=0
def tw13080498758249241908:=0
def tw15990040971367872887:=0
def tw3153327318171473621:=0
def tw15847979337423769595:=0
def tw6146668125968199803:=0
def tw340745039925166938:=0
def tw363015863978458161:=0
def tw16748514306970585942:=0
def tw14792263726173999219:=0
def tw11611111933879549542:=0
def tw1345859500511822090:=0
def tw7130144592794644750:=0
def tw11296600786602679941:=0
def tw16992056367225854068:=0
def tw2370584437366281092:=0
def tw13988614115665475349:=0
def tw8791154571889293686:=0
def tw11461922831911610681:=0
def tw9488510305543249305:=0
def tw935350943084101744:=0
def tw1021978939185949923:=0
def tw87229560255157656:=0
def tw11084136763705710654:=0
def tw14901922829427845870:=0
def tw2996001150583478816:=0
def tw3841333482717689193:=0
def tw12154412166278771044:=0
def tw2158786792625831276:=0
def tw5549493670923261386:=0
def tw5563611910969689196:=0
def tw7714562049482464458:=0
def tw8006769996385944516:=0
def tw13635809380710652330:=0
def tw9058572155102006389:=0
def tw14690274273655901555:=0
def tw14372106122898172223:=0
def tw3469591384141041669:=0
def tw16598779147017588506:=0
def tw17061631782792418013:=0
def tw1480491567718770602:=0
def tw15357240639063670432:=0
def tw6537328122020176413:=0
def tw8419410038184886113:=0
def tw5608723033196321126:=0
def tw13818620060919457225:=0
def tw15796453298367221631:=0
def tw15452147546331235661:=0
def tw12246680359328590233:=0
def tw14102043006695795329:=0
def tw13443112216563148025:=0
def tw10949297179072218843:=0
def tw2199342395471755210:=0
def tw12481727874096736090:=0
def tw9173492308398412185:=0
def tw2747547856990733632:=0
def tw14692556010513687987:=0
def tw7640621839957765192:=0
def tw5418644908153070787:=0
def tw6659724703131864951:=0
def tw9115551944321003198:=0
def tw15198206958110686037:=0
def tw11459129342451101308:=0
def tw17805852468454788015:=0
def tw857067929653185552:=0
def tw3968746127877271778:=0
def tw14215617107341585731:=0
def tw13496541304260215460:=0
def tw3516245407761826453:=0
def tw4998079099399082539:=0
def tw676748969562371961:=0
def tw14916743400761948380:=0
def tw16424965041110136454:=0
def tw15173352756310990944:=0
def tw9845799035111420435:=0
def tw2764717394567888883:=0
def tw3909083890000826085:=0
def tw6253317028356484672:=0
def tw14008325370114311170:=0
def tw17810071228574827826:=0
def tw14782747285875349376:=0
def tw2131354321319159319:=0
def tw3064559356649089841:=0
def tw17954120228427913691:=0
def tw15510101654051183537:=0
def tw3919486154955321539:=0
def tw8691631036374073971:=0
def tw5545663400515550366:=0
def tw12211352080895804520:=0
def tw8297117611613058968:=0
def tw8293301506445788170:=0
def tw8884835335009529895:=0
def tw14405877881494964269:=0
def tw2525353271034198862:=0
def tw13303509880040204065:=0
def tw16118402434218874716:=0
def tw1823980811100925942:=0
def tw13743994263818638947:=0
def tw17373572713915935196:=0
def tw7950001520016602283:=0
def tw272684305799183016:=0
def tw14660235668345646585:=0
def tw1584160638137233080:=0
def tw7832828989501016278:=0
def tw2280462504387872758:=0
end PySem.W.Fast
set_option maxRecDepth 100000 in
set_option maxHeartbeats 0 in
theorem PySem.Challenge.cw_evenmix_k73_whole_any_two_by_number_holds : PySem.Challenge.rw_evenmix_k73_whole_any_two_by_number.Holds := by
 w_on;o_law;k_head;(case hw=>w_witness2)
 k_fill
 refine Mine.walk (l:=PySem.Challenge.rw_evenmix_k73_whole_any_two_by_number) rfl rfl (fun w h Y=>PySem.W.km_in_of Y) (fun w h Y=>PySem.W.km_tabs_of Y L3.xZ nofun) (fun w=>by first|exact rfl|kernel_rfl) (c_:=124) (fun w=>by first|exact rfl|kernel_rfl) ?F
 case F =>
  intro w mg fa h KX G S7
  refine' Mine.all_mk KX G S7 ?q0 ?a1 ?l1 ?c1 ?k1 ?q2 ?q3 ?q4 ?q5 ?q6 ?q7 ?q8 ?q9 ?q10 ?q11 ?q12 ?q13 ?q14 ?q15 ?q16 ?q17 ?q18 ?q19 ?q20 ?q21 ?q22 ?q23 ?q24 ?q25 ?q26 ?q27 ?q28 ?q29 ?q30 ?q31 ?q32 ?q33 ?q34 ?q35 ?q36 ?q37 ?q38 ?q39 ?q40 ?q41 ?q42 ?q43 ?q44 ?q45 ?q46 ?q47 ?q48 ?q49 ?q50 ?q51 ?q52 ?q53 ?q54 ?q55 ?q56 ?q57 ?q58 ?q59 ?q60 ?q61 ?q62 ?a63 ?l63 ?c63 ?k63 ?e_Filling ?e_Reach ?e_Tally ?i_Filling ?na_Filling_low ?na_Filling_high ?na_Filling_table ?na_Filling_wants ?na_Filling_rooms ?i_Reach ?na_Reach_rows ?na_Reach_columns ?na_Reach_goal ?i_Tally ?na_Tally_choices ?na_Tally_known ?g_MOST_COUNTED ?hcf ?hch ?z_len ?z_isinstance ?z_int ?z_bool ?z_list ?z_range ?z_min ?z_max ?z_sum ?z_sorted ?z_tuple ?z_zip ?z_any ?z_reversed
  (case e_Filling=>k_is)
  (case e_Reach=>k_is)
  (case e_Tally=>k_is)
  (case q0=>walk_at "f")
  (case a1=>k_is)
  (case l1=>k_is)
  (case c1=>k_is)
  (case k1=>k_is)
  (case q2=>walk_at "f")
  (case q3=>walk_at "f")
  (case q4=>walk_at "f")
  (case q5=>walk_at "f")
  (case q6=>walk_at "f")
  (case q7=>walk_at "f")
  (case q8=>walk_at "f")
  (case q9=>walk_at "f")
  (case q10=>walk_at "f")
  (case q11=>walk_at "f")
  (case q12=>walk_at "f")
  (case q13=>walk_at "f")
  (case q14=>walk_at "f")
  (case q15=>walk_at "f")
  (case q16=>walk_at "f")
  (case q17=>walk_at "f")
  (case q18=>walk_at "f")
  (case q19=>walk_at "f")
  (case q20=>walk_at "f")
  (case q21=>walk_at "i")
  (case q22=>walk_at "m")
  (case q23=>walk_at "m")
  (case q24=>walk_at "f")
  (case q25=>walk_at "f")
  (case q26=>walk_at "f")
  (case q27=>walk_at "f")
  (case q28=>walk_at "f")
  (case q29=>walk_at "f")
  (case q30=>walk_at "f")
  (case q31=>walk_at "f")
  (case q32=>walk_at "f")
  (case q33=>walk_at "i")
  (case q34=>walk_at "m")
  (case q35=>walk_at "m")
  (case q36=>walk_at "m")
  (case q37=>walk_at "i")
  (case q38=>walk_at "m")
  (case q39=>walk_at "f")
  (case q40=>walk_at "f")
  (case q41=>walk_at "f")
  (case q42=>walk_at "f")
  (case q43=>walk_at "f")
  (case q44=>walk_at "f")
  (case q45=>walk_at "f")
  (case q46=>walk_at "f")
  (case q47=>walk_at "f")
  (case q48=>walk_at "f")
  (case q49=>walk_at "f")
  (case q50=>walk_at "f")
  (case q51=>walk_at "f")
  (case q52=>walk_at "f")
  (case q53=>walk_at "f")
  (case q54=>walk_at "f")
  (case q55=>walk_at "f")
  (case q56=>walk_at "f")
  (case q57=>walk_at "f")
  (case q58=>walk_at "f")
  (case q59=>walk_at "f")
  (case q60=>walk_at "f")
  (case q61=>walk_at "f")
  (case q62=>walk_at "f")
  (case a63=>k_is)
  (case l63=>k_is)
  (case c63=>k_is)
  (case k63=>k_is)
  (case i_Filling=>walk_at "c")
  (case na_Filling_low=>k_is)
  (case na_Filling_high=>k_is)
  (case na_Filling_table=>k_is)
  (case na_Filling_wants=>k_is)
  (case na_Filling_rooms=>k_is)
  (case i_Reach=>walk_at "c")
  (case na_Reach_rows=>k_is)
  (case na_Reach_columns=>k_is)
  (case na_Reach_goal=>k_is)
  (case i_Tally=>walk_at "c")
  (case na_Tally_choices=>k_is)
  (case na_Tally_known=>k_is)
  (case g_MOST_COUNTED=>k_is)
  (case hcf=>exact rfl)
  (case hch=>first|exact rfl|k_is)
  (case z_len=>k_is)
  (case z_isinstance=>k_is)
  (case z_int=>k_is)
  (case z_bool=>k_is)
  (case z_list=>k_is)
  (case z_range=>k_is)
  (case z_min=>k_is)
  (case z_max=>k_is)
  (case z_sum=>k_is)
  (case z_sorted=>k_is)
  (case z_tuple=>k_is)
  (case z_zip=>k_is)
  (case z_any=>k_is)
  (case z_reversed=>k_is)
