import PyProof.Rows.All
import Wide.All
import OpenK.AllK
import Wide.FinOn
import Lean
import PyProof.EqAt
import PyProof.EqKinds
import PyProof.TupleCall
import PyProof.DictRoadsH
import PyProof.TupleKey
import PyProof.NeKinds
import PyProof.ZipIter
import KE.KRevIter
import PyProof.ListRange
import KE.LcSums
import PyProof.Rows.MinMaxN
import KE.KTryDeep
import PyProof.ExcArgsOwn
import PyProof.ExcAttrAll.ValueError
import PyProof.MaxThree
import PyProof.AutoSeq1
import KE.KDictSum
import PyProof.Rows.SetFrom
import KE.KIsAll
import KE.RegKIsAll
import PySem.Challenge.RW_evenmix_k64_mix_and_lead_papers
set_option linter.all false
set_option maxRecDepth 100000
namespace L2
open PySem
abbrev PKey := Int × List Int
section
variable {prog : Program} {w : World}
abbrev inner (prog : Program) (w : World) := PySem.intKind prog w
def IsDKey (h : Heap) (k : PKey) (a : Addr) : Prop :=
  ∃ o n t b, h.get? a = some o ∧ o.cls = .type "tuple" ∧ o.data = .seq #[.int k.1 t, .ref b] n ∧ IsTupleKey (inner prog w) h k.2 b
def pairHash (prog : Program) (w : World) (k : PKey) : Int := reduceHash (Builtin.Tuple.tupleHashOf [hashInt k.1, tupleKeyHash (inner prog w) k.2])
theorem IsDKey.ty {s : Shared} {k : PKey} {a : Addr} (x : IsDKey (prog := prog) (w := w) s.heap k a) : s.TypeIs (.ref a) "tuple" := by
  obtain ⟨o, n, t, b, e, c, _⟩ := x
  exact ⟨o, e, c⟩
theorem IsDKey.uniq {h : Heap} {a : Addr} {x y : PKey} (hx : IsDKey (prog := prog) (w := w) h x a) (hy : IsDKey (prog := prog) (w := w) h y a) : x = y := by
  obtain ⟨o, n, t, b, e, c, d, i⟩ := hx
  obtain ⟨o', n', t', b', e', c', d', i'⟩ := hy
  rw [e] at e'
  cases e'
  rw [d] at d'
  injection d' with q1 _
  have q2 := congrArg Array.toList q1
  injection q2 with q3 q4
  injection q3 with q5 _
  injection q4 with q6 _
  injection q6 with q7
  subst q7
  exact Prod.ext q5 (i.inj i')
theorem IsDKey.stays {h h' : Heap} {k : PKey} {a d : Addr} {o : Obj} {es ep} (x : IsDKey (prog := prog) (w := w) h k a) (ho : h.get? d = some o) (hd : o.data = .dict es ep) (hs : Heap.SameBut d h h') : IsDKey (prog := prog) (w := w) h' k a := by
  obtain ⟨o', n, t, b, e, c, q, i⟩ := x
  have ne : a ≠ d := fun z => by
    rw [z, ho] at e
    cases e
    rw [hd] at q
    exact nomatch q
  exact ⟨o', n, t, b, (hs.2 a ne).trans e, c, q, i.keeps ho hd hs⟩
theorem flat_items {p1 p2 : Program} {w1 w2 : World} {ks : List Int} {vs : List Value} (h : ItemsAre (intKind p1 w1) ks vs) : ItemsAre (intKind p2 w2) ks vs := by
  induction h with
  | nil => exact .nil
  | cons a _ ih => exact .cons a ih
theorem flat_any {p1 p2 : Program} {w1 w2 : World} {h : Heap} {ks : List Int} {a : Addr} (x : IsTupleKey (intKind p1 w1) h ks a) : IsTupleKey (intKind p2 w2) h ks a := by
  obtain ⟨o, it, n, e1, e2, e3, e4⟩ := x
  exact ⟨o, it, n, e1, e2, e3, flat_items e4⟩
variable {A : Around} {E : Value → Shared → Prop} {s : Shared}
theorem pair_hash {k : PKey} {a : Addr} {Q : Int → Shared → Prop} (hu : A.units + 2 < cLine) (hk : IsDKey (prog := prog) (w := w) s.heap k a) (h : Q (pairHash prog w k) { s with toks := s.toks + (k.2.length + 3) }) : wpAny (model prog w) A (pyHash (.ref a)) Q E s := by
  have ty := hk.ty
  obtain ⟨o, n, t, b, ho, _, hd, hi⟩ := hk
  unfold pyHash
  first | unfold pyHashByItsType | skip
  first | refine wpAny_bind (wpAny_cRoomFor_or (.inr (by omega)) ?_) | skip
  refine (wpAny_bind (wpAny_specialOf ty F.slot_tuple_hash.lookup ?_))
  show wpAny (model prog w) A (if (some (Value.builtin "tuple.__hash__") == some Value.none) = true then _ else _) Q E s
  rw [if_neg (fun z => by rw [beq_builtin_none] at z; cases z)]
  refine (wpAny_bind (wpAny_specialOf ty F.slot_tuple_hash.lookup ?_))
  show wpAny (model prog w) A (callSpecialIfBoundUnlessNone? (.ref a) "__hash__" _ >>= _) Q E s
  refine wpAny_bind (wpAny_callSpecialIfBoundUnlessNone?_slot ty F.slot_tuple_hash (wpAny_call_entry F.slot_tuple_hash ty F.entry_tuple_hash ?_ (F.args_tuple_hash_1 _)))
  show wpAny (model prog w) _ (Builtin.Tuple.tupleItemsOf (.ref a) >>= _) _ _ s
  refine wpAny_bind (wpAny_tupleItemsOf ho hd (wpAny_bind ?_))
  rw [← Array.forIn_toList]
  refine wpAny_forIn_list _ (fun rest (z : Array Int) s' => (rest = [.int k.1 t, .ref b] ∧ z.toList = [] ∧ s' = s) ∨ (rest = [.ref b] ∧ z.toList = [hashInt k.1] ∧ s' = { s with toks := s.toks + 1 }) ∨ (rest = [] ∧ z.toList = [hashInt k.1, tupleKeyHash (inner prog w) k.2] ∧ s' = { s with toks := s.toks + 1 + (k.2.length + 1) })) _ ?_ ?_ _ _ (.inl ⟨rfl, rfl, rfl⟩)
  · rintro x rest z s' (⟨e1, e2, rfl⟩ | ⟨e1, e2, rfl⟩ | ⟨e1, _⟩)
    · cases e1
      refine wpAny_bind ((inner prog w).pyHash (k := k.1) (by simp [inner, intKind, Value.isInt]) ?_)
      first
        | exact wpAny_pure (.inr (.inl ⟨rfl, by simp [e2]; rfl, rfl⟩))
        | exact wpAny_bind (wpAny_pure (wpAny_pure (.inr (.inl ⟨rfl, by simp [e2]; rfl, rfl⟩))))
    · cases e1
      refine wpAny_bind (wpAny_pyHash_tuple (knd := inner prog w) (ks := k.2) (by first | omega | (show A.in1.units < cLine; show A.units + 1 < cLine; omega)) hi ?_)
      first
        | exact wpAny_pure (.inr (.inr ⟨rfl, by simp [e2], rfl⟩))
        | exact wpAny_bind (wpAny_pure (wpAny_pure (.inr (.inr ⟨rfl, by simp [e2], rfl⟩))))
    · cases e1
  · rintro z s' (⟨e1, _⟩ | ⟨e1, _⟩ | ⟨_, e2, rfl⟩)
    · cases e1
    · cases e1
    show wpAny (model prog w) _ (retInt (Builtin.Tuple.tupleHashOf z.toList)) _ _ _
    rw [e2]
    refine wpAny_ret_mkInt ?_
    unfold pairHash reduceHash at h
    generalize Builtin.Tuple.tupleHashOf [hashInt k.1, tupleKeyHash (inner prog w) k.2] = m at h ⊢
    rw [show s.toks + (k.2.length + 3) = s.toks + 1 + (k.2.length + 1) + 1 by omega] at h
    show wpAny (model prog w) A (if (decide (-(2 : Int) ^ 63 ≤ m) && decide (m < 2 ^ 63)) = true then _ else _) Q E _
    by_cases hr : (decide (-(2 : Int) ^ 63 ≤ m) && decide (m < 2 ^ 63)) = true
    · rw [if_pos hr] at h ⊢
      exact wpAny_pure h
    · rw [if_neg hr] at h ⊢
      exact wpAny_bind (wpAny_rule (wpAny_pure h))
theorem pair_eq {x y : PKey} {a b : Addr} (hu : A.units + 2 < cLine) (hx : IsDKey (prog := prog) (w := w) s.heap x a) (hy : IsDKey (prog := prog) (w := w) s.heap y b) : SeqAt.EqAt A s (.ref a) (.ref b) (decide (x = y)) := by
  by_cases hab : a = b
  · subst hab
    rw [hx.uniq hy, decide_eq_true rfl]
    exact SeqAt.EqAt.same _
  · obtain ⟨o1, n1, t1, b1, g1, c1, d1, i1⟩ := hx
    obtain ⟨o2, n2, t2, b2, g2, c2, d2, i2⟩ := hy
    have r1 : s.heap.IsTuple a #[.int x.1 t1, .ref b1] := ⟨o1, g1, c1, n1, d1⟩
    have r2 : s.heap.IsTuple b #[.int y.1 t2, .ref b2] := ⟨o2, g2, c2, n2, d2⟩
    have inn : SeqAt.EqAt A.in1 s (.ref b1) (.ref b2) (decide (x.2 = y.2)) := fun prog' w' E' Q' q => by
      have := wpAny_eqBool_tuple (prog := prog') (w := w') (knd := intKind prog' w') (A := A.in1) (E := E') (s := s) (x := x.2) (y := y.2) (a := b1) (b := b2) (Q := Q') (by show A.units + 1 < cLine; omega) (flat_any i1) (flat_any i2) q
      exact this
    have key := SeqAt.RcAt.tuples (A := A) (e := fun j => if j = 0 then decide (x.1 = y.1) else decide (x.2 = y.2)) r1 r2 (by omega) (fun j h1 h2 => by
      have hj : j = 0 ∨ j = 1 := by simp at h1; omega
      rcases hj with rfl | rfl
      · have := SeqAt.EqAt.int_int (A := A.in1) (s := s) x.1 t1 y.1 t2
        rw [show (x.1 == y.1) = decide (x.1 = y.1) from rfl] at this
        exact this
      · exact inn)
    refine SeqAt.EqAt.of_refs hab ?_
    have e : decide (x = y) = ((List.range (min (#[Value.int x.1 t1, Value.ref b1] : Array Value).size (#[Value.int y.1 t2, Value.ref b2] : Array Value).size)).all (fun j => if j = 0 then decide (x.1 = y.1) else decide (x.2 = y.2)) && (#[Value.int x.1 t1, Value.ref b1] : Array Value).size == (#[Value.int y.1 t2, Value.ref b2] : Array Value).size) := by
      rw [show (List.range (min (#[Value.int x.1 t1, Value.ref b1] : Array Value).size (#[Value.int y.1 t2, Value.ref b2] : Array Value).size)) = [0, 1] from rfl]
      rw [Bool.eq_iff_iff]
      simp [Prod.ext_iff]
    rw [e]
    exact key
theorem quiet_flat {ks : List Int} {a : Addr} {n : Nat} {Q : Bool → Shared → Prop} (hk : IsTupleKey (inner prog w) s.heap ks a) (h : Q true s) : wpAny (model prog w) A (eqIsQuiet (n + 1) (.ref a)) Q E s := by
  have ty := hk.typeIs
  obtain ⟨o, it, m, ho, _, hd, hi⟩ := hk
  unfold eqIsQuiet
  refine (wpAny_bind (wpAny_specialOf ty F.slot_tuple_eq.lookup ?_))
  show wpAny (model prog w) A (isInstance (.ref a) (.type "tuple") >>= _) Q E s
  refine (wpAny_bind (wpAny_isInstance ty isSubtype_tuple_tuple ?_))
  simp only [Bool.not_true, Bool.false_eq_true, if_false]
  refine (wpAny_bind (wpAny_seqItems ho hd (wpAny_bind ?_)))
  show wpAny (model prog w) A (forIn it _ _) _ E s
  rw [← Array.forIn_toList]
  refine wpAny_forIn_list _ (fun rest r s' => (r.1 = none ∧ s' = s) ∧ ∀ v ∈ rest, carriedByValue v = true) _ ?_ ?_ _ _ ⟨⟨rfl, rfl⟩, hi.byValue⟩
  · rintro v rest r s' ⟨⟨hr, rfl⟩, hall⟩
    rw [eqIsQuiet_byValue _ (hall v List.mem_cons_self)]
    refine wpAny_bind (wpAny_pure ?_)
    simp only [Bool.not_true, Bool.false_eq_true, if_false]
    exact wpAny_pure ⟨⟨rfl, rfl⟩, fun u hu => hall u (List.mem_cons_of_mem _ hu)⟩
  · rintro ⟨r1, r2⟩ s' ⟨⟨hr, rfl⟩, _⟩
    simp only at hr
    subst hr
    exact wpAny_pure h
theorem pair_quiet {k : PKey} {a : Addr} {Q : Bool → Shared → Prop} (hk : IsDKey (prog := prog) (w := w) s.heap k a) (h : Q true s) : wpAny (model prog w) A (eqIsQuiet 8 (.ref a)) Q E s := by
  have ty := hk.ty
  obtain ⟨o, n, t, b, ho, _, hd, hi⟩ := hk
  unfold eqIsQuiet
  refine (wpAny_bind (wpAny_specialOf ty F.slot_tuple_eq.lookup ?_))
  show wpAny (model prog w) A (isInstance (.ref a) (.type "tuple") >>= _) Q E s
  refine (wpAny_bind (wpAny_isInstance ty isSubtype_tuple_tuple ?_))
  simp only [Bool.not_true, Bool.false_eq_true, if_false]
  refine (wpAny_bind (wpAny_seqItems ho hd (wpAny_bind ?_)))
  show wpAny (model prog w) A (forIn (#[Value.int k.1 t, Value.ref b] : Array Value) _ _) _ E s
  rw [← Array.forIn_toList]
  refine wpAny_forIn_list _ (fun rest r s' => (r.1 = none ∧ s' = s) ∧ ∀ v ∈ rest, v = .int k.1 t ∨ v = .ref b) _ ?_ ?_ _ _ ⟨⟨rfl, rfl⟩, fun v hv => by simpa using hv⟩
  · rintro v rest r s' ⟨⟨hr, rfl⟩, hall⟩
    rcases hall v List.mem_cons_self with rfl | rfl
    · rw [eqIsQuiet_byValue _ rfl]
      refine wpAny_bind (wpAny_pure ?_)
      simp only [Bool.not_true, Bool.false_eq_true, if_false]
      exact wpAny_pure ⟨⟨rfl, rfl⟩, fun u hu => hall u (List.mem_cons_of_mem _ hu)⟩
    · refine wpAny_bind (quiet_flat hi ?_)
      simp only [Bool.not_true, Bool.false_eq_true, if_false]
      exact wpAny_pure ⟨⟨rfl, rfl⟩, fun u hu => hall u (List.mem_cons_of_mem _ hu)⟩
  · rintro ⟨r1, r2⟩ s' ⟨⟨hr, rfl⟩, _⟩
    simp only at hr
    subst hr
    exact wpAny_pure h
end
def pairKind (prog : Program) (w : World) : HeapKind prog w PKey where
  is := IsDKey (prog := prog) (w := w)
  hash := pairHash prog w
  draws := fun k => k.2.length + 3
  room := fun A => A.units + 2 < cLine
  inj := fun hx hy => hx.uniq hy
  keeps := fun x ho hd hs => x.stays ho hd hs
  pyHash := fun hu hk h => pair_hash hu hk h
  eqBool := fun hu hx hy h => pair_eq hu hx hy _ _ _ _ h
  quiet := fun hk h => pair_quiet hk h
end L2
set_option Elab.async false
set_option linter.all false
set_option maxRecDepth 100000
namespace L2
open PySem PySem.Spec PyProof.Rows
abbrev Key := Sum Int Str
def keyIs : Key → Value → Bool
  | .inl k, v => Value.isInt k v
  | .inr x, v => Value.isStrOf x v
def keyH (w : World) : Key → Int
  | .inl k => hashInt k
  | .inr x => hashStr w x
theorem keyIs_shape : ∀ {k : Key} {v : Value}, keyIs k v = true → (∃ i t, k = Sum.inl i ∧ v = Value.int i t) ∨ (∃ x t, k = Sum.inr x ∧ v = Value.str x t)
  | .inl i, v, h => by
    obtain ⟨t, e⟩ := Value.isInt_shape (k := i) (v := v) h
    exact .inl ⟨i, t, rfl, e⟩
  | .inr x, v, h => by
    obtain ⟨t, e⟩ := Value.isStrOf_shape (x := x) (v := v) h
    exact .inr ⟨x, t, rfl, e⟩
theorem key_ll (a b : Int) : decide ((Sum.inl a : Key) = Sum.inl b) = (a == b) := by
  by_cases e : a = b
  · subst e; simp
  · have h : ¬ (Sum.inl a : Key) = Sum.inl b := fun q => e (Sum.inl.inj q)
    rw [decide_eq_false h]
    exact (beq_eq_false_iff_ne.mpr e).symm
theorem key_rr (a b : Str) : decide ((Sum.inr a : Key) = Sum.inr b) = decide (a = b) := by
  by_cases e : a = b
  · subst e; simp
  · have h : ¬ (Sum.inr a : Key) = Sum.inr b := fun q => e (Sum.inr.inj q)
    rw [decide_eq_false h, decide_eq_false e]
theorem key_lr (a : Int) (b : Str) : decide ((Sum.inl a : Key) = Sum.inr b) = false := decide_eq_false (fun q => nomatch q)
theorem key_rl (a : Str) (b : Int) : decide ((Sum.inr a : Key) = Sum.inl b) = false := decide_eq_false (fun q => nomatch q)
def mixKind (prog : Program) (w : World) : PySem.KeyKind prog w Key where
  is := keyIs
  hash := keyH w
  inj := fun v a b ha hb => by
    rcases keyIs_shape ha with ⟨i, t, rfl, rfl⟩ | ⟨x, t, rfl, rfl⟩
    · rcases keyIs_shape hb with ⟨j, u, rfl, e⟩ | ⟨y, u, rfl, e⟩
      · injection e with e1 _; rw [e1]
      · exact nomatch e
    · rcases keyIs_shape hb with ⟨j, u, rfl, e⟩ | ⟨y, u, rfl, e⟩
      · exact nomatch e
      · injection e with e1 _; rw [e1]
  byValue := fun k v h => by
    rcases keyIs_shape h with ⟨i, t, rfl, rfl⟩ | ⟨x, t, rfl, rfl⟩ <;> rfl
  pyHash := fun hv h => by
    rcases keyIs_shape hv with ⟨i, t, rfl, rfl⟩ | ⟨x, t, rfl, rfl⟩
    · exact wpAny_pyHash_int h
    · exact wpAny_pyHash_str h
  eqBool := fun hu hv h => by
    rcases keyIs_shape hu with ⟨i, t, rfl, rfl⟩ | ⟨x, t, rfl, rfl⟩
    · rcases keyIs_shape hv with ⟨j, u, rfl, rfl⟩ | ⟨y, u, rfl, rfl⟩
      · rw [key_ll] at h; exact wpAny_eqBool_int h
      · rw [key_lr] at h; exact SeqAt.EqAt.int_str i t y u _ _ _ _ h
    · rcases keyIs_shape hv with ⟨j, u, rfl, rfl⟩ | ⟨y, u, rfl, rfl⟩
      · rw [key_rl] at h; exact SeqAt.EqAt.str_int x t j u _ _ _ _ h
      · rw [key_rr] at h; exact wpAny_eqBool_str h
  «strs» := fun k x t v h => by
    rcases keyIs_shape h with ⟨i, u, rfl, e⟩ | ⟨y, u, rfl, e⟩
    · exact nomatch e
    · injection e with e1 _
      subst e1
      cases v <;> rfl
end L2
namespace L2
open PySem PySem.Spec PyProof.Rows
inductive V where
  | non | bl (b : Bool) | int (i : Int) | str (x : Str) | byt (b : Array UInt8) | flt (b : UInt64) | ref (a : Addr) | ty (n : String)
  deriving DecidableEq
def RelV : V → Value → Prop
  | .non, u => u = Value.none
  | .bl b, u => u = Value.bool b
  | .int i, u => ∃ t, u = Value.int i t
  | .str x, u => ∃ t, u = Value.str x t
  | .byt b, u => ∃ t, u = Value.bytes b t
  | .flt b, u => ∃ t, u = Value.float b t
  | .ref a, u => u = Value.ref a
  | .ty n, u => u = Value.type n
abbrev Vals : List V → List Value → Prop := Paired RelV
theorem Vals.length {xs : List V} {us : List Value} (r : Vals xs us) : xs.length = us.length := Paired.length r
theorem Vals.get : ∀ {xs : List V} {us : List Value} {i : Nat} {x : V}, Vals xs us → xs[i]? = some x → ∃ u, us[i]? = some u ∧ RelV x u
  | _, _, _, _, .nil, e => by simp at e
  | _, _, 0, _, .cons r _, e => by simp at e; subst e; exact ⟨_, rfl, r⟩
  | _, _, i + 1, x, .cons _ t, e => by
    obtain ⟨u, h1, h2⟩ := Vals.get (i := i) (x := x) t (by simpa using e)
    exact ⟨u, by simpa using h1, h2⟩
theorem Vals.set {x : V} {u : Value} (r : RelV x u) : ∀ {xs : List V} {us : List Value} (i : Nat), Vals xs us → Vals (xs.set i x) (us.set i u)
  | _, _, _, .nil => .nil
  | _, _, 0, .cons _ t => .cons r t
  | _, _, i + 1, .cons q t => .cons q (Vals.set r i t)
theorem Vals.append : ∀ {xs ys : List V} {us ws : List Value}, Vals xs us → Vals ys ws → Vals (xs ++ ys) (us ++ ws)
  | _, _, _, _, .nil, s => s
  | _, _, _, _, .cons r t, s => .cons r (Vals.append t s)
theorem Vals.take : ∀ {xs : List V} {us : List Value} (n : Nat), Vals xs us → Vals (xs.take n) (us.take n)
  | _, _, 0, _ => .nil
  | _, _, _ + 1, .nil => .nil
  | _, _, n + 1, .cons r t => .cons r (Vals.take n t)
theorem Vals.drop : ∀ {xs : List V} {us : List Value} (n : Nat), Vals xs us → Vals (xs.drop n) (us.drop n)
  | _, _, 0, r => r
  | _, _, _ + 1, .nil => .nil
  | _, _, n + 1, .cons _ t => Vals.drop n t
def RelO : Option V → Option Value → Prop
  | some v, some u => RelV v u
  | none, none => True
  | _, _ => False
def KV {κ : Type} : List (κ × V) → List (κ × Value) → Prop := Paired fun (p : κ × V) (q : κ × Value) => p.1 = q.1 ∧ RelV p.2 q.2
def kV : Key → V
  | .inl i => .int i
  | .inr x => .str x
inductive HO where
    | lst (xs : List V)
    | tup (xs : List V)
    | dK (kvs : List (Key × V)) | dT (kvs : List (List Key × V))
    | set (S : Int → Bool) (n : Nat)
    | ins (C dx : Addr) (fs : List (Str × V))
    | own (x : Addr)
    | xd (fs : List (Str × V))
    | met (f x : Addr)
    | rng (lo hi : Int)
    | frz (o : Obj) (u : HO)
    | tbl (ps : Array Value)
    | ext (φ : Heap → Prop)
  | memo (φ : Int → List Int → Int → Prop) (ks : List PKey)
abbrev Hp := Addr → Option HO
def upd (H : Hp) (a : Addr) (o : HO) : Hp := fun b => if b = a then some o else H b
theorem upd_same {H : Hp} {a : Addr} {o : HO} : upd H a o a = some o := by unfold upd; rw [if_pos rfl]
theorem upd_ne {H : Hp} {a b : Addr} {o : HO} (h : b ≠ a) : upd H a o b = H b := by unfold upd; rw [if_neg h]
theorem ne_of_none {H : Hp} {a b : Addr} {o : HO} (h : H a = some o) (h' : H b = none) : a ≠ b := by
  intro e; subst e; rw [h] at h'; cases h'
def boxK (k : PKey) : Bool := decide (0 ≤ k.1) && decide (k.1 < 8) && decide (k.2.length ≤ 5) && k.2.all fun e => decide (0 ≤ e) && decide (e < 7)
def MemoAt (H : Hp) (φ : Int → List Int → Int → Prop) (x : PKey × Addr × Value) : Prop := ∃ b n t, H x.2.1 = some (.tup [.int x.1.1, .ref b]) ∧ H b = some (.tup (x.1.2.map V.int)) ∧ x.2.2 = .int n t ∧ φ x.1.1 x.1.2 n ∧ boxK x.1 = true
section
variable (P : Program) (w : World)
def ObjOk (H : Hp) (h : Heap) (a : Addr) : HO → Prop
  | .lst xs => xs.length ≤ sizeLine ∧ ∃ (its : List Value) (n : Nat), Vals xs its ∧ h.get? a = some { cls := .type "list", data := .seq its.toArray n }
  | .tup xs => xs.length ≤ sizeLine ∧ ∃ its : List Value, Vals xs its ∧ IsTup h a its.toArray
  | .dK kvs => kvs.length ≤ sizeLine ∧ (a == sysModules) = false ∧ ∃ vs, KV kvs vs ∧ h.DictOf (mixKind P w) a vs
  | .dT kvs => kvs.length ≤ sizeLine ∧ (a == sysModules) = false ∧ ∃ xs : List (List Key × Addr × Value),
      Paired (fun (p : List Key × V) (q : List Key × Addr × Value) => p.1 = q.1 ∧ H q.2.1 = some (.tup (p.1.map kV)) ∧ RelV p.2 q.2.2) kvs xs ∧
      ∃ o es ep, h.get? a = some o ∧ o.ExactDict ∧ o.data = .dict es ep ∧ es.toList = xs.map (entryOfKey (tupleKind (mixKind P w))) ∧ (xs.map (·.1)).Nodup
  | .set S n => h.SetOf (intKind P w) a S n
  | .ins C dx fs => H dx = some (.own a) ∧ fs.length ≤ 1000 ∧ dx ≠ a ∧ h.get? a = some (PySem.W.instObj C dx) ∧
      ∃ mA, h.Ns1 dx mA ∧ (∀ f, RelO (fs.lookup f) (mA f)) ∧ PySem.Within mA (fs.map (·.1))
  | .own _ => ∃ o, h.get? a = some o
  | .xd fs => ∃ mA, h.Ns1 a mA ∧ ∀ f, RelO (fs.lookup f) (mA f)
  | .rng lo hi => ∃ t u v, h.get? a = some { cls := .type "range", data := .fields #[.int lo t, .int hi u, .int 1 v] }
  | .frz o u => h.get? a = some o ∧ ObjOk H h a u
  | .tbl ps => h.get? a = some { cls := .none, data := .fields ps }
  | .met f x => h.get? a = some (PySem.W.methodObj (.ref f) (.ref x))
  | .memo φ ks => (a == sysModules) = false ∧ ∃ xs : List (PKey × Addr × Value), (∀ x ∈ xs, MemoAt H φ x) ∧ (∀ k ∈ ks, k ∈ xs.map (·.1)) ∧
      ∃ o es ep, h.get? a = some o ∧ o.ExactDict ∧ o.data = .dict es ep ∧ es.toList = xs.map (entryOfKey (pairKind P w)) ∧ (xs.map (·.1)).Nodup
  | .ext φ => φ h ∧ (∃ o, h.get? a = some o) ∧ ∀ h1 h2 : Heap, φ h1 → (∀ o, h1.get? a = some o → h2.get? a = some o) → φ h2
def HOk (H : Hp) (h : Heap) : Prop := ∀ a o, H a = some o → ObjOk P w H h a o
end
section
variable {P : Program} {w : World} {H H' : Hp} {h h' : Heap} {a : Addr} {o : HO}
theorem ObjOk.lt (x : ObjOk P w H h a o) : a < h.objs.size := by
  cases o with
  | lst xs => obtain ⟨_, _, _, _, e⟩ := x; exact Heap.lt_size e
  | tup xs => obtain ⟨_, _, _, p⟩ := x; exact p.lt
  | dK kvs => obtain ⟨_, _, _, _, o, _, _, e, _⟩ := x; exact Heap.lt_size e
  | dT kvs => obtain ⟨_, _, _, _, o, _, _, e, _⟩ := x; exact Heap.lt_size e
  | set S n => obtain ⟨o, _, _, _, e, _⟩ := x; exact Heap.lt_size e
  | ins C dx fs => obtain ⟨_, _, _, e, _⟩ := x; exact Heap.lt_size e
  | own y => obtain ⟨_, e⟩ := x; exact Heap.lt_size e
  | xd fs => obtain ⟨_, ⟨_, _, _, e, _⟩, _⟩ := x; exact Heap.lt_size e
  | rng lo hi => obtain ⟨_, _, _, e⟩ := x; exact Heap.lt_size e
  | frz ob u => obtain ⟨e, _⟩ := x; exact Heap.lt_size e
  | tbl ps => exact Heap.lt_size (show h.get? a = some _ from x)
  | met f y => exact Heap.lt_size (show h.get? a = some _ from x)
  | ext φ => obtain ⟨_, ⟨_, e⟩, _⟩ := x; exact Heap.lt_size e
  | memo φ ks => obtain ⟨_, _, _, _, _, _, _, e, _⟩ := x; exact Heap.lt_size e
theorem Paired.mapP {α β : Type} {F G : α → β → Prop} : ∀ {l₁ : List α} {l₂ : List β}, Paired F l₁ l₂ → (∀ a b, F a b → G a b) → Paired G l₁ l₂
  | _, _, .nil, _ => .nil
  | _, _, .cons r t, f => .cons (f _ _ r) (Paired.mapP t f)
theorem ObjOk.stay (x : ObjOk P w H h a o) (k : ∀ b u, (b = a ∨ H b = some (.own a)) → h.get? b = some u → h'.get? b = some u)
    (ho : ∀ b, H b = some (.own a) → H' b = some (.own a)) (ht : ∀ b xs, H b = some (.tup xs) → H' b = some (.tup xs)) : ObjOk P w H' h' a o := by
  induction o with
  | lst xs => obtain ⟨z, its, n, r, e⟩ := x; exact ⟨z, its, n, r, k _ _ (.inl rfl) e⟩
  | tup xs => obtain ⟨z, its, r, ob, e, c⟩ := x; exact ⟨z, its, r, ob, k _ _ (.inl rfl) e, c⟩
  | dK kvs => obtain ⟨z, y, vs, r, ob, es, ep, e, c⟩ := x; exact ⟨z, y, vs, r, ob, es, ep, k _ _ (.inl rfl) e, c⟩
  | dT kvs =>
    obtain ⟨z, y, xs, r, ob, es, ep, e, c⟩ := x
    exact ⟨z, y, xs, Paired.mapP r fun p q z => ⟨z.1, ht _ _ z.2.1, z.2.2⟩, ob, es, ep, k _ _ (.inl rfl) e, c⟩
  | set S n => obtain ⟨ob, es, ep, t, e, c⟩ := x; exact ⟨ob, es, ep, t, k _ _ (.inl rfl) e, c⟩
  | ins C dx fs =>
    obtain ⟨d, z, ne, e, mA, ⟨od, es, ep, e2, c⟩, r⟩ := x
    exact ⟨ho _ d, z, ne, k _ _ (.inl rfl) e, mA, ⟨od, es, ep, k _ _ (.inr d) e2, c⟩, r⟩
  | own y => obtain ⟨ob, e⟩ := x; exact ⟨ob, k _ _ (.inl rfl) e⟩
  | xd fs => obtain ⟨mA, ⟨od, es, ep, e, c⟩, r⟩ := x; exact ⟨mA, ⟨od, es, ep, k _ _ (.inl rfl) e, c⟩, r⟩
  | rng lo hi => obtain ⟨t, u, v, e⟩ := x; exact ⟨t, u, v, k _ _ (.inl rfl) e⟩
  | frz ob u ih => obtain ⟨e, q⟩ := x; exact ⟨k _ _ (.inl rfl) e, ih q⟩
  | tbl ps =>
    have e : h.get? a = some { cls := .none, data := .fields ps } := x
    show h'.get? a = some { cls := .none, data := .fields ps }
    exact k a _ (.inl rfl) e
  | met f y =>
    have e : h.get? a = some (PySem.W.methodObj (.ref f) (.ref y)) := x
    show h'.get? a = some (PySem.W.methodObj (.ref f) (.ref y))
    exact k a _ (.inl rfl) e
  | memo φ ks =>
    obtain ⟨y, xs, hx, hk, ob, es, ep, e, c⟩ := x
    exact ⟨y, xs, fun z hz => let ⟨b, n, t, q1, q2, q3⟩ := hx z hz; ⟨b, n, t, ht _ _ q1, ht _ _ q2, q3⟩, hk, ob, es, ep, k _ _ (.inl rfl) e, c⟩
  | ext φ => obtain ⟨p, ⟨o, e⟩, st⟩ := x; exact ⟨st _ _ p fun o q => k _ _ (.inl rfl) q, ⟨o, k _ _ (.inl rfl) e⟩, st⟩
theorem HOk.lt (x : HOk P w H h) (e : H a = some o) : a < h.objs.size := (x a o e).lt
theorem HOk.fresh (x : HOk P w H h) (e : h.objs.size ≤ a) : H a = none := by
  cases q : H a with
  | none => rfl
  | some u => exact absurd (Nat.lt_of_lt_of_le (x.lt q) e) (Nat.lt_irrefl _)
theorem HOk.kept (x : HOk P w H h) (k : ∀ b u, h.get? b = some u → h'.get? b = some u) : HOk P w H h' := fun a o e =>
  (x a o e).stay (fun b u _ q => k b u q) (fun _ q => q) fun _ _ q => q
theorem HOk.laid (x : HOk P w H h) (k : ∀ b u, h.get? b = some u → h'.get? b = some u) (hp : h.objs.size ≤ a) (new : ObjOk P w (upd H a o) h' a o) : HOk P w (upd H a o) h' := fun b u e => by
  have hn := x.fresh hp
  by_cases hb : b = a
  · subst hb; rw [upd_same] at e; cases e; exact new
  · rw [upd_ne hb] at e
    exact (x b u e).stay (fun c v _ q => k c v q) (fun c q => by rw [upd_ne (ne_of_none q hn)]; exact q) fun c xs q => by rw [upd_ne (ne_of_none q hn)]; exact q
end
def Rd (H : Hp) (a : Addr) (u : HO) : Prop := H a = some u ∨ ∃ o, H a = some (.frz o u)
theorem Rd.ok {P : Program} {w : World} {H : Hp} {h : Heap} {a : Addr} {u : HO} (r : Rd H a u) (x : HOk P w H h) : ObjOk P w H h a u := by
  rcases r with r | ⟨o, r⟩
  · exact x a u r
  · obtain ⟨_, q⟩ := x a _ r
    exact q
def Mut : Option HO → Prop
  | some (.lst _) => True
  | some (.dK _) => True
  | some (.dT _) => True
  | some (.set _ _) => True
  | some (.ins _ _ _) => True
  | some (.ext _) => True
  | some (.memo _ _) => True
  | _ => False
section
variable {P : Program} {w : World} {H : Hp} {h h' : Heap} {x e : Addr} {o' : HO}
theorem HOk.write (ok : HOk P w H h) (mu : Mut (H x)) (he : e = x ∨ H e = some (.own x)) (k : ∀ b u, b ≠ e → h.get? b = some u → h'.get? b = some u) (heo : ∃ u, h'.get? e = some u)
    (new : ObjOk P w (upd H x o') h' x o') : HOk P w (upd H x o') h' := fun b u q => by
  have nown : ∀ c y, H c = some (.own y) → c ≠ x := fun c y r z => by subst z; rw [r] at mu; exact mu
  have ntup : ∀ c xs, H c = some (.tup xs) → c ≠ x := fun c xs r z => by subst z; rw [r] at mu; exact mu
  by_cases hb : b = x
  · subst hb; rw [upd_same] at q; cases q; exact new
  · rw [upd_ne hb] at q
    by_cases hbe : b = e
    · have q' : H b = some (.own x) := by
        rcases he with z | z
        · exact absurd (hbe.trans z) hb
        · rw [hbe]; exact z
      rw [q] at q'; cases q'
      obtain ⟨v, hv⟩ := heo
      exact ⟨v, by rw [hbe]; exact hv⟩
    · refine (ok b u q).stay (fun c v hc r => k c v ?_ r) (fun c r => by rw [upd_ne (nown c b r)]; exact r) fun c xs r => by rw [upd_ne (ntup c xs r)]; exact r
      rcases hc with rfl | hc
      · exact hbe
      · rintro rfl
        rcases he with z | z
        · exact nown c b hc z
        · rw [hc] at z; cases z; exact hb rfl
end
structure Un (fs ex : List Addr) (H H' : Hp) (h h' : Heap) : Prop where
  keep : ∀ b o, h.get? b = some o → H b = none → b ∉ fs → b ∉ ex → h'.get? b = some o
  slot : ∀ b o, h.get? b = some o → H b = none → b ∈ fs → b ∉ ex → ∃ sl, h'.get? b = some { o with slots := sl }
  free : ∀ b o, h.get? b = some o → H b = none → b ∉ ex → H' b = none
  there : ∀ b o, h.get? b = some o → b ∉ ex → ∃ o', h'.get? b = some o'
  tups : ∀ b xs, H b = some (.tup xs) → H' b = some (.tup xs)
  frzs : ∀ b o u, H b = some (.frz o u) → H' b = some (.frz o u)
  tbls : ∀ b ps, H b = some (.tbl ps) → ∃ more, H' b = some (.tbl (ps ++ more))
section
variable {fs fs' ex ex' : List Addr} {H H1 H2 : Hp} {h h1 h2 h' : Heap} {a x e : Addr} {o : HO}
theorem Un.any (u : Un fs ex H H1 h h1) {b : Addr} {ob : Obj} (q : h.get? b = some ob) (n : H b = none) (hx : b ∉ ex) : ∃ sl, h1.get? b = some { ob with slots := sl } := by
  by_cases hb : b ∈ fs
  · exact u.slot b ob q n hb hx
  · exact ⟨ob.slots, u.keep b ob q n hb hx⟩
theorem Un.kept (k : ∀ b u, h.get? b = some u → h'.get? b = some u) : Un fs ex H H h h' :=
  ⟨fun b ob q _ _ _ => k b ob q, fun b ob q _ _ _ => ⟨ob.slots, k b ob q⟩, fun _ _ _ n _ => n, fun b ob q _ => ⟨ob, k b ob q⟩, fun _ _ q => q, fun _ _ _ q => q, fun _ ps q => ⟨#[], by rw [q]; simp⟩⟩
theorem Un.refl : Un fs ex H H h h := Un.kept fun _ _ q => q
theorem Un.laid (k : ∀ b u, h.get? b = some u → h'.get? b = some u) (hp : h.objs.size ≤ a) (hn : H a = none) : Un fs ex H (upd H a o) h h' where
  keep := fun b u q _ _ _ => k b u q
  slot := fun b u q _ _ _ => ⟨u.slots, k b u q⟩
  free := fun b u q n _ => by rw [upd_ne (Nat.ne_of_lt (Nat.lt_of_lt_of_le (Heap.lt_size q) hp))]; exact n
  there := fun b u q _ => ⟨u, k b u q⟩
  tups := fun b xs q => by rw [upd_ne (ne_of_none q hn)]; exact q
  frzs := fun b u xs q => by rw [upd_ne (ne_of_none q hn)]; exact q
  tbls := fun b ps q => ⟨#[], by rw [upd_ne (ne_of_none q hn), q]; simp⟩
theorem Un.write (mu : Mut (H x)) (he : e = x ∨ H e = some (.own x)) (k : ∀ b u, b ≠ e → h.get? b = some u → h'.get? b = some u) (heo : ∃ u, h'.get? e = some u) : Un fs ex H (upd H x o) h h' := by
  have hx : ∀ b, H b = none → b ≠ x := fun b n z => by subst z; rw [n] at mu; exact mu
  have hb : ∀ b, H b = none → b ≠ e := fun b n z => by
    subst z
    rcases he with r | r
    · exact hx b n r
    · rw [n] at r; cases r
  have hm : ∀ b u, H b = some u → ¬ Mut (some u) → b ≠ x := fun b u q nm z => by subst z; rw [q] at mu; exact nm mu
  refine ⟨fun b u q n _ _ => k b u (hb b n) q, fun b u q n _ _ => ⟨u.slots, k b u (hb b n) q⟩, fun b u q n _ => by rw [upd_ne (hx b n)]; exact n, fun b u q _ => ?_,
    fun b xs q => by rw [upd_ne (hm b _ q fun z => z)]; exact q, fun b u xs q => by rw [upd_ne (hm b _ q fun z => z)]; exact q, fun b ps q => ⟨#[], by rw [upd_ne (hm b _ q fun z => z), q]; simp⟩⟩
  by_cases hbe : b = e
  · subst hbe; exact heo
  · exact ⟨u, k b u hbe q⟩
end
def trk (h : Heap) (H : Hp) : List Addr := (List.range h.objs.size).filter fun a => (H a).isSome
def hidT (h : Heap) (H : Hp) : Heap := PySem.W.hideAll h (trk h H)
theorem hidT_size (h : Heap) (H : Hp) : (hidT h H).objs.size = h.objs.size := PySem.W.hideAll_size _ _
theorem hidT_get {h : Heap} {H : Hp} {b : Addr} {o : Obj} (e : h.get? b = some o) (n : H b = none) : (hidT h H).get? b = some o :=
  PySem.W.hideAll_get _ e fun hm => by
    have q : (H b).isSome = true := (List.mem_filter.mp hm).2
    rw [n] at q; simp at q
theorem of_hidT {h : Heap} {H : Hp} {b : Addr} {o : Obj} (e : (hidT h H).get? b = some o) : h.get? b = some o ∧ H b = none := by
  have e' : h.get? b = some o := PySem.W.of_hideAll (trk h H) e
  refine ⟨e', ?_⟩
  cases q : H b with
  | none => rfl
  | some x =>
    have hm : b ∈ trk h H := List.mem_filter.mpr ⟨List.mem_range.mpr (Heap.lt_size e'), by simp [q]⟩
    have z : (hidT h H).get? b = none := PySem.W.hideAll_none (trk h H) hm
    rw [z] at e; cases e
end L2
namespace L2
open PySem PySem.Spec PyProof.Rows
structure Mod (K : PySem.W.Frag) (mg : Str → Option Value) (base : Heap) : Prop where
  kin : K.In base
  glob : base.Ns mainGlobals mg
  blt : ∃ mb, base.Ns builtinsNs mb ∧ ∀ x : Str, x ≠ "__name__" → mb x = bootBuiltins x
  nolimit : base.NoLimit
structure Cx where
  prog : Program
  w : World
  K : PySem.W.Frag
  mg : Str → Option Value
  base : Heap
  A : Around
  N : List Str
  s₀ : Shared
  H₀ : Hp
  env : Env
  outer : List Env
  stack : List Env
  ex : List Addr
  fn : Str → Bool
  calm : Bool
  pn : List (Addr × Obj)
  xe : Value → Shared → Prop
def frs (l : List Env) : List Addr := l.filterMap (·.frame)
abbrev Cx.fs (X : Cx) : List Addr := frs X.outer
def Vis (sc : Scope) (x : Str) : Prop := sc.names.lookup x = some .local ∨ sc.names.lookup x = some .cell ∨ sc.names.lookup x = some .free
def Loc (sc : Scope) (x : Str) : Prop := sc.names.lookup x = some .local ∨ sc.names.lookup x = some .cell
def Look (env : Env) (h : Heap) (m : Str → Option Value) (x : Str) (u : Value) : Prop :=
  (env.kindOf x = some .local ∧ m x = some u) ∨ ((env.kindOf x = some .cell ∨ env.kindOf x = some .free) ∧ ∃ c, env.cells.lookup x = some c ∧ h.IsCell c (some u))
structure Cx.Ok (X : Cx) : Prop where
  mod : Mod X.K X.mg X.base
  kind : X.env.scope.kind = .function
  glob : X.env.globals = mainGlobals
  blt : X.env.builtins = builtinsNs
  above : X.s₀.heap.objs.size ≤ X.env.locals
  inj : ∀ x y c, X.env.cells.lookup x = some c → X.env.cells.lookup y = some c → x = y
  has : ∀ x, (X.env.kindOf x = some .cell ∨ X.env.kindOf x = some .free) → ∃ c, X.env.cells.lookup x = some c
  cab : ∀ x c, X.fn x = true → X.env.cells.lookup x = some c → X.s₀.heap.objs.size ≤ c
  hd : X.calm = true → X.A.handled = none
  frames : X.A.frames = some X.stack
  stk : X.stack = X.outer ∨ (X.stack = X.env :: X.outer ∧ X.env.frame = some X.env.locals)
  exf : ∀ b ∈ X.ex, b ≠ X.env.locals ∧ ∀ x c, X.env.cells.lookup x = some c → c ≠ b
  bs : ∀ b o, X.base.get? b = some o → X.s₀.heap.get? b = some o ∧ X.H₀ b = none
  bsz : X.base.objs.size ≤ X.s₀.heap.objs.size
  noex : ∀ b o, X.base.get? b = some o → b ∉ X.ex
  exfs : ∀ b ∈ X.ex, b ∉ X.fs
  funs : X.s₀.heap.FunFrames X.base X.outer
  frf : ∀ b ∈ X.fs, X.H₀ b = none
structure Inv (X : Cx) (pins : List (Addr × Obj)) (σ : List (Option V)) (H : Hp) (s : Shared) : Prop where
  ok : X.Ok
  os : s.os = X.s₀.os
  bare : AllBare s.gens
  base : Un X.fs X.ex X.H₀ H X.s₀.heap s.heap
  loc : ∃ m, s.heap.Ns X.env.locals m ∧ ∀ (i : Nat) (x : Str) (v : V), X.N[i]? = some x → σ[i]? = some (some v) → Vis X.env.scope x → ∃ u, RelV v u ∧ Look X.env s.heap m x u
  cell : ∀ x c, X.env.cells.lookup x = some c → ∃ v, s.heap.IsCell c v
  free : H X.env.locals = none
  freeC : ∀ x c, X.env.cells.lookup x = some c → H c = none
  pin : ∀ p ∈ X.pn ++ pins, s.heap.get? p.1 = some p.2 ∧ H p.1 = none ∧ p.1 ≠ X.env.locals ∧ p.1 ∉ X.fs ∧ ∀ v, p.2.data ≠ .cell v
  hok : HOk X.prog X.w H s.heap
  len : σ.length = X.N.length
section
variable {X : Cx} {pins : List (Addr × Obj)} {σ : List (Option V)} {H H' : Hp} {s : Shared} {h' : Heap}
theorem Cx.Ok.nofr (ok : X.Ok) {b : Addr} {o : Obj} (e : X.base.get? b = some o) : b ∉ X.fs := fun hb => by
  have := (ok.funs.mem hb).1
  rw [e] at this; cases this
theorem Inv.bs (I : Inv X pins σ H s) : ∀ b o, X.base.get? b = some o → s.heap.get? b = some o ∧ H b = none := fun b o e =>
  ⟨I.base.keep b o (I.ok.bs b o e).1 (I.ok.bs b o e).2 (I.ok.nofr e) (I.ok.noex b o e), I.base.free b o (I.ok.bs b o e).1 (I.ok.bs b o e).2 (I.ok.noex b o e)⟩
theorem Inv.bk (I : Inv X pins σ H s) : ∀ b o, X.base.get? b = some o → s.heap.get? b = some o := fun b o e => (I.bs b o e).1
theorem Inv.mod (I : Inv X pins σ H s) : Mod X.K X.mg X.base := I.ok.mod
theorem Inv.kIn (I : Inv X pins σ H s) : X.K.In s.heap := I.ok.mod.kin.keeps I.bk
theorem Inv.lt (I : Inv X pins σ H s) : X.env.locals < s.heap.objs.size := let ⟨_, hn, _⟩ := I.loc; hn.lt
theorem Inv.sz (I : Inv X pins σ H s) : X.s₀.heap.objs.size ≤ s.heap.objs.size := Nat.le_trans I.ok.above (Nat.le_of_lt I.lt)
theorem Inv.nofs (I : Inv X pins σ H s) {a : Addr} (h : s.heap.objs.size ≤ a) : a ∉ X.fs := fun hb => by
  obtain ⟨_, o, ho, _⟩ := I.ok.funs.mem hb
  exact absurd (Nat.lt_of_lt_of_le (Heap.lt_size ho) (Nat.le_trans I.sz h)) (Nat.lt_irrefl _)
theorem Inv.cne (I : Inv X pins σ H s) : ∀ x c, X.env.cells.lookup x = some c → c ≠ X.env.locals := fun x c e z => by
  obtain ⟨v, o, ho, hd⟩ := I.cell x c e
  obtain ⟨m, ⟨o', es, ep, ho', hd', _⟩, _⟩ := I.loc
  rw [z, ho'] at ho; cases ho; rw [hd'] at hd; cases hd
theorem Inv.funs (I : Inv X pins σ H s) : s.heap.FunFrames X.base X.outer := by
  have all : ∀ (l : List Env), (∀ b ∈ frs l, b ∈ X.fs) → X.s₀.heap.FunFrames X.base l → s.heap.FunFrames X.base l := by
    intro l
    induction l with
    | nil => intro _ _; trivial
    | cons env r ih =>
      intro hs hl
      obtain ⟨hk, ⟨L, o, hf, hn, ho, hd⟩, hr⟩ := hl
      have hL : L ∈ X.fs := hs L (by unfold frs; rw [List.filterMap_cons, hf]; exact List.mem_cons_self)
      obtain ⟨sl, e⟩ := I.base.slot L o ho (I.ok.frf L hL) hL fun z => I.ok.exfs L z hL
      exact ⟨hk, ⟨L, _, hf, hn, e, hd⟩, ih (fun b hb => hs b (by unfold frs; rw [List.filterMap_cons, hf]; exact List.mem_cons_of_mem _ hb)) hr⟩
  exact all X.outer (fun _ hb => hb) I.ok.funs
theorem Inv.stack (I : Inv X pins σ H s) : s.heap.FunFrames X.base X.stack := by
  rcases I.ok.stk with e | ⟨e, hf⟩
  · rw [e]; exact I.funs
  · rw [e]
    obtain ⟨m, hn, _⟩ := I.loc
    refine .cons (by rw [I.ok.kind]; decide) hf hn ?_ I.funs
    exact Heap.get?_none_of_le (Nat.le_trans I.ok.bsz I.ok.above)
theorem Inv.stkSub (I : Inv X pins σ H s) : ∀ b ∈ frs X.stack, b ∈ X.env.locals :: X.fs := fun b hb => by
  rcases I.ok.stk with e | ⟨e, hf⟩
  · rw [e] at hb; exact List.mem_cons_of_mem _ hb
  · rw [e] at hb
    unfold frs at hb
    rw [List.filterMap_cons, hf] at hb
    exact hb
theorem Inv.stkFree (I : Inv X pins σ H s) : ∀ b ∈ frs X.stack, H b = none := fun b hb => by
  rcases List.mem_cons.mp (I.stkSub b hb) with e | hb
  · rw [e]; exact I.free
  · obtain ⟨_, o, ho, _⟩ := I.ok.funs.mem hb
    exact I.base.free b o ho (I.ok.frf b hb) fun z => I.ok.exfs b z hb
theorem Inv.step {g' : Array GenState} {t' : Nat} {d' : Drawn} {ch : List Addr} (I : Inv X pins σ H s)
    (hch : ∀ b ∈ ch, (b ∈ X.ex ∨ X.s₀.heap.objs.size ≤ b) ∧ b ≠ X.env.locals ∧ (∀ x c, X.env.cells.lookup x = some c → c ≠ b) ∧ ∀ p ∈ X.pn ++ pins, p.1 ≠ b)
    (keep : ∀ b o, b ≠ X.env.locals → b ∉ X.fs → b ∉ ch → s.heap.get? b = some o → H b = none → h'.get? b = some o)
    (slot : ∀ b o, b ≠ X.env.locals → b ∈ X.fs → b ∉ ch → s.heap.get? b = some o → H b = none → ∃ sl, h'.get? b = some { o with slots := sl }) (free : ∀ b o, b ∉ ch → s.heap.get? b = some o → H b = none → H' b = none)
    (there : ∀ b o, b ∉ ch → s.heap.get? b = some o → ∃ o', h'.get? b = some o')
    (tups : ∀ b xs, H b = some (.tup xs) → H' b = some (.tup xs)) (frzs : ∀ b o u, H b = some (.frz o u) → H' b = some (.frz o u)) (tbls : ∀ b ps, H b = some (.tbl ps) → ∃ more, H' b = some (.tbl (ps ++ more)))
    (ns : ∀ m, s.heap.Ns X.env.locals m → h'.Ns X.env.locals m) (hok : HOk X.prog X.w H' h') (hg : AllBare g') :
    Inv X pins σ H' { s with heap := h', gens := g', drawn := d', toks := t' } := by
  have neL : ∀ b o, X.s₀.heap.get? b = some o → b ≠ X.env.locals := fun b o e => Nat.ne_of_lt (Nat.lt_of_lt_of_le (Heap.lt_size e) I.ok.above)
  have neC : ∀ b o, X.s₀.heap.get? b = some o → b ∉ X.ex → b ∉ ch := fun b o e hx hb => by
    rcases (hch b hb).1 with z | z
    · exact hx z
    · exact absurd (Nat.lt_of_lt_of_le (Heap.lt_size e) z) (Nat.lt_irrefl _)
  have cellK : ∀ x c, X.env.cells.lookup x = some c → ∀ v, s.heap.IsCell c v → h'.IsCell c v := fun x c e v ⟨o, ho, hd⟩ => by
    have nch : c ∉ ch := fun z => (hch c z).2.2.1 x c e rfl
    by_cases hc : c ∈ X.fs
    · obtain ⟨sl, q⟩ := slot c o (I.cne x c e) hc nch ho (I.freeC x c e)
      exact ⟨_, q, hd⟩
    · exact ⟨o, keep c o (I.cne x c e) hc nch ho (I.freeC x c e), hd⟩
  refine ⟨I.ok, I.os, hg, ⟨fun b o e n hb hx => ?_, fun b o e n hb hx => ?_, fun b o e n hx => ?_, fun b o e hx => ?_, fun b xs e => tups b xs (I.base.tups b xs e), fun b o xs e => frzs b o xs (I.base.frzs b o xs e), fun b ps e => ?_⟩, ?_, fun x c e => ?_, ?_, fun x c e => ?_, fun p hp => ?_, hok, I.len⟩
  · exact keep b o (neL b o e) hb (neC b o e hx) (I.base.keep b o e n hb hx) (I.base.free b o e n hx)
  · obtain ⟨sl, e1⟩ := I.base.slot b o e n hb hx
    obtain ⟨sl', e2⟩ := slot b _ (neL b o e) hb (neC b o e hx) e1 (I.base.free b o e n hx)
    exact ⟨sl', e2⟩
  · obtain ⟨o', e1⟩ := I.base.there b o e hx
    exact free b o' (neC b o e hx) e1 (I.base.free b o e n hx)
  · obtain ⟨o', e1⟩ := I.base.there b o e hx
    exact there b o' (neC b o e hx) e1
  · obtain ⟨m1, e1⟩ := I.base.tbls b ps e
    obtain ⟨m2, e2⟩ := tbls b _ e1
    exact ⟨m1 ++ m2, by rw [e2, Array.append_assoc]⟩
  · obtain ⟨m, hn, hl⟩ := I.loc
    refine ⟨m, ns m hn, fun i x v e1 e2 e3 => ?_⟩
    obtain ⟨u, r, l⟩ := hl i x v e1 e2 e3
    refine ⟨u, r, ?_⟩
    rcases l with l | ⟨k, c, e, z⟩
    · exact .inl l
    · exact .inr ⟨k, c, e, cellK x c e _ z⟩
  · obtain ⟨v, z⟩ := I.cell x c e
    exact ⟨v, cellK x c e v z⟩
  · obtain ⟨m, ⟨o, _, _, ho, _⟩, _⟩ := I.loc
    exact free _ o (fun z => (hch _ z).2.1 rfl) ho I.free
  · obtain ⟨v, o, ho, hd⟩ := I.cell x c e
    exact free c o (fun z => (hch c z).2.2.1 x c e rfl) ho (I.freeC x c e)
  · obtain ⟨e, n, ne, nf, d⟩ := I.pin p hp
    have nch : p.1 ∉ ch := fun z => (hch p.1 z).2.2.2 p hp rfl
    exact ⟨keep p.1 p.2 ne nf nch e n, free p.1 p.2 nch e n, ne, nf, d⟩
theorem Inv.un {t' : Nat} (I : Inv X pins σ H s) (u : Un X.fs [] H H' s.heap h') (hok : HOk X.prog X.w H' h') : Inv X pins σ H' { s with heap := h', toks := t' } := by
  obtain ⟨m, ⟨o, es, ep, ho, r⟩, _⟩ := id I.loc
  obtain ⟨sl, hL⟩ := u.any ho I.free (by simp)
  exact I.step (g' := s.gens) (d' := s.drawn) (ch := []) (fun _ z => nomatch z) (fun b o _ hb _ e n => u.keep b o e n hb (by simp)) (fun b o _ hb _ e n => u.slot b o e n hb (by simp)) (fun b o _ e n => u.free b o e n (by simp)) (fun b o _ e => u.there b o e (by simp)) u.tups u.frzs u.tbls (fun m' hm => by
    obtain ⟨o', es', ep', ho', r'⟩ := hm
    rw [ho] at ho'; cases ho'
    exact ⟨_, es', ep', hL, r'⟩) hok I.bare
theorem Inv.call {g' : Array GenState} {t' : Nat} {d' : Drawn} {ch : List Addr} (I : Inv X pins σ H s) (u : Un (frs X.stack) ch H H' s.heap h') (hok : HOk X.prog X.w H' h') (hg : AllBare g')
    (hch : ∀ b ∈ ch, (b ∈ X.ex ∨ X.s₀.heap.objs.size ≤ b) ∧ b ≠ X.env.locals ∧ (∀ x c, X.env.cells.lookup x = some c → c ≠ b) ∧ ∀ p ∈ X.pn ++ pins, p.1 ≠ b) :
    Inv X pins σ H' { s with heap := h', gens := g', drawn := d', toks := t' } := by
  obtain ⟨m, ⟨o, es, ep, ho, r⟩, _⟩ := id I.loc
  obtain ⟨sl, hL⟩ := u.any ho I.free fun z => (hch _ z).2.1 rfl
  exact I.step (ch := ch) hch (fun b o hL hb hc e n => u.keep b o e n (fun z => (List.mem_cons.mp (I.stkSub b z)).elim hL hb) hc) (fun b o _ _ hc e n => u.any e n hc) (fun b o hc e n => u.free b o e n hc) (fun b o hc e => u.there b o e hc) u.tups u.frzs u.tbls (fun m' hm => by
    obtain ⟨o', es', ep', ho', r'⟩ := hm
    rw [ho] at ho'; cases ho'
    exact ⟨_, es', ep', hL, r'⟩) hok hg
theorem Inv.turned {t' : Nat} {it : Addr} (I : Inv X pins σ H s) (k : ∀ b o, b ≠ it → s.heap.get? b = some o → h'.get? b = some o) (hn : H it = none) (hL : it ≠ X.env.locals)
    (h1 : it ∈ X.ex ∨ X.s₀.heap.objs.size ≤ it) (h2 : ∀ x c, X.env.cells.lookup x = some c → c ≠ it) (h3 : ∀ p ∈ X.pn ++ pins, p.1 ≠ it) : Inv X pins σ H { s with heap := h', toks := t' } := by
  have nit : ∀ b u, H b = some u → b ≠ it := fun b u e z => by rw [z, hn] at e; cases e
  refine I.step (g' := s.gens) (d' := s.drawn) (ch := [it]) (fun b hb => ?_) (fun b o _ _ hc e _ => k b o (fun z => hc (by simp [z])) e) (fun b o _ _ hc e _ => ⟨o.slots, k b o (fun z => hc (by simp [z])) e⟩) (fun _ _ _ _ n => n)
    (fun b o hc e => ⟨o, k b o (fun z => hc (by simp [z])) e⟩) (fun _ _ e => e) (fun _ _ _ e => e) (fun b ps e => ⟨#[], by rw [e]; simp⟩) (fun m hm => ?_) (fun b u e => ?_) I.bare
  · have e : b = it := by simpa using hb
    subst e
    exact ⟨h1, hL, h2, h3⟩
  · obtain ⟨o, es, ep, ho, r⟩ := hm
    exact ⟨o, es, ep, k _ o (Ne.symm hL) ho, r⟩
  · refine (I.hok b u e).stay (fun c v hc q => k c v ?_ q) (fun _ q => q) fun _ _ q => q
    rcases hc with z | z
    · rw [z]; exact nit b u e
    · exact nit c _ z
theorem Inv.tok (I : Inv X pins σ H s) (t : Nat) : Inv X pins σ H { s with toks := t } := I.un (h' := s.heap) (t' := t) Un.refl I.hok
theorem Inv.kept {t' : Nat} (I : Inv X pins σ H s) (k : ∀ b u, s.heap.get? b = some u → h'.get? b = some u) : Inv X pins σ H { s with heap := h', toks := t' } := I.un (Un.kept k) (I.hok.kept k)
theorem Inv.laid {a : Addr} {o : HO} {t' : Nat} (I : Inv X pins σ H s) (k : ∀ b u, s.heap.get? b = some u → h'.get? b = some u) (hp : s.heap.objs.size ≤ a) (new : ObjOk X.prog X.w (upd H a o) h' a o) :
    Inv X pins σ (upd H a o) { s with heap := h', toks := t' } := I.un (Un.laid k hp (I.hok.fresh hp)) (I.hok.laid k hp new)
theorem Inv.write {x e : Addr} {o : HO} {t' : Nat} (I : Inv X pins σ H s) (mu : Mut (H x)) (he : e = x ∨ H e = some (.own x)) (k : ∀ b u, b ≠ e → s.heap.get? b = some u → h'.get? b = some u) (heo : ∃ u, h'.get? e = some u)
    (new : ObjOk X.prog X.w (upd H x o) h' x o) : Inv X pins σ (upd H x o) { s with heap := h', toks := t' } := I.un (Un.write mu he k heo) (I.hok.write mu he k heo new)
theorem Inv.weak {σ' : List (Option V)} (I : Inv X pins σ H s) (hl : σ'.length = σ.length) (w : ∀ (i : Nat) v, σ'[i]? = some (some v) → σ[i]? = some (some v)) : Inv X pins σ' H s :=
  ⟨I.ok, I.os, I.bare, I.base, let ⟨m, hn, hl'⟩ := I.loc; ⟨m, hn, fun i x v e1 e2 e3 => hl' i x v e1 (w i v e2) e3⟩, I.cell, I.free, I.freeC, I.pin, I.hok, hl.trans I.len⟩
theorem Inv.pins_of {pins' : List (Addr × Obj)} (I : Inv X pins σ H s) (h : ∀ p ∈ pins', s.heap.get? p.1 = some p.2 ∧ H p.1 = none ∧ p.1 ≠ X.env.locals ∧ p.1 ∉ X.fs ∧ ∀ v, p.2.data ≠ .cell v) : Inv X pins' σ H s :=
  ⟨I.ok, I.os, I.bare, I.base, I.loc, I.cell, I.free, I.freeC, fun p hp => (List.mem_append.mp hp).elim (fun z => I.pin p (List.mem_append_left _ z)) (h p), I.hok, I.len⟩
theorem nodup_ix {N : List Str} (hN : N.Nodup) {i j : Nat} {x : Str} (a : N[i]? = some x) (b : N[j]? = some x) : i = j := by
  obtain ⟨h1, e1⟩ := List.getElem?_eq_some_iff.mp a
  obtain ⟨h2, e2⟩ := List.getElem?_eq_some_iff.mp b
  exact (List.getElem_inj hN).mp (e1.trans e2.symm)
theorem store_ok2 {M : Model} {A : Around} {E : Value → Shared → Prop} {i : Nat} {x : Str} {v : V} {u : Value} {Q : Unit → Shared → Prop} (I : Inv X pins σ H s) (hN : X.N.Nodup) (hi : X.N[i]? = some x) (hx : Loc X.env.scope x) (r : RelV v u)
    (h : ∀ s', Inv X pins (σ.set i (some v)) H s' → (∃ a, Heap.SameBut a s.heap s'.heap ∧ (a = X.env.locals ∨ X.env.cells.lookup x = some a)) → Q () s') (hf : X.fn x = true ∨ X.env.scope.names.lookup x = some .local := by first | exact .inl rfl | exact .inr rfl | assumption) : wpAny M A (storeName X.env x u) Q E s := by
  obtain ⟨m, hn, hl⟩ := id I.loc
  have hcls : (X.env.scope.kind == .class || (X.env.scope.kind == .module && X.env.locals != X.env.globals)) = false := by rw [I.ok.kind]; rfl
  have hiσ : i < σ.length := by rw [I.len]; exact (List.getElem?_eq_some_iff.mp hi).1
  have cne := I.cne
  have tracked : ∀ {a : Addr} {h' : Heap}, (∃ o, s.heap.get? a = some o ∧ H a = none) → Heap.SameBut a s.heap h' → HOk X.prog X.w H h' := fun {a h'} ha hs b ob e => by
    obtain ⟨_, _, hfree⟩ := ha
    refine (I.hok b ob e).stay (fun c w' hc q => (hs.2 c ?_).trans q) (fun _ q => q) fun _ _ q => q
    rintro rfl
    rcases hc with rfl | hc
    · rw [hfree] at e; cases e
    · rw [hfree] at hc; cases hc
  rcases hx with hk | hk
  · refine wpAny_storeName_local hk hn (fun h' hn' hs => ?_) hcls
    obtain ⟨oL, _, _, hoL, _⟩ := id hn
    refine h _ ⟨I.ok, I.os, I.bare, ⟨fun b o e n hb hx => ?_, fun b o e n hb hx => ?_, I.base.free, fun b o e hx => ?_, I.base.tups, I.base.frzs, I.base.tbls⟩, ⟨_, hn', fun j y v' e1 e2 e3 => ?_⟩, fun y c e => ?_, I.free, I.freeC, fun p hp => ?_, tracked ⟨oL, hoL, I.free⟩ hs, by simpa using I.len⟩ ⟨_, hs, .inl rfl⟩
    · exact (hs.2 b (Nat.ne_of_lt (Nat.lt_of_lt_of_le (Heap.lt_size e) I.ok.above))).trans (I.base.keep b o e n hb hx)
    · obtain ⟨sl, e1⟩ := I.base.slot b o e n hb hx
      exact ⟨sl, (hs.2 b (Nat.ne_of_lt (Nat.lt_of_lt_of_le (Heap.lt_size e) I.ok.above))).trans e1⟩
    · obtain ⟨o', e1⟩ := I.base.there b o e hx
      exact ⟨o', (hs.2 b (Nat.ne_of_lt (Nat.lt_of_lt_of_le (Heap.lt_size e) I.ok.above))).trans e1⟩
    · by_cases hj : j = i
      · subst hj
        rw [hi] at e1; cases e1
        rw [List.getElem?_set_self hiσ] at e2
        cases e2
        exact ⟨u, r, .inl ⟨hk, by simp⟩⟩
      · rw [List.getElem?_set_ne (Ne.symm hj)] at e2
        obtain ⟨u', r', q⟩ := hl j y v' e1 e2 e3
        refine ⟨u', r', ?_⟩
        rcases q with ⟨k, e⟩ | ⟨k, c, e, z⟩
        · refine .inl ⟨k, ?_⟩
          have : y ≠ x := fun e => hj (nodup_ix hN e1 (e ▸ hi))
          simp [this, e]
        · exact .inr ⟨k, c, e, z.sameBut hs (cne y c e)⟩
    · obtain ⟨w', z⟩ := I.cell y c e
      exact ⟨w', z.sameBut hs (cne y c e)⟩
    · obtain ⟨e, n, ne, nf, d⟩ := I.pin p hp
      exact ⟨(hs.2 p.1 ne).trans e, n, ne, nf, d⟩
  · have hfn : X.fn x = true := by
      rcases hf with z | z
      · exact z
      · rw [z] at hk; cases hk
    obtain ⟨c, hc⟩ := I.ok.has x (.inl hk)
    obtain ⟨w', z⟩ := I.cell x c hc
    refine wpAny_storeName_cell I.ok.kind hk hc z (fun h' hc' hs => ?_)
    obtain ⟨oc, hoc, hocd⟩ := id z
    refine h { s with heap := h' } ⟨I.ok, I.os, I.bare, ⟨fun b o e n hb hx => ?_, fun b o e n hb hx => ?_, I.base.free, fun b o e hx => ?_, I.base.tups, I.base.frzs, I.base.tbls⟩, ⟨m, hn.sameBut hs (Ne.symm (cne x c hc)), fun j y v' e1 e2 e3 => ?_⟩, fun y c' e => ?_, I.free, I.freeC, fun p hp => ?_, tracked ⟨oc, hoc, I.freeC x c hc⟩ hs, by simpa using I.len⟩ ⟨c, hs, .inr hc⟩
    · exact (hs.2 b (Nat.ne_of_lt (Nat.lt_of_lt_of_le (Heap.lt_size e) (I.ok.cab x c hfn hc)))).trans (I.base.keep b o e n hb hx)
    · obtain ⟨sl, e1⟩ := I.base.slot b o e n hb hx
      exact ⟨sl, (hs.2 b (Nat.ne_of_lt (Nat.lt_of_lt_of_le (Heap.lt_size e) (I.ok.cab x c hfn hc)))).trans e1⟩
    · obtain ⟨o', e1⟩ := I.base.there b o e hx
      exact ⟨o', (hs.2 b (Nat.ne_of_lt (Nat.lt_of_lt_of_le (Heap.lt_size e) (I.ok.cab x c hfn hc)))).trans e1⟩
    · by_cases hj : j = i
      · subst hj
        rw [hi] at e1; cases e1
        rw [List.getElem?_set_self hiσ] at e2
        cases e2
        exact ⟨u, r, .inr ⟨.inl hk, c, hc, hc'⟩⟩
      · rw [List.getElem?_set_ne (Ne.symm hj)] at e2
        obtain ⟨u', r', q⟩ := hl j y v' e1 e2 e3
        refine ⟨u', r', ?_⟩
        rcases q with q | ⟨k, c', e, z'⟩
        · exact .inl q
        · refine .inr ⟨k, c', e, z'.sameBut hs ?_⟩
          rintro rfl
          exact hj (nodup_ix hN e1 (I.ok.inj _ _ _ e hc ▸ hi))
    · by_cases hcc : c' = c
      · subst hcc; exact ⟨_, hc'⟩
      · obtain ⟨w2, z2⟩ := I.cell y c' e
        exact ⟨w2, z2.sameBut hs hcc⟩
    · obtain ⟨e, n, ne, nf, d⟩ := I.pin p hp
      refine ⟨(hs.2 p.1 ?_).trans e, n, ne, nf, d⟩
      intro q
      rw [q, hoc] at e
      have q' : oc = p.2 := Option.some.inj e
      exact d w' (by rw [← q']; exact hocd)
theorem store_ok {M : Model} {A : Around} {E : Value → Shared → Prop} {i : Nat} {x : Str} {v : V} {u : Value} {Q : Unit → Shared → Prop} (I : Inv X pins σ H s) (hN : X.N.Nodup) (hi : X.N[i]? = some x) (hx : Loc X.env.scope x) (r : RelV v u)
    (h : ∀ s', Inv X pins (σ.set i (some v)) H s' → Q () s') (hf : X.fn x = true ∨ X.env.scope.names.lookup x = some .local := by first | exact .inl rfl | exact .inr rfl | assumption) : wpAny M A (storeName X.env x u) Q E s :=
  store_ok2 I hN hi hx r (fun s' I' _ => h s' I') hf
theorem Inv.call' {s' : Shared} {ch : List Addr} (I : Inv X pins σ H s) (ho : s'.os = s.os) (u : Un (frs X.stack) ch H H' s.heap s'.heap) (hok : HOk X.prog X.w H' s'.heap) (hg : AllBare s'.gens)
    (hch : ∀ b ∈ ch, (b ∈ X.ex ∨ X.s₀.heap.objs.size ≤ b) ∧ b ≠ X.env.locals ∧ (∀ x c, X.env.cells.lookup x = some c → c ≠ b) ∧ ∀ p ∈ X.pn ++ pins, p.1 ≠ b) : Inv X pins σ H' s' := by
  obtain ⟨h', g', d', t', o'⟩ := s'
  have e : o' = s.os := ho
  subst e
  exact I.call (g' := g') (t' := t') (d' := d') u hok hg hch
end
abbrev XK := Value → Option Addr → Hp → Prop
abbrev St := List (Option V)
abbrev VK := V → Hp → Prop
abbrev TE := St → Hp → VK → Prop
abbrev TT := St → Hp → (Bool → Hp → Prop) → Prop
abbrev TA := St → Hp → (List V → Hp → Prop) → Prop
structure Ends where
  nx : St → Hp → Prop
  rt : VK
  bk : St → Hp → Prop := fun _ _ => False
  ct : St → Hp → Prop := fun _ _ => False
abbrev TS := Ends → St → Hp → Prop
def EP (X : Cx) (pins : List (Addr × Obj)) (σ : St) (Q : VK) (u : Value) (s' : Shared) : Prop := ∃ v H', Inv X pins σ H' s' ∧ RelV v u ∧ Q v H'
def TP (X : Cx) (pins : List (Addr × Obj)) (σ : St) (Q : Bool → Hp → Prop) (b : Bool) (s' : Shared) : Prop := ∃ H', Inv X pins σ H' s' ∧ Q b H'
def AP (X : Cx) (pins : List (Addr × Obj)) (σ : St) (Q : List V → Hp → Prop) (us : List Value) (s' : Shared) : Prop := ∃ vs H', Inv X pins σ H' s' ∧ Vals vs us ∧ Q vs H'
def SP (X : Cx) (pins : List (Addr × Obj)) (D : Ends) (f : Flow) (s' : Shared) : Prop :=
  match f with
  | .next => ∃ σ' H', Inv X pins σ' H' s' ∧ D.nx σ' H'
  | .brk => ∃ σ' H', Inv X pins σ' H' s' ∧ D.bk σ' H'
  | .cont => ∃ σ' H', Inv X pins σ' H' s' ∧ D.ct σ' H'
  | .ret u => ∃ v σ' H', Inv X pins σ' H' s' ∧ RelV v u ∧ D.rt v H'
def PE (X : Cx) (e : Expr) (t : TE) : Prop :=
  ∀ (pins : List (Addr × Obj)) (s : Shared) (σ : St) (H : Hp) (Q : VK), Inv X pins σ H s → t σ H Q → wpAny (model X.prog X.w) X.A (eval e X.env) (EP X pins σ Q) X.xe s
def PT (X : Cx) (e : Expr) (t : TT) : Prop :=
  ∀ (pins : List (Addr × Obj)) (s : Shared) (σ : St) (H : Hp) (Q : Bool → Hp → Prop), Inv X pins σ H s → t σ H Q → wpAny (model X.prog X.w) X.A (isTrue e X.env (eval e X.env)) (TP X pins σ Q) X.xe s
def PW (X : Cx) (e : Expr) (t : TT) : Prop :=
  ∀ (whole : Sem Value) (pins : List (Addr × Obj)) (s : Shared) (σ : St) (H : Hp) (Q : Bool → Hp → Prop), Inv X pins σ H s → t σ H Q → wpAny (model X.prog X.w) X.A (isTrue e X.env whole) (TP X pins σ Q) X.xe s
theorem PW.pt {X : Cx} {e : Expr} {t : TT} (h : PW X e t) : PT X e t := h _
def PA (X : Cx) (es : List Expr) (t : TA) : Prop :=
  ∀ (pos : Pos) (pins : List (Addr × Obj)) (s : Shared) (σ : St) (H : Hp) (Q : List V → Hp → Prop), Inv X pins σ H s → t σ H Q → wpAny (model X.prog X.w) X.A (spliced (backTo pos (starEach es X.env))) (AP X pins σ Q) X.xe s
def PS (X : Cx) (st : Stmt) (t : TS) : Prop :=
  ∀ (pins : List (Addr × Obj)) (s : Shared) (σ : St) (H : Hp) (D : Ends), Inv X pins σ H s → t D σ H → wpAny (model X.prog X.w) X.A (exec st X.env) (SP X pins D) X.xe s
def PSs (X : Cx) (st : List Stmt) (t : TS) : Prop :=
  ∀ (pins : List (Addr × Obj)) (s : Shared) (σ : St) (H : Hp) (D : Ends), Inv X pins σ H s → t D σ H → wpAny (model X.prog X.w) X.A (execs st X.env) (SP X pins D) X.xe s
theorem thn {α : Type} {t : Sem α} {Q Q' : α → Shared → Prop} {M : Model} {A : Around} {E : Value → Shared → Prop} {s : Shared} (h : wpAny M A t Q E s) (hQ : ∀ a s, Q a s → Q' a s) : wpAny M A t Q' E s := wpAny_mono h hQ fun _ _ x => x
end L2
namespace L2
open PySem PySem.Spec PyProof.Rows
section
variable {X : Cx}
def tVar (i : Nat) : TE := fun σ H Q => ∃ v, σ[i]? = some (some v) ∧ Q v H
def tC (v : V) : TE := fun _ H Q => Q v H
theorem pe_var {i : Nat} {x : Str} {pos : Pos} (hN : X.N[i]? = some x) (hv : Vis X.env.scope x) (hd : (x == ("__debug__" : Str)) = false := by decide) (hcd : (x == ("__classdict__" : Str)) = false := by decide) : PE X (.Name x pos) (tVar i) := by
  intro pins s σ H Q I h
  obtain ⟨v, e, h⟩ := h
  obtain ⟨m, hn, hl⟩ := I.loc
  obtain ⟨u, r, l⟩ := hl i x v hN e hv
  have fin : EP X pins σ Q u s := ⟨v, H, I, r, h⟩
  rcases l with ⟨hk, hm⟩ | ⟨hk, c, hc, hcell⟩
  · exact wpAny_Name (wpAny_loadName_local I.ok.kind hk hn hm fin) hd
  · rcases hk with hk | hk
    · exact wpAny_Name (wpAny_loadName_cell I.ok.kind hk hc hcell fin) hd
    · exact wpAny_Name (wpAny_loadName_free I.ok.kind hk hc hcell fin hcd) hd
theorem pe_int {i j pos} : PE X (.Constant (.int i) j pos) (tC (.int i)) := fun _ _ _ H _ I h => wpAny_Constant_int ⟨.int i, H, I.tok _, ⟨_, rfl⟩, h⟩
theorem pe_bl {b j pos} : PE X (.Constant (.bool b) j pos) (tC (.bl b)) := fun _ _ _ H _ I h => Constant_bool ⟨.bl b, H, I, rfl, h⟩
theorem pe_str {x j pos} : PE X (.Constant (.str x) j pos) (tC (.str x)) := fun _ _ _ H _ I h => Calls.Constant_str ⟨.str x, H, I.tok _, ⟨_, rfl⟩, h⟩
def Gl (X : Cx) (x : Str) : Prop := X.env.kindOf x = some .globalImplicit
theorem ld_glob {E : Value → Shared → Prop} {pins : List (Addr × Obj)} {s : Shared} {σ : St} {H : Hp} {x : Str} {u : Value} {pos : Pos} {Q : Value → Shared → Prop} (I : Inv X pins σ H s) (hg : Gl X x) (hm : X.mg x = some u) (h : Q u s)
    (hd : (x == ("__debug__" : Str)) = false := by decide) : wpAny (model X.prog X.w) X.A (eval (.Name x pos) X.env) Q E s :=
  Calls.Name_function_global I.ok.kind hg (Calls.loadGlobal_global (by rw [I.ok.glob]; exact I.mod.glob.keeps I.bk) hm h) hd
theorem ld_blt {E : Value → Shared → Prop} {pins : List (Addr × Obj)} {s : Shared} {σ : St} {H : Hp} {x : Str} {u : Value} {pos : Pos} {Q : Value → Shared → Prop} (I : Inv X pins σ H s) (hg : Gl X x) (hm : X.mg x = none) (hv : bootBuiltins x = some u) (h : Q u s)
    (hn : x ≠ "__name__" := by decide) (hd : (x == ("__debug__" : Str)) = false := by decide) : wpAny (model X.prog X.w) X.A (eval (.Name x pos) X.env) Q E s := by
  obtain ⟨mb, h1, h2⟩ := I.mod.blt
  exact Calls.Name_function_global I.ok.kind hg (Calls.loadGlobal_builtin (by rw [I.ok.glob]; exact I.mod.glob.keeps I.bk) hm (by rw [I.ok.blt]; exact h1.keeps I.bk) ((h2 x hn).trans hv) h) hd
theorem pe_glob {x : Str} {v : V} {u : Value} {pos : Pos} (hg : Gl X x) (hm : X.mg x = some u) (r : RelV v u) (hd : (x == ("__debug__" : Str)) = false := by decide) : PE X (.Name x pos) (tC v) :=
  fun _ _ _ H _ I h => ld_glob I hg hm ⟨v, H, I, r, h⟩ hd
theorem pe_bltn {x : Str} {v : V} {u : Value} {pos : Pos} (hg : Gl X x) (hm : X.mg x = none) (hv : bootBuiltins x = some u) (r : RelV v u) (hn : x ≠ "__name__" := by decide) (hd : (x == ("__debug__" : Str)) = false := by decide) : PE X (.Name x pos) (tC v) :=
  fun _ _ _ H _ I h => ld_blt I hg hm hv ⟨v, H, I, r, h⟩ hn hd
variable {a b : Expr} {ta tb : TE} {pos : Pos}
def tB (t : TE) : TT := fun σ H Q => t σ H fun x H1 => ∃ c, x = .bl c ∧ Q c H1
theorem pt_val {e : Expr} {t : TE} (h : PE X e t) (he : ∀ whole, isTrue e X.env whole = (do let v ← whole; standAt e.pos; holding [v] (truthy v)) := by intro _; rfl) : PT X e (tB t) := by
  intro pins s σ H Q I hw
  refine isTrue_plain (thn (h pins s σ H _ I hw) fun v s1 ⟨x, H1, I1, r1, q1⟩ => ?_) (he _)
  obtain ⟨d, rfl, q⟩ := q1
  cases r1
  exact wpAny_truthy_bool ⟨H1, I1, q⟩
variable {tA tB' : TT} {rest : List Expr}
def tAnd (t u : TT) : TT := fun σ H Q => t σ H fun c H1 => if c = true then u σ H1 Q else Q false H1
def tOr (t u : TT) : TT := fun σ H Q => t σ H fun c H1 => if c = true then Q true H1 else u σ H1 Q
def tNot (t : TT) : TT := fun σ H Q => t σ H fun c H1 => Q (!c) H1
theorem pw_and1 (ha : PT X a tA) : PW X (.BoolOp .And [a] pos) tA := by
  intro wh pins s σ H Q I h
  refine isTrue_and (thn (ha pins s σ H Q I h) fun c s1 e => ?_)
  cases c with
  | true => exact isTrue_and_nil e
  | false => exact e
theorem pw_or1 (ha : PT X a tA) : PW X (.BoolOp .Or [a] pos) tA := by
  intro wh pins s σ H Q I h
  refine isTrue_or (thn (ha pins s σ H Q I h) fun c s1 e => ?_)
  cases c with
  | false => exact isTrue_or_nil e
  | true => exact e
theorem pw_and (ha : PT X a tA) (hb : PW X (.BoolOp .And (b :: rest) pos) tB') : PW X (.BoolOp .And (a :: b :: rest) pos) (tAnd tA tB') := by
  intro wh pins s σ H Q I h
  refine isTrue_and (thn (ha pins s σ H _ I h) fun c s1 ⟨H1, I1, q1⟩ => ?_)
  cases c with
  | true => exact hb wh pins s1 σ H1 Q I1 q1
  | false => exact ⟨H1, I1, q1⟩
theorem pw_or (ha : PT X a tA) (hb : PW X (.BoolOp .Or (b :: rest) pos) tB') : PW X (.BoolOp .Or (a :: b :: rest) pos) (tOr tA tB') := by
  intro wh pins s σ H Q I h
  refine isTrue_or (thn (ha pins s σ H _ I h) fun c s1 ⟨H1, I1, q1⟩ => ?_)
  cases c with
  | true => exact ⟨H1, I1, q1⟩
  | false => exact hb wh pins s1 σ H1 Q I1 q1
theorem pt_not (ha : PT X a tA) : PT X (.UnaryOp .Not a pos) (tNot tA) := by
  intro pins s σ H Q I h
  exact isTrue_not (ha pins s σ H (fun c H1 => Q (!c) H1) I h)
def tAndV (ta tb : TE) : TE := fun σ H Q => ta σ H fun x H1 => ∃ c, x = .bl c ∧ if c = true then tb σ H1 Q else Q (.bl false) H1
theorem pe_one {op} {t : TE} (h : PE X a t) : PE X (.BoolOp op [a] pos) t := fun pins s σ H Q I hw => BoolOp_one (h pins s σ H Q I hw)
theorem pe_and (ha : PE X a ta) (hb : PE X (.BoolOp .And (b :: rest) pos) tb) : PE X (.BoolOp .And (a :: b :: rest) pos) (tAndV ta tb) := by
  intro pins s σ H Q I h
  refine BoolOp_and (thn (ha pins s σ H _ I h) fun v s1 ⟨x, H1, I1, r1, q1⟩ => ?_)
  obtain ⟨c, rfl, q1⟩ := q1
  cases r1
  refine wpAny_truthy_bool ?_
  cases c with
  | true => exact hb pins s1 σ H1 Q I1 q1
  | false => exact ⟨.bl false, H1, I1, rfl, q1⟩
end
end L2
namespace L2
open PySem PySem.Spec PyProof.Rows
def SqL (K : PySem.W.Frag) (H : Hp) (a : Addr) (xs : List V) : Prop :=
  Rd H a (.lst xs) ∨
    ∃ (o : Obj) (its : Array Value) (n : Nat), K.lookup a = some o ∧ o.cls = .type "list" ∧ o.dict = none ∧ o.data = .seq its n ∧ its.size ≤ sizeLine ∧ Vals xs its.toList
def SqT (K : PySem.W.Frag) (H : Hp) (a : Addr) (xs : List V) : Prop :=
  Rd H a (.tup xs) ∨
    ∃ (o : Obj) (its : Array Value) (n : Nat), K.lookup a = some o ∧ o.cls = .type "tuple" ∧ o.data = .seq its n ∧ its.size ≤ sizeLine ∧ Vals xs its.toList
def absV : Value → Option V
  | .none => some .non
  | .bool b => some (.bl b)
  | .int i _ => some (.int i)
  | .str x _ => some (.str x)
  | .bytes b _ => some (.byt b)
  | .float b _ => some (.flt b)
  | .ref a => some (.ref a)
  | .type n => some (.ty n)
  | _ => none
theorem RelV.abs {x : V} {u : Value} (r : RelV x u) : absV u = some x := by
  cases x with
  | non => cases r; rfl
  | bl _ => cases r; rfl
  | int _ => obtain ⟨t, rfl⟩ := r; rfl
  | str _ => obtain ⟨t, rfl⟩ := r; rfl
  | byt _ => obtain ⟨t, rfl⟩ := r; rfl
  | flt _ => obtain ⟨t, rfl⟩ := r; rfl
  | ref _ => cases r; rfl
  | ty _ => cases r; rfl
theorem RelV.inj {x y : V} {u : Value} (r : RelV x u) (q : RelV y u) : x = y := Option.some.inj (r.abs.symm.trans q.abs)
theorem Vals.inj : ∀ {xs ys : List V} {us : List Value}, Vals xs us → Vals ys us → xs = ys
  | _, _, _, .nil, .nil => rfl
  | _, _, _, .cons r t, .cons r' t' => by rw [r.inj r', Vals.inj t t']
section
variable {X : Cx} {pins : List (Addr × Obj)} {σ : St} {H : Hp} {s : Shared} {a : Addr} {xs ys : List V}
theorem SqL.of {K : PySem.W.Frag} (h : H a = some (.lst xs)) : SqL K H a xs := .inl (.inl h)
theorem SqT.of {K : PySem.W.Frag} (h : H a = some (.tup xs)) : SqT K H a xs := .inl (.inl h)
theorem Inv.list (I : Inv X pins σ H s) (h : SqL X.K H a xs) : ∃ its : List Value, Vals xs its ∧ PlainL s.heap a its.toArray ∧ xs.length ≤ sizeLine := by
  rcases h with h | ⟨o, its, n, hk, hc, hd, hs, hz, r⟩
  · obtain ⟨z, its, n, r, e⟩ := h.ok I.hok
    exact ⟨its, r, ⟨_, n, e, rfl, rfl, rfl⟩, z⟩
  · refine ⟨its.toList, r, ⟨o, n, I.kIn a o hk, hc, hd, by simpa using hs⟩, ?_⟩
    have e := r.length
    simp only [Array.length_toList] at e
    omega
theorem Inv.tuple (I : Inv X pins σ H s) (h : SqT X.K H a xs) : ∃ its : List Value, Vals xs its ∧ IsTup s.heap a its.toArray ∧ xs.length ≤ sizeLine := by
  rcases h with h | ⟨o, its, n, hk, hc, hs, hz, r⟩
  · obtain ⟨z, its, r, p⟩ := h.ok I.hok
    exact ⟨its, r, p, z⟩
  · refine ⟨its.toList, r, ⟨o, I.kIn a o hk, hc, n, by simpa using hs⟩, ?_⟩
    have e := r.length
    simp only [Array.length_toList] at e
    omega
theorem Inv.list_inj (I : Inv X pins σ H s) (h : SqL X.K H a xs) (h' : SqL X.K H a ys) : xs = ys := by
  obtain ⟨its, r, ⟨o, n, e, _, _, d⟩, _⟩ := I.list h
  obtain ⟨its', r', ⟨o', n', e', _, _, d'⟩, _⟩ := I.list h'
  rw [e] at e'; cases e'
  rw [d] at d'
  injection d' with d1 _
  have : its = its' := by simpa using congrArg Array.toList d1
  subst this
  exact r.inj r'
end
abbrev Cx.wish (X : Cx) (E : Value → Shared → Prop) : Cx := { X with xe := E }
abbrev Cx.nox (X : Cx) : Cx := X.wish fun _ _ => False
theorem Cx.Ok.wish {X : Cx} (ok : X.Ok) (E : Value → Shared → Prop) : (X.wish E).Ok :=
  ⟨ok.mod, ok.kind, ok.glob, ok.blt, ok.above, ok.inj, ok.has, ok.cab, ok.hd, ok.frames, ok.stk, ok.exf, ok.bs, ok.bsz, ok.noex, ok.exfs, ok.funs, ok.frf⟩
theorem Cx.Ok.unwish {X : Cx} {E : Value → Shared → Prop} (ok : (X.wish E).Ok) : X.Ok :=
  ⟨ok.mod, ok.kind, ok.glob, ok.blt, ok.above, ok.inj, ok.has, ok.cab, ok.hd, ok.frames, ok.stk, ok.exf, ok.bs, ok.bsz, ok.noex, ok.exfs, ok.funs, ok.frf⟩
section
variable {X : Cx} {pins : List (Addr × Obj)} {σ : St} {H : Hp} {s : Shared} {E : Value → Shared → Prop}
theorem Inv.wish (I : Inv X pins σ H s) (E : Value → Shared → Prop) : Inv (X.wish E) pins σ H s := ⟨I.ok.wish E, I.os, I.bare, I.base, I.loc, I.cell, I.free, I.freeC, I.pin, I.hok, I.len⟩
theorem Inv.unwish (I : Inv (X.wish E) pins σ H s) : Inv X pins σ H s := ⟨I.ok.unwish, I.os, I.bare, I.base, I.loc, I.cell, I.free, I.freeC, I.pin, I.hok, I.len⟩
theorem SP.unwish {D : Ends} {f : Flow} {s' : Shared} (h : SP (X.wish E) pins D f s') : SP X pins D f s' := by
  cases f with
  | next => obtain ⟨σ', H', I, q⟩ := h; exact ⟨σ', H', I.unwish, q⟩
  | brk => obtain ⟨σ', H', I, q⟩ := h; exact ⟨σ', H', I.unwish, q⟩
  | cont => obtain ⟨σ', H', I, q⟩ := h; exact ⟨σ', H', I.unwish, q⟩
  | ret u => obtain ⟨v, σ', H', I, r, q⟩ := h; exact ⟨v, σ', H', I.unwish, r, q⟩
theorem PT.nox {e : Expr} {t : TT} (h : PT X.nox e t) : PT X e t := fun pins s σ H Q I hw =>
  wpAny_mono (h pins s σ H Q (I.wish _) hw) (fun _ _ ⟨H', I', q⟩ => ⟨H', I'.unwish, q⟩) fun _ _ z => False.elim z
theorem PSs.nox {st : List Stmt} {t : TS} (h : PSs X.nox st t) : PSs X st t := fun pins s σ H D I hw =>
  wpAny_mono (h pins s σ H D (I.wish _) hw) (fun _ _ q => q.unwish) fun _ _ z => False.elim z
end
section
variable {X : Cx} {st : Stmt} {rest : List Stmt} {t u : TS} {e : Expr} {te : TE} {pos : Pos}
def tNext : TS := fun D σ H => D.nx σ H
def tSeq (t u : TS) : TS := fun D σ H => t { D with nx := u D } σ H
theorem pss_nil : PSs X [] tNext := fun _ _ σ H _ I h => wpAny_execs_nil ⟨σ, H, I, h⟩
theorem pss_cons (h1 : PS X st t) (h2 : PSs X rest u) : PSs X (st :: rest) (tSeq t u) := by
  intro pins s σ H D I h
  refine wpAny_execs_cons (thn (h1 pins s σ H { D with nx := u D } I h) fun f s1 q => ?_)
  cases f with
  | next =>
    obtain ⟨σ', H', I', q⟩ := q
    exact h2 pins s1 σ' H' D I' q
  | ret v => exact q
  | brk => exact q
  | cont => exact q
theorem pss_one (h1 : PS X st t) : PSs X [st] t := by
  intro pins s σ H D I h
  refine wpAny_execs_cons (thn (h1 pins s σ H D I h) fun f s1 q => ?_)
  cases f with
  | next => exact wpAny_execs_nil q
  | ret v => exact q
  | brk => exact q
  | cont => exact q
theorem Inv.quiet {pins : List (Addr × Obj)} {σ : St} {H : Hp} {s : Shared} (I : Inv X pins σ H s) : interactive X.env = false := by simp [interactive, I.ok.kind]
def tDrop (te : TE) : TS := fun D σ H => te σ H fun _ H1 => D.nx σ H1
theorem ps_expr (he : PE X e te) (hs : swapsWith e none pos.line X.env = pure false := by rfl) : PS X (.Expr e pos) (tDrop te) := by
  intro pins s σ H D I h
  exact wpAny_Expr_any (thn (he pins s σ H _ I h) fun v s1 ⟨x, H1, I1, r1, q1⟩ => ⟨σ, H1, I1, q1⟩) I.quiet hs
def tRet (te : TE) : TS := fun D σ H => te σ H D.rt
theorem ps_ret (he : PE X e te) : PS X (.Return (some e) pos) (tRet te) := by
  intro pins s σ H D I h
  exact wpAny_Return_some (thn (he pins s σ H _ I h) fun v s1 ⟨x, H1, I1, r1, q1⟩ => ⟨x, σ, H1, I1, r1, q1⟩)
def tIfS (c : TT) (t u : TS) : TS := fun D σ H => c σ H fun b H1 => if b = true then t D σ H1 else u D σ H1
theorem ps_if {c : Expr} {a b : List Stmt} {tc : TT} (hc : PT X c tc) (ha : PSs X a t) (hb : PSs X b u) : PS X (.If c a b pos) (tIfS tc t u) := by
  intro pins s σ H D I h
  refine wpAny_If (thn (hc pins s σ H _ I h) fun d s1 ⟨H1, I1, q1⟩ => ?_)
  cases d with
  | true => exact ha pins s1 σ H1 D I1 q1
  | false => exact hb pins s1 σ H1 D I1 q1
end
abbrev TG := V → St → Hp → (St → Hp → Prop) → Prop
abbrev TGs := List V → St → Hp → (St → Hp → Prop) → Prop
def PG (X : Cx) (target : Expr) (t : TG) : Prop :=
  ∀ (pins : List (Addr × Obj)) (s : Shared) (σ : St) (H : Hp) (v : V) (u : Value) (Q : St → Hp → Prop), Inv X pins σ H s → RelV v u → t v σ H Q →
    wpAny (model X.prog X.w) X.A (assign target X.env u) (fun _ s' => ∃ σ' H', Inv X pins σ' H' s' ∧ Q σ' H') X.xe s
def PGs (X : Cx) (ts : List Expr) (t : TGs) : Prop :=
  ∀ (pins : List (Addr × Obj)) (s : Shared) (σ : St) (H : Hp) (vs : List V) (us : List Value) (Q : St → Hp → Prop), Inv X pins σ H s → Vals vs us → t vs σ H Q →
    wpAny (model X.prog X.w) X.A (assignInOrder ((assignEach ts X.env).map (·.2)) us) (fun _ s' => ∃ σ' H', Inv X pins σ' H' s' ∧ Q σ' H') X.xe s
abbrev TSet := V → V → V → Hp → (Hp → Prop) → Prop
def PSet (X : Cx) (t : TSet) : Prop :=
  ∀ (pins : List (Addr × Obj)) (s : Shared) (σ : St) (H : Hp) (o i v : V) (ov iv u : Value) (Q : Hp → Prop), Inv X pins σ H s → RelV o ov → RelV i iv → RelV v u → t o i v H Q →
    wpAny (model X.prog X.w) X.A (setItem ov iv u) (fun _ s' => ∃ H', Inv X pins σ H' s' ∧ Q H') X.xe s
section
variable {X : Cx} {pos : Pos}
def gName (i : Nat) : TG := fun v σ H Q => Q (σ.set i (some v)) H
theorem pg_name {i : Nat} {x : Str} (hN : X.N.Nodup) (hi : X.N[i]? = some x) (hx : Loc X.env.scope x) (hf : X.fn x = true ∨ X.env.scope.names.lookup x = some .local := by first | exact .inl rfl | exact .inr rfl | assumption) : PG X (.Name x pos) (gName i) := by
  intro pins s σ H v u Q I r h
  exact wpAny_assign_Name (store_ok I hN hi hx r (fun s' I' => ⟨_, H, I', h⟩) hf)
def gNil : TGs := fun vs σ H Q => vs = [] ∧ Q σ H
def gCons (t : TG) (u : TGs) : TGs := fun vs σ H Q => ∃ v r, vs = v :: r ∧ t v σ H fun σ' H' => u r σ' H' Q
theorem pgs_nil : PGs X [] gNil := by
  intro pins s σ H vs us Q I r h
  obtain ⟨e, h⟩ := h
  subst e
  cases r
  exact assignInOrder_nil ⟨σ, H, I, h⟩
theorem pgs_cons {e : Expr} {es : List Expr} {t : TG} {u : TGs} (h1 : PG X e t) (h2 : PGs X es u)
    (hs : (assignEach (e :: es) X.env).map (·.2) = assign e X.env :: (assignEach es X.env).map (·.2) := by rfl) : PGs X (e :: es) (gCons t u) := by
  intro pins s σ H vs us Q I r h
  obtain ⟨v, vr, e1, h⟩ := h
  subst e1
  cases r with
  | cons r rr =>
    rw [hs]
    refine assignInOrder_cons (thn (h1 pins s σ H _ _ _ I r h) fun _ s1 ⟨σ1, H1, I1, q1⟩ => ?_)
    exact h2 pins s1 σ1 H1 _ _ Q I1 rr q1
def gTup (K : PySem.W.Frag) (n : Nat) (t : TGs) : TG := fun v σ H Q => ∃ a xs, v = .ref a ∧ SqT K H a xs ∧ xs.length = n ∧ t xs σ H Q
theorem pg_tup {es : List Expr} {k : Nat} {t : TGs} {n : Nat} (hc : X.calm = true) (h : PGs X es t)
    (hn : (assignEach es X.env).length = n := by rfl) (hst : (assignEach es X.env).findIdx? (·.1) = none := by rfl) : PG X (.Tuple es k pos) (gTup X.K n t) := by
  intro pins s σ H v u Q I r hw
  obtain ⟨a, xs, e1, hq, hl, hw⟩ := hw
  subst e1
  cases r
  obtain ⟨its, rv, ht, hz⟩ := I.tuple hq
  refine assign_Tuple_tuple (I.ok.hd hc) ht (by simp [hn, ← hl, rv.length]) hst fun h' hx => ?_
  have I1 : Inv X pins σ H { s with heap := h' } := I.kept (t' := s.toks) fun b o e => hx b o (Nat.ne_of_lt (Heap.lt_size e)) e
  exact h pins _ σ H xs _ Q I1 (by simpa using rv) hw
def gSub (to ti : TE) (t : TSet) : TG := fun v σ H Q => to σ H fun o H1 => ti σ H1 fun i H2 => t o i v H2 fun H3 => Q σ H3
theorem pg_sub {o i : Expr} {to ti : TE} {t : TSet} (ho : PE X o to) (hi : PE X i ti) (hs : PSet X t)
    (ha : ∀ v, assign (.Subscript o i pos) X.env v = (do
      let ov ← holding [v] (eval o X.env)
      let iv ← holding [v, ov] (eval i X.env)
      standAt pos
      holding [v, ov, iv] (setItem ov iv v)
      release [v, ov, iv] []) := by intro _; rfl) : PG X (.Subscript o i pos) (gSub to ti t) := by
  intro pins s σ H v u Q I r h
  rw [ha]
  refine wpAny_bind (wpAny_holding (thn (ho pins s σ H _ I h) fun ov s1 ⟨x, H1, I1, r1, q1⟩ => ?_))
  refine wpAny_bind (wpAny_holding (thn (hi pins s1 σ H1 _ I1 q1) fun iv s2 ⟨y, H2, I2, r2, q2⟩ => ?_))
  refine wpAny_bind (wpAny_standAt (wpAny_bind (wpAny_holding (thn (hs pins s2 σ H2 x y v ov iv u _ I2 r1 r2 r q2) fun _ s3 ⟨H3, I3, q3⟩ => ?_))))
  exact wpAny_release ⟨σ, H3, I3, q3⟩
def tAsg (te : TE) (g : TG) : TS := fun D σ H => te σ H fun x H1 => g x σ H1 D.nx
theorem ps_asg {tg e : Expr} {te : TE} {g : TG} (he : PE X e te) (hg : PG X tg g) (hs : swapsWithSole [tg] e pos.line X.env = pure false := by rfl) (hw : swappedStores [tg] e X.env = pure none := by rfl)
    (h1 : (assignEach [tg] X.env).map (·.2) = [assign tg X.env] := by rfl) : PS X (.Assign [tg] e pos) (tAsg te g) := by
  intro pins s σ H D I h
  refine wpAny_Assign_stores (thn (he pins s σ H _ I h) fun v s1 ⟨x, H1, I1, r1, q1⟩ => ?_) hs hw
  rw [h1]
  exact thn (hg pins s1 σ H1 x v _ I1 r1 q1) fun _ s2 q => q
theorem ps_set {i : Nat} {x : Str} {e : Expr} {te : TE} {pos' : Pos} (hN : X.N.Nodup) (hi : X.N[i]? = some x) (hx : Loc X.env.scope x) (he : PE X e te) (hs : swapsWith e (some (.Name x pos')) pos.line X.env = pure false := by rfl) (hf : X.fn x = true ∨ X.env.scope.names.lookup x = some .local := by first | exact .inl rfl | exact .inr rfl | assumption) :
    PS X (.Assign [.Name x pos'] e pos) (tAsg te (gName i)) := by
  intro pins s σ H D I h
  refine wpAny_Assign_Name (thn (he pins s σ H _ I h) fun v s1 ⟨y, H1, I1, r1, q1⟩ => ?_) hs
  exact store_ok I1 hN hi hx r1 (fun s2 I2 => ⟨_, H1, I2, q1⟩) hf
end
section
variable {X : Cx} {pos : Pos}
end
structure It where
  go : Nat → Hp → Prop
  yld : Nat → Hp → V → Hp → Prop
  stop : Nat → Hp → Prop
def FpOk (X : Cx) (pins : List (Addr × Obj)) (H : Hp) (b : Addr) : Prop :=
  H b = none ∧ b ≠ X.env.locals ∧ b ∉ X.fs ∧ (b ∈ X.ex ∨ X.s₀.heap.objs.size ≤ b) ∧ (∀ x c, X.env.cells.lookup x = some c → c ≠ b) ∧ ∀ p ∈ X.pn ++ pins, p.1 ≠ b
theorem Inv.fpOk {X : Cx} {pins : List (Addr × Obj)} {σ : St} {H H' : Hp} {s : Shared} {b : Addr} (I : Inv X pins σ H s) (hb : s.heap.objs.size ≤ b) (hn : H' b = none) : FpOk X pins H' b := by
  refine ⟨hn, Nat.ne_of_gt (Nat.lt_of_lt_of_le I.lt hb), I.nofs hb, .inr (Nat.le_trans I.sz hb), fun x c e z => ?_, fun p hp z => ?_⟩
  · obtain ⟨v, q⟩ := I.cell x c e
    exact absurd (Nat.lt_of_lt_of_le q.lt (by rw [z]; exact hb)) (Nat.lt_irrefl _)
  · exact absurd (Nat.lt_of_lt_of_le (Heap.lt_size (I.pin p hp).1) (by rw [z]; exact hb)) (Nat.lt_irrefl _)
structure Turn (P : Program) (w : World) (K : PySem.W.Frag) (tg : Expr) (J : It) (fp : List Addr) (it : Addr) (tn : Nat → Heap → Prop) : Prop where
  mem : it ∈ fp
  obj : ∀ i h, tn i h → ∀ b ∈ fp, ∃ o, h.get? b = some o ∧ ∀ v, o.data ≠ .cell v
  keep : ∀ i h h', tn i h → (∀ b ∈ fp, ∀ o, h.get? b = some o → h'.get? b = some o) → tn i h'
  item : ∀ (X : Cx), X.prog = P → X.w = w → X.K = K → X.calm = true → ∀ (i : Nat) (pins : List (Addr × Obj)) (s : Shared) (σ : St) (H : Hp) (E : Value → Shared → Prop), Inv X pins σ H s → (∀ b ∈ fp, FpOk X pins H b) → tn i s.heap → J.go i H →
    wpAny (model P w) X.A (pyNext (.ref it)) (fun r s1 => ∃ u, r = some u ∧
      wpAny (model P w) X.A (letOwnedTupleGo tg (.ref it) u) (fun _ s2 => ∃ x H', Inv X pins σ H' s2 ∧ RelV x u ∧ J.yld i H x H' ∧ tn (i + 1) s2.heap ∧ ∀ b ∈ fp, H' b = none) E s1) E s
  done : ∀ (X : Cx), X.prog = P → X.w = w → X.K = K → X.calm = true → ∀ (i : Nat) (pins : List (Addr × Obj)) (s : Shared) (σ : St) (H : Hp) (E : Value → Shared → Prop), Inv X pins σ H s → (∀ b ∈ fp, FpOk X pins H b) → tn i s.heap → J.stop i H →
    wpAny (model P w) X.A (pyNext (.ref it)) (fun r s1 => r = none ∧ Inv X pins σ H s1) E s
  self : ∀ (A : Around) (i : Nat) (s : Shared) (Q : Value → Shared → Prop) (E : Value → Shared → Prop), tn i s.heap → Q (.ref it) s → wpAny (model P w) A (pyIter (.ref it)) Q E s
abbrev TI := St → Hp → (It → Hp → Prop) → Prop
def PIE (X : Cx) (pins : List (Addr × Obj)) (σ : St) (tg : Expr) (R : It → Hp → Prop) (itv : Value) (s2 : Shared) : Prop :=
  ∃ (it : Addr) (fp : List Addr) (tn : Nat → Heap → Prop) (J : It) (H' : Hp), itv = .ref it ∧ Inv X pins σ H' s2 ∧ Turn X.prog X.w X.K tg J fp it tn ∧ tn 0 s2.heap ∧ (∀ b ∈ fp, FpOk X pins H' b) ∧ R J H'
def PI (X : Cx) (tg iter : Expr) (wi : TI) : Prop :=
  ∀ (pins : List (Addr × Obj)) (s : Shared) (σ : St) (H : Hp) (R : It → Hp → Prop), Inv X pins σ H s → wi σ H R →
    wpAny (model X.prog X.w) X.A (eval iter X.env) (fun v s1 => wpAny (model X.prog X.w) X.A (pyIter v) (PIE X pins σ tg R) X.xe s1) X.xe s
theorem go_of {M : Model} {A : Around} {E : Value → Shared → Prop} {s : Shared} {tg : Expr} {it : Addr} {u : Value} {o : Obj} {n : String} {vs : Array Value} {Q : Unit → Shared → Prop} (ho : s.heap.get? it = some o) (hc : o.cls = .type n) (hd : o.data = .fields vs)
    (hn : ["enumerate", "zip", "dict_itemiterator", "dict_reverseitemiterator", "odict_iterator", "itertools.zip_longest", "itertools.pairwise"].contains n = false) (hQ : Q () s) : wpAny M A (letOwnedTupleGo tg (.ref it) u) Q E s := by
  unfold letOwnedTupleGo
  cases tg <;> first
    | exact wpAny_pure hQ
    | (cases u <;> first
        | exact wpAny_pure hQ
        | (refine wpAny_bind (wpAny_load ho ?_)
           rw [hc, hd]
           show wpAny M A (if (["enumerate", "zip", "dict_itemiterator", "dict_reverseitemiterator", "odict_iterator", "itertools.zip_longest", "itertools.pairwise"].contains n && vs[0]? == some (rawInt _)) = true then _ else _) Q E s
           rw [if_neg (by intro h; rw [hn, Bool.false_and] at h; cases h)]
           exact wpAny_pure hQ))
def Itl (K : PySem.W.Frag) (a : Addr) : It :=
  ⟨fun i H => ∃ xs x, SqL K H a xs ∧ xs[i]? = some x, fun i H x H' => H' = H ∧ ∀ xs, SqL K H a xs → xs[i]? = some x, fun i H => ∃ xs, SqL K H a xs ∧ xs.length ≤ i⟩
def Itr (lo : Int) (n : Nat) : It := ⟨fun i _ => i < n, fun i H x H' => H' = H ∧ x = .int (lo + i), fun i _ => n ≤ i⟩
theorem turn_list {P : Program} {w : World} {K : PySem.W.Frag} {tg : Expr} (a it : Addr) : Turn P w K tg (Itl K a) [it] it (fun i h => h.IsListIter it a i) where
  mem := by simp
  obj := fun i h st b hb => by
    have e : b = it := by simpa using hb
    subst e
    obtain ⟨o, e, c, d⟩ := st
    exact ⟨o, e, fun v z => by rw [d] at z; cases z⟩
  keep := fun i h h' st k => st.at fun o e => k it (by simp) o e
  item := by
    intro X hP hw hK hc i pins s σ H E I hf st hg
    subst hP hw hK
    obtain ⟨xs, x, hq, hx⟩ := hg
    obtain ⟨its, rv, p, hz⟩ := I.list hq
    obtain ⟨u, hu, ru⟩ := rv.get hx
    obtain ⟨f0, f1, f2, f3, f4, f5⟩ := hf it (by simp)
    refine wpAny_pyNext_list_item st p.isList (x := u) (by simpa using hu) fun h' st' sb => ?_
    have I1 : Inv X pins σ H { s with heap := h' } := I.turned (t' := s.toks) (fun b o hb e => (sb.2 b hb).trans e) f0 f1 f3 f4 f5
    obtain ⟨o, e, c, d⟩ := id st'
    exact ⟨u, rfl, go_of (s := { s with heap := h' }) e c d (by decide) ⟨x, H, I1, ru, ⟨rfl, fun ys hy => by rw [I.list_inj hy hq]; exact hx⟩, st', fun b hb => (hf b hb).1⟩⟩
  done := by
    intro X hP hw hK hc i pins s σ H E I hf st hg
    subst hP hw hK
    obtain ⟨xs, hq, hx⟩ := hg
    obtain ⟨its, rv, p, hz⟩ := I.list hq
    obtain ⟨f0, f1, f2, f3, f4, f5⟩ := hf it (by simp)
    have hl := rv.length
    exact wpAny_pyNext_list_end (I.ok.hd hc) st p.isList (by simp; omega) fun h' eb => ⟨rfl, I.turned (t' := s.toks) (fun b o hb e => eb b o hb e) f0 f1 f3 f4 f5⟩
  self := fun _ _ _ _ _ st h => wpAny_pyIter_listiter st h
theorem turn_range {P : Program} {w : World} {K : PySem.W.Frag} {tg : Expr} (it : Addr) (lo : Int) (n : Nat) : Turn P w K tg (Itr lo n) [it] it (fun i h => IsRangeIter h it (lo + (i : Nat) * 1) ((n : Int) - (i : Nat)) 1) where
  mem := by simp
  obj := fun i h st b hb => by
    have e : b = it := by simpa using hb
    subst e
    exact ⟨_, st, fun v z => by
      have z' : Data.fields _ = Data.cell v := z
      cases z'⟩
  keep := fun i h h' st k => k it (by simp) _ st
  item := by
    intro X hP hw hK hc i pins s σ H E I hf st hg
    subst hP hw hK
    obtain ⟨f0, f1, f2, f3, f4, f5⟩ := hf it (by simp)
    have W := Walks.range (prog := X.prog) (w := X.w) (I.ok.hd hc) it lo 1 n
    refine W.item i s _ _ hg st fun v h' tk hv st' kk => ?_
    obtain ⟨t, rfl⟩ := hv
    have I1 : Inv X pins σ H { s with heap := h', toks := tk } := I.turned (fun b o hb e => kk b o (by simpa using hb) e) f0 f1 f3 f4 f5
    refine ⟨_, rfl, go_of (s := { s with heap := h', toks := tk }) (n := "range_iterator") st' rfl rfl (by decide) ⟨.int (lo + i), H, I1, ⟨t, ?_⟩, ⟨rfl, rfl⟩, st', fun b hb => (hf b hb).1⟩⟩
    rw [Int.mul_one]
  done := by
    intro X hP hw hK hc i pins s σ H E I hf st hg
    subst hP hw hK
    obtain ⟨f0, f1, f2, f3, f4, f5⟩ := hf it (by simp)
    exact wpAny_pyNext_range_end (I.ok.hd hc) st (by have : n ≤ i := hg; omega) fun h' eb => ⟨rfl, I.turned (t' := s.toks) (fun b o hb e => eb b o hb e) f0 f1 f3 f4 f5⟩
  self := fun _ _ _ _ _ st h => wpAny_pyIter_rangeiter st h
end L2
namespace L2
open PySem PySem.Spec PyProof.Rows
section
variable {X : Cx} {tg : Expr}
def iList (K : PySem.W.Frag) (tl : TE) : TI := fun σ H R => tl σ H fun x H1 => ∃ a, x = .ref a ∧ (∃ xs, SqL K H1 a xs) ∧ R (Itl K a) H1
theorem pi_list {l : Expr} {tl : TE} (hl : PE X l tl) : PI X tg l (iList X.K tl) := by
  intro pins s σ H R I h
  refine thn (hl pins s σ H _ I h) fun v s1 ⟨x, H1, I1, r1, q1⟩ => ?_
  obtain ⟨a, e, ⟨xs, hq⟩, q⟩ := q1
  subst e
  cases r1
  obtain ⟨its, rv, p, hz⟩ := I1.list hq
  refine wpAny_pyIter_list p.isList ?_
  refine ⟨s1.heap.objs.size, [s1.heap.objs.size], _, _, H1, rfl, I1.kept (t' := s1.toks) fun b o e => Heap.get?_push_of_some _ e, turn_list a _, ⟨_, Heap.get?_push_size _ rfl, rfl, rfl⟩, fun b hb => ?_, q⟩
  have e : b = s1.heap.objs.size := by simpa using hb
  subst e
  exact I1.fpOk (Nat.le_refl _) (I1.hok.fresh (Nat.le_refl _))
theorem range_it {pins : List (Addr × Obj)} {σ : St} {H : Hp} {s : Shared} {R : It → Hp → Prop} {E : Value → Shared → Prop} {lo hi : Int} {t u v : Tok} {tk : Nat} (I : Inv X pins σ H s) (h1 : -(2 ^ 62) ≤ lo) (h2 : lo < 2 ^ 62) (h3 : -(2 ^ 62) ≤ hi) (h4 : hi < 2 ^ 62)
    (q : R (Itr lo (hi - lo).toNat) H) : wpAny (model X.prog X.w) X.A (pyIter (.ref s.heap.objs.size)) (PIE X pins σ tg R) E { s with heap := s.heap.push { cls := .type "range", data := .fields #[.int lo t, .int hi u, .int 1 v] }, toks := tk } := by
  refine wpAny_pyIter_range (IsRange.new ..) (small_one h1 h2 h3 h4) ?_
  have I1 : Inv X pins σ H { s with heap := s.heap.push { cls := .type "range", data := .fields #[.int lo t, .int hi u, .int 1 v] }, toks := tk } := I.kept fun b o e => Heap.get?_push_of_some _ e
  refine ⟨(s.heap.push { cls := .type "range", data := .fields #[.int lo t, .int hi u, .int 1 v] }).objs.size, [(s.heap.push { cls := .type "range", data := .fields #[.int lo t, .int hi u, .int 1 v] }).objs.size], _, _, H, rfl,
    I1.kept (t' := tk) fun b o e => Heap.get?_push_of_some _ e, turn_range _ lo (hi - lo).toNat, ?_, fun b hb => ?_, q⟩
  · have e1 : lo + ((0 : Nat) : Int) * 1 = lo := by simp
    have e2 : (((hi - lo).toNat : Nat) : Int) - ((0 : Nat) : Int) = Builtin.Range.rangeSize lo hi 1 := by rw [rangeSize_one]; split <;> omega
    show IsRangeIter _ _ (lo + ((0 : Nat) : Int) * 1) ((((hi - lo).toNat : Nat) : Int) - ((0 : Nat) : Int)) 1
    rw [e1, e2]
    exact Heap.get?_push_size _ rfl
  · have e : b = (s.heap.push { cls := .type "range", data := .fields #[.int lo t, .int hi u, .int 1 v] }).objs.size := by simpa using hb
    subst e
    exact I1.fpOk (Nat.le_refl _) (I1.hok.fresh (Nat.le_refl _))
def iRng1 (ta : TA) : TI := fun σ H R => ta σ H fun vs H1 => ∃ j : Int, vs = [.int j] ∧ -(2 ^ 62) ≤ j ∧ j < 2 ^ 62 ∧ R (Itr 0 j.toNat) H1
theorem pi_range1 {a : Expr} {ta : TA} {p pos : Pos} (hg : Gl X "range") (hm : X.mg "range" = none) (ha : PA X [a] ta) (hs : starEach [a] X.env = [(false, eval a X.env)] := by rfl) : PI X tg (.Call (.Name "range" p) [a] [] pos) (iRng1 ta) := by
  intro pins s σ H R I h
  refine Call_ (ld_blt I hg hm boot_range (PyProof.Rows.callWith_type1 (thn (ha pos pins s σ H _ I h) fun us s1 ⟨vs, H1, I1, r1, q1⟩ => ?_) hs rfl))
  obtain ⟨j, e, q1, q2, q⟩ := q1
  subst e
  cases r1 with
  | cons r rr =>
    cases rr
    obtain ⟨t, rfl⟩ := r
    exact call_range_1 (range_it I1 (by omega) (by omega) q1 q2 (by simpa using q))
def tFor (wi : TI) (g : TG) (tb : TS) : TS := fun D σ H => wi σ H fun J H1 => ∃ W : Nat → Nat → St → Hp → Prop, (∃ m, W 0 m σ H1) ∧ ∀ i m σ H, W i m σ H →
  (J.stop i H ∧ D.nx σ H) ∨ (J.go i H ∧ ∃ N : St → Hp → Prop, (∀ σ' H', N σ' H' → ∃ m', m' < m ∧ W (i + 1) m' σ' H') ∧ ∀ x H', J.yld i H x H' → g x σ H' fun σ2 H2 => tb { D with nx := N, ct := N, bk := D.nx } σ2 H2)
def pinsAt (fp : List Addr) (h : Heap) : List (Addr × Obj) := fp.filterMap fun b => (h.get? b).map fun o => (b, o)
theorem mem_pinsAt {fp : List Addr} {h : Heap} {b : Addr} {o : Obj} (hb : b ∈ fp) (e : h.get? b = some o) : (b, o) ∈ pinsAt fp h := List.mem_filterMap.mpr ⟨b, hb, by rw [e]; rfl⟩
theorem of_pinsAt {fp : List Addr} {h : Heap} {p : Addr × Obj} (hp : p ∈ pinsAt fp h) : p.1 ∈ fp ∧ h.get? p.1 = some p.2 := by
  obtain ⟨b, hb, e⟩ := List.mem_filterMap.mp hp
  cases q : h.get? b with
  | none => rw [q] at e; cases e
  | some o =>
    rw [q] at e
    have e' : (b, o) = p := Option.some.inj e
    subst e'
    exact ⟨hb, q⟩
theorem Inv.pinned {pins : List (Addr × Obj)} {σ : St} {H : Hp} {s : Shared} {fp : List Addr} (I : Inv X pins σ H s) (hf : ∀ b ∈ fp, FpOk X pins H b) (ho : ∀ b ∈ fp, ∃ o, s.heap.get? b = some o ∧ ∀ v, o.data ≠ .cell v) : Inv X (pins ++ pinsAt fp s.heap) σ H s :=
  I.pins_of fun p hp => (List.mem_append.mp hp).elim (fun z => I.pin p (List.mem_append_right _ z)) fun z => by
    obtain ⟨hb, e⟩ := of_pinsAt z
    obtain ⟨f0, f1, f2, _⟩ := hf p.1 hb
    obtain ⟨o, e', d⟩ := ho p.1 hb
    rw [e] at e'; cases e'
    exact ⟨e, f0, f1, f2, d⟩
theorem Inv.unpinned {pins pl : List (Addr × Obj)} {σ : St} {H : Hp} {s : Shared} (I : Inv X (pins ++ pl) σ H s) : Inv X pins σ H s := I.pins_of fun p hp => I.pin p (List.mem_append_right _ (List.mem_append_left _ hp))
theorem ps_for {iter : Expr} {body : List Stmt} {wi : TI} {g : TG} {tb : TS} {pos : Pos} (hp : PassesOwn (model X.prog X.w) X.A X.env X.xe) (hc : X.calm = true) (hi : PI X tg iter wi) (hg : PG X tg g) (hb : PSs X body tb)
    (hs : ∀ x, foldedSetIterable iter X.env x = pure x := by intro _; rfl) : PS X (.For tg iter body [] pos) (tFor wi g tb) := by
  intro pins s σ H D I h
  refine wpAny_For (thn (hi pins s σ H _ I h) fun v s1 h1 => thn h1 fun itv s2 h2 => ?_) hs
  obtain ⟨it, fp, tn, J, H2, e, I2, T, st2, f2, W, ⟨m0, w0⟩, turn⟩ := h2
  subst e
  have stat : ∀ {H' : Hp}, (∀ b ∈ fp, H' b = none) → ∀ b ∈ fp, FpOk X pins H' b := fun hn b hb => ⟨hn b hb, (f2 b hb).2⟩
  refine codeAny_forLoop_any (fun n s' => ∃ i σ' H', Inv X pins σ' H' s' ∧ tn i s'.heap ∧ (∀ b ∈ fp, H' b = none) ∧ W i n σ' H') ?_ m0 ⟨0, σ, H2, I2, st2, fun b hb => (f2 b hb).1, w0⟩
  rintro n s3 ⟨i, σ3, H3, I3, st3, fr3, w3⟩
  rcases turn i n σ3 H3 w3 with ⟨stop, qn⟩ | ⟨go, N, hN, step⟩
  · refine wpAny_passesOwn hp (thn (T.done X rfl rfl rfl hc i pins s3 σ3 H3 X.xe I3 (stat fr3) st3 stop) fun r s4 ⟨hr, I4⟩ => ?_)
    subst hr
    exact wpAny_execs_nil ⟨σ3, H3, I4, qn⟩
  · refine wpAny_passesOwn hp (thn (T.item X rfl rfl rfl hc i pins s3 σ3 H3 X.xe I3 (stat fr3) st3 go) fun r s4 ⟨u, hr, h4⟩ => ?_)
    subst hr
    refine wpAny_passesOwn hp (thn h4 fun _ s5 ⟨x, H5, I5, r5, y5, st5, fr5⟩ => ?_)
    have I5' := I5.pinned (stat fr5) (T.obj _ _ st5)
    refine wpAny_passesOwn hp (thn (hg _ s5 σ3 H5 x u _ I5' r5 (step x H5 y5)) fun _ s6 ⟨σ6, H6, I6, q6⟩ => ?_)
    refine wpAny_passesOwn hp (thn (hb _ s6 σ6 H6 _ I6 q6) fun f s7 q7 => ?_)
    have again : ∀ {σ7 : St} {H7 : Hp}, Inv X (pins ++ pinsAt fp s5.heap) σ7 H7 s7 → N σ7 H7 → ∃ m, m < n ∧ ∃ i σ' H', Inv X pins σ' H' s7 ∧ tn i s7.heap ∧ (∀ b ∈ fp, H' b = none) ∧ W i m σ' H' := fun {σ7 H7} I7 n7 => by
      obtain ⟨m', hm, w7⟩ := hN σ7 H7 n7
      refine ⟨m', hm, i + 1, σ7, H7, I7.unpinned, T.keep _ _ _ st5 fun b hb o e => (I7.pin (b, o) (List.mem_append_right _ (List.mem_append_right _ (mem_pinsAt hb e)))).1, fun b hb => ?_, w7⟩
      obtain ⟨o, e, d⟩ := T.obj _ _ st5 b hb
      exact (I7.pin (b, o) (List.mem_append_right _ (List.mem_append_right _ (mem_pinsAt hb e)))).2.1
    cases f with
    | next => obtain ⟨σ7, H7, I7, n7⟩ := q7; exact again I7 n7
    | cont => obtain ⟨σ7, H7, I7, n7⟩ := q7; exact again I7 n7
    | brk => obtain ⟨σ7, H7, I7, q7⟩ := q7; exact ⟨σ7, H7, I7.unpinned, q7⟩
    | ret v => obtain ⟨x7, σ7, H7, I7, r7, q7⟩ := q7; exact ⟨x7, σ7, H7, I7.unpinned, r7, q7⟩
end
end L2
namespace L2
open PySem PySem.Spec PyProof.Rows
abbrev R2 := V → V → Hp → VK → Prop
def OpR (X : Cx) (f : Value → Value → Sem Value) (r : R2) : Prop :=
  ∀ (pins : List (Addr × Obj)) (s : Shared) (σ : St) (H : Hp) (x y : V) (v u : Value) (Q : VK), Inv X pins σ H s → RelV x v → RelV y u → r x y H Q →
    wpAny (model X.prog X.w) X.A (f v u) (EP X pins σ Q) X.xe s
def UnR (X : Cx) (f : Value → Sem Value) (r : V → Hp → VK → Prop) : Prop :=
  ∀ (pins : List (Addr × Obj)) (s : Shared) (σ : St) (H : Hp) (x : V) (v : Value) (Q : VK), Inv X pins σ H s → RelV x v → r x H Q →
    wpAny (model X.prog X.w) X.A (f v) (EP X pins σ Q) X.xe s
def CallR (X : Cx) (f : Value) (r : List V → Hp → VK → Prop) : Prop :=
  ∀ (pins : List (Addr × Obj)) (s : Shared) (σ : St) (H : Hp) (xs : List V) (us : List Value) (Q : VK), Inv X pins σ H s → Vals xs us → r xs H Q →
    wpAny (model X.prog X.w) X.A (call f us) (EP X pins σ Q) X.xe s
def tOp (r : R2) (ta tb : TE) : TE := fun σ H Q => ta σ H fun x H1 => tb σ H1 fun y H2 => r x y H2 Q
def tUn (r : V → Hp → VK → Prop) (ta : TE) : TE := fun σ H Q => ta σ H fun x H1 => r x H1 Q
def rI (C : Int → Int → Prop) (g : Int → Int → V) : R2 := fun x y H Q => ∃ i j, x = .int i ∧ y = .int j ∧ C i j ∧ Q (g i j) H
def rI0 (g : Int → Int → V) : R2 := fun x y H Q => ∃ i j, x = .int i ∧ y = .int j ∧ Q (g i j) H
def rU (g : Int → V) : V → Hp → VK → Prop := fun x H Q => ∃ i, x = .int i ∧ Q (g i) H
section
variable {X : Cx} {a b c : Expr} {ta tb tc : TE} {pos : Pos}
theorem binT (ha : PE X a ta) (hb : PE X b tb) {pins : List (Addr × Obj)} {s : Shared} {σ : St} {H : Hp} {R : V → V → Hp → Prop} (I : Inv X pins σ H s)
    (h : ta σ H fun x H1 => tb σ H1 fun y H2 => R x y H2) {Q : Value → Shared → Prop} {f : Value → Value → Sem Value}
    (hf : ∀ v u s2 x y H2, Inv X pins σ H2 s2 → RelV x v → RelV y u → R x y H2 → wpAny (model X.prog X.w) X.A (f v u) Q X.xe s2) :
    wpAny (model X.prog X.w) X.A (eval a X.env) (fun v s₁ => wpAny (model X.prog X.w) X.A (eval b X.env) (fun u s₂ => wpAny (model X.prog X.w) X.A (f v u) Q X.xe s₂) X.xe s₁) X.xe s := by
  refine thn (ha pins s σ H _ I h) fun v s1 ⟨x, H1, I1, r1, q1⟩ => ?_
  refine thn (hb pins s1 σ H1 _ I1 q1) fun u s2 ⟨y, H2, I2, r2, q2⟩ => ?_
  exact hf v u s2 x y H2 I2 r1 r2 q2
theorem pe_op {op : Operator} {r : R2} (ho : OpR X (binaryOp op) r) (ha : PE X a ta) (hb : PE X b tb) : PE X (.BinOp a op b pos) (tOp r ta tb) := by
  intro pins s σ H Q I h
  exact wpAny_BinOp (binT ha hb I h fun v u s2 x y H2 I2 rx ry q => ho pins s2 σ H2 x y v u Q I2 rx ry q)
theorem pe_un {op : UnaryOp} {r : V → Hp → VK → Prop} (ho : UnR X (unaryOp op) r) (ha : PE X a ta) : PE X (.UnaryOp op a pos) (tUn r ta) := by
  intro pins s σ H Q I h
  exact UnaryOp_ (thn (ha pins s σ H _ I h) fun v s1 ⟨x, H1, I1, r1, q1⟩ => ho pins s1 σ H1 x v Q I1 r1 q1)
theorem opI {f : Value → Value → Sem Value} {C : Int → Int → Prop} {g : Int → Int → Int}
    (rule : ∀ (i j : Int) (t u : Tok) (s : Shared) (Q : Value → Shared → Prop) (E : Value → Shared → Prop), C i j → Q (.int (g i j) s.toks) { s with toks := s.toks + 1 } → wpAny (model X.prog X.w) X.A (f (.int i t) (.int j u)) Q E s) :
    OpR X f (rI C fun i j => .int (g i j)) := by
  intro pins s σ H x y v u Q I rx ry h
  obtain ⟨i, j, rfl, rfl, hc, q⟩ := h
  obtain ⟨t, rfl⟩ := rx
  obtain ⟨t', rfl⟩ := ry
  exact rule i j t t' s _ _ hc ⟨.int (g i j), H, I.tok _, ⟨_, rfl⟩, q⟩
theorem opI0 {f : Value → Value → Sem Value} {g : Int → Int → Int}
    (rule : ∀ (i j : Int) (t u : Tok) (s : Shared) (Q : Value → Shared → Prop) (E : Value → Shared → Prop), Q (.int (g i j) s.toks) { s with toks := s.toks + 1 } → wpAny (model X.prog X.w) X.A (f (.int i t) (.int j u)) Q E s) :
    OpR X f (rI0 fun i j => .int (g i j)) := by
  intro pins s σ H x y v u Q I rx ry h
  obtain ⟨i, j, rfl, rfl, q⟩ := h
  obtain ⟨t, rfl⟩ := rx
  obtain ⟨t', rfl⟩ := ry
  exact rule i j t t' s _ _ ⟨.int (g i j), H, I.tok _, ⟨_, rfl⟩, q⟩
theorem opB0 {f : Value → Value → Sem Value} {g : Int → Int → Bool}
    (rule : ∀ (i j : Int) (t u : Tok) (s : Shared) (Q : Value → Shared → Prop) (E : Value → Shared → Prop), Q (.bool (g i j)) s → wpAny (model X.prog X.w) X.A (f (.int i t) (.int j u)) Q E s) :
    OpR X f (rI0 fun i j => .bl (g i j)) := by
  intro pins s σ H x y v u Q I rx ry h
  obtain ⟨i, j, rfl, rfl, q⟩ := h
  obtain ⟨t, rfl⟩ := rx
  obtain ⟨t', rfl⟩ := ry
  exact rule i j t t' s _ _ ⟨.bl (g i j), H, I, rfl, q⟩
def CPow (i j : Int) : Prop := 0 ≤ j ∧ j ≤ 1000000 ∧ i.natAbs < 2 ^ 64
theorem two_pow_nn (k : Nat) : (0 : Int) ≤ 2 ^ k := by
  rw [two_pow_cast]
  exact Int.natCast_nonneg _
theorem op_add : OpR X (binaryOp .Add) (rI0 fun i j => .int (i + j)) := opI0 fun _ _ _ _ _ _ _ q => add_int q
theorem op_sub : OpR X (binaryOp .Sub) (rI0 fun i j => .int (i - j)) := opI0 fun _ _ _ _ _ _ _ q => sub_int q
theorem op_mod : OpR X (binaryOp .Mod) (rI (fun _ j => 0 < j) fun i j => .int (i % j)) := opI fun i j _ _ _ _ _ hc q => by
  have h1 : (0 : Int) < j := hc
  exact mod_int' (by omega) (by rw [Int.fmod_eq_emod_of_nonneg i (by omega)]; exact q)
theorem op_pow : OpR X (binaryOp .Pow) (rI CPow fun i j => .int (i ^ j.toNat)) := opI fun _ _ _ _ _ _ _ hc q => pow_int_small hc.1 hc.2.1 hc.2.2 q
theorem op_shr : OpR X (binaryOp .RShift) (rI (fun _ j => 0 ≤ j) fun i j => .int (i / 2 ^ j.toNat)) := opI fun i j _ _ _ _ _ hc q =>
  rshift_int hc (by rw [Int.fdiv_eq_ediv_of_nonneg i (two_pow_nn _)]; exact q)
theorem op_and : OpR X (binaryOp .BitAnd) (rI0 fun i j => .int (Builtin.bitAnd i j)) := opI0 fun _ _ _ _ _ _ _ q => and_int q
theorem op_xor : OpR X (binaryOp .BitXor) (rI0 fun i j => .int (Builtin.bitXor i j)) := opI0 fun _ _ _ _ _ _ _ q => xor_int q
theorem unI {f : Value → Sem Value} {g : Int → Int}
    (rule : ∀ (i : Int) (t : Tok) (s : Shared) (Q : Value → Shared → Prop) (E : Value → Shared → Prop), Q (.int (g i) s.toks) { s with toks := s.toks + 1 } → wpAny (model X.prog X.w) X.A (f (.int i t)) Q E s) :
    UnR X f (rU fun i => .int (g i)) := by
  intro pins s σ H x v Q I rx h
  obtain ⟨i, rfl, q⟩ := h
  obtain ⟨t, rfl⟩ := rx
  exact rule i t s _ _ ⟨.int (g i), H, I.tok _, ⟨_, rfl⟩, q⟩
theorem un_neg : UnR X (unaryOp .USub) (rU fun i => .int (-i)) := unI fun _ _ _ _ _ q => neg_int q
end
def scal : V → V → Bool
  | .non, .non => true | .non, .int _ => true | .int _, .non => true | .non, .bl _ => true | .bl _, .non => true | .non, .str _ => true | .str _, .non => true
  | .int _, .int _ => true | .bl _, .bl _ => true | .str _, .str _ => true | .byt _, .byt _ => true
  | .int _, .str _ => true | .str _, .int _ => true | .bl _, .str _ => true | .str _, .bl _ => true
  | _, _ => false
def rEq : R2 := fun x y H Q => scal x y = true ∧ Q (.bl (decide (x = y))) H
def rNe : R2 := fun x y H Q => scal x y = true ∧ Q (.bl (!decide (x = y))) H
theorem dec_int {i j : Int} : decide (V.int i = V.int j) = (i == j) := by
  rw [Bool.eq_iff_iff]
  simp
theorem dec_bl {i j : Bool} : decide (V.bl i = V.bl j) = (i == j) := by
  rw [Bool.eq_iff_iff]
  simp
theorem dec_str {i j : Str} : decide (V.str i = V.str j) = (i == j) := by
  rw [Bool.eq_iff_iff]
  simp
theorem dec_byt {i j : Array UInt8} : decide (V.byt i = V.byt j) = (i.toList == j.toList) := by
  rw [Bool.eq_iff_iff]
  cases i
  cases j
  simp
section
variable {X : Cx} {a b c : Expr} {ta tb tc : TE} {pos : Pos}
theorem fin_bl {pins : List (Addr × Obj)} {σ : St} {H : Hp} {s : Shared} {Q : VK} {k k' : Bool} (I : Inv X pins σ H s) (q : Q (.bl k) H) (e : k = k') : EP X pins σ Q (.bool k') s := by
  subst e
  exact ⟨.bl k, H, I, rfl, q⟩
theorem op_eq : OpR X (compareOp .Eq) rEq := by
  intro pins s σ H x y v u Q I rx ry h
  obtain ⟨hs, q⟩ := h
  cases x with
  | non =>
    cases rx
    cases y with
    | non => cases ry; exact PySem.EqNone.eq_none_none (fin_bl I q (by simp))
    | bl j => cases ry; exact PySem.EqNone.eq_none_bool (fin_bl I q (by simp))
    | int j => obtain ⟨t', rfl⟩ := ry; exact PySem.EqNone.eq_none_int (fin_bl I q (by simp))
    | str j => obtain ⟨t', rfl⟩ := ry; exact PySem.EqNone.eq_none_str (fin_bl I q (by simp))
    | _ => exact absurd (show false = true from hs) Bool.false_ne_true
  | bl i =>
    cases rx
    cases y with
    | non => cases ry; exact PySem.EqNone.eq_bool_none (fin_bl I q (by simp))
    | bl j => cases ry; exact eq_bool (fin_bl I q dec_bl)
    | str j => obtain ⟨t', rfl⟩ := ry; exact PySem.EqMixed.eq_bool_str (fin_bl I q (by simp))
    | _ => exact absurd (show false = true from hs) Bool.false_ne_true
  | int i =>
    obtain ⟨t, rfl⟩ := rx
    cases y with
    | non => cases ry; exact PySem.EqNone.eq_int_none (fin_bl I q (by simp))
    | int j => obtain ⟨t', rfl⟩ := ry; exact eq_int (fin_bl I q dec_int)
    | str j => obtain ⟨t', rfl⟩ := ry; exact PySem.EqMixed.eq_int_str (fin_bl I q (by simp))
    | _ => exact absurd (show false = true from hs) Bool.false_ne_true
  | str i =>
    obtain ⟨t, rfl⟩ := rx
    cases y with
    | non => cases ry; exact PySem.EqNone.eq_str_none (fin_bl I q (by simp))
    | bl j => cases ry; exact PySem.EqMixed.eq_str_bool (fin_bl I q (by simp))
    | int j => obtain ⟨t', rfl⟩ := ry; exact PySem.EqMixed.eq_str_int (fin_bl I q (by simp))
    | str j => obtain ⟨t', rfl⟩ := ry; exact eq_str (fin_bl I q dec_str)
    | _ => exact absurd (show false = true from hs) Bool.false_ne_true
  | byt i =>
    obtain ⟨t, rfl⟩ := rx
    cases y with
    | byt j => obtain ⟨t', rfl⟩ := ry; exact PySem.W.eq_bytes (fin_bl I q dec_byt)
    | _ => exact absurd (show false = true from hs) Bool.false_ne_true
  | _ => cases y <;> exact absurd (show false = true from hs) Bool.false_ne_true
theorem op_ne : OpR X (compareOp .NotEq) rNe := by
  intro pins s σ H x y v u Q I rx ry h
  obtain ⟨hs, q⟩ := h
  cases x with
  | non =>
    cases rx
    cases y with
    | non => cases ry; exact PySem.EqNone.ne_none_none (fin_bl I q (by simp))
    | bl j => cases ry; exact PySem.EqNone.ne_none_bool (fin_bl I q (by simp))
    | int j => obtain ⟨t', rfl⟩ := ry; exact PySem.EqNone.ne_none_int (fin_bl I q (by simp))
    | str j => obtain ⟨t', rfl⟩ := ry; exact PySem.EqNone.ne_none_str (fin_bl I q (by simp))
    | _ => exact absurd (show false = true from hs) Bool.false_ne_true
  | bl i =>
    cases rx
    cases y with
    | non => cases ry; exact PySem.EqNone.ne_bool_none (fin_bl I q (by simp))
    | bl j => cases ry; exact ne_bool (fin_bl I q (congrArg not dec_bl))
    | str j => obtain ⟨t', rfl⟩ := ry; exact PySem.EqMixed.ne_bool_str (fin_bl I q (by simp))
    | _ => exact absurd (show false = true from hs) Bool.false_ne_true
  | int i =>
    obtain ⟨t, rfl⟩ := rx
    cases y with
    | non => cases ry; exact PySem.EqNone.ne_int_none (fin_bl I q (by simp))
    | int j => obtain ⟨t', rfl⟩ := ry; exact ne_int (fin_bl I q (congrArg not dec_int))
    | str j => obtain ⟨t', rfl⟩ := ry; exact PySem.EqMixed.ne_int_str (fin_bl I q (by simp))
    | _ => exact absurd (show false = true from hs) Bool.false_ne_true
  | str i =>
    obtain ⟨t, rfl⟩ := rx
    cases y with
    | non => cases ry; exact PySem.EqNone.ne_str_none (fin_bl I q (by simp))
    | bl j => cases ry; exact PySem.EqMixed.ne_str_bool (fin_bl I q (by simp))
    | int j => obtain ⟨t', rfl⟩ := ry; exact PySem.EqMixed.ne_str_int (fin_bl I q (by simp))
    | str j => obtain ⟨t', rfl⟩ := ry; exact ne_str (fin_bl I q (congrArg not dec_str))
    | _ => exact absurd (show false = true from hs) Bool.false_ne_true
  | byt i =>
    obtain ⟨t, rfl⟩ := rx
    cases y with
    | byt j => obtain ⟨t', rfl⟩ := ry; exact PySem.W.ne_bytes (fin_bl I q (congrArg not dec_byt))
    | _ => exact absurd (show false = true from hs) Bool.false_ne_true
  | _ => cases y <;> exact absurd (show false = true from hs) Bool.false_ne_true
theorem op_lt : OpR X (compareOp .Lt) (rI0 fun i j => .bl (decide (i < j))) := opB0 fun _ _ _ _ _ _ _ q => lt_int q
theorem op_le : OpR X (compareOp .LtE) (rI0 fun i j => .bl (decide (i ≤ j))) := opB0 fun _ _ _ _ _ _ _ q => le_int q
theorem op_gt : OpR X (compareOp .Gt) (rI0 fun i j => .bl (decide (j < i))) := opB0 fun _ _ _ _ _ _ _ q => gt_int q
theorem op_ge : OpR X (compareOp .GtE) (rI0 fun i j => .bl (decide (j ≤ i))) := opB0 fun _ _ _ _ _ _ _ q => ge_int q
theorem nomark (b : Expr) {op : CmpOp} (h : op ≠ .In := by decide) (h2 : op ≠ .NotIn := by decide) : behindInMarks op b = false := by
  have e1 : (op == CmpOp.In) = false := by cases op <;> first | rfl | exact absurd rfl h
  have e2 : (op == CmpOp.NotIn) = false := by cases op <;> first | rfl | exact absurd rfl h2
  cases b <;> simp [behindInMarks, e1, e2]
theorem pe_cmpR {op : CmpOp} {r : R2} (ho : OpR X (compareOp op) r) (ha : PE X a ta) (hb : PE X b tb) (hm : behindInMarks op b = false) : PE X (.Compare a [op] [b] pos) (tOp r ta tb) := by
  intro pins s σ H Q I h
  exact wpAny_Compare1 (binT ha hb I h fun v u s2 x y H2 I2 rx ry q => ho pins s2 σ H2 x y v u Q I2 rx ry q) hm
def tTest (t : TE) : TT := fun σ H Q => t σ H fun x H' => ∃ k, x = .bl k ∧ Q k H'
theorem pt_cmpR {op : CmpOp} {r : R2} (ho : OpR X (compareOp op) r) (ha : PE X a ta) (hb : PE X b tb) (hm : behindInMarks op b = false) : PT X (.Compare a [op] [b] pos) (tTest (tOp r ta tb)) := by
  intro pins s σ H Q I h
  refine wpAny_isTrue_Compare1 (thn (ha pins s σ H _ I h) fun v s1 ⟨x, H1, I1, r1, q1⟩ => thn (hb pins s1 σ H1 _ I1 q1) fun u s2 ⟨y, H2, I2, r2, q2⟩ =>
    thn (ho pins s2 σ H2 x y v u _ I2 r1 r2 q2) fun c s3 ⟨z, H3, I3, r3, k, e, q3⟩ => ?_) hm
  subst e
  cases r3
  exact wpAny_truthy_bool ⟨H3, I3, q3⟩
def tChain (r r' : R2) (ta tb tc : TE) : TE := fun σ H Q => ta σ H fun x H1 => tb σ H1 fun y H2 => r x y H2 fun z H3 => ∃ k, z = .bl k ∧
  (if k = true then tc σ H3 fun w' H4 => r' y w' H4 Q else Q (.bl false) H3)
theorem pe_chain {op op' : CmpOp} {r r' : R2} (ho : OpR X (compareOp op) r) (ho' : OpR X (compareOp op') r') (ha : PE X a ta) (hb : PE X b tb) (hc : PE X c tc)
    (hm : lastMarks [op, op'] [b, c] = false := by with_unfolding_all rfl) : PE X (.Compare a [op, op'] [b, c] pos) (tChain r r' ta tb tc) := by
  intro pins s σ H Q I h
  refine Compare_chain (thn (ha pins s σ H _ I h) fun v s1 ⟨x, H1, I1, r1, q1⟩ => chain_link (thn (hb pins s1 σ H1 _ I1 q1) fun u s2 ⟨y, H2, I2, r2, q2⟩ =>
    thn (ho pins s2 σ H2 x y v u _ I2 r1 r2 q2) fun d s3 ⟨z, H3, I3, r3, k, e, q3⟩ => ?_)) hm
  subst e
  cases r3
  refine wpAny_truthy_bool ?_
  cases k with
  | false => exact ite_ff ⟨.bl false, H3, I3, rfl, q3⟩
  | true => exact ite_tt (chain_last (thn (hc pins s3 σ H3 _ I3 q3) fun w' s4 ⟨z', H4, I4, r4, q4⟩ => ho' pins s4 σ H4 y z' u w' Q I4 r2 r4 q4))
theorem pt_chain {op op' : CmpOp} {r r' : R2} (ho : OpR X (compareOp op) r) (ho' : OpR X (compareOp op') r') (ha : PE X a ta) (hb : PE X b tb) (hc : PE X c tc)
    (hm : lastMarks [op, op'] [b, c] = false := by with_unfolding_all rfl) : PT X (.Compare a [op, op'] [b, c] pos) (tTest (tChain r r' ta tb tc)) := by
  intro pins s σ H Q I h
  refine isTrue_chain (thn (ha pins s σ H _ I h) fun v s1 ⟨x, H1, I1, r1, q1⟩ => test_link (thn (hb pins s1 σ H1 _ I1 q1) fun u s2 ⟨y, H2, I2, r2, q2⟩ =>
    thn (ho pins s2 σ H2 x y v u _ I2 r1 r2 q2) fun d s3 ⟨z, H3, I3, r3, k, e, q3⟩ => ?_)) hm
  subst e
  cases r3
  refine wpAny_truthy_bool ?_
  cases k with
  | false =>
    obtain ⟨k', e', q'⟩ := q3
    cases e'
    exact ite_ff ⟨H3, I3, q'⟩
  | true =>
    refine ite_tt (test_last (thn (hc pins s3 σ H3 _ I3 q3) fun w' s4 ⟨z', H4, I4, r4, q4⟩ => thn (ho' pins s4 σ H4 y z' u w' _ I4 r2 r4 q4) fun d' s5 ⟨z2, H5, I5, r5, k2, e2, q5⟩ => ?_))
    subst e2
    cases r5
    exact wpAny_truthy_bool ⟨H5, I5, q5⟩
theorem line63 : (sizeLine : Nat) < 2 ^ 63 := by rw [sizeLine_eq]; decide
theorem vals1 {x : V} {us : List Value} (r : Vals [x] us) : ∃ u, us = [u] ∧ RelV x u := by
  cases r with
  | cons r1 r2 => cases r2; exact ⟨_, rfl, r1⟩
theorem vals2 {x y : V} {us : List Value} (r : Vals [x, y] us) : ∃ u w', us = [u, w'] ∧ RelV x u ∧ RelV y w' := by
  cases r with
  | cons r1 r2 =>
    cases r2 with
    | cons r3 r4 => cases r4; exact ⟨_, _, rfl, r1, r3⟩
end
end L2
namespace L2
open PySem PySem.Spec PyProof.Rows
structure ObjM (h : Heap) (x dx C : Addr) (mA : Str → Option Value) : Prop where
  obj : h.get? x = some (PySem.W.instObj C dx)
  ns : h.Ns1 dx mA
  ne : dx ≠ x
theorem lookIn_ns {h : Heap} {dx : Addr} {mA : Str → Option Value} (n : h.Ns1 dx mA) : ∃ od, h.get? dx = some od ∧ ∀ name, PySem.W.lookIn name od = some (mA name) := by
  obtain ⟨o, es, ep, ho, hd, hk, _, hm⟩ := n
  refine ⟨o, ho, fun name => ?_⟩
  have e := hm name
  unfold nsFind findBy at e
  rw [← Array.find?_toList] at e
  unfold PySem.W.lookIn
  rw [hd]
  dsimp only
  split
  · rename_i y q
    rw [q] at e
    exact congrArg some e
  · rename_i q
    rw [q] at e
    have a : es.toList.any (·.refKey) = false := by
      rw [List.any_eq_false]
      intro y hy
      obtain ⟨z, t, hkey⟩ := hk y (Array.mem_toList_iff.mp hy)
      simp [DictEntry.refKey, hkey]
    have a' : ¬ es.toList.any (·.refKey) = true := by rw [a]; exact Bool.false_ne_true
    rw [if_neg a']
    exact congrArg some e
theorem ObjM.look {h : Heap} {x dx C : Addr} {mA : Str → Option Value} (I : ObjM h x dx C mA) : ∃ od, PySem.W.InstAt h x (PySem.W.instObj C dx) C (some od) ∧ ∀ name, PySem.W.lookIn name od = some (mA name) :=
  let ⟨od, ho, hl⟩ := lookIn_ns I.ns
  ⟨od, ⟨I.obj, rfl, rfl, ho⟩, hl⟩
section
variable {prog : Program} {w : World} {A : Around} {E : Value → Shared → Prop} {s : Shared} {K : PySem.W.Frag} {x dx C f : Addr} {mA : Str → Option Value} {name : Str} {v : Value}
theorem get_map {expr : Bool} {Q : Value → Shared → Prop} (X : K.In s.heap) (I : ObjM s.heap x dx C mA) (hg : PySem.W.plainGet K C name = true) (hh : PySem.W.hasDictIn K C = true)
    (ha : PySem.W.findIn K (.ref C) name = some none) (hv : mA name = some v) (hv' : PySem.W.handedIn v = true) (h : Q v { s with toks := s.toks + 1 }) :
    wpAny (model prog w) A (getAttr (.ref x) name expr) Q E s := by
  obtain ⟨od, J, hl⟩ := I.look
  exact PySem.W.get_value X J (PySem.W.plainGet_of hg).1 (PySem.W.findObj_own hh ha rfl (by rw [hl, hv])) hv' h
theorem get_meth {pl : Sem Bool} {Q : Value × List Value → Shared → Prop} (X : K.In s.heap) (I : ObjM s.heap x dx C mA) (hg : PySem.W.plainGet K C name = true)
    (hf : PySem.W.findIn K (.ref C) name = some (some (.ref f))) (ht : PySem.W.isFn K (.ref f) = true) (hv : mA name = none) (h : Q (.ref f, [.ref x]) s) :
    wpAny (model prog w) A (getMethod (.ref x) name pl) Q E s := by
  obtain ⟨od, J, hl⟩ := I.look
  exact PySem.W.method_fn X J (PySem.W.plainGet_of hg).1 (PySem.W.plainGet_of hg).2 hf (beq_iff_eq.mp ht) (by show (PySem.W.lookIn name od).map (·.isSome) = some false; rw [hl, hv]; rfl) h
theorem set_map {ns : List Str} {Q : Unit → Shared → Prop} (X : K.In s.heap) (I : ObjM s.heap x dx C mA)
    (hs : PySem.W.findIn K (.ref C) "__setattr__" = some (some (.builtin "object.__setattr__"))) (hp : PySem.W.plainOver K C = true) (ht : PySem.W.takerIn K C name = some none) (hh : PySem.W.hasDictIn K C = true)
    (hw : PySem.Within mA ns) (hsz : ns.length ≤ sizeLine)
    (h : ∀ h', ObjM h' x dx C (fun y => if y = name then some v else mA y) → Heap.SameBut dx s.heap h' → Q () { s with heap := h', toks := s.toks + 2 }) :
    wpAny (model prog w) A (setAttr (.ref x) name v) Q E s := by
  obtain ⟨od, J, hl⟩ := I.look
  refine PySem.W.set_plain X J hs (PySem.W.osa_open (s := { s with toks := s.toks + 1 }) (r := none) X J hp ht fun b => ?_)
  obtain ⟨cd, hc, hd'⟩ := PySem.W.any_some hh
  have hx : s.heap.get? x = some ⟨.ref C, some dx, .plain, #[]⟩ := I.obj
  refine wpAny_bind (wpAny_pure (wpAny_bind (wpAny_bind (wpAny_loadPart hx (wpAny_bind (PySem.W.Looks.here (s := { s with toks := s.toks + 1 }) (PySem.W.looks_clsIn X hc) ?_))))))
  rw [hd']
  refine wpAny_pure (a := some dx) (wpAny_bind (wpAny_pure (wpAny_bind ?_)))
  refine wpAny_nsSet1 (s := { s with toks := s.toks + 1 }) I.ns fun h' hn2 hs2 => ?_
  obtain ⟨oD, esD, epD, hoD, hdD, hcD⟩ := hn2.count (PySem.Within.cons name v hw)
  refine wpAny_bind (wpAny_lookBehind hoD (by rw [hdD]; exact pastItsLine_dict (Nat.le_trans hcD (by rw [List.length_cons]; omega))) ?_)
  exact wpAny_pure (h _ ⟨(hs2.2 _ (Ne.symm I.ne)).trans I.obj, hn2, I.ne⟩ hs2)
theorem make_map {R : Result → Shared → Prop} {vs : List Value} {kw : List (Str × Value)} (X : K.In s.heap) (hm : PySem.W.makesIn K C = true)
    (hi : PySem.W.findIn K (.ref C) "__init__" = some (some (.ref f))) (hf : PySem.W.typeIn K (.ref f) = some (.type "function"))
    (h : codeAny (model prog w) (A.under (.builtin "type.__call__" ⟨.ref C :: vs, kw⟩)) (.call (.ref f) ⟨.ref (s.heap.objs.size + 1) :: vs, kw⟩) (PySem.W.InitBack (s.heap.objs.size + 1) R)
      { s with heap := (s.heap.push PySem.W.emptyDict).push (PySem.W.instObj C s.heap.objs.size) }) :
    codeAny (model prog w) A (.call (.ref C) ⟨vs, kw⟩) R s := by
  obtain ⟨hh, g, d, t, os⟩ := s
  exact PySem.W.make_core (PySem.W.makes_of X hm) (PySem.W.looks_findIn X hi) (fun self => PySem.W.bind_fn X self hf) (.inl rfl) h
end
def putF (f : Str) (v : V) : List (Str × V) → List (Str × V)
  | [] => [(f, v)]
  | (g, x) :: r => if g = f then (g, v) :: r else (g, x) :: putF f v r
theorem lookup_putF (f g : Str) (v : V) : ∀ fs : List (Str × V), (putF f v fs).lookup g = if g = f then some v else fs.lookup g
  | [] => by
    show List.lookup g [(f, v)] = _
    by_cases h : g = f
    · have hb : (g == f) = true := beq_iff_eq.mpr h
      simp only [List.lookup, hb, if_pos h]
    · have hb : (g == f) = false := beq_eq_false_iff_ne.mpr h
      simp only [List.lookup, hb, if_neg h]
  | (k, x) :: r => by
    have ih := lookup_putF f g v r
    rw [show putF f v ((k, x) :: r) = (if k = f then (k, v) :: r else (k, x) :: putF f v r) from rfl]
    by_cases hk : k = f
    · rw [if_pos hk]
      by_cases h : g = k
      · have hb : (g == k) = true := beq_iff_eq.mpr h
        simp only [List.lookup, hb, if_pos (h.trans hk)]
      · have hb : (g == k) = false := beq_eq_false_iff_ne.mpr h
        simp only [List.lookup, hb, if_neg (fun e : g = f => h (e.trans hk.symm))]
    · rw [if_neg hk]
      by_cases h : g = k
      · have hb : (g == k) = true := beq_iff_eq.mpr h
        simp only [List.lookup, hb, if_neg (fun e : g = f => hk (h.symm.trans e))]
      · have hb : (g == k) = false := beq_eq_false_iff_ne.mpr h
        simp only [List.lookup, hb]
        exact ih
theorem keys_putF (f : Str) (v : V) : ∀ fs : List (Str × V), f ∈ (putF f v fs).map (·.1) ∧ ∀ g, g ∈ fs.map (·.1) → g ∈ (putF f v fs).map (·.1)
  | [] => ⟨by simp [putF], fun g h => by simp at h⟩
  | (k, x) :: r => by
    obtain ⟨i1, i2⟩ := keys_putF f v r
    rw [show putF f v ((k, x) :: r) = (if k = f then (k, v) :: r else (k, x) :: putF f v r) from rfl]
    by_cases hk : k = f
    · rw [if_pos hk]
      subst hk
      exact ⟨by simp, fun g h => by simpa using h⟩
    · rw [if_neg hk]
      refine ⟨?_, fun g h => ?_⟩
      · rw [List.map_cons]
        exact List.mem_cons_of_mem _ i1
      · rw [List.map_cons] at h ⊢
        rcases List.mem_cons.mp h with e | e
        · exact List.mem_cons.mpr (.inl e)
        · exact List.mem_cons_of_mem _ (i2 g e)
theorem length_putF (f : Str) (v : V) : ∀ fs : List (Str × V), (putF f v fs).length ≤ fs.length + 1
  | [] => by simp [putF]
  | (k, x) :: r => by
    have ih := length_putF f v r
    rw [show putF f v ((k, x) :: r) = (if k = f then (k, v) :: r else (k, x) :: putF f v r) from rfl]
    by_cases hk : k = f
    · rw [if_pos hk, List.length_cons, List.length_cons]; omega
    · rw [if_neg hk, List.length_cons, List.length_cons]; omega
theorem RelO.some_of {v : V} {o : Option Value} (r : RelO (some v) o) : ∃ u, o = some u ∧ RelV v u := by
  cases o with
  | none => exact (show False from r).elim
  | some u => exact ⟨u, rfl, r⟩
theorem RelO.none_of {o : Option Value} (r : RelO none o) : o = none := by
  cases o with
  | none => rfl
  | some u => exact (show False from r).elim
theorem handed_of {v : V} {u : Value} (r : RelV v u) : PySem.W.handedIn u = true := by
  cases v with
  | non => cases (show u = Value.none from r); rfl
  | bl b => cases (show u = Value.bool b from r); rfl
  | int i => obtain ⟨t, e⟩ := (show ∃ t, u = Value.int i t from r); cases e; rfl
  | str x => obtain ⟨t, e⟩ := (show ∃ t, u = Value.str x t from r); cases e; rfl
  | byt b => obtain ⟨t, e⟩ := (show ∃ t, u = Value.bytes b t from r); cases e; rfl
  | flt b => obtain ⟨t, e⟩ := (show ∃ t, u = Value.float b t from r); cases e; rfl
  | ref a => cases (show u = Value.ref a from r); rfl
  | ty n => cases (show u = Value.type n from r); rfl
section
variable {P : Program} {w : World} {H H' : Hp} {h h' : Heap} {a C dx : Addr} {fs fs' : List (Str × V)}
theorem ins_get (hok : HOk P w H h) (e : H a = some (.ins C dx fs)) : ∃ mA, ObjM h a dx C mA ∧ (∀ f, RelO (fs.lookup f) (mA f)) ∧ PySem.Within mA (fs.map (·.1)) ∧ fs.length ≤ 1000 ∧ H dx = some (.own a) := by
  obtain ⟨d, z, ne, ob, mA, n, r, q⟩ := (show ObjOk P w H h a (.ins C dx fs) from hok a _ e)
  exact ⟨mA, ⟨ob, n, ne⟩, r, q, z, d⟩
end
structure Cls (K : PySem.W.Frag) (C : Addr) : Prop where
  pg : PySem.W.plainGet K C Str.empty = true
  hd : PySem.W.hasDictIn K C = true
  po : PySem.W.plainOver K C = true
  sa : PySem.W.findIn K (.ref C) "__setattr__" = some (some (.builtin "object.__setattr__"))
theorem Cls.get {K : PySem.W.Frag} {C : Addr} (c : Cls K C) (f : Str) : PySem.W.plainGet K C f = true := c.pg
def NoAttr (K : PySem.W.Frag) (C : Addr) (f : Str) : Prop := PySem.W.findIn K (.ref C) f = some none
theorem NoAttr.taker {K : PySem.W.Frag} {C : Addr} {f : Str} (n : NoAttr K C f) : PySem.W.takerIn K C f = some none := by
  unfold PySem.W.takerIn
  rw [show PySem.W.findIn K (.ref C) f = some none from n]
  rfl
structure Meth (K : PySem.W.Frag) (C : Addr) (m : Str) (f : Addr) : Prop where
  at_ : PySem.W.findIn K (.ref C) m = some (some (.ref f))
  fn : PySem.W.isFn K (.ref f) = true
  kp : PySem.W.keepIn K (.ref f) = true
section
variable {X : Cx} {pins : List (Addr × Obj)} {σ : St} {H : Hp} {s : Shared} {a C dx : Addr} {fs : List (Str × V)} {f : Str} {v : V} {A : Around} {E : Value → Shared → Prop}
theorem getattr_ok {b : Bool} {Q : Value → Shared → Prop} (I : Inv X pins σ H s) (e : H a = some (.ins C dx fs)) (c : Cls X.K C) (n : NoAttr X.K C f) (l : fs.lookup f = some v)
    (h : ∀ u s', Inv X pins σ H s' → RelV v u → Q u s') : wpAny (model X.prog X.w) A (getAttr (.ref a) f b) Q E s := by
  obtain ⟨mA, O, r, _, _, _⟩ := ins_get I.hok e
  obtain ⟨u, hu, ru⟩ := RelO.some_of (v := v) (o := mA f) (by rw [← l]; exact r f)
  exact get_map I.kIn O (c.get f) c.hd n hu (handed_of ru) (h u _ (I.tok _) ru)
theorem getmeth_ok {m : Str} {g : Addr} {pl : Sem Bool} {Q : Value × List Value → Shared → Prop} (I : Inv X pins σ H s) (e : H a = some (.ins C dx fs)) (c : Cls X.K C) (k : Meth X.K C m g) (l : fs.lookup m = none)
    (h : Q (.ref g, [.ref a]) s) : wpAny (model X.prog X.w) A (getMethod (.ref a) m pl) Q E s := by
  obtain ⟨mA, O, r, _, _, _⟩ := ins_get I.hok e
  have hn : mA m = none := RelO.none_of (by rw [← l]; exact r m)
  exact get_meth I.kIn O (c.get m) k.at_ k.fn hn h
theorem setattr_ok {y : V} {u : Value} {Q : Unit → Shared → Prop} (I : Inv X pins σ H s) (e : H a = some (.ins C dx fs)) (c : Cls X.K C) (n : NoAttr X.K C f) (hl : fs.length < 1000) (ry : RelV y u)
    (h : ∀ s', Inv X pins σ (upd H a (.ins C dx (putF f y fs))) s' → Q () s') : wpAny (model X.prog X.w) A (setAttr (.ref a) f u) Q E s := by
  obtain ⟨mA, O, r, wi, _, ho⟩ := ins_get I.hok e
  have hz : (fs.map (·.1)).length ≤ sizeLine := by rw [List.length_map, sizeLine_eq]; omega
  refine set_map I.kIn O c.sa c.po n.taker c.hd wi hz fun h' O' sb => h _ ?_
  have hd : ∃ o, h'.get? dx = some o := let ⟨o, _, _, e', _⟩ := O'.ns; ⟨o, e'⟩
  refine I.write (x := a) (e := dx) (by rw [e]; exact True.intro) (.inr ho) (fun b q hb z => (sb.2 b hb).trans z) hd ?_
  refine ⟨by rw [upd_ne O.ne]; exact ho, ?_, O.ne, O'.obj, _, O'.ns, fun g => ?_, fun g hg => ?_⟩
  · have := length_putF f y fs; omega
  · show RelO ((putF f y fs).lookup g) (if g = f then some u else mA g)
    rw [lookup_putF]
    by_cases q : g = f
    · rw [if_pos q, if_pos q]; exact ry
    · rw [if_neg q, if_neg q]; exact r g
  · by_cases q : g = f
    · rw [q]; exact (keys_putF f y fs).1
    · refine (keys_putF f y fs).2 g (wi g fun z => hg ?_)
      show (if g = f then some u else mA g) = none
      rw [if_neg q]; exact z
theorem Inv.made (I : Inv X pins σ H s) : Inv X pins σ (upd (upd H s.heap.objs.size (.own (s.heap.objs.size + 1))) (s.heap.objs.size + 1) (.ins C s.heap.objs.size []))
    { s with heap := (s.heap.push PySem.W.emptyDict).push (PySem.W.instObj C s.heap.objs.size) } := by
  have e1 : (s.heap.push PySem.W.emptyDict).get? s.heap.objs.size = some PySem.W.emptyDict := Heap.get?_push_size s.heap rfl
  have e2 : ((s.heap.push PySem.W.emptyDict).push (PySem.W.instObj C s.heap.objs.size)).get? (s.heap.objs.size + 1) = some (PySem.W.instObj C s.heap.objs.size) := by
    have := Heap.get?_push_size (s.heap.push PySem.W.emptyDict) (o := PySem.W.instObj C s.heap.objs.size) rfl
    rwa [Heap.size_push] at this
  have e3 : (s.heap.push PySem.W.emptyDict).Ns s.heap.objs.size (fun _ => none) := ⟨PySem.W.emptyDict, #[], _, e1, rfl, (fun e he => absurd he (by simp)), fun _ => rfl⟩
  have I1 := I.laid (a := s.heap.objs.size) (o := .own (s.heap.objs.size + 1)) (h' := s.heap.push PySem.W.emptyDict) (t' := s.toks) (fun b u q => Heap.get?_push_of_some _ q) (Nat.le_refl _) ⟨_, e1⟩
  refine I1.laid (a := s.heap.objs.size + 1) (o := .ins C s.heap.objs.size []) (t' := s.toks) (fun b u q => Heap.get?_push_of_some _ q) (Nat.le_of_eq (Heap.size_push _ _)) ?_
  have ne : s.heap.objs.size ≠ s.heap.objs.size + 1 := Nat.ne_of_lt (Nat.lt_succ_self _)
  refine ⟨by rw [upd_ne ne, upd_same], Nat.zero_le _, ne, e2, fun _ => none, (Heap.Ns1.of_empty e3).at fun o q => Heap.get?_push_of_some _ q, fun _ => True.intro, fun y hy => absurd rfl hy⟩
theorem attr_of {prog : Program} {w : World} {env : Env} {e : Expr} {f : Str} {pos : Pos} {s : Shared} {Q : Value → Shared → Prop} (hb : attributeBase e f env (eval e env) = eval e env)
    (h : wpAny (model prog w) A (eval e env) (fun o s₁ => wpAny (model prog w) A (getAttr o f true) Q E s₁) E s) : wpAny (model prog w) A (eval (.Attribute e f pos) env) Q E s :=
  Attribute_any_ h (by rw [arm_eval_Attribute, hb])
end
def tFld (K : PySem.W.Frag) (ta : TE) (f : Str) : TE := fun σ H Q => ta σ H fun x H1 => ∃ a C dx fs v, x = .ref a ∧ H1 a = some (.ins C dx fs) ∧ Cls K C ∧ NoAttr K C f ∧ fs.lookup f = some v ∧ Q v H1
def sFld (K : PySem.W.Frag) (ta tv : TE) (f : Str) : TS := fun D σ H => tv σ H fun y H1 => ta σ H1 fun x H2 => ∃ a C dx fs, x = .ref a ∧ H2 a = some (.ins C dx fs) ∧ Cls K C ∧ NoAttr K C f ∧ fs.length < 1000 ∧
  D.nx σ (upd H2 a (.ins C dx (putF f y fs)))
section
variable {X : Cx} {o e value : Expr} {f : Str} {pos pos' tpos : Pos} {ta tv : TE}
theorem pe_fld (he : PE X e ta) (hb : attributeBase e f X.env (eval e X.env) = eval e X.env) : PE X (.Attribute e f pos) (tFld X.K ta f) := by
  intro pins s σ H Q I h
  refine attr_of hb (thn (he pins s σ H _ I h) fun u s1 ⟨x, H1, I1, rx, a, C, dx, fs, v, ex, ea, c, n, l, q⟩ => ?_)
  subst ex
  obtain rfl : u = Value.ref a := rx
  exact getattr_ok I1 ea c n l fun u' s2 I2 ru => ⟨v, H1, I2, ru, q⟩
theorem ps_fld (ha : PE X o ta) (hv : PE X value tv) (hs : swapsWith value (some (.Attribute o f pos')) pos.line X.env = pure false) : PS X (.Assign [.Attribute o f pos'] value pos) (sFld X.K ta tv f) := by
  intro pins s σ H D I h
  refine plainObj_wpAny_Assign_Attribute (thn (hv pins s σ H _ I h) fun u s1 ⟨y, H1, I1, ry, q⟩ => thn (ha pins s1 σ H1 _ I1 q) fun ov s2 ⟨x, H2, I2, rx, a, C, dx, fs, ex, ea, c, n, l, q2⟩ => ?_) hs
  subst ex
  obtain rfl : ov = Value.ref a := rx
  exact setattr_ok I2 ea c n l ry fun s3 I3 => ⟨σ, _, I3, q2⟩
end
section
variable {X : Cx} {pins : List (Addr × Obj)} {σ : St} {H : Hp} {s : Shared} {A : Around} {E : Value → Shared → Prop} {Q : Value → Shared → Prop} {c : Value} {b : Bool}
inductive TyOf (K : PySem.W.Frag) (H : Hp) : V → Value → Prop where
  | non : TyOf K H .non (.type "NoneType")
  | bl (x : Bool) : TyOf K H (.bl x) (.type "bool")
  | int (i : Int) : TyOf K H (.int i) (.type "int")
  | str (x : Str) : TyOf K H (.str x) (.type "str")
  | flt (x : UInt64) : TyOf K H (.flt x) (.type "float")
  | lst {a : Addr} {xs : List V} (e : H a = some (.lst xs)) : TyOf K H (.ref a) (.type "list")
  | frz {a : Addr} {o : Obj} {xs : List V} (e : H a = some (.frz o (.lst xs))) : TyOf K H (.ref a) (.type "list")
  | tup {a : Addr} {xs : List V} (e : H a = some (.tup xs)) : TyOf K H (.ref a) (.type "tuple")
  | dK {a : Addr} {kvs : List (Key × V)} (e : H a = some (.dK kvs)) : TyOf K H (.ref a) (.type "dict")
  | dT {a : Addr} {kvs : List (List Key × V)} (e : H a = some (.dT kvs)) : TyOf K H (.ref a) (.type "dict")
  | ins {a C dx : Addr} {fs : List (Str × V)} (e : H a = some (.ins C dx fs)) (cl : Cls K C) (ha : PySem.W.findIn K (.ref C) "__class__" = some (some (.builtin "object.__class__")))
      (hn : PySem.W.specialIn K (.builtin "object.__class__") "__get__" = some (some (.builtin "getset_descriptor.__get__"))) (htk : PySem.W.takesIn K (.builtin "object.__class__") = some true)
      (hm : PySem.W.mroIn K C (.type "object") = some true) : TyOf K H (.ref a) (.ref C)
theorem isinst_ok {x : V} {u t : Value} (I : Inv X pins σ H s) (rx : RelV x u) (ty : TyOf X.K H x t) (e : PySem.W.kitOne X.K t c = some b) (h : ∀ tk, Q (.bool b) { s with toks := tk }) :
    wpAny (model X.prog X.w) A (call (.builtin "isinstance") [u, c]) Q E s := by
  cases ty with
  | non => cases (show u = Value.none from rx); exact PySem.W.kia_one PySem.W.kitx_none I.kIn True.intro e (fun z => nomatch z) h
  | bl y => cases (show u = Value.bool y from rx); exact PySem.W.kia_one PySem.W.kitx_bool I.kIn True.intro e (fun z => nomatch z) h
  | int i => obtain ⟨t, q⟩ := (show ∃ t, u = Value.int i t from rx); cases q; exact PySem.W.kia_one PySem.W.kitx_int I.kIn True.intro e (fun z => nomatch z) h
  | str y => obtain ⟨t, q⟩ := (show ∃ t, u = Value.str y t from rx); cases q; exact PySem.W.kia_one PySem.W.kitx_str I.kIn True.intro e (fun z => nomatch z) h
  | flt y => obtain ⟨t, q⟩ := (show ∃ t, u = Value.float y t from rx); cases q; exact PySem.W.kia_one PySem.W.kitx_float I.kIn True.intro e (fun z => nomatch z) h
  | @lst a xs ea =>
    cases (show u = Value.ref a from rx)
    obtain ⟨_, _, n, _, h1⟩ := (show ObjOk X.prog X.w H s.heap a (.lst xs) from I.hok a _ ea)
    exact PySem.W.kia_one PySem.W.kitx_list I.kIn ⟨_, h1, rfl⟩ e (fun z => nomatch z) h
  | @frz a ob xs ea =>
    cases (show u = Value.ref a from rx)
    obtain ⟨_, _, _, n, _, h1⟩ := (show ObjOk X.prog X.w H s.heap a (.frz ob (.lst xs)) from I.hok a _ ea)
    exact PySem.W.kia_one PySem.W.kitx_list I.kIn ⟨_, h1, rfl⟩ e (fun z => nomatch z) h
  | @tup a xs ea =>
    cases (show u = Value.ref a from rx)
    obtain ⟨_, _, _, p⟩ := (show ObjOk X.prog X.w H s.heap a (.tup xs) from I.hok a _ ea)
    obtain ⟨o, h1, h2, _⟩ := p
    exact PySem.W.kia_one PySem.W.kitx_tuple I.kIn ⟨o, h1, h2⟩ e (fun z => nomatch z) h
  | @dK a kvs ea =>
    cases (show u = Value.ref a from rx)
    obtain ⟨_, _, vs, _, p⟩ := (show ObjOk X.prog X.w H s.heap a (.dK kvs) from I.hok a _ ea)
    obtain ⟨o, es, ep, h1, h2, _⟩ := p
    exact PySem.W.kia_one PySem.W.kitx_dict I.kIn ⟨o, h1, h2.1⟩ e (fun z => nomatch z) h
  | @dT a kvs ea =>
    cases (show u = Value.ref a from rx)
    obtain ⟨_, _, xs, _, o, es, ep, h1, h2, _⟩ := (show ObjOk X.prog X.w H s.heap a (.dT kvs) from I.hok a _ ea)
    exact PySem.W.kia_one PySem.W.kitx_dict I.kIn ⟨o, h1, h2.1⟩ e (fun z => nomatch z) h
  | @ins a C dx fs ea cl ha hn htk hm =>
    cases (show u = Value.ref a from rx)
    obtain ⟨mA, O, _⟩ := ins_get I.hok ea
    obtain ⟨od, J, _⟩ := O.look
    exact PySem.W.kia_one (PySem.W.kitx_own (cl.get _) cl.hd ha hn htk hm) I.kIn J e (fun z => nomatch z) h
end
end L2
namespace L2
open PySem PySem.Spec PyProof.Rows
structure Room (k : Nat) (A : Around) : Prop where
  hd : A.handled = none
  dp : A.depth + 3 * k + 5 < recursionLimit
  un : A.units + 16 * k + 200 < cLine
theorem Room.mono {j k : Nat} {A : Around} (r : Room k A) (h : j ≤ k) : Room j A := ⟨r.hd, by have := r.dp; omega, by have := r.un; omega⟩
theorem Room.deeper {k : Nat} {A : Around} (r : Room (k + 1) A) (env : Env) : Room k (A.deeper env) :=
  ⟨r.hd, by have := r.dp; show A.depth + 1 + 3 * k + 5 < _; omega, by have := r.un; show A.units + 3 + 16 * k + 200 < _; omega⟩
theorem make_depth {A : Around} {C : Addr} {us : List Value} {kw : List (Str × Value)} : (A.under (.builtin "type.__call__" ⟨.ref C :: us, kw⟩)).depth = A.depth + 1 := by
  first | rfl | simp [Around.under, Code.weight, Code.isCreation, Code.isGuard, Code.isCaller, Code.frames, Code.isFrame, guardIds]
theorem make_units {A : Around} {C : Addr} {us : List Value} {kw : List (Str × Value)} : (A.under (.builtin "type.__call__" ⟨.ref C :: us, kw⟩)).units = A.units + 1 := by
  first | rfl | simp [Around.under, Code.cUnits, Code.frames, Code.isFrame]
theorem Room.make {k : Nat} {A : Around} (r : Room (k + 1) A) (C : Addr) (us : List Value) (kw : List (Str × Value)) : Room k (A.under (.builtin "type.__call__" ⟨.ref C :: us, kw⟩)) :=
  ⟨r.hd, by have := r.dp; rw [make_depth]; omega, by have := r.un; rw [make_units]; omega⟩
theorem Room.depth {k : Nat} {A : Around} (r : Room k A) : A.depth < recursionLimit := by have := r.dp; omega
theorem Room.units {k : Nat} {A : Around} (r : Room k A) : A.units + 64 < cLine := by have := r.un; omega
def tNil : TA := fun _ H Q => Q [] H
def tCons (ta : TE) (tr : TA) : TA := fun σ H Q => ta σ H fun x H1 => tr σ H1 fun xs H2 => Q (x :: xs) H2
section
variable {X : Cx} {e : Expr} {es : List Expr} {te : TE} {t : TA} {pos : Pos}
theorem pa_nil : PA X [] tNil := fun _ _ _ _ H Q I h => Calls.spliced_nil ⟨[], H, I, .nil, h⟩
theorem pa_cons (ha : PE X e te) (hr : PA X es t) (hs : starEach (e :: es) X.env = (false, eval e X.env) :: starEach es X.env := by rfl) : PA X (e :: es) (tCons te t) := by
  intro pos pins s σ H Q I h
  rw [hs]
  show wpAny _ _ (spliced ((false, eval e X.env) :: backTo pos (starEach es X.env))) _ _ s
  refine Calls.spliced_cons (thn (ha pins s σ H _ I h) fun u s1 ⟨x, H1, I1, r1, q1⟩ => ?_)
  exact thn (hr pos pins s1 σ H1 _ I1 q1) fun us s2 ⟨xs, H2, I2, r2, q2⟩ => ⟨x :: xs, H2, I2, .cons r1 r2, q2⟩
def tTup (t : TA) : TE := fun σ H Q => t σ H fun xs H1 => xs.length ≤ sizeLine ∧ ∀ p, H1 p = none → Q (.ref p) (upd H1 p (.tup xs))
def tLst (t : TA) : TE := fun σ H Q => t σ H fun xs H1 => xs.length ≤ sizeLine ∧ ∀ p, H1 p = none → Q (.ref p) (upd H1 p (.lst xs))
theorem pe_tup {x1} (h : PA X es t) : PE X (.Tuple es x1 pos) (tTup t) := by
  intro pins s σ H Q I hq
  refine wpAny_Tuple_spliced (thn (h pos pins s σ H _ I hq) fun us s1 ⟨xs, H1, I1, r, z, q⟩ => ⟨by rw [← r.length]; exact z, ?_⟩)
  have hf : H1 s1.heap.objs.size = none := I1.hok.fresh (Nat.le_refl _)
  refine ⟨.ref s1.heap.objs.size, upd H1 s1.heap.objs.size (.tup xs), I1.laid (t' := s1.toks) (fun b u e => Heap.get?_push_of_some _ e) (Nat.le_refl _) ?_, rfl, q _ hf⟩
  exact ⟨z, us, r, ⟨_, Heap.get?_push_size _ rfl, rfl, _, rfl⟩⟩
theorem pe_lst (h : PA X es t) : PE X (.List es pos) (tLst t) := by
  intro pins s σ H Q I hq
  refine wpAny_List_spliced (thn (h pos pins s σ H _ I hq) fun us s1 ⟨xs, H1, I1, r, z, q⟩ => ⟨by rw [← r.length]; exact z, ?_⟩)
  have hf : H1 s1.heap.objs.size = none := I1.hok.fresh (Nat.le_refl _)
  refine ⟨.ref s1.heap.objs.size, upd H1 s1.heap.objs.size (.lst xs), I1.laid (t' := s1.toks) (fun b u e => Heap.get?_push_of_some _ e) (Nat.le_refl _) ?_, rfl, q _ hf⟩
  exact ⟨z, us, 0, r, Heap.get?_push_size _ rfl⟩
end
abbrev Sp := List V → Hp → VK → XK → Prop
abbrev CXT := List Env → Hp → Shared → XK → Value → Shared → Prop
structure Env0 (P : Program) (w : World) (K : PySem.W.Frag) (mg : Str → Option Value) (base : Heap) (A : Around) (outer : List Env) (s : Shared) (H : Hp) : Prop where
  frames : A.frames = some outer
  mod : Mod K mg base
  bs : ∀ b o, base.get? b = some o → s.heap.get? b = some o ∧ H b = none
  bsz : base.objs.size ≤ s.heap.objs.size
  funs : s.heap.FunFrames base outer
  frf : ∀ b ∈ frs outer, H b = none
  hok : HOk P w H s.heap
  bare : AllBare s.gens
def CE (outer : List Env) (P : Program) (w : World) (H : Hp) (s : Shared) (Q : VK) (u : Value) (s' : Shared) : Prop :=
  ∃ v H', s'.os = s.os ∧ AllBare s'.gens ∧ Un (frs outer) [] H H' s.heap s'.heap ∧ HOk P w H' s'.heap ∧ RelV v u ∧ Q v H'
def CR (CX : CXT) (outer : List Env) (P : Program) (w : World) (H : Hp) (s : Shared) (Q : VK) (E : XK) (r : Result) (s' : Shared) : Prop :=
  match r with
  | .ok (.ret u) => CE outer P w H s Q u s'
  | .ok _ => False
  | .error e => CX outer H s E e s'
structure FnOk (P : Program) (w : World) (K : PySem.W.Frag) (mg : Str → Option Value) (base : Heap) (CX : CXT) (k : Nat) (f : Addr) (fd : FuncData) (ps : List Str) (sp : Sp) : Prop where
  len : ∀ vs H Q E, sp vs H Q E → vs.length = ps.length
  run : ∀ (A : Around) (outer : List Env) (s : Shared) (H : Hp) (args : Args) (us : List Value) (vs : List V) (Q : VK) (E : XK), Room k A → Env0 P w K mg base A outer s H → BindsTo s fd args (ps.zip us) → Vals vs us → sp vs H Q E →
    codeAny (model P w) A (.call (.ref f) args) (CR CX outer P w H s Q E) s
theorem Env0.make {P : Program} {w : World} {K : PySem.W.Frag} {mg : Str → Option Value} {base : Heap} {A : Around} {outer : List Env} {s : Shared} {H : Hp} (e : Env0 P w K mg base A outer s H) (C : Addr) (us : List Value) (kw : List (Str × Value)) :
    Env0 P w K mg base (A.under (.builtin "type.__call__" ⟨.ref C :: us, kw⟩)) outer s H := ⟨by first | exact e.frames | (simpa [Around.under, Code.envs, Code.isFrame, pushEnvs] using e.frames), e.mod, e.bs, e.bsz, e.funs, e.frf, e.hok, e.bare⟩
section
variable {X : Cx} {pins : List (Addr × Obj)} {σ : St} {H : Hp} {s s' : Shared}
theorem Inv.env0 (I : Inv X pins σ H s) : Env0 X.prog X.w X.K X.mg X.base X.A X.stack s H :=
  ⟨I.ok.frames, I.ok.mod, I.bs, Nat.le_trans I.ok.bsz I.sz, I.stack, I.stkFree, I.hok, I.bare⟩
theorem Inv.after {Q : VK} {u : Value} (I : Inv X pins σ H s) (h : CE X.stack X.prog X.w H s Q u s') : EP X pins σ Q u s' := by
  obtain ⟨v, H', os, bare, un, hok, r, q⟩ := h
  obtain ⟨hh, g, d, t, os'⟩ := s'
  obtain rfl : os' = s.os := os
  exact ⟨v, H', I.call (h' := hh) (g' := g) (d' := d) (t' := t) (ch := []) un hok bare (fun b z => absurd z (by simp)), r, q⟩
end
def tCall (sp : Sp) (dvs : List V) (E : XK) (t : TA) : TE := fun σ H Q => t σ H fun vs H1 => sp (vs ++ dvs) H1 Q E
def tMeth (C : Addr) (m : Str) (sp : Sp) (dvs : List V) (E : XK) (ta : TE) (t : TA) : TE := fun σ H Q => ta σ H fun x H1 => ∃ a dx fs, x = .ref a ∧ H1 a = some (.ins C dx fs) ∧ fs.lookup m = none ∧
  t σ H1 fun vs H2 => sp (x :: (vs ++ dvs)) H2 Q E
def tMake (C : Addr) (sp : Sp) (dvs : List V) (E : XK) (t : TA) : TE := fun σ H Q => t σ H fun vs H1 => ∀ x dx, H1 x = none → H1 dx = none → dx ≠ x →
  sp (.ref x :: (vs ++ dvs)) (upd (upd H1 dx (.own x)) x (.ins C dx [])) (fun v H2 => v = .non ∧ Q (.ref x) H2) E
def Binds (K : PySem.W.Frag) (fd : FuncData) (ps : List Str) (ds : List Value) : Prop :=
  ∀ (s : Shared) (us : List Value), K.In s.heap → (us ++ ds).length = ps.length → BindsTo s fd ⟨us, []⟩ (ps.zip (us ++ ds))
theorem Binds.all {K : PySem.W.Frag} {fd : FuncData} {ps : List Str} (h : ∀ us : List Value, us.length = ps.length → bindArgs fd ⟨us, []⟩ = pure (ps.zip us)) : Binds K fd ps [] := fun s us _ hl => by
  rw [List.append_nil] at hl ⊢
  exact .of_eq (h us hl)
def Passes (CX : CXT) (X : Cx) (E : XK) : Prop := ∀ (pins : List (Addr × Obj)) (σ : St) (H : Hp) (s : Shared) (e : Value) (s' : Shared), Inv X pins σ H s → CX X.stack H s E e s' → X.xe e s'
section
variable {X : Cx} {CX : CXT} {k : Nat} {f C : Addr} {fd : FuncData} {ps : List Str} {sp : Sp} {dvs : List V} {ds : List Value} {E : XK} {x m : Str} {p pos apos : Pos} {e o : Expr} {es : List Expr} {ta : TE} {t : TA}
theorem run_fn {pins : List (Addr × Obj)} {σ : St} {H : Hp} {s : Shared} {Q : VK} {us : List Value} {vs : List V} (F : FnOk X.prog X.w X.K X.mg X.base CX k f fd ps sp) (hr : Room k X.A) (hb : Binds X.K fd ps ds) (hd : Vals dvs ds) (hx : Passes CX X E)
    (I : Inv X pins σ H s) (r : Vals vs us) (h : sp (vs ++ dvs) H Q E) : wpAny (model X.prog X.w) X.A (call (.ref f) us) (EP X pins σ Q) X.xe s := by
  have r2 : Vals (vs ++ dvs) (us ++ ds) := r.append hd
  have hl : (us ++ ds).length = ps.length := by rw [← r2.length]; exact F.len _ _ _ _ h
  refine wpAny_call (codeAny_mono (F.run X.A X.stack s H ⟨us, []⟩ (us ++ ds) (vs ++ dvs) Q E hr I.env0 (hb s us I.kIn hl) r2 h) fun r s' hq => ?_)
  cases r with
  | error e => exact hx pins σ H s e s' I hq
  | ok fl =>
    cases fl with
    | ret u => exact I.after hq
    | next => exact False.elim hq
    | brk => exact False.elim hq
    | cont => exact False.elim hq
theorem pe_call (F : FnOk X.prog X.w X.K X.mg X.base CX k f fd ps sp) (hr : Room k X.A) (hg : Gl X x) (hm : X.mg x = some (.ref f)) (hk : PySem.W.keepIn X.K (.ref f) = true) (hb : Binds X.K fd ps ds) (hd : Vals dvs ds) (hx : Passes CX X E)
    (ha : PA X (e :: es) t) (hdb : (x == ("__debug__" : Str)) = false := by decide) (he : starEach (e :: es) X.env = (false, eval e X.env) :: starEach es X.env := by rfl) (hpl : (backTo pos (starEach es X.env)).any (·.1) = false := by rfl) :
    PE X (.Call (.Name x p) (e :: es) [] pos) (tCall sp dvs E t) := by
  intro pins s σ H Q I h
  refine wpAny_Call_Name_kw (ld_glob I hg hm ?_ hdb)
  refine PySem.W.callWith_K (h₀ := X.base) I.ok.mod.kin hk (thn (ha pos pins s σ H _ I h) fun us s1 ⟨vs, H1, I1, r, q⟩ => ⟨I1.kIn, ?_⟩) he hpl
  exact run_fn F hr hb hd hx I1 r q
theorem pe_meth0 {pl : Sem Bool} (he : PE X o ta) (c : Cls X.K C) (hm : Meth X.K C m f) (F : FnOk X.prog X.w X.K X.mg X.base CX k f fd ps sp) (hr : Room k X.A) (hb : Binds X.K fd ps ds) (hd : Vals dvs ds) (hx : Passes CX X E)
    (ht : eval (.Call (.Attribute o m apos) [] [] pos) X.env = (do
      let ov ← eval o X.env
      standAt apos.atName
      let (f, first) ← holding [ov] (getMethod ov m pl)
      callWith pos f first (backTo pos (starEach [] X.env)) (backToKw pos (keywordEach [] X.env))) := by rfl) :
    PE X (.Call (.Attribute o m apos) [] [] pos) (tMeth C m sp dvs E ta tNil) := by
  intro pins s σ H Q I h
  refine PySem.W.methodCall_KW (pl := pl) (thn (he pins s σ H _ I h) fun u s1 ⟨x, H1, I1, rx, a, dx, fs, ex, ea, l, q⟩ => ?_) ht
  subst ex
  obtain rfl : u = Value.ref a := rx
  refine getmeth_ok I1 ea c hm l ?_
  exact PySem.W.callWith_K0 (first := [.ref a]) I1.kIn hm.kp (run_fn (us := [.ref a]) (vs := [.ref a]) F hr hb hd hx I1 (.cons rfl .nil) q)
structure Mk (K : PySem.W.Frag) (C f : Addr) : Prop where
  makes : PySem.W.makesIn K C = true
  init : PySem.W.findIn K (.ref C) "__init__" = some (some (.ref f))
  fn : PySem.W.isFn K (.ref f) = true
  kp : PySem.W.keepIn K (.ref C) = true
theorem run_make {pins : List (Addr × Obj)} {σ : St} {H : Hp} {s : Shared} {Q : VK} {us : List Value} {vs : List V} (M : Mk X.K C f) (F : FnOk X.prog X.w X.K X.mg X.base CX k f fd ps sp) (hr : Room (k + 1) X.A) (hb : Binds X.K fd ps ds) (hd : Vals dvs ds)
    (hx : Passes CX X E) (I : Inv X pins σ H s) (r : Vals vs us)
    (h : ∀ x dx, H x = none → H dx = none → dx ≠ x → sp (.ref x :: (vs ++ dvs)) (upd (upd H dx (.own x)) x (.ins C dx [])) (fun v H2 => v = .non ∧ Q (.ref x) H2) E) :
    wpAny (model X.prog X.w) X.A (call (.ref C) us) (EP X pins σ Q) X.xe s := by
  have hq := h (s.heap.objs.size + 1) s.heap.objs.size (I.hok.fresh (Nat.le_succ _)) (I.hok.fresh (Nat.le_refl _)) (Nat.ne_of_lt (Nat.lt_succ_self _))
  have I2 := Inv.made (C := C) I
  have r2 : Vals (V.ref (s.heap.objs.size + 1) :: (vs ++ dvs)) (Value.ref (s.heap.objs.size + 1) :: (us ++ ds)) := .cons rfl (r.append hd)
  have hl : (Value.ref (s.heap.objs.size + 1) :: us ++ ds).length = ps.length := by
    have e := r2.length
    rw [F.len _ _ _ _ hq] at e
    exact e.symm
  refine wpAny_call (make_map (f := f) I.kIn M.makes M.init (beq_iff_eq.mp M.fn) (codeAny_mono (F.run _ X.stack _ _ ⟨Value.ref (s.heap.objs.size + 1) :: us, []⟩ (Value.ref (s.heap.objs.size + 1) :: (us ++ ds)) _ _ E (hr.make C us [])
    (I2.env0.make C us []) (hb _ (Value.ref (s.heap.objs.size + 1) :: us) I2.kIn hl) r2 hq) fun r s' hq' => ?_))
  cases r with
  | error e => exact hx pins σ _ _ e s' I2 hq'
  | ok fl =>
    cases fl with
    | ret u =>
      obtain ⟨v, H', I3, rv, ev, q3⟩ := I2.after hq'
      subst ev
      exact ⟨rv, ⟨V.ref (s.heap.objs.size + 1), H', I3, rfl, q3⟩⟩
    | next => exact False.elim hq'
    | brk => exact False.elim hq'
    | cont => exact False.elim hq'
theorem pe_make (M : Mk X.K C f) (F : FnOk X.prog X.w X.K X.mg X.base CX k f fd ps sp) (hr : Room (k + 1) X.A) (hg : Gl X x) (hm : X.mg x = some (.ref C)) (hb : Binds X.K fd ps ds) (hd : Vals dvs ds) (hx : Passes CX X E)
    (ha : PA X (e :: es) t) (hdb : (x == ("__debug__" : Str)) = false := by decide) (he : starEach (e :: es) X.env = (false, eval e X.env) :: starEach es X.env := by rfl) (hpl : (backTo pos (starEach es X.env)).any (·.1) = false := by rfl) :
    PE X (.Call (.Name x p) (e :: es) [] pos) (tMake C sp dvs E t) := by
  intro pins s σ H Q I h
  refine wpAny_Call_Name_kw (ld_glob I hg hm ?_ hdb)
  refine PySem.W.callWith_K (h₀ := X.base) I.ok.mod.kin M.kp (thn (ha pos pins s σ H _ I h) fun us s1 ⟨vs, H1, I1, r, q⟩ => ⟨I1.kIn, ?_⟩) he hpl
  exact run_make M F hr hb hd hx I1 r q
end
section
variable {X : Cx} {CX : CXT} {k : Nat} {f C : Addr} {fd : FuncData} {ps ks : List Str} {sp : Sp} {E : XK} {x m : Str} {p pos apos kpos : Pos} {e o : Expr} {es : List Expr} {kws : List Keyword} {te ta : TE} {t tk : TA} {nm : Option Str}
variable {g : List Value → List Value → List Value} {gV : List V → List V → List V}
end
structure FnScope (N P : List Str) (sc : Scope) : Prop where
  kind : sc.kind = .function
  co : sc.isCoroutine = false
  gen : sc.isGenerator = false
  nd : N.Nodup
  pre : N.take P.length = P
  par : ∀ x ∈ P, sc.names.lookup x = some .local ∨ sc.names.lookup x = some .cell
  nofree : ∀ y ∈ sc.names, y.2 ≠ .free
theorem bindL_out {kindOf : Str → Option NameKind} {x : Str} : ∀ {binds : List (Str × Value)} {m : Str → Option Value}, (∀ v, (x, v) ∉ binds) → bindL kindOf binds m x = m x
  | [], _, _ => rfl
  | (n, v) :: r, m, h => by
    unfold bindL
    rw [bindL_out fun w hw => h w (List.mem_cons_of_mem _ hw)]
    split
    · have : x ≠ n := by rintro rfl; exact h v List.mem_cons_self
      simp [this]
    · rfl
theorem bindC_out {kindOf : Str → Option NameKind} {x : Str} : ∀ {binds : List (Str × Value)} {m : Str → Option Value}, (∀ v, (x, v) ∉ binds) → bindC kindOf binds m x = m x
  | [], _, _ => rfl
  | (n, v) :: r, m, h => by
    unfold bindC
    rw [bindC_out fun w hw => h w (List.mem_cons_of_mem _ hw)]
    split
    · rfl
    · have : x ≠ n := by rintro rfl; exact h v List.mem_cons_self
      simp [this]
theorem bindL_get {kindOf : Str → Option NameKind} {x : Str} {v : Value} : ∀ {P : List Str} {vs : List Value} {i : Nat} {m : Str → Option Value}, P.Nodup → P[i]? = some x → vs[i]? = some v → kindOf x = some .local →
    bindL kindOf (P.zip vs) m x = some v
  | [], _, _, _, _, h, _, _ => by simp at h
  | _ :: _, [], _, _, _, _, h, _ => by simp at h
  | p :: P, w :: vs, 0, m, nd, h1, h2, hk => by
    simp at h1 h2; subst h1; subst h2
    show bindL kindOf ((p, w) :: P.zip vs) m p = _
    unfold bindL
    rw [bindL_out fun v hv => (List.nodup_cons.mp nd).1 (List.of_mem_zip hv).1, if_pos hk]
    simp
  | p :: P, w :: vs, i + 1, m, nd, h1, h2, hk => by
    show bindL kindOf ((p, w) :: P.zip vs) m x = _
    unfold bindL
    exact bindL_get (i := i) (List.nodup_cons.mp nd).2 (by simpa using h1) (by simpa using h2) hk
theorem bindC_get {kindOf : Str → Option NameKind} {x : Str} {v : Value} : ∀ {P : List Str} {vs : List Value} {i : Nat} {m : Str → Option Value}, P.Nodup → P[i]? = some x → vs[i]? = some v → kindOf x ≠ some .local →
    bindC kindOf (P.zip vs) m x = some v
  | [], _, _, _, _, h, _, _ => by simp at h
  | _ :: _, [], _, _, _, _, h, _ => by simp at h
  | p :: P, w :: vs, 0, m, nd, h1, h2, hk => by
    simp at h1 h2; subst h1; subst h2
    show bindC kindOf ((p, w) :: P.zip vs) m p = _
    unfold bindC
    rw [bindC_out fun v hv => (List.nodup_cons.mp nd).1 (List.of_mem_zip hv).1, if_neg hk]
    simp
  | p :: P, w :: vs, i + 1, m, nd, h1, h2, hk => by
    show bindC kindOf ((p, w) :: P.zip vs) m x = _
    unfold bindC
    exact bindC_get (i := i) (List.nodup_cons.mp nd).2 (by simpa using h1) (by simpa using h2) hk
def start (N : List Str) (vs : List V) : St := vs.map some ++ List.replicate (N.length - vs.length) none
def cxOf (CX : CXT) (P : Program) (w : World) (K : PySem.W.Frag) (mg : Str → Option Value) (base : Heap) (N : List Str) (qual : Str) (scope : Scope) (f : Addr) (cd : Value) (A : Around) (outer : List Env) (s : Shared) (H : Hp) (E : XK) : Cx where
  prog := P
  w := w
  K := K
  mg := mg
  base := base
  A := A.deeper (envOfC qual scope s.heap.objs.size f cd)
  N := N
  s₀ := s
  H₀ := H
  env := envOfC qual scope s.heap.objs.size f cd
  outer := outer
  stack := envOfC qual scope s.heap.objs.size f cd :: outer
  ex := []
  calm := true
  fn := fun _ => true
  pn := []
  xe := fun e s' => wpAny (model P w) (A.deeper (envOfC qual scope s.heap.objs.size f cd)) (leaving (envOfC qual scope s.heap.objs.size f cd) e) (fun _ s'' => CX outer H s E e s'') (fun e' s'' => CX outer H s E e' s'') s'
theorem cell_has {sc : Scope} {n : Nat} {x : Str} (h : sc.names.lookup x = some .cell) : ∃ c, (cellsFrom n sc.names []).lookup x = some c := by
  have q := PySem.W.cellsFrom_some sc.names n [] (.inl h)
  exact Option.isSome_iff_exists.mp q
theorem inv_start {CX : CXT} {P : Program} {w : World} {K : PySem.W.Frag} {mg : Str → Option Value} {base : Heap} {N ps : List Str} {qual : Str} {scope : Scope} {f : Addr} {cd : Value} {A : Around} {outer : List Env} {s s1 : Shared} {H : Hp} {E : XK} {us : List Value} {vs : List V}
    (S : FnScope N ps scope) (hd : A.handled = none) (e0 : Env0 P w K mg base A outer s H) (hl : vs.length = ps.length) (r : Vals vs us)
    (x : InCallC s s.heap.objs.size (bindL (envOfC qual scope s.heap.objs.size f cd).kindOf (ps.zip us) fun _ => none) (cellsFrom (s.heap.objs.size + 1) scope.names []) (bindC (envOfC qual scope s.heap.objs.size f cd).kindOf (ps.zip us) fun _ => none) s1) :
    Inv (cxOf CX P w K mg base N qual scope f cd A outer s H E) [] (start N vs) H s1 := by
  have hpl : ps.length ≤ N.length := by have := congrArg List.length S.pre; rw [List.length_take] at this; omega
  obtain ⟨h1, tk, rfl, hk⟩ := x.done
  have noA : ∀ b : Addr, b ∉ (cxOf CX P w K mg base N qual scope f cd A outer s H E).ex := fun b z => absurd (show b ∈ ([] : List Addr) from z) (by simp)
  refine ⟨⟨e0.mod, S.kind, rfl, rfl, Nat.le_refl _, fun y z c h1 h2 => ?_, fun y hy => ?_, fun y c _ h => ?_, fun _ => hd, Around.frames_deeper e0.frames, .inr ⟨rfl, rfl⟩, fun b z => absurd z (noA b), e0.bs, e0.bsz, fun b _ _ => noA b, fun b z => absurd z (noA b), e0.funs, e0.frf⟩,
    rfl, e0.bare, Un.kept hk, ⟨_, x.toInCall.ns, fun i y v h1 h2 h3 => ?_⟩, fun y c h => ⟨_, x.cell y c h⟩, e0.hok.fresh (Nat.le_refl _), fun y c h => ?_, fun p hp => absurd (show p ∈ ([] : List (Addr × Obj)) from hp) (by simp), e0.hok.kept hk, ?_⟩
  · exact name_of_addr x.apart (PySem.mem_of_lookup h1) (PySem.mem_of_lookup h2)
  · have hy : scope.names.lookup y = some .cell ∨ scope.names.lookup y = some .free := hy
    rcases hy with hy | hy
    · exact cell_has hy
    · exact absurd rfl (S.nofree _ (PySem.mem_of_lookup hy))
  · exact Nat.le_of_lt (x.above y c (PySem.mem_of_lookup h))
  · have hi : i < vs.length := by
      unfold start at h2
      by_cases hi : i < vs.length
      · exact hi
      · rw [List.getElem?_append_right (by simpa using hi)] at h2
        rw [List.getElem?_replicate] at h2
        split at h2 <;> cases h2
    have ha : vs[i]? = some v := by
      unfold start at h2
      rw [List.getElem?_append_left (by simpa using hi), List.getElem?_map] at h2
      cases e : vs[i]? with
      | none => rw [e] at h2; cases h2
      | some a => rw [e] at h2; cases h2; rfl
    obtain ⟨u, hu, rv⟩ := r.get ha
    have hp : ps[i]? = some y := by
      rw [← S.pre, List.getElem?_take_of_lt (by omega)]; exact h1
    have ndP : ps.Nodup := by rw [← S.pre]; exact S.nd.sublist (List.take_sublist _ _)
    refine ⟨u, rv, ?_⟩
    rcases S.par y (List.mem_of_getElem? hp) with k | k
    · exact .inl ⟨k, bindL_get ndP hp hu k⟩
    · obtain ⟨c, e⟩ := cell_has (n := s.heap.objs.size + 1) k
      refine .inr ⟨.inl k, c, e, ?_⟩
      have q := x.cell y c e
      rw [bindC_get ndP hp hu (by show scope.names.lookup y ≠ _; rw [k]; decide)] at q
      exact q
  · exact e0.hok.fresh (Nat.le_of_lt (x.above y c (PySem.mem_of_lookup h)))
  · unfold start
    show _ = N.length
    rw [List.length_append, List.length_map, List.length_replicate]
    omega
theorem fn_of {CX : CXT} {P : Program} {w : World} {K : PySem.W.Frag} {mg : Str → Option Value} {base : Heap} {k : Nat} {f : Addr} {name qual : Str} {params : Arguments} {body : List Stmt} {scope : Scope} {dV kV doc pm cdv ct oc : Value} {an od : Option Addr}
    {osl : Array (Option Value)} {N ps : List Str} {sp : Sp} (lk : K.lookup f = some ⟨oc, od, .func (PySem.W.fnOf name qual params body scope dV kV doc pm an cdv ct), osl⟩) (hcd : PySem.W.codeIn K cdv qual = true) (S : FnScope N ps scope)
    (len : ∀ vs H Q E, sp vs H Q E → vs.length = ps.length)
    (hbody : ∀ (A : Around) (outer : List Env) (s : Shared) (H : Hp) (vs : List V) (Q : VK) (E : XK), Room k (A.deeper (envOfC qual scope s.heap.objs.size f cdv)) → sp vs H Q E →
      ∃ t, PSs (cxOf CX P w K mg base N qual scope f cdv A outer s H E) body t ∧ t { nx := fun _ H' => Q .non H', rt := Q } (start N vs) H) :
    FnOk P w K mg base CX (k + 1) f (PySem.W.fnOf name qual params body scope dV kV doc pm an cdv ct) ps sp := by
  refine ⟨len, fun A outer s H args us vs Q E hr e0 hb r hsp => ?_⟩
  have hl := len _ _ _ _ hsp
  have KX : K.In s.heap := e0.mod.kin.keeps fun b o e => (e0.bs b o e).1
  have lim : s.heap.NoLimit := e0.mod.nolimit.keeps fun b o e => (e0.bs b o e).1
  have hkind : ∀ y ∈ ps.zip us, scope.names.lookup y.1 = some .local ∨ (scope.names.lookup y.1 = some .cell ∧ ((cellsFrom (s.heap.objs.size + 1) scope.names []).lookup y.1).isSome = true) := fun ⟨n, v⟩ hy => by
    rcases S.par n (List.of_mem_zip hy).1 with q | q
    · exact .inl q
    · exact .inr ⟨q, PySem.W.cellsFrom_some _ _ _ (.inl q)⟩
  refine codeAny_call_function hr.depth (KX _ _ lk) rfl S.co S.gen rfl (PySem.W.codeRec_of KX hcd) (hb _ _ _ _ ?_)
  refine wpAny_newFunctionEnv_cells S.kind hkind fun env he s1 x => ?_
  subst he
  refine ⟨lim.keeps x.toInCall.keep, codeAny_func ?_⟩
  obtain ⟨t, ht, hq⟩ := hbody A outer s H vs Q E (hr.deeper _) hsp
  have I : Inv (cxOf CX P w K mg base N qual scope f cdv A outer s H E) [] (start N vs) H s1 := inv_start S hr.hd e0 hl r x
  refine wpAny_mono (ht [] s1 (start N vs) H _ I hq) (fun fl s' hs => ?_) fun e s' hs => hs
  have fin : ∀ {σ' : St} {H' : Hp} {v : V} {u : Value}, Inv (cxOf CX P w K mg base N qual scope f cdv A outer s H E) [] σ' H' s' → RelV v u → Q v H' → CE outer P w H s Q u s' :=
    fun {σ' H' v u} J rv q => ⟨v, H', J.os, J.bare, J.base, J.hok, rv, q⟩
  cases fl with
  | ret u =>
    obtain ⟨v, σ', H', J, rv, q⟩ := hs
    exact fin J rv q
  | next =>
    obtain ⟨σ', H', J, q⟩ := hs
    exact fin (v := V.non) (u := Value.none) J rfl q
  | brk =>
    obtain ⟨_, _, _, q⟩ := hs
    exact False.elim q
  | cont =>
    obtain ⟨_, _, _, q⟩ := hs
    exact False.elim q
end L2
namespace L2
open PySem PySem.Spec PyProof.Rows
section
variable {X : Cx} {x : Str} {p pos : Pos} {e : Expr} {es : List Expr} {t : TA} {id T : String} {r : List V → Hp → VK → Prop}
def tCB (r : List V → Hp → VK → Prop) (t : TA) : TE := fun σ H Q => t σ H fun vs H1 => r vs H1 Q
theorem pe_callB (hc : CallR X (.builtin id) r) (hg : Gl X x) (hm : X.mg x = none) (hv : bootBuiltins x = some (.builtin id)) (ha : PA X (e :: es) t) (hn : x ≠ "__name__" := by decide) (hdb : (x == ("__debug__" : Str)) = false := by decide)
    (he : starEach (e :: es) X.env = (false, eval e X.env) :: starEach es X.env := by rfl) (hpl : (backTo pos (starEach es X.env)).any (·.1) = false := by rfl) : PE X (.Call (.Name x p) (e :: es) [] pos) (tCB r t) := by
  intro pins s σ H Q I h
  refine wpAny_Call_Name_kw (ld_blt I hg hm hv ?_ hn hdb)
  exact PyProof.Rows.callWith_builtin1 (thn (ha pos pins s σ H _ I h) fun us s1 ⟨vs, H1, I1, r1, q1⟩ => hc pins s1 σ H1 vs us Q I1 r1 q1) he hpl
theorem pe_callTy (hc : CallR X (.type T) r) (hg : Gl X x) (hm : X.mg x = none) (hv : bootBuiltins x = some (.type T)) (ha : PA X (e :: es) t) (hn : x ≠ "__name__" := by decide) (hdb : (x == ("__debug__" : Str)) = false := by decide)
    (he : starEach (e :: es) X.env = (false, eval e X.env) :: starEach es X.env := by rfl) (hpl : (backTo pos (starEach es X.env)).any (·.1) = false := by rfl) : PE X (.Call (.Name x p) (e :: es) [] pos) (tCB r t) := by
  intro pins s σ H Q I h
  refine wpAny_Call_Name_kw (ld_blt I hg hm hv ?_ hn hdb)
  exact PyProof.Rows.callWith_type1 (thn (ha pos pins s σ H _ I h) fun us s1 ⟨vs, H1, I1, r1, q1⟩ => hc pins s1 σ H1 vs us Q I1 r1 q1) he hpl
end
end L2
namespace HT
open PySem PyProof.Rows
section
open PySem.SeqAt
open PySem.AutoSeq1 (wpAny_loadPart')
open PySem.MeetsSeq PySem.MeetsSeq2 PySem.MeetsSeq3
end
section
variable {prog : Program} {w : World} {A : Around} {E : Value → Shared → Prop} {s : Shared}
def sIx (n d : Nat) : Option Int → Nat
  | none => d
  | some v => if v < 0 then (v + (n : Int)).toNat else min v.toNat n
theorem sIx_none (n d : Nat) : sIx n d none = d := rfl
theorem sIx_nat (n d k : Nat) : sIx n d (some (k : Int)) = min k n := by
  show (if (k : Int) < 0 then ((k : Int) + (n : Int)).toNat else min (k : Int).toNat n) = min k n
  rw [if_neg (by omega), Int.toNat_natCast]
end
end HT
namespace L2
open PySem PySem.Spec PyProof.Rows
abbrev TO := St → Hp → (Option Int → Hp → Prop) → Prop
def PO (X : Cx) (e : Option Expr) (t : TO) : Prop :=
  ∀ (pins : List (Addr × Obj)) (s : Shared) (σ : St) (H : Hp) (Q : Option Int → Hp → Prop), Inv X pins σ H s → t σ H Q →
    wpAny (model X.prog X.w) X.A (evalPart e X.env) (fun u s' => ∃ o H', Inv X pins σ H' s' ∧ IsPart u o ∧ Q o H') X.xe s
def tNoPart : TO := fun _ H Q => Q none H
def tPart (t : TE) : TO := fun σ H Q => t σ H fun x H1 => ∃ i, x = .int i ∧ Q (some i) H1
theorem intsAre_of {ns : List Int} : ∀ {us : List Value}, Vals (ns.map V.int) us → IntsAre us ns := by
  induction ns with
  | nil => intro us r; rw [List.map_nil] at r; cases r; exact .nil
  | cons n ns ih =>
    intro us r
    rw [List.map_cons] at r
    cases r with
    | cons r1 r2 =>
      obtain ⟨t, e⟩ := r1
      subst e
      exact .cons n t (ih r2)
section
variable {X : Cx} {e : Expr} {te : TE} {lo hi : Option Expr} {tl th : TO} {pos p2 : Pos}
theorem po_none : PO X none tNoPart := by
  intro pins s σ H Q I h
  rw [evalPart_none]
  exact wpAny_pure ⟨none, H, I, .none, h⟩
theorem po_some (h : PE X e te) : PO X (some e) (tPart te) := by
  intro pins s σ H Q I hw
  rw [evalPart_some]
  refine thn (h pins s σ H _ I hw) fun u s1 ⟨x, H1, I1, r1, q1⟩ => ?_
  obtain ⟨i, rfl, q⟩ := q1
  obtain ⟨t, rfl⟩ := r1
  exact ⟨some i, H1, I1, .int i t, q⟩
def SlR (X : Cx) (r : V → Option Int → Option Int → Hp → VK → Prop) : Prop :=
  ∀ (pins : List (Addr × Obj)) (s : Shared) (σ : St) (H : Hp) (x : V) (v vl vu : Value) (lo hi : Option Int) (sl : Addr) (Q : VK), Inv X pins σ H s → RelV x v → s.heap.IsSliceOf sl vl vu .none → IsPart vl lo → IsPart vu hi → r x lo hi H Q →
    ∃ T id, typeLookup (.type T) "__getitem__" = pure (some (.builtin id)) ∧ s.TypeIs v T ∧ wpAny (model X.prog X.w) X.A (getItem v (.ref sl)) (EP X pins σ Q) X.xe s
def tSl (r : V → Option Int → Option Int → Hp → VK → Prop) (te : TE) (tl th : TO) : TE := fun σ H Q => te σ H fun x H1 => tl σ H1 fun l H2 => th σ H2 fun u H3 => r x l u H3 Q
theorem pe_slice {r : V → Option Int → Option Int → Hp → VK → Prop} (hr : SlR X r) (he : PE X e te) (hl : PO X lo tl) (hu : PO X hi th) : PE X (.Subscript e (.Slice lo hi none p2) pos) (tSl r te tl th) := by
  intro pins s σ H Q I h
  refine Subscript_ (thn (he pins s σ H _ I h) fun v s1 ⟨x, H1, I1, r1, q1⟩ => ?_)
  refine wpAny_Slice (thn (hl pins s1 σ H1 _ I1 q1) fun vl s2 ⟨l, H2, I2, pl, q2⟩ => thn (hu pins s2 σ H2 _ I2 q2) fun vu s3 ⟨u, H3, I3, pu, q3⟩ => ?_)
  rw [evalPart_none]
  refine wpAny_pure ?_
  have I4 : Inv X pins σ H3 { s3 with heap := s3.heap.push { cls := .type "slice", data := .fields #[vl, vu, .none] } } := I3.kept (t' := s3.toks) fun b ob q => Heap.get?_push_of_some _ q
  obtain ⟨T, id, hT, ht, hg⟩ := hr pins { s3 with heap := s3.heap.push { cls := .type "slice", data := .fields #[vl, vu, .none] } } σ H3 x v vl vu l u s3.heap.objs.size Q I4 r1 (Heap.IsSliceOf.new ..) pl pu q3
  show wpAny (model X.prog X.w) X.A (subscriptTail e (.Slice lo hi none p2) v (.ref s3.heap.objs.size)) (EP X pins σ Q) X.xe { s3 with heap := s3.heap.push { cls := .type "slice", data := .fields #[vl, vu, .none] } }
  exact tail_any (ops := [.ref s3.heap.objs.size, v]) ht hT hg (by with_unfolding_all rfl)
def cutV (xs : List V) (lo hi : Option Int) : List V := (xs.drop (HT.sIx xs.length 0 lo)).take (HT.sIx xs.length xs.length hi - HT.sIx xs.length 0 lo)
theorem cutV_length (xs : List V) (lo hi : Option Int) : (cutV xs lo hi).length ≤ xs.length := by
  unfold cutV
  rw [List.length_take, List.length_drop]
  omega
end
end L2
namespace L2
open PySem PySem.Spec PyProof.Rows
def ixN (n : Nat) (i : Int) : Option Nat := if 0 ≤ i then (if i < n then some i.toNat else none) else if -(n : Int) ≤ i then some (i + n).toNat else none
def atI {α : Type} (xs : List α) (i : Int) : Option α := (ixN xs.length i).bind fun j => xs[j]?
theorem ixN_seq {n : Nat} {i : Int} {j : Nat} (h : ixN n i = some j) : seqIndex? i n = some j ∧ j < n ∧ -(n : Int) ≤ i ∧ i < n := by
  unfold ixN at h
  by_cases h0 : 0 ≤ i
  · rw [if_pos h0] at h
    by_cases h1 : i < n
    · rw [if_pos h1] at h
      have e : i.toNat = j := Option.some.inj h
      exact ⟨by rw [seqIndex_of h0 h1, e], by omega, by omega, h1⟩
    · rw [if_neg h1] at h; cases h
  · rw [if_neg h0] at h
    by_cases h1 : -(n : Int) ≤ i
    · rw [if_pos h1] at h
      have e : (i + n).toNat = j := Option.some.inj h
      exact ⟨by rw [seqIndex_neg (by omega) h1, e], by omega, h1, by omega⟩
    · rw [if_neg h1] at h; cases h
theorem atI_get {α : Type} {xs : List α} {i : Int} {v : α} (h : atI xs i = some v) : ∃ j, seqIndex? i xs.length = some j ∧ xs[j]? = some v ∧ j < xs.length ∧ -(xs.length : Int) ≤ i ∧ i < xs.length := by
  unfold atI at h
  cases e : ixN xs.length i with
  | none => rw [e] at h; cases h
  | some j =>
    rw [e] at h
    obtain ⟨h1, h2, h3, h4⟩ := ixN_seq e
    exact ⟨j, h1, h, h2, h3, h4⟩
def PlainIx (b : Expr) : Prop := ∀ o i, subscripted b false o i = operate [o, i] (getItem o i)
def IxR (X : Cx) (r : R2) : Prop :=
  ∀ (value slice : Expr) (pins : List (Addr × Obj)) (s : Shared) (σ : St) (H : Hp) (x y : V) (v u : Value) (Q : VK), Inv X pins σ H s → RelV x v → RelV y u → r x y H Q →
    subscripted slice false v u = operate [v, u] (getItem v u) → wpAny (model X.prog X.w) X.A (subscriptTail value slice v u) (EP X pins σ Q) X.xe s
def MtR (X : Cx) (id : String) (r : V → List V → Hp → VK → Prop) : Prop :=
  ∀ (pins : List (Addr × Obj)) (s : Shared) (σ : St) (H : Hp) (x : V) (xs : List V) (v : Value) (us : List Value) (Q : VK), Inv X pins σ H s → RelV x v → Vals xs us → r x xs H Q →
    wpAny (model X.prog X.w) X.A (call (.builtin id) (v :: us)) (EP X pins σ Q) X.xe s
section
variable {X : Cx} {a b : Expr} {ta tb : TE} {pos : Pos}
theorem pe_ix {r : R2} (hr : IxR X r) (ha : PE X a ta) (hb : PE X b tb) (hs : PlainIx b) : PE X (.Subscript a b pos) (tOp r ta tb) := by
  intro pins s σ H Q I h
  exact Subscript_ (binT ha hb I h fun v u s2 x y H2 I2 rx ry q => hr a b pins s2 σ H2 x y v u Q I2 rx ry q (hs _ _))
def rIxL (K : PySem.W.Frag) : R2 := fun x y H Q => ∃ p xs i v, x = .ref p ∧ y = .int i ∧ SqL K H p xs ∧ atI xs i = some v ∧ Q v H
def rIxT (K : PySem.W.Frag) : R2 := fun x y H Q => ∃ p xs i v, x = .ref p ∧ y = .int i ∧ SqT K H p xs ∧ atI xs i = some v ∧ Q v H
theorem ix_list : IxR X (rIxL X.K) := by
  intro value slice pins s σ H x y v u Q I rx ry h hs
  obtain ⟨p, xs, i, z, rfl, rfl, hq, he, q⟩ := h
  cases rx
  obtain ⟨t, rfl⟩ := ry
  obtain ⟨its, r, pl, hz⟩ := I.list hq
  obtain ⟨j, h1, h2, h3, h4, h5⟩ := atI_get he
  obtain ⟨w, ew, rw'⟩ := r.get h2
  have hl := r.length
  have hn := line63
  have fin : EP X pins σ Q w s := ⟨z, H, I, rw', q⟩
  by_cases h0 : 0 ≤ i
  · have hj : i.toNat = j := by
      rw [seqIndex_of h0 h5] at h1
      exact Option.some.inj h1
    exact item_listR pl.isList h0 (by omega) (by rw [hj]; simpa using ew) fin hs
  · have hj : (i + (its.toArray.size : Int)).toNat = j := by
      rw [seqIndex_neg (by omega) h4] at h1
      rw [List.size_toArray, ← hl]
      exact Option.some.inj h1
    exact subscriptTail_builtinR (x := w) pl.isList.typeIs slot_list_getitem.lookup
      (wpAny_getItem_list_neg (Q := fun r s' => r = w ∧ EP X pins σ Q r s') pl.isList (by omega) (by rw [List.size_toArray] <;> omega) (by omega) (by rw [hj]; simpa using ew) ⟨rfl, fin⟩) hs
theorem ix_tup : IxR X (rIxT X.K) := by
  intro value slice pins s σ H x y v u Q I rx ry h hs
  obtain ⟨p, xs, i, z, rfl, rfl, hq, he, q⟩ := h
  cases rx
  obtain ⟨t, rfl⟩ := ry
  obtain ⟨its, r, pl, hz⟩ := I.tuple hq
  obtain ⟨j, h1, h2, h3, h4, h5⟩ := atI_get he
  obtain ⟨w, ew, rw'⟩ := r.get h2
  have hl := r.length
  have hn := line63
  have fin : EP X pins σ Q w s := ⟨z, H, I, rw', q⟩
  exact subscriptTail_builtinR (x := w) pl.typeIs slot_tuple_getitem.lookup
    (getItem_tuple (j := j) (Q := fun r s' => r = w ∧ EP X pins σ Q r s') pl (by omega) (by omega) (by rw [List.size_toArray, ← hl]; exact h1) (by simpa using ew) ⟨rfl, fin⟩) hs
theorem mapSeq_set (its : List Value) (n j : Nat) (u : Value) : Obj.mapSeq (·.setIfInBounds j u) { cls := .type "list", data := .seq its.toArray n } = { cls := .type "list", data := .seq (its.set j u).toArray n } := by
  simp [Obj.mapSeq]
theorem Inv.lst {pins : List (Addr × Obj)} {σ : St} {H : Hp} {s : Shared} {p : Addr} {xs : List V} (I : Inv X pins σ H s) (h : H p = some (.lst xs)) :
    ∃ (its : List Value) (n : Nat), Vals xs its ∧ s.heap.get? p = some { cls := .type "list", data := .seq its.toArray n } ∧ xs.length ≤ sizeLine := by
  obtain ⟨z, its, n, r, e⟩ := I.hok p _ h
  exact ⟨its, n, r, e, z⟩
theorem Inv.lstUpd {pins : List (Addr × Obj)} {σ : St} {H : Hp} {s : Shared} {p : Addr} {xs ys : List V} {its its' : List Value} {n n' : Nat} {f : Obj → Obj} (I : Inv X pins σ H s) (h : H p = some (.lst xs))
    (ho : s.heap.get? p = some { cls := .type "list", data := .seq its.toArray n }) (hf : f { cls := .type "list", data := .seq its.toArray n } = { cls := .type "list", data := .seq its'.toArray n' }) (r : Vals ys its') (hz : ys.length ≤ sizeLine) (t : Nat) :
    Inv X pins σ (upd H p (.lst ys)) { s with heap := s.heap.update p f, toks := t } := by
  have e : (s.heap.update p f).get? p = some { cls := .type "list", data := .seq its'.toArray n' } := by
    rw [Heap.get?_update_self f ho (by rw [hf] <;> rfl), hf]
  refine I.write (x := p) (e := p) (by rw [h]; trivial) (.inl rfl) (fun b u hb q => (Heap.get?_update_other _ _ (Ne.symm hb)).trans q) ⟨_, e⟩ ?_
  exact ⟨hz, its', n', r, e⟩
def rSetL : V → V → V → Hp → (Hp → Prop) → Prop := fun o i v H Q => ∃ p xs k j, o = .ref p ∧ i = .int k ∧ H p = some (.lst xs) ∧ ixN xs.length k = some j ∧ Q (upd H p (.lst (xs.set j v)))
theorem set_list : PSet X rSetL := by
  intro pins s σ H o i v ov iv u Q I ro ri rv h
  obtain ⟨p, xs, k, j, rfl, rfl, hp, hj, q⟩ := h
  cases ro
  obtain ⟨t, rfl⟩ := ri
  obtain ⟨its, n, r, ho, hz⟩ := I.lst hp
  obtain ⟨h1, h2, h3, h4⟩ := ixN_seq hj
  have hl := r.length
  have hn := line63
  have I' : Inv X pins σ (upd H p (.lst (xs.set j v))) { s with heap := s.heap.update p (Obj.mapSeq (·.setIfInBounds j u)) } :=
    I.lstUpd hp ho (mapSeq_set its n j u) (r.set rv j) (by rw [List.length_set]; exact hz) s.toks
  by_cases h0 : 0 ≤ k
  · have hk : k.toNat = j := by
      rw [seqIndex_of h0 h4] at h1
      exact Option.some.inj h1
    exact PySem.W.ki_setAt ho h0 (by omega) (by rw [List.size_toArray, ← hl]; exact h4) (by rw [hk]; exact ⟨_, I', q⟩)
  · have hk : (k + (its.toArray.size : Int)).toNat = j := by
      rw [seqIndex_neg (by omega) h3] at h1
      rw [List.size_toArray, ← hl]
      exact Option.some.inj h1
    exact PySem.W.ki_setBack ho (by omega) (by rw [List.size_toArray, ← hl]; exact h3) (by omega) (by rw [hk]; exact ⟨_, I', q⟩)
theorem slice_bounds (lo hi : Option Int) (n : Nat) : (sliceBounds lo hi none n).1 = ((HT.sIx n 0 lo : Nat) : Int) ∧ (sliceBounds lo hi none n).2.1 = ((HT.sIx n n hi : Nat) : Int) ∧ (sliceBounds lo hi none n).2.2 = 1 := by
  refine ⟨?_, ?_, rfl⟩
  · cases lo with
    | none => simp [sliceBounds, HT.sIx]
    | some i =>
      simp only [sliceBounds, HT.sIx, Option.getD_none, show (1 : Int) > 0 by decide, if_true]
      by_cases h : i < 0
      · simp only [h, if_true] <;> omega
      · simp only [h, if_false] <;> omega
  · cases hi with
    | none => simp [sliceBounds, HT.sIx]
    | some i =>
      simp only [sliceBounds, HT.sIx, Option.getD_none, show (1 : Int) > 0 by decide, if_true]
      by_cases h : i < 0
      · simp only [h, if_true] <;> omega
      · simp only [h, if_false] <;> omega
theorem slicePick_cut (its : List Value) (lo hi : Option Int) : slicePick its.toArray lo hi none = ((its.drop (HT.sIx its.length 0 lo)).take (HT.sIx its.length its.length hi - HT.sIx its.length 0 lo)).toArray := by
  obtain ⟨h1, h2, h3⟩ := slice_bounds lo hi its.toArray.size
  unfold slicePick
  rw [h1, h2, h3]
  simp only [sliceRange_one, pick_run, List.size_toArray] <;> rfl
def rSlL (K : PySem.W.Frag) : V → Option Int → Option Int → Hp → VK → Prop := fun x lo hi H Q => ∃ a xs, x = .ref a ∧ SqL K H a xs ∧ ∀ p, H p = none → Q (.ref p) (upd H p (.lst (cutV xs lo hi)))
theorem sl_list : SlR X (rSlL X.K) := by
  intro pins s σ H x v vl vu lo hi sl Q I rx hs pl pu h
  obtain ⟨a, xs, rfl, hx, q⟩ := h
  cases rx
  obtain ⟨its, r, ht, hz⟩ := I.list hx
  have hlen := r.length
  refine ⟨"list", _, slot_list_getitem.lookup, ht.isList.typeIs, ?_⟩
  refine wpAny_getItem_list_slice ht.isList hs pl pu .none (by simp) ?_ (by rw [List.size_toArray] <;> omega)
  rw [slicePick_cut, ← hlen]
  refine ⟨.ref s.heap.objs.size, _, I.laid (t' := s.toks) (o := .lst (cutV xs lo hi)) (fun b ob q => Heap.get?_push_of_some _ q) (Nat.le_refl _) ?_, rfl, q _ (I.hok.fresh (Nat.le_refl _))⟩
  exact ⟨Nat.le_trans (cutV_length xs lo hi) hz, _, 0, (r.drop (HT.sIx xs.length 0 lo)).take (HT.sIx xs.length xs.length hi - HT.sIx xs.length 0 lo), Heap.get?_push_size _ rfl⟩
def flatV : V → Bool
  | .non => true
  | .bl _ => true
  | .int _ => true
  | .str _ => true
  | _ => false
theorem call_len_seq : CallR X (.builtin "len") (fun xs H Q => ∃ p ys, xs = [.ref p] ∧ (SqL X.K H p ys ∨ SqT X.K H p ys) ∧ Q (.int ys.length) H) := by
  intro pins s σ H xs us Q I r h
  obtain ⟨p, ys, rfl, hq, q⟩ := h
  obtain ⟨u, rfl, rx⟩ := vals1 r
  cases rx
  have hn := line63
  rcases hq with hq | hq
  · obtain ⟨its, r', pl, hz⟩ := I.list hq
    have hlen := r'.length
    exact Calls.call_len_list pl.isList (by simp only [List.size_toArray] <;> omega) ⟨.int ys.length, H, I.tok _, ⟨s.toks + 1, by rw [List.size_toArray, hlen]⟩, q⟩
  · obtain ⟨its, r', pl, hz⟩ := I.tuple hq
    have hlen := r'.length
    exact len_tuple pl (by simp only [List.size_toArray] <;> omega) ⟨.int ys.length, H, I.tok _, ⟨s.toks + 1, by rw [List.size_toArray, hlen]⟩, q⟩
theorem call_list_of : CallR X (.type "list") (fun xs H Q => ∃ p ys, xs = [.ref p] ∧ (SqL X.K H p ys ∨ SqT X.K H p ys) ∧ ∀ l, H l = none → Q (.ref l) (upd H l (.lst ys))) := by
  intro pins s σ H xs us Q I r h
  obtain ⟨p, ys, rfl, hq, q⟩ := h
  obtain ⟨u, rfl, rx⟩ := vals1 r
  cases rx
  have fin : ∀ (its : List Value), Vals ys its → ys.length ≤ sizeLine → ∀ (h' : Heap) (c' : Nat), (∀ b o', s.heap.get? b = some o' → h'.get? b = some o') →
      h'.get? s.heap.objs.size = some { cls := .type "list", dict := none, data := .seq its.toArray c', slots := #[] } → EP X pins σ Q (.ref s.heap.objs.size) { s with heap := h' } := fun its r' hz h' c' kp e =>
    ⟨.ref s.heap.objs.size, _, I.laid (t' := s.toks) kp (Nat.le_refl _) (show ObjOk X.prog X.w _ h' _ (.lst ys) from ⟨hz, its, c', r', e⟩), rfl, q _ (I.hok.fresh (Nat.le_refl _))⟩
  rcases hq with hq | hq
  · obtain ⟨its, r', pl, hz⟩ := I.list hq
    have hlen := r'.length
    obtain ⟨o, ho, hc, n, hd⟩ := pl.isList
    exact call_list_seq p (.inl rfl) ho hc hd (fun h' c' kp e => fin its r' hz h' c' kp e) (by simp only [List.size_toArray] <;> omega)
  · obtain ⟨its, r', pl, hz⟩ := I.tuple hq
    have hlen := r'.length
    obtain ⟨o, ho, hc, n, hd⟩ := pl
    exact call_list_seq p (.inr rfl) ho hc hd (fun h' c' kp e => fin its r' hz h' c' kp e) (by simp only [List.size_toArray] <;> omega)
def tyV (K : PySem.W.Frag) (T : String) (x : V) (H : Hp) : Prop := match x with
  | .str _ => T = "str"
  | .int _ => T = "int"
  | .ref p => (T = "list" ∧ ∃ xs, SqL K H p xs) ∨ (T = "tuple" ∧ ∃ o, K.lookup p = some o ∧ o.cls = .type "tuple" ∧ o.dict = none) ∨
      (T = "dict" ∧ ((∃ kvs, H p = some (.dK kvs)) ∨ ∃ kvs, H p = some (.dT kvs))) ∨ (T = "set" ∧ ∃ S n, H p = some (.set S n))
  | _ => False
theorem tyV_is {pins : List (Addr × Obj)} {σ : St} {H : Hp} {s : Shared} {T : String} {x : V} {v : Value} (I : Inv X pins σ H s) (r : RelV x v) (ty : tyV X.K T x H) :
    s.TypeIs v T ∧ ∀ a, v = .ref a → ∃ ob, s.heap.get? a = some ob ∧ ob.dict = none := by
  cases x with
  | str z =>
    obtain ⟨t, rfl⟩ := r
    cases (show T = "str" from ty)
    exact ⟨typeIs_str s z t, fun _ e => nomatch e⟩
  | int i =>
    obtain ⟨t, rfl⟩ := r
    cases (show T = "int" from ty)
    exact ⟨typeIs_int s i t, fun _ e => nomatch e⟩
  | ref p =>
    cases r
    rcases ty with ⟨rfl, xs, hq⟩ | ⟨rfl, o, hk, hc, hd⟩ | ⟨rfl, hk⟩ | ⟨rfl, S, n, hk⟩
    · obtain ⟨its, _, pl, _⟩ := I.list hq
      refine ⟨pl.isList.typeIs, fun a e => ?_⟩
      cases e
      obtain ⟨o, n, e, c, hd, _⟩ := pl
      exact ⟨o, e, hd⟩
    · refine ⟨⟨o, I.kIn p o hk, hc⟩, fun a e => ?_⟩
      cases e
      exact ⟨o, I.kIn _ o hk, hd⟩
    · have z : ∃ o, s.heap.get? p = some o ∧ o.ExactDict := by
        rcases hk with ⟨kvs, hk⟩ | ⟨kvs, hk⟩
        · obtain ⟨_, _, _, _, o, _, _, e, ex, _⟩ := I.hok p _ hk
          exact ⟨o, e, ex⟩
        · obtain ⟨_, _, _, _, o, _, _, e, ex, _⟩ := I.hok p _ hk
          exact ⟨o, e, ex⟩
      obtain ⟨o, e, ex⟩ := z
      refine ⟨⟨o, e, ex.1⟩, fun a e2 => ?_⟩
      cases e2
      exact ⟨o, e, ex.2.1⟩
    · obtain ⟨o, _, _, _, e, ex, _⟩ := I.hok p _ hk
      refine ⟨⟨o, e, ex.1⟩, fun a e2 => ?_⟩
      cases e2
      exact ⟨o, e, ex.2.1⟩
  | _ => exact False.elim ty
def tBM (K : PySem.W.Frag) (T : String) (r : V → List V → Hp → VK → Prop) (to : TE) (t : TA) : TE := fun σ H Q => to σ H fun x H1 => tyV K T x H1 ∧ t σ H1 fun xs H2 => r x xs H2 Q
variable {o e : Expr} {es : List Expr} {to : TE} {t : TA} {name : Str} {apos cpos : Pos} {T id : String} {r : V → List V → Hp → VK → Prop}
theorem pe_bm (pa : PlainAttrs T) (slot : Slot T name id) (hty : typeOf (.builtin id) = pure (.type "method_descriptor")) (hm : MtR X id r) (ho : PE X o to) (ha : PA X (e :: es) t)
    (hbase : attributeBase o name X.env (eval o X.env) = eval o X.env := by rfl)
    (hfew : ((backTo cpos (starEach (e :: es) X.env)).all (fun x => !x.1) && (backToKw cpos (keywordEach [] X.env)).all (fun x => x.1.isSome)
      && decide ((e :: es).length + ([] : List Keyword).length + (if ([] : List Keyword).isEmpty then 0 else 1) < 30)) = true := by rfl)
    (hline : (apos.endLine == cpos.line) = true := by rfl) (hs : starEach (e :: es) X.env = (false, eval e X.env) :: starEach es X.env := by rfl) (hplain : (backTo cpos (starEach es X.env)).any (·.1) = false := by rfl) :
    PE X (.Call (.Attribute o name apos) (e :: es) [] cpos) (tBM X.K T r to t) := by
  intro pins s σ H Q I h
  refine wpAny_Call_method_late hbase hfew hline rfl (thn (ho pins s σ H _ I h) fun v s1 ⟨x, H1, I1, r1, ty, q1⟩ => ?_)
  obtain ⟨h1, h2⟩ := tyV_is I1 r1 ty
  refine ⟨T, id, pa, slot, hty, h1, h2, ?_⟩
  have hA := ha cpos pins s1 σ H1 _ I1 q1
  rw [hs] at hA ⊢
  refine Calls.callWith_builtin (by show (false || (backTo cpos (starEach es X.env)).any (·.1)) = false; rw [hplain] <;> rfl) (Calls.evalArgs_plain ?_)
  exact thn hA fun us s2 ⟨vs, H2, I2, r2, q2⟩ => hm pins s2 σ H2 x vs v us Q I2 r1 r2 q2
/- xs.append(e), list.index on a module's tuple .. are MtR facts of 06m -/
end
end L2
namespace L2
open PySem PySem.Spec PyProof.Rows
def MtM (X : Cx) (id : String) (r : V → List V → Hp → VK → Prop) : Prop :=
  ∀ (pins : List (Addr × Obj)) (s : Shared) (σ : St) (H : Hp) (x : V) (xs : List V) (v : Value) (us : List Value) (Q : VK), Inv X pins σ H s → RelV x v → Vals xs us → r x xs H Q →
    wpAny (model X.prog X.w) X.A (call (.builtin id) (v :: us)) (EP X pins σ Q) X.xe s
theorem Vals.one : ∀ {x : V} {us : List Value}, Vals [x] us → ∃ u, us = [u] ∧ RelV x u
  | _, _, .cons r .nil => ⟨_, rfl, r⟩
theorem Vals.eraseIdx : ∀ {xs : List V} {us : List Value} (i : Nat), Vals xs us → Vals (xs.eraseIdx i) (us.eraseIdx i)
  | _, _, _, .nil => .nil
  | _, _, 0, .cons _ t => t
  | _, _, i + 1, .cons r t => .cons r (Vals.eraseIdx i t)
theorem Vals.rep {xs : List V} {us : List Value} (h : Vals xs us) : ∀ k : Nat, Vals (List.replicate k xs).flatten (List.replicate k us).flatten
  | 0 => .nil
  | k + 1 => by
    rw [List.replicate_succ, List.replicate_succ, List.flatten_cons, List.flatten_cons]
    exact Vals.append h (Vals.rep h k)
theorem len_erase {α : Type} : ∀ (l : List α) (i : Nat), (l.eraseIdx i).length ≤ l.length
  | [], _ => Nat.le_refl _
  | _ :: _, 0 => Nat.le_succ _
  | _ :: r, i + 1 => Nat.succ_le_succ (len_erase r i)
theorem foldl_rep (its : List Value) : ∀ (k : Nat) (acc : List Value),
    List.foldl (fun x1 x2 => x1 ++ x2) acc.toArray (List.replicate k its.toArray) = (acc ++ (List.replicate k its).flatten).toArray
  | 0, acc => by simp
  | k + 1, acc => by
    have e : acc.toArray ++ its.toArray = (acc ++ its).toArray := by simp
    have e2 : (acc ++ its) ++ (List.replicate k its).flatten = acc ++ (List.replicate (k + 1) its).flatten := by
      rw [List.replicate_succ, List.flatten_cons, List.append_assoc]
    rw [← e2, ← foldl_rep its k (acc ++ its), ← e, List.replicate_succ, List.foldl_cons]
section
variable {X : Cx} {pins : List (Addr × Obj)} {σ : St} {H : Hp} {s : Shared} {l b : Addr} {xs ys zs : List V}
theorem Inv.lset {its its' : List Value} {n : Nat} {f : Array Value → Array Value} {t' : Nat} (I : Inv X pins σ H s) (hH : H l = some (.lst xs))
    (e : s.heap.get? l = some { cls := .type "list", data := .seq its.toArray n }) (hf : f its.toArray = its'.toArray) (hv : Vals ys its') (hz : ys.length ≤ sizeLine) :
    Inv X pins σ (upd H l (.lst ys)) { s with heap := s.heap.update l (Obj.mapSeq f), toks := t' } := by
  have q := PySem.IsL.update e f
  rw [hf] at q
  refine I.write (x := l) (e := l) (by rw [hH]; exact trivial) (.inl rfl) (fun b' u hb hu => (Heap.get?_update_other s.heap (Obj.mapSeq f) (Ne.symm hb)).trans hu) ⟨_, q⟩ ?_
  exact ⟨hz, its', _, hv, q⟩
theorem Inv.lnew {its : List Value} {t' : Nat} (I : Inv X pins σ H s) (hv : Vals ys its) (hz : ys.length ≤ sizeLine) :
    Inv X pins σ (upd H s.heap.objs.size (.lst ys)) { s with heap := s.heap.push { cls := .type "list", data := .seq its.toArray }, toks := t' } :=
  I.laid (fun _ _ q => Heap.get?_push_of_some _ q) (Nat.le_refl _) ⟨hz, its, 0, hv, Heap.get?_push_size _ rfl⟩
theorem Inv.fresh (I : Inv X pins σ H s) : H s.heap.objs.size = none := I.hok.fresh (Nat.le_refl _)
theorem Inv.lstM (I : Inv X pins σ H s) (hH : H l = some (.lst xs)) : xs.length ≤ sizeLine ∧ ∃ (its : List Value) (n : Nat), Vals xs its ∧ xs.length = its.length ∧ s.heap.get? l = some { cls := .type "list", data := .seq its.toArray n } := by
  obtain ⟨z, its, n, r, e⟩ := I.hok l _ hH
  exact ⟨z, its, n, r, r.length, e⟩
theorem notLongL {n : Nat} (h : n ≤ sizeLine) : Builtin.List.listTooLong n = false := by
  unfold Builtin.List.listTooLong
  exact decide_eq_false (by omega)
end
section
variable {X : Cx}
def rAppend : V → List V → Hp → VK → Prop := fun x vs H Q => ∃ l xs y, x = .ref l ∧ vs = [y] ∧ H l = some (.lst xs) ∧ xs.length < sizeLine ∧ Q .non (upd H l (.lst (xs ++ [y])))
theorem mt_append : MtM X "list.append" rAppend := by
  intro pins s σ H x vs v us Q I rx rv h
  obtain ⟨l, xs, y, rfl, rfl, hH, hz, q⟩ := h
  cases rx
  obtain ⟨u, rfl, ru⟩ := rv.one
  obtain ⟨z, its, n, r, hl, e⟩ := I.lstM hH
  refine call_meets F.slot_list_append ⟨_, e, rfl⟩ F.entry_list_append (F.args_list_append_2 _ _) (PySem.list_append l its.toArray n u (by rw [List.size_toArray]; omega)) ⟨e, ?_⟩
  refine ⟨.non, _, I.lset (its' := its ++ [u]) hH e (by simp) (r.append (.cons ru .nil)) ?_, rfl, q⟩
  rw [List.length_append, List.length_singleton]
  omega
def rPopAt : V → List V → Hp → VK → Prop := fun x vs H Q => ∃ l xs i k y, x = .ref l ∧ vs = [.int i] ∧ H l = some (.lst xs) ∧ -(2 ^ 63) ≤ i ∧ i < 2 ^ 63 ∧ seqIndex? i xs.length = some k ∧ xs[k]? = some y ∧ Q y (upd H l (.lst (xs.eraseIdx k)))
theorem mt_popAt : MtM X "list.pop" rPopAt := by
  intro pins s σ H x vs v us Q I rx rv h
  obtain ⟨l, xs, i, k, y, rfl, rfl, hH, h1, h2, hk, hy, q⟩ := h
  cases rx
  obtain ⟨u, rfl, ru⟩ := rv.one
  obtain ⟨t, rfl⟩ := ru
  obtain ⟨z, its, n, r, hl, e⟩ := I.lstM hH
  obtain ⟨w, hw, rw'⟩ := r.get hy
  refine call_meets F.slot_list_pop ⟨_, e, rfl⟩ F.entry_list_pop (F.args_list_pop_2 _ _)
    (MeetsSeq.list_pop_at l its.toArray n i t k w (fitsIndex_both h1 h2) (by rw [List.size_toArray, ← hl]; exact hk) (by rw [← Array.getElem?_toList]; exact hw) (by rw [List.size_toArray]; omega)) ⟨e, ?_⟩
  refine ⟨y, _, I.lset (its' := its.eraseIdx k) hH e ?_ (r.eraseIdx k) ?_, rw', q⟩
  · show its.toArray.eraseIdxIfInBounds k = (its.eraseIdx k).toArray
    rw [List.eraseIdxIfInBounds_toArray]
  · have := len_erase xs k
    omega
def rCat : R2 := fun x y H Q => ∃ l b xs zs, x = .ref l ∧ y = .ref b ∧ H l = some (.lst xs) ∧ H b = some (.lst zs) ∧ xs.length + zs.length ≤ sizeLine ∧ ∀ p, H p = none → Q (.ref p) (upd H p (.lst (xs ++ zs)))
theorem op_cat : OpR X (binaryOp .Add) rCat := by
  intro pins s σ H x y v u Q I rx ry h
  obtain ⟨l, b, xs, zs, rfl, rfl, hH, hB, hz, q⟩ := h
  cases rx
  cases ry
  obtain ⟨z, its, n, r, hl, e⟩ := I.lstM hH
  obtain ⟨z2, its2, n2, r2, hl2, e2⟩ := I.lstM hB
  refine PySem.P.add_list e e2 ?_ (by rw [List.size_toArray, List.size_toArray]; omega)
  have ea : its.toArray ++ its2.toArray = (its ++ its2).toArray := by simp
  rw [ea]
  exact ⟨.ref _, _, I.lnew (t' := s.toks) (r.append r2) (by rw [List.length_append]; omega), rfl, q _ I.fresh⟩
def rRep : R2 := fun x y H Q => ∃ l k xs, x = .ref l ∧ y = .int k ∧ H l = some (.lst xs) ∧ -(2 ^ 63) ≤ k ∧ k < 2 ^ 63 ∧ xs.length * k.toNat ≤ sizeLine ∧
  ∀ p, H p = none → Q (.ref p) (upd H p (.lst (List.replicate k.toNat xs).flatten))
theorem len_rep {α : Type} (xs : List α) (k : Nat) : (List.replicate k xs).flatten.length = k * xs.length := by
  induction k with
  | zero => simp
  | succ k ih => rw [List.replicate_succ, List.flatten_cons, List.length_append, ih, Nat.succ_mul, Nat.add_comm]
theorem op_rep : OpR X (binaryOp .Mult) rRep := by
  intro pins s σ H x y v u Q I rx ry h
  obtain ⟨l, k, xs, rfl, rfl, hH, h1, h2, hz, q⟩ := h
  cases rx
  obtain ⟨t, rfl⟩ := ry
  obtain ⟨z, its, n, r, hl, e⟩ := I.lstM hH
  have hlen : its.toArray.size * k.toNat ≤ sizeLine := by rw [List.size_toArray, ← hl]; exact hz
  have hcap : ¬ its.toArray.size * k.toNat > (2 ^ 63 - 1) / 8 := by
    have : (sizeLine : Nat) ≤ (2 ^ 63 - 1) / 8 := by decide
    omega
  have hfit : ¬ (!Builtin.List.listFitsIndex k) = true := by
    rw [fitsIndex_both h1 h2]
    exact Bool.false_ne_true
  have hlong : ¬ Builtin.List.listTooLong (its.toArray.size * k.toNat) = true := by
    rw [notLongL hlen]
    exact Bool.false_ne_true
  have hnew : List.foldl (fun x1 x2 => x1 ++ x2) #[] (List.replicate (if its.toArray.isEmpty = true then 0 else k.toNat) its.toArray) = (List.replicate k.toNat its).flatten.toArray := by
    have f0 : ∀ m : Nat, List.foldl (fun x1 x2 => x1 ++ x2) #[] (List.replicate m its.toArray) = (List.replicate m its).flatten.toArray := fun m => by
      have := foldl_rep its m []
      rw [List.nil_append] at this
      exact this
    rw [f0]
    cases its with
    | nil => simp
    | cons a r' => rw [if_neg (by simp)]
  refine wpAny_binaryOp_repeat_ref (T := "list") (U := "int") (by decide) ⟨_, e, rfl⟩ (fun s' => typeIs_int s' k t) noFill_list_mul F.fills_int_mul F.slot_int_rmul repeat_list F.slot_int_index.lookup
    (call_meets F.slot_int_rmul (typeIs_int s k t) F.entry_int_rmul (F.args_int_rmul_2 _ _) (int___rmul___int_list k t l its.toArray n)
      ⟨e, rfl, ⟨_, e, rfl⟩, call_meets F.slot_list_mul ⟨_, e, rfl⟩ F.entry_list_mul (F.args_list_mul_2 _ _) (AutoListH.list___mul___list_int_3 l its.toArray n k t hfit hcap hlong) ⟨e, ?_⟩⟩)
  rw [hnew]
  exact ⟨.ref _, _, I.lnew (t' := s.toks) (r.rep k.toNat) (by rw [len_rep, Nat.mul_comm]; exact hz), rfl, q _ I.fresh⟩
end
section
variable {prog : Program} {w : World} {A : Around} {E : Value → Shared → Prop} {s : Shared}
end
section
variable {X : Cx}
end
end L2
namespace Att
open PySem PySem.W PySem.Calls PyProof.Rows
theorem ints_of_wellAll {P : Params} {h : Heap} : ∀ (ns : List Int) (vs : List Value), WellAll P h vs (ns.map WData.int) → IntsAre vs ns := by
  intro ns
  induction ns with
  | nil =>
    intro vs w
    rw [List.map_nil] at w
    cases w
    exact .nil
  | cons n ns ih =>
    intro vs w
    rw [List.map_cons] at w
    cases w with
    | cons a b =>
      cases a
      exact .cons _ _ (ih _ b)
theorem script_of {l : OpenLaw} {n : Nat} (hn : l.most = some n) {P : Params} {h : Heap} {args : List WData} {vals : List Value}
    (hpre : l.row.toRowW.claim.pre args = true) (hwl : WellAll P h vals args) :
    ∃ a vs ns, vals = [Value.ref a] ∧ args = [WData.list (ns.map WData.int)] ∧ h.get? a = some { cls := .type "list", data := .seq vs.toArray } ∧ IntsAre vs ns ∧ ns.length ≤ n := by
  have hsh : WShape.hasAll [] args [.list .int] = true := (pre_splitW hpre).1
  have hc : l.pre.holds [] { args := args } = true := (pre_splitW hpre).2
  obtain ⟨d, r, rfl, h1, h2⟩ := hasAllW_cons hsh
  obtain rfl := hasAllW_nil h2
  obtain ⟨xs, rfl, h3⟩ := hasW_list h1
  obtain ⟨ns, rfl⟩ := items_int h3
  have hlen : ns.length ≤ n := by
    unfold OpenLaw.pre at hc
    have h4 : (WTm.not (.lt (.lit (.int (n : Int))) (.len (.arg 0)))).holds [] { args := [.list (ns.map .int)] } = true := by
      have h4 := (holds_andW hc).1
      rw [hn] at h4
      exact h4
    have h5 := condW_of h4 (w_not (w_lt w_lit (w_len_list (w_arg rfl))))
    rw [List.length_map] at h5
    refine Nat.le_of_not_lt fun q => ?_
    have q' : (n : Int) < ((ns.length : Nat) : Int) := by omega
    first
      | (rw [decide_eq_true q'] at h5; exact absurd h5 (by decide))
      | (simp at h5; omega)
  cases hwl with
  | cons w1 w2 =>
    cases w2
    cases w1 with
    | list ho hall => exact ⟨_, _, ns, rfl, rfl, ho, ints_of_wellAll ns _ hall, hlen⟩
theorem post_true (l : OpenLaw) (args : List WData) : l.row.toRowW.claim.post args (.bool true) args = true :=
  postW_of (r := l.row.toRowW) (X := (true == true))
    (show WShape.has [] (.bool true) .bool = true by first | rfl | decide | simp [WShape.has, WShape.arms, WShape.armsAll])
    (show (WTm.eq .res (.lit (.bool true))).value [] { args := args, res := some (.bool true), after := args } = some (.bool (true == true)) from w_eq_bool (w_res rfl) w_lit) rfl
theorem attach_call {l : OpenLaw} {n : Nat} {q : Program} {loose : List Str} {XP : (Str → Option Value) → Heap → Prop} {YP : World → Heap → Prop} {d : DefRec}
    (hn : l.most = some n) (hdf : d.params.defaults = [])
    (call : ∀ (w : World) (s₀ s₁ : Shared) (mg mb : Str → Option Value) (fa : Addr) (o : Obj) (pm cd doc : Value) (a : Addr) (vs : List Value) (ns : List Int),
      Ground q loose [] XP w s₀ mg mb s₁.heap → YP w s₁.heap →
      s₁.heap.get? fa = some o → o.data = .func (docDef d.name d.params d.body d.scope pm cd doc) → s₁.heap.CodeRec cd d.name → mg d.name = some (.ref fa) →
      s₁.heap.get? a = some { cls := .type "list", data := .seq vs.toArray } → IntsAre vs ns → ns.length ≤ n → s₁.gens = #[] →
      codeAny (model l.prog w) callerA (.call (.ref fa) ⟨[.ref a], []⟩) (fun r s' => r = .ok (.ret (.bool true)) ∧ OldK s₁.heap s'.heap ∧ s'.os = s₁.os ∧ AllBare s'.gens) s₁) :
    WalkO q loose XP YP l.row.toRowW d [] (fun f vs => PySem.call f vs) := by
  intro w s₀ s₁ mg mb G Y fa o pm cd doc dV kV ho hd hcd hD hmg hg args vals as hpre hlay hrd hwl hlo
  obtain rfl : dV = .none := Dflts.none hD hdf
  obtain rfl : kV = .none := Dflts.noKw hD
  obtain ⟨a, vs, ns, rfl, rfl, hobj, hints, hlen⟩ := script_of hn hpre hwl
  refine enter_call (codeAny_mono (call w s₀ s₁ mg mb fa o pm cd doc a vs ns G Y ho (fd_plain hd) hcd hmg hobj hints hlen hg) fun r s' hq => ?_)
  obtain ⟨rfl, h2, h3, h4⟩ := hq
  exact ⟨.inl ⟨.bool true, .bool true, [], rfl, fun _ => rfl, .bool true, post_true l _, fun _ => ⟨List.Pairwise.nil, fun _ hm => (nomatch hm)⟩⟩, h2, h3, h4⟩
section
variable {prog : Program} {w : World} {A : Around} {E : Value → Shared → Prop} {s : Shared} {K : Frag}
end
end Att
namespace L2
open PySem PySem.Spec PyProof.Rows
theorem vals_ints : ∀ {vs : List Value} {ns : List Int}, IntsAre vs ns → Vals (ns.map V.int) vs
  | _, _, .nil => .nil
  | _, _, .cons n t h => .cons ⟨t, rfl⟩ (vals_ints h)
def Only (H : Hp) : Prop := ∀ b, H b = none ∨ ∃ o xs, H b = some (.frz o (.lst xs))
theorem law_call {P : Program} {w : World} {K : PySem.W.Frag} {mg mb : Str → Option Value} {CX : CXT} {k : Nat} {fa a : Addr} {fd : FuncData} {x : Str} {sp : Sp} {s₁ : Shared} {vs : List Value} {ns : List Int}
    (KX : K.In s₁.heap) (hns : s₁.heap.Ns mainGlobals mg) (hb : s₁.heap.Ns builtinsNs mb) (hbb : ∀ x : Str, x ≠ "__name__" → mb x = bootBuiltins x) (hlim : s₁.heap.NoLimit) (hg : s₁.gens = #[])
    (ha : s₁.heap.get? a = some { cls := .type "list", data := .seq vs.toArray }) (hi : IntsAre vs ns) (hl : ns.length ≤ sizeLine) (hr : Room k callerA)
    (F : ∀ base : Heap, K.In base → base.Ns mainGlobals mg → FnOk P w K mg base CX k fa fd [x] sp) (hbind : ∀ (s : Shared) (u : Value), BindsTo s fd ⟨[u], []⟩ [(x, u)])
    (hsp : ∀ H : Hp, Only H → SqL K H a (ns.map V.int) → sp [.ref a] H (fun v _ => v = .bl true) fun _ _ _ => False)
    (hCX : ∀ H e s', CX [] H s₁ (fun _ _ _ => False) e s' → False) :
    codeAny (model P w) callerA (.call (.ref fa) ⟨[.ref a], []⟩) (fun r s' => r = .ok (.ret (.bool true)) ∧ OldK s₁.heap s'.heap ∧ s'.os = s₁.os ∧ AllBare s'.gens) s₁ := by
  have rv := vals_ints hi
  have lenV := hi.length
  have core : ∀ H : Hp, Only H → SqL K H a (ns.map V.int) → HOk P w H s₁.heap → (∀ b, H b ≠ none → b = a) → (H a ≠ none → K.lookup a = none) →
      codeAny (model P w) callerA (.call (.ref fa) ⟨[.ref a], []⟩) (fun r s' => r = .ok (.ret (.bool true)) ∧ OldK s₁.heap s'.heap ∧ s'.os = s₁.os ∧ AllBare s'.gens) s₁ := by
    intro H hO hS hok hA hK
    have base_of : ∀ {b : Addr} {o : Obj}, s₁.heap.get? b = some o → H b = none → (hidT s₁.heap H).get? b = some o := fun e n => hidT_get e n
    have noA : ∀ {b : Addr} {o : Obj} {es : Array DictEntry} {ep : Nat}, s₁.heap.get? b = some o → o.data = .dict es ep → H b = none := fun {b o es ep} e d => by
      cases q : H b with
      | none => rfl
      | some u =>
        have e' : b = a := hA b (by rw [q]; simp)
        subst e'
        rw [ha] at e; cases e
        have d' : Data.seq vs.toArray _ = Data.dict es ep := d
        cases d'
    have nsK : ∀ {b : Addr} {m : Str → Option Value}, s₁.heap.Ns b m → (hidT s₁.heap H).Ns b m := fun {b m} ⟨o, es, ep, e, d, r⟩ => ⟨o, es, ep, base_of e (noA e d), d, r⟩
    have hKb : K.In (hidT s₁.heap H) := fun b o e => base_of (KX b o e) (by
      cases q : H b with
      | none => rfl
      | some u =>
        have e' : b = a := hA b (by rw [q]; simp)
        subst e'
        rw [hK (by rw [q]; simp)] at e; cases e)
    have hM : Mod K mg (hidT s₁.heap H) := ⟨hKb, nsK hns, ⟨mb, nsK hb, hbb⟩, let ⟨mc, h1, h2⟩ := hlim; ⟨mc, nsK h1, h2⟩⟩
    have e0 : Env0 P w K mg (hidT s₁.heap H) callerA [] s₁ H := ⟨rfl, hM, fun b o e => of_hidT e, Nat.le_of_eq (hidT_size _ _), trivial, fun b hb => absurd (show b ∈ ([] : List Addr) from hb) (by simp), hok, .of_eq hg⟩
    refine codeAny_mono ((F _ hKb (nsK hns)).run callerA [] s₁ H ⟨[.ref a], []⟩ [.ref a] [.ref a] _ _ hr e0 (hbind s₁ (.ref a)) (.cons rfl .nil) (hsp H hO hS)) fun r s' h => ?_
    cases r with
    | error e => exact (hCX H e s' h).elim
    | ok fl =>
      cases fl with
      | next => exact False.elim h
      | brk => exact False.elim h
      | cont => exact False.elim h
      | ret u =>
        obtain ⟨v, H', os, bare, un, hok', r', q⟩ := h
        have q' : v = .bl true := q
        subst q'
        obtain rfl : u = Value.bool true := r'
        refine ⟨rfl, OldK.of_keep fun b o e => ?_, os, bare⟩
        cases q : H b with
        | none => exact un.keep b o e q (by intro z; exact absurd (show b ∈ ([] : List Addr) from z) (by simp)) (by simp)
        | some u =>
          rcases hO b with z | ⟨ob, xs, z⟩
          · rw [q] at z; cases z
          · have z2 := un.frzs b ob _ z
            obtain ⟨e1, _⟩ := hok b _ z
            obtain ⟨e2, _⟩ := hok' b _ z2
            rw [e] at e1; cases e1
            exact e2
  cases hk : K.lookup a with
  | some o =>
    have e := KX a o hk
    rw [ha] at e
    cases e
    refine core (fun _ => none) (fun _ => .inl rfl) (.inr ⟨_, vs.toArray, _, hk, rfl, rfl, rfl, by rw [List.size_toArray, lenV]; exact hl, by simpa using rv⟩) (fun b u z => by have z' : (none : Option HO) = some u := z; cases z') (fun b z => absurd rfl z) fun z => absurd rfl z
  | none =>
    refine core (fun b => if b = a then some (.frz { cls := .type "list", data := .seq vs.toArray } (.lst (ns.map V.int))) else none) (fun b => ?_) (.inl (.inr ⟨{ cls := .type "list", data := .seq vs.toArray }, if_pos rfl⟩)) (fun b u z => ?_) (fun b z => ?_) fun _ => hk
    · by_cases hb : b = a
      · exact .inr ⟨_, _, if_pos hb⟩
      · exact .inl (if_neg hb)
    · by_cases hb : b = a
      · have z' := (if_pos hb).symm.trans z
        cases z'
        subst hb
        exact ⟨ha, by rw [List.length_map]; exact hl, vs, _, rv, ha⟩
      · have z' := (if_neg hb).symm.trans z
        cases z'
    · by_cases hb : b = a
      · exact hb
      · exact absurd (if_neg hb) z
end L2
namespace L2
open PySem PySem.Spec PyProof.Rows
theorem walk_of {l : PySem.W.OpenLaw} {n k : Nat} {q : Program} {loose : List Str} {XP : (Str → Option Value) → Heap → Prop} {YP : World → Heap → Prop} {d : DefRec} {K : Params → PySem.W.Frag} {CX : World → CXT} {sp : World → Sp} {x : Str}
    (hn : l.most = some n) (hn2 : n ≤ sizeLine) (hdf : d.params.defaults = []) (hr : Room k callerA)
    (hY : ∀ (w : World) (h : Heap), YP w h → (K w.params).In h)
    (F : ∀ (w : World) (mg : Str → Option Value) (fa : Addr) (h : Heap), (K w.params).In h → h.Ns mainGlobals mg → mg d.name = some (.ref fa) →
      ∃ fd : FuncData, (∀ (s : Shared) (u : Value), BindsTo s fd ⟨[u], []⟩ [(x, u)]) ∧
        ∀ base : Heap, (K w.params).In base → base.Ns mainGlobals mg → FnOk l.prog w (K w.params) mg base (CX w) k fa fd [x] (sp w))
    (hsp : ∀ (w : World) (H : Hp) (a : Addr) (ns : List Int), ns.length ≤ n → Only H → SqL (K w.params) H a (ns.map V.int) → sp w [.ref a] H (fun v _ => v = .bl true) fun _ _ _ => False)
    (hCX : ∀ (w : World) (H : Hp) (s : Shared) (e : Value) (s' : Shared), CX w [] H s (fun _ _ _ => False) e s' → False) :
    PySem.W.WalkO q loose XP YP l.row.toRowW d [] (fun f vs => PySem.call f vs) := by
  refine Att.attach_call hn hdf fun w s₀ s₁ mg mb fa o pm cd doc a vs ns G Y ho hd hcd hmg hobj hints hlen hg => ?_
  have KX := hY w _ Y
  obtain ⟨fd, hb, hF⟩ := F w mg fa _ KX G.T.g hmg
  exact law_call KX G.T.g G.T.b G.T.builtins G.T.nolimit hg hobj hints (Nat.le_trans hlen hn2) hr hF hb (fun H hO hS => hsp w H a ns hlen hO hS) fun H e s' => hCX w H s₁ e s'
end L2
/- THE LAST THEOREM (shape; LID, My.* are yours):
   My.Adr: a structure of the addresses that your layer names (classes, functions); My.Txt K t: a structure (Prop) of the equations over K;
   My.txt_mk : {K} {implicit addresses ..} (e1 : nsIn K mainGlobals "law" = some (some (.ref f))) (e2 : K.lookup f = some ⟨oc, od, .func (fnOf "law" "law" params body scope dV kV doc pm an cdv ct), sl⟩) (e3 : codeIn K cdv "law" = true) .. : ∃ t, My.Txt K t
set_option maxRecDepth 100000 in
set_option maxHeartbeats 0 in
theorem PySem.Challenge.cw_LID_holds : PySem.Challenge.rw_LID.Holds := by
  w_on; o_law; k_head; (case hw => w_witness2)
  k_fill
  refine L2.walk_of (l := PySem.Challenge.rw_LID) (n := 63) (k := 40) (x := "script") (CX := fun w => ..) (sp := fun _ => My.sp_law) rfl (by decide) rfl ⟨rfl, by decide, by decide⟩ (fun w h Y => PySem.W.kIn_of Y) ?F ?S ?C
  case F =>
    intro w mg fa h KX G hmg
    have T : ∃ t, My.Txt (L2.KOf KX) t := by
      dsimp only []                          -- K must stand as «<heap const> w.params» for k_is
      refine' My.txt_mk ?e1 ?e2 ?e3 ..
      (case e1 => PySem.W.k_is)                    -- in the order: a name -> its address -> its object -> its parts
      (case e2 => PySem.W.k_is)
      ..
    obtain ⟨t, T⟩ := T
    have e0 := hmg.symm.trans (PySem.W.mg_of KX G T.law)
    cases e0                                       -- fa is the law's own address
    exact ⟨_, fun s u => .of_eq rfl, fun base kb nb => My.law_fn T kb nb⟩     -- if «.of_eq rfl» comes too early: refine' ⟨_, ?b, fun base kb nb => My.law_fn T kb nb⟩; exact fun s u => .of_eq rfl
  case S => exact fun w H a ns hl hO hS => ..
  case C => exact ..
(the tactic k_is has no namespace: write k_is) -/
namespace L2
open PySem PySem.Spec PyProof.Rows
def defArgs (s : Stmt) : Arguments := match s with
  | .FunctionDef _ a _ _ _ _ _ _ _ _ => a
  | _ => { posonlyargs := [], args := [], vararg := none, kwonlyargs := [], kw_defaults := [], kwarg := none, defaults := [] }
def defBody (s : Stmt) : List Stmt := match s with
  | .FunctionDef _ _ b _ _ _ _ _ _ _ => b
  | _ => []
def defScope (s : Stmt) : Scope := match s with
  | .FunctionDef _ _ _ _ _ _ sc _ _ _ => sc
  | _ => { kind := .function, names := [], isGenerator := false, isCoroutine := false }
abbrev CX0 : CXT := fun _ _ _ _ _ _ => False
abbrev E0 : XK := fun _ _ _ => False
theorem pass0 {X : Cx} : Passes CX0 X E0 := fun _ _ _ _ _ _ _ h => h.elim
structure Fun (K : PySem.W.Frag) (x qual : Str) (st : Stmt) (f : Addr) (fd : FuncData) : Prop where
  ex : ∃ (oc : Value) (od : Option Addr) (kV doc pm : Value) (an : Option Addr) (cdv ct : Value) (osl : Array (Option Value)),
    fd = PySem.W.fnOf x qual (defArgs st) (defBody st) (defScope st) .none kV doc pm an cdv ct ∧ K.lookup f = some ⟨oc, od, .func fd, osl⟩ ∧ PySem.W.codeIn K cdv qual = true
  kp : PySem.W.keepIn K (.ref f) = true
section
variable {P : Program} {w : World} {K : PySem.W.Frag} {mg : Str → Option Value} {base : Heap}
theorem Fun.ok {x qual : Str} {st : Stmt} {f : Addr} {fd : FuncData} {N ps : List Str} {k : Nat} {sp : Sp} (F : Fun K x qual st f fd) (S : FnScope N ps (defScope st)) (len : ∀ vs H Q E, sp vs H Q E → vs.length = ps.length)
    (hbody : ∀ (cdv : Value) (A : Around) (outer : List Env) (s : Shared) (H : Hp) (vs : List V) (Q : VK) (E : XK), Room k (A.deeper (envOfC qual (defScope st) s.heap.objs.size f cdv)) → sp vs H Q E →
      ∃ t, PSs (cxOf CX0 P w K mg base N qual (defScope st) f cdv A outer s H E).nox (defBody st) t ∧ t { nx := fun _ H' => Q .non H', rt := Q } (start N vs) H) : FnOk P w K mg base CX0 (k + 1) f fd ps sp := by
  obtain ⟨oc, od, kV, doc, pm, an, cdv, ct, osl, rfl, lk, hcd⟩ := F.ex
  refine fn_of lk hcd S len fun A outer s H vs Q E hr hsp => ?_
  obtain ⟨t, h, q⟩ := hbody cdv A outer s H vs Q E hr hsp
  exact ⟨t, h.nox, q⟩
theorem Fun.binds {x qual : Str} {st : Stmt} {f : Addr} {fd : FuncData} {ps : List Str} (F : Fun K x qual st f fd)
    (h : ∀ (kV doc pm : Value) (an : Option Addr) (cdv ct : Value) (us : List Value), us.length = ps.length → bindArgs (PySem.W.fnOf x qual (defArgs st) (defBody st) (defScope st) .none kV doc pm an cdv ct) ⟨us, []⟩ = pure (ps.zip us)) : Binds K fd ps [] := by
  obtain ⟨oc, od, kV, doc, pm, an, cdv, ct, osl, rfl, lk, hcd⟩ := F.ex
  exact .all (h kV doc pm an cdv ct)
theorem fun_mk {x qual : Str} {st : Stmt} {f : Addr} {oc : Value} {od an : Option Addr} {osl : Array (Option Value)} {kV doc pm cdv ct : Value} (l : K.lookup f = some ⟨oc, od, .func (PySem.W.fnOf x qual (defArgs st) (defBody st) (defScope st) .none kV doc pm an cdv ct), osl⟩)
    (c : PySem.W.codeIn K cdv qual = true) (k : PySem.W.keepIn K (.ref f) = true) : Fun K x qual st f (PySem.W.fnOf x qual (defArgs st) (defBody st) (defScope st) .none kV doc pm an cdv ct) := ⟨⟨oc, od, kV, doc, pm, an, cdv, ct, osl, rfl, l, c⟩, k⟩
end
theorem small1000 {n : Nat} (h : n ≤ 1000) : n < sizeLine := Nat.lt_of_le_of_lt h (by decide)
section
variable {X : Cx}
theorem pv (i : Nat) {x : Str} {pos : Pos} (hN : X.N[i]? = some x := by rfl) (hv : Vis X.env.scope x := by first | exact Or.inl rfl | exact Or.inr (Or.inl rfl) | exact Or.inr (Or.inr rfl)) (hd : (x == ("__debug__" : Str)) = false := by decide)
    (hcd : (x == ("__classdict__" : Str)) = false := by decide) : PE X (.Name x pos) (tVar i) := pe_var hN hv hd hcd
end
def Same (H H' : Hp) : Prop := ∀ b o, H b = some o → H' b = some o
theorem Same.refl (H : Hp) : Same H H := fun _ _ h => h
theorem Same.trans {H H1 H2 : Hp} (a : Same H H1) (b : Same H1 H2) : Same H H2 := fun c o h => b c o (a c o h)
theorem Same.free {H H' : Hp} (e : Same H H') {l : Addr} (h : H' l = Option.none) : H l = Option.none := by
  cases q : H l with
  | none => rfl
  | some o =>
    rw [e l o q] at h
    cases h
theorem Same.seq {K : PySem.W.Frag} {H H' : Hp} {a : Addr} {xs : List V} (e : Same H H') (h : SqL K H a xs) : SqL K H' a xs := by
  rcases h with (h | ⟨o, h⟩) | h
  · exact .inl (.inl (e _ _ h))
  · exact .inl (.inr ⟨o, e _ _ h⟩)
  · exact .inr h
end L2
set_option Elab.async false
set_option linter.all false
set_option maxRecDepth 100000
set_option maxHeartbeats 4000000
namespace L2
open PySem PySem.Spec PyProof.Rows
def clFrom (env : Env) : List (Str × NameKind) → List (Str × Addr) → List (Str × Addr)
  | [], acc => acc
  | (n, k) :: r, acc => clFrom env r (if k == .free then (n, (env.cells.lookup n).getD 0) :: acc else acc)
theorem closureFor_eq {scope : Scope} {env : Env} (h : ∀ n, (n, NameKind.free) ∈ scope.names → ∃ c, env.cells.lookup n = some c) : closureFor scope env = pure (clFrom env scope.names []) := by
  have go : ∀ (names : List (Str × NameKind)) (acc : List (Str × Addr)), (∀ n, (n, NameKind.free) ∈ names → ∃ c, env.cells.lookup n = some c) →
      (forIn names acc (fun (x : Str × NameKind) (cs : List (Str × Addr)) => match x with
        | (name, kind) => if (kind == .free) = true then (do let c ← cellOf env name; pure (ForInStep.yield ((name, c) :: cs))) else pure (ForInStep.yield cs)) : Sem (List (Str × Addr))) = pure (clFrom env names acc) := by
    intro names
    induction names with
    | nil => intro acc _; rfl
    | cons x r ih =>
      intro acc hn
      obtain ⟨n, k⟩ := x
      rw [List.forIn_cons]
      have hr : ∀ m, (m, NameKind.free) ∈ r → ∃ c, env.cells.lookup m = some c := fun m hm => hn m (List.mem_cons_of_mem _ hm)
      by_cases hk : k = .free
      · subst hk
        obtain ⟨c, hc⟩ := hn n List.mem_cons_self
        have e : cellOf env n = pure c := by unfold cellOf; rw [hc]
        have e2 : clFrom env ((n, NameKind.free) :: r) acc = clFrom env r ((n, c) :: acc) := by
          show clFrom env r (if (NameKind.free == NameKind.free) = true then (n, (env.cells.lookup n).getD 0) :: acc else acc) = _
          rw [if_pos (by decide), hc]; rfl
        rw [e2, ← ih _ hr]
        show (do let __do_lift ← (if (NameKind.free == NameKind.free) = true then (do let c ← cellOf env n; pure (ForInStep.yield ((n, c) :: acc))) else pure (ForInStep.yield acc) : Sem (ForInStep (List (Str × Addr)))); _) = _
        rw [if_pos (by decide), e]
        rfl
      · have hb : (k == NameKind.free) = false := by simpa using hk
        have e2 : clFrom env ((n, k) :: r) acc = clFrom env r acc := by
          show clFrom env r (if (k == NameKind.free) = true then (n, (env.cells.lookup n).getD 0) :: acc else acc) = _
          rw [hb]; rfl
        rw [e2, ← ih _ hr]
        show (do let __do_lift ← (if (k == NameKind.free) = true then (do let c ← cellOf env n; pure (ForInStep.yield ((n, c) :: acc))) else pure (ForInStep.yield acc) : Sem (ForInStep (List (Str × Addr)))); _) = _
        rw [hb]
        rfl
  have e := go scope.names [] h
  unfold closureFor
  exact congrArg (fun (m : Sem (List (Str × Addr))) => m >>= fun r => pure r) e
theorem clFrom_mem {env : Env} : ∀ {names : List (Str × NameKind)} {acc : List (Str × Addr)} {n : Str} {c : Addr}, (n, c) ∈ clFrom env names acc → (n, c) ∈ acc ∨ ((n, NameKind.free) ∈ names ∧ c = (env.cells.lookup n).getD 0)
  | [], acc, n, c, h => .inl h
  | (m, k) :: r, acc, n, c, h => by
    rcases clFrom_mem (names := r) h with h | ⟨h, e⟩
    · by_cases hk : k = .free
      · subst hk
        rw [if_pos (by decide)] at h
        rcases List.mem_cons.mp h with e | h
        · cases e; exact .inr ⟨List.mem_cons_self, rfl⟩
        · exact .inl h
      · have hb : (k == NameKind.free) = false := by simpa using hk
        rw [hb] at h
        exact .inl h
    · exact .inr ⟨List.mem_cons_of_mem _ h, e⟩
theorem lookup_of_mem {α : Type} : ∀ {l : List (Str × α)} {n : Str} {c : α}, (n, c) ∈ l → ∃ d, l.lookup n = some d
  | [], _, _, h => nomatch h
  | (k, v) :: r, n, c, h => by
    rw [List.lookup_cons]
    cases hb : n == k with
    | true => exact ⟨v, rfl⟩
    | false =>
      rcases List.mem_cons.mp h with e | h
      · cases e; simp at hb
      · exact lookup_of_mem h
theorem clFrom_acc {env : Env} : ∀ {names : List (Str × NameKind)} {acc : List (Str × Addr)} {n : Str} {c : Addr}, (n, c) ∈ acc → (n, c) ∈ clFrom env names acc
  | [], acc, n, c, h => h
  | (m, k) :: r, acc, n, c, h => by
    refine clFrom_acc (names := r) ?_
    split
    · exact List.mem_cons_of_mem _ h
    · exact h
theorem clFrom_has {env : Env} : ∀ {names : List (Str × NameKind)} {acc : List (Str × Addr)} {n : Str}, (n, NameKind.free) ∈ names → (n, (env.cells.lookup n).getD 0) ∈ clFrom env names acc
  | [], acc, n, h => nomatch h
  | (m, k) :: r, acc, n, h => by
    rcases List.mem_cons.mp h with e | h
    · cases e
      refine clFrom_acc (names := r) ?_
      rw [if_pos (by decide)]
      exact List.mem_cons_self
    · exact clFrom_has (names := r) h
theorem cellsFrom_mem : ∀ {names : List (Str × NameKind)} {n : Nat} {acc : List (Str × Addr)} {x : Str} {c : Addr}, (x, c) ∈ cellsFrom n names acc → (x, c) ∈ acc ∨ ((x, NameKind.cell) ∈ names ∧ n ≤ c)
  | [], n, acc, x, c, h => .inl h
  | (m, k) :: r, n, acc, x, c, h => by
    unfold cellsFrom at h
    by_cases hk : k = .cell
    · subst hk
      rw [if_pos (by decide)] at h
      rcases cellsFrom_mem (names := r) h with h | ⟨h, e⟩
      · rcases List.mem_cons.mp h with e | h
        · cases e; exact .inr ⟨List.mem_cons_self, Nat.le_refl _⟩
        · exact .inl h
      · exact .inr ⟨List.mem_cons_of_mem _ h, by omega⟩
    · have hb : (k == NameKind.cell) = false := by simpa using hk
      rw [hb] at h
      rcases cellsFrom_mem (names := r) h with h | ⟨h, e⟩
      · exact .inl h
      · exact .inr ⟨List.mem_cons_of_mem _ h, e⟩
theorem cellsFrom_acc : ∀ {names : List (Str × NameKind)} {n : Nat} {acc : List (Str × Addr)} {x : Str} {c : Addr}, (x, c) ∈ acc → (x, c) ∈ cellsFrom n names acc
  | [], n, acc, x, c, h => h
  | (m, k) :: r, n, acc, x, c, h => by
    unfold cellsFrom
    split
    · exact cellsFrom_acc (names := r) (List.mem_cons_of_mem _ h)
    · exact cellsFrom_acc (names := r) h
theorem cellsFrom_has : ∀ {names : List (Str × NameKind)} {n : Nat} {acc : List (Str × Addr)} {x : Str}, (x, NameKind.cell) ∈ names → ∃ c, (x, c) ∈ cellsFrom n names acc
  | [], n, acc, x, h => nomatch h
  | (m, k) :: r, n, acc, x, h => by
    unfold cellsFrom
    rcases List.mem_cons.mp h with e | h
    · cases e
      rw [if_pos (by decide)]
      exact ⟨n, cellsFrom_acc (names := r) List.mem_cons_self⟩
    · split
      · exact cellsFrom_has (names := r) h
      · exact cellsFrom_has (names := r) h
theorem pushCells_cell : ∀ {names : List (Str × NameKind)} {h : Heap} {acc : List (Str × Addr)} {x : Str} {c : Addr}, (x, c) ∈ cellsFrom h.objs.size names acc → (x, c) ∈ acc ∨ (pushCells h names).IsCell c none
  | [], h, acc, x, c, m => .inl m
  | (n, k) :: r, h, acc, x, c, m => by
    unfold cellsFrom at m
    unfold pushCells
    split at m
    · rename_i hk
      rw [if_pos hk]
      have m' : (x, c) ∈ cellsFrom (h.push { cls := .type "cell", data := .cell none }).objs.size r ((n, h.objs.size) :: acc) := by rw [Heap.size_push]; exact m
      rcases pushCells_cell (names := r) m' with z | z
      · rcases List.mem_cons.mp z with e | z
        · cases e
          exact .inr ⟨_, pushCells_keeps _ _ _ _ (Heap.get?_push_size _ rfl), rfl⟩
        · exact .inl z
      · exact .inr z
    · rename_i hk
      rw [if_neg hk]
      exact pushCells_cell (names := r) m
theorem cellsFrom_inj : ∀ {names : List (Str × NameKind)} {n : Nat} {acc : List (Str × Addr)}, (∀ x c, (x, c) ∈ acc → c < n) → (∀ x y c, (x, c) ∈ acc → (y, c) ∈ acc → x = y) →
    ∀ x y c, (x, c) ∈ cellsFrom n names acc → (y, c) ∈ cellsFrom n names acc → x = y
  | [], n, acc, lt, inj, x, y, c, h, h' => inj x y c h h'
  | (m, k) :: r, n, acc, lt, inj, x, y, c, h, h' => by
    unfold cellsFrom at h h'
    split at h
    · rename_i hk
      rw [if_pos hk] at h'
      refine cellsFrom_inj (names := r) (n := n + 1) (acc := (m, n) :: acc) (fun x c hm => ?_) (fun x y c hm hm' => ?_) x y c h h'
      · rcases List.mem_cons.mp hm with e | hm
        · cases e; exact Nat.lt_succ_self _
        · exact Nat.lt_succ_of_lt (lt _ _ hm)
      · rcases List.mem_cons.mp hm with e | hm <;> rcases List.mem_cons.mp hm' with e' | hm'
        · cases e; cases e'; rfl
        · cases e; exact absurd (lt _ _ hm') (Nat.lt_irrefl _)
        · cases e'; exact absurd (lt _ _ hm) (Nat.lt_irrefl _)
        · exact inj _ _ _ hm hm'
    · rename_i hk
      rw [if_neg hk] at h'
      exact cellsFrom_inj (names := r) lt inj x y c h h'
theorem lookup_relabel {env : Env} : ∀ {names : List (Str × NameKind)} {x : Str},
    (names.map fun (n, k) => if (k == NameKind.free && env.scope.kind == .function && env.kindOf n == some .cell) then (n, NameKind.cell) else (n, k)).lookup x =
      (names.lookup x).map fun k => if (k == NameKind.free && env.scope.kind == .function && env.kindOf x == some .cell) = true then NameKind.cell else k
  | [], x => rfl
  | (n, k) :: r, x => by
    have ih := @lookup_relabel env r x
    show List.lookup x ((if (k == NameKind.free && env.scope.kind == .function && env.kindOf n == some .cell) = true then (n, NameKind.cell) else (n, k)) :: _) = _
    have e : (if (k == NameKind.free && env.scope.kind == .function && env.kindOf n == some .cell) = true then (n, NameKind.cell) else (n, k)) = (n, if (k == NameKind.free && env.scope.kind == .function && env.kindOf n == some .cell) = true then NameKind.cell else k) := by split <;> rfl
    rw [e, List.lookup_cons, List.lookup_cons]
    cases hx : x == n with
    | true =>
      have hx' := beq_iff_eq.mp hx
      subst hx'
      rfl
    | false => exact ih
structure CompScope (X : Cx) (scope : Scope) (tn cap : List Str) (idx : List Nat) : Prop where
  kind : scope.kind = .function
  nd : (scope.names.map (·.1)).Nodup
  tnd : (tn ++ cap).Nodup
  ct : ∀ y ∈ cap, scope.names.lookup y = some .free
  ci : idx.map (fun i => X.N[i]?) = cap.map some
  fr : ∀ y ∈ scope.names, y.2 = .free → X.env.scope.names.lookup y.1 = some .cell ∨ X.env.scope.names.lookup y.1 = some .free
theorem lookup_nd {α : Type} : ∀ {l : List (Str × α)} {n : Str} {c : α}, (l.map (·.1)).Nodup → (n, c) ∈ l → l.lookup n = some c
  | [], _, _, _, h => nomatch h
  | (k, v) :: r, n, c, nd, h => by
    obtain ⟨h1, h2⟩ := List.nodup_cons.mp nd
    rw [List.lookup_cons]
    rcases List.mem_cons.mp h with e | hm
    · cases e; simp
    · have hne : n ≠ k := fun e => h1 (List.mem_map.mpr ⟨_, hm, e⟩)
      have hb : (n == k) = false := beq_eq_false_iff_ne.mpr hne
      rw [hb]
      exact lookup_nd h2 hm
def caps (σ : St) (idx : List Nat) : St := idx.map fun i => (σ[i]?).getD none
def cbase (k : Nat) (idx : List Nat) (σ : St) : St := List.replicate k none ++ caps σ idx
def cxC (X : Cx) (N' : List Str) (scope : Scope) (cs : List (Str × Addr)) (C : Addr) (fp : List Addr) (s₀ : Shared) (H₀ : Hp) : Cx where
  prog := X.prog
  w := X.w
  K := X.K
  mg := X.mg
  base := X.base
  A := X.A
  N := N'
  s₀ := s₀
  H₀ := H₀
  env := compEnvC scope cs C X.env
  outer := X.stack
  stack := X.stack
  ex := fp
  fn := fun x => scope.names.lookup x == some .local || scope.names.lookup x == some .cell
  calm := X.calm
  pn := []
  xe := fun _ _ => False
theorem wpAny_newEnv_comp {M : Model} {A : Around} {E : Value → Shared → Prop} {s : Shared} {scope : Scope} {globals : Addr} {cl : List (Str × Addr)} {qual : Str} {env0 : Env} {Q : Env → Shared → Prop}
    (hQ : Q { scope := scope, locals := s.heap.objs.size, globals := globals, cells := cellsFrom (s.heap.objs.size + 1) scope.names cl, qual := qual, func := none, code := env0.code, frame := env0.frame, builtins := env0.builtins }
      { s with heap := pushCells (s.heap.push { cls := .type "dict", data := .dict #[] }) scope.names }) :
    wpAny M A (newFunctionEnv scope globals cl [] qual none .none (some env0)) Q E s := by
  simp only [newFunctionEnv, Option.isSome_some, if_true]
  refine wpAny_bind (wpAny_alloc ?_)
  refine wpAny_bind (wpAny_layCells _ (fun name kind cells => by cases hkc : kind == NameKind.cell <;> simp [hkc]) _ _ _ _ ?_)
  rw [show ({ s with heap := s.heap.push { cls := .type "dict", data := .dict #[] } } : Shared).heap.objs.size = s.heap.objs.size + 1 from Heap.size_push ..]
  exact wpAny_bind (wpAny_pure (wpAny_pure hQ))
section
variable {prog : Program} {w : World} {A : Around} {R : Result → Shared → Prop} {s : Shared}
theorem compLoop_any {elt target iter : Expr} {ifs : List Expr} {scope : Scope} {pos : Pos} {it acc : Value} {env : Env} (I : Nat → Shared → Prop)
    (turn : ∀ n s, I n s → wpAny (model prog w) A (pyNext it) (fun r s₁ => match r with
      | none => R (.ok .next) s₁
      | some v => wpAny (model prog w) A (letOwnedTupleGo target it v) (fun _ s₁' => wpAny (model prog w) A (assign target env v) (fun _ s₂ =>
          wpAny (model prog w) A (forIn ifs true fun c r => if r = true then do let ok ← isTrue c env (eval c env); pure (ForInStep.yield ok) else pure (ForInStep.yield r)) (fun ok s₃ =>
            if ok = true then wpAny (model prog w) A (eval elt env) (fun x s₄ =>
              wpAny (model prog w) A (call (.builtin "list.append") [acc, x]) (fun _ s₅ => ∃ m, m < n ∧ I m s₅) (fun _ _ => False) s₄) (fun _ _ => False) s₃
            else ∃ m, m < n ∧ I m s₃) (fun _ _ => False) s₂) (fun _ _ => False) s₁') (fun _ _ => False) s₁) (fun _ _ => False) s)
    (n : Nat) (h : I n s) :
    codeAny (model prog w) A (.compLoop (.ListComp elt [⟨target, iter, ifs, 0⟩] scope pos) 0 it acc env) R s := by
  refine codeAny_loop rfl I (fun n s hI => ?_) n h
  show wpAny _ A ((compTurn (.ListComp elt [⟨target, iter, ifs, 0⟩] scope pos) 0 it acc env).onRaise (fun x => do noteFrame x env; theTreesLotGoes x)) _ _ s
  refine wpAny_noted ?_
  rw [compTurn_list]
  refine wpAny_bind (wpAny_standAt (wpAny_bind (wpAny_mono (turn n s hI) (fun r s₁ h₁ => ?_) fun _ _ h' => h'.elim)))
  cases r with
  | none => exact wpAny_pure h₁
  | some v =>
    refine wpAny_bind (wpAny_mono h₁ (fun _ s₁' h₁' => ?_) fun _ _ h' => h'.elim)
    refine wpAny_bind (wpAny_mono h₁' (fun _ s₂ h₂ => wpAny_bind (wpAny_mono h₂ (fun ok s₃ h₃ => ?_) fun _ _ h' => h'.elim)) fun _ _ h' => h'.elim)
    cases ok with
    | false => exact wpAny_pure ⟨rfl, h₃⟩
    | true =>
      exact wpAny_bind (wpAny_bind (wpAny_mono h₃ (fun x s₄ h₄ => wpAny_bind (wpAny_mono h₄ (fun _ s₅ h₅ => wpAny_pure (wpAny_pure ⟨rfl, h₅⟩)) fun _ _ h' => h'.elim)) fun _ _ h' => h'.elim))
end
section
variable {X : Cx} {pins : List (Addr × Obj)} {σ : St} {H : Hp} {s2 : Shared} {scope : Scope} {tn cap : List Str} {idx : List Nat} {fp : List Addr}
abbrev cObjL : Obj := { cls := .type "list", data := .seq ([] : List Value).toArray }
abbrev cObjF : Obj := { cls := .type "dict", data := .dict #[] }
abbrev cHeap (h : Heap) (scope : Scope) : Heap := pushCells ((h.push cObjL).push cObjF) scope.names
abbrev cCells (X : Cx) (h : Heap) (scope : Scope) : List (Str × Addr) := cellsFrom (h.objs.size + 1 + 1) scope.names (clFrom X.env scope.names [])
theorem caps_get {σ : St} {idx : List Nat} {j : Nat} {v : V} (h : (caps σ idx)[j]? = some (some v)) : ∃ i, idx[j]? = some i ∧ σ[i]? = some (some v) := by
  unfold caps at h
  rw [List.getElem?_map] at h
  cases e : idx[j]? with
  | none => rw [e] at h; cases h
  | some i =>
    rw [e] at h
    have h' : (σ[i]?).getD none = some v := Option.some.inj h
    refine ⟨i, rfl, ?_⟩
    cases q : σ[i]? with
    | none => rw [q] at h'; cases h'
    | some o => rw [q] at h'; have h'' : o = some v := h'; rw [h'']
theorem comp_start (I : Inv X pins σ H s2) (S : CompScope X scope tn cap idx) (hf : ∀ b ∈ fp, FpOk X pins H b) (hfl : ∀ b ∈ fp, b < s2.heap.objs.size) :
    Inv (cxC X (tn ++ cap) scope (cCells X s2.heap scope) (s2.heap.objs.size + 1) fp s2 H) [(s2.heap.objs.size, cObjL)] (cbase tn.length idx σ) H { s2 with heap := cHeap s2.heap scope } := by
  have old : ∀ b o, s2.heap.get? b = some o → (cHeap s2.heap scope).get? b = some o := fun b o e => pushCells_keeps _ _ _ _ (Heap.get?_push_of_some _ (Heap.get?_push_of_some _ e))
  have hsz : ((s2.heap.push cObjL).push cObjF).objs.size = s2.heap.objs.size + 1 + 1 := by rw [Heap.size_push, Heap.size_push]
  have hacc : (cHeap s2.heap scope).get? s2.heap.objs.size = some cObjL := pushCells_keeps _ _ _ _ (Heap.get?_push_of_some _ (Heap.get?_push_size _ rfl))
  have hns : (cHeap s2.heap scope).Ns (s2.heap.objs.size + 1) (fun _ => none) := by
    have e := (Heap.Ns.new (s2.heap.push cObjL) (.type "dict")).keeps (pushCells_keeps scope.names _)
    rw [Heap.size_push] at e
    exact e
  have clm : ∀ x c, (x, c) ∈ clFrom X.env scope.names [] → X.env.cells.lookup x = some c ∧ (x, NameKind.free) ∈ scope.names := fun x c h => by
    rcases clFrom_mem h with z | ⟨z, e⟩
    · nomatch z
    · obtain ⟨d, hd⟩ := I.ok.has x (S.fr _ z rfl)
      rw [hd] at e
      have e' : c = d := e
      subst e'
      exact ⟨hd, z⟩
  have csm : ∀ x c, (x, c) ∈ cCells X s2.heap scope → (X.env.cells.lookup x = some c ∧ (x, NameKind.free) ∈ scope.names) ∨ ((x, NameKind.cell) ∈ scope.names ∧ s2.heap.objs.size + 1 + 1 ≤ c) := fun x c h => by
    rcases cellsFrom_mem h with z | z
    · exact .inl (clm x c z)
    · exact .inr z
  have clt : ∀ x c, X.env.cells.lookup x = some c → c < s2.heap.objs.size := fun x c h => by
    obtain ⟨v, q⟩ := I.cell x c h
    exact q.lt
  have freeK : ∀ x, (x, NameKind.free) ∈ scope.names → scope.names.lookup x = some .free := fun x h => lookup_nd S.nd h
  have cellK : ∀ x, (x, NameKind.cell) ∈ scope.names → scope.names.lookup x = some .cell := fun x h => lookup_nd S.nd h
  refine ⟨⟨I.ok.mod, S.kind, I.ok.glob, I.ok.blt, Nat.le_succ _, fun x y c h1 h2 => ?_, fun x hx => ?_, fun x c hfn h => ?_, I.ok.hd, I.ok.frames, .inl rfl, fun b hb => ⟨?_, fun x c h => ?_⟩, I.bs, Nat.le_trans I.ok.bsz I.sz, fun b o e hb => ?_, fun b hb z => ?_, I.stack, I.stkFree⟩,
    rfl, I.bare, Un.kept old, ⟨_, hns, fun i x v e1 e2 e3 => ?_⟩, fun x c h => ?_, I.hok.fresh (Nat.le_succ _), fun x c h => ?_, fun p hp => ?_, I.hok.kept old, ?_⟩
  · exact cellsFrom_inj (fun x c h => Nat.lt_succ_of_lt (Nat.lt_succ_of_lt (clt x c (clm x c h).1))) (fun x y c h h' => I.ok.inj x y c (clm x c h).1 (clm y c h').1) x y c (PySem.mem_of_lookup h1) (PySem.mem_of_lookup h2)
  · have hx : (relabel scope X.env).names.lookup x = some .cell ∨ (relabel scope X.env).names.lookup x = some .free := hx
    have e := @lookup_relabel X.env scope.names x
    have hk : ∃ k, scope.names.lookup x = some k ∧ (k = .cell ∨ k = .free) := by
      cases q : scope.names.lookup x with
      | none =>
        rw [q] at e
        rcases hx with z | z
        · have z' := e.symm.trans z; cases z'
        · have z' := e.symm.trans z; cases z'
      | some k =>
        rw [q] at e
        refine ⟨k, rfl, ?_⟩
        cases k with
        | cell => exact .inl rfl
        | free => exact .inr rfl
        | _ =>
          exfalso
          rcases hx with z | z
          · have z' := e.symm.trans z; cases z'
          · have z' := e.symm.trans z; cases z'
    obtain ⟨k, hk, hk2⟩ := hk
    have hm := PySem.mem_of_lookup hk
    rcases hk2 with rfl | rfl
    · obtain ⟨c, hc⟩ := cellsFrom_has (n := s2.heap.objs.size + 1 + 1) (acc := clFrom X.env scope.names []) hm
      exact lookup_of_mem hc
    · exact lookup_of_mem (cellsFrom_acc (clFrom_has (env := X.env) (acc := []) hm))
  · rcases csm x c (PySem.mem_of_lookup h) with ⟨_, z⟩ | ⟨_, z⟩
    · have hfn : (scope.names.lookup x == some .local || scope.names.lookup x == some .cell) = true := hfn
      rw [freeK x z] at hfn
      exact absurd hfn (by decide)
    · show s2.heap.objs.size ≤ c
      omega
  · -- b is not the block's frame
    intro z
    have z' : b = s2.heap.objs.size + 1 := z
    exact absurd (hfl b hb) (by rw [z']; exact Nat.not_lt.mpr (Nat.le_succ _))
  · rcases csm x c (PySem.mem_of_lookup h) with ⟨z, _⟩ | ⟨_, z⟩
    · exact (hf b hb).2.2.2.2.1 x c z
    · intro e
      exact absurd (hfl b hb) (by rw [← e]; exact Nat.not_lt.mpr (Nat.le_trans (Nat.le_trans (Nat.le_succ _) (Nat.le_succ _)) z))
  · rcases (hf b hb).2.2.2.1 with z | z
    · exact I.ok.noex b o e z
    · exact absurd (Nat.lt_of_lt_of_le (Heap.lt_size e) (Nat.le_trans I.ok.bsz z)) (Nat.lt_irrefl _)
  · obtain ⟨_, f1, f2, _⟩ := hf b hb
    rcases List.mem_cons.mp (I.stkSub b z) with e | e
    · exact f1 e
    · exact f2 e
  · -- the names
    have e1 : (tn ++ cap)[i]? = some x := e1
    have e2 : (cbase tn.length idx σ)[i]? = some (some v) := e2
    unfold cbase at e2
    by_cases hi : i < tn.length
    · rw [List.getElem?_append_left (by rw [List.length_replicate]; exact hi), List.getElem?_replicate, if_pos hi] at e2
      cases e2
    · rw [List.getElem?_append_right (by rw [List.length_replicate]; omega), List.length_replicate] at e2
      rw [List.getElem?_append_right (by omega)] at e1
      obtain ⟨i0, h1, h2⟩ := caps_get e2
      have hN : X.N[i0]? = some x := by
        have q := congrArg (fun l => l[i - tn.length]?) S.ci
        simp only [List.getElem?_map, h1, e1, Option.map_some] at q
        exact Option.some.inj q
      have hfr := S.ct x (List.mem_of_getElem? e1)
      have hmem := PySem.mem_of_lookup hfr
      have hk := S.fr _ hmem rfl
      obtain ⟨m, hn, hl⟩ := I.loc
      obtain ⟨u, r, l⟩ := hl i0 x v hN h2 (hk.elim (fun z => .inr (.inl z)) fun z => .inr (.inr z))
      refine ⟨u, r, .inr ⟨?_, ?_⟩⟩
      · show (relabel scope X.env).names.lookup x = some .cell ∨ (relabel scope X.env).names.lookup x = some .free
        have e := @lookup_relabel X.env scope.names x
        rw [hfr] at e
        have e' : (relabel scope X.env).names.lookup x = some (if (NameKind.free == NameKind.free && X.env.scope.kind == .function && X.env.kindOf x == some .cell) = true then NameKind.cell else NameKind.free) := e
        rw [e']
        split
        · exact .inl rfl
        · exact .inr rfl
      · rcases l with ⟨hk', _⟩ | ⟨_, c, hc, z⟩
        · exfalso
          have hk' : X.env.scope.names.lookup x = some .local := hk'
          rcases hk with q | q
          · have q : X.env.scope.names.lookup x = some .cell := q
            rw [q] at hk'; cases hk'
          · have q : X.env.scope.names.lookup x = some .free := q
            rw [q] at hk'; cases hk'
        · obtain ⟨d, hd⟩ := lookup_of_mem (cellsFrom_acc (names := scope.names) (n := s2.heap.objs.size + 1 + 1) (clFrom_has (env := X.env) (acc := []) hmem))
          refine ⟨c, ?_, z.keeps old⟩
          rcases csm x d (PySem.mem_of_lookup hd) with ⟨q, _⟩ | ⟨q, _⟩
          · rw [hc] at q; cases q; exact hd
          · have := cellK x q; rw [hfr] at this; cases this
  · have hm : (x, c) ∈ cellsFrom ((s2.heap.push cObjL).push cObjF).objs.size scope.names (clFrom X.env scope.names []) := by rw [hsz]; exact PySem.mem_of_lookup h
    rcases pushCells_cell hm with z | z
    · obtain ⟨v, q⟩ := I.cell x c (clm x c z).1
      exact ⟨v, q.keeps old⟩
    · exact ⟨_, z⟩
  · rcases csm x c (PySem.mem_of_lookup h) with ⟨z, _⟩ | ⟨_, z⟩
    · exact I.freeC x c z
    · exact I.hok.fresh (by omega)
  · have hp' : p ∈ [(s2.heap.objs.size, cObjL)] := hp
    obtain rfl := List.mem_singleton.mp hp'
    refine ⟨hacc, I.hok.fresh (Nat.le_refl _), Nat.ne_of_lt (Nat.lt_succ_self _), fun z => ?_, fun v z => ?_⟩
    · rcases List.mem_cons.mp (I.stkSub _ z) with e | e
      · exact absurd I.lt (by rw [← e]; exact Nat.lt_irrefl _)
      · exact I.nofs (Nat.le_refl _) e
    · have z' : Data.seq _ _ = Data.cell v := z
      cases z'
  · show (cbase tn.length idx σ).length = (tn ++ cap).length
    have := congrArg List.length S.ci
    unfold cbase caps
    simp only [List.length_append, List.length_replicate, List.length_map] at this ⊢
    omega
theorem comp_back {N' : List Str} {cs : List (Str × Addr)} {C D : Addr} {pins' : List (Addr × Obj)} {σ' : St} {H8 : Hp} {s8 : Shared} {vs : List V} {its : List Value} {n : Nat} (I : Inv X pins σ H s2) (hf : ∀ b ∈ fp, FpOk X pins H b)
    (J : Inv (cxC X N' scope cs C fp s2 H) pins' σ' H8 s8) (hD : s2.heap.objs.size ≤ D) (hD8 : H8 D = none) (hget : s8.heap.get? D = some { cls := .type "list", data := .seq its.toArray n }) (r : Vals vs its) (hz : vs.length ≤ sizeLine) :
    Inv X pins σ (upd H8 D (.lst vs)) s8 := by
  have u := J.base
  have hb : ∀ b o, s2.heap.get? b = some o → b ≠ D := fun b o e => Nat.ne_of_lt (Nat.lt_of_lt_of_le (Heap.lt_size e) hD)
  refine I.call' (ch := fp) J.os ⟨u.keep, u.slot, fun b o e n hx => ?_, u.there, fun b xs e => ?_, fun b o xs e => ?_, fun b ps e => ?_⟩ (fun b o e => ?_) J.bare fun b hbf => ?_
  · rw [upd_ne (hb b o e)]; exact u.free b o e n hx
  · have q := u.tups b xs e
    rw [upd_ne (ne_of_none q hD8)]; exact q
  · have q := u.frzs b o xs e
    rw [upd_ne (ne_of_none q hD8)]; exact q
  · obtain ⟨m, q⟩ := u.tbls b ps e
    exact ⟨m, by rw [upd_ne (ne_of_none q hD8)]; exact q⟩
  · by_cases e1 : b = D
    · subst e1
      rw [upd_same] at e
      cases e
      exact ⟨hz, its, n, r, hget⟩
    · rw [upd_ne e1] at e
      exact (J.hok b o e).stay (fun _ _ _ q => q) (fun c q => by rw [upd_ne (ne_of_none q hD8)]; exact q) fun c xs q => by rw [upd_ne (ne_of_none q hD8)]; exact q
  · obtain ⟨_, f1, _, f3, f4, f5⟩ := hf b hbf
    exact ⟨f3, f1, f4, f5⟩
def PTs (X : Cx) (ifs : List Expr) (tt : TT) : Prop :=
  ∀ (pins : List (Addr × Obj)) (s : Shared) (σ : St) (H : Hp) (Q : Bool → Hp → Prop), Inv X pins σ H s → tt σ H Q →
    wpAny (model X.prog X.w) X.A (forIn ifs true fun c r => if r = true then do let ok ← isTrue c X.env (eval c X.env); pure (ForInStep.yield ok) else pure (ForInStep.yield r)) (TP X pins σ Q) X.xe s
def tYes : TT := fun _ H Q => Q true H
theorem pts_nil : PTs X [] tYes := fun _ _ _ H _ I h => wpAny_tests_nil ⟨H, I, h⟩
def tComp (wi : TI) (g : TG) (tt : TT) (te : TE) (k : Nat) (idx : List Nat) : TE := fun σ H Q => wi σ H fun J H1 =>
  ∃ W : Nat → Nat → List V → Hp → Prop, (∃ m, W 0 m [] H1) ∧ ∀ i m vs H, W i m vs H →
    (J.stop i H ∧ vs.length ≤ sizeLine ∧ ∀ p, H p = none → Q (.ref p) (upd H p (.lst vs))) ∨
    (J.go i H ∧ vs.length ≤ sizeLine ∧ ∃ N : List V → Hp → Prop, (∀ vs' H', N vs' H' → ∃ m', m' < m ∧ W (i + 1) m' vs' H') ∧ ∀ x H', J.yld i H x H' → g x (cbase k idx σ) H' fun σ2 H2 => tt σ2 H2 fun b H3 =>
      if b = true then te σ2 H3 fun v H4 => N (vs ++ [v]) H4 else N vs H3)
def GSet (k : Nat) (g : TG) : Prop := ∀ x σ H Q, g x σ H Q → g x σ H fun σ2 H2 => Q σ2 H2 ∧ σ2.length = σ.length ∧ ∀ j, k ≤ j → σ2[j]? = σ[j]?
theorem GSet.name {i k : Nat} (h : i < k) : GSet k (gName i) := fun x σ H Q q => ⟨q, by simp, fun j hj => by rw [List.getElem?_set_ne (by omega)]⟩
theorem cbase_low {k j : Nat} {idx : List Nat} {σ : St} {v : V} (h : (cbase k idx σ)[j]? = some (some v)) : k ≤ j := by
  by_cases hj : j < k
  · unfold cbase at h
    rw [List.getElem?_append_left (by rw [List.length_replicate]; exact hj), List.getElem?_replicate, if_pos hj] at h
    cases h
  · omega
theorem comp_block {elt target iter : Expr} {ifs : List Expr} {pos : Pos} {g : TG} {tt : TT} {te : TE} {E : Value → Shared → Prop} {it : Addr} {tnn : Nat → Heap → Prop} {J : It} {Q : VK} {RR : Value → Addr → Result → Shared → Prop}
    (hcalm : X.calm = true) (S : CompScope X scope tn cap idx) (hgs : GSet tn.length g)
    (hg : ∀ cs C fp s₀ H₀, PG (cxC X (tn ++ cap) scope cs C fp s₀ H₀) target g) (ht : ∀ cs C fp s₀ H₀, PTs (cxC X (tn ++ cap) scope cs C fp s₀ H₀) ifs tt)
    (he : ∀ cs C fp s₀ H₀, PE (cxC X (tn ++ cap) scope cs C fp s₀ H₀) elt te)
    (I : Inv X pins σ H s2) (T : Turn X.prog X.w X.K target J fp it tnn) (st2 : tnn 0 s2.heap) (f2 : ∀ b ∈ fp, FpOk X pins H b)
    (hW : ∃ W : Nat → Nat → List V → Hp → Prop, (∃ m, W 0 m [] H) ∧ ∀ i m vs H, W i m vs H →
      (J.stop i H ∧ vs.length ≤ sizeLine ∧ ∀ p, H p = none → Q (.ref p) (upd H p (.lst vs))) ∨
      (J.go i H ∧ vs.length ≤ sizeLine ∧ ∃ N : List V → Hp → Prop, (∀ vs' H', N vs' H' → ∃ m', m' < m ∧ W (i + 1) m' vs' H') ∧ ∀ x H', J.yld i H x H' → g x (cbase tn.length idx σ) H' fun σ2 H2 => tt σ2 H2 fun b H3 =>
        if b = true then te σ2 H3 fun v H4 => N (vs ++ [v]) H4 else N vs H3))
    (hRR : ∀ (s8 : Shared) (H8 : Hp) (C D : Addr) (m : Str → Option Value), Inv X pins σ H8 s8 → s8.heap.Ns C m → H8 C = none → s2.heap.objs.size ≤ C → Q (.ref D) H8 → RR (.ref D) C (.ok .next) s8) :
    wpAny (model X.prog X.w) X.A (newList []) (fun acc s₃ => wpAny (model X.prog X.w) X.A (newFunctionEnv scope X.env.globals (clFrom X.env scope.names []) [] X.env.qual none .none (some X.env)) (fun cenv s₄ =>
      codeAny (model X.prog X.w) X.A (.compStart (.ListComp elt [⟨target, iter, ifs, 0⟩] scope pos) 0 (.ref it) acc { cenv with scope := relabel scope X.env }) (RR acc cenv.locals) s₄) E s₃) E s2 := by
  obtain ⟨W, ⟨m0, w0⟩, turn⟩ := hW
  have hfl : ∀ b ∈ fp, b < s2.heap.objs.size := fun b hb => by
    obtain ⟨o, e, _⟩ := T.obj _ _ st2 b hb
    exact Heap.lt_size e
  have I4 := comp_start I S f2 hfl
  refine wpAny_newObj_type (wpAny_newEnv_comp ?_)
  have e1 : ({ s2 with heap := s2.heap.push cObjL } : Shared).heap.objs.size = s2.heap.objs.size + 1 := Heap.size_push ..
  rw [e1]
  generalize hX' : cxC X (tn ++ cap) scope (cCells X s2.heap scope) (s2.heap.objs.size + 1) fp s2 H = X' at I4
  have hA : X'.A = X.A := by subst hX'; rfl
  have hprog : X'.prog = X.prog := by subst hX'; rfl
  have hw : X'.w = X.w := by subst hX'; rfl
  have hK : X'.K = X.K := by subst hX'; rfl
  have hcal : X'.calm = true := by subst hX'; exact hcalm
  have hxe : X'.xe = fun _ _ => False := by subst hX'; rfl
  have hloc : X'.env.locals = s2.heap.objs.size + 1 := by subst hX'; rfl
  have hpn : X'.pn = [] := by subst hX'; rfl
  have hex : X'.ex = fp := by subst hX'; rfl
  have hs0 : X'.s₀ = s2 := by subst hX'; rfl
  have hg' : PG X' target g := by subst hX'; exact hg _ _ _ _ _
  have ht' : PTs X' ifs tt := by subst hX'; exact ht _ _ _ _ _
  have he' : PE X' elt te := by subst hX'; exact he _ _ _ _ _
  have henv : X'.env = { scope := relabel scope X.env, locals := s2.heap.objs.size + 1, globals := X.env.globals, cells := cCells X s2.heap scope, qual := X.env.qual, func := none, code := X.env.code, frame := X.env.frame, builtins := X.env.builtins } := by subst hX'; rfl
  let lo : List Value → Nat → Obj := fun its n => { cls := .type "list", data := .seq its.toArray n }
  have stat : ∀ {H' : Hp} {pl : List (Addr × Obj)}, (∀ b ∈ fp, H' b = none) → (∀ p ∈ pl, p.1 ∉ fp) → ∀ b ∈ fp, FpOk X' pl H' b := fun {H' pl} hn hp b hb => by
    have q := I4.ok.exf b (by rw [hex]; exact hb)
    have q2 := I4.ok.exfs b (by rw [hex]; exact hb)
    refine ⟨hn b hb, q.1, q2, .inl (by rw [hex]; exact hb), q.2, fun p hp' z => ?_⟩
    rw [hpn] at hp'
    exact hp p hp' (by rw [z]; exact hb)
  have Dfp : s2.heap.objs.size ∉ fp := fun z => Nat.lt_irrefl _ (hfl _ z)
  have D1 : ∀ (o : Obj), ∀ p ∈ [((s2.heap.objs.size : Addr), o)], p.1 ∉ fp := fun o p hp => by
    obtain rfl := List.mem_singleton.mp hp
    exact Dfp
  have loop : ∀ s3 : Shared, s3 = { s2 with heap := cHeap s2.heap scope } →
      codeAny (model X.prog X.w) X.A (.compLoop (.ListComp elt [⟨target, iter, ifs, 0⟩] scope pos) 0 (.ref it) (.ref s2.heap.objs.size) X'.env) (RR (.ref s2.heap.objs.size) (s2.heap.objs.size + 1)) s3 := by
    intro s3 hs3
    subst hs3
    refine compLoop_any (fun n s' => ∃ i vs its nn σ' H', Inv X' [(s2.heap.objs.size, lo its nn)] σ' H' s' ∧ (∀ (j : Nat) v, (cbase tn.length idx σ)[j]? = some (some v) → σ'[j]? = some (some v)) ∧ σ'.length = (cbase tn.length idx σ).length ∧ tnn i s'.heap ∧ (∀ b ∈ fp, H' b = none) ∧ Vals vs its ∧ W i n vs H') ?_ m0
      ⟨0, [], [], 0, _, H, I4, fun _ _ z => z, rfl, T.keep _ _ _ st2 (fun b hb o e => pushCells_keeps _ _ _ _ (Heap.get?_push_of_some _ (Heap.get?_push_of_some _ e))), fun b hb => (f2 b hb).1, .nil, w0⟩
    rintro n s' ⟨i, vs, its, nn, σ', H', I', hσ, hσl, st', fr', rv, w'⟩
    have I5 : Inv X' [(s2.heap.objs.size, lo its nn)] (cbase tn.length idx σ) H' s' := I'.weak hσl.symm hσ
    rcases turn i n vs H' w' with ⟨stop, hz, q⟩ | ⟨go, hz, N, hN, step⟩
    · -- it ends
      have td := T.done X' hprog hw hK hcal i _ s' _ H' (fun _ _ => False) I5 (stat fr' (D1 _)) st' stop
      rw [hA] at td
      refine thn td fun r s8 ⟨hr, I8⟩ => ?_
      subst hr
      obtain ⟨hp1, hp2, _⟩ := I8.pin (s2.heap.objs.size, lo its nn) (by rw [hpn]; exact List.mem_singleton.mpr rfl)
      have J8 : Inv X pins σ (upd H' s2.heap.objs.size (.lst vs)) s8 := by
        subst hX'
        exact comp_back I f2 I8 (Nat.le_refl _) hp2 hp1 rv hz
      obtain ⟨m, hm, _⟩ := I8.loc
      rw [hloc] at hm
      have hCf : H' (s2.heap.objs.size + 1) = none := by have := I8.free; rw [hloc] at this; exact this
      refine hRR s8 _ _ _ m J8 hm ?_ (Nat.le_succ _) (q _ hp2)
      rw [upd_ne (Nat.ne_of_gt (Nat.lt_succ_self _))]
      exact hCf
    · -- a turn
      have ti := T.item X' hprog hw hK hcal i _ s' _ H' (fun _ _ => False) I5 (stat fr' (D1 _)) st' go
      rw [hA] at ti
      refine thn ti fun r s5 ⟨u, hr, h5⟩ => ?_
      subst hr
      refine thn h5 fun _ s6 ⟨x, H6, I6, r6, y6, st6, fr6⟩ => ?_
      have I6' := I6.pinned (stat fr6 (D1 _)) (T.obj _ _ st6)
      have ag := hg' _ s6 _ H6 x u _ I6' r6 (hgs _ _ _ _ (step x H6 y6))
      rw [hprog, hw, hA, hxe] at ag
      refine thn ag fun _ s7 ⟨σ7, H7, I7, q7, hl7, hj7⟩ => ?_
      have at7 := ht' _ s7 σ7 H7 _ I7 q7
      rw [hprog, hw, hA, hxe] at at7
      refine thn at7 fun b s8 ⟨H8, I8, q8⟩ => ?_
      have again : ∀ {s9 : Shared} {H9 : Hp} {vs9 : List V} {its9 : List Value} {n9 : Nat}, Inv X' ([(s2.heap.objs.size, lo its9 n9)] ++ pinsAt fp s6.heap) σ7 H9 s9 → Vals vs9 its9 → N vs9 H9 →
          ∃ m, m < n ∧ ∃ i vs its nn σ' H', Inv X' [(s2.heap.objs.size, lo its nn)] σ' H' s9 ∧ (∀ (j : Nat) v, (cbase tn.length idx σ)[j]? = some (some v) → σ'[j]? = some (some v)) ∧ σ'.length = (cbase tn.length idx σ).length ∧ tnn i s9.heap ∧ (∀ b ∈ fp, H' b = none) ∧ Vals vs its ∧ W i m vs H' := by
        intro s9 H9 vs9 its9 n9 I9 r9 n9'
        obtain ⟨m', hm', w9⟩ := hN _ _ n9'
        refine ⟨m', hm', i + 1, vs9, its9, n9, σ7, H9, I9.unpinned, fun j v e => by rw [hj7 j (cbase_low e)]; exact e, hl7, T.keep _ _ _ st6 fun b hb o e => (I9.pin (b, o) (List.mem_append_right _ (List.mem_append_right _ (mem_pinsAt hb e)))).1, fun b hb => ?_, r9, w9⟩
        obtain ⟨o, e, d⟩ := T.obj _ _ st6 b hb
        exact (I9.pin (b, o) (List.mem_append_right _ (List.mem_append_right _ (mem_pinsAt hb e)))).2.1
      cases b with
      | false =>
        exact again I8 rv q8
      | true =>
        have ae := he' _ s8 σ7 H8 _ I8 q8
        rw [hprog, hw, hA, hxe] at ae
        refine thn ae fun xv s9 ⟨v9, H9, I9, r9, q9⟩ => ?_
        obtain ⟨hp1, hp2, hp3, hp4, _⟩ := I9.pin (s2.heap.objs.size, lo its nn) (List.mem_append_right _ (List.mem_append_left _ (List.mem_singleton.mpr rfl)))
        have rvl := rv.length
        refine append_at (hsz := by rw [List.size_toArray]; omega) hp1 fun h' hs' ho' => ?_
        have nfp : ∀ p ∈ pinsAt fp s6.heap, p.1 ≠ s2.heap.objs.size := fun p hp z => Dfp (by rw [← z]; exact (of_pinsAt hp).1)
        have I10 : Inv X' (pinsAt fp s6.heap) σ7 H9 s9 := I9.pins_of fun p hp => I9.pin p (List.mem_append_right _ (List.mem_append_right _ hp))
        have I11 : Inv X' (pinsAt fp s6.heap) σ7 H9 { s9 with heap := h' } := I10.turned (t' := s9.toks) (it := s2.heap.objs.size) (fun b o hb e => hs'.extBut b o hb e) hp2 hp3 (.inr (by rw [hs0]; exact Nat.le_refl _))
          (fun x c e z => by
            obtain ⟨v, o, q1, q2⟩ := I9.cell x c e
            rw [z, hp1] at q1
            cases q1
            cases q2) (fun p hp => by rw [hpn] at hp; exact nfp p hp)
        have eo : ({ cls := .type "list", data := .seq (its.toArray.push xv) (nn + 1) } : Obj) = lo (its ++ [xv]) (nn + 1) := by
          show ({ cls := .type "list", data := .seq (its.toArray.push xv) (nn + 1) } : Obj) = { cls := .type "list", data := .seq (its ++ [xv]).toArray (nn + 1) }
          rw [List.push_toArray]
        refine again (vs9 := vs ++ [v9]) (its9 := its ++ [xv]) (n9 := nn + 1) (I11.pins_of fun p hp => ?_) (rv.append (.cons r9 .nil)) q9
        rcases List.mem_append.mp hp with hp | hp
        · obtain rfl := List.mem_singleton.mp hp
          refine ⟨ho'.trans (congrArg some eo), hp2, hp3, hp4, fun v z => ?_⟩
          have z' : Data.seq _ _ = Data.cell v := z
          cases z'
        · exact I11.pin p (List.mem_append_right _ hp)
  refine codeAny_compStart_list ?_ ?_
  · have := loop _ rfl
    rw [henv] at this
    exact this
  · refine T.self _ 0 _ _ _ (T.keep _ _ _ st2 (fun b hb o e => pushCells_keeps _ _ _ _ (Heap.get?_push_of_some _ (Heap.get?_push_of_some _ e)))) ?_
    have := loop _ rfl
    rw [henv] at this
    exact this
theorem clos_eq (I : Inv X pins σ H s2) (S : CompScope X scope tn cap idx) : closureFor scope X.env = pure (clFrom X.env scope.names []) :=
  closureFor_eq fun n hm => I.ok.has n (S.fr _ hm rfl)
theorem names_ok (S : CompScope X scope tn cap idx) : ∀ x ∈ scope.names, x.2 = .local → scope.names.lookup x.1 = some .local := fun x hx e => by
  obtain ⟨n, k⟩ := x
  have e' : k = NameKind.local := e
  subst e'
  exact lookup_nd S.nd hx
theorem pe_comp {elt target iter : Expr} {ifs : List Expr} {pos : Pos} {wi : TI} {g : TG} {tt : TT} {te : TE} (hcalm : X.calm = true) (S : CompScope X scope tn cap idx) (hi : PI X target iter wi) (hgs : GSet tn.length g)
    (hg : ∀ cs C fp s₀ H₀, PG (cxC X (tn ++ cap) scope cs C fp s₀ H₀) target g) (ht : ∀ cs C fp s₀ H₀, PTs (cxC X (tn ++ cap) scope cs C fp s₀ H₀) ifs tt)
    (he : ∀ cs C fp s₀ H₀, PE (cxC X (tn ++ cap) scope cs C fp s₀ H₀) elt te) (hs : ∀ x, foldedSetIterable iter X.env x = pure x := by intro _; rfl) :
    PE X (.ListComp elt [⟨target, iter, ifs, 0⟩] scope pos) (tComp wi g tt te tn.length idx) := by
  intro pins s σ H Q I h
  rw [eval_ListComp]
  refine wpAny_comprehension_free (use := none) rfl hs (clos_eq I S) S.kind (names_ok S) (thn (hi pins s σ H _ I h) fun v s1 h1 => thn h1 fun itv s2 h2 => ?_)
  obtain ⟨it, fp, tnn, J, H2, e, I2, T, st2, f2, hW⟩ := h2
  subst e
  refine comp_block hcalm S hgs hg ht he I2 T st2 f2 hW fun s8 H8 C D m I8 hm hC hsz q => ?_
  refine ⟨m, hm, fun h' hs' => ⟨.ref D, H8, ?_, rfl, q⟩⟩
  exact I8.turned (t' := s8.toks) (it := C) (fun b o hb e => hs'.extBut b o hb e) hC (fun z => absurd I2.lt (by rw [← z]; exact Nat.not_lt.mpr hsz)) (.inr (Nat.le_trans I2.sz hsz))
    (fun x c e z => by
      obtain ⟨v, q⟩ := I2.cell x c e
      exact absurd q.lt (by rw [z]; exact Nat.not_lt.mpr hsz)) (fun p hp z => absurd (Heap.lt_size (I2.pin p hp).1) (by rw [z]; exact Nat.not_lt.mpr hsz))
theorem ps_setC {elt target iter : Expr} {ifs : List Expr} {pos spos py : Pos} {wi : TI} {g : TG} {tt : TT} {te : TE} {i : Nat} {y : Str} (hcalm : X.calm = true) (S : CompScope X scope tn cap idx) (hN : X.N.Nodup) (hy : X.N[i]? = some y) (hx : Loc X.env.scope y)
    (hi : PI X target iter wi) (hgs : GSet tn.length g)
    (hg : ∀ cs C fp s₀ H₀, PG (cxC X (tn ++ cap) scope cs C fp s₀ H₀) target g) (ht : ∀ cs C fp s₀ H₀, PTs (cxC X (tn ++ cap) scope cs C fp s₀ H₀) ifs tt)
    (he : ∀ cs C fp s₀ H₀, PE (cxC X (tn ++ cap) scope cs C fp s₀ H₀) elt te)
    (hsw : swapsWith (.ListComp elt [⟨target, iter, ifs, 0⟩] scope pos) (some (.Name y py)) spos.line X.env = pure true := by rfl) (hs : ∀ x, foldedSetIterable iter X.env x = pure x := by intro _; rfl)
    (hf : X.fn y = true ∨ X.env.scope.names.lookup y = some .local := by first | exact .inl rfl | exact .inr rfl | assumption) :
    PS X (.Assign [.Name y py] (.ListComp elt [⟨target, iter, ifs, 0⟩] scope pos) spos) (tAsg (tComp wi g tt te tn.length idx) (gName i)) := by
  intro pins s σ H D I h
  rw [exec_Assign_Name_used _ _ _ _ hsw]
  refine wpAny_bind (wpAny_standAt (wpAny_bind ?_))
  show wpAny _ X.A (do let _ ← comprehension (.ListComp elt [⟨target, iter, ifs, 0⟩] scope pos) scope X.env _ (newList []) false (eval iter X.env) (some (assign (.Name y py) X.env))) _ _ s
  refine wpAny_bind (wpAny_mono (wpAny_comprehension_free (use := some (assign (.Name y py) X.env)) (Q := fun _ s' => SP X pins D .next s') rfl hs (clos_eq I S) S.kind (names_ok S)
    (thn (hi pins s σ H _ I h) fun v s1 h1 => thn h1 fun itv s2 h2 => ?_)) (fun _ s' hq => wpAny_pure (wpAny_pure hq)) fun _ _ e => e)
  obtain ⟨it, fp, tnn, J, H2, e, I2, T, st2, f2, hW⟩ := h2
  subst e
  refine comp_block (Q := fun x H1 => gName i x σ H1 D.nx) hcalm S hgs hg ht he I2 T st2 f2 hW fun s8 H8 C DD m I8 hm hC hsz q => ?_
  show wpAny _ X.A (assign (.Name y py) X.env (.ref DD)) _ _ _
  have CL : C ≠ X.env.locals := fun z => absurd I2.lt (by rw [← z]; exact Nat.not_lt.mpr hsz)
  have CC : ∀ x c, X.env.cells.lookup x = some c → c ≠ C := fun x c e z => by
    obtain ⟨v, q⟩ := I2.cell x c e
    exact absurd q.lt (by rw [z]; exact Nat.not_lt.mpr hsz)
  refine wpAny_assign_Name (store_ok2 (v := .ref DD) I8 hN hy hx rfl (fun s9 I9 ⟨a, hsb, ha⟩ => ?_) hf)
  have aC : C ≠ a := fun z => by
    rcases ha with e | e
    · exact CL (z.trans e)
    · exact CC _ _ e z.symm
  refine ⟨m, hm.sameBut hsb aC, fun h' hs' => ⟨_, H8, ?_, q⟩⟩
  exact I9.turned (t' := s9.toks) (it := C) (fun b o hb e => hs'.extBut b o hb e) hC CL (.inr (Nat.le_trans I2.sz hsz)) CC (fun p hp z => absurd (Heap.lt_size (I2.pin p hp).1) (by rw [z]; exact Nat.not_lt.mpr hsz))
end
def CompGo (J : It) (g : TG) (te : TE) (k : Nat) (idx : List Nat) (σ : St) (H1 : Hp) (Q : VK) : Prop :=
  ∃ W : Nat → Nat → List V → Hp → Prop, (∃ m, W 0 m [] H1) ∧ ∀ i m vs H, W i m vs H →
    (J.stop i H ∧ vs.length ≤ sizeLine ∧ ∀ p, H p = none → Q (.ref p) (upd H p (.lst vs))) ∨
    (J.go i H ∧ vs.length ≤ sizeLine ∧ ∃ N : List V → Hp → Prop, (∀ vs' H', N vs' H' → ∃ m', m' < m ∧ W (i + 1) m' vs' H') ∧ ∀ x H', J.yld i H x H' → g x (cbase k idx σ) H' fun σ2 H2 => te σ2 H2 fun v H4 => N (vs ++ [v]) H4)
def tComp0 (wi : TI) (g : TG) (te : TE) (k : Nat) (idx : List Nat) : TE := fun σ H Q => wi σ H fun J H1 => CompGo J g te k idx σ H1 Q
theorem tComp0_eq {wi : TI} {g : TG} {te : TE} {k : Nat} {idx : List Nat} : tComp0 wi g te k idx = tComp wi g tYes te k idx := by
  have e : ∀ (A B : Prop), (if true = true then A else B) = A := fun A B => if_pos rfl
  unfold tComp0 CompGo tComp tYes
  simp only [if_true]
section
variable {X : Cx} {scope : Scope} {tn cap : List Str} {idx : List Nat}
theorem pe_comp0 {elt target iter : Expr} {pos : Pos} {wi : TI} {g : TG} {te : TE} (S : CompScope X scope tn cap idx) (hi : PI X target iter wi) (hgs : GSet tn.length g)
    (hg : ∀ cs C fp s₀ H₀, PG (cxC X (tn ++ cap) scope cs C fp s₀ H₀) target g)
    (he : ∀ cs C fp s₀ H₀, PE (cxC X (tn ++ cap) scope cs C fp s₀ H₀) elt te) (hcalm : X.calm = true := by rfl) (hs : ∀ x, foldedSetIterable iter X.env x = pure x := by intro _; rfl) :
    PE X (.ListComp elt [⟨target, iter, [], 0⟩] scope pos) (tComp0 wi g te tn.length idx) := by
  rw [tComp0_eq]
  exact pe_comp hcalm S hi hgs hg (fun _ _ _ _ _ => pts_nil) he hs
theorem ps_setC0 {elt target iter : Expr} {pos spos py : Pos} {wi : TI} {g : TG} {te : TE} {i : Nat} {y : Str} (S : CompScope X scope tn cap idx) (hN : X.N.Nodup) (hy : X.N[i]? = some y) (hx : Loc X.env.scope y)
    (hi : PI X target iter wi) (hgs : GSet tn.length g)
    (hg : ∀ cs C fp s₀ H₀, PG (cxC X (tn ++ cap) scope cs C fp s₀ H₀) target g)
    (he : ∀ cs C fp s₀ H₀, PE (cxC X (tn ++ cap) scope cs C fp s₀ H₀) elt te) (hcalm : X.calm = true := by rfl)
    (hsw : swapsWith (.ListComp elt [⟨target, iter, [], 0⟩] scope pos) (some (.Name y py)) spos.line X.env = pure true := by rfl) (hs : ∀ x, foldedSetIterable iter X.env x = pure x := by intro _; rfl)
    (hf : X.fn y = true ∨ X.env.scope.names.lookup y = some .local := by first | exact .inl rfl | exact .inr rfl | assumption) :
    PS X (.Assign [.Name y py] (.ListComp elt [⟨target, iter, [], 0⟩] scope pos) spos) (tAsg (tComp0 wi g te tn.length idx) (gName i)) := by
  rw [tComp0_eq]
  exact ps_setC hcalm S hN hy hx hi hgs hg (fun _ _ _ _ _ => pts_nil) he hsw hs hf
end
end L2
set_option Elab.async false
set_option linter.all false
set_option maxRecDepth 100000
set_option maxHeartbeats 4000000
namespace L2
open PySem PySem.Spec PyProof.Rows
inductive D where
  | non | bl (b : Bool) | int (i : Int) | str (x : Str) | lst (ds : List D) | tup (ds : List D)
mutual
def Rf (H : Hp) : D → V → List Addr → Prop
  | .non, v, fp => v = .non ∧ fp = []
  | .bl b, v, fp => v = .bl b ∧ fp = []
  | .int i, v, fp => v = .int i ∧ fp = []
  | .str x, v, fp => v = .str x ∧ fp = []
  | .lst ds, v, fp => ∃ a xs fq, v = .ref a ∧ H a = some (.lst xs) ∧ fp = a :: fq ∧ Rfs H ds xs fq
  | .tup ds, v, fp => ∃ a xs, v = .ref a ∧ H a = some (.tup xs) ∧ Rfs H ds xs fp
def Rfs (H : Hp) : List D → List V → List Addr → Prop
  | [], xs, fp => xs = [] ∧ fp = []
  | d :: ds, xs, fp => ∃ x r f1 f2, xs = x :: r ∧ fp = f1 ++ f2 ∧ Rf H d x f1 ∧ Rfs H ds r f2
end
def Rp (H : Hp) (d : D) (v : V) : Prop := ∃ fp, Rf H d v fp
theorem Rfs.length {H : Hp} : ∀ {ds : List D} {vs : List V} {fp : List Addr}, Rfs H ds vs fp → vs.length = ds.length
  | [], _, _, h => by obtain ⟨rfl, _⟩ := h; rfl
  | d :: ds, vs, fp, h => by
    obtain ⟨x, r, f1, f2, e1, e2, h1, h2⟩ := h
    subst e1
    rw [List.length_cons, List.length_cons, Rfs.length h2]
theorem Rfs.get {H : Hp} : ∀ {ds : List D} {vs : List V} {fp : List Addr} {i : Nat} {d : D}, Rfs H ds vs fp → ds[i]? = some d → ∃ v f, vs[i]? = some v ∧ Rf H d v f ∧ (∀ a ∈ f, a ∈ fp)
  | [], _, _, _, _, _, e => by simp at e
  | d :: ds, vs, fp, 0, d', h, e => by
    obtain ⟨x, r, f1, f2, rfl, rfl, h1, h2⟩ := h
    simp at e; subst e
    exact ⟨x, f1, rfl, h1, fun a ha => List.mem_append_left _ ha⟩
  | d :: ds, vs, fp, i + 1, d', h, e => by
    obtain ⟨x, r, f1, f2, rfl, rfl, h1, h2⟩ := h
    obtain ⟨v, f, e1, h3, k⟩ := Rfs.get (i := i) h2 (by simpa using e)
    exact ⟨v, f, by simpa using e1, h3, fun a ha => List.mem_append_right _ (k a ha)⟩
abbrev dI (xs : List Int) : D := .lst (xs.map D.int)
abbrev dT (t : List (List Int)) : D := .lst (t.map dI)
end L2
set_option Elab.async false
set_option linter.all false
set_option maxRecDepth 100000
set_option maxHeartbeats 4000000
namespace L2
open PySem PySem.Spec PyProof.Rows
section
variable {X : Cx}
theorem call_isinst : CallR X (.builtin "isinstance") (fun xs H Q => ∃ x n t b, xs = [x, .ty n] ∧ TyOf X.K H x t ∧ PySem.W.kitOne X.K t (.type n) = some b ∧ Q (.bl b) H) := by
  intro pins s σ H xs us Q I r h
  obtain ⟨x, n, t, b, rfl, ty, e, q⟩ := h
  obtain ⟨u, w', rfl, rx, rn⟩ := vals2 r
  obtain rfl : w' = Value.type n := rn
  exact isinst_ok I rx ty e fun tk => ⟨.bl b, H, I.tok _, rfl, q⟩
theorem ints_are : ∀ {xs : List Int} {us : List Value}, Vals (xs.map V.int) us → IntsAre us xs
  | [], us, r => by cases r; exact .nil
  | x :: xs, us, r => by
    cases r with
    | cons r rr =>
      obtain ⟨t, rfl⟩ := r
      exact .cons _ _ (ints_are rr)
theorem call_sum (hc : X.calm = true) : CallR X (.builtin "sum") (fun xs H Q => ∃ (a : Addr) (ns : List Int), xs = [.ref a] ∧ SqL X.K H a (ns.map V.int) ∧ Q (.int ns.sum) H) := by
  intro pins s σ H xs us Q I r h
  obtain ⟨a, ns, rfl, hS, q⟩ := h
  obtain ⟨u, rfl, ru⟩ := vals1 r
  obtain rfl : u = Value.ref a := ru
  obtain ⟨its, rv, pl, hz⟩ := I.list hS
  have hi := ints_are rv
  obtain ⟨xs', e⟩ := hi.allInts.items
  have hl : s.heap.IsList a (intItems xs') := by rw [← e]; exact pl.isList
  refine sum_intListG (I.ok.hd hc) hl fun h' tk t' hk => ⟨.int ns.sum, H, I.kept hk, ⟨t', ?_⟩, q⟩
  have e2 : numsOf its.toArray.toList = ns := hi.numsOf
  rw [e, nums_intItems] at e2
  rw [preSum_eq, List.take_of_length_le (by simp), e2]
end
def Itz (K : PySem.W.Frag) (a b : Addr) : It :=
  ⟨fun i H => ∃ xs ys x y, SqL K H a xs ∧ SqL K H b ys ∧ xs[i]? = some x ∧ ys[i]? = some y,
   fun i H v H' => ∃ p x y, v = .ref p ∧ H p = none ∧ H' = upd H p (.tup [x, y]) ∧ (∀ xs, SqL K H a xs → xs[i]? = some x) ∧ ∀ ys, SqL K H b ys → ys[i]? = some y,
   fun i H => ∃ xs ys, SqL K H a xs ∧ SqL K H b ys ∧ (xs.length ≤ i ∨ ys.length ≤ i)⟩
def ZipSt (a b z TI TO i1 i2 : Addr) (i : Nat) (h : Heap) : Prop :=
  IsZip h z TI TO .none ∧ IsPair h TI (.ref i1) (.ref i2) ∧ (∃ u v, IsPair h TO u v) ∧ h.IsListIter i1 a i ∧ h.IsListIter i2 b i
theorem cls_ne {h : Heap} {a b : Addr} {o u : Obj} {c d : String} (e1 : h.get? a = some o) (e2 : h.get? b = some u) (c1 : o.cls = .type c) (c2 : u.cls = .type d) (n : c ≠ d) : a ≠ b := fun z => by
  subst z; rw [e1] at e2; cases e2; rw [c1] at c2; cases c2; exact n rfl
theorem zip_apart {h : Heap} {a b z TI TO i1 i2 : Addr} {i : Nat} {xs ys : Array Value} (st : ZipSt a b z TI TO i1 i2 i h) (h1 : h.IsList a xs) (h2 : h.IsList b ys) (d1 : TI ≠ TO) (d2 : i1 ≠ i2) : ZipApart z TI TO i1 i2 a b := by
  obtain ⟨sz, sI, ⟨u, v, sO⟩, ⟨o1, e1, c1, _⟩, ⟨o2, e2, c2, _⟩⟩ := st
  obtain ⟨oa, ea, ca, _⟩ := h1
  obtain ⟨ob, eb, cb, _⟩ := h2
  exact ⟨cls_ne sI sz rfl rfl (by decide), cls_ne sO sz rfl rfl (by decide), cls_ne e1 sz c1 rfl (by decide), cls_ne e2 sz c2 rfl (by decide), d1, cls_ne sI e1 rfl c1 (by decide), cls_ne sI e2 rfl c2 (by decide), cls_ne sO e1 rfl c1 (by decide), cls_ne sO e2 rfl c2 (by decide), d2,
    cls_ne ea sz ca rfl (by decide), cls_ne ea sO ca rfl (by decide), cls_ne ea e1 ca c1 (by decide), cls_ne ea e2 ca c2 (by decide), cls_ne eb sz cb rfl (by decide), cls_ne eb sO cb rfl (by decide), cls_ne eb e1 cb c1 (by decide), cls_ne eb e2 cb c2 (by decide)⟩
theorem Inv.turnedL {X : Cx} {pins : List (Addr × Obj)} {σ : St} {H H' : Hp} {s : Shared} {h' : Heap} {fp : List Addr} {t' : Nat} (I : Inv X pins σ H s) (hf : ∀ b ∈ fp, FpOk X pins H b) (k : ∀ b o, b ∉ fp → s.heap.get? b = some o → h'.get? b = some o)
    (free : ∀ b o, s.heap.get? b = some o → H b = none → H' b = none) (sm : Same H H') (hok : HOk X.prog X.w H' h') : Inv X pins σ H' { s with heap := h', toks := t' } := by
  have nL : X.env.locals ∉ fp := fun z => (hf _ z).2.1 rfl
  refine I.step (g' := s.gens) (d' := s.drawn) (ch := fp) (fun b hb => ?_) (fun b o _ _ hc e _ => k b o hc e) (fun b o _ _ hc e _ => ⟨o.slots, k b o hc e⟩) (fun b o _ e n => free b o e n) (fun b o hc e => ⟨o, k b o hc e⟩)
    (fun b xs e => sm b _ e) (fun b o u e => sm b _ e) (fun b ps e => ⟨#[], by rw [sm b _ e]; simp⟩) (fun m hm => ?_) hok I.bare
  · obtain ⟨_, f1, _, f3, f4, f5⟩ := hf b hb
    exact ⟨f3, f1, f4, f5⟩
  · obtain ⟨o, es, ep, ho, r⟩ := hm
    exact ⟨o, es, ep, k _ o nL ho, r⟩
theorem turn_zip {P : Program} {w : World} {K : PySem.W.Frag} {elts : List Expr} {x1 : Nat} {pos : Pos} (a b z TI TO i1 i2 : Addr) (d1 : TI ≠ TO) (d2 : i1 ≠ i2) : Turn P w K (.Tuple elts x1 pos) (Itz K a b) [z, TI, TO, i1, i2] z (ZipSt a b z TI TO i1 i2) where
  mem := by simp
  obj := fun i h st c hc => by
    obtain ⟨sz, sI, ⟨u, v, sO⟩, ⟨o1, e1, c1, q1⟩, ⟨o2, e2, c2, q2⟩⟩ := st
    simp only [List.mem_cons, List.not_mem_nil, or_false] at hc
    rcases hc with rfl | rfl | rfl | rfl | rfl
    · exact ⟨_, sz, fun v z => by cases z⟩
    · exact ⟨_, sI, fun v z => by cases z⟩
    · exact ⟨_, sO, fun v z => by cases z⟩
    · exact ⟨_, e1, fun v z => by rw [q1] at z; cases z⟩
    · exact ⟨_, e2, fun v z => by rw [q2] at z; cases z⟩
  keep := fun i h h' st k => by
    obtain ⟨sz, sI, ⟨u, v, sO⟩, s1, s2⟩ := st
    exact ⟨k _ (by simp) _ sz, k _ (by simp) _ sI, ⟨u, v, k _ (by simp) _ sO⟩, s1.at fun o e => k _ (by simp) o e, s2.at fun o e => k _ (by simp) o e⟩
  item := by
    intro X hP hw hK hc i pins s σ H E I hf st hg
    subst hP hw hK
    obtain ⟨xs, ys, x, y, hq1, hq2, hx, hy⟩ := hg
    obtain ⟨its1, rv1, p1, hz1⟩ := I.list hq1
    obtain ⟨its2, rv2, p2, hz2⟩ := I.list hq2
    obtain ⟨u, hu, ru⟩ := rv1.get hx
    obtain ⟨v, hv, rv⟩ := rv2.get hy
    have Dp := zip_apart st p1.isList p2.isList d1 d2
    obtain ⟨sz, sI, ⟨ua, ub, sO⟩, s1, s2⟩ := st
    refine wpAny_pyNext_zip_item Dp sz sI sO s1 s2 p1.isList p2.isList (x := u) (y := v) (by simpa using hu) (by simpa using hv) fun h1 z1 O1 t1 t2 pr hsz kk => ?_
    refine ⟨.ref s.heap.objs.size, rfl, wpAny_letOwnedTupleGo_zip z1 fun h2 z2 sb => ?_⟩
    have zlt : z < s.heap.objs.size := Heap.lt_size sz
    have pz : s.heap.objs.size ≠ z := Nat.ne_of_gt zlt
    have hn : H s.heap.objs.size = none := I.hok.fresh (Nat.le_refl _)
    have k2 : ∀ c o, c ∉ [z, TI, TO, i1, i2] → s.heap.get? c = some o → h2.get? c = some o := fun c o hc e => by
      simp only [List.mem_cons, List.not_mem_nil, or_false, not_or] at hc
      exact sb.extBut c o hc.1 (kk c o hc.1 hc.2.2.1 hc.2.2.2.1 hc.2.2.2.2 e)
    have sm : Same H (upd H s.heap.objs.size (.tup [x, y])) := fun c o e => by rw [upd_ne (ne_of_none e hn)]; exact e
    refine ⟨.ref s.heap.objs.size, upd H s.heap.objs.size (.tup [x, y]), ?_, rfl, ⟨s.heap.objs.size, x, y, rfl, hn, rfl, fun zs hz => by rw [I.list_inj hz hq1]; exact hx, fun zs hz => by rw [I.list_inj hz hq2]; exact hy⟩,
      ⟨z2, sb.extBut _ _ Dp.TIz (kk _ _ Dp.TIz Dp.TITO Dp.TIi1 Dp.TIi2 sI), ⟨u, v, sb.extBut _ _ Dp.TOz O1⟩, t1.at fun o e => sb.extBut _ _ Dp.i1z e, t2.at fun o e => sb.extBut _ _ Dp.i2z e⟩, fun c hc => ?_⟩
    · refine I.turnedL (t' := s.toks) hf k2 (fun c o e n => by rw [upd_ne (Nat.ne_of_lt (Heap.lt_size e))]; exact n) sm fun c o e => ?_
      by_cases ec : c = s.heap.objs.size
      · subst ec
        rw [upd_same] at e
        cases e
        exact ⟨by simp only [List.length_cons, List.length_nil]; rw [sizeLine_eq]; decide, [u, v], .cons ru (.cons rv .nil), ⟨_, sb.extBut _ _ pz pr, rfl, 0, rfl⟩⟩
      · rw [upd_ne ec] at e
        refine (I.hok c o e).stay (fun d w' hd q => k2 d w' (fun hm => ?_) q) (fun d q => sm d _ q) fun d ds q => sm d _ q
        have hdn := (hf d hm).1
        rcases hd with rfl | hd
        · rw [hdn] at e; cases e
        · rw [hdn] at hd; cases hd
    · have := (hf c hc).1
      by_cases ec : c = s.heap.objs.size
      · exfalso
        subst ec
        obtain ⟨_, e1, _⟩ := s1
        obtain ⟨_, e2, _⟩ := s2
        simp only [List.mem_cons, List.not_mem_nil, or_false] at hc
        rcases hc with q | q | q | q | q
        · exact pz q
        · exact absurd (Heap.lt_size sI) (by rw [← q]; exact Nat.lt_irrefl _)
        · exact absurd (Heap.lt_size sO) (by rw [← q]; exact Nat.lt_irrefl _)
        · exact absurd (Heap.lt_size e1) (by rw [← q]; exact Nat.lt_irrefl _)
        · exact absurd (Heap.lt_size e2) (by rw [← q]; exact Nat.lt_irrefl _)
      · rw [upd_ne ec]; exact this
  done := by
    intro X hP hw hK hc i pins s σ H E I hf st hg
    subst hP hw hK
    obtain ⟨xs, ys, hq1, hq2, hle⟩ := hg
    obtain ⟨its1, rv1, p1, hz1⟩ := I.list hq1
    obtain ⟨its2, rv2, p2, hz2⟩ := I.list hq2
    have l1 := rv1.length
    have l2 := rv2.length
    have Dp := zip_apart st p1.isList p2.isList d1 d2
    obtain ⟨sz, sI, ⟨ua, ub, sO⟩, s1, s2⟩ := st
    refine wpAny_pyNext_zip_end (I.ok.hd hc) Dp sz sI sO s1 s2 p1.isList p2.isList (hle.elim (fun q => .inl (by simp; omega)) fun q => .inr (by simp; omega)) fun h1 kk => ⟨rfl, ?_⟩
    have k2 : ∀ c o, c ∉ [z, TI, TO, i1, i2] → s.heap.get? c = some o → h1.get? c = some o := fun c o hc e => by
      simp only [List.mem_cons, List.not_mem_nil, or_false, not_or] at hc
      exact kk c o hc.1 hc.2.2.1 hc.2.2.2.1 hc.2.2.2.2 e
    refine I.turnedL (t' := s.toks) hf k2 (fun _ _ _ n => n) (Same.refl H) fun c o e => ?_
    refine (I.hok c o e).stay (fun d w' hd q => k2 d w' (fun hm => ?_) q) (fun d q => q) fun d ds q => q
    have hdn := (hf d hm).1
    rcases hd with rfl | hd
    · rw [hdn] at e; cases e
    · rw [hdn] at hd; cases hd
  self := fun _ _ _ _ _ st h => wpAny_pyIter_zip st.1 h
section
variable {X : Cx}
def iZip (K : PySem.W.Frag) (ta : TA) : TI := fun σ H R => ta σ H fun vs H1 => ∃ a b, vs = [.ref a, .ref b] ∧ (∃ xs, SqL K H1 a xs) ∧ (∃ ys, SqL K H1 b ys) ∧ R (Itz K a b) H1
theorem pi_zip {elts : List Expr} {x1 : Nat} {tp : Pos} {a b : Expr} {ta : TA} {p pos : Pos} (hg : Gl X "zip") (hm : X.mg "zip" = none) (ha : PA X [a, b] ta) (hs : starEach [a, b] X.env = [(false, eval a X.env), (false, eval b X.env)] := by rfl) (hs2 : starEach [b] X.env = [(false, eval b X.env)] := by rfl) :
    PI X (.Tuple elts x1 tp) (.Call (.Name "zip" p) [a, b] [] pos) (iZip X.K ta) := by
  intro pins s σ H R I h
  refine Call_ (ld_blt I hg hm boot_zip (PyProof.Rows.callWith_type1 (thn (ha pos pins s σ H _ I h) fun us s1 ⟨vs, H1, I1, r1, q1⟩ => ?_) (by rw [hs, hs2]) (by rw [hs2]; rfl)))
  obtain ⟨l1, l2, rfl, ⟨xs, hx⟩, ⟨ys, hy⟩, q⟩ := q1
  obtain ⟨u1, u2, rfl, r2, r3⟩ := vals2 r1
  obtain rfl : u1 = Value.ref l1 := r2
  obtain rfl : u2 = Value.ref l2 := r3
  obtain ⟨its1, rv1, p1, hz1⟩ := I1.list hx
  obtain ⟨its2, rv2, p2, hz2⟩ := I1.list hy
  refine call_zip_2 p1.isList p2.isList fun h' sz sI sO t1 t2 hsz kk => ?_
  have I2 : Inv X pins σ H1 { s1 with heap := h' } := I1.kept (t' := s1.toks) kk
  refine wpAny_pyIter_zip sz ⟨_, _, ZipSt l1 l2 (s1.heap.objs.size + 4) (s1.heap.objs.size + 2) (s1.heap.objs.size + 3) s1.heap.objs.size (s1.heap.objs.size + 1), Itz X.K l1 l2, H1, rfl, I2, turn_zip _ _ _ _ _ _ _ (Nat.ne_of_lt (Nat.lt_succ_self _)) (Nat.ne_of_lt (Nat.lt_succ_self _)), ⟨sz, sI, ⟨_, _, sO⟩, t1, t2⟩, fun c hc => ?_, q⟩
  simp only [List.mem_cons, List.not_mem_nil, or_false] at hc
  have hge : s1.heap.objs.size ≤ c := by rcases hc with rfl | rfl | rfl | rfl | rfl <;> first | exact Nat.le_add_right _ _ | exact Nat.le_refl _
  obtain ⟨g0, g1, g2, g3, g4, g5⟩ := I1.fpOk (H' := H1) hge (I1.hok.fresh hge)
  exact ⟨g0, g1, g2, g3, g4, g5⟩
end
mutual
def D.plain : D → Bool
  | .non => true | .bl _ => false | .int _ => true | .str _ => true
  | .lst ds => D.plains ds | .tup ds => D.plains ds
def D.plains : List D → Bool
  | [] => true
  | d :: ds => D.plain d && D.plains ds
end
mutual
def D.depth : D → Nat
  | .lst ds => D.depths ds + 1 | .tup ds => D.depths ds + 1
  | _ => 0
def D.depths : List D → Nat
  | [] => 0
  | d :: ds => max (D.depth d) (D.depths ds)
end
mutual
def D.eqb : D → D → Bool
  | .non, .non => true
  | .int i, .int j => i == j
  | .str i, .str j => i == j
  | .lst a, .lst b => D.eqbs a b
  | .tup a, .tup b => D.eqbs a b
  | _, _ => false
def D.eqbs : List D → List D → Bool
  | [], [] => true
  | a :: as, b :: bs => D.eqb a b && D.eqbs as bs
  | _, _ => false
end
theorem D.eqbs_iff : ∀ {a b : List D}, D.eqbs a b = (decide (a.length = b.length) && (List.range a.length).all fun i => match a[i]?, b[i]? with | some x, some y => D.eqb x y | _, _ => false)
  | [], [] => rfl
  | [], b :: bs => by simp [D.eqbs]
  | a :: as, [] => by simp [D.eqbs]
  | a :: as, b :: bs => by
    rw [D.eqbs, D.eqbs_iff (a := as) (b := bs), List.length_cons, List.range_succ_eq_map, List.all_cons, List.all_map]
    by_cases h : as.length = bs.length
    · simp [h, Function.comp_def]
    · simp [h]
end L2
set_option Elab.async false
set_option linter.all false
set_option maxRecDepth 100000
set_option maxHeartbeats 4000000
namespace L2
open PySem PySem.Spec PyProof.Rows
open PySem.SeqAt
theorem D.plains_get : ∀ {ds : List D} {i : Nat} {d : D}, D.plains ds = true → ds[i]? = some d → d.plain = true
  | [], i, d, _, e => by simp at e
  | c :: ds, 0, d, h, e => by
    simp at e; subst e
    rw [D.plains, Bool.and_eq_true] at h
    exact h.1
  | c :: ds, i + 1, d, h, e => by
    rw [D.plains, Bool.and_eq_true] at h
    exact D.plains_get (i := i) h.2 (by simpa using e)
theorem D.depths_get : ∀ {ds : List D} {i : Nat} {d : D}, ds[i]? = some d → d.depth ≤ D.depths ds
  | [], i, d, e => by simp at e
  | c :: ds, 0, d, e => by
    simp at e; subst e
    rw [D.depths]
    exact Nat.le_max_left _ _
  | c :: ds, i + 1, d, e => by
    rw [D.depths]
    exact Nat.le_trans (D.depths_get (i := i) (by simpa using e)) (Nat.le_max_right _ _)
theorem D.eqbs_all {a b : List D} (hl : a.length = b.length) (f : Nat → Bool) (h : ∀ i x y, a[i]? = some x → b[i]? = some y → f i = D.eqb x y) : D.eqbs a b = (List.range a.length).all f := by
  rw [D.eqbs_iff, decide_eq_true hl, Bool.true_and, Bool.eq_iff_iff]
  simp only [List.all_eq_true, List.mem_range]
  constructor
  · intro q i hi
    have := q i hi
    rw [List.getElem?_eq_getElem hi, List.getElem?_eq_getElem (show i < b.length by omega)] at this
    rw [h i _ _ (List.getElem?_eq_getElem hi) (List.getElem?_eq_getElem (show i < b.length by omega))]
    exact this
  · intro q i hi
    have := q i hi
    rw [h i _ _ (List.getElem?_eq_getElem hi) (List.getElem?_eq_getElem (show i < b.length by omega))] at this
    rw [List.getElem?_eq_getElem hi, List.getElem?_eq_getElem (show i < b.length by omega)]
    exact this
theorem D.eqbs_len {a b : List D} (hl : a.length ≠ b.length) : D.eqbs a b = false := by
  rw [D.eqbs_iff, decide_eq_false hl, Bool.false_and]
theorem eqb_one {H : Hp} : ∀ (n : Nat) (d e : D) (v : V), d.depth ≤ n → Rp H d v → Rp H e v → d.plain = true → D.eqb d e = true := by
  intro n
  induction n with
  | zero =>
    intro d e v hn hd he hp
    obtain ⟨f, hd⟩ := hd
    obtain ⟨g, he⟩ := he
    cases d with
    | non => obtain ⟨rfl, _⟩ := hd; cases e with
      | non => rfl
      | lst ds => obtain ⟨_, _, _, z, _⟩ := he; cases z
      | tup ds => obtain ⟨_, _, z, _⟩ := he; cases z
      | _ => obtain ⟨z, _⟩ := he; cases z
    | bl b => cases hp
    | int i => obtain ⟨rfl, _⟩ := hd; cases e with
      | int j => obtain ⟨z, _⟩ := he; cases z; simp [D.eqb]
      | lst ds => obtain ⟨_, _, _, z, _⟩ := he; cases z
      | tup ds => obtain ⟨_, _, z, _⟩ := he; cases z
      | _ => obtain ⟨z, _⟩ := he; cases z
    | str i => obtain ⟨rfl, _⟩ := hd; cases e with
      | str j => obtain ⟨z, _⟩ := he; cases z; simp [D.eqb]
      | lst ds => obtain ⟨_, _, _, z, _⟩ := he; cases z
      | tup ds => obtain ⟨_, _, z, _⟩ := he; cases z
      | _ => obtain ⟨z, _⟩ := he; cases z
    | lst ds => rw [D.depth] at hn; omega
    | tup ds => rw [D.depth] at hn; omega
  | succ n ih =>
    intro d e v hn hd he hp
    have go : ∀ (ds es : List D) (xs : List V) (f g : List Addr), D.depths ds ≤ n → Rfs H ds xs f → Rfs H es xs g → D.plains ds = true → D.eqbs ds es = true := by
      intro ds es xs f g hn h1 h2 hp
      have l1 := h1.length
      have l2 := h2.length
      rw [D.eqbs_all (by omega) (fun _ => true) (fun i x y e1 e2 => ?_)]
      · simp
      · obtain ⟨v1, f1, q1, r1, _⟩ := h1.get e1
        obtain ⟨v2, f2, q2, r2, _⟩ := h2.get e2
        rw [q1] at q2; cases q2
        exact (ih x y v1 (Nat.le_trans (D.depths_get e1) hn) ⟨_, r1⟩ ⟨_, r2⟩ (D.plains_get hp e1)).symm
    obtain ⟨f, hd⟩ := hd
    obtain ⟨g, he⟩ := he
    cases d with
    | non => obtain ⟨rfl, _⟩ := hd; cases e with
      | non => rfl
      | lst ds => obtain ⟨_, _, _, z, _⟩ := he; cases z
      | tup ds => obtain ⟨_, _, z, _⟩ := he; cases z
      | _ => obtain ⟨z, _⟩ := he; cases z
    | bl b => cases hp
    | int i => obtain ⟨rfl, _⟩ := hd; cases e with
      | int j => obtain ⟨z, _⟩ := he; cases z; simp [D.eqb]
      | lst ds => obtain ⟨_, _, _, z, _⟩ := he; cases z
      | tup ds => obtain ⟨_, _, z, _⟩ := he; cases z
      | _ => obtain ⟨z, _⟩ := he; cases z
    | str i => obtain ⟨rfl, _⟩ := hd; cases e with
      | str j => obtain ⟨z, _⟩ := he; cases z; simp [D.eqb]
      | lst ds => obtain ⟨_, _, _, z, _⟩ := he; cases z
      | tup ds => obtain ⟨_, _, z, _⟩ := he; cases z
      | _ => obtain ⟨z, _⟩ := he; cases z
    | lst ds =>
      obtain ⟨a, xs, fq, rfl, e1, rfl, hd⟩ := hd
      cases e with
      | lst es =>
        obtain ⟨b, ys, gq, z, e2, rfl, he⟩ := he
        cases z
        rw [e1] at e2; cases e2
        rw [D.eqb]
        exact go ds es xs fq gq (by rw [D.depth] at hn; omega) hd he hp
      | tup es =>
        obtain ⟨b, ys, z, e2, he⟩ := he
        cases z
        rw [e1] at e2; cases e2
      | _ => obtain ⟨z, _⟩ := he; cases z
    | tup ds =>
      obtain ⟨a, xs, rfl, e1, hd⟩ := hd
      cases e with
      | tup es =>
        obtain ⟨b, ys, z, e2, he⟩ := he
        cases z
        rw [e1] at e2; cases e2
        rw [D.eqb]
        exact go ds es xs f g (by rw [D.depth] at hn; omega) hd he hp
      | lst es =>
        obtain ⟨b, ys, gq, z, e2, rfl, he⟩ := he
        cases z
        rw [e1] at e2; cases e2
      | _ => obtain ⟨z, _⟩ := he; cases z
theorem eqAt_D {X : Cx} {pins : List (Addr × Obj)} {σ : St} {H : Hp} {s : Shared} (I : Inv X pins σ H s) : ∀ (n : Nat) (d e : D) (x y : V) (u w : Value) (A : Around), d.depth ≤ n → Rp H d x → Rp H e y → RelV x u → RelV y w → d.plain = true → e.plain = true → A.units + n < cLine →
    EqAt A s u w (D.eqb d e) := by
  intro n
  induction n with
  | zero =>
    intro d e x y u w A hn hd he rx ry pd pe hu
    obtain ⟨f, hd⟩ := hd
    obtain ⟨g, he⟩ := he
    have hu' : A.units < cLine := by omega
    cases d with
    | non =>
      obtain ⟨rfl, _⟩ := hd; obtain rfl : u = .none := rx
      cases e with
      | non => obtain ⟨rfl, _⟩ := he; obtain rfl : w = .none := ry; exact EqAt.same _
      | bl b => cases pe
      | int j => obtain ⟨rfl, _⟩ := he; obtain ⟨t, rfl⟩ := ry; exact EqAt.none_int _ _
      | str j => obtain ⟨rfl, _⟩ := he; obtain ⟨t, rfl⟩ := ry; exact EqAt.none_str _ _
      | lst es => obtain ⟨b, ys, gq, rfl, e2, _, he⟩ := he; obtain rfl : w = .ref b := ry; obtain ⟨_, _, pl, _⟩ := I.list (SqL.of e2); exact EqAt.none_list pl.isList hu'
      | tup es => obtain ⟨b, ys, rfl, e2, he⟩ := he; obtain rfl : w = .ref b := ry; obtain ⟨_, _, pl, _⟩ := I.tuple (SqT.of e2); exact EqAt.none_tuple pl hu'
    | bl b => cases pd
    | int i =>
      obtain ⟨rfl, _⟩ := hd; obtain ⟨t0, rfl⟩ := rx
      cases e with
      | non => obtain ⟨rfl, _⟩ := he; obtain rfl : w = .none := ry; exact EqAt.int_none _ _
      | bl b => cases pe
      | int j => obtain ⟨rfl, _⟩ := he; obtain ⟨t, rfl⟩ := ry; exact EqAt.int_int _ _ _ _
      | str j => obtain ⟨rfl, _⟩ := he; obtain ⟨t, rfl⟩ := ry; exact EqAt.int_str _ _ _ _
      | lst es => obtain ⟨b, ys, gq, rfl, e2, _, he⟩ := he; obtain rfl : w = .ref b := ry; obtain ⟨_, _, pl, _⟩ := I.list (SqL.of e2); exact EqAt.int_list _ _ pl.isList hu'
      | tup es => obtain ⟨b, ys, rfl, e2, he⟩ := he; obtain rfl : w = .ref b := ry; obtain ⟨_, _, pl, _⟩ := I.tuple (SqT.of e2); exact EqAt.int_tuple _ _ pl hu'
    | str i =>
      obtain ⟨rfl, _⟩ := hd; obtain ⟨t0, rfl⟩ := rx
      cases e with
      | non => obtain ⟨rfl, _⟩ := he; obtain rfl : w = .none := ry; exact EqAt.str_none _ _
      | bl b => cases pe
      | int j => obtain ⟨rfl, _⟩ := he; obtain ⟨t, rfl⟩ := ry; exact EqAt.str_int _ _ _ _
      | str j => obtain ⟨rfl, _⟩ := he; obtain ⟨t, rfl⟩ := ry; exact EqAt.str_str _ _ _ _
      | lst es => obtain ⟨b, ys, gq, rfl, e2, _, he⟩ := he; obtain rfl : w = .ref b := ry; obtain ⟨_, _, pl, _⟩ := I.list (SqL.of e2); exact EqAt.str_list _ _ pl.isList hu'
      | tup es => obtain ⟨b, ys, rfl, e2, he⟩ := he; obtain rfl : w = .ref b := ry; obtain ⟨_, _, pl, _⟩ := I.tuple (SqT.of e2); exact EqAt.str_tuple _ _ pl hu'
    | lst ds => rw [D.depth] at hn; omega
    | tup ds => rw [D.depth] at hn; omega
  | succ n ih =>
    intro d e x y u w A hn hd he rx ry pd pe hu
    have hu' : A.units < cLine := by omega
    have ud : A.in1.units + n < cLine := by show A.units + 1 + n < cLine; omega
    cases d with
    | non => exact ih _ _ x y u w A (by simp [D.depth]) hd he rx ry pd pe (by omega)
    | bl b => cases pd
    | int i => exact ih _ _ x y u w A (by simp [D.depth]) hd he rx ry pd pe (by omega)
    | str i => exact ih _ _ x y u w A (by simp [D.depth]) hd he rx ry pd pe (by omega)
    | lst ds =>
      have hd0 := hd
      have he0 := he
      obtain ⟨f, a, xs, fq, rfl, e1, rfl, hd⟩ := hd
      obtain rfl : u = .ref a := rx
      obtain ⟨its, rv, pl, hz⟩ := I.list (SqL.of e1)
      obtain ⟨g, he⟩ := he
      cases e with
      | non => obtain ⟨rfl, _⟩ := he; obtain rfl : w = .none := ry; exact EqAt.list_none pl.isList hu'
      | bl b => cases pe
      | int j => obtain ⟨rfl, _⟩ := he; obtain ⟨t, rfl⟩ := ry; exact EqAt.list_int _ _ pl.isList hu'
      | str j => obtain ⟨rfl, _⟩ := he; obtain ⟨t, rfl⟩ := ry; exact EqAt.list_str _ _ pl.isList hu'
      | tup es => obtain ⟨b, ys, rfl, e2, he⟩ := he; obtain rfl : w = .ref b := ry; obtain ⟨_, _, pl2, _⟩ := I.tuple (SqT.of e2); exact EqAt.list_tuple pl.isList pl2 hu'
      | lst es =>
        obtain ⟨b, ys, gq, rfl, e2, rfl, he⟩ := he
        obtain rfl : w = .ref b := ry
        by_cases hab : a = b
        · subst hab
          rw [eqb_one _ _ _ _ (Nat.le_refl _) hd0 he0 pd]
          exact EqAt.same _
        · obtain ⟨its2, rv2, pl2, hz2⟩ := I.list (SqL.of e2)
          refine EqAt.of_refs hab ?_
          have l1 := rv.length
          have l2 := rv2.length
          have m1 := hd.length
          have m2 := he.length
          by_cases hl : ds.length = es.length
          · have key := RcAt.lists (A := A) (e := fun i => match ds[i]?, es[i]? with | some x, some y => D.eqb x y | _, _ => false) pl.isList pl2.isList (by simp; omega) hu' (fun j h1 h2 => by
              have j1 : j < ds.length := by simp at h1; omega
              have j2 : j < es.length := by omega
              simp only [List.getElem?_eq_getElem j1, List.getElem?_eq_getElem j2]
              obtain ⟨v1, f1, q1, r1, _⟩ := hd.get (List.getElem?_eq_getElem j1)
              obtain ⟨v2, f2, q2, r2, _⟩ := he.get (List.getElem?_eq_getElem j2)
              obtain ⟨u1, p1, t1⟩ := rv.get q1
              obtain ⟨u2, p2, t2⟩ := rv2.get q2
              have i1 : its.toArray[j] = u1 := by
                have := List.getElem?_eq_some_iff.mp p1
                obtain ⟨_, z⟩ := this
                simpa using z
              have i2 : its2.toArray[j] = u2 := by
                have := List.getElem?_eq_some_iff.mp p2
                obtain ⟨_, z⟩ := this
                simpa using z
              rw [i1, i2]
              exact ih _ _ v1 v2 u1 u2 A.in1 (by have := D.depths_get (List.getElem?_eq_getElem j1); rw [D.depth] at hn; omega) ⟨_, r1⟩ ⟨_, r2⟩ t1 t2 (D.plains_get pd (List.getElem?_eq_getElem j1)) (D.plains_get pe (List.getElem?_eq_getElem j2)) ud)
            have e3 : D.eqb (.lst ds) (.lst es) = (List.range its.toArray.size).all fun i => match ds[i]?, es[i]? with | some x, some y => D.eqb x y | _, _ => false := by
              rw [D.eqb, D.eqbs_iff, decide_eq_true hl, Bool.true_and]
              rw [show its.toArray.size = ds.length by simp; omega]
              all_goals rfl
            rw [e3]
            exact key
          · rw [D.eqb, D.eqbs_len hl]
            exact RcAt.lists_lengths pl.isList pl2.isList (by simp; omega) hu'
    | tup ds =>
      have hd0 := hd
      have he0 := he
      obtain ⟨f, a, xs, rfl, e1, hd⟩ := hd
      obtain rfl : u = .ref a := rx
      obtain ⟨its, rv, pl, hz⟩ := I.tuple (SqT.of e1)
      obtain ⟨g, he⟩ := he
      cases e with
      | non => obtain ⟨rfl, _⟩ := he; obtain rfl : w = .none := ry; exact EqAt.tuple_none pl hu'
      | bl b => cases pe
      | int j => obtain ⟨rfl, _⟩ := he; obtain ⟨t, rfl⟩ := ry; exact EqAt.tuple_int _ _ pl hu'
      | str j => obtain ⟨rfl, _⟩ := he; obtain ⟨t, rfl⟩ := ry; exact EqAt.tuple_str _ _ pl hu'
      | lst es => obtain ⟨b, ys, gq, rfl, e2, _, he⟩ := he; obtain rfl : w = .ref b := ry; obtain ⟨_, _, pl2, _⟩ := I.list (SqL.of e2); exact EqAt.tuple_list pl pl2.isList hu'
      | tup es =>
        obtain ⟨b, ys, rfl, e2, he⟩ := he
        obtain rfl : w = .ref b := ry
        by_cases hab : a = b
        · subst hab
          rw [eqb_one _ _ _ _ (Nat.le_refl _) hd0 he0 pd]
          exact EqAt.same _
        · obtain ⟨its2, rv2, pl2, hz2⟩ := I.tuple (SqT.of e2)
          refine EqAt.of_refs hab ?_
          have l1 := rv.length
          have l2 := rv2.length
          have m1 := hd.length
          have m2 := he.length
          have key := RcAt.tuples (A := A) (e := fun i => match ds[i]?, es[i]? with | some x, some y => D.eqb x y | _, _ => false) pl pl2 hu' (fun j h1 h2 => by
              have j1 : j < ds.length := by simp at h1; omega
              have j2 : j < es.length := by simp at h2; omega
              simp only [List.getElem?_eq_getElem j1, List.getElem?_eq_getElem j2]
              obtain ⟨v1, f1, q1, r1, _⟩ := hd.get (List.getElem?_eq_getElem j1)
              obtain ⟨v2, f2, q2, r2, _⟩ := he.get (List.getElem?_eq_getElem j2)
              obtain ⟨u1, p1, t1⟩ := rv.get q1
              obtain ⟨u2, p2, t2⟩ := rv2.get q2
              have i1 : its.toArray[j] = u1 := by
                have := List.getElem?_eq_some_iff.mp p1
                obtain ⟨_, z⟩ := this
                simpa using z
              have i2 : its2.toArray[j] = u2 := by
                have := List.getElem?_eq_some_iff.mp p2
                obtain ⟨_, z⟩ := this
                simpa using z
              rw [i1, i2]
              exact ih _ _ v1 v2 u1 u2 A.in1 (by have := D.depths_get (List.getElem?_eq_getElem j1); rw [D.depth] at hn; omega) ⟨_, r1⟩ ⟨_, r2⟩ t1 t2 (D.plains_get pd (List.getElem?_eq_getElem j1)) (D.plains_get pe (List.getElem?_eq_getElem j2)) ud)
          have e3 : D.eqb (.tup ds) (.tup es) = ((List.range (min its.toArray.size its2.toArray.size)).all (fun i => match ds[i]?, es[i]? with | some x, some y => D.eqb x y | _, _ => false) && its.toArray.size == its2.toArray.size) := by
            rw [D.eqb]
            have z1 : its.toArray.size = ds.length := by simp; omega
            have z2 : its2.toArray.size = es.length := by simp; omega
            rw [z1, z2]
            by_cases hl : ds.length = es.length
            · rw [D.eqbs_iff, decide_eq_true hl, Bool.true_and, hl, Nat.min_self, beq_self_eq_true, Bool.and_true]
              all_goals rfl
            · rw [D.eqbs_len hl]
              have : (ds.length == es.length) = false := beq_eq_false_iff_ne.mpr hl
              rw [this, Bool.and_false]
          rw [e3]
          exact key
def eqAtI (ds es : List D) (i : Nat) : Bool := match ds[i]?, es[i]? with | some x, some y => D.eqb x y | _, _ => false
theorem items_eq {X : Cx} {pins : List (Addr × Obj)} {σ : St} {H : Hp} {s : Shared} (I : Inv X pins σ H s) {A : Around} {ds es : List D} {xs ys : List V} {f g : List Addr} {its its2 : List Value} (hd : Rfs H ds xs f) (he : Rfs H es ys g) (rv : Vals xs its) (rv2 : Vals ys its2)
    (pd : D.plains ds = true) (pe : D.plains es = true) (hu : A.units + 1 + D.depths ds < cLine) : ∀ j (h1 : j < its.toArray.size) (h2 : j < its2.toArray.size), EqAt A.in1 s its.toArray[j] its2.toArray[j] (eqAtI ds es j) := by
  intro j h1 h2
  have l1 := rv.length
  have l2 := rv2.length
  have m1 := hd.length
  have m2 := he.length
  have j1 : j < ds.length := by simp at h1; omega
  have j2 : j < es.length := by simp at h2; omega
  unfold eqAtI
  simp only [List.getElem?_eq_getElem j1, List.getElem?_eq_getElem j2]
  obtain ⟨v1, f1, q1, r1, _⟩ := hd.get (List.getElem?_eq_getElem j1)
  obtain ⟨v2, f2, q2, r2, _⟩ := he.get (List.getElem?_eq_getElem j2)
  obtain ⟨u1, p1, t1⟩ := rv.get q1
  obtain ⟨u2, p2, t2⟩ := rv2.get q2
  have i1 : its.toArray[j] = u1 := by
    obtain ⟨_, z⟩ := List.getElem?_eq_some_iff.mp p1
    simpa using z
  have i2 : its2.toArray[j] = u2 := by
    obtain ⟨_, z⟩ := List.getElem?_eq_some_iff.mp p2
    simpa using z
  rw [i1, i2]
  exact eqAt_D I _ _ _ v1 v2 u1 u2 A.in1 (D.depths_get (List.getElem?_eq_getElem j1)) ⟨_, r1⟩ ⟨_, r2⟩ t1 t2 (D.plains_get pd (List.getElem?_eq_getElem j1)) (D.plains_get pe (List.getElem?_eq_getElem j2)) hu
theorem eqbs_range {ds es : List D} (hl : ds.length = es.length) : D.eqbs ds es = (List.range ds.length).all (eqAtI ds es) := by
  rw [D.eqbs_iff, decide_eq_true hl, Bool.true_and]
  rfl
section
variable {X : Cx}
def rEqD (neg : Bool) : R2 := fun x y H Q => ∃ ds es, Rp H (.lst ds) x ∧ Rp H (.lst es) y ∧ D.plains ds = true ∧ D.plains es = true ∧ D.depths ds ≤ 60 ∧ Q (.bl (if neg then !D.eqbs ds es else D.eqbs ds es)) H
theorem op_eqL (hu : X.A.units + 64 < cLine) : OpR X (compareOp .Eq) (rEqD false) := by
  intro pins s σ H x y v u Q I rx ry h
  obtain ⟨ds, es, ⟨f, a, xs, fq, rfl, e1, rfl, hd⟩, ⟨g, b, ys, gq, rfl, e2, rfl, he⟩, pd, pe, hdp, q⟩ := h
  obtain rfl : v = .ref a := rx
  obtain rfl : u = .ref b := ry
  obtain ⟨its, rv, pl, hz⟩ := I.list (SqL.of e1)
  obtain ⟨its2, rv2, pl2, hz2⟩ := I.list (SqL.of e2)
  have l1 := rv.length
  have l2 := rv2.length
  have m1 := hd.length
  have m2 := he.length
  by_cases hl : ds.length = es.length
  · refine eq_listAt pl.isList pl2.isList (by simp; omega) (by omega) (items_eq I hd he rv rv2 pd pe (by omega)) (fin_bl I q ?_)
    rw [eqbs_range hl, show its.toArray.size = ds.length by simp; omega]
    all_goals rfl
  · refine eq_list_lengthsAt pl.isList pl2.isList (by simp; omega) (by omega) (fin_bl I q ?_)
    rw [D.eqbs_len hl]
    all_goals rfl
theorem op_neL (hu : X.A.units + 64 < cLine) : OpR X (compareOp .NotEq) (rEqD true) := by
  intro pins s σ H x y v u Q I rx ry h
  obtain ⟨ds, es, ⟨f, a, xs, fq, rfl, e1, rfl, hd⟩, ⟨g, b, ys, gq, rfl, e2, rfl, he⟩, pd, pe, hdp, q⟩ := h
  obtain rfl : v = .ref a := rx
  obtain rfl : u = .ref b := ry
  obtain ⟨its, rv, pl, hz⟩ := I.list (SqL.of e1)
  obtain ⟨its2, rv2, pl2, hz2⟩ := I.list (SqL.of e2)
  have l1 := rv.length
  have l2 := rv2.length
  have m1 := hd.length
  have m2 := he.length
  by_cases hl : ds.length = es.length
  · refine RcNeAt.lists pl.isList pl2.isList (by simp; omega) (by omega) (items_eq I hd he rv rv2 pd pe (by omega)) _ _ _ _ (fin_bl I q ?_)
    rw [eqbs_range hl, show its.toArray.size = ds.length by simp; omega]
    all_goals rfl
  · refine RcNeAt.lists_lengths pl.isList pl2.isList (by simp; omega) (by omega) _ _ _ _ (fin_bl I q ?_)
    rw [D.eqbs_len hl]
    all_goals rfl
end
theorem D.plains_ints : ∀ (xs : List Int), D.plains (xs.map D.int) = true
  | [] => rfl
  | x :: xs => by rw [List.map_cons, D.plains, D.plains_ints xs]; rfl
theorem D.plains_rows : ∀ (t : List (List Int)), D.plains (t.map dI) = true
  | [] => rfl
  | x :: xs => by rw [List.map_cons, D.plains, D.plains_rows xs, D.plain, D.plains_ints]; rfl
theorem D.depths_ints : ∀ (xs : List Int), D.depths (xs.map D.int) = 0
  | [] => rfl
  | x :: xs => by rw [List.map_cons, D.depths, D.depths_ints xs]; rfl
theorem D.depths_rows : ∀ (t : List (List Int)), D.depths (t.map dI) ≤ 1
  | [] => by rw [List.map_nil, D.depths]; omega
  | x :: xs => by
    have := D.depths_rows xs
    rw [List.map_cons, D.depths, D.depth, D.depths_ints]
    exact Nat.max_le.mpr ⟨Nat.le_refl _, this⟩
theorem D.eqbs_ints : ∀ (xs ys : List Int), D.eqbs (xs.map D.int) (ys.map D.int) = decide (xs = ys)
  | [], [] => rfl
  | [], y :: ys => rfl
  | x :: xs, [] => rfl
  | x :: xs, y :: ys => by
    rw [List.map_cons, List.map_cons, D.eqbs, D.eqbs_ints xs ys, D.eqb]
    by_cases h : x = y
    · subst h; simp
    · have : (x == y) = false := beq_eq_false_iff_ne.mpr h
      simp [this, h]
theorem D.eqbs_rows : ∀ (xs ys : List (List Int)), D.eqbs (xs.map dI) (ys.map dI) = decide (xs = ys)
  | [], [] => rfl
  | [], y :: ys => rfl
  | x :: xs, [] => rfl
  | x :: xs, y :: ys => by
    rw [List.map_cons, List.map_cons, D.eqbs, D.eqbs_rows xs ys, D.eqb, D.eqbs_ints]
    by_cases h : x = y
    · subst h; simp
    · simp [h]
def CMulB (i j : Int) : Prop := ∃ m n : Nat, i.natAbs < 2 ^ m ∧ j.natAbs < 2 ^ n ∧ m + n ≤ 100000000
def CDivB (i j : Int) : Prop := 0 < j ∧ ∃ m : Nat, j.natAbs < 2 ^ m ∧ m ≤ 9000
section
variable {X : Cx}
theorem op_mulB : OpR X (binaryOp .Mult) (rI CMulB fun i j => .int (i * j)) := opI fun i j _ _ _ _ _ hc q => by
  obtain ⟨m, n, h1, h2, h3⟩ := hc
  exact mul_int q (mulOk_of_bits (intBits_le h1) (intBits_le h2) (by omega))
theorem op_fdivB : OpR X (binaryOp .FloorDiv) (rI CDivB fun i j => .int (i / j)) := opI fun i j _ _ _ _ _ hc q => by
  obtain ⟨h0, m, h1, h2⟩ := hc
  have hj : j.natAbs ≠ 0 := by omega
  refine floordiv_int (by omega) ?_ (.inl (PyProof.noPylong_of_log2 (Nat.lt_of_lt_of_le ((Nat.log2_lt hj).mpr h1) h2)))
  rw [Int.fdiv_eq_ediv_of_nonneg i (by omega)]
  exact q
end
def relabelS (scope sc0 : Scope) : Scope := { scope with names := scope.names.map fun (n, k) => if (k == .free && sc0.kind == .function && sc0.names.lookup n == some .cell) then (n, .cell) else (n, k) }
def nodupB : List Str → Bool
  | [] => true
  | x :: xs => !xs.contains x && nodupB xs
theorem nodupB_iff : ∀ {l : List Str}, nodupB l = true → l.Nodup
  | [], _ => List.nodup_nil
  | x :: xs, h => by
    rw [nodupB, Bool.and_eq_true, Bool.not_eq_true'] at h
    refine List.nodup_cons.mpr ⟨fun z => ?_, nodupB_iff h.2⟩
    have := List.contains_iff_mem.mpr z
    rw [this] at h
    exact absurd h.1 (by decide)
def compOk (sc0 scope : Scope) (tn cap : List Str) : Bool :=
  decide (scope.kind = .function) && nodupB (scope.names.map (·.1)) && nodupB (tn ++ cap) && cap.all (fun y => decide (scope.names.lookup y = some .free)) &&
    scope.names.all fun y => !decide (y.2 = .free) || (decide (sc0.names.lookup y.1 = some .cell) || decide (sc0.names.lookup y.1 = some .free))
theorem CompScope.of {X : Cx} {sc0 scope : Scope} {tn cap : List Str} {idx : List Nat} (h : compOk sc0 scope tn cap = true) (e : X.env.scope = sc0) (ci : idx.map (fun i => X.N[i]?) = cap.map some) : CompScope X scope tn cap idx := by
  unfold compOk at h
  simp only [Bool.and_eq_true, decide_eq_true_eq, List.all_eq_true, Bool.or_eq_true, Bool.not_eq_true', decide_eq_false_iff_not] at h
  obtain ⟨⟨⟨⟨h1, h2⟩, h3⟩, h4⟩, h5⟩ := h
  refine ⟨h1, nodupB_iff h2, nodupB_iff h3, h4, ci, fun y hy hf => ?_⟩
  rw [e]
  rcases h5 y hy with z | z
  · exact absurd hf z
  · exact z
structure FnAt (K : PySem.W.Frag) (mg : Str → Option Value) (x : Str) (st : Stmt) (ps : List Str) (f : Addr) (fd : FuncData) : Prop where
  fn : Fun K x x st f fd
  mg : mg x = some (.ref f)
  bd : Binds K fd ps []
end L2
set_option Elab.async false
set_option linter.all false
set_option maxRecDepth 100000
set_option maxHeartbeats 4000000
namespace L2
open PySem PySem.Spec PyProof.Rows
theorem small {n : Nat} (h : n ≤ 100000) : n ≤ sizeLine := Nat.le_trans h (by rw [sizeLine_eq]; decide)
section
variable {X : Cx} {K : PySem.W.Frag}
theorem ix_listK (h : X.K = K) : IxR X (rIxL K) := by subst h; exact ix_list
theorem ix_tupK (h : X.K = K) : IxR X (rIxT K) := by subst h; exact ix_tup
theorem pi_listK {tg l : Expr} {tl : TE} (h : X.K = K) (hl : PE X l tl) : PI X tg l (iList K tl) := by subst h; exact pi_list hl
theorem pi_zipK {elts : List Expr} {x1 : Nat} {tp : Pos} {a b : Expr} {ta : TA} {p pos : Pos} (h : X.K = K) (hg : Gl X "zip") (hm : X.mg "zip" = none) (ha : PA X [a, b] ta) (hs : starEach [a, b] X.env = [(false, eval a X.env), (false, eval b X.env)] := by rfl) (hs2 : starEach [b] X.env = [(false, eval b X.env)] := by rfl) :
    PI X (.Tuple elts x1 tp) (.Call (.Name "zip" p) [a, b] [] pos) (iZip K ta) := by subst h; exact pi_zip hg hm ha hs hs2
theorem call_lenK (h : X.K = K) : CallR X (.builtin "len") (fun xs H Q => ∃ p ys, xs = [.ref p] ∧ (SqL K H p ys ∨ SqT K H p ys) ∧ Q (.int ys.length) H) := by subst h; exact call_len_seq
theorem call_isinstK (h : X.K = K) : CallR X (.builtin "isinstance") (fun xs H Q => ∃ x n t b, xs = [x, .ty n] ∧ TyOf K H x t ∧ PySem.W.kitOne K t (.type n) = some b ∧ Q (.bl b) H) := by subst h; exact call_isinst
theorem call_sumK (h : X.K = K) (hc : X.calm = true) : CallR X (.builtin "sum") (fun xs H Q => ∃ (a : Addr) (ns : List Int), xs = [.ref a] ∧ SqL K H a (ns.map V.int) ∧ Q (.int ns.sum) H) := by subst h; exact call_sum hc
theorem call_listK (h : X.K = K) : CallR X (.type "list") (fun xs H Q => ∃ p ys, xs = [.ref p] ∧ (SqL K H p ys ∨ SqT K H p ys) ∧ ∀ l, H l = none → Q (.ref l) (upd H l (.lst ys))) := by subst h; exact call_list_of
theorem sl_listK (h : X.K = K) : SlR X (rSlL K) := by subst h; exact sl_list
theorem pg_tupK {es : List Expr} {k : Nat} {t : TGs} {n : Nat} {pos : Pos} (h : X.K = K) (hc : X.calm = true) (ht : PGs X es t)
    (hn : (assignEach es X.env).length = n := by rfl) (hst : (assignEach es X.env).findIdx? (·.1) = none := by rfl) : PG X (.Tuple es k pos) (gTup K n t) := by subst h; exact pg_tup hc ht hn hst
end
theorem kit_same {K : PySem.W.Frag} {n : String} : PySem.W.kitOne K (.type n) (.type n) = some true := by unfold PySem.W.kitOne; rw [if_pos (beq_self_eq_true _)]
end L2
set_option Elab.async false
set_option linter.all false
set_option maxRecDepth 100000
set_option maxHeartbeats 4000000
namespace L2
open PySem PySem.Spec PyProof.Rows
section
variable {X : Cx} {x : Str} {p pos : Pos} {e : Expr} {es : List Expr} {kws : List Keyword} {t tk : TA} {id : String} {ks : List Str} {r : List V → List V → Hp → VK → Prop}
end
section
variable {X : Cx} {K : PySem.W.Frag}
theorem vals_of_ints : ∀ {us : List Value} {ns : List Int}, IntsAre us ns → Vals (ns.map V.int) us
  | _, _, .nil => .nil
  | _, _, .cons n t h => .cons ⟨t, rfl⟩ (vals_of_ints h)
end
section
variable {prog : Program} {w : World} {A : Around} {E : Value → Shared → Prop} {s : Shared}
end
section
variable {X : Cx} {K : PySem.W.Frag} {e : Expr} {te : TE} {p p2 pos pos2 : Pos}
end
end L2
namespace L2
open PySem PySem.Spec PyProof.Rows
end L2
set_option Elab.async false
set_option linter.all false
set_option maxRecDepth 100000
set_option maxHeartbeats 4000000
namespace L3
open PySem L2
inductive D where
  | non | bl (b : Bool) | int (i : Int) | str (x : Str) | lst (ds : List D) | tup (ds : List D) | dic (kvs : List (Key × V)) | dit (kvs : List (List Key × V)) | scr (ns : List Int) | pin (a : Addr) (d : D) | mem (φ : Int → List Int → Int → Prop) | raw (w : V) | ins (C : Addr) (ns : List Str) (ds : List D)
def Kc (K : PySem.W.Frag) (a : Addr) (xs : List V) : Prop :=
  ∃ (o : Obj) (its : Array Value) (n : Nat), K.lookup a = some o ∧ o.cls = .type "list" ∧ o.dict = none ∧ o.data = .seq its n ∧ its.size ≤ sizeLine ∧ Vals xs its.toList
def Sc (K : PySem.W.Frag) (H : Hp) (a : Addr) (xs : List V) : Prop := (∃ o, H a = some (.frz o (.lst xs))) ∨ Kc K a xs
theorem Sc.seq {K : PySem.W.Frag} {H : Hp} {a : Addr} {xs : List V} (h : Sc K H a xs) : SqL K H a xs := h.elim (fun ⟨o, h⟩ => .inl (.inr ⟨o, h⟩)) .inr
def Im (o : HO) : Prop := (∃ xs, o = .tup xs) ∨ (∃ o' u, o = .frz o' u) ∨ ∃ φ ks, o = .memo φ ks
section
variable {K : PySem.W.Frag}
mutual
def Rf (K : PySem.W.Frag) (H : Hp) : D → V → List Addr → Prop
  | .non, v, fp => v = .non ∧ fp = []
  | .bl b, v, fp => v = .bl b ∧ fp = []
  | .int i, v, fp => v = .int i ∧ fp = []
  | .str x, v, fp => v = .str x ∧ fp = []
  | .lst ds, v, fp => ∃ a xs fq, v = .ref a ∧ H a = some (.lst xs) ∧ fp = a :: fq ∧ Rfs K H ds xs fq
  | .tup ds, v, fp => ∃ a xs, v = .ref a ∧ H a = some (.tup xs) ∧ Rfs K H ds xs fp
  | .dic kvs, v, fp => ∃ a, v = .ref a ∧ H a = some (.dK kvs) ∧ (∀ p ∈ kvs, flatV p.2 = true) ∧ fp = [a]
  | .dit kvs, v, fp => ∃ a, v = .ref a ∧ H a = some (.dT kvs) ∧ (∀ p ∈ kvs, flatV p.2 = true) ∧ fp = [a]
  | .scr ns, v, fp => ∃ a, v = .ref a ∧ Sc K H a (ns.map V.int) ∧ fp = []
  | .pin a d, v, fp => v = .ref a ∧ Rf K H d v fp
  | .mem φ, v, fp => ∃ a, v = .ref a ∧ H a = some (.memo φ []) ∧ fp = []
  | .raw w, v, fp => v = w ∧ fp = []
  | .ins C ns ds, v, fp => ∃ a dx xs fq, v = .ref a ∧ H a = some (.ins C dx (ns.zip xs)) ∧ fp = a :: fq ∧ Rfs K H ds xs fq
def Rfs (K : PySem.W.Frag) (H : Hp) : List D → List V → List Addr → Prop
  | [], xs, fp => xs = [] ∧ fp = []
  | d :: ds, xs, fp => ∃ x r f1 f2, xs = x :: r ∧ fp = f1 ++ f2 ∧ Rf K H d x f1 ∧ Rfs K H ds r f2
end
def Rp (K : PySem.W.Frag) (H : Hp) (d : D) (v : V) : Prop := ∃ fp, Rf K H d v fp
def Rps (K : PySem.W.Frag) (H : Hp) (ds : List D) (vs : List V) : Prop := ∃ fp, Rfs K H ds vs fp
mutual
theorem Rf.mono {H H' : Hp} : ∀ {d : D} {v : V} {fp : List Addr}, Rf K H d v fp → (∀ a ∈ fp, ∀ o, H a = some o → H' a = some o) → (∀ a o, H a = some o → Im o → H' a = some o) → Rf K H' d v fp
  | .non, _, _, h, _, _ => h
  | .bl _, _, _, h, _, _ => h
  | .int _, _, _, h, _, _ => h
  | .str _, _, _, h, _, _ => h
  | .lst ds, v, fp, h, k, t => by
    obtain ⟨a, xs, fq, e1, e2, e3, h⟩ := h
    subst e3
    exact ⟨a, xs, fq, e1, k a List.mem_cons_self _ e2, rfl, Rfs.mono h (fun b hb => k b (List.mem_cons_of_mem _ hb)) t⟩
  | .tup ds, v, fp, h, k, t => by
    obtain ⟨a, xs, e1, e2, h⟩ := h
    exact ⟨a, xs, e1, t a _ e2 (.inl ⟨_, rfl⟩), Rfs.mono h k t⟩
  | .dic kvs, v, fp, h, k, t => by
    obtain ⟨a, e1, e2, e3, e4⟩ := h
    subst e4
    exact ⟨a, e1, k a List.mem_cons_self _ e2, e3, rfl⟩
  | .dit kvs, v, fp, h, k, t => by
    obtain ⟨a, e1, e2, e3, e4⟩ := h
    subst e4
    exact ⟨a, e1, k a List.mem_cons_self _ e2, e3, rfl⟩
  | .scr ns, v, fp, h, k, t => by
    obtain ⟨a, e1, e2, e3⟩ := h
    refine ⟨a, e1, ?_, e3⟩
    rcases e2 with ⟨o, e2⟩ | e2
    · exact .inl ⟨o, t a _ e2 (.inr (.inl ⟨_, _, rfl⟩))⟩
    · exact .inr e2
  | .pin a d, v, fp, h, k, t => ⟨h.1, Rf.mono h.2 k t⟩
  | .mem φ, v, fp, h, k, t => by
    obtain ⟨a, e1, e2, e3⟩ := h
    exact ⟨a, e1, t a _ e2 (.inr (.inr ⟨_, _, rfl⟩)), e3⟩
  | .raw _, _, _, h, _, _ => h
  | .ins C ns ds, v, fp, h, k, t => by
    obtain ⟨a, dx, xs, fq, e1, e2, e3, h⟩ := h
    subst e3
    exact ⟨a, dx, xs, fq, e1, k a List.mem_cons_self _ e2, rfl, Rfs.mono h (fun b hb => k b (List.mem_cons_of_mem _ hb)) t⟩
theorem Rfs.mono {H H' : Hp} : ∀ {ds : List D} {vs : List V} {fp : List Addr}, Rfs K H ds vs fp → (∀ a ∈ fp, ∀ o, H a = some o → H' a = some o) → (∀ a o, H a = some o → Im o → H' a = some o) → Rfs K H' ds vs fp
  | [], _, _, h, _, _ => h
  | d :: ds, vs, fp, h, k, t => by
    obtain ⟨x, r, f1, f2, e1, e2, h1, h2⟩ := h
    subst e2
    exact ⟨x, r, f1, f2, e1, rfl, Rf.mono h1 (fun b hb => k b (List.mem_append_left _ hb)) t, Rfs.mono h2 (fun b hb => k b (List.mem_append_right _ hb)) t⟩
end
theorem Rf.same {H H' : Hp} {d : D} {v : V} {fp : List Addr} (h : Rf K H d v fp) (s : Same H H') : Rf K H' d v fp := h.mono (fun a _ o e => s a o e) fun a o e _ => s a o e
theorem Rfs.same {H H' : Hp} {d : List D} {v : List V} {fp : List Addr} (h : Rfs K H d v fp) (s : Same H H') : Rfs K H' d v fp := h.mono (fun a _ o e => s a o e) fun a o e _ => s a o e
theorem Rp.same {H H' : Hp} {d : D} {v : V} (h : Rp K H d v) (s : Same H H') : Rp K H' d v := let ⟨fp, h⟩ := h; ⟨fp, h.same s⟩
theorem Rps.same {H H' : Hp} {d : List D} {v : List V} (h : Rps K H d v) (s : Same H H') : Rps K H' d v := let ⟨fp, h⟩ := h; ⟨fp, h.same s⟩
mutual
theorem Rf.dom {H : Hp} : ∀ {d : D} {v : V} {fp : List Addr}, Rf K H d v fp → ∀ a ∈ fp, ∃ o, H a = some o ∧ ¬ Im o
  | .non, _, _, h, a, ha => by obtain ⟨_, rfl⟩ := h; nomatch ha
  | .bl _, _, _, h, a, ha => by obtain ⟨_, rfl⟩ := h; nomatch ha
  | .int _, _, _, h, a, ha => by obtain ⟨_, rfl⟩ := h; nomatch ha
  | .str _, _, _, h, a, ha => by obtain ⟨_, rfl⟩ := h; nomatch ha
  | .lst ds, v, fp, h, b, hb => by
    obtain ⟨a, xs, fq, e1, e2, e3, h⟩ := h
    subst e3
    rcases List.mem_cons.mp hb with e | hb
    · subst e; exact ⟨_, e2, fun z => by rcases z with ⟨_, z⟩ | ⟨_, _, z⟩ | ⟨_, _, z⟩ <;> cases z⟩
    · exact Rfs.dom h b hb
  | .tup ds, v, fp, h, b, hb => by
    obtain ⟨a, xs, e1, e2, h⟩ := h
    exact Rfs.dom h b hb
  | .dic kvs, v, fp, h, b, hb => by
    obtain ⟨a, e1, e2, e3, e4⟩ := h
    subst e4
    cases List.mem_singleton.mp hb
    exact ⟨_, e2, fun z => by rcases z with ⟨_, z⟩ | ⟨_, _, z⟩ | ⟨_, _, z⟩ <;> cases z⟩
  | .dit kvs, v, fp, h, b, hb => by
    obtain ⟨a, e1, e2, e3, e4⟩ := h
    subst e4
    cases List.mem_singleton.mp hb
    exact ⟨_, e2, fun z => by rcases z with ⟨_, z⟩ | ⟨_, _, z⟩ | ⟨_, _, z⟩ <;> cases z⟩
  | .scr ns, v, fp, h, b, hb => by
    obtain ⟨a, e1, e2, e3⟩ := h
    subst e3; nomatch hb
  | .pin a d, v, fp, h, b, hb => Rf.dom h.2 b hb
  | .mem φ, v, fp, h, b, hb => by
    obtain ⟨a, e1, e2, e3⟩ := h
    subst e3; nomatch hb
  | .raw _, _, _, h, a, ha => by obtain ⟨_, rfl⟩ := h; nomatch ha
  | .ins C ns ds, v, fp, h, b, hb => by
    obtain ⟨a, dx, xs, fq, e1, e2, e3, h⟩ := h
    subst e3
    rcases List.mem_cons.mp hb with e | hb
    · subst e; exact ⟨_, e2, fun z => by rcases z with ⟨_, z⟩ | ⟨_, _, z⟩ | ⟨_, _, z⟩ <;> cases z⟩
    · exact Rfs.dom h b hb
theorem Rfs.dom {H : Hp} : ∀ {ds : List D} {vs : List V} {fp : List Addr}, Rfs K H ds vs fp → ∀ a ∈ fp, ∃ o, H a = some o ∧ ¬ Im o
  | [], _, _, h, a, ha => by obtain ⟨_, rfl⟩ := h; nomatch ha
  | d :: ds, vs, fp, h, b, hb => by
    obtain ⟨x, r, f1, f2, e1, e2, h1, h2⟩ := h
    subst e2
    rcases List.mem_append.mp hb with hb | hb
    · exact Rf.dom h1 b hb
    · exact Rfs.dom h2 b hb
end
theorem Rf.upd {H : Hp} {d : D} {v : V} {fp : List Addr} {l : Addr} {o : HO} (h : Rf K H d v fp) (hl : l ∉ fp) (hm : ∀ o, H l = some o → ¬ Im o) : Rf K (upd H l o) d v fp :=
  h.mono (fun a ha u e => by rw [upd_ne (fun z => hl (by rw [← z]; exact ha))]; exact e) fun a o e i => by rw [upd_ne (fun z => hm o (by rw [← z]; exact e) i)]; exact e
theorem Rfs.upd {H : Hp} {d : List D} {v : List V} {fp : List Addr} {l : Addr} {o : HO} (h : Rfs K H d v fp) (hl : l ∉ fp) (hm : ∀ o, H l = some o → ¬ Im o) : Rfs K (upd H l o) d v fp :=
  h.mono (fun a ha u e => by rw [upd_ne (fun z => hl (by rw [← z]; exact ha))]; exact e) fun a o e i => by rw [upd_ne (fun z => hm o (by rw [← z]; exact e) i)]; exact e
theorem Rfs.length {H : Hp} : ∀ {ds : List D} {vs : List V} {fp : List Addr}, Rfs K H ds vs fp → vs.length = ds.length
  | [], _, _, h => by obtain ⟨rfl, _⟩ := h; rfl
  | d :: ds, vs, fp, h => by
    obtain ⟨x, r, f1, f2, e1, e2, h1, h2⟩ := h
    subst e1
    rw [List.length_cons, List.length_cons, Rfs.length h2]
theorem Rfs.append {H : Hp} : ∀ {ds es : List D} {vs ws : List V} {fp fq : List Addr}, Rfs K H ds vs fp → Rfs K H es ws fq → Rfs K H (ds ++ es) (vs ++ ws) (fp ++ fq)
  | [], es, vs, ws, fp, fq, h, h' => by obtain ⟨rfl, rfl⟩ := h; exact h'
  | d :: ds, es, vs, ws, fp, fq, h, h' => by
    obtain ⟨x, r, f1, f2, rfl, rfl, h1, h2⟩ := h
    exact ⟨x, r ++ ws, f1, f2 ++ fq, rfl, List.append_assoc .., h1, Rfs.append h2 h'⟩
theorem Rfs.one {H : Hp} {d : D} {v : V} {fp : List Addr} (h : Rf K H d v fp) : Rfs K H [d] [v] fp := ⟨v, [], fp, [], rfl, (List.append_nil _).symm, h, rfl, rfl⟩
theorem Rfs.get {H : Hp} : ∀ {ds : List D} {vs : List V} {fp : List Addr} {i : Nat} {d : D}, Rfs K H ds vs fp → ds[i]? = some d → ∃ v f, vs[i]? = some v ∧ Rf K H d v f ∧ (∀ a ∈ f, a ∈ fp)
  | [], _, _, _, _, _, e => by simp at e
  | d :: ds, vs, fp, 0, d', h, e => by
    obtain ⟨x, r, f1, f2, rfl, rfl, h1, h2⟩ := h
    simp at e; subst e
    exact ⟨x, f1, rfl, h1, fun a ha => List.mem_append_left _ ha⟩
  | d :: ds, vs, fp, i + 1, d', h, e => by
    obtain ⟨x, r, f1, f2, rfl, rfl, h1, h2⟩ := h
    obtain ⟨v, f, e1, h3, k⟩ := Rfs.get (i := i) h2 (by simpa using e)
    exact ⟨v, f, by simpa using e1, h3, fun a ha => List.mem_append_right _ (k a ha)⟩
theorem Rfs.get' {H : Hp} {ds : List D} {vs : List V} {fp : List Addr} {i : Nat} {v : V} (h : Rfs K H ds vs fp) (e : vs[i]? = some v) : ∃ d f, ds[i]? = some d ∧ Rf K H d v f ∧ (∀ a ∈ f, a ∈ fp) := by
  have hl := h.length
  obtain ⟨hi, _⟩ := List.getElem?_eq_some_iff.mp e
  have hi' : i < ds.length := by omega
  obtain ⟨v', f, e1, h1, k⟩ := h.get (d := ds[i]) (List.getElem?_eq_getElem hi')
  rw [e] at e1; cases e1
  exact ⟨ds[i], f, List.getElem?_eq_getElem hi', h1, k⟩
def D.scal : D → Bool
  | .non => true | .bl _ => true | .int _ => true | .str _ => true | _ => false
def D.toV : D → V
  | .non => .non | .bl b => .bl b | .int i => .int i | .str x => .str x | _ => .non
theorem Rf.scal {H : Hp} {d : D} {v : V} {fp : List Addr} (h : Rf K H d v fp) (s : d.scal = true) : v = d.toV ∧ fp = [] := by
  cases d <;> first | exact h | cases s
theorem Rf.ofScal {H : Hp} {d : D} (s : d.scal = true) : Rf K H d d.toV [] := by
  cases d <;> first | exact ⟨rfl, rfl⟩ | cases s
theorem Rp.int {H : Hp} {i : Int} {v : V} (h : Rp K H (.int i) v) : v = .int i := h.choose_spec.1
theorem Rp.bl {H : Hp} {i : Bool} {v : V} (h : Rp K H (.bl i) v) : v = .bl i := h.choose_spec.1
theorem Rfs.scals {H : Hp} : ∀ {ds : List D} {vs : List V} {fp : List Addr}, Rfs K H ds vs fp → ds.all D.scal = true → vs = ds.map D.toV ∧ fp = []
  | [], vs, fp, h, _ => h
  | d :: ds, vs, fp, h, s => by
    obtain ⟨x, r, f1, f2, rfl, rfl, h1, h2⟩ := h
    simp only [List.all_cons, Bool.and_eq_true] at s
    obtain ⟨rfl, rfl⟩ := h1.scal s.1
    obtain ⟨rfl, rfl⟩ := Rfs.scals h2 s.2
    exact ⟨rfl, rfl⟩
theorem Rfs.ofScals {H : Hp} : ∀ {ds : List D}, ds.all D.scal = true → Rfs K H ds (ds.map D.toV) []
  | [], _ => ⟨rfl, rfl⟩
  | d :: ds, s => by
    simp only [List.all_cons, Bool.and_eq_true] at s
    exact ⟨_, _, [], [], rfl, rfl, Rf.ofScal s.1, Rfs.ofScals s.2⟩
def D.items : D → Option (List D)
  | .lst ds => some ds | .scr ns => some (ns.map D.int) | _ => none
theorem Rfs.ofInts {H : Hp} : ∀ {ns : List Int}, Rfs K H (ns.map D.int) (ns.map V.int) []
  | [] => ⟨rfl, rfl⟩
  | n :: ns => ⟨_, _, [], [], rfl, rfl, ⟨rfl, rfl⟩, Rfs.ofInts⟩
theorem Rf.seq {H : Hp} {d : D} {ds : List D} {v : V} {fp : List Addr} (h : Rf K H d v fp) (e : d.items = some ds) : ∃ a xs fq, v = .ref a ∧ SqL K H a xs ∧ Rfs K H ds xs fq ∧ ∀ b ∈ fq, b ∈ fp := by
  cases d with
  | lst es =>
    cases e
    obtain ⟨a, xs, fq, e1, e2, rfl, h⟩ := h
    exact ⟨a, xs, fq, e1, .inl (.inl e2), h, fun b hb => List.mem_cons_of_mem _ hb⟩
  | scr ns =>
    cases e
    obtain ⟨a, e1, e2, e3⟩ := h
    exact ⟨a, _, [], e1, e2.seq, Rfs.ofInts, fun b hb => nomatch hb⟩
  | _ => cases e
theorem Rp.seq {H : Hp} {d : D} {ds : List D} {v : V} (h : Rp K H d v) (e : d.items = some ds) : ∃ a xs fq, v = .ref a ∧ SqL K H a xs ∧ Rfs K H ds xs fq :=
  let ⟨_, h⟩ := h; let ⟨a, xs, fq, h1, h2, h3, _⟩ := h.seq e; ⟨a, xs, fq, h1, h2, h3⟩
theorem Rp.tup {H : Hp} {ds : List D} {v : V} (h : Rp K H (.tup ds) v) : ∃ a xs fq, v = .ref a ∧ SqT K H a xs ∧ Rfs K H ds xs fq := by
  obtain ⟨fp, a, xs, e1, e2, h⟩ := h
  exact ⟨a, xs, fp, e1, .inl (.inl e2), h⟩
def Mu (H : Hp) (a : Addr) : Prop := (∃ xs, H a = some (.lst xs)) ∨ (∃ kvs, H a = some (.dK kvs)) ∨ (∃ kvs, H a = some (.dT kvs)) ∨ ∃ C dx fs, H a = some (.ins C dx fs)
theorem Mu.same {H H' : Hp} {a : Addr} (h : Mu H a) (s : Same H H') : Mu H' a := by
  rcases h with ⟨x, h⟩ | ⟨x, h⟩ | ⟨x, h⟩ | ⟨C, dx, fs, h⟩
  · exact .inl ⟨x, s _ _ h⟩
  · exact .inr (.inl ⟨x, s _ _ h⟩)
  · exact .inr (.inr (.inl ⟨x, s _ _ h⟩))
  · exact .inr (.inr (.inr ⟨C, dx, fs, s _ _ h⟩))
theorem Mu.some {H : Hp} {a : Addr} (h : Mu H a) : H a ≠ none := by
  rcases h with ⟨x, h⟩ | ⟨x, h⟩ | ⟨x, h⟩ | ⟨C, dx, fs, h⟩ <;> rw [h] <;> intro z <;> cases z
theorem Mu.notup {H : Hp} {a : Addr} (h : Mu H a) : ∀ o, H a = Option.some o → ¬ Im o := by
  rcases h with ⟨x, h⟩ | ⟨x, h⟩ | ⟨x, h⟩ | ⟨C, dx, fs, h⟩ <;> rw [h] <;> intro o e z <;> cases e <;> rcases z with ⟨_, z⟩ | ⟨_, _, z⟩ | ⟨_, _, z⟩ <;> cases z
theorem Mu.upd {H : Hp} {a l : Addr} {o : HO} (h : Mu H a) (ho : (∃ xs, o = .lst xs) ∨ (∃ xs, o = .dK xs) ∨ (∃ xs, o = .dT xs) ∨ ∃ C dx fs, o = .ins C dx fs) : Mu (upd H l o) a := by
  by_cases e : a = l
  · subst e
    rcases ho with ⟨xs, rfl⟩ | ⟨xs, rfl⟩ | ⟨xs, rfl⟩ | ⟨C, dx, fs, rfl⟩
    · exact .inl ⟨xs, upd_same⟩
    · exact .inr (.inl ⟨xs, upd_same⟩)
    · exact .inr (.inr (.inl ⟨xs, upd_same⟩))
    · exact .inr (.inr (.inr ⟨C, dx, fs, upd_same⟩))
  · unfold Mu
    rw [upd_ne e]
    exact h
abbrev Dl := List (Option D)
structure Ok (K : PySem.W.Frag) (B0 : Hp) (Γ : List Nat) (fps : Nat → List Addr) (δ : Dl) (σ : St) (H : Hp) : Prop where
  len : σ.length = δ.length
  b0 : Same B0 H
  val : ∀ i d, δ[i]? = some (some d) → ∃ v, σ[i]? = some (some v) ∧ Rf K H d v (fps i)
  non : ∀ i, (∀ d, δ[i]? ≠ some (some d)) → fps i = []
  own : ∀ i ∈ Γ, (fps i).Nodup ∧ ∀ a ∈ fps i, B0 a = none ∧ Mu H a
  dj : ∀ i ∈ Γ, ∀ j, j ≠ i → ∀ a ∈ fps i, a ∉ fps j
variable {B0 : Hp} {Γ : List Nat} {fps : Nat → List Addr} {δ : Dl} {σ : St} {H H' : Hp}
theorem Ok.same (o : Ok K B0 Γ fps δ σ H) (s : Same H H') : Ok K B0 Γ fps δ σ H' :=
  ⟨o.len, o.b0.trans s, fun i d e => let ⟨v, h1, h2⟩ := o.val i d e; ⟨v, h1, h2.same s⟩, o.non, fun i hi => ⟨(o.own i hi).1, fun a ha => ⟨((o.own i hi).2 a ha).1, ((o.own i hi).2 a ha).2.same s⟩⟩, o.dj⟩
theorem Ok.sub {Γ' : List Nat} (o : Ok K B0 Γ fps δ σ H) (h : ∀ i ∈ Γ', i ∈ Γ) : Ok K B0 Γ' fps δ σ H :=
  ⟨o.len, o.b0, o.val, o.non, fun i hi => o.own i (h i hi), fun i hi => o.dj i (h i hi)⟩
theorem Ok.dom (o : Ok K B0 Γ fps δ σ H) {i : Nat} {a : Addr} (h : a ∈ fps i) : H a ≠ none := by
  by_cases e : ∃ d, δ[i]? = some (some d)
  · obtain ⟨d, e⟩ := e
    obtain ⟨v, _, r⟩ := o.val i d e
    obtain ⟨u, hu, _⟩ := r.dom a h
    rw [hu]; intro z; cases z
  · rw [o.non i (fun d z => e ⟨d, z⟩)] at h
    nomatch h
structure Nw (H H' : Hp) (fps : Nat → List Addr) (M : List Nat) (fp : List Addr) : Prop where
  nd : fp.Nodup
  mu : ∀ a ∈ fp, Mu H' a
  src : ∀ a ∈ fp, H a = none ∨ ∃ j ∈ M, a ∈ fps j
theorem Nw.nil {M : List Nat} : Nw H H' fps M [] := ⟨List.nodup_nil, fun _ h => (nomatch h), fun _ h => (nomatch h)⟩
theorem Nw.later {H1 : Hp} {M : List Nat} {fp : List Addr} (n : Nw H1 H' fps M fp) (s : Same H H1) : Nw H H' fps M fp :=
  ⟨n.nd, n.mu, fun a ha => (n.src a ha).elim (fun z => .inl (s.free z)) .inr⟩
theorem Nw.same {H1 : Hp} {M : List Nat} {fp : List Addr} (n : Nw H H' fps M fp) (s : Same H' H1) : Nw H H1 fps M fp := ⟨n.nd, fun a ha => (n.mu a ha).same s, n.src⟩
theorem Nw.any {fps' : Nat → List Addr} {fp : List Addr} (n : Nw H H' fps [] fp) : Nw H H' fps' [] fp := ⟨n.nd, n.mu, fun a ha => (n.src a ha).elim .inl fun ⟨_, h, _⟩ => nomatch h⟩
theorem Nw.fresh {fp : List Addr} (n : Nw H H' fps [] fp) : ∀ a ∈ fp, H a = none := fun a ha => (n.src a ha).elim id fun ⟨_, h, _⟩ => nomatch h
def kill (M : List Nat) (δ : Dl) : Dl := M.foldl (fun δ j => δ.set j none) δ
theorem kill_length : ∀ {M : List Nat} {δ : Dl}, (kill M δ).length = δ.length
  | [], _ => rfl
  | j :: M, δ => by rw [kill, List.foldl_cons]; exact (kill_length (M := M)).trans (by simp)
theorem kill_get : ∀ {M : List Nat} {δ : Dl} {i : Nat} {d : D}, (kill M δ)[i]? = some (some d) ↔ i ∉ M ∧ δ[i]? = some (some d)
  | [], _, _, _ => by simp [kill]
  | j :: M, δ, i, d => by
    rw [kill, List.foldl_cons]
    have := kill_get (M := M) (δ := δ.set j none) (i := i) (d := d)
    rw [kill] at this
    rw [this, List.mem_cons]
    by_cases e : i = j
    · subst e
      simp [List.getElem?_set]
    · rw [List.getElem?_set_ne (Ne.symm e)]
      simp [e]
def minus (Γ M : List Nat) : List Nat := Γ.filter fun i => !M.contains i
theorem mem_minus {Γ M : List Nat} {i : Nat} : i ∈ minus Γ M ↔ i ∈ Γ ∧ i ∉ M := by
  unfold minus
  rw [List.mem_filter]
  simp
theorem Ok.kill (o : Ok K B0 Γ fps δ σ H) (M : List Nat) : Ok K B0 (minus Γ M) (fun i => if i ∈ M then [] else fps i) (kill M δ) σ H := by
  refine ⟨by rw [kill_length]; exact o.len, o.b0, fun i d e => ?_, fun i e => ?_, fun i hi => ?_, fun i hi j hj a ha => ?_⟩
  · obtain ⟨h1, h2⟩ := kill_get.mp e
    rw [if_neg h1]
    exact o.val i d h2
  · by_cases h : i ∈ M
    · rw [if_pos h]
    · rw [if_neg h]
      exact o.non i fun d z => e d (kill_get.mpr ⟨h, z⟩)
  · obtain ⟨h1, h2⟩ := mem_minus.mp hi
    rw [if_neg h2]
    exact o.own i h1
  · obtain ⟨h1, h2⟩ := mem_minus.mp hi
    rw [if_neg h2] at ha
    by_cases h : j ∈ M
    · rw [if_pos h]; exact List.not_mem_nil
    · rw [if_neg h]; exact o.dj i h1 j hj a ha
theorem Ok.setMv {M : List Nat} {x : D} {v : V} {fp : List Addr} (o : Ok K B0 Γ fps δ σ H) (i : Nat) (hM : ∀ j ∈ M, j ∈ Γ) (s : Same H H') (r : Rf K H' x v fp) (n : Nw H H' fps M fp) :
    Ok K B0 (i :: minus (minus Γ M) [i]) (fun j => if j = i then (if i < δ.length then fp else []) else if j ∈ M then [] else fps j) ((L3.kill M δ).set i (some x)) (σ.set i (some v)) H' := by
  have ok := (o.kill M).same s
  have sep : ∀ a ∈ fp, ∀ j, j ∉ M → a ∉ fps j := fun a ha j hj z => by
    rcases n.src a ha with e | ⟨k, hk, e⟩
    · exact o.dom z e
    · exact o.dj k (hM k hk) j (fun q => hj (by rw [q]; exact hk)) a e z
  refine ⟨by simp [kill_length, o.len], ok.b0, fun j d e => ?_, fun j e => ?_, fun j hj => ?_, fun j hj k hk a ha => ?_⟩
  · by_cases h : j = i
    · subst h
      rw [List.getElem?_set] at e
      simp only [kill_length] at e
      by_cases hl : j < δ.length
      · simp [hl] at e
        subst e
        refine ⟨v, ?_, ?_⟩
        · rw [List.getElem?_set]; simp [o.len, hl]
        · rw [if_pos rfl, if_pos hl]; exact r
      · simp [hl] at e
    · rw [List.getElem?_set_ne (Ne.symm h)] at e
      rw [List.getElem?_set_ne (Ne.symm h), if_neg h]
      exact ok.val j d e
  · by_cases h : j = i
    · subst h
      rw [if_pos rfl]
      by_cases hl : j < δ.length
      · exact absurd (by rw [List.getElem?_set]; simp [kill_length, hl]) (e x)
      · rw [if_neg hl]
    · rw [if_neg h]
      exact ok.non j fun d z => e d (by rw [List.getElem?_set_ne (Ne.symm h)]; exact z)
  · by_cases h : j = i
    · subst h
      rw [if_pos rfl]
      split
      · refine ⟨n.nd, fun a ha => ⟨?_, n.mu a ha⟩⟩
        rcases n.src a ha with e | ⟨k, hk, e⟩
        · exact o.b0.free e
        · exact ((o.own k (hM k hk)).2 a e).1
      · exact ⟨List.nodup_nil, fun _ z => nomatch z⟩
    · rw [if_neg h]
      rcases List.mem_cons.mp hj with z | hj
      · exact absurd z h
      · exact ok.own j (mem_minus.mp hj).1
  · by_cases h : j = i
    · subst h
      rw [if_pos rfl] at ha
      rw [if_neg hk]
      split at ha
      · by_cases hm : k ∈ M
        · rw [if_pos hm]; exact List.not_mem_nil
        · rw [if_neg hm]; exact sep a ha k hm
      · nomatch ha
    · rcases List.mem_cons.mp hj with z | hj
      · exact absurd z h
      rw [if_neg h] at ha
      have hj' := mem_minus.mp (mem_minus.mp hj).1
      rw [if_neg hj'.2] at ha
      by_cases hki : k = i
      · rw [if_pos hki]
        split
        · exact fun z => sep a z j hj'.2 ha
        · exact List.not_mem_nil
      · rw [if_neg hki]
        split
        · exact List.not_mem_nil
        · exact o.dj j hj'.1 k hk a ha
theorem Ok.setSh {x : D} {v : V} {fp : List Addr} (o : Ok K B0 Γ fps δ σ H) (i : Nat) (s : Same H H') (r : Rf K H' x v fp) (n : ∀ j ∈ Γ, ∀ a ∈ fp, a ∉ fps j) :
    Ok K B0 (minus Γ [i]) (fun j => if j = i then (if i < δ.length then fp else []) else fps j) (δ.set i (some x)) (σ.set i (some v)) H' := by
  have ok := o.same s
  refine ⟨by simp [o.len], ok.b0, fun j d e => ?_, fun j e => ?_, fun j hj => ?_, fun j hj k hk a ha => ?_⟩
  · by_cases h : j = i
    · subst h
      rw [List.getElem?_set] at e
      by_cases hl : j < δ.length
      · simp [hl] at e
        subst e
        refine ⟨v, ?_, ?_⟩
        · rw [List.getElem?_set]; simp [o.len, hl]
        · rw [if_pos rfl, if_pos hl]; exact r
      · simp [hl] at e
    · rw [List.getElem?_set_ne (Ne.symm h)] at e
      rw [List.getElem?_set_ne (Ne.symm h), if_neg h]
      exact ok.val j d e
  · by_cases h : j = i
    · subst h
      rw [if_pos rfl]
      by_cases hl : j < δ.length
      · exact absurd (by rw [List.getElem?_set]; simp [hl]) (e x)
      · rw [if_neg hl]
    · rw [if_neg h]
      exact ok.non j fun d z => e d (by rw [List.getElem?_set_ne (Ne.symm h)]; exact z)
  · obtain ⟨h1, h2⟩ := mem_minus.mp hj
    rw [if_neg (fun z => h2 (by rw [z]; exact List.mem_singleton.mpr rfl))]
    exact ok.own j h1
  · obtain ⟨h1, h2⟩ := mem_minus.mp hj
    rw [if_neg (fun z => h2 (by rw [z]; exact List.mem_singleton.mpr rfl))] at ha
    by_cases hki : k = i
    · rw [if_pos hki]
      split
      · exact fun z => n j h1 a z ha
      · exact List.not_mem_nil
    · rw [if_neg hki]
      exact o.dj j h1 k hk a ha
theorem Ok.rebase (o : Ok K B0 Γ fps δ σ H) : ∃ B1, Same B0 B1 ∧ Ok K B1 Γ fps δ σ H ∧ (∀ a, (∀ j ∈ Γ, a ∉ fps j) → B1 a = H a) := by
  refine ⟨fun a => if (∃ j ∈ Γ, a ∈ fps j) then none else H a, fun b u e => ?_, ⟨o.len, fun b u e => ?_, o.val, o.non, fun i hi => ⟨(o.own i hi).1, fun a ha => ⟨?_, ((o.own i hi).2 a ha).2⟩⟩, o.dj⟩, fun a h => ?_⟩
  · have : ¬ ∃ j ∈ Γ, b ∈ fps j := fun ⟨j, hj, hb⟩ => by
      have := ((o.own j hj).2 b hb).1
      rw [e] at this; cases this
    show (if _ then _ else _) = _
    rw [if_neg this]
    exact o.b0 b u e
  · by_cases z : ∃ j ∈ Γ, b ∈ fps j
    · simp only [if_pos z] at e; cases e
    · simp only [if_neg z] at e; exact e
  · show (if _ then _ else _) = _
    rw [if_pos ⟨i, hi, ha⟩]
  · show (if _ then _ else _) = _
    rw [if_neg (fun ⟨j, hj, z⟩ => h j hj z)]
theorem Ok.base {B1 : Hp} (o : Ok K B1 Γ fps δ σ H) (s : Same B0 B1) : Ok K B0 Γ fps δ σ H :=
  ⟨o.len, s.trans o.b0, o.val, o.non, fun i hi => ⟨(o.own i hi).1, fun a ha => ⟨s.free ((o.own i hi).2 a ha).1, ((o.own i hi).2 a ha).2⟩⟩, o.dj⟩
end
end L3
set_option Elab.async false
set_option linter.all false
set_option maxRecDepth 100000
set_option maxHeartbeats 4000000
namespace L3
open PySem L2
abbrev DK := D → Prop
abbrev DE := Dl → DK → Prop
abbrev DT := Dl → (Bool → Prop) → Prop
abbrev DA := Dl → (List D → Prop) → Prop
structure ER (K : PySem.W.Frag) (Γ : List Nat) (t : TE) (d : DE) : Prop where
  mono : ∀ δ (P P' : DK), (∀ x, P x → P' x) → d δ P → d δ P'
  run : ∀ {B0 fps δ σ H Q}, Ok K B0 Γ fps δ σ H → d δ (fun x => ∀ v H', Same H H' → Rp K H' x v → Q v H') → t σ H Q
structure ES (K : PySem.W.Frag) (Γ : List Nat) (t : TE) (d : DE) : Prop where
  mono : ∀ δ (P P' : DK), (∀ x, P x → P' x) → d δ P → d δ P'
  run : ∀ {B0 fps δ σ H Q}, Ok K B0 Γ fps δ σ H → d δ (fun x => ∀ v H' fp, Same H H' → Rf K H' x v fp → (∀ j ∈ Γ, ∀ a ∈ fp, a ∉ fps j) → Q v H') → t σ H Q
structure EM (K : PySem.W.Frag) (Γ M : List Nat) (t : TE) (d : DE) : Prop where
  mono : ∀ δ (P P' : DK), (∀ x, P x → P' x) → d δ P → d δ P'
  run : ∀ {B0 fps δ σ H Q}, Ok K B0 Γ fps δ σ H → d δ (fun x => ∀ v H' fp, Same H H' → Rf K H' x v fp → Nw H H' fps M fp → Q v H') → t σ H Q
structure TR (K : PySem.W.Frag) (Γ : List Nat) (t : TT) (d : DT) : Prop where
  mono : ∀ δ (P P' : Bool → Prop), (∀ x, P x → P' x) → d δ P → d δ P'
  run : ∀ {B0 fps δ σ H Q}, Ok K B0 Γ fps δ σ H → d δ (fun b => ∀ H', Same H H' → Q b H') → t σ H Q
structure AR (K : PySem.W.Frag) (Γ : List Nat) (t : TA) (d : DA) : Prop where
  mono : ∀ δ (P P' : List D → Prop), (∀ x, P x → P' x) → d δ P → d δ P'
  run : ∀ {B0 fps δ σ H Q}, Ok K B0 Γ fps δ σ H → d δ (fun xs => ∀ vs H', Same H H' → Rps K H' xs vs → Q vs H') → t σ H Q
structure AM (K : PySem.W.Frag) (Γ M : List Nat) (t : TA) (d : DA) : Prop where
  mono : ∀ δ (P P' : List D → Prop), (∀ x, P x → P' x) → d δ P → d δ P'
  run : ∀ {B0 fps δ σ H Q}, Ok K B0 Γ fps δ σ H → d δ (fun xs => ∀ vs H' fp, Same H H' → Rfs K H' xs vs fp → Nw H H' fps M fp → Q vs H') → t σ H Q
section
variable {K : PySem.W.Frag} {Γ M : List Nat} {t ta tb tc : TE} {d da db dc : DE}
theorem EM.es (h : EM K Γ [] t d) : ES K Γ t d := ⟨h.mono, fun o q => h.run o (h.mono _ _ _ (fun x z v H' fp s r n => z v H' fp s r fun j _ a ha y => o.dom y (n.fresh a ha)) q)⟩
theorem ES.er (h : ES K Γ t d) : ER K Γ t d := ⟨h.mono, fun o q => h.run o (h.mono _ _ _ (fun x z v H' fp s r n => z v H' s ⟨fp, r⟩) q)⟩
theorem EM.er (h : EM K Γ M t d) : ER K Γ t d := ⟨h.mono, fun o q => h.run o (h.mono _ _ _ (fun x z v H' fp s r n => z v H' s ⟨fp, r⟩) q)⟩
def vScal (d : DE) (δ : Dl) (P : DK) : Prop := d δ fun x => x.scal = true ∧ P x
theorem ER.scal (h : ER K Γ t d) : EM K Γ [] t (vScal d) := ⟨fun δ P P' k q => h.mono _ _ _ (fun x z => ⟨z.1, k x z.2⟩) q, fun o q => h.run o (h.mono _ _ _ (fun x z v H' s r => by
  obtain ⟨fp, r⟩ := r
  obtain ⟨_, rfl⟩ := r.scal z.1
  exact z.2 v H' [] s r Nw.nil) q)⟩
def vVar (i : Nat) (δ : Dl) (P : DK) : Prop := match δ[i]? with | some (some d) => P d | _ => False
theorem vVar_out {i : Nat} {δ : Dl} {P : DK} (h : vVar i δ P) : ∃ d, δ[i]? = some (some d) ∧ P d := by
  unfold vVar at h
  split at h
  · exact ⟨_, by assumption, h⟩
  · exact h.elim
theorem vVar_mono {i : Nat} : ∀ δ (P P' : DK), (∀ x, P x → P' x) → vVar i δ P → vVar i δ P' := fun δ P P' k h => by
  unfold vVar at h ⊢
  split
  · rename_i e; rw [e] at h; exact k _ h
  · rename_i e; revert h; split
    · rename_i e'; exact absurd e' (e _)
    · exact id
theorem er_var (i : Nat) : ER K Γ (tVar i) (vVar i) := ⟨vVar_mono, fun {B0 fps δ σ H Q} o q => by
  obtain ⟨d, e, q⟩ := vVar_out q
  obtain ⟨v, e1, r⟩ := o.val i d e
  exact ⟨v, e1, q v H (Same.refl H) ⟨_, r⟩⟩⟩
theorem es_var (i : Nat) (h : i ∉ Γ := by decide) : ES K Γ (tVar i) (vVar i) := ⟨vVar_mono, fun {B0 fps δ σ H Q} o q => by
  obtain ⟨d, e, q⟩ := vVar_out q
  obtain ⟨v, e1, r⟩ := o.val i d e
  exact ⟨v, e1, q v H _ (Same.refl H) r fun j hj a ha z => o.dj j hj i (fun y => h (by rw [y]; exact hj)) a z ha⟩⟩
theorem em_var (i : Nat) (h : i ∈ Γ := by decide) : EM K Γ [i] (tVar i) (vVar i) := ⟨vVar_mono, fun {B0 fps δ σ H Q} o q => by
  obtain ⟨d, e, q⟩ := vVar_out q
  obtain ⟨v, e1, r⟩ := o.val i d e
  exact ⟨v, e1, q v H _ (Same.refl H) r ⟨(o.own i h).1, fun a ha => ((o.own i h).2 a ha).2, fun a ha => .inr ⟨i, List.mem_singleton.mpr rfl, ha⟩⟩⟩⟩
def vC (d : D) (_u0 : Dl) (P : DK) : Prop := P d
theorem em_int {i : Int} : EM K Γ [] (tC (.int i)) (vC (.int i)) := ⟨fun _ _ _ k h => k _ h, fun {_ _ _ _ H _} _ q => q _ H [] (Same.refl H) ⟨rfl, rfl⟩ Nw.nil⟩
theorem em_bl {i : Bool} : EM K Γ [] (tC (.bl i)) (vC (.bl i)) := ⟨fun _ _ _ k h => k _ h, fun {_ _ _ _ H _} _ q => q _ H [] (Same.refl H) ⟨rfl, rfl⟩ Nw.nil⟩
theorem em_str {i : Str} : EM K Γ [] (tC (.str i)) (vC (.str i)) := ⟨fun _ _ _ k h => k _ h, fun {_ _ _ _ H _} _ q => q _ H [] (Same.refl H) ⟨rfl, rfl⟩ Nw.nil⟩
abbrev D2 := D → D → DK → Prop
abbrev nf : Nat → List Addr := fun _ => []
structure OpV (K : PySem.W.Frag) (r : R2) (rv : D2) : Prop where
  mono : ∀ x y (P P' : DK), (∀ z, P z → P' z) → rv x y P → rv x y P'
  run : ∀ {H x y v w Q}, Rp K H x v → Rp K H y w → rv x y (fun z => ∀ u H' fp, Same H H' → Rf K H' z u fp → Nw H H' nf [] fp → Q u H') → r v w H Q
def vOp (rv : D2) (da db : DE) (δ : Dl) (P : DK) : Prop := da δ fun x => db δ fun y => rv x y P
theorem em_op {r : R2} {rv : D2} (ho : OpV K r rv) (ha : ER K Γ ta da) (hb : ER K Γ tb db) : EM K Γ [] (tOp r ta tb) (vOp rv da db) :=
  ⟨fun δ P P' k h => ha.mono _ _ _ (fun x z => hb.mono _ _ _ (fun y z => ho.mono x y _ _ k z) z) h,
   fun o q => ha.run o (ha.mono _ _ _ (fun x z v H1 s1 r1 => hb.run (o.same s1) (hb.mono _ _ _ (fun y z w H2 s2 r2 => ho.run (r1.same s2) r2 (ho.mono _ _ _ _ (fun u z u' H' fp s r n => z u' H' fp ((s1.trans s2).trans s) r (n.any.later (s1.trans s2))) z)) z)) q)⟩
abbrev D1 := D → DK → Prop
structure UnV (K : PySem.W.Frag) (r : V → Hp → VK → Prop) (rv : D1) : Prop where
  mono : ∀ x (P P' : DK), (∀ z, P z → P' z) → rv x P → rv x P'
  run : ∀ {H x v Q}, Rp K H x v → rv x (fun z => ∀ u H' fp, Same H H' → Rf K H' z u fp → Nw H H' nf [] fp → Q u H') → r v H Q
def vUn (rv : D1) (da : DE) (δ : Dl) (P : DK) : Prop := da δ fun x => rv x P
theorem em_un {r : V → Hp → VK → Prop} {rv : D1} (ho : UnV K r rv) (ha : ER K Γ ta da) : EM K Γ [] (tUn r ta) (vUn rv da) :=
  ⟨fun δ P P' k h => ha.mono _ _ _ (fun x z => ho.mono x _ _ k z) h,
   fun o q => ha.run o (ha.mono _ _ _ (fun x z v H1 s1 r1 => ho.run r1 (ho.mono _ _ _ (fun u z u' H' fp s r n => z u' H' fp (s1.trans s) r (n.any.later s1)) z)) q)⟩
def vI0 (g : Int → Int → D) (x : D) (y : D) (P : DK) : Prop := match x, y with | .int i, .int j => P (g i j) | _, _ => False
def vI (C : Int → Int → Prop) (g : Int → Int → D) (x : D) (y : D) (P : DK) : Prop := match x, y with | .int i, .int j => C i j ∧ P (g i j) | _, _ => False
def vU (g : Int → D) (x : D) (P : DK) : Prop := match x with | .int i => P (g i) | _ => False
theorem vI0_mono {g : Int → Int → D} : ∀ x y (P P' : DK), (∀ z, P z → P' z) → vI0 g x y P → vI0 g x y P' := fun x y P P' k h => by
  unfold vI0 at h ⊢; revert h; split <;> first | exact k _ | exact id
theorem vI_mono {C : Int → Int → Prop} {g : Int → Int → D} : ∀ x y (P P' : DK), (∀ z, P z → P' z) → vI C g x y P → vI C g x y P' := fun x y P P' k h => by
  unfold vI at h ⊢; revert h; split <;> first | exact fun h => ⟨h.1, k _ h.2⟩ | exact id
theorem vI0_run {f : Int → Int → V} {g : Int → Int → D} (hs : ∀ i j, (g i j).scal = true ∧ (g i j).toV = f i j) : OpV K (rI0 f) (vI0 g) := ⟨vI0_mono, fun {H x y v w Q} r1 r2 h => by
  unfold vI0 at h
  split at h
  · rename_i i j
    refine ⟨i, j, r1.int, r2.int, ?_⟩
    rw [← (hs i j).2]
    exact h _ H [] (Same.refl H) (Rf.ofScal (hs i j).1) Nw.nil
  · exact h.elim⟩
theorem vI_run {C : Int → Int → Prop} {f : Int → Int → V} {g : Int → Int → D} (hs : ∀ i j, (g i j).scal = true ∧ (g i j).toV = f i j) : OpV K (rI C f) (vI C g) := ⟨vI_mono, fun {H x y v w Q} r1 r2 h => by
  unfold vI at h
  split at h
  · rename_i i j
    refine ⟨i, j, r1.int, r2.int, h.1, ?_⟩
    rw [← (hs i j).2]
    exact h.2 _ H [] (Same.refl H) (Rf.ofScal (hs i j).1) Nw.nil
  · exact h.elim⟩
theorem o_int {f : Int → Int → Int} : OpV K (rI0 fun i j => .int (f i j)) (vI0 fun i j => .int (f i j)) := vI0_run fun _ _ => ⟨rfl, rfl⟩
theorem o_bl {f : Int → Int → Bool} : OpV K (rI0 fun i j => .bl (f i j)) (vI0 fun i j => .bl (f i j)) := vI0_run fun _ _ => ⟨rfl, rfl⟩
theorem o_intC {C : Int → Int → Prop} {f : Int → Int → Int} : OpV K (rI C fun i j => .int (f i j)) (vI C fun i j => .int (f i j)) := vI_run fun _ _ => ⟨rfl, rfl⟩
theorem u_int {f : Int → Int} : UnV K (rU fun i => .int (f i)) (vU fun i => .int (f i)) := ⟨fun x P P' k h => by unfold vU at h ⊢; revert h; split <;> first | exact k _ | exact id, fun {H x v Q} r1 h => by
  unfold vU at h
  split at h
  · rename_i i
    exact ⟨i, r1.int, h _ H [] (Same.refl H) ⟨rfl, rfl⟩ Nw.nil⟩
  · exact h.elim⟩
def vEqS (neg : Bool) (x : D) (y : D) (P : DK) : Prop := x.scal = true ∧ y.scal = true ∧ scal x.toV y.toV = true ∧ P (.bl (if neg then !decide (x.toV = y.toV) else decide (x.toV = y.toV)))
theorem vEqS_mono {neg : Bool} : ∀ x y (P P' : DK), (∀ z, P z → P' z) → vEqS neg x y P → vEqS neg x y P' := fun x y P P' k h => ⟨h.1, h.2.1, h.2.2.1, k _ h.2.2.2⟩
theorem o_eq : OpV K rEq (vEqS false) := ⟨vEqS_mono, fun {H x y v w Q} ⟨f1, r1⟩ ⟨f2, r2⟩ h => by
  rw [(r1.scal h.1).1, (r2.scal h.2.1).1]
  exact ⟨h.2.2.1, h.2.2.2 _ H [] (Same.refl H) ⟨rfl, rfl⟩ Nw.nil⟩⟩
theorem o_ne : OpV K rNe (vEqS true) := ⟨vEqS_mono, fun {H x y v w Q} ⟨f1, r1⟩ ⟨f2, r2⟩ h => by
  rw [(r1.scal h.1).1, (r2.scal h.2.1).1]
  exact ⟨h.2.2.1, h.2.2.2 _ H [] (Same.refl H) ⟨rfl, rfl⟩ Nw.nil⟩⟩
theorem vEqS_int {neg : Bool} {i j : Int} {P : DK} : vEqS neg (.int i) (.int j) P ↔ P (.bl (if neg then !decide (i = j) else decide (i = j))) := by
  unfold vEqS
  simp only [D.scal, D.toV, scal, true_and, V.int.injEq]
def vIxL (x : D) (y : D) (P : DK) : Prop := match x.items, y with | some ds, .int i => (match atI ds i with | some d => P d | none => False) | _, _ => False
def vIxT (x : D) (y : D) (P : DK) : Prop := match x, y with | .tup ds, .int i => (match atI ds i with | some d => P d | none => False) | _, _ => False
theorem vIxL_out {x y : D} {P : DK} (h : vIxL x y P) : ∃ ds i d, x.items = some ds ∧ y = .int i ∧ atI ds i = some d ∧ P d := by
  unfold vIxL at h
  split at h
  · split at h
    · exact ⟨_, _, _, by assumption, rfl, by assumption, h⟩
    · exact h.elim
  · exact h.elim
theorem vIxT_out {x y : D} {P : DK} (h : vIxT x y P) : ∃ ds i d, x = .tup ds ∧ y = .int i ∧ atI ds i = some d ∧ P d := by
  unfold vIxT at h
  split at h
  · split at h
    · exact ⟨_, _, _, rfl, rfl, by assumption, h⟩
    · exact h.elim
  · exact h.elim
theorem vIxL_in {x : D} {ds : List D} {i : Int} {d : D} {P : DK} (ex : x.items = some ds) (e : atI ds i = some d) (h : P d) : vIxL x (.int i) P := by unfold vIxL; simp only [ex, e]; exact h
theorem vIxT_in {ds : List D} {i : Int} {d : D} {P : DK} (e : atI ds i = some d) (h : P d) : vIxT (.tup ds) (.int i) P := by unfold vIxT; simp only [e]; exact h
theorem vIxL_mono : ∀ x y (P P' : DK), (∀ z, P z → P' z) → vIxL x y P → vIxL x y P' := fun x y P P' k h => by
  obtain ⟨ds, i, d, ex, rfl, e, h⟩ := vIxL_out h; exact vIxL_in ex e (k _ h)
theorem vIxT_mono : ∀ x y (P P' : DK), (∀ z, P z → P' z) → vIxT x y P → vIxT x y P' := fun x y P P' k h => by
  obtain ⟨ds, i, d, rfl, rfl, e, h⟩ := vIxT_out h; exact vIxT_in e (k _ h)
theorem Rfs.at {H : Hp} {ds : List D} {xs : List V} {fq : List Addr} {i : Int} {d : D} (h : Rfs K H ds xs fq) (e : atI ds i = some d) : ∃ v f, atI xs i = some v ∧ Rf K H d v f ∧ ∀ a ∈ f, a ∈ fq := by
  unfold atI at e ⊢
  rw [h.length]
  cases hj : ixN ds.length i with
  | none => rw [hj] at e; cases e
  | some j => rw [hj] at e; exact h.get e
theorem er_ixL (ha : ER K Γ ta da) (hb : ER K Γ tb db) : ER K Γ (tOp (rIxL K) ta tb) (vOp vIxL da db) :=
  ⟨fun δ P P' k h => ha.mono _ _ _ (fun x z => hb.mono _ _ _ (fun y z => vIxL_mono x y _ _ k z) z) h,
   fun o q => ha.run o (ha.mono _ _ _ (fun x z v H1 s1 r1 => hb.run (o.same s1) (hb.mono _ _ _ (fun y z w H2 s2 r2 => by
    obtain ⟨ds, i, d, ex, rfl, e, z⟩ := vIxL_out z
    obtain ⟨a, xs, fq, rfl, hs, hr⟩ := (r1.same s2).seq ex
    obtain ⟨v, f, e1, r3, _⟩ := hr.at e
    exact ⟨a, xs, i, v, rfl, r2.int, hs, e1, z v H2 (s1.trans s2) ⟨f, r3⟩⟩) z)) q)⟩
theorem er_ixT (ha : ER K Γ ta da) (hb : ER K Γ tb db) : ER K Γ (tOp (rIxT K) ta tb) (vOp vIxT da db) :=
  ⟨fun δ P P' k h => ha.mono _ _ _ (fun x z => hb.mono _ _ _ (fun y z => vIxT_mono x y _ _ k z) z) h,
   fun o q => ha.run o (ha.mono _ _ _ (fun x z v H1 s1 r1 => hb.run (o.same s1) (hb.mono _ _ _ (fun y z w H2 s2 r2 => by
    obtain ⟨ds, i, d, rfl, rfl, e, z⟩ := vIxT_out z
    obtain ⟨a, xs, fq, rfl, hs, hr⟩ := (r1.same s2).tup
    obtain ⟨v, f, e1, r3, _⟩ := hr.at e
    exact ⟨a, xs, i, v, rfl, r2.int, hs, e1, z v H2 (s1.trans s2) ⟨f, r3⟩⟩) z)) q)⟩
theorem es_ixL (ha : ES K Γ ta da) (hb : ER K Γ tb db) : ES K Γ (tOp (rIxL K) ta tb) (vOp vIxL da db) :=
  ⟨fun δ P P' k h => ha.mono _ _ _ (fun x z => hb.mono _ _ _ (fun y z => vIxL_mono x y _ _ k z) z) h,
   fun o q => ha.run o (ha.mono _ _ _ (fun x z v H1 fp s1 r1 n => hb.run (o.same s1) (hb.mono _ _ _ (fun y z w H2 s2 r2 => by
    obtain ⟨ds, i, d, ex, rfl, e, z⟩ := vIxL_out z
    obtain ⟨a, xs, fq, rfl, hs, hr, hin⟩ := (r1.same s2).seq ex
    obtain ⟨v, f, e1, r3, k⟩ := hr.at e
    exact ⟨a, xs, i, v, rfl, r2.int, hs, e1, z v H2 f (s1.trans s2) r3 fun j hj b hb => n j hj b (hin b (k b hb))⟩) z)) q)⟩
theorem es_ixT (ha : ES K Γ ta da) (hb : ER K Γ tb db) : ES K Γ (tOp (rIxT K) ta tb) (vOp vIxT da db) :=
  ⟨fun δ P P' k h => ha.mono _ _ _ (fun x z => hb.mono _ _ _ (fun y z => vIxT_mono x y _ _ k z) z) h,
   fun o q => ha.run o (ha.mono _ _ _ (fun x z v H1 fp s1 r1 n => hb.run (o.same s1) (hb.mono _ _ _ (fun y z w H2 s2 r2 => by
    obtain ⟨ds, i, d, rfl, rfl, e, z⟩ := vIxT_out z
    obtain ⟨a, xs, rfl, hs, hr⟩ := r1.same s2
    obtain ⟨v, f, e1, r3, k⟩ := hr.at e
    exact ⟨a, xs, i, v, rfl, r2.int, .inl (.inl hs), e1, z v H2 f (s1.trans s2) r3 fun j hj b hb => n j hj b (k b hb)⟩) z)) q)⟩
def asB (x : D) (P : Bool → Prop) : Prop := match x with | .bl k => P k | _ => False
def vTest (d : DE) (δ : Dl) (P : Bool → Prop) : Prop := d δ fun x => asB x P
theorem vb_out {x : D} {P : Bool → Prop} (h : asB x P) : ∃ k, x = .bl k ∧ P k := by
  unfold asB at h
  split at h
  · exact ⟨_, rfl, h⟩
  · exact h.elim
theorem vb_in {x : D} {P P' : Bool → Prop} (k : ∀ b, P b → P' b) (h : asB x P) : asB x P' := by
  obtain ⟨b, rfl, h⟩ := vb_out h; exact k b h
theorem tr_test (h : ER K Γ t d) : TR K Γ (tTest t) (vTest d) := ⟨fun δ P P' k q => h.mono _ _ _ (fun x z => vb_in k z) q, fun o q => h.run o (h.mono _ _ _ (fun x z v H' s r => by
  obtain ⟨b, rfl, z⟩ := vb_out z; exact ⟨b, r.bl, z H' s⟩) q)⟩
theorem tr_b (h : ER K Γ t d) : TR K Γ (tB t) (vTest d) := ⟨fun δ P P' k q => h.mono _ _ _ (fun x z => vb_in k z) q, fun o q => h.run o (h.mono _ _ _ (fun x z v H' s r => by
  obtain ⟨b, rfl, z⟩ := vb_out z; exact ⟨b, r.bl, z H' s⟩) q)⟩
def vAnd (c e : DT) (δ : Dl) (P : Bool → Prop) : Prop := c δ fun k => if k = true then e δ P else P false
def vOr (c e : DT) (δ : Dl) (P : Bool → Prop) : Prop := c δ fun k => if k = true then P true else e δ P
def vNot (c : DT) (δ : Dl) (P : Bool → Prop) : Prop := c δ fun k => P (!k)
theorem ite_imp {b : Bool} {A B A' B' : Prop} (h1 : A → A') (h2 : B → B') (h : if b = true then A else B) : if b = true then A' else B' := by
  cases b
  · exact h2 h
  · exact h1 h
theorem tr_and {u1 u2 : TT} {c e : DT} (h1 : TR K Γ u1 c) (h2 : TR K Γ u2 e) : TR K Γ (tAnd u1 u2) (vAnd c e) :=
  ⟨fun δ P P' k q => h1.mono _ _ _ (fun b z => ite_imp (h2.mono _ _ _ k) (k _) z) q,
   fun o q => h1.run o (h1.mono _ _ _ (fun b z H' s => ite_imp (fun z => h2.run (o.same s) (h2.mono _ _ _ (fun b z H2 s2 => z H2 (s.trans s2)) z)) (fun z => z H' s) z) q)⟩
theorem tr_or {u1 u2 : TT} {c e : DT} (h1 : TR K Γ u1 c) (h2 : TR K Γ u2 e) : TR K Γ (tOr u1 u2) (vOr c e) :=
  ⟨fun δ P P' k q => h1.mono _ _ _ (fun b z => ite_imp (k _) (h2.mono _ _ _ k) z) q,
   fun o q => h1.run o (h1.mono _ _ _ (fun b z H' s => ite_imp (fun z => z H' s) (fun z => h2.run (o.same s) (h2.mono _ _ _ (fun b z H2 s2 => z H2 (s.trans s2)) z)) z) q)⟩
theorem tr_not {u1 : TT} {c : DT} (h1 : TR K Γ u1 c) : TR K Γ (tNot u1) (vNot c) :=
  ⟨fun δ P P' k q => h1.mono _ _ _ (fun b z => k _ z) q, fun o q => h1.run o (h1.mono _ _ _ (fun b z H' s => z H' s) q)⟩
def vAndV (da db : DE) (δ : Dl) (P : DK) : Prop := vTest da δ fun k => if k = true then db δ P else P (.bl false)
theorem em_andV (ha : ER K Γ ta da) (hb : EM K Γ [] tb db) : EM K Γ [] (tAndV ta tb) (vAndV da db) :=
  ⟨fun δ P P' k q => (tr_test ha).mono _ _ _ (fun b z => ite_imp (hb.mono _ _ _ k) (k _) z) q,
   fun o q => ha.run o (ha.mono _ _ _ (fun x z v H' s r => by
    obtain ⟨b, rfl, z⟩ := vb_out z
    exact ⟨b, r.bl, ite_imp (fun z => hb.run (o.same s) (hb.mono _ _ _ (fun y z u H2 fp s2 r2 n2 => z u H2 fp (s.trans s2) r2 (n2.later s)) z)) (fun z => z _ H' [] s ⟨rfl, rfl⟩ Nw.nil) z⟩) q)⟩
def vChain (r r' : D2) (da db dc : DE) (δ : Dl) (P : DK) : Prop := da δ fun x => db δ fun y => r x y fun z => asB z fun k => if k = true then dc δ fun w => r' y w P else P (.bl false)
theorem em_chain {r r' : R2} {rv rv' : D2} (ho : OpV K r rv) (ho' : OpV K r' rv') (ha : ER K Γ ta da) (hb : ER K Γ tb db) (hc : ER K Γ tc dc) : EM K Γ [] (tChain r r' ta tb tc) (vChain rv rv' da db dc) :=
  ⟨fun δ P P' k h => ha.mono _ _ _ (fun x z => hb.mono _ _ _ (fun y z => ho.mono x y _ _ (fun u z => vb_in (fun b z => ite_imp (hc.mono _ _ _ fun w z => ho'.mono _ _ _ _ k z) (k _) z) z) z) z) h,
   fun o q => ha.run o (ha.mono _ _ _ (fun x z v H1 s1 r1 => hb.run (o.same s1) (hb.mono _ _ _ (fun y z w H2 s2 r2 => ho.run (r1.same s2) r2 (ho.mono _ _ _ _ (fun u z u' H3 fp s3 r3 n3 => by
    obtain ⟨b, rfl, z⟩ := vb_out z
    have s13 := (s1.trans s2).trans s3
    refine ⟨b, r3.1, ite_imp (fun z => ?_) (fun z => z _ H3 [] s13 ⟨rfl, rfl⟩ Nw.nil) z⟩
    exact hc.run (o.same s13) (hc.mono _ _ _ (fun w z w' H4 s4 r4 => ho'.run (r2.same (s3.trans s4)) r4 (ho'.mono _ _ _ _ (fun u z u' H' fp s r n => z u' H' fp ((s13.trans s4).trans s) r (n.any.later (s13.trans s4))) z)) z)) z)) z)) q)⟩
def vNil (_u0 : Dl) (P : List D → Prop) : Prop := P []
def vCons (da : DE) (dr : DA) (δ : Dl) (P : List D → Prop) : Prop := da δ fun x => dr δ fun xs => P (x :: xs)
theorem ar_nil : AR K Γ tNil vNil := ⟨fun _ _ _ k h => k _ h, fun {_ _ _ _ H _} o q => q [] H (Same.refl H) ⟨[], rfl, rfl⟩⟩
theorem am_nil : AM K Γ [] tNil vNil := ⟨fun _ _ _ k h => k _ h, fun {_ _ _ _ H _} o q => q [] H [] (Same.refl H) ⟨rfl, rfl⟩ Nw.nil⟩
theorem ar_cons {tr : TA} {dr : DA} (ha : ER K Γ ta da) (hr : AR K Γ tr dr) : AR K Γ (tCons ta tr) (vCons da dr) :=
  ⟨fun δ P P' k h => ha.mono _ _ _ (fun x z => hr.mono _ _ _ (fun y z => k _ z) z) h,
   fun o q => ha.run o (ha.mono _ _ _ (fun x z v H1 s1 r1 => hr.run (o.same s1) (hr.mono _ _ _ (fun xs z vs H2 s2 r2 => by
    obtain ⟨f1, r1⟩ := r1.same s2
    obtain ⟨f2, r2⟩ := r2
    exact z _ H2 (s1.trans s2) ⟨f1 ++ f2, _, _, f1, f2, rfl, rfl, r1, r2⟩) z)) q)⟩
theorem am_cons {M' : List Nat} {tr : TA} {dr : DA} (ha : EM K Γ M ta da) (hr : AM K Γ M' tr dr) (hM : ∀ i ∈ M, i ∈ Γ ∧ i ∉ M' := by decide) (hM' : ∀ i ∈ M', i ∈ Γ := by decide) : AM K Γ (M ++ M') (tCons ta tr) (vCons da dr) :=
  ⟨fun δ P P' k h => ha.mono _ _ _ (fun x z => hr.mono _ _ _ (fun y z => k _ z) z) h,
   fun {B0 fps δ σ H Q} o q => ha.run o (ha.mono _ _ _ (fun x z v H1 f1 s1 r1 n1 => hr.run (o.same s1) (hr.mono _ _ _ (fun xs z vs H2 f2 s2 r2 n2 => by
    refine z _ H2 (f1 ++ f2) (s1.trans s2) ⟨_, _, f1, f2, rfl, rfl, r1.same s2, r2⟩ ⟨?_, fun a ha => (List.mem_append.mp ha).elim (fun h => (n1.mu a h).same s2) (n2.mu a), fun a ha => ?_⟩
    · refine List.nodup_append.mpr ⟨n1.nd, n2.nd, fun a h1 b h2 e => ?_⟩
      subst e
      rcases n2.src a h2 with e | ⟨j, hj, e⟩
      · exact (n1.mu a h1).some e
      · rcases n1.src a h1 with e' | ⟨i, hi, e'⟩
        · exact o.dom e e'
        · exact o.dj i (hM i hi).1 j (fun y => (hM i hi).2 (by rw [← y]; exact hj)) a e' e
    · rcases List.mem_append.mp ha with h | h
      · exact (n1.src a h).imp id fun ⟨j, h1, h2⟩ => ⟨j, List.mem_append_left _ h1, h2⟩
      · exact (n2.src a h).elim (fun e => .inl (s1.free e)) fun ⟨j, h1, h2⟩ => .inr ⟨j, List.mem_append_right _ h1, h2⟩) z)) q)⟩
theorem le1000 {n : Nat} (h : n ≤ 1000) : n ≤ sizeLine := Nat.le_trans h (by rw [sizeLine_eq]; decide)
def vLst (da : DA) (δ : Dl) (P : DK) : Prop := da δ fun xs => xs.length ≤ 1000 ∧ P (.lst xs)
def vTup (da : DA) (δ : Dl) (P : DK) : Prop := da δ fun xs => xs.length ≤ 1000 ∧ P (.tup xs)
theorem Same.new' {H : Hp} {p : Addr} {o : HO} (h : H p = none) : Same H (upd H p o) := fun b u e => by rw [upd_ne (ne_of_none e h)]; exact e
theorem em_lst {u : TA} {dr : DA} (hr : AM K Γ M u dr) (hM : ∀ i ∈ M, i ∈ Γ := by decide) : EM K Γ M (tLst u) (vLst dr) :=
  ⟨fun δ P P' k h => hr.mono _ _ _ (fun y z => ⟨z.1, k _ z.2⟩) h,
   fun {B0 fps δ σ H Q} o q => hr.run o (hr.mono _ _ _ (fun xs z vs H1 fp s1 r1 n1 => by
    refine ⟨by rw [r1.length]; exact le1000 z.1, fun p hp => ?_⟩
    have hs : Same H1 (upd H1 p (.lst vs)) := Same.new' hp
    refine z.2 _ _ (p :: fp) (s1.trans hs) ⟨p, vs, fp, rfl, upd_same, rfl, r1.same hs⟩ ⟨List.nodup_cons.mpr ⟨fun h => (n1.mu p h).some hp, n1.nd⟩, fun a ha => ?_, fun a ha => ?_⟩
    · rcases List.mem_cons.mp ha with e | h
      · subst e; exact .inl ⟨vs, upd_same⟩
      · exact (n1.mu a h).same hs
    · rcases List.mem_cons.mp ha with e | h
      · subst e; exact .inl (s1.free hp)
      · exact n1.src a h) q)⟩
theorem em_tup {u : TA} {dr : DA} (hr : AM K Γ M u dr) : EM K Γ M (tTup u) (vTup dr) :=
  ⟨fun δ P P' k h => hr.mono _ _ _ (fun y z => ⟨z.1, k _ z.2⟩) h,
   fun {B0 fps δ σ H Q} o q => hr.run o (hr.mono _ _ _ (fun xs z vs H1 fp s1 r1 n1 => by
    refine ⟨by rw [r1.length]; exact le1000 z.1, fun p hp => ?_⟩
    have hs : Same H1 (upd H1 p (.tup vs)) := Same.new' hp
    exact z.2 _ _ fp (s1.trans hs) ⟨p, vs, rfl, upd_same, r1.same hs⟩ (n1.same hs)) q)⟩
theorem er_lst {u : TA} {dr : DA} (hr : AR K Γ u dr) : ER K Γ (tLst u) (vLst dr) :=
  ⟨fun δ P P' k h => hr.mono _ _ _ (fun y z => ⟨z.1, k _ z.2⟩) h,
   fun {B0 fps δ σ H Q} o q => hr.run o (hr.mono _ _ _ (fun xs z vs H1 s1 r1 => by
    obtain ⟨fp, r1⟩ := r1
    refine ⟨by rw [r1.length]; exact le1000 z.1, fun p hp => ?_⟩
    have hs : Same H1 (upd H1 p (.lst vs)) := Same.new' hp
    exact z.2 _ _ (s1.trans hs) ⟨p :: fp, p, vs, fp, rfl, upd_same, rfl, r1.same hs⟩) q)⟩
theorem er_tup {u : TA} {dr : DA} (hr : AR K Γ u dr) : ER K Γ (tTup u) (vTup dr) :=
  ⟨fun δ P P' k h => hr.mono _ _ _ (fun y z => ⟨z.1, k _ z.2⟩) h,
   fun {B0 fps δ σ H Q} o q => hr.run o (hr.mono _ _ _ (fun xs z vs H1 s1 r1 => by
    obtain ⟨fp, r1⟩ := r1
    refine ⟨by rw [r1.length]; exact le1000 z.1, fun p hp => ?_⟩
    have hs : Same H1 (upd H1 p (.tup vs)) := Same.new' hp
    exact z.2 _ _ (s1.trans hs) ⟨fp, p, vs, rfl, upd_same, r1.same hs⟩) q)⟩
abbrev DSp := List D → DK → Prop
def DMono (S : DSp) : Prop := ∀ xs (P P' : DK), (∀ z, P z → P' z) → S xs P → S xs P'
def spP (K : PySem.W.Frag) (S : DSp) : Sp := fun vs H Q _ => ∃ ds, Rps K H ds vs ∧ S ds fun x => ∀ v H' fp, Same H H' → Rf K H' x v fp → Nw H H' nf [] fp → Q v H'
def spR (K : PySem.W.Frag) (S : DSp) : Sp := fun vs H Q _ => ∃ ds, Rps K H ds vs ∧ S ds fun x => ∀ v H', Same H H' → Rp K H' x v → Q v H'
structure CallV (K : PySem.W.Frag) (r : List V → Hp → VK → Prop) (S : DSp) : Prop where
  mono : DMono S
  run : ∀ {H xs vs Q}, Rps K H xs vs → S xs (fun z => ∀ u H' fp, Same H H' → Rf K H' z u fp → Nw H H' nf [] fp → Q u H') → r vs H Q
def vCall (S : DSp) (dr : DA) (δ : Dl) (P : DK) : Prop := dr δ fun xs => S xs P
theorem em_cb {r : List V → Hp → VK → Prop} {S : DSp} {u : TA} {dr : DA} (hc : CallV K r S) (hr : AR K Γ u dr) : EM K Γ [] (tCB r u) (vCall S dr) :=
  ⟨fun δ P P' k h => hr.mono _ _ _ (fun y z => hc.mono _ _ _ k z) h,
   fun {B0 fps δ σ H Q} o q => hr.run o (hr.mono _ _ _ (fun xs z vs H1 s1 r1 => hc.run r1 (hc.mono _ _ _ (fun u z u' H' fp s r n => z u' H' fp (s1.trans s) r (n.any.later s1)) z)) q)⟩
theorem em_call {S : DSp} {E : XK} {u : TA} {dr : DA} (hS : DMono S) (hr : AR K Γ u dr) : EM K Γ [] (tCall (spP K S) [] E u) (vCall S dr) :=
  ⟨fun δ P P' k h => hr.mono _ _ _ (fun y z => hS _ _ _ k z) h,
   fun {B0 fps δ σ H Q} o q => hr.run o (hr.mono _ _ _ (fun xs z vs H1 s1 r1 => ⟨xs, by rw [List.append_nil]; exact r1, hS _ _ _ (fun u z u' H' fp s r n => z u' H' fp (s1.trans s) r (n.any.later s1)) z⟩) q)⟩
theorem er_call {S : DSp} {E : XK} {u : TA} {dr : DA} (hS : DMono S) (hr : AR K Γ u dr) : ER K Γ (tCall (spR K S) [] E u) (vCall S dr) :=
  ⟨fun δ P P' k h => hr.mono _ _ _ (fun y z => hS _ _ _ k z) h,
   fun {B0 fps δ σ H Q} o q => hr.run o (hr.mono _ _ _ (fun xs z vs H1 s1 r1 => ⟨xs, by rw [List.append_nil]; exact r1, hS _ _ _ (fun u z u' H' s r => z u' H' (s1.trans s) r) z⟩) q)⟩
end
end L3
set_option Elab.async false
set_option linter.all false
set_option maxRecDepth 100000
set_option maxHeartbeats 4000000
namespace L3
open PySem L2
structure DEnds where
  nx : Dl → Prop
  rt : D → Dl → Prop
  bk : Dl → Prop
  ct : Dl → Prop
abbrev DS := DEnds → Dl → Prop
structure RtI (B0 : Hp) (Γr : List Nat) (fps : Nat → List Addr) (H : Hp) (fp : List Addr) : Prop where
  nd : fp.Nodup
  mu : ∀ a ∈ fp, Mu H a
  nw : ∀ a ∈ fp, B0 a = none
  dj : ∀ j ∈ Γr, ∀ a ∈ fp, a ∉ fps j
structure EOk (K : PySem.W.Frag) (ρ : Bool) (Γr Γl Γn : List Nat) (B0 : Hp) (Dn : Ends) (E : DEnds) : Prop where
  nx : ∀ {fps δ σ H}, Ok K B0 Γn fps δ σ H → E.nx δ → Dn.nx σ H
  bk : ∀ {fps δ σ H}, Ok K B0 Γl fps δ σ H → E.bk δ → Dn.bk σ H
  ct : ∀ {fps δ σ H}, Ok K B0 Γl fps δ σ H → E.ct δ → Dn.ct σ H
  rt : ∀ {fps δ σ H x v fp}, Ok K B0 Γr fps δ σ H → Rf K H x v fp → (ρ = true → RtI B0 Γr fps H fp) → E.rt x δ → Dn.rt v H
def ST (K : PySem.W.Frag) (ρ : Bool) (Γr Γl : List Nat) (t : TS) (Γ Γn : List Nat) (d : DS) : Prop :=
  ∀ ⦃B0 : Hp⦄ ⦃Dn : Ends⦄ ⦃E : DEnds⦄ ⦃fps : Nat → List Addr⦄ ⦃δ : Dl⦄ ⦃σ : St⦄ ⦃H : Hp⦄, EOk K ρ Γr Γl Γn B0 Dn E → Ok K B0 Γ fps δ σ H → d E δ → t Dn σ H
section
variable {K : PySem.W.Frag} {ρ : Bool} {Γr Γl Γ Γ1 Γ2 Γn M : List Nat} {t u : TS} {te ta tb : TE} {de da db : DE} {d e : DS}
def vNext (E : DEnds) (δ : Dl) : Prop := E.nx δ
def vSeq (d e : DS) (E : DEnds) (δ : Dl) : Prop := d { E with nx := e E } δ
theorem st_next : ST K ρ Γr Γl tNext Γ Γ vNext := fun _ _ _ _ _ _ _ k o h => k.nx o h
theorem st_seq (h1 : ST K ρ Γr Γl t Γ Γ1 d) (h2 : ST K ρ Γr Γl u Γ1 Γ2 e) : ST K ρ Γr Γl (tSeq t u) Γ Γ2 (vSeq d e) :=
  fun {B0 Dn E fps δ σ H} k o h => h1 (Dn := { Dn with nx := u Dn }) (E := { E with nx := e E }) ⟨fun o h => h2 k o h, k.bk, k.ct, k.rt⟩ o h
theorem ST.pre (h : ST K ρ Γr Γl t Γ1 Γn d) (s : ∀ i ∈ Γ1, i ∈ Γ := by decide) : ST K ρ Γr Γl t Γ Γn d := fun _ _ _ _ _ _ _ k o q => h k (o.sub s) q
theorem ST.post (h : ST K ρ Γr Γl t Γ Γ1 d) (s : ∀ i ∈ Γn, i ∈ Γ1 := by decide) : ST K ρ Γr Γl t Γ Γn d := fun _ _ _ _ _ _ _ k o q => h ⟨fun o h => k.nx (o.sub s) h, k.bk, k.ct, k.rt⟩ o q
def vSetM (M : List Nat) (i : Nat) (de : DE) (E : DEnds) (δ : Dl) : Prop := de δ fun x => E.nx ((kill M δ).set i (some x))
theorem st_setM (i : Nat) (he : EM K Γ M te de) (hM : ∀ j ∈ M, j ∈ Γ := by decide) : ST K ρ Γr Γl (tAsg te (gName i)) Γ (i :: minus (minus Γ M) [i]) (vSetM M i de) :=
  fun _ _ _ _ _ _ _ k o h => he.run o (he.mono _ _ _ (fun x z v H' fp s r n => k.nx (o.setMv i hM s r n) z) h)
def vSet (i : Nat) (de : DE) (E : DEnds) (δ : Dl) : Prop := de δ fun x => E.nx (δ.set i (some x))
theorem st_setS (i : Nat) (he : ES K Γ te de) : ST K ρ Γr Γl (tAsg te (gName i)) Γ (minus Γ [i]) (vSet i de) :=
  fun _ _ _ _ _ _ _ k o h => he.run o (he.mono _ _ _ (fun x z v H' fp s r n => k.nx (o.setSh i s r n) z) h)
def vRet (M : List Nat) (de : DE) (E : DEnds) (δ : Dl) : Prop := de δ fun x => E.rt x (kill M δ)
theorem st_ret (he : EM K Γ M te de) (hM : ∀ j ∈ M, j ∈ Γ := by decide) (hr : ∀ j ∈ Γr, j ∈ Γ ∧ j ∉ M := by decide) : ST K ρ Γr Γl (tRet te) Γ Γn (vRet M de) :=
  fun {B0 Dn E fps δ σ H} k o h => he.run o (he.mono _ _ _ (fun x z v H' fp s r n => by
    have ok := ((o.kill M).same s).sub (Γ' := Γr) fun i hi => mem_minus.mpr (hr i hi)
    refine k.rt ok r (fun _ => ⟨n.nd, n.mu, fun a ha => ?_, fun j hj a ha => ?_⟩) z
    · rcases n.src a ha with e | ⟨i, hi, e⟩
      · exact o.b0.free e
      · exact ((o.own i (hM i hi)).2 a e).1
    · show a ∉ if j ∈ M then [] else fps j
      rw [if_neg (hr j hj).2]
      intro z
      rcases n.src a ha with e | ⟨i, hi, e⟩
      · exact o.dom z e
      · exact o.dj i (hM i hi) j (fun y => (hr j hj).2 (by rw [y]; exact hi)) a e z) h)
theorem st_retR (he : ER K Γ te de) (hr : ∀ j ∈ Γr, j ∈ Γ := by decide) : ST K false Γr Γl (tRet te) Γ Γn (vRet [] de) :=
  fun {B0 Dn E fps δ σ H} k o h => he.run o (he.mono _ _ _ (fun x z v H' s r => by
    obtain ⟨fp, r⟩ := r
    exact k.rt ((o.same s).sub hr) r (fun z => by cases z) z) h)
def vIfS (c : DT) (d e : DS) (E : DEnds) (δ : Dl) : Prop := c δ fun b => if b = true then d E δ else e E δ
theorem st_if {c : TT} {dc : DT} (hc : TR K Γ c dc) (h1 : ST K ρ Γr Γl t Γ Γn d) (h2 : ST K ρ Γr Γl u Γ Γn e) : ST K ρ Γr Γl (tIfS c t u) Γ Γn (vIfS dc d e) :=
  fun _ _ _ _ _ _ _ k o h => hc.run o (hc.mono _ _ _ (fun b z H' s => ite_imp (fun z => h1 k (o.same s) z) (fun z => h2 k (o.same s) z) z) h)
structure GT (K : PySem.W.Frag) (Γ : List Nat) (g : TG) (dg : D → Dl → (Dl → Prop) → Prop) : Prop where
  mono : ∀ x δ (P P' : Dl → Prop), (∀ z, P z → P' z) → dg x δ P → dg x δ P'
  run : ∀ {B0 fps δ σ H x v fp Q}, Ok K B0 Γ fps δ σ H → Rf K H x v fp → (∀ j ∈ Γ, ∀ a ∈ fp, a ∉ fps j) → dg x δ (fun δ' => ∀ fps' σ', Ok K B0 Γ fps' δ' σ' H → (∀ j ∈ Γ, fps' j = fps j) → Q σ' H) → g v σ H Q
structure GTs (K : PySem.W.Frag) (Γ : List Nat) (g : TGs) (dg : List D → Dl → (Dl → Prop) → Prop) : Prop where
  mono : ∀ x δ (P P' : Dl → Prop), (∀ z, P z → P' z) → dg x δ P → dg x δ P'
  run : ∀ {B0 fps δ σ H x v fp Q}, Ok K B0 Γ fps δ σ H → Rfs K H x v fp → (∀ j ∈ Γ, ∀ a ∈ fp, a ∉ fps j) → dg x δ (fun δ' => ∀ fps' σ', Ok K B0 Γ fps' δ' σ' H → (∀ j ∈ Γ, fps' j = fps j) → Q σ' H) → g v σ H Q
def vgName (i : Nat) (x : D) (δ : Dl) (P : Dl → Prop) : Prop := P (δ.set i (some x))
theorem gt_name (i : Nat) (h : i ∉ Γ := by decide) : GT K Γ (gName i) (vgName i) := ⟨fun _ _ _ _ k h => k _ h, fun {B0 fps δ σ H x v fp Q} o r n q => by
  have ok := (o.setSh i (Same.refl H) r n).sub (Γ' := Γ) fun j hj => mem_minus.mpr ⟨hj, fun z => h (by rw [← List.mem_singleton.mp z]; exact hj)⟩
  exact q _ _ ok fun j hj => by rw [if_neg (fun z => h (by rw [← z]; exact hj))]⟩
def vgNil (xs : List D) (δ : Dl) (P : Dl → Prop) : Prop := match xs with | [] => P δ | _ => False
def vgCons (dg : D → Dl → (Dl → Prop) → Prop) (dr : List D → Dl → (Dl → Prop) → Prop) (xs : List D) (δ : Dl) (P : Dl → Prop) : Prop := match xs with | x :: r => dg x δ fun δ' => dr r δ' P | [] => False
theorem gts_nil : GTs K Γ gNil vgNil := ⟨fun x _ _ _ k h => by cases x with | nil => exact k _ h | cons _ _ => exact h, fun {B0 fps δ σ H x v fp Q} o r n q => by
  cases x with
  | nil => obtain ⟨rfl, _⟩ := r; exact ⟨rfl, q _ _ o fun _ _ => rfl⟩
  | cons _ _ => exact q.elim⟩
theorem gts_cons {g : TG} {gs : TGs} {dg : D → Dl → (Dl → Prop) → Prop} {dr : List D → Dl → (Dl → Prop) → Prop} (h1 : GT K Γ g dg) (h2 : GTs K Γ gs dr) : GTs K Γ (gCons g gs) (vgCons dg dr) :=
  ⟨fun x _ _ _ k h => by
    cases x with
    | nil => exact h
    | cons x r => exact h1.mono _ _ _ _ (fun z h => h2.mono _ _ _ _ k h) h,
   fun {B0 fps δ σ H x v fp Q} o r n q => by
    cases x with
    | nil => exact q.elim
    | cons x xs =>
      obtain ⟨y, ys, f1, f2, rfl, rfl, r1, r2⟩ := r
      refine ⟨y, ys, rfl, h1.run o r1 (fun j hj a ha => n j hj a (List.mem_append_left _ ha)) (h1.mono _ _ _ _ (fun δ' z fps' σ' o' e => ?_) q)⟩
      exact h2.run o' r2 (fun j hj a ha => by rw [e j hj]; exact n j hj a (List.mem_append_right _ ha)) (h2.mono _ _ _ _ (fun δ2 z fps2 σ2 o2 e2 => z fps2 σ2 o2 fun j hj => (e2 j hj).trans (e j hj)) z)⟩
def vgTup (n : Nat) (dg : List D → Dl → (Dl → Prop) → Prop) (x : D) (δ : Dl) (P : Dl → Prop) : Prop := match x with | .tup ds => ds.length = n ∧ dg ds δ P | _ => False
theorem gt_tup {n : Nat} {g : TGs} {dg : List D → Dl → (Dl → Prop) → Prop} (h : GTs K Γ g dg) : GT K Γ (gTup K n g) (vgTup n dg) :=
  ⟨fun x δ P P' k h' => by unfold vgTup at h' ⊢; revert h'; split <;> first | exact fun h' => ⟨h'.1, h.mono _ _ _ _ k h'.2⟩ | exact id,
   fun {B0 fps δ σ H x v fp Q} o r nn q => by
    unfold vgTup at q
    split at q
    · obtain ⟨a, xs, e1, e2, r⟩ := r
      exact ⟨a, xs, e1, .inl (.inl e2), r.length.trans q.1, h.run o r nn q.2⟩
    · exact q.elim⟩
def vAsg (de : DE) (dg : D → Dl → (Dl → Prop) → Prop) (E : DEnds) (δ : Dl) : Prop := de δ fun x => dg x δ E.nx
theorem st_asgS {g : TG} {dg : D → Dl → (Dl → Prop) → Prop} (he : ES K Γ te de) (hg : GT K Γ g dg) : ST K ρ Γr Γl (tAsg te g) Γ Γ (vAsg de dg) :=
  fun _ _ _ _ _ _ _ k o h => he.run o (he.mono _ _ _ (fun x z v H' fp s r n => hg.run (o.same s) r n (hg.mono _ _ _ _ (fun δ' z fps' σ' o' _ => k.nx o' z) z)) h)
structure ItOk (K : PySem.W.Frag) (J : It) (B : Hp) (ds : List D) : Prop where
  go : ∀ {i H}, Same B H → i < ds.length → J.go i H
  yld : ∀ {i H x H' d}, Same B H → J.yld i H x H' → ds[i]? = some d → Same H H' ∧ ∃ fp, Rf K H' d x fp ∧ ∀ a ∈ fp, B a ≠ none
  stop : ∀ {i H}, Same B H → ds.length ≤ i → J.stop i H
abbrev DI := Dl → (List D → Prop) → Prop
structure IT (K : PySem.W.Frag) (Γ : List Nat) (wi : TI) (di : DI) : Prop where
  mono : ∀ δ (P P' : List D → Prop), (∀ x, P x → P' x) → di δ P → di δ P'
  run : ∀ {B0 fps δ σ H R}, Ok K B0 Γ fps δ σ H → di δ (fun ds => ∀ (J : It) (H' : Hp) (fq : List Addr), Same H H' → (∀ j ∈ Γ, ∀ a ∈ fq, a ∉ fps j) →
    (∀ B, Same B H' → (∀ a ∈ fq, B a = H' a) → (∀ a o, H' a = some o → Im o → B a = some o) → ItOk K J B ds) → R J H') → wi σ H R
def asL (x : D) (P : List D → Prop) : Prop := match x.items with | some ds => P ds | none => False
theorem asL_out {x : D} {P : List D → Prop} (h : asL x P) : ∃ ds, x.items = some ds ∧ P ds := by
  unfold asL at h; split at h
  · exact ⟨_, by assumption, h⟩
  · exact h.elim
theorem asL_in {x : D} {ds : List D} {P : List D → Prop} (e : x.items = some ds) (h : P ds) : asL x P := by unfold asL; rw [e]; exact h
def vItL (de : DE) (δ : Dl) (P : List D → Prop) : Prop := de δ fun x => asL x P
theorem it_list (he : ES K Γ te de) : IT K Γ (iList K te) (vItL de) :=
  ⟨fun δ P P' k h => he.mono _ _ _ (fun x z => by obtain ⟨ds, e, z⟩ := asL_out z; exact asL_in e (k _ z)) h,
   fun {B0 fps δ σ H R} o h => he.run o (he.mono _ _ _ (fun x z v H' fp s r n => by
    obtain ⟨ds, ex, z⟩ := asL_out z
    obtain ⟨a, xs, fq, rfl, hs, hr, hin⟩ := r.seq ex
    refine ⟨a, rfl, ⟨xs, hs⟩, z (Itl K a) H' fp s n fun B sB ag im => ?_⟩
    have rB : Rf K B x (.ref a) fp := r.mono (fun b hb u e => by rw [ag b hb]; exact e) im
    obtain ⟨a', xs', fq', e1, hs', hr', hin'⟩ := rB.seq ex
    cases e1
    have sq : ∀ {H2 : Hp}, Same B H2 → SqL K H2 a xs' := fun s2 => by
      rcases hs' with (h | ⟨o', h⟩) | h
      · exact .inl (.inl (s2 _ _ h))
      · exact .inl (.inr ⟨o', s2 _ _ h⟩)
      · exact .inr h
    have hl := hr'.length
    refine ⟨fun {i H2} s2 hi => ⟨xs', xs'[i]'(by omega), sq s2, by simp [hl, hi]⟩, fun {i H2 y H3 d} s2 hy hd => ?_, fun {i H2} s2 hi => ⟨xs', sq s2, by omega⟩⟩
    obtain ⟨rfl, hy⟩ := hy
    have e2 := hy xs' (sq s2)
    obtain ⟨d', f, e3, r3, k3⟩ := hr'.get' e2
    rw [hd] at e3; cases e3
    exact ⟨Same.refl _, f, r3.same s2, fun b hb => by
      obtain ⟨u, hu, _⟩ := r3.dom b hb
      rw [hu]; intro z; cases z⟩) h)⟩
def asI (xs : List D) (P : Int → Prop) : Prop := match xs with | [.int j] => P j | _ => False
def asII (xs : List D) (P : Int → Int → Prop) : Prop := match xs with | [.int i, .int j] => P i j | _ => False
theorem asI_out {xs : List D} {P : Int → Prop} (h : asI xs P) : ∃ j, xs = [.int j] ∧ P j := by
  unfold asI at h; split at h
  · exact ⟨_, rfl, h⟩
  · exact h.elim
def intsD (lo : Int) (n : Nat) : List D := (List.range n).map fun (k : Nat) => .int (lo + (k : Int))
theorem itr_ok {lo : Int} {n : Nat} {B : Hp} : ItOk K (Itr lo n) B (intsD lo n) := ⟨fun {i H2} s2 hi => by unfold Itr; simpa [intsD] using hi, fun {i H2 y H3 d} s2 hy hd => by
  obtain ⟨rfl, rfl⟩ := hy
  unfold intsD at hd
  rw [List.getElem?_map] at hd
  cases e : (List.range n)[i]? with
  | none => rw [e] at hd; cases hd
  | some k =>
    rw [e] at hd
    obtain ⟨h1, h2⟩ := List.getElem?_eq_some_iff.mp e
    rw [List.getElem_range] at h2
    subst h2
    cases hd
    exact ⟨Same.refl _, [], ⟨rfl, rfl⟩, fun _ h => nomatch h⟩, fun {i H2} s2 hi => by unfold Itr; simpa [intsD] using hi⟩
def vRng1 (da : DA) (δ : Dl) (P : List D → Prop) : Prop := da δ fun xs => asI xs fun j => (-(2 ^ 62) ≤ j ∧ j < 2 ^ 62) ∧ P (intsD 0 j.toNat)
theorem Rps.ints1 {H : Hp} {j : Int} {vs : List V} (h : Rps K H [.int j] vs) : vs = [.int j] := by
  obtain ⟨fp, x, r, f1, f2, rfl, _, ⟨rfl, _⟩, ⟨rfl, _⟩⟩ := h; rfl
theorem it_rng1 {u : TA} {da : DA} (ha : AR K Γ u da) : IT K Γ (iRng1 u) (vRng1 da) :=
  ⟨fun δ P P' k h => ha.mono _ _ _ (fun x z => by obtain ⟨j, rfl, z⟩ := asI_out z; exact ⟨z.1, k _ z.2⟩) h,
   fun {B0 fps δ σ H R} o h => ha.run o (ha.mono _ _ _ (fun xs z vs H' s r => by
    obtain ⟨j, rfl, z⟩ := asI_out z
    exact ⟨j, r.ints1, z.1.1, z.1.2, z.2 _ H' [] s (fun _ _ _ h => (nomatch h)) fun B _ _ _ => itr_ok⟩) h)⟩
def vLoop (dg : D → Dl → (Dl → Prop) → Prop) (db : DS) (E : DEnds) : List D → Dl → Prop
  | [], δ => E.nx δ
  | x :: xs, δ => dg x δ fun δ' => db { nx := vLoop dg db E xs, ct := vLoop dg db E xs, bk := E.nx, rt := E.rt } δ'
def vFor (di : DI) (dg : D → Dl → (Dl → Prop) → Prop) (db : DS) (E : DEnds) (δ : Dl) : Prop := di δ fun ds => vLoop dg db E ds δ
theorem RtI.base {B1 B0 : Hp} {fps : Nat → List Addr} {H : Hp} {fp : List Addr} (r : RtI B1 Γr fps H fp) (s : Same B0 B1) : RtI B0 Γr fps H fp := ⟨r.nd, r.mu, fun a ha => s.free (r.nw a ha), r.dj⟩
theorem st_for {wi : TI} {di : DI} {g : TG} {dg : D → Dl → (Dl → Prop) → Prop} {tb : TS} {db : DS} (hi : IT K Γ wi di) (hg : GT K Γ g dg) (hb : ST K ρ Γr Γ tb Γ Γ db) : ST K ρ Γr Γl (tFor wi g tb) Γ Γ (vFor di dg db) := by
  intro B0 Dn E fps δ σ H k o h
  refine hi.run o (hi.mono _ _ _ (fun ds z J H1 fq s1 n1 hit => ?_) h)
  obtain ⟨B1, sB, o1, ag⟩ := (o.same s1).rebase
  have hJ : ItOk K J B1 ds := hit B1 o1.b0 (fun a ha => ag a fun j hj => n1 j hj a ha) fun a u e im => by
    rw [ag a fun j hj ha => ((o1.own j hj).2 a ha).2.notup u e im]; exact e
  refine ⟨fun i m σ H => m = ds.length - i ∧ i ≤ ds.length ∧ ∃ fps δ, Ok K B1 Γ fps δ σ H ∧ vLoop dg db E (ds.drop i) δ, ⟨ds.length, by omega, Nat.zero_le _, fps, δ, o1, by rw [List.drop_zero]; exact z⟩, ?_⟩
  rintro i m σ2 H2 ⟨rfl, hi2, fps2, δ2, o2, z2⟩
  by_cases hlt : i < ds.length
  · refine .inr ⟨hJ.go o2.b0 hlt, _, fun σ' H' q => q, fun x H3 hy => ?_⟩
    obtain ⟨s3, fp, r3, n3⟩ := hJ.yld o2.b0 hy (List.getElem?_eq_getElem hlt)
    rw [List.drop_eq_getElem_cons hlt] at z2
    refine hg.run (o2.same s3) r3 (fun j hj a ha hz => n3 a ha ((o2.own j hj).2 a hz).1) (hg.mono _ _ _ _ (fun δ' z' fps' σ' o' e' => ?_) z2)
    refine hb (E := { nx := vLoop dg db E (ds.drop (i + 1)), ct := vLoop dg db E (ds.drop (i + 1)), bk := E.nx, rt := E.rt }) ⟨fun o4 z4 => ⟨ds.length - (i + 1), by omega, rfl, hlt, _, _, o4, z4⟩, fun o4 z4 => k.nx (o4.base sB) z4, fun o4 z4 => ⟨ds.length - (i + 1), by omega, rfl, hlt, _, _, o4, z4⟩, fun o4 r4 i4 z4 => k.rt (o4.base sB) r4 (fun y => (i4 y).base sB) z4⟩ o' z'
  · have e : i = ds.length := by omega
    subst e
    rw [List.drop_length] at z2
    exact .inl ⟨hJ.stop o2.b0 (Nat.le_refl _), k.nx (o2.base sB) z2⟩
def vEach (f : D → (List D → Prop) → Prop) : List D → List D → (List D → Prop) → Prop
  | [], acc, P => P acc
  | x :: xs, acc, P => f x fun ys => vEach f xs (acc ++ ys) P
theorem vEach_mono {f : D → (List D → Prop) → Prop} (hf : ∀ x P P', (∀ z, P z → P' z) → f x P → f x P') : ∀ xs acc (P P' : List D → Prop), (∀ z, P z → P' z) → vEach f xs acc P → vEach f xs acc P'
  | [], acc, P, P', k, h => k _ h
  | x :: xs, acc, P, P', k, h => hf x _ _ (fun z h => vEach_mono hf xs _ P P' k h) h
def cbaseD (k : Nat) (idx : List Nat) (δ : Dl) : Dl := List.replicate k none ++ idx.map fun i => (δ[i]?).getD none
theorem cb_ok {k : Nat} {idx : List Nat} {B0 : Hp} {fps : Nat → List Addr} {δ : Dl} {σ : St} {H : Hp} (o : Ok K B0 Γ fps δ σ H) : Ok K H [] (fun j => match (cbaseD k idx δ)[j]? with | some (some _) => fps (idx.getD (j - k) 0) | _ => []) (cbaseD k idx δ) (cbase k idx σ) H := by
  refine ⟨by simp [cbaseD, cbase, caps], Same.refl H, fun i d e => ?_, fun i h => ?_, fun _ h => (nomatch h), fun _ h => (nomatch h)⟩
  · rw [e]
    unfold cbaseD at e
    unfold cbase caps
    by_cases hi : i < k
    · rw [List.getElem?_append_left (by simpa using hi)] at e
      simp [hi] at e
    · rw [List.getElem?_append_right (by simpa using hi), List.length_replicate, List.getElem?_map] at e
      cases ej : idx[i - k]? with
      | none => rw [ej] at e; simp at e
      | some j =>
        rw [ej] at e
        simp only [Option.map_some, Option.some.injEq] at e
        have e' : δ[j]? = some (some d) := by
          cases q : δ[j]? with
          | none => rw [q] at e; cases e
          | some x => rw [q] at e; simp at e; rw [e]
        obtain ⟨v, h1, h2⟩ := o.val j d e'
        refine ⟨v, ?_, ?_⟩
        · rw [List.getElem?_append_right (by simpa using hi), List.length_replicate, List.getElem?_map, ej]
          simp [h1]
        · show Rf K H d v (fps (idx.getD (i - k) 0))
          rw [List.getD_eq_getElem?_getD, ej]
          exact h2
  · show (match (cbaseD k idx δ)[i]? with | some (some _) => _ | _ => _) = _
    split
    · exact absurd (by assumption) (h _)
    · rfl
def vBody (dg : D → Dl → (Dl → Prop) → Prop) (dt : DT) (de : DE) (δ : Dl) (x : D) (R : List D → Prop) : Prop := dg x δ fun δ2 => dt δ2 fun b => if b = true then de δ2 fun y => R [y] else R []
def vComp (di : DI) (dg : D → Dl → (Dl → Prop) → Prop) (dt : DT) (de : DE) (k : Nat) (idx : List Nat) (δ : Dl) (P : DK) : Prop := di δ fun ds => ds.length ≤ 1000 ∧ vEach (vBody dg dt de (cbaseD k idx δ)) ds [] fun ys => P (.lst ys)
theorem vBody_mono {Γ' : List Nat} {g : TG} {dg : D → Dl → (Dl → Prop) → Prop} {tt : TT} {dt : DT} (hg : GT K Γ' g dg) (ht : TR K Γ' tt dt) (hm : ∀ δ (P P' : DK), (∀ x, P x → P' x) → de δ P → de δ P') (δ : Dl) : ∀ x P P', (∀ z, P z → P' z) → vBody dg dt de δ x P → vBody dg dt de δ x P' :=
  fun x P P' k h => hg.mono _ _ _ _ (fun δ2 h => ht.mono _ _ _ (fun b h => ite_imp (hm _ _ _ fun y h => k _ h) (k _) h) h) h
theorem em_comp {wi : TI} {di : DI} {g : TG} {dg : D → Dl → (Dl → Prop) → Prop} {tt : TT} {dt : DT} {k : Nat} {idx : List Nat} (hi : IT K [] wi di) (hg : GT K [] g dg) (ht : TR K [] tt dt) (he : EM K [] [] te de) :
    EM K Γ [] (tComp wi g tt te k idx) (vComp di dg dt de k idx) := by
  have hm := vBody_mono hg ht he.mono
  refine ⟨fun δ P P' k h => hi.mono _ _ _ (fun ds z => ⟨z.1, vEach_mono (hm _) _ _ _ _ (fun ys h => k _ h) z.2⟩) h, fun {B0 fps δ σ H Q} o h => hi.run (o.sub (Γ' := []) fun _ h => (nomatch h)) (hi.mono _ _ _ (fun ds z J H1 fq s1 n1 hit => ?_) h)⟩
  have hJ : ItOk K J H1 ds := hit H1 (Same.refl _) (fun _ _ => rfl) fun a u e im => e
  obtain ⟨hz, z⟩ := z
  refine ⟨fun i m vs H2 => m = ds.length - i ∧ i ≤ ds.length ∧ Same H1 H2 ∧ vs.length ≤ i ∧ ∃ ys fp, Rfs K H2 ys vs fp ∧ Nw H1 H2 nf [] fp ∧ vEach (vBody dg dt de (cbaseD k idx δ)) (ds.drop i) ys fun ys => ∀ v H' fp, Same H H' → Rf K H' (.lst ys) v fp → Nw H H' fps [] fp → Q v H',
    ⟨ds.length, by omega, Nat.zero_le _, Same.refl _, Nat.zero_le _, [], [], ⟨rfl, rfl⟩, Nw.nil, by rw [List.drop_zero]; exact z⟩, ?_⟩
  rintro i m vs H2 ⟨rfl, hi2, s2, hvs, ys, fp, r2, n2, z2⟩
  by_cases hlt : i < ds.length
  · refine .inr ⟨hJ.go s2 hlt, le1000 (by omega), _, fun vs' H' q => q, fun x H3 hy => ?_⟩
    obtain ⟨s3, fx, r3, n3⟩ := hJ.yld s2 hy (List.getElem?_eq_getElem hlt)
    rw [List.drop_eq_getElem_cons hlt] at z2
    have oi := (cb_ok (k := k) (idx := idx) ((o.same s1).same (s2.trans s3)))
    refine hg.run oi r3 (fun _ h => (nomatch h)) (hg.mono _ _ _ _ (fun δ' z' fps' σ' o' e' => ?_) z2)
    refine ht.run o' (ht.mono _ _ _ (fun b z' H4 s4 => ite_imp (fun z' => he.run (o'.same s4) (he.mono _ _ _ (fun y z' v H5 f5 s5 r5 n5 => ?_) z')) (fun z' => ?_) z') z')
    · have s25 := s3.trans (s4.trans s5)
      refine ⟨ds.length - (i + 1), by omega, rfl, hlt, s2.trans s25, by simp; omega, ys ++ [y], fp ++ f5, (r2.same s25).append (Rfs.one r5), ⟨?_, fun a ha => ?_, fun a ha => ?_⟩, z'⟩
      · refine List.nodup_append.mpr ⟨n2.nd, n5.nd, fun a h1 b h2 e => ?_⟩
        subst e
        exact ((n2.mu a h1).same (s3.trans s4)).some (n5.fresh a h2)
      · rcases List.mem_append.mp ha with h | h
        · exact (n2.mu a h).same s25
        · exact n5.mu a h
      · rcases List.mem_append.mp ha with h | h
        · exact n2.src a h
        · exact .inl ((s2.trans (s3.trans s4)).free (n5.fresh a h))
    · have s24 := s3.trans s4
      dsimp only at z'
      rw [List.append_nil] at z'
      exact ⟨ds.length - (i + 1), by omega, rfl, hlt, s2.trans s24, by omega, ys, fp, r2.same s24, n2.same s24, z'⟩
  · have e : i = ds.length := by omega
    subst e
    rw [List.drop_length] at z2
    refine .inl ⟨hJ.stop s2 (Nat.le_refl _), le1000 (by omega), fun p hp => ?_⟩
    have hs : Same H2 (upd H2 p (.lst vs)) := Same.new' hp
    refine z2 _ _ (p :: fp) ((s1.trans s2).trans hs) ⟨p, vs, fp, rfl, upd_same, rfl, r2.same hs⟩ ⟨List.nodup_cons.mpr ⟨fun h => (n2.mu p h).some hp, n2.nd⟩, fun a ha => ?_, fun a ha => ?_⟩
    · rcases List.mem_cons.mp ha with e | h
      · subst e; exact .inl ⟨vs, upd_same⟩
      · exact (n2.mu a h).same hs
    · rcases List.mem_cons.mp ha with e | h
      · subst e; exact .inl ((s1.trans s2).free hp)
      · exact .inl (s1.free (n2.fresh a h))
def vYes (_u0 : Dl) (P : Bool → Prop) : Prop := P true
theorem tr_yes : TR K Γ tYes vYes := ⟨fun _ _ _ k h => k _ h, fun {_ _ _ _ H _} o q => q H (Same.refl H)⟩
def startD (N : List Str) (ds : List D) : Dl := ds.map some ++ List.replicate (N.length - ds.length) none
theorem Rfs.split {H : Hp} : ∀ {ds : List D} {vs : List V} {fp : List Addr}, Rfs K H ds vs fp → ∃ fps : Nat → List Addr, (∀ i d, ds[i]? = some d → ∃ v, vs[i]? = some v ∧ Rf K H d v (fps i)) ∧ ∀ i, ds.length ≤ i → fps i = []
  | [], vs, fp, h => ⟨fun _ => [], fun i d e => by simp at e, fun _ _ => rfl⟩
  | d :: ds, vs, fp, h => by
    obtain ⟨x, r, f1, f2, rfl, rfl, h1, h2⟩ := h
    obtain ⟨fps, k1, k2⟩ := Rfs.split h2
    refine ⟨fun i => match i with | 0 => f1 | j + 1 => fps j, fun i d' e => ?_, fun i hi => ?_⟩
    · cases i with
      | zero => simp at e; subst e; exact ⟨x, rfl, h1⟩
      | succ j => simpa using k1 j d' (by simpa using e)
    · cases i with
      | zero => simp at hi
      | succ j => exact k2 j (by simpa using hi)
theorem start_ok {N : List Str} {ds : List D} {vs : List V} {H : Hp} (h : Rps K H ds vs) : ∃ fps, Ok K H [] fps (startD N ds) (L2.start N vs) H := by
  obtain ⟨fp, h⟩ := h
  have hl := h.length
  obtain ⟨fps, k1, k2⟩ := h.split
  refine ⟨fps, by simp [startD, L2.start, hl], Same.refl H, fun i d e => ?_, fun i e => ?_, fun _ h => (nomatch h), fun _ h => (nomatch h)⟩
  · unfold startD at e
    unfold L2.start
    by_cases hi : i < ds.length
    · rw [List.getElem?_append_left (by simpa using hi), List.getElem?_map, List.getElem?_eq_getElem hi] at e
      simp at e
      obtain ⟨v, h1, h2⟩ := k1 i d (by rw [List.getElem?_eq_getElem hi, e])
      exact ⟨v, by rw [List.getElem?_append_left (by simpa [hl] using hi), List.getElem?_map, h1]; rfl, h2⟩
    · rw [List.getElem?_append_right (by simpa using hi), List.getElem?_replicate] at e
      split at e <;> cases e
  · by_cases hi : i < ds.length
    · refine absurd ?_ (e ds[i])
      unfold startD
      rw [List.getElem?_append_left (by simpa using hi), List.getElem?_map, List.getElem?_eq_getElem hi]
      rfl
    · exact k2 i (by omega)
abbrev endsD (P : DK) : DEnds := ⟨fun _ => P .non, fun x _ => P x, fun _ => False, fun _ => False⟩
theorem fn_val {N : List Str} {S : DSp} (hs : ST K true [] [] t [] Γn d) (hd : ∀ ds P, S ds P → d (endsD P) (startD N ds)) :
    ∀ {vs H Q E}, spP K S vs H Q E → t { nx := fun _ H' => Q .non H', rt := Q } (L2.start N vs) H := by
  rintro vs H Q E ⟨ds, r, h⟩
  obtain ⟨fps, o⟩ := start_ok (N := N) r
  refine hs (E := endsD _) ⟨fun {fps δ σ H'} o z => ?_, fun o (z : False) => z.elim, fun o (z : False) => z.elim, fun o r i z => ?_⟩ o (hd ds _ h)
  · exact z _ H' [] o.b0 ⟨rfl, rfl⟩ Nw.nil
  · exact z _ _ _ o.b0 r ⟨(i rfl).nd, (i rfl).mu, fun a ha => .inl ((i rfl).nw a ha)⟩
theorem fn_valR {N : List Str} {S : DSp} (hs : ST K false [] [] t [] Γn d) (hd : ∀ ds P, S ds P → d (endsD P) (startD N ds)) :
    ∀ {vs H Q E}, spR K S vs H Q E → t { nx := fun _ H' => Q .non H', rt := Q } (L2.start N vs) H := by
  rintro vs H Q E ⟨ds, r, h⟩
  obtain ⟨fps, o⟩ := start_ok (N := N) r
  refine hs (E := endsD _) ⟨fun {fps δ σ H'} o z => ?_, fun o (z : False) => z.elim, fun o (z : False) => z.elim, fun o r i z => ?_⟩ o (hd ds _ h)
  · exact z _ H' o.b0 ⟨[], rfl, rfl⟩
  · exact z _ _ o.b0 ⟨_, r⟩
end
end L3
set_option Elab.async false
set_option linter.all false
set_option maxRecDepth 100000
set_option maxHeartbeats 4000000
namespace L3
open PySem L2
section
variable {K : PySem.W.Frag} {ρ : Bool} {Γr Γl Γ Γ1 Γ2 Γn M : List Nat} {t u : TS} {te ta tb tx t1 t2 : TE} {de da db dx d1 d2 : DE} {d e : DS}
variable {B0 : Hp} {fps : Nat → List Addr} {δ : Dl} {σ : St} {H H' : Hp}
theorem Ok.write (o : Ok K B0 Γ fps δ σ H) {i : Nat} (hi : i ∈ Γ) {d' : D} {v : V} {fp' : List Addr} (hv : σ[i]? = some (some v)) (r : Rf K H' d' v fp') (nd : fp'.Nodup) (mu : ∀ a ∈ fp', Mu H' a)
    (src : ∀ a ∈ fp', a ∈ fps i ∨ (B0 a = none ∧ ∀ j, a ∉ fps j)) (keep : ∀ b u, b ∉ fps i → H b = some u → H' b = some u) :
    Ok K B0 Γ (fun j => if j = i then fp' else fps j) (δ.set i (some d')) σ H' := by
  have hlt : i < δ.length := by rw [← o.len]; exact (List.getElem?_eq_some_iff.mp hv).1
  refine ⟨by simp [o.len], fun b u e => ?_, fun j d e => ?_, fun j h => ?_, fun j hj => ?_, fun j hj k hk a ha => ?_⟩
  · refine keep b u (fun z => ?_) (o.b0 b u e)
    have := ((o.own i hi).2 b z).1
    rw [e] at this; cases this
  · by_cases h : j = i
    · subst h
      rw [List.getElem?_set] at e
      simp [hlt] at e
      subst e
      exact ⟨v, hv, by rw [if_pos rfl]; exact r⟩
    · rw [List.getElem?_set_ne (Ne.symm h)] at e
      obtain ⟨w, h1, h2⟩ := o.val j d e
      refine ⟨w, h1, ?_⟩
      rw [if_neg h]
      exact h2.mono (fun a ha u e => keep a u (fun z => o.dj i hi j h a z ha) e) fun a u e im => keep a u (fun z => ((o.own i hi).2 a z).2.notup u e im) e
  · by_cases h' : j = i
    · subst h'
      exact absurd (by rw [List.getElem?_set]; simp [hlt]) (h d')
    · rw [if_neg h']
      exact o.non j fun d z => h d (by rw [List.getElem?_set_ne (Ne.symm h')]; exact z)
  · by_cases h : j = i
    · subst h
      rw [if_pos rfl]
      refine ⟨nd, fun a ha => ⟨?_, mu a ha⟩⟩
      rcases src a ha with z | z
      · exact ((o.own j hi).2 a z).1
      · exact z.1
    · rw [if_neg h]
      refine ⟨(o.own j hj).1, fun a ha => ⟨((o.own j hj).2 a ha).1, ?_⟩⟩
      have hn : a ∉ fps i := fun z => o.dj i hi j h a z ha
      rcases ((o.own j hj).2 a ha).2 with ⟨x, z⟩ | ⟨x, z⟩ | ⟨x, z⟩ | ⟨C, dx, fs, z⟩
      · exact .inl ⟨x, keep a _ hn z⟩
      · exact .inr (.inl ⟨x, keep a _ hn z⟩)
      · exact .inr (.inr (.inl ⟨x, keep a _ hn z⟩))
      · exact .inr (.inr (.inr ⟨C, dx, fs, keep a _ hn z⟩))
  · by_cases h : j = i
    · subst h
      rw [if_pos rfl] at ha
      rw [if_neg hk]
      rcases src a ha with z | z
      · exact o.dj j hi k hk a z
      · exact z.2 k
    · rw [if_neg h] at ha
      by_cases hki : k = i
      · rw [if_pos hki]
        intro z
        rcases src a z with y | y
        · exact o.dj j hj i (Ne.symm h) a ha y
        · exact y.2 j ha
      · rw [if_neg hki]
        exact o.dj j hj k hk a ha
def slotL (δ : Dl) (i : Nat) (P : List D → Prop) : Prop := match δ[i]? with | some (some (.lst ds)) => P ds | _ => False
theorem slotL_out {δ : Dl} {i : Nat} {P : List D → Prop} (h : slotL δ i P) : ∃ ds, δ[i]? = some (some (.lst ds)) ∧ P ds := by
  unfold slotL at h; split at h
  · exact ⟨_, by assumption, h⟩
  · exact h.elim
theorem Ok.ownL (o : Ok K B0 Γ fps δ σ H) {i : Nat} {ds : List D} (e : δ[i]? = some (some (.lst ds))) : ∃ a xs fq, σ[i]? = some (some (.ref a)) ∧ H a = some (.lst xs) ∧ fps i = a :: fq ∧ Rfs K H ds xs fq := by
  obtain ⟨v, h1, a, xs, fq, rfl, h2, h3, h4⟩ := o.val i _ e
  exact ⟨a, xs, fq, h1, h2, h3, h4⟩
theorem updKeep {a : Addr} {w : HO} {fp : List Addr} (ha : a ∈ fp) : ∀ b u, b ∉ fp → H b = some u → upd H a w b = some u := fun b u hb e => by
  rw [upd_ne (fun z => hb (by rw [z]; exact ha))]; exact e
def vAppend (M : List Nat) (i : Nat) (de : DE) (E : DEnds) (δ : Dl) : Prop := slotL δ i fun ds => de δ fun x => ds.length < 1000 ∧ E.nx ((kill M δ).set i (some (.lst (ds ++ [x]))))
theorem st_append (i : Nat) (he : EM K Γ M te de) (hi : i ∈ Γ ∧ i ∉ M := by decide) (hM : ∀ j ∈ M, j ∈ Γ := by decide) : ST K ρ Γr Γl (tDrop (tBM K "list" rAppend (tVar i) (tCons te tNil))) Γ (minus Γ M) (vAppend M i de) := by
  intro B0 Dn E fps δ σ H k o h
  obtain ⟨ds, e, h⟩ := slotL_out h
  obtain ⟨a, xs, fq, h1, h2, h3, h4⟩ := o.ownL e
  refine ⟨.ref a, h1, .inl ⟨rfl, xs, .inl (.inl h2)⟩, he.run o (he.mono _ _ _ (fun x z v H1 fp s r n => ?_) h)⟩
  refine ⟨a, xs, v, rfl, rfl, s _ _ h2, by rw [h4.length]; exact Nat.lt_of_lt_of_le z.1 (le1000 (Nat.le_refl _)), ?_⟩
  have ok := (o.kill M).same s
  have hil : i ∈ minus Γ M := mem_minus.mpr hi
  have hown := o.own i hi.1
  rw [h3] at hown
  obtain ⟨nd, hmu⟩ := hown
  obtain ⟨na, ndq⟩ := List.nodup_cons.mp nd
  have hfa : ∀ b ∈ fp, b ≠ a ∧ b ∉ fq := fun b hb => by
    have : b ∉ fps i := fun z => by
      rcases n.src b hb with y | ⟨j, hj, y⟩
      · exact o.dom z y
      · exact o.dj j (hM j hj) i (fun w => hi.2 (by rw [w]; exact hj)) b y z
    rw [h3] at this
    exact ⟨fun z => this (by rw [z]; exact List.mem_cons_self), fun z => this (List.mem_cons_of_mem _ z)⟩
  have nt := ((hmu a List.mem_cons_self).2.same s).notup
  refine k.nx (ok.write hil (d' := .lst (ds ++ [x])) (fp' := a :: (fq ++ fp)) h1 ⟨a, xs ++ [v], fq ++ fp, rfl, upd_same, rfl, ?_⟩ ?_ (fun b hb => ?_) (fun b hb => ?_) ?_) z.2
  · exact ((h4.same s).upd na nt).append ((Rfs.one r).upd (fun w => (hfa a w).1 rfl) nt)
  · refine List.nodup_cons.mpr ⟨fun w => ?_, List.nodup_append.mpr ⟨ndq, n.nd, fun b h1 c h2 z => ?_⟩⟩
    · rcases List.mem_append.mp w with w | w
      · exact na w
      · exact (hfa a w).1 rfl
    · subst z; exact (hfa b h2).2 h1
  · refine Mu.upd ?_ (.inl ⟨_, rfl⟩)
    rcases List.mem_cons.mp hb with w | w
    · subst w; exact .inl ⟨xs, s _ _ h2⟩
    · rcases List.mem_append.mp w with w | w
      · exact (hmu b (List.mem_cons_of_mem _ w)).2.same s
      · exact n.mu b w
  · show b ∈ (if i ∈ M then [] else fps i) ∨ _
    rw [if_neg hi.2, h3]
    rcases List.mem_cons.mp hb with w | w
    · subst w; exact .inl List.mem_cons_self
    · rcases List.mem_append.mp w with w | w
      · exact .inl (List.mem_cons_of_mem _ w)
      · refine .inr ⟨?_, fun j => ?_⟩
        · rcases n.src b w with y | ⟨j, hj, y⟩
          · exact o.b0.free y
          · exact ((o.own j (hM j hj)).2 b y).1
        · show b ∉ (if j ∈ M then [] else fps j)
          split
          · exact List.not_mem_nil
          · rename_i hj
            intro z
            rcases n.src b w with y | ⟨j', hj', y⟩
            · exact o.dom z y
            · exact o.dj j' (hM j' hj') j (fun q => hj (by rw [q]; exact hj')) b y z
  · show ∀ b u, b ∉ (if i ∈ M then [] else fps i) → _
    rw [if_neg hi.2, h3]
    exact updKeep List.mem_cons_self
theorem Rfs.set {H : Hp} {x : D} {v : V} {fp : List Addr} (r : Rf K H x v fp) (nd : fp.Nodup) : ∀ {ds : List D} {xs : List V} {fq : List Addr} {j : Nat}, Rfs K H ds xs fq → fq.Nodup → (∀ a ∈ fp, a ∉ fq) → j < ds.length →
    ∃ fq', Rfs K H (ds.set j x) (xs.set j v) fq' ∧ fq'.Nodup ∧ ∀ a ∈ fq', a ∈ fq ∨ a ∈ fp
  | [], xs, fq, j, h, _, _, hj => by simp at hj
  | d :: ds, xs, fq, j, h, hn, hd, hj => by
    obtain ⟨y, ys, f1, f2, rfl, rfl, h1, h2⟩ := h
    obtain ⟨n1, n2, n3⟩ := List.nodup_append.mp hn
    cases j with
    | zero =>
      refine ⟨fp ++ f2, ⟨v, ys, fp, f2, rfl, rfl, r, h2⟩, List.nodup_append.mpr ⟨nd, n2, fun a ha b hb z => ?_⟩, fun a ha => ?_⟩
      · subst z; exact hd a ha (List.mem_append_right _ hb)
      · exact (List.mem_append.mp ha).elim .inr fun z => .inl (List.mem_append_right _ z)
    | succ j =>
      obtain ⟨fq', r', nd', k'⟩ := Rfs.set r nd (j := j) h2 n2 (fun a ha z => hd a ha (List.mem_append_right _ z)) (by simpa using hj)
      refine ⟨f1 ++ fq', ⟨y, ys.set j v, f1, fq', rfl, rfl, h1, r'⟩, List.nodup_append.mpr ⟨n1, nd', fun a ha b hb z => ?_⟩, fun a ha => ?_⟩
      · subst z
        rcases k' a hb with w | w
        · exact n3 a ha a w rfl
        · exact hd a w (List.mem_append_left _ ha)
      · rcases List.mem_append.mp ha with w | w
        · exact .inl (List.mem_append_left _ w)
        · exact (k' a w).imp (List.mem_append_right _) id
def vSetItem (i : Nat) (de dx : DE) (E : DEnds) (δ : Dl) : Prop := de δ fun x => slotL δ i fun ds => dx δ fun k => asI [k] fun n => match ixN ds.length n with | some j => E.nx (δ.set i (some (.lst (ds.set j x)))) | none => False
theorem ixN_lt {n : Nat} {i : Int} {j : Nat} (h : ixN n i = some j) : j < n := by
  unfold ixN at h
  split at h
  · split at h
    · cases h; omega
    · cases h
  · split at h
    · cases h; omega
    · cases h
theorem setItem_ok (o : Ok K B0 Γ fps δ σ H) {i j : Nat} (hi : i ∈ Γ) {ds : List D} {x : D} {v : V} {fp : List Addr} (e : δ[i]? = some (some (.lst ds))) (r : Rf K H x v fp) (nd : fp.Nodup) (mu : ∀ a ∈ fp, Mu H a) (src : ∀ a ∈ fp, B0 a = none ∧ ∀ j, a ∉ fps j) (hj : j < ds.length) :
    ∃ a xs, σ[i]? = some (some (.ref a)) ∧ H a = some (.lst xs) ∧ xs.length = ds.length ∧ ∃ fps', Ok K B0 Γ fps' (δ.set i (some (.lst (ds.set j x)))) σ (upd H a (.lst (xs.set j v))) := by
  obtain ⟨a, xs, fq, h1, h2, h3, h4⟩ := o.ownL e
  have hown := o.own i hi
  rw [h3] at hown
  obtain ⟨nd0, hmu⟩ := hown
  obtain ⟨na, ndq⟩ := List.nodup_cons.mp nd0
  have nt := (hmu a List.mem_cons_self).2.notup
  have hfq : ∀ b ∈ fp, b ∉ fps i := fun b hb => (src b hb).2 i
  rw [h3] at hfq
  obtain ⟨fq', r', nd', k'⟩ := Rfs.set r nd h4 ndq (fun b hb z => hfq b hb (List.mem_cons_of_mem _ z)) hj
  have naq : a ∉ fq' := fun z => (k' a z).elim na fun w => hfq a w List.mem_cons_self
  refine ⟨a, xs, h1, h2, h4.length, _, o.write hi (fp' := a :: fq') h1 ⟨a, xs.set j v, fq', rfl, upd_same, rfl, r'.upd naq nt⟩ (List.nodup_cons.mpr ⟨naq, nd'⟩) (fun b hb => Mu.upd ?_ (.inl ⟨_, rfl⟩)) (fun b hb => ?_) ?_⟩
  · rcases List.mem_cons.mp hb with w | w
    · subst w; exact .inl ⟨xs, h2⟩
    · rcases k' b w with w | w
      · exact (hmu b (List.mem_cons_of_mem _ w)).2
      · exact mu b w
  · rw [h3]
    rcases List.mem_cons.mp hb with w | w
    · subst w; exact .inl List.mem_cons_self
    · rcases k' b w with w | w
      · exact .inl (List.mem_cons_of_mem _ w)
      · exact .inr (src b w)
  · rw [h3]; exact updKeep List.mem_cons_self
theorem asI1_out {x : D} {P : Int → Prop} (h : asI [x] P) : ∃ j, x = .int j ∧ P j := by
  obtain ⟨j, e, h⟩ := asI_out h; cases e; exact ⟨j, rfl, h⟩
theorem st_setItem (i : Nat) (he : EM K Γ [] te de) (hx : ER K Γ tx dx) (hi : i ∈ Γ := by decide) : ST K ρ Γr Γl (tAsg te (gSub (tVar i) tx rSetL)) Γ Γ (vSetItem i de dx) := by
  intro B0 Dn E fps δ σ H k o h
  refine he.run o (he.mono _ _ _ (fun x z v H1 fp s r n => ?_) h)
  obtain ⟨ds, e, z⟩ := slotL_out z
  obtain ⟨a0, _, _, h1, _⟩ := (o.same s).ownL e
  refine ⟨.ref a0, h1, hx.run (o.same s) (hx.mono _ _ _ (fun y z w H2 s2 r2 => ?_) z)⟩
  obtain ⟨m, em, z9⟩ := asI1_out z
  subst em
  cases ej : ixN ds.length m with
  | none => rw [ej] at z9; exact z9.elim
  | some j =>
    rw [ej] at z9
    obtain ⟨a, xs, e1, e2, e3, fps', o'⟩ := setItem_ok ((o.same s).same s2) hi e (r.same s2) n.nd (fun a ha => (n.mu a ha).same s2) (fun a ha => ⟨o.b0.free (n.fresh a ha), fun j z => o.dom z (n.fresh a ha)⟩) (ixN_lt ej)
    rw [h1] at e1; cases e1
    exact ⟨a0, xs, m, j, rfl, r2.int, e2, by rw [e3]; exact ej, k.nx o' z9⟩
theorem Rfs.inner {H : Hp} : ∀ {ds : List D} {xs : List V} {fq : List Addr} {j : Nat} {es : List D}, Rfs K H ds xs fq → fq.Nodup → ds[j]? = some (.lst es) →
    ∃ b ys fe, xs[j]? = some (.ref b) ∧ H b = some (.lst ys) ∧ Rfs K H es ys fe ∧ b ∈ fq ∧ (∀ a ∈ fe, a ∈ fq) ∧ b ∉ fe ∧ fe.Nodup ∧
      ∀ {H' : Hp} {es' : List D} {ys' : List V} {fe' : List Addr}, (∀ c u, c ≠ b → H c = some u → H' c = some u) → H' b = some (.lst ys') → (∀ u, H b = some u → ¬ Im u) → Rfs K H' es' ys' fe' → fe'.Nodup → b ∉ fe' → (∀ a ∈ fe', a ∈ fe ∨ a ∉ fq) →
        ∃ fq', Rfs K H' (ds.set j (.lst es')) xs fq' ∧ fq'.Nodup ∧ ∀ a ∈ fq', a ∈ fq ∨ a ∈ fe'
  | [], xs, fq, j, es, h, _, e => by simp at e
  | d :: ds, xs, fq, j, es, h, hn, e => by
    obtain ⟨y, ys, f1, f2, rfl, rfl, h1, h2⟩ := h
    obtain ⟨n1, n2, n3⟩ := List.nodup_append.mp hn
    cases j with
    | zero =>
      simp at e; subst e
      obtain ⟨b, zs, fe, rfl, hb, rfl, h3⟩ := h1
      obtain ⟨m1, m2⟩ := List.nodup_cons.mp n1
      refine ⟨b, zs, fe, rfl, hb, h3, List.mem_append_left _ List.mem_cons_self, fun a ha => List.mem_append_left _ (List.mem_cons_of_mem _ ha), m1, m2, fun {H' es' ys' fe'} k1 k2 k3 k4 k5 k6 k7 => ?_⟩
      refine ⟨(b :: fe') ++ f2, ⟨_, ys, b :: fe', f2, rfl, rfl, ⟨b, ys', fe', rfl, k2, rfl, k4⟩, ?_⟩, List.nodup_append.mpr ⟨List.nodup_cons.mpr ⟨k6, k5⟩, n2, fun a ha c hc z => ?_⟩, fun a ha => ?_⟩
      · exact h2.mono (fun c hc u e => k1 c u (fun z => n3 b List.mem_cons_self c hc z.symm) e) fun c u e im => k1 c u (fun z => k3 u (by rw [← z]; exact e) im) e
      · subst z
        rcases List.mem_cons.mp ha with w | w
        · exact n3 a (by rw [w]; exact List.mem_cons_self) a hc rfl
        · rcases k7 a w with w | w
          · exact n3 a (List.mem_cons_of_mem _ w) a hc rfl
          · exact w (List.mem_append_right _ hc)
      · rcases List.mem_append.mp ha with w | w
        · rcases List.mem_cons.mp w with w | w
          · exact .inl (List.mem_append_left _ (by rw [w]; exact List.mem_cons_self))
          · exact .inr w
        · exact .inl (List.mem_append_right _ w)
    | succ j =>
      obtain ⟨b, zs, fe, e1, hb, h3, hbq, hfe, hbe, hnd, K'⟩ := Rfs.inner (j := j) h2 n2 (by simpa using e)
      refine ⟨b, zs, fe, by simpa using e1, hb, h3, List.mem_append_right _ hbq, fun a ha => List.mem_append_right _ (hfe a ha), hbe, hnd, fun {H' es' ys' fe'} k1 k2 k3 k4 k5 k6 k7 => ?_⟩
      obtain ⟨fq', r', nd', s'⟩ := K' k1 k2 k3 k4 k5 k6 fun a ha => (k7 a ha).imp id fun w z => w (List.mem_append_right _ z)
      have hy : Rf K H' d y f1 := h1.mono (fun c hc u e => k1 c u (fun z => n3 c hc b hbq z) e) fun c u e im => k1 c u (fun z => k3 u (by rw [← z]; exact e) im) e
      refine ⟨f1 ++ fq', ⟨y, ys, f1, fq', rfl, rfl, hy, r'⟩, List.nodup_append.mpr ⟨n1, nd', fun a ha c hc z => ?_⟩, fun a ha => ?_⟩
      · subst z
        rcases s' a hc with w | w
        · exact n3 a ha a w rfl
        · rcases k7 a w with w | w
          · exact n3 a ha a (hfe a w) rfl
          · exact w (List.mem_append_left _ ha)
      · rcases List.mem_append.mp ha with w | w
        · exact .inl (List.mem_append_left _ w)
        · exact (s' a w).imp (List.mem_append_right _) id
theorem inner_ok (o : Ok K B0 Γ fps δ σ H) {i j : Nat} (hi : i ∈ Γ) {ds es es' : List D} (e : δ[i]? = some (some (.lst ds))) (ej : ds[j]? = some (.lst es)) :
    ∃ a xs b ys fe, σ[i]? = some (some (.ref a)) ∧ H a = some (.lst xs) ∧ xs.length = ds.length ∧ xs[j]? = some (.ref b) ∧ H b = some (.lst ys) ∧ Rfs K H es ys fe ∧ fe.Nodup ∧ b ∉ fe ∧ (∀ a ∈ fe, a ∈ fps i) ∧ b ∈ fps i ∧
      ∀ {ys' : List V} {fe' : List Addr}, Rfs K H es' ys' fe' → fe'.Nodup → b ∉ fe' → (∀ c ∈ fe', Mu H c) → (∀ c ∈ fe', c ∈ fe ∨ (B0 c = none ∧ ∀ j, c ∉ fps j)) → ∃ fps', Ok K B0 Γ fps' (δ.set i (some (.lst (ds.set j (.lst es'))))) σ (upd H b (.lst ys')) := by
  obtain ⟨a, xs, fq, h1, h2, h3, h4⟩ := o.ownL e
  have hown := o.own i hi
  rw [h3] at hown
  obtain ⟨nd0, hmu⟩ := hown
  obtain ⟨na, ndq⟩ := List.nodup_cons.mp nd0
  obtain ⟨b, ys, fe, e1, hb, h5, hbq, hfe, hbe, hnd, K'⟩ := h4.inner ndq ej
  refine ⟨a, xs, b, ys, fe, h1, h2, h4.length, e1, hb, h5, hnd, hbe, fun c hc => by rw [h3]; exact List.mem_cons_of_mem _ (hfe c hc), by rw [h3]; exact List.mem_cons_of_mem _ hbq, fun {ys' fe'} r nd nb mu src => ?_⟩
  have nt := (hmu b (List.mem_cons_of_mem _ hbq)).2.notup
  have hab : a ≠ b := fun z => na (by rw [z]; exact hbq)
  obtain ⟨fq', r', nd', k'⟩ := K' (H' := upd H b (.lst ys')) (fun c u hc e => by rw [upd_ne hc]; exact e) upd_same nt (r.upd nb nt) nd nb fun c hc => (src c hc).imp id fun w z => w.2 i (by rw [h3]; exact List.mem_cons_of_mem _ z)
  have naq : a ∉ fq' := fun z => by
    rcases k' a z with w | w
    · exact na w
    · rcases src a w with w | w
      · exact na (hfe a w)
      · exact w.2 i (by rw [h3]; exact List.mem_cons_self)
  refine ⟨_, o.write hi (fp' := a :: fq') h1 ⟨a, xs, fq', rfl, by rw [upd_ne hab]; exact h2, rfl, r'⟩ (List.nodup_cons.mpr ⟨naq, nd'⟩) (fun c hc => Mu.upd ?_ (.inl ⟨_, rfl⟩)) (fun c hc => ?_) ?_⟩
  · rcases List.mem_cons.mp hc with w | w
    · subst w; exact .inl ⟨xs, h2⟩
    · rcases k' c w with w | w
      · exact (hmu c (List.mem_cons_of_mem _ w)).2
      · exact mu c w
  · rw [h3]
    rcases List.mem_cons.mp hc with w | w
    · subst w; exact .inl List.mem_cons_self
    · rcases k' c w with w | w
      · exact .inl (List.mem_cons_of_mem _ w)
      · rcases src c w with w | w
        · exact .inl (List.mem_cons_of_mem _ (hfe c w))
        · exact .inr w
  · rw [h3]; exact updKeep (List.mem_cons_of_mem _ hbq)
def asLst (o : Option D) (P : List D → Prop) : Prop := match o with | some (.lst es) => P es | _ => False
theorem asLst_out {o : Option D} {P : List D → Prop} (h : asLst o P) : ∃ es, o = some (.lst es) ∧ P es := by
  unfold asLst at h; split at h
  · exact ⟨_, rfl, h⟩
  · exact h.elim
def vSetItem2 (i : Nat) (de d1 d2 : DE) (E : DEnds) (δ : Dl) : Prop := de δ fun x => slotL δ i fun ds => d1 δ fun k => asI [k] fun m => asLst (atI ds m) fun es => d2 δ fun k2 => asI [k2] fun m2 => match ixN ds.length m, ixN es.length m2 with | some j, some j2 => E.nx (δ.set i (some (.lst (ds.set j (.lst (es.set j2 x)))))) | _, _ => False
theorem st_setItem2 (i : Nat) (he : EM K Γ [] te de) (h1 : ER K Γ t1 d1) (h2 : ER K Γ t2 d2) (hi : i ∈ Γ := by decide) : ST K ρ Γr Γl (tAsg te (gSub (tOp (rIxL K) (tVar i) t1) t2 rSetL)) Γ Γ (vSetItem2 i de d1 d2) := by
  intro B0 Dn E fps δ σ H k o h
  refine he.run o (he.mono _ _ _ (fun x z v H1 fp s r n => ?_) h)
  obtain ⟨ds, e, z⟩ := slotL_out z
  obtain ⟨a0, xs0, fq0, g1, _⟩ := (o.same s).ownL e
  refine ⟨.ref a0, g1, h1.run (o.same s) (h1.mono _ _ _ (fun y z w H2 s2 r2 => ?_) z)⟩
  obtain ⟨m, em, z8⟩ := asI1_out z
  subst em
  obtain ⟨es, ej, z8⟩ := asLst_out z8
  cases ejj : ixN ds.length m with
  | none => unfold atI at ej; rw [ejj] at ej; cases ej
  | some j =>
    have o2 := (o.same s).same s2
    have ej' : ds[j]? = some (.lst es) := by unfold atI at ej; rw [ejj] at ej; exact ej
    obtain ⟨a, xs, b, ys, fe, e1, e2, e3, e4, e5, e6, e7, e8, e9, _, KK⟩ := inner_ok (es' := []) o2 hi e ej'
    rw [g1] at e1; cases e1
    refine ⟨a0, xs, m, .ref b, rfl, r2.int, .inl (.inl e2), by unfold atI; rw [e3, ejj]; exact e4, h2.run o2 (h2.mono _ _ _ (fun y2 z w2 H3 s3 r3 => ?_) z8)⟩
    obtain ⟨m2, em2, z9⟩ := asI1_out z
    subst em2
    rw [ejj] at z9
    cases ej2 : ixN es.length m2 with
    | none => rw [ej2] at z9; exact z9.elim
    | some j2 =>
      rw [ej2] at z9
      have o3 := o2.same s3
      obtain ⟨a', xs', b', ys', fe', f1, f2, f3, f4, f5, f6, f7, f8, f9, f10, KK⟩ := inner_ok (es' := es.set j2 x) o3 hi e ej'
      rw [g1] at f1; cases f1
      rw [s3 _ _ e2] at f2; cases f2
      rw [e4] at f4; cases f4
      have r4 := r.same (s2.trans s3)
      have src : ∀ c ∈ fp, B0 c = none ∧ ∀ j, c ∉ fps j := fun a ha => ⟨o.b0.free (n.fresh a ha), fun j z => o.dom z (n.fresh a ha)⟩
      obtain ⟨fq', r', nd', k'⟩ := Rfs.set r4 n.nd f6 f7 (fun c hc z => (src c hc).2 i (f9 c z)) (ixN_lt ej2)
      have mu' : ∀ c ∈ fq', Mu H3 c := fun c hc => by
        rcases k' c hc with w | w
        · exact ((o3.own i hi).2 c (f9 c w)).2
        · exact (n.mu c w).same (s2.trans s3)
      obtain ⟨fps', o'⟩ := KK r' nd' (fun z => (k' b z).elim f8 fun w => (src b w).2 i f10) mu' (fun c hc => (k' c hc).imp id fun w => src c w)
      exact ⟨b, ys', m2, j2, rfl, r3.int, f5, by rw [f6.length]; exact ej2, k.nx o' z9⟩
def cutD (ds : List D) (lo hi : Option Int) : List D := (ds.drop (HT.sIx ds.length 0 lo)).take (HT.sIx ds.length ds.length hi - HT.sIx ds.length 0 lo)
abbrev DO := Dl → (Option Int → Prop) → Prop
structure OR (K : PySem.W.Frag) (Γ : List Nat) (t : TO) (d : DO) : Prop where
  mono : ∀ δ (P P' : Option Int → Prop), (∀ x, P x → P' x) → d δ P → d δ P'
  run : ∀ {B0 fps δ σ H Q}, Ok K B0 Γ fps δ σ H → d δ (fun x => ∀ H', Same H H' → Q x H') → t σ H Q
def vNoPart (_u0 : Dl) (P : Option Int → Prop) : Prop := P none
def vPart (d : DE) (δ : Dl) (P : Option Int → Prop) : Prop := d δ fun x => asI [x] fun i => P (some i)
theorem or_none : OR K Γ tNoPart vNoPart := ⟨fun _ _ _ k h => k _ h, fun {_ _ _ _ H _} o q => q H (Same.refl H)⟩
theorem or_some (h : ER K Γ te de) : OR K Γ (tPart te) (vPart de) := ⟨fun δ P P' k q => h.mono _ _ _ (fun x z => by obtain ⟨j, rfl, z⟩ := asI1_out z; exact k _ z) q,
  fun o q => h.run o (h.mono _ _ _ (fun x z v H' s r => by obtain ⟨j, rfl, z⟩ := asI1_out z; exact ⟨j, r.int, z H' s⟩) q)⟩
def vSl (de : DE) (dl dh : DO) (δ : Dl) (P : DK) : Prop := de δ fun x => dl δ fun l => dh δ fun u => asL x fun ds => ds.all D.scal = true ∧ P (.lst (cutD ds l u))
theorem cut_map {ds : List D} {lo hi : Option Int} : cutV (ds.map D.toV) lo hi = (cutD ds lo hi).map D.toV := by
  unfold cutV cutD
  rw [List.length_map, List.map_take, List.map_drop]
theorem cut_scal {ds : List D} {lo hi : Option Int} (h : ds.all D.scal = true) : (cutD ds lo hi).all D.scal = true := by
  unfold cutD
  rw [List.all_eq_true] at h ⊢
  exact fun x hx => h x (List.mem_of_mem_drop (List.mem_of_mem_take hx))
theorem em_sl {tl th : TO} {dl dh : DO} (he : ER K Γ te de) (hl : OR K Γ tl dl) (hh : OR K Γ th dh) : EM K Γ [] (tSl (rSlL K) te tl th) (vSl de dl dh) :=
  ⟨fun δ P P' k h => he.mono _ _ _ (fun x z => hl.mono _ _ _ (fun l z => hh.mono _ _ _ (fun u z => by obtain ⟨ds, e, z⟩ := asL_out z; exact asL_in e ⟨z.1, k _ z.2⟩) z) z) h,
   fun {B0 fps δ σ H Q} o h => he.run o (he.mono _ _ _ (fun x z v H1 s1 r1 => hl.run (o.same s1) (hl.mono _ _ _ (fun l z H2 s2 => hh.run ((o.same s1).same s2) (hh.mono _ _ _ (fun u z H3 s3 => by
    obtain ⟨ds, e, z⟩ := asL_out z
    obtain ⟨a, xs, fq, rfl, hs, hr⟩ := (r1.same (s2.trans s3)).seq e
    obtain ⟨rfl, rfl⟩ := hr.scals z.1
    refine ⟨a, _, rfl, hs, fun p hp => ?_⟩
    rw [cut_map]
    have s4 : Same H3 (upd H3 p (.lst ((cutD ds l u).map D.toV))) := Same.new' hp
    refine z.2 _ _ [p] (((s1.trans s2).trans s3).trans s4) ⟨p, _, [], rfl, upd_same, rfl, Rfs.ofScals (cut_scal z.1)⟩ ⟨by simp, fun b hb => ?_, fun b hb => ?_⟩
    · cases List.mem_singleton.mp hb; exact .inl ⟨_, upd_same⟩
    · cases List.mem_singleton.mp hb; exact .inl (((s1.trans s2).trans s3).free hp)) z)) z)) h)⟩
def vCat (x : D) (y : D) (P : DK) : Prop := match x, y with | .lst a, .lst b => (a.all D.scal = true ∧ b.all D.scal = true ∧ a.length + b.length ≤ 1000) ∧ P (.lst (a ++ b)) | _, _ => False
theorem new1 {H : Hp} {p : Addr} {ds : List D} (h : ds.all D.scal = true) (hp : H p = none) : Same H (upd H p (.lst (ds.map D.toV))) ∧ Rf K (upd H p (.lst (ds.map D.toV))) (.lst ds) (.ref p) [p] ∧ Nw H (upd H p (.lst (ds.map D.toV))) nf [] [p] :=
  ⟨Same.new' hp, ⟨p, _, [], rfl, upd_same, rfl, Rfs.ofScals h⟩, ⟨by simp, fun b hb => by cases List.mem_singleton.mp hb; exact .inl ⟨_, upd_same⟩, fun b hb => by cases List.mem_singleton.mp hb; exact .inl hp⟩⟩
theorem o_cat : OpV K rCat vCat := ⟨fun x y P P' k h => by unfold vCat at h ⊢; revert h; split <;> first | exact fun h => ⟨h.1, k _ h.2⟩ | exact id, fun {H x y v w Q} r1 r2 h => by
  unfold vCat at h
  split at h
  · rename_i a b
    obtain ⟨⟨s1, s2, hl⟩, h⟩ := h
    obtain ⟨f1, l1, xs, q1, rfl, e1, _, hr1⟩ := r1
    obtain ⟨f2, l2, ys, q2, rfl, e2, _, hr2⟩ := r2
    obtain ⟨rfl, _⟩ := hr1.scals s1
    obtain ⟨rfl, _⟩ := hr2.scals s2
    refine ⟨l1, l2, _, _, rfl, rfl, e1, e2, by rw [List.length_map, List.length_map]; exact le1000 hl, fun p hp => ?_⟩
    rw [← List.map_append]
    obtain ⟨n1, n2, n3⟩ := new1 (K := K) (ds := a ++ b) (by rw [List.all_append, s1, s2]; rfl) hp
    exact h _ _ _ n1 n2 n3
  · exact h.elim⟩
def repD (xs : List D) (k : Nat) : List D := (List.replicate k xs).flatten
def vRep (x : D) (y : D) (P : DK) : Prop := match x, y with | .lst a, .int k => (a.all D.scal = true ∧ (-(2 ^ 63) ≤ k ∧ k < 2 ^ 63) ∧ a.length * k.toNat ≤ 1000) ∧ P (.lst (repD a k.toNat)) | _, _ => False
theorem o_rep : OpV K rRep vRep := ⟨fun x y P P' k h => by unfold vRep at h ⊢; revert h; split <;> first | exact fun h => ⟨h.1, k _ h.2⟩ | exact id, fun {H x y v w Q} r1 r2 h => by
  unfold vRep at h
  split at h
  · rename_i a n
    obtain ⟨⟨s1, ⟨b1, b2⟩, hl⟩, h⟩ := h
    obtain ⟨f1, l1, xs, q1, rfl, e1, _, hr1⟩ := r1
    obtain ⟨rfl, _⟩ := hr1.scals s1
    refine ⟨l1, n, _, rfl, r2.int, e1, b1, b2, by rw [List.length_map]; exact le1000 hl, fun p hp => ?_⟩
    have : (List.replicate n.toNat (a.map D.toV)).flatten = (repD a n.toNat).map D.toV := by unfold repD; rw [List.map_flatten, List.map_replicate]
    rw [this]
    obtain ⟨n1, n2, n3⟩ := new1 (K := K) (ds := repD a n.toNat) (by
      rw [List.all_eq_true] at s1 ⊢
      intro x hx
      unfold repD at hx
      obtain ⟨l, h1, h2⟩ := List.mem_flatten.mp hx
      rw [(List.mem_replicate.mp h1).2] at h2
      exact s1 x h2) hp
    exact h _ _ _ n1 n2 n3
  · exact h.elim⟩
def vLen (xs : List D) (P : DK) : Prop := match xs with | [x] => (match x with | .tup ds => P (.int ds.length) | x => asL x fun ds => P (.int ds.length)) | _ => False
theorem Rps.one {H : Hp} {x : D} {vs : List V} (h : Rps K H [x] vs) : ∃ v, vs = [v] ∧ Rp K H x v := by
  obtain ⟨fp, y, r, f1, f2, rfl, _, h1, ⟨rfl, _⟩⟩ := h
  exact ⟨y, rfl, f1, h1⟩
theorem c_len : CallV K (fun xs H Q => ∃ p ys, xs = [.ref p] ∧ (SqL K H p ys ∨ SqT K H p ys) ∧ Q (.int ys.length) H) vLen := ⟨fun xs P P' k h => by
    unfold vLen at h ⊢
    revert h
    split
    · split
      · exact fun h => k _ h
      · exact fun h => by obtain ⟨ds, e, z⟩ := asL_out h; exact asL_in e (k _ z)
    · exact id,
  fun {H xs vs Q} r h => by
    unfold vLen at h
    split at h
    · obtain ⟨v, rfl, r0⟩ := r.one
      split at h
      · obtain ⟨a, ys, fq, rfl, hs, hr⟩ := r0.tup
        refine ⟨a, ys, rfl, .inr hs, ?_⟩
        rw [hr.length]
        exact h _ H [] (Same.refl H) ⟨rfl, rfl⟩ Nw.nil
      · obtain ⟨ds, e, h⟩ := asL_out h
        obtain ⟨a, ys, fq, rfl, hs, hr⟩ := r0.seq e
        refine ⟨a, ys, rfl, .inl hs, ?_⟩
        rw [hr.length]
        exact h _ H [] (Same.refl H) ⟨rfl, rfl⟩ Nw.nil
    · exact h.elim⟩
theorem vLen_lst {ds : List D} {P : DK} : vLen [.lst ds] P ↔ P (.int ds.length) := Iff.rfl
theorem vLen_scr {ds : List Int} {P : DK} : vLen [.scr ds] P ↔ P (.int ds.length) := by
  show P (.int ((ds.map D.int).length : Nat)) ↔ _
  rw [List.length_map]
def toInts : List D → Option (List Int)
  | [] => some []
  | .int i :: ds => (toInts ds).map (i :: ·)
  | _ => none
theorem toInts_map : ∀ {ns : List Int}, toInts (ns.map D.int) = some ns
  | [] => rfl
  | n :: ns => by rw [List.map_cons, toInts, toInts_map]; rfl
theorem toInts_eq : ∀ {ds : List D} {ns : List Int}, toInts ds = some ns → ds = ns.map D.int
  | [], ns, h => by cases h; rfl
  | .int i :: ds, ns, h => by
    rw [toInts] at h
    cases e : toInts ds with
    | none => rw [e] at h; cases h
    | some ms => rw [e] at h; cases h; rw [toInts_eq e]; rfl
  | .non :: _, _, h => by cases h
  | .bl _ :: _, _, h => by cases h
  | .str _ :: _, _, h => by cases h
  | .lst _ :: _, _, h => by cases h
  | .tup _ :: _, _, h => by cases h
  | .dic _ :: _, _, h => by cases h
  | .dit _ :: _, _, h => by cases h
  | .scr _ :: _, _, h => by cases h
theorem Rfs.intsV {H : Hp} {ns : List Int} {vs : List V} {fp : List Addr} (h : Rfs K H (ns.map D.int) vs fp) : vs = ns.map V.int := by
  have hs : (ns.map D.int).all D.scal = true := by rw [List.all_map, List.all_eq_true]; exact fun _ _ => rfl
  rw [(h.scals hs).1, List.map_map]
  rfl
def asNs (x : D) (P : List Int → Prop) : Prop := asL x fun ds => match toInts ds with | some ns => P ns | none => False
theorem asNs_out {x : D} {P : List Int → Prop} (h : asNs x P) : ∃ ns, x.items = some (ns.map D.int) ∧ P ns := by
  obtain ⟨ds, e, h⟩ := asL_out h
  cases q : toInts ds with
  | none => rw [q] at h; exact h.elim
  | some ns => rw [q] at h; rw [toInts_eq q] at e; exact ⟨ns, e, h⟩
theorem asNs_in {x : D} {ns : List Int} {P : List Int → Prop} (e : x.items = some (ns.map D.int)) (h : P ns) : asNs x P := by
  refine asL_in e ?_
  rw [toInts_map]; exact h
def vSum (xs : List D) (P : DK) : Prop := match xs with | [x] => asNs x fun ns => P (.int ns.sum) | _ => False
theorem c_sum : CallV K (fun xs H Q => ∃ (a : Addr) (ns : List Int), xs = [.ref a] ∧ SqL K H a (ns.map V.int) ∧ Q (.int ns.sum) H) vSum := ⟨fun xs P P' k h => by
    unfold vSum at h ⊢
    revert h
    split
    · exact fun h => by obtain ⟨ns, e, z⟩ := asNs_out h; exact asNs_in e (k _ z)
    · exact id,
  fun {H xs vs Q} r h => by
    unfold vSum at h
    split at h
    · obtain ⟨v, rfl, r0⟩ := r.one
      obtain ⟨ns, e, h⟩ := asNs_out h
      obtain ⟨a, ys, fq, rfl, hs, hr⟩ := r0.seq e
      rw [hr.intsV] at hs
      exact ⟨a, ns, rfl, hs, h _ H [] (Same.refl H) ⟨rfl, rfl⟩ Nw.nil⟩
    · exact h.elim⟩
def vList (xs : List D) (P : DK) : Prop := match xs with | [x] => asL x fun ds => ds.all D.scal = true ∧ P (.lst ds) | _ => False
theorem c_list : CallV K (fun xs H Q => ∃ p ys, xs = [.ref p] ∧ (SqL K H p ys ∨ SqT K H p ys) ∧ ∀ l, H l = none → Q (.ref l) (upd H l (.lst ys))) vList := ⟨fun xs P P' k h => by
    unfold vList at h ⊢
    revert h
    split
    · exact fun h => by obtain ⟨ds, e, z⟩ := asL_out h; exact asL_in e ⟨z.1, k _ z.2⟩
    · exact id,
  fun {H xs vs Q} r h => by
    unfold vList at h
    split at h
    · obtain ⟨v, rfl, r0⟩ := r.one
      obtain ⟨ds, e, hsc, h⟩ := asL_out h
      obtain ⟨a, ys, fq, rfl, hs, hr⟩ := r0.seq e
      obtain ⟨rfl, _⟩ := hr.scals hsc
      refine ⟨a, _, rfl, .inl hs, fun l hl => ?_⟩
      obtain ⟨n1, n2, n3⟩ := new1 (K := K) hsc hl
      exact h _ _ _ n1 n2 n3
    · exact h.elim⟩
end
end L3
set_option Elab.async false
set_option linter.all false
set_option maxRecDepth 100000
set_option maxHeartbeats 4000000
namespace L3
open PySem L2
open PyProof.Rows (Ordered)
section
variable {K : PySem.W.Frag} {Γ M : List Nat} {te ta tb : TE} {de da db : DE}
theorem em_comp0 {wi : TI} {di : DI} {g : TG} {dg : D → Dl → (Dl → Prop) → Prop} {k : Nat} {idx : List Nat} (hi : IT K [] wi di) (hg : GT K [] g dg) (he : EM K [] [] te de) : EM K Γ [] (tComp0 wi g te k idx) (vComp di dg vYes de k idx) := by
  rw [tComp0_eq]; exact em_comp hi hg tr_yes he
def D.tyn : D → Option String
  | .non => some "NoneType" | .bl _ => some "bool" | .int _ => some "int" | .str _ => some "str" | .lst _ => some "list" | .tup _ => some "tuple" | .dic _ => some "dict" | .dit _ => some "dict" | .scr _ => none | .pin _ _ => none | .mem _ => none | .raw _ => none | .ins _ _ _ => none
theorem Rp.ty {H : Hp} {d : D} {v : V} {n : String} (h : Rp K H d v) (e : d.tyn = some n) : TyOf K H v (.type n) := by
  obtain ⟨fp, h⟩ := h
  cases d with
  | non => cases e; obtain ⟨rfl, _⟩ := h; exact .non
  | bl b => cases e; obtain ⟨rfl, _⟩ := h; exact .bl _
  | int b => cases e; obtain ⟨rfl, _⟩ := h; exact .int _
  | str b => cases e; obtain ⟨rfl, _⟩ := h; exact .str _
  | lst ds => cases e; obtain ⟨a, xs, fq, rfl, h2, _⟩ := h; exact .lst h2
  | tup ds => cases e; obtain ⟨a, xs, rfl, h2, _⟩ := h; exact .tup h2
  | dic ds => cases e; obtain ⟨a, rfl, h2, _⟩ := h; exact .dK h2
  | dit ds => cases e; obtain ⟨a, rfl, h2, _⟩ := h; exact .dT h2
  | scr ns => cases e
  | pin a d => cases e
  | mem φ => cases e
  | raw w => cases e
  | ins C ns ds => cases e
def isB (m n : String) : Bool := m == n || (m == "bool" && n == "int")
def KitOk (n : String) : Prop := ∀ (K : PySem.W.Frag) (d : D) (m : String), d.tyn = some m → PySem.W.kitOne K (.type m) (.type n) = some (isB m n)
theorem kit_bool : KitOk "bool" := fun K d m e => by cases d <;> cases e <;> first | exact kit_same | with_unfolding_all rfl
def vIs (n : String) (da : DE) (δ : Dl) (P : DK) : Prop := da δ fun x => match x.tyn with | some m => P (.bl (isB m n)) | none => False
theorem em_isinst {n : String} (hk : KitOk n) (ha : ER K Γ ta da) : EM K Γ [] (tCB (fun xs H Q => ∃ x n t b, xs = [x, .ty n] ∧ TyOf K H x t ∧ PySem.W.kitOne K t (.type n) = some b ∧ Q (.bl b) H) (tCons ta (tCons (tC (.ty n)) tNil))) (vIs n da) :=
  ⟨fun δ P P' k h => ha.mono _ _ _ (fun x z => by
      revert z; split
      · exact fun z => k _ z
      · exact id) h,
   fun {B0 fps δ σ H Q} o h => ha.run o (ha.mono _ _ _ (fun x z v H1 s1 r1 => by
      split at z
      · rename_i m e
        exact ⟨v, n, _, _, rfl, r1.ty e, hk K x m e, z _ H1 [] s1 ⟨rfl, rfl⟩ Nw.nil⟩
      · exact z.elim) h)⟩
mutual
def D.old : D → Option L2.D
  | .non => some .non | .bl b => some (.bl b) | .int i => some (.int i) | .str x => some (.str x)
  | .lst ds => (D.olds ds).map L2.D.lst | .tup ds => (D.olds ds).map L2.D.tup
  | .dic _ => none | .dit _ => none | .scr _ => none | .pin _ _ => none | .mem _ => none | .raw _ => none | .ins _ _ _ => none
def D.olds : List D → Option (List L2.D)
  | [] => some []
  | d :: ds => match D.old d, D.olds ds with | some x, some xs => some (x :: xs) | _, _ => none
end
mutual
theorem Rf.old {H : Hp} : ∀ {d : D} {d' : L2.D} {v : V} {fp : List Addr}, Rf K H d v fp → d.old = some d' → L2.Rf H d' v fp
  | .non, d', v, fp, h, e => by rw [D.old] at e; cases e; rw [L2.Rf]; exact h
  | .bl _, d', v, fp, h, e => by rw [D.old] at e; cases e; rw [L2.Rf]; exact h
  | .int _, d', v, fp, h, e => by rw [D.old] at e; cases e; rw [L2.Rf]; exact h
  | .str _, d', v, fp, h, e => by rw [D.old] at e; cases e; rw [L2.Rf]; exact h
  | .lst ds, d', v, fp, h, e => by
    rw [D.old] at e
    cases q : D.olds ds with
    | none => rw [q] at e; cases e
    | some es =>
      rw [q] at e; cases e
      obtain ⟨a, xs, fq, e1, e2, e3, h⟩ := h
      rw [L2.Rf]
      exact ⟨a, xs, fq, e1, e2, e3, Rfs.old h q⟩
  | .tup ds, d', v, fp, h, e => by
    rw [D.old] at e
    cases q : D.olds ds with
    | none => rw [q] at e; cases e
    | some es =>
      rw [q] at e; cases e
      obtain ⟨a, xs, e1, e2, h⟩ := h
      rw [L2.Rf]
      exact ⟨a, xs, e1, e2, Rfs.old h q⟩
  | .dic _, d', v, fp, h, e => by rw [D.old] at e; cases e
  | .dit _, d', v, fp, h, e => by rw [D.old] at e; cases e
  | .scr _, d', v, fp, h, e => by rw [D.old] at e; cases e
  | .pin _ _, d', v, fp, h, e => by rw [D.old] at e; cases e
  | .mem _, d', v, fp, h, e => by rw [D.old] at e; cases e
  | .raw _, d', v, fp, h, e => by rw [D.old] at e; cases e
  | .ins _ _ _, d', v, fp, h, e => by rw [D.old] at e; cases e
theorem Rfs.old {H : Hp} : ∀ {ds : List D} {ds' : List L2.D} {vs : List V} {fp : List Addr}, Rfs K H ds vs fp → D.olds ds = some ds' → L2.Rfs H ds' vs fp
  | [], ds', vs, fp, h, e => by rw [D.olds] at e; cases e; rw [L2.Rfs]; exact h
  | d :: ds, ds', vs, fp, h, e => by
    rw [D.olds] at e
    obtain ⟨x, r, f1, f2, e1, e2, h1, h2⟩ := h
    cases q1 : d.old with
    | none => rw [q1] at e; simp at e
    | some x' =>
      cases q2 : D.olds ds with
      | none => rw [q1, q2] at e; simp at e
      | some xs' =>
        rw [q1, q2] at e
        cases e
        rw [L2.Rfs]
        exact ⟨x, r, f1, f2, e1, e2, Rf.old h1 q1, Rfs.old h2 q2⟩
end
abbrev dI (xs : List Int) : D := .lst (xs.map D.int)
abbrev dT (t : List (List Int)) : D := .lst (t.map dI)
def vEqL (neg : Bool) (x : D) (y : D) (P : DK) : Prop := ∃ a b, x.old = some (.lst a) ∧ y.old = some (.lst b) ∧ L2.D.plains a = true ∧ L2.D.plains b = true ∧ L2.D.depths a ≤ 60 ∧ P (.bl (if neg then !L2.D.eqbs a b else L2.D.eqbs a b))
theorem vEqL_run {neg : Bool} : OpV K (rEqD neg) (vEqL neg) := ⟨fun x y P P' k h => by
    obtain ⟨a, b, h1, h2, h3, h4, h5, h⟩ := h
    exact ⟨a, b, h1, h2, h3, h4, h5, k _ h⟩,
  fun {H x y v w Q} ⟨f1, r1⟩ ⟨f2, r2⟩ h => by
    obtain ⟨a, b, h1, h2, h3, h4, h5, h⟩ := h
    exact ⟨a, b, ⟨f1, r1.old h1⟩, ⟨f2, r2.old h2⟩, h3, h4, h5, h _ H [] (Same.refl H) ⟨rfl, rfl⟩ Nw.nil⟩⟩
theorem o_eqL : OpV K (rEqD false) (vEqL false) := vEqL_run
theorem o_neL : OpV K (rEqD true) (vEqL true) := vEqL_run
theorem olds_ints : ∀ {ns : List Int}, D.olds (ns.map D.int) = some (ns.map L2.D.int)
  | [] => by rw [List.map_nil, D.olds]; rfl
  | n :: ns => by rw [List.map_cons, D.olds, olds_ints, D.old]; rfl
theorem old_dI {ns : List Int} : (dI ns).old = some (L2.dI ns) := by rw [D.old, olds_ints]; rfl
theorem olds_rows : ∀ {t : List (List Int)}, D.olds (t.map dI) = some (t.map L2.dI)
  | [] => by rw [List.map_nil, D.olds]; rfl
  | n :: ns => by rw [List.map_cons, D.olds, olds_rows, old_dI]; rfl
theorem old_dT {t : List (List Int)} : (dT t).old = some (L2.dT t) := by rw [D.old, olds_rows]; rfl
theorem vEqL_ints {neg : Bool} {xs ys : List Int} {P : DK} (h : P (.bl (if neg then !decide (xs = ys) else decide (xs = ys)))) : vEqL neg (dI xs) (dI ys) P :=
  ⟨_, _, old_dI, old_dI, D.plains_ints _, D.plains_ints _, by rw [D.depths_ints]; omega, by rw [D.eqbs_ints]; exact h⟩
theorem vEqL_rows {neg : Bool} {xs ys : List (List Int)} {P : DK} (h : P (.bl (if neg then !decide (xs = ys) else decide (xs = ys)))) : vEqL neg (dT xs) (dT ys) P :=
  ⟨_, _, old_dT, old_dT, D.plains_rows _, D.plains_rows _, Nat.le_trans (D.depths_rows _) (by omega), by rw [D.eqbs_rows]; exact h⟩
theorem Rf.ofInts {H : Hp} {p : Addr} {ms : List Int} (e : H p = some (.lst (ms.map V.int))) : Rf K H (dI ms) (.ref p) [p] := ⟨p, _, [], rfl, e, rfl, Rfs.ofInts⟩
theorem Nw.one {H H' : Hp} {p : Addr} {xs : List V} (h : H p = none) (e : H' p = some (.lst xs)) : Nw H H' nf [] [p] := ⟨by simp, fun b hb => by cases List.mem_singleton.mp hb; exact .inl ⟨_, e⟩, fun b hb => by cases List.mem_singleton.mp hb; exact .inl h⟩
def D.isNon : D → Bool | .non => true | .raw w => decide (w = .non) | _ => false
def vIsN (neg : Bool) (x : D) (y : D) (P : DK) : Prop := match y with | .non => P (.bl (if neg then !x.isNon else x.isNon)) | _ => False
def vZip (da db : DE) (δ : Dl) (P : List D → Prop) : Prop := da δ fun x => db δ fun y => asL x fun xs => asL y fun ys => xs.length = ys.length ∧ P ((xs.zip ys).map fun p => .tup [p.1, p.2])
theorem it_zip (ha : ES K Γ ta da) (hb : ES K Γ tb db) : IT K Γ (iZip K (tCons ta (tCons tb tNil))) (vZip da db) :=
  ⟨fun δ P P' k h => ha.mono _ _ _ (fun x z => hb.mono _ _ _ (fun y z => by
      obtain ⟨xs, e1, z⟩ := asL_out z; obtain ⟨ys, e2, z⟩ := asL_out z; exact asL_in e1 (asL_in e2 ⟨z.1, k _ z.2⟩)) z) h,
   fun {B0 fps δ σ H R} o h => ha.run o (ha.mono _ _ _ (fun x z v H1 f1 s1 r1 n1 => hb.run (o.same s1) (hb.mono _ _ _ (fun y z w H2 f2 s2 r2 n2 => by
    obtain ⟨xs, ex, z⟩ := asL_out z
    obtain ⟨ys, ey, z⟩ := asL_out z
    have r1' := r1.same s2
    obtain ⟨a, as, fa, rfl, hsa, hra, hina⟩ := r1'.seq ex
    obtain ⟨b, bs, fb, rfl, hsb, hrb, hinb⟩ := r2.seq ey
    refine ⟨a, b, rfl, ⟨as, hsa⟩, ⟨bs, hsb⟩, z.2 (Itz K a b) H2 (f1 ++ f2) (s1.trans s2) (fun j hj c hc => (List.mem_append.mp hc).elim (n1 j hj c) (n2 j hj c)) fun B sB ag im => ?_⟩
    have rBa : Rf K B x (.ref a) f1 := r1'.mono (fun c hc u e => by rw [ag c (List.mem_append_left _ hc)]; exact e) im
    have rBb : Rf K B y (.ref b) f2 := r2.mono (fun c hc u e => by rw [ag c (List.mem_append_right _ hc)]; exact e) im
    obtain ⟨a', as', fa', e1, hsa', hra', _⟩ := rBa.seq ex
    obtain ⟨b', bs', fb', e2, hsb', hrb', _⟩ := rBb.seq ey
    cases e1; cases e2
    have sq : ∀ {c : Addr} {zs : List V} {H3 : Hp}, SqL K B c zs → Same B H3 → SqL K H3 c zs := fun h s3 => s3.seq h
    have la := hra'.length
    have lb := hrb'.length
    have hl := z.1
    have hlen : ((xs.zip ys).map fun p => D.tup [p.1, p.2]).length = xs.length := by simp [hl]
    refine ⟨fun {i H3} s3 hi => ?_, fun {i H3 u H4 d} s3 hy hd => ?_, fun {i H3} s3 hi => ?_⟩
    · rw [hlen] at hi
      exact ⟨as', bs', as'[i]'(by omega), bs'[i]'(by omega), sq hsa' s3, sq hsb' s3, by simp [la, hi], by simp [lb, ← hl, hi]⟩
    · obtain ⟨p, u1, u2, rfl, hp, rfl, h1, h2⟩ := hy
      have q1 := h1 as' (sq hsa' s3)
      have q2 := h2 bs' (sq hsb' s3)
      obtain ⟨d1, g1, e1, t1, _⟩ := hra'.get' q1
      obtain ⟨d2, g2, e2, t2, _⟩ := hrb'.get' q2
      have ez : (xs.zip ys)[i]? = some (d1, d2) := List.getElem?_zip_eq_some.mpr ⟨e1, e2⟩
      rw [List.getElem?_map, ez] at hd
      cases hd
      have s4 : Same H3 (upd H3 p (.tup [u1, u2])) := Same.new' hp
      refine ⟨s4, g1 ++ g2, ⟨p, _, rfl, upd_same, u1, [u2], g1, g2, rfl, rfl, (t1.same s3).same s4, u2, [], g2, [], rfl, (List.append_nil _).symm, (t2.same s3).same s4, rfl, rfl⟩, fun c hc => ?_⟩
      rcases List.mem_append.mp hc with w | w
      · obtain ⟨u, hu, _⟩ := t1.dom c w; rw [hu]; intro z; cases z
      · obtain ⟨u, hu, _⟩ := t2.dom c w; rw [hu]; intro z; cases z
    · rw [hlen] at hi
      exact ⟨as', bs', sq hsa' s3, sq hsb' s3, .inl (by omega)⟩) z)) h)⟩
end
theorem spP_len {K : PySem.W.Frag} {S : DSp} {n : Nat} (hS : ∀ ds P, S ds P → ds.length = n) {vs : List V} {H : Hp} {Q : VK} {E : XK} (h : spP K S vs H Q E) : vs.length = n := by
  obtain ⟨ds, ⟨fp, r⟩, h⟩ := h
  rw [r.length]; exact hS _ _ h
theorem spR_len {K : PySem.W.Frag} {S : DSp} {n : Nat} (hS : ∀ ds P, S ds P → ds.length = n) {vs : List V} {H : Hp} {Q : VK} {E : XK} (h : spR K S vs H Q E) : vs.length = n := by
  obtain ⟨ds, ⟨fp, r⟩, h⟩ := h
  rw [r.length]; exact hS _ _ h
theorem loop_inv {dg : D → Dl → (Dl → Prop) → Prop} {db : DS} {E : DEnds} (I : Nat → Dl → Prop) {ds : List D} {δ : Dl} (h0 : I 0 δ)
    (hs : ∀ i d δ (N : Dl → Prop), ds[i]? = some d → I i δ → (∀ δ', I (i + 1) δ' → N δ') → dg d δ fun δ' => db { nx := N, ct := N, bk := E.nx, rt := E.rt } δ')
    (hd : ∀ δ, I ds.length δ → E.nx δ) : vLoop dg db E ds δ := by
  have key : ∀ (n : Nat) (i : Nat) (δ : Dl), ds.length - i = n → i ≤ ds.length → I i δ → vLoop dg db E (ds.drop i) δ := by
    intro n
    induction n with
    | zero =>
      intro i δ h1 h2 hI
      have : i = ds.length := by omega
      subst this
      rw [List.drop_length]
      exact hd δ hI
    | succ n ih =>
      intro i δ h1 h2 hI
      have hlt : i < ds.length := by omega
      rw [List.drop_eq_getElem_cons hlt]
      exact hs i _ δ _ (List.getElem?_eq_getElem hlt) hI fun δ' h' => ih (i + 1) δ' (by omega) hlt h'
  have := key ds.length 0 δ (by omega) (Nat.zero_le _) h0
  rwa [List.drop_zero] at this
end L3
namespace L3
open PySem L2
theorem sc_of {K : PySem.W.Frag} {H : Hp} {a : Addr} {xs : List V} (hO : Only H) (h : SqL K H a xs) : Sc K H a xs := by
  rcases h with (h | h) | h
  · rcases hO a with z | ⟨o, ys, z⟩
    · rw [z] at h; cases h
    · rw [z] at h; cases h
  · exact .inl h
  · exact .inr h
end L3
set_option Elab.async false
set_option linter.all false
set_option maxRecDepth 100000
set_option maxHeartbeats 4000000
namespace L3
open PySem
open L2 hiding D Rf Rfs Rp dI dT
section
variable {di : DI} {dg : D → Dl → (Dl → Prop) → Prop} {dt : DT} {de : DE} {k : Nat} {idx : List Nat} {δ : Dl} {P : DK}
theorem comp_any {α : Type} {as : List α} {f : α → D} {p : α → Bool} {g : α → D} (hdi : ∀ R : List D → Prop, R (as.map f) → di δ R) (hl : as.length ≤ 1000)
    (hb : ∀ a ∈ as, ∀ R : List D → Prop, R (if p a then [g a] else []) → vBody dg dt de (cbaseD k idx δ) (f a) R) (h : P (.lst ((as.filter p).map g))) : vComp di dg dt de k idx δ P := by
  refine hdi _ ⟨by rw [List.length_map]; exact hl, ?_⟩
  have key : ∀ (as : List α) (acc : List D), (∀ a ∈ as, ∀ R : List D → Prop, R (if p a then [g a] else []) → vBody dg dt de (cbaseD k idx δ) (f a) R) → P (.lst (acc ++ (as.filter p).map g)) → vEach (vBody dg dt de (cbaseD k idx δ)) (as.map f) acc fun ys => P (.lst ys) := by
    intro as
    induction as with
    | nil => intro acc _ h; rw [List.filter_nil, List.map_nil, List.append_nil] at h; exact h
    | cons a as ih =>
      intro acc hb h
      refine hb a List.mem_cons_self _ (ih _ (fun x hx => hb x (List.mem_cons_of_mem _ hx)) ?_)
      by_cases hp : p a = true
      · rw [if_pos hp, List.append_assoc]; rwa [List.filter_cons_of_pos hp] at h
      · rw [if_neg hp, List.append_nil]; rwa [List.filter_cons_of_neg hp] at h
  exact key as [] hb h
theorem comp_all {α : Type} {as : List α} {f : α → D} {g : α → D} (hdi : ∀ R : List D → Prop, R (as.map f) → di δ R) (hl : as.length ≤ 1000)
    (hb : ∀ a ∈ as, ∀ R : List D → Prop, R [g a] → vBody dg dt de (cbaseD k idx δ) (f a) R) (h : P (.lst (as.map g))) : vComp di dg dt de k idx δ P := by
  refine comp_any (p := fun _ => true) hdi hl (fun a ha R h => hb a ha R h) ?_
  rw [List.filter_eq_self.mpr (fun _ _ => rfl)]
  exact h
theorem comp_ints {ns : List Int} {g : Int → D} (hdi : ∀ R : List D → Prop, R (ns.map D.int) → di δ R) (hl : ns.length ≤ 1000)
    (hb : ∀ n ∈ ns, ∀ R : List D → Prop, R [g n] → vBody dg dt de (cbaseD k idx δ) (.int n) R) (h : P (.lst (ns.map g))) : vComp di dg dt de k idx δ P := comp_all hdi hl hb h
theorem comp_rng {lo : Int} {n : Nat} {g : Nat → D} (hdi : ∀ R : List D → Prop, R (intsD lo n) → di δ R) (hl : n ≤ 1000)
    (hb : ∀ i, i < n → ∀ R : List D → Prop, R [g i] → vBody dg dt de (cbaseD k idx δ) (.int (lo + (i : Int))) R) (h : P (.lst ((List.range n).map g))) : vComp di dg dt de k idx δ P :=
  comp_all (as := List.range n) (f := fun (k : Nat) => D.int (lo + (k : Int))) hdi (by rw [List.length_range]; exact hl) (fun a ha => hb a (List.mem_range.mp ha)) h
theorem comp_rows {t : List (List Int)} {g : List Int → D} (hdi : ∀ R : List D → Prop, R (t.map dI) → di δ R) (hl : t.length ≤ 1000)
    (hb : ∀ r ∈ t, ∀ R : List D → Prop, R [g r] → vBody dg dt de (cbaseD k idx δ) (dI r) R) (h : P (.lst (t.map g))) : vComp di dg dt de k idx δ P := comp_all hdi hl hb h
variable {db : DS} {E : DEnds}
theorem loop_any {α : Type} {as : List α} {f : α → D} (I : Nat → Dl → Prop) (h0 : I 0 δ)
    (hs : ∀ i a δ (N : Dl → Prop), as[i]? = some a → I i δ → (∀ δ', I (i + 1) δ' → N δ') → dg (f a) δ fun δ' => db { nx := N, ct := N, bk := E.nx, rt := E.rt } δ')
    (hd : ∀ δ, I as.length δ → E.nx δ) : vLoop dg db E (as.map f) δ := by
  refine loop_inv I h0 (fun i d δ N e hI hN => ?_) (fun δ hI => hd δ (by rwa [List.length_map] at hI))
  rw [List.getElem?_map] at e
  cases q : as[i]? with
  | none => rw [q] at e; cases e
  | some a => rw [q] at e; cases e; exact hs i a δ N q hI hN
theorem loop_rng {lo : Int} {n : Nat} (I : Nat → Dl → Prop) (h0 : I 0 δ)
    (hs : ∀ i δ (N : Dl → Prop), i < n → I i δ → (∀ δ', I (i + 1) δ' → N δ') → dg (.int (lo + (i : Int))) δ fun δ' => db { nx := N, ct := N, bk := E.nx, rt := E.rt } δ')
    (hd : ∀ δ, I n δ → E.nx δ) : vLoop dg db E (intsD lo n) δ := by
  refine loop_any (as := List.range n) (f := fun (k : Nat) => D.int (lo + (k : Int))) I h0 (fun i a δ N e hI hN => ?_) (fun δ hI => hd δ (by rwa [List.length_range] at hI))
  obtain ⟨h1, h2⟩ := List.getElem?_eq_some_iff.mp e
  rw [List.getElem_range] at h2
  subst h2
  exact hs i δ N (by simpa using h1) hI hN
end
theorem at_dI {ns : List Int} {i : Int} (h0 : 0 ≤ i) (h : i < ns.length) : atI (ns.map D.int) i = some (.int (ns.getD i.toNat 0)) := by
  unfold atI ixN
  rw [if_pos h0, List.length_map, if_pos h]
  show (ns.map D.int)[i.toNat]? = _
  rw [List.getElem?_map, List.getD_eq_getElem?_getD]
  have : i.toNat < ns.length := by omega
  rw [List.getElem?_eq_getElem this]
  rfl
theorem scal_ints {ns : List Int} : (ns.map D.int).all D.scal = true := by rw [List.all_map, List.all_eq_true]; exact fun _ _ => rfl
theorem ixN_nat {n : Nat} {i : Int} (h0 : 0 ≤ i) (h : i < n) : ixN n i = some i.toNat := by unfold ixN; rw [if_pos h0, if_pos h]
theorem set_dI {ns : List Int} {j : Nat} {v : Int} : (ns.map D.int).set j (.int v) = (ns.set j v).map D.int := (List.map_set ..).symm
theorem snoc_dI {ns : List Int} {v : Int} : ns.map D.int ++ [.int v] = (ns ++ [v]).map D.int := by simp
theorem emod_lt {x n : Int} (h : 0 < n) : 0 ≤ x % n ∧ x % n < n := ⟨Int.emod_nonneg x (by omega), Int.emod_lt_of_pos x h⟩
theorem cut_ints {ns : List Int} {lo hi : Option Int} : ∃ ms : List Int, cutD (ns.map D.int) lo hi = ms.map D.int ∧ ms = (ns.drop (HT.sIx ns.length 0 lo)).take (HT.sIx ns.length ns.length hi - HT.sIx ns.length 0 lo) := by
  refine ⟨_, ?_, rfl⟩
  unfold cutD
  rw [List.length_map, ← List.map_drop, ← List.map_take]
section
variable {P : DK}
def asO (o : Option D) (P : DK) : Prop := match o with | some d => P d | none => False
theorem asO_some {d : D} : asO (some d) P ↔ P d := Iff.rfl
theorem asO_at {o : Option D} {d : D} (h : o = some d) : asO o P ↔ P d := by rw [h]; rfl
theorem asB_bl {k : Bool} {Q : Bool → Prop} : asB (.bl k) Q ↔ Q k := Iff.rfl
theorem vI0_int {g : Int → Int → D} {i j : Int} : vI0 g (.int i) (.int j) P ↔ P (g i j) := Iff.rfl
theorem vI_int {C : Int → Int → Prop} {g : Int → Int → D} {i j : Int} : vI C g (.int i) (.int j) P ↔ C i j ∧ P (g i j) := Iff.rfl
theorem vU_int {g : Int → D} {i : Int} : vU g (.int i) P ↔ P (g i) := Iff.rfl
theorem asI_int {i : Int} {Q : Int → Prop} : asI [.int i] Q ↔ Q i := Iff.rfl
theorem asII_int {i j : Int} {Q : Int → Int → Prop} : asII [.int i, .int j] Q ↔ Q i j := Iff.rfl
theorem asL_lst {ds : List D} {Q : List D → Prop} : asL (.lst ds) Q ↔ Q ds := Iff.rfl
theorem asL_scr {ns : List Int} {Q : List D → Prop} : asL (.scr ns) Q ↔ Q (ns.map D.int) := Iff.rfl
theorem vIxL_lst {ds : List D} {i : Int} : vIxL (.lst ds) (.int i) P ↔ asO (atI ds i) P := Iff.rfl
theorem vIxL_scr {ns : List Int} {i : Int} : vIxL (.scr ns) (.int i) P ↔ asO (atI (ns.map D.int) i) P := Iff.rfl
theorem vIxT_tup {ds : List D} {i : Int} : vIxT (.tup ds) (.int i) P ↔ asO (atI ds i) P := Iff.rfl
theorem vLen_tup {ds : List D} : vLen [.tup ds] P ↔ P (.int ds.length) := Iff.rfl
theorem vIsN_non {neg : Bool} {x : D} : vIsN neg x .non P ↔ P (.bl (if neg then !x.isNon else x.isNon)) := Iff.rfl
theorem vCat_lst {a b : List D} : vCat (.lst a) (.lst b) P ↔ (a.all D.scal = true ∧ b.all D.scal = true ∧ a.length + b.length ≤ 1000) ∧ P (.lst (a ++ b)) := Iff.rfl
theorem vRep_lst {a : List D} {k : Int} : vRep (.lst a) (.int k) P ↔ (a.all D.scal = true ∧ (-(2 ^ 63) ≤ k ∧ k < 2 ^ 63) ∧ a.length * k.toNat ≤ 1000) ∧ P (.lst (repD a k.toNat)) := Iff.rfl
theorem vList_lst {ds : List D} : vList [.lst ds] P ↔ ds.all D.scal = true ∧ P (.lst ds) := Iff.rfl
theorem vList_scr {ns : List Int} : vList [.scr ns] P ↔ P (dI ns) := by
  show ((ns.map D.int).all D.scal = true ∧ P _) ↔ _
  rw [scal_ints]; exact ⟨fun h => h.2, fun h => ⟨rfl, h⟩⟩
theorem vSum_ints {ns : List Int} : vSum [dI ns] P ↔ P (.int ns.sum) := by
  show (match toInts (ns.map D.int) with | some ns => P (.int ns.sum) | none => False) ↔ _
  rw [toInts_map]
theorem asNs_ints {ns : List Int} {Q : List Int → Prop} : asNs (dI ns) Q ↔ Q ns := by
  show (match toInts (ns.map D.int) with | some ns => Q ns | none => False) ↔ _
  rw [toInts_map]
theorem vgTup2 {g : List D → Dl → (Dl → Prop) → Prop} {n : Nat} {ds : List D} {δ : Dl} {Q : Dl → Prop} : vgTup n g (.tup ds) δ Q ↔ ds.length = n ∧ g ds δ Q := Iff.rfl
theorem vgCons_c {g : D → Dl → (Dl → Prop) → Prop} {gs : List D → Dl → (Dl → Prop) → Prop} {x : D} {xs : List D} {δ : Dl} {Q : Dl → Prop} : vgCons g gs (x :: xs) δ Q ↔ g x δ fun δ' => gs xs δ' Q := Iff.rfl
theorem vgNil_n {δ : Dl} {Q : Dl → Prop} : vgNil [] δ Q ↔ Q δ := Iff.rfl
theorem slotL_s {i : Nat} {δ : Dl} {ds : List D} {Q : List D → Prop} (h : δ[i]? = some (some (.lst ds))) : slotL δ i Q ↔ Q ds := by unfold slotL; rw [h]
theorem tyn_int {i : Int} : (D.int i).tyn = some "int" := rfl
theorem tyn_bl {i : Bool} : (D.bl i).tyn = some "bool" := rfl
theorem tyn_lst {i : List D} : (D.lst i).tyn = some "list" := rfl
theorem tyn_tup {i : List D} : (D.tup i).tyn = some "tuple" := rfl
theorem tyn_str {i : Str} : (D.str i).tyn = some "str" := rfl
theorem tyn_non : D.non.tyn = some "NoneType" := rfl
theorem isB_ii : isB "int" "int" = true := rfl
theorem isB_ib : isB "int" "bool" = false := rfl
theorem isB_ll : isB "list" "list" = true := rfl
theorem isB_tt : isB "tuple" "tuple" = true := rfl
theorem isB_ss : isB "str" "str" = true := rfl
theorem isB_bb : isB "bool" "bool" = true := rfl
theorem isB_bi : isB "bool" "int" = true := rfl
theorem isB_il : isB "int" "list" = false := rfl
theorem isB_nl : isB "NoneType" "list" = false := rfl
end
end L3
set_option Elab.async false
set_option linter.all false
set_option maxRecDepth 100000
set_option maxHeartbeats 4000000
namespace L2
open PySem PySem.Spec PyProof.Rows
section
variable {X : Cx} {K : PySem.W.Frag}
theorem call_minL (hK : X.K = K) (hc : X.calm = true) : CallR X (.builtin "min") (fun xs H Q => ∃ (a : Addr) (ns : List Int), xs = [.ref a] ∧ SqL K H a (ns.map V.int) ∧ 0 < ns.length ∧ ∀ M, M ∈ ns → (∀ x ∈ ns, M ≤ x) → Q (.int M) H) := by
  subst hK
  intro pins s σ H xs us Q I r h
  obtain ⟨a, ns, rfl, hS, hne, q⟩ := h
  obtain ⟨u, rfl, ru⟩ := vals1 r
  obtain rfl : u = Value.ref a := ru
  obtain ⟨its, rv, pl, hz⟩ := I.list hS
  have hi := ints_are rv
  obtain ⟨xs', e⟩ := hi.allInts.items
  have hl : s.heap.IsList a (intItems xs') := by rw [← e]; exact pl.isList
  have hns : ns = xs'.toList.map (·.1) := by rw [← hi.numsOf, ← nums_intItems, ← e]
  have hsz : 0 < xs'.size := by
    have h3 := hne; rw [hns, List.length_map, Array.length_toList] at h3; exact h3
  refine min_intList (I.ok.hd hc) hl hsz fun v h' tk hv hk => ?_
  obtain ⟨t, rfl⟩ := intItems_at hv
  obtain ⟨h1, h2⟩ := argBest_lt (numAt xs') (xs'.size - 1)
  refine ⟨.int _, H, I.kept hk, ⟨t, rfl⟩, q _ ?_ fun b hb => ?_⟩
  · rw [hns, numAt_eq]; exact getD_mem (by rw [List.length_map, Array.length_toList]; omega)
  · rw [hns] at hb
    obtain ⟨j, hj, rfl⟩ := mem_getD hb
    rw [List.length_map, Array.length_toList] at hj
    rw [← numAt_eq]; exact h2 j (by omega)
theorem bools_are : ∀ {bs : List Bool} {its : List Value}, Vals (bs.map V.bl) its → LSm.BoolsAre its bs
  | [], _, .nil => .nil
  | b :: bs, _, .cons r t => by
    cases (show _ = Value.bool b from r)
    exact .cons b (bools_are t)
theorem call_allL (hK : X.K = K) (hc : X.calm = true) : CallR X (.builtin "all") (fun xs H Q => ∃ (a : Addr) (bs : List Bool), xs = [.ref a] ∧ SqL K H a (bs.map V.bl) ∧ Q (.bl (bs.all id)) H) := by
  subst hK
  intro pins s σ H xs us Q I r h
  obtain ⟨l, bs, rfl, hS, q⟩ := h
  obtain ⟨u, rfl, ru⟩ := vals1 r
  obtain rfl : u = Value.ref l := ru
  obtain ⟨vs, rv, pl, hz⟩ := I.list hS
  have hb := bools_are rv
  have hl := pl.isList
  have hlt : l < s.heap.objs.size := by obtain ⟨_, e, _⟩ := hl; exact Heap.lt_size e
  refine PySem.call_all_walk (wpAny_pyIter_list hl ?_)
  refine ⟨s.heap.objs.size, [s.heap.objs.size, l], [s.heap.objs.size], vs.toArray.size, _, _, fun i => (bs[i]?).getD true, rfl, Walks.list (A := X.A.in1) (I.ok.hd hc) _ l (Nat.ne_of_lt hlt) vs.toArray,
    ⟨⟨_, Heap.get?_push_size _ rfl, rfl, rfl⟩, hl.push _⟩, fun i v s' Q' E' hP hQ => ?_, fun h' tk hk => ?_⟩
  · obtain ⟨b, e, rfl⟩ := hb.get i v (by simpa using hP)
    simp only [e, Option.getD_some] at hQ
    exact wpAny_truthy_bool hQ
  · have e : ((List.range vs.toArray.size).all fun i => (bs[i]?).getD true) = bs.all id := by
      rw [List.size_toArray, hb.length]; exact LSm.range_all bs
    rw [e]
    exact ⟨.bl _, H, I.kept (LSm.kept_iter hk), rfl, q⟩
theorem call_anyL (hK : X.K = K) (hc : X.calm = true) : CallR X (.builtin "any") (fun xs H Q => ∃ (a : Addr) (bs : List Bool), xs = [.ref a] ∧ SqL K H a (bs.map V.bl) ∧ Q (.bl (bs.any id)) H) := by
  subst hK
  intro pins s σ H xs us Q I r h
  obtain ⟨l, bs, rfl, hS, q⟩ := h
  obtain ⟨u, rfl, ru⟩ := vals1 r
  obtain rfl : u = Value.ref l := ru
  obtain ⟨vs, rv, pl, hz⟩ := I.list hS
  have hb := bools_are rv
  have hl := pl.isList
  have hlt : l < s.heap.objs.size := by obtain ⟨_, e, _⟩ := hl; exact Heap.lt_size e
  refine PySem.call_any_walk (wpAny_pyIter_list hl ?_)
  refine ⟨s.heap.objs.size, [s.heap.objs.size, l], [s.heap.objs.size], vs.toArray.size, _, _, fun i => (bs[i]?).getD false, rfl, Walks.list (A := X.A.in1) (I.ok.hd hc) _ l (Nat.ne_of_lt hlt) vs.toArray,
    ⟨⟨_, Heap.get?_push_size _ rfl, rfl, rfl⟩, hl.push _⟩, fun i v s' Q' E' hP hQ => ?_, fun h' tk hk => ?_⟩
  · obtain ⟨b, e, rfl⟩ := hb.get i v (by simpa using hP)
    simp only [e, Option.getD_some] at hQ
    exact wpAny_truthy_bool hQ
  · have e : ((List.range vs.toArray.size).any fun i => (bs[i]?).getD false) = bs.any id := by
      rw [List.size_toArray, hb.length]; exact LSm.range_any bs
    rw [e]
    exact ⟨.bl _, H, I.kept (LSm.kept_iter hk), rfl, q⟩
def rngV (n : Nat) : List V := (List.range n).map fun (k : Nat) => .int (k : Int)
def tListRng (te : TE) : TE := fun σ H Q => te σ H fun x H1 => ∃ j : Int, x = .int j ∧ j ≤ 100000 ∧ -(2 ^ 62) ≤ j ∧ ∀ l, H1 l = none → Q (.ref l) (upd H1 l (.lst (rngV j.toNat)))
theorem pe_listRngK {e : Expr} {te : TE} {p p2 pos pos2 : Pos} (hc : X.calm = true) (hg : Gl X "list") (hm : X.mg "list" = none) (hg2 : Gl X "range") (hm2 : X.mg "range" = none) (he : PE X e te)
    (hs : starEach [Expr.Call (.Name "range" p2) [e] [] pos2] X.env = [(false, eval (.Call (.Name "range" p2) [e] [] pos2) X.env)] := by rfl) (hs2 : starEach [e] X.env = [(false, eval e X.env)] := by rfl) :
    PE X (.Call (.Name "list" p) [.Call (.Name "range" p2) [e] [] pos2] [] pos) (tListRng te) := by
  intro pins s σ H Q I h
  refine wpAny_Call_Name_kw (ld_blt I hg hm boot_list ?_)
  refine PyProof.Rows.callWith_type1 ?_ hs rfl
  rw [hs]
  refine Calls.spliced_cons ?_
  refine wpAny_Call_Name_kw (ld_blt I hg2 hm2 boot_range ?_)
  refine PyProof.Rows.callWith_type1 ?_ hs2 rfl
  rw [hs2]
  refine Calls.spliced_cons (thn (he pins s σ H _ I h) fun v s1 ⟨x, H1, I1, r1, j, ex, hj, hj2, q⟩ => ?_)
  subst ex
  obtain ⟨t, rfl⟩ := r1
  refine Calls.spliced_nil (call_range_1 (Calls.spliced_nil ?_))
  have hn : Builtin.Range.rangeSize 0 j 1 = (j.toNat : Nat) := by rw [rangeSize_one]; split <;> omega
  refine call_list_range (n := j.toNat) (I.ok.hd hc) (IsRange.new ..) (small_one (by omega) (by omega) hj2 (by omega)) hn (by omega) fun h' tk acc' c' hk hS' hacc => ?_
  have hsz : ∀ o : Obj, (s1.heap.push o).objs.size = s1.heap.objs.size + 1 := fun o => Heap.size_push ..
  have k1 : ∀ b o, s1.heap.get? b = some o → h'.get? b = some o := fun b o e => hk b o (Heap.get?_push_of_some _ e)
  have hn1 : H1 (s1.heap.objs.size + 1) = none := I1.hok.fresh (Nat.le_succ _)
  dsimp only at hS' ⊢
  rw [hsz] at hS' ⊢
  have hacc2 : Vals (rngV j.toNat) acc'.toList := by
    obtain ⟨a1, a2⟩ := hacc
    have key : ∀ (n : Nat) (f : Nat → V) (its : List Value), its.length = n → (∀ i v, its[i]? = some v → RelV (f i) v) → Vals ((List.range n).map f) its := by
      intro n
      induction n with
      | zero => intro f its h1 h2; cases its with | nil => exact .nil | cons _ _ => simp at h1
      | succ n ih =>
        intro f its h1 h2
        cases its with
        | nil => simp at h1
        | cons v vs =>
          rw [List.range_succ_eq_map, List.map_cons, List.map_map]
          exact .cons (h2 0 v rfl) (ih (f ∘ Nat.succ) vs (by simpa using h1) fun i w e => h2 (i + 1) w (by simpa using e))
    refine key _ _ _ (by simpa using a1) fun i v e => ?_
    obtain ⟨t, hv⟩ := a2 i v (by simpa using e)
    exact ⟨t, by rw [hv]; simp⟩
  refine ⟨.ref (s1.heap.objs.size + 1), _, I1.laid (t' := tk) (o := .lst (rngV j.toNat)) k1 (Nat.le_succ _) ⟨by unfold rngV; rw [List.length_map, List.length_range]; exact small (by omega), acc'.toList, c', hacc2, ?_⟩, rfl, q _ hn1⟩
  rw [hS']
end
end L2
namespace L2
open PySem PySem.Spec PyProof.Rows
section
variable {X : Cx} {K : PySem.W.Frag}
end
end L2
namespace L2
open PySem PySem.Spec PyProof.Rows
section
variable {X : Cx}
end
end L2
set_option Elab.async false
set_option linter.all false
set_option maxRecDepth 100000
set_option maxHeartbeats 4000000
namespace L3
open PySem
open L2 hiding D Rf Rfs Rp dI dT
section
variable {K : PySem.W.Frag} {ρ : Bool} {Γr Γl Γ Γ1 Γ2 Γn M : List Nat} {t u : TS} {te ta tb tx t1 t2 : TE} {de da db dx d1 d2 : DE} {d e : DS}
variable {B0 : Hp} {fps : Nat → List Addr} {δ : Dl} {σ : St} {H H' : Hp}
def vMinL (xs : List D) (P : DK) : Prop := match xs with | [x] => asNs x fun ns => 0 < ns.length ∧ ∀ M, M ∈ ns → (∀ x ∈ ns, M ≤ x) → P (.int M) | _ => False
def vMaxL (xs : List D) (P : DK) : Prop := match xs with | [x] => asNs x fun ns => 0 < ns.length ∧ ∀ M, M ∈ ns → (∀ x ∈ ns, x ≤ M) → P (.int M) | _ => False
theorem c_minL : CallV K (fun xs H Q => ∃ (a : Addr) (ns : List Int), xs = [.ref a] ∧ SqL K H a (ns.map V.int) ∧ 0 < ns.length ∧ ∀ M, M ∈ ns → (∀ x ∈ ns, M ≤ x) → Q (.int M) H) vMinL := ⟨fun xs P P' k h => by
    unfold vMinL at h ⊢
    revert h
    split
    · exact fun h => by obtain ⟨ns, e, z⟩ := asNs_out h; exact asNs_in e ⟨z.1, fun M a b => k _ (z.2 M a b)⟩
    · exact id,
  fun {H xs vs Q} r h => by
    unfold vMinL at h
    split at h
    · obtain ⟨v, rfl, r0⟩ := r.one
      obtain ⟨ns, e, h⟩ := asNs_out h
      obtain ⟨a, ys, fq, rfl, hs, hr⟩ := r0.seq e
      rw [hr.intsV] at hs
      exact ⟨a, ns, rfl, hs, h.1, fun M h1 h2 => h.2 M h1 h2 _ H [] (Same.refl H) ⟨rfl, rfl⟩ Nw.nil⟩
    · exact h.elim⟩
def toBools : List D → Option (List Bool)
  | [] => some []
  | .bl i :: ds => (toBools ds).map (i :: ·)
  | _ => none
theorem toBools_map : ∀ {ns : List Bool}, toBools (ns.map D.bl) = some ns
  | [] => rfl
  | n :: ns => by rw [List.map_cons, toBools, toBools_map]; rfl
theorem toBools_eq : ∀ {ds : List D} {ns : List Bool}, toBools ds = some ns → ds = ns.map D.bl
  | [], ns, h => by cases h; rfl
  | .bl i :: ds, ns, h => by
    rw [toBools] at h
    cases e : toBools ds with
    | none => rw [e] at h; cases h
    | some ms => rw [e] at h; cases h; rw [toBools_eq e]; rfl
  | .non :: _, _, h => by cases h
  | .int _ :: _, _, h => by cases h
  | .str _ :: _, _, h => by cases h
  | .lst _ :: _, _, h => by cases h
  | .tup _ :: _, _, h => by cases h
  | .dic _ :: _, _, h => by cases h
  | .dit _ :: _, _, h => by cases h
  | .scr _ :: _, _, h => by cases h
def asBs (x : D) (P : List Bool → Prop) : Prop := asL x fun ds => match toBools ds with | some ns => P ns | none => False
theorem asBs_out {x : D} {P : List Bool → Prop} (h : asBs x P) : ∃ ns, x.items = some (ns.map D.bl) ∧ P ns := by
  obtain ⟨ds, e, h⟩ := asL_out h
  cases q : toBools ds with
  | none => rw [q] at h; exact h.elim
  | some ns => rw [q] at h; rw [toBools_eq q] at e; exact ⟨ns, e, h⟩
theorem asBs_in {x : D} {ns : List Bool} {P : List Bool → Prop} (e : x.items = some (ns.map D.bl)) (h : P ns) : asBs x P := by
  refine asL_in e ?_
  rw [toBools_map]; exact h
theorem Rfs.boolsV {ns : List Bool} {vs : List V} {fp : List Addr} (h : Rfs K H (ns.map D.bl) vs fp) : vs = ns.map V.bl := by
  have hs : (ns.map D.bl).all D.scal = true := by rw [List.all_map, List.all_eq_true]; exact fun _ _ => rfl
  rw [(h.scals hs).1, List.map_map]
  rfl
def vAll (xs : List D) (P : DK) : Prop := match xs with | [x] => asBs x fun ns => P (.bl (ns.all id)) | _ => False
def vAny (xs : List D) (P : DK) : Prop := match xs with | [x] => asBs x fun ns => P (.bl (ns.any id)) | _ => False
theorem c_allL : CallV K (fun xs H Q => ∃ (a : Addr) (bs : List Bool), xs = [.ref a] ∧ SqL K H a (bs.map V.bl) ∧ Q (.bl (bs.all id)) H) vAll := ⟨fun xs P P' k h => by
    unfold vAll at h ⊢
    revert h
    split
    · exact fun h => by obtain ⟨ns, e, z⟩ := asBs_out h; exact asBs_in e (k _ z)
    · exact id,
  fun {H xs vs Q} r h => by
    unfold vAll at h
    split at h
    · obtain ⟨v, rfl, r0⟩ := r.one
      obtain ⟨ns, e, h⟩ := asBs_out h
      obtain ⟨a, ys, fq, rfl, hs, hr⟩ := r0.seq e
      rw [hr.boolsV] at hs
      exact ⟨a, ns, rfl, hs, h _ H [] (Same.refl H) ⟨rfl, rfl⟩ Nw.nil⟩
    · exact h.elim⟩
theorem c_anyL : CallV K (fun xs H Q => ∃ (a : Addr) (bs : List Bool), xs = [.ref a] ∧ SqL K H a (bs.map V.bl) ∧ Q (.bl (bs.any id)) H) vAny := ⟨fun xs P P' k h => by
    unfold vAny at h ⊢
    revert h
    split
    · exact fun h => by obtain ⟨ns, e, z⟩ := asBs_out h; exact asBs_in e (k _ z)
    · exact id,
  fun {H xs vs Q} r h => by
    unfold vAny at h
    split at h
    · obtain ⟨v, rfl, r0⟩ := r.one
      obtain ⟨ns, e, h⟩ := asBs_out h
      obtain ⟨a, ys, fq, rfl, hs, hr⟩ := r0.seq e
      rw [hr.boolsV] at hs
      exact ⟨a, ns, rfl, hs, h _ H [] (Same.refl H) ⟨rfl, rfl⟩ Nw.nil⟩
    · exact h.elim⟩
theorem vAll_bools {ns : List Bool} {P : DK} : vAll [.lst (ns.map D.bl)] P ↔ P (.bl (ns.all id)) := by
  show (match toBools (ns.map D.bl) with | some ns => P (.bl (ns.all id)) | none => False) ↔ _
  rw [toBools_map]
theorem vAny_bools {ns : List Bool} {P : DK} : vAny [.lst (ns.map D.bl)] P ↔ P (.bl (ns.any id)) := by
  show (match toBools (ns.map D.bl) with | some ns => P (.bl (ns.any id)) | none => False) ↔ _
  rw [toBools_map]
theorem vMinL_ints {ns : List Int} {P : DK} : vMinL [dI ns] P ↔ 0 < ns.length ∧ ∀ M, M ∈ ns → (∀ x ∈ ns, M ≤ x) → P (.int M) := asNs_ints
theorem vMaxL_ints {ns : List Int} {P : DK} : vMaxL [dI ns] P ↔ 0 < ns.length ∧ ∀ M, M ∈ ns → (∀ x ∈ ns, x ≤ M) → P (.int M) := asNs_ints
def rngI (n : Nat) : List Int := (List.range n).map fun (k : Nat) => (k : Int)
def vListRng (de : DE) (δ : Dl) (P : DK) : Prop := de δ fun x => asI [x] fun j => (j ≤ 100000 ∧ -(2 ^ 62) ≤ j) ∧ P (dI (rngI j.toNat))
theorem em_listRng (he : ER K Γ te de) : EM K Γ [] (tListRng te) (vListRng de) :=
  ⟨fun δ P P' k h => he.mono _ _ _ (fun x z => by obtain ⟨j, rfl, z⟩ := asI1_out z; exact ⟨z.1, k _ z.2⟩) h,
   fun {B0 fps δ σ H Q} o h => he.run o (he.mono _ _ _ (fun x z v H1 s1 r1 => by
    obtain ⟨j, ej, z'⟩ := asI1_out z
    subst ej
    refine ⟨j, r1.int, z'.1.1, z'.1.2, fun l hl => ?_⟩
    have e : rngV j.toNat = (rngI j.toNat).map V.int := by unfold rngV rngI; rw [List.map_map]; rfl
    rw [e]
    have s2 : Same H1 (upd H1 l (.lst ((rngI j.toNat).map V.int))) := Same.new' hl
    exact z'.2 _ _ [l] (s1.trans s2) (Rf.ofInts upd_same) ((Nw.one hl upd_same).any.later s1)) h)⟩
theorem asO_out {o : Option D} {P : DK} (h : asO o P) : ∃ d, o = some d ∧ P d := by
  unfold asO at h; split at h
  · exact ⟨_, rfl, h⟩
  · exact h.elim
theorem Rfs.drop : ∀ {ds : List D} {xs : List V} {fq : List Addr} (n : Nat), Rfs K H ds xs fq → ∃ fq', Rfs K H (ds.drop n) (xs.drop n) fq'
  | ds, xs, fq, 0, h => ⟨fq, h⟩
  | [], xs, fq, n + 1, h => by obtain ⟨rfl, rfl⟩ := h; exact ⟨[], rfl, rfl⟩
  | d :: ds, xs, fq, n + 1, h => by
    obtain ⟨x, r, f1, f2, rfl, rfl, h1, h2⟩ := h
    exact Rfs.drop n h2
theorem Rfs.take : ∀ {ds : List D} {xs : List V} {fq : List Addr} (n : Nat), Rfs K H ds xs fq → ∃ fq', Rfs K H (ds.take n) (xs.take n) fq'
  | ds, xs, fq, 0, h => ⟨[], rfl, rfl⟩
  | [], xs, fq, n + 1, h => by obtain ⟨rfl, rfl⟩ := h; exact ⟨[], rfl, rfl⟩
  | d :: ds, xs, fq, n + 1, h => by
    obtain ⟨x, r, f1, f2, rfl, rfl, h1, h2⟩ := h
    obtain ⟨fq', h3⟩ := Rfs.take n h2
    exact ⟨f1 ++ fq', x, r.take n, f1, fq', rfl, rfl, h1, h3⟩
theorem Rfs.cut {ds : List D} {xs : List V} {fq : List Addr} (lo hi : Option Int) (h : Rfs K H ds xs fq) : ∃ fq', Rfs K H (cutD ds lo hi) (cutV xs lo hi) fq' := by
  unfold cutD cutV
  rw [h.length]
  obtain ⟨f1, h1⟩ := h.drop (HT.sIx ds.length 0 lo)
  exact h1.take _
theorem rd_new {ds : List D} {xs : List V} {fq : List Addr} {p : Addr} (h : Rfs K H ds xs fq) (hp : H p = none) : Same H (upd H p (.lst xs)) ∧ Rp K (upd H p (.lst xs)) (.lst ds) (.ref p) :=
  have s : Same H (upd H p (.lst xs)) := Same.new' hp
  ⟨s, p :: fq, p, xs, fq, rfl, upd_same, rfl, h.same s⟩
def vSlR (de : DE) (dl dh : DO) (δ : Dl) (P : DK) : Prop := de δ fun x => dl δ fun l => dh δ fun u => asL x fun ds => P (.lst (cutD ds l u))
theorem er_sl {tl th : TO} {dl dh : DO} (he : ER K Γ te de) (hl : OR K Γ tl dl) (hh : OR K Γ th dh) : ER K Γ (tSl (rSlL K) te tl th) (vSlR de dl dh) :=
  ⟨fun δ P P' k h => he.mono _ _ _ (fun x z => hl.mono _ _ _ (fun l z => hh.mono _ _ _ (fun u z => by obtain ⟨ds, e, z⟩ := asL_out z; exact asL_in e (k _ z)) z) z) h,
   fun {B0 fps δ σ H Q} o h => he.run o (he.mono _ _ _ (fun x z v H1 s1 r1 => hl.run (o.same s1) (hl.mono _ _ _ (fun l z H2 s2 => hh.run ((o.same s1).same s2) (hh.mono _ _ _ (fun u z H3 s3 => by
    obtain ⟨ds, e, z⟩ := asL_out z
    obtain ⟨a, xs, fq, rfl, hs, hr⟩ := (r1.same (s2.trans s3)).seq e
    obtain ⟨fq', hr'⟩ := hr.cut l u
    refine ⟨a, _, rfl, hs, fun p hp => ?_⟩
    obtain ⟨n1, n2⟩ := rd_new hr' hp
    exact z _ _ (((s1.trans s2).trans s3).trans n1) n2) z)) z)) h)⟩
structure OpW (K : PySem.W.Frag) (r : R2) (rv : D2) : Prop where
  mono : ∀ x y (P P' : DK), (∀ z, P z → P' z) → rv x y P → rv x y P'
  run : ∀ {H x y v w Q}, Rp K H x v → Rp K H y w → rv x y (fun z => ∀ u H', Same H H' → Rp K H' z u → Q u H') → r v w H Q
theorem er_op {r : R2} {rv : D2} (ho : OpW K r rv) (ha : ER K Γ ta da) (hb : ER K Γ tb db) : ER K Γ (tOp r ta tb) (vOp rv da db) :=
  ⟨fun δ P P' k h => ha.mono _ _ _ (fun x z => hb.mono _ _ _ (fun y z => ho.mono x y _ _ k z) z) h,
   fun o q => ha.run o (ha.mono _ _ _ (fun x z v H1 s1 r1 => hb.run (o.same s1) (hb.mono _ _ _ (fun y z w H2 s2 r2 => ho.run (r1.same s2) r2 (ho.mono _ _ _ _ (fun u z u' H' s r => z u' H' ((s1.trans s2).trans s) r) z)) z)) q)⟩
def vCatR (x y : D) (P : DK) : Prop := match x, y with | .lst a, .lst b => a.length + b.length ≤ 1000 ∧ P (.lst (a ++ b)) | _, _ => False
theorem vCatR_lst {a b : List D} {P : DK} : vCatR (.lst a) (.lst b) P ↔ a.length + b.length ≤ 1000 ∧ P (.lst (a ++ b)) := Iff.rfl
theorem o_catR : OpW K rCat vCatR := ⟨fun x y P P' k h => by unfold vCatR at h ⊢; revert h; split <;> first | exact fun h => ⟨h.1, k _ h.2⟩ | exact id, fun {H x y v w Q} r1 r2 h => by
  unfold vCatR at h
  split at h
  · rename_i a b
    obtain ⟨hl, h⟩ := h
    obtain ⟨f1, l1, xs, q1, rfl, e1, _, hr1⟩ := r1
    obtain ⟨f2, l2, ys, q2, rfl, e2, _, hr2⟩ := r2
    refine ⟨l1, l2, _, _, rfl, rfl, e1, e2, by rw [hr1.length, hr2.length]; exact le1000 hl, fun p hp => ?_⟩
    obtain ⟨n1, n2⟩ := rd_new (hr1.append hr2) hp
    exact h _ _ n1 n2
  · exact h.elim⟩
def vRepR (x y : D) (P : DK) : Prop := match x, y with | .lst a, .int k => ((-(2 ^ 63) ≤ k ∧ k < 2 ^ 63) ∧ a.length * k.toNat ≤ 1000) ∧ P (.lst (repD a k.toNat)) | _, _ => False
theorem vRepR_lst {a : List D} {k : Int} {P : DK} : vRepR (.lst a) (.int k) P ↔ ((-(2 ^ 63) ≤ k ∧ k < 2 ^ 63) ∧ a.length * k.toNat ≤ 1000) ∧ P (.lst (repD a k.toNat)) := Iff.rfl
def vListR (xs : List D) (P : DK) : Prop := match xs with | [x] => asL x fun ds => P (.lst ds) | _ => False
theorem vListR_lst {ds : List D} {P : DK} : vListR [.lst ds] P ↔ P (.lst ds) := Iff.rfl
theorem vEqS_bl {neg : Bool} {i j : Bool} {P : DK} : vEqS neg (.bl i) (.bl j) P ↔ P (.bl (if neg then !decide (i = j) else decide (i = j))) := by
  unfold vEqS
  simp only [D.scal, D.toV, scal, true_and, V.bl.injEq]
theorem vEqS_str {neg : Bool} {i j : Str} {P : DK} : vEqS neg (.str i) (.str j) P ↔ P (.bl (if neg then !decide (i = j) else decide (i = j))) := by
  unfold vEqS
  simp only [D.scal, D.toV, scal, true_and, V.str.injEq]
end
end L3
set_option Elab.async false
set_option linter.all false
set_option maxRecDepth 100000
set_option maxHeartbeats 4000000
namespace L3
open PySem
open L2 hiding D Rf Rfs Rp dI dT
def Rect (n m : Nat) (t : List (List Int)) : Prop := t.length = n ∧ ∀ r ∈ t, r.length = m
abbrev rowAt (t : List (List Int)) (i : Nat) : List Int := t.getD i []
abbrev cellAt (t : List (List Int)) (i j : Nat) : Int := (t.getD i []).getD j 0
abbrev setCell (t : List (List Int)) (i j : Nat) (v : Int) : List (List Int) := t.set i ((t.getD i []).set j v)
theorem rowAt_mem {t : List (List Int)} {i : Nat} (h : i < t.length) : rowAt t i ∈ t := by
  unfold rowAt
  rw [List.getD_eq_getElem?_getD, List.getElem?_eq_getElem h]
  exact List.getElem_mem h
theorem Rect.row {n m : Nat} {t : List (List Int)} (h : Rect n m t) {i : Nat} (hi : i < n) : (rowAt t i).length = m := h.2 _ (rowAt_mem (by rw [h.1]; exact hi))
theorem Rect.set {n m : Nat} {t : List (List Int)} (h : Rect n m t) {i : Nat} {r : List Int} (hr : r.length = m) : Rect n m (t.set i r) := by
  refine ⟨by rw [List.length_set]; exact h.1, fun x hx => ?_⟩
  rcases List.mem_or_eq_of_mem_set hx with z | z
  · exact h.2 x z
  · rw [z]; exact hr
theorem Rect.setCell {n m : Nat} {t : List (List Int)} (h : Rect n m t) {i j : Nat} {v : Int} (hi : i < n) : Rect n m (setCell t i j v) := h.set (by rw [List.length_set]; exact h.row hi)
theorem get_dT {t : List (List Int)} {i : Nat} (h : i < t.length) : (t.map dI)[i]? = some (dI (rowAt t i)) := by
  unfold rowAt
  rw [List.getElem?_map, List.getD_eq_getElem?_getD, List.getElem?_eq_getElem h]
  rfl
theorem at_dT {t : List (List Int)} {i : Int} (h0 : 0 ≤ i) (h : i < t.length) : atI (t.map dI) i = some (dI (rowAt t i.toNat)) := by
  unfold atI
  rw [ixN_nat h0 (by rw [List.length_map]; exact h)]
  exact get_dT (by omega)
theorem set_dT {t : List (List Int)} {i : Nat} {r : List Int} : (t.map dI).set i (dI r) = (t.set i r).map dI := (List.map_set ..).symm
section
variable {i j : Nat} {δ : Dl} {de d1 d2 dx : DE} {E : DEnds} {t : List (List Int)} {r : List Int} {a b v : Int}
theorem setItem_ints (hs : δ[i]? = some (some (dI r))) (hde : ∀ R : DK, R (.int v) → de δ R) (hdx : ∀ R : DK, R (.int a) → dx δ R) (ha : 0 ≤ a ∧ a < r.length) (h : E.nx (δ.set i (some (dI (r.set a.toNat v))))) : vSetItem i de dx E δ := by
  unfold vSetItem
  refine hde _ ((slotL_s hs).mpr (hdx _ ?_))
  show match ixN (r.map D.int).length a with | some j => E.nx (δ.set i (some (.lst ((r.map D.int).set j (.int v))))) | none => False
  rw [ixN_nat ha.1 (by rw [List.length_map]; exact ha.2)]
  show E.nx (δ.set i (some (.lst ((r.map D.int).set a.toNat (.int v)))))
  rw [set_dI]; exact h
theorem setItem2_tab (hs : δ[i]? = some (some (dT t))) (hde : ∀ R : DK, R (.int v) → de δ R) (h1 : ∀ R : DK, R (.int a) → d1 δ R) (h2 : ∀ R : DK, R (.int b) → d2 δ R) (ha : 0 ≤ a ∧ a < t.length) (hb : 0 ≤ b ∧ b < (rowAt t a.toNat).length)
    (h : E.nx (δ.set i (some (dT (setCell t a.toNat b.toNat v))))) : vSetItem2 i de d1 d2 E δ := by
  unfold vSetItem2
  refine hde _ ((slotL_s hs).mpr (h1 _ ?_))
  show asLst (atI (t.map dI) a) _
  rw [at_dT ha.1 ha.2]
  refine h2 _ ?_
  show match ixN (t.map dI).length a, ixN ((rowAt t a.toNat).map D.int).length b with | some j, some j2 => E.nx (δ.set i (some (.lst ((t.map dI).set j (.lst (((rowAt t a.toNat).map D.int).set j2 (.int v))))))) | _, _ => False
  rw [ixN_nat ha.1 (by rw [List.length_map]; exact ha.2), ixN_nat hb.1 (by rw [List.length_map]; exact hb.2)]
  show E.nx (δ.set i (some (.lst ((t.map dI).set a.toNat (.lst (((rowAt t a.toNat).map D.int).set b.toNat (.int v)))))))
  rw [set_dI, set_dT]; exact h
end
theorem asO_ints {r : List Int} {a : Int} {P : DK} (ha : 0 ≤ a ∧ a < r.length) (h : P (.int (r.getD a.toNat 0))) : asO (atI (r.map D.int) a) P := (asO_at (at_dI ha.1 ha.2)).mpr h
theorem asO_rows {t : List (List Int)} {a : Int} {P : DK} (ha : 0 ≤ a ∧ a < t.length) (h : P (dI (rowAt t a.toNat))) : asO (atI (t.map dI) a) P := (asO_at (at_dT ha.1 ha.2)).mpr h
theorem rep_zero {n : Nat} {x : Int} : repD [D.int x] n = (List.replicate n x).map D.int := by
  unfold repD
  induction n with
  | zero => rfl
  | succ n ih => rw [List.replicate_succ, List.flatten_cons, ih, List.replicate_succ]; rfl
theorem map_dI {α : Type} {as : List α} {f : α → List Int} : as.map (fun a => dI (f a)) = (as.map f).map dI := by rw [List.map_map]; rfl
theorem map_int {α : Type} {as : List α} {f : α → Int} : as.map (fun a => D.int (f a)) = (as.map f).map D.int := by rw [List.map_map]; rfl
theorem am_cons0 {K : PySem.W.Frag} {Γ : List Nat} {ta : TE} {da : DE} {tr : TA} {dr : DA} (ha : EM K Γ [] ta da) (hr : AM K Γ [] tr dr) : AM K Γ [] (tCons ta tr) (vCons da dr) := am_cons ha hr (fun _ h => (nomatch h)) (fun _ h => (nomatch h))
theorem asO_idx {ds : List D} {a : Int} {P : DK} (h0 : 0 ≤ a) (h : a < ds.length) (k : asO (ds[a.toNat]?) P) : asO (atI ds a) P := by
  unfold atI; rw [ixN_nat h0 h]; exact k
theorem comp_copy {di : DI} {dg : D → Dl → (Dl → Prop) → Prop} {dt : DT} {de : DE} {k : Nat} {idx : List Nat} {δ : Dl} {P : DK} {t : List (List Int)} (hdi : ∀ R : List D → Prop, R (t.map dI) → di δ R) (hl : t.length ≤ 1000)
    (hb : ∀ r ∈ t, ∀ R : List D → Prop, R [dI r] → vBody dg dt de (cbaseD k idx δ) (dI r) R) (h : P (dT t)) : vComp di dg dt de k idx δ P := comp_rows (g := dI) hdi hl hb h
theorem map_bl {α : Type} {as : List α} {f : α → Bool} : as.map (fun a => D.bl (f a)) = (as.map f).map D.bl := by rw [List.map_map]; rfl
theorem cat_dI {a b : List Int} : a.map D.int ++ b.map D.int = (a ++ b).map D.int := List.map_append.symm
theorem rng_len {n : Nat} : (rngI n).length = n := by unfold rngI; rw [List.length_map, List.length_range]
theorem rng_mem {n : Nat} {x : Int} : x ∈ rngI n ↔ 0 ≤ x ∧ x < n := by
  unfold rngI
  rw [List.mem_map]
  constructor
  · rintro ⟨k, hk, rfl⟩
    have := List.mem_range.mp hk
    omega
  · rintro ⟨h0, h1⟩
    exact ⟨x.toNat, List.mem_range.mpr (by omega), by omega⟩
theorem perm_at {n i : Nat} {p : List Int} (h : p.Perm (rngI n)) (hi : i < n) : i < p.length ∧ 0 ≤ p.getD i 0 ∧ p.getD i 0 < n := by
  have hl : p.length = n := by rw [h.length_eq, rng_len]
  have hlt : i < p.length := by omega
  have : p.getD i 0 ∈ rngI n := h.mem_iff.mp (by rw [List.getD_eq_getElem?_getD, List.getElem?_eq_getElem hlt]; exact List.getElem_mem hlt)
  exact ⟨hlt, rng_mem.mp this⟩
def colOf (t : List (List Int)) (j : Nat) : List Int := t.map fun r => r.getD j 0
end L3
namespace L3
open PySem
open L2 hiding D Rf Rfs Rp dI dT
end L3
namespace L3
open PySem
open L2 hiding D Rf Rfs Rp dI dT
theorem cutD_to {ds : List D} {k : Int} (h : 0 ≤ k) : cutD ds none (some k) = ds.take k.toNat := by
  obtain ⟨n, rfl⟩ := Int.eq_ofNat_of_zero_le h
  unfold cutD
  rw [HT.sIx_nat, HT.sIx_none, Nat.sub_zero, List.drop_zero, ← List.take_eq_take_min]
  rfl
theorem cutD_from {ds : List D} {k : Int} (h : 0 ≤ k) (h2 : k ≤ ds.length) : cutD ds (some k) none = ds.drop k.toNat := by
  obtain ⟨n, rfl⟩ := Int.eq_ofNat_of_zero_le h
  unfold cutD
  rw [HT.sIx_nat, HT.sIx_none, Nat.min_eq_left (by omega), List.take_of_length_le (by rw [List.length_drop]; exact Nat.le_refl _)]
  rfl
theorem asO_end {α : Type} {as : List α} {f : α → D} {i : Int} {P : DK} (hne : 1 ≤ as.length) (hi : i = 0 ∨ i = -1) (h : ∀ a ∈ as, P (f a)) : asO (atI (as.map f) i) P := by
  have key : ∀ j, j < as.length → asO ((as.map f)[j]?) P := fun j hj => by
    rw [List.getElem?_map, List.getElem?_eq_getElem hj]
    exact h _ (List.getElem_mem hj)
  unfold atI
  rcases hi with rfl | rfl
  · rw [ixN_nat (by omega) (by rw [List.length_map]; omega)]
    exact key 0 (by omega)
  · have : ixN (as.map f).length (-1) = some (as.length - 1) := by
      unfold ixN
      rw [List.length_map, if_neg (by omega), if_pos (by omega)]
      congr 1; omega
    rw [this]
    exact key _ (by omega)
theorem atI_c0 {a : D} {ds : List D} : atI (a :: ds) 0 = some a := by
  unfold atI; rw [ixN_nat (by omega) (by rw [List.length_cons]; omega)]; rfl
theorem atI_c1 {a b : D} {ds : List D} : atI (a :: b :: ds) 1 = some b := by
  unfold atI; rw [ixN_nat (by omega) (by rw [List.length_cons, List.length_cons]; omega)]; rfl
theorem atI_c2 {a b c : D} {ds : List D} : atI (a :: b :: c :: ds) 2 = some c := by
  unfold atI; rw [ixN_nat (by omega) (by rw [List.length_cons, List.length_cons, List.length_cons]; omega)]; rfl
theorem atI_c3 {a b c d : D} {ds : List D} : atI (a :: b :: c :: d :: ds) 3 = some d := by
  unfold atI; rw [ixN_nat (by omega) (by rw [List.length_cons, List.length_cons, List.length_cons, List.length_cons]; omega)]; rfl
end L3
set_option Elab.async false
set_option linter.all false
set_option maxRecDepth 100000
set_option maxHeartbeats 4000000
namespace L2
open PySem PySem.Spec PyProof.Rows
section
variable {prog : Program} {w : World} {A : Around} {E : Value → Shared → Prop} {s : Shared}
theorem draw_list {it t : Addr} {items : Array Value} (hne : t ≠ it) : ∀ (n i : Nat) (s : Shared) (Q : List Value → Shared → Prop), s.heap.IsListIter it t i → s.heap.IsList t items → i + n ≤ items.size →
    (∀ h', h'.IsListIter it t (i + n) → Heap.SameBut it s.heap h' → Q ((items.toList.drop i).take n) { s with heap := h' }) → wpAny (model prog w) A (draw (.ref it) n) Q E s
  | 0, i, s, Q, hit, _, _, hQ => by
    show wpAny _ _ (pure []) Q E s
    exact wpAny_pure (by simpa using hQ s.heap hit (Heap.SameBut.refl ..))
  | n + 1, i, s, Q, hit, ht, hle, hQ => by
    have hlt : i < items.size := by omega
    show wpAny _ _ (pyNext (.ref it) >>= _) Q E s
    refine wpAny_bind (wpAny_pyNext_list_item hit ht (x := items[i]) (by simp [hlt]) fun h₁ hit₁ hs₁ => ?_)
    have ht₁ : h₁.IsList t items := ht.at fun o e => (hs₁.2 t hne).trans e
    refine wpAny_bind (wpAny_holding (draw_list hne n (i + 1) _ _ hit₁ ht₁ (by omega) fun h₂ hit₂ hs₂ => wpAny_pure ?_))
    have hd : items.toList.drop i = items[i] :: items.toList.drop (i + 1) := by simp [List.drop_eq_getElem_cons, hlt]
    have := hQ h₂ (by rw [show i + (n + 1) = i + 1 + n by omega]; exact hit₂) (hs₁.trans hs₂)
    rw [hd, List.take_succ_cons] at this
    exact this
theorem unpackItems_list {t : Addr} {items : Array Value} {Q : List Value → Shared → Prop} (hh : A.handled = none) (ht : s.heap.IsList t items)
    (hQ : ∀ h', Heap.ExtBut s.heap.objs.size s.heap h' → Q items.toList { s with heap := h' }) : wpAny (model prog w) A (unpackItems (.ref t) items.size none) Q E s := by
  have hlt : t ≠ s.heap.objs.size := by obtain ⟨o, ho, _⟩ := ht; exact Nat.ne_of_lt (Heap.lt_size ho)
  unfold unpackItems
  refine wpAny_bind ?_
  · unfold notIterableAtAll
    refine wpAny_bind (wpAny_specialOf ht.typeIs PySem.F.slot_list_iter.lookup ?_)
    refine wpAny_pure ?_
    simp only [Bool.false_eq_true, if_false]
    refine wpAny_bind (wpAny_holding (wpAny_pyIter_list ht ?_))
    refine wpAny_bind (wpAny_holding (draw_list hlt items.size 0 _ _ ⟨_, Heap.get?_push_size _ rfl, rfl, rfl⟩ (ht.push _) (by omega) fun h₁ hit₁ hs₁ => ?_))
    have hall : List.take items.size (List.drop 0 items.toList) = items.toList := by
      rw [List.drop_zero]; exact List.take_of_length_le (by simp)
    rw [hall]
    rw [if_neg (by simp)]
    have ht₁ : h₁.IsList t items := (ht.push _).at fun o e => (hs₁.2 t hlt).trans e
    refine wpAny_bind (wpAny_holding (wpAny_pyNext_list_end hh hit₁ ht₁ (by simp) fun h₂ he₂ => ?_))
    simp only [Option.isSome_none, Bool.false_eq_true, if_false]
    refine wpAny_pure (hQ h₂ fun b o hb e => he₂ b o hb ((hs₁.2 b hb).trans (Heap.get?_push_of_some _ e)))
theorem assign_Tuple_list {env : Env} {elts : List Expr} {x1} {pos : Pos} {t : Addr} {items : Array Value} {Q : Unit → Shared → Prop} (hh : A.handled = none) (ht : s.heap.IsList t items)
    (hn : (assignEach elts env).length = items.size) (hstar : (assignEach elts env).findIdx? (·.1) = none)
    (h : ∀ h', Heap.ExtBut s.heap.objs.size s.heap h' → wpAny (model prog w) A (assignInOrder ((assignEach elts env).map (·.2)) items.toList) Q E { s with heap := h' }) :
    wpAny (model prog w) A (assign (.Tuple elts x1 pos) env (.ref t)) Q E s := by
  rw [assign_Tuple]
  refine wpAny_bind (wpAny_standAt ?_)
  unfold unpack
  rw [hn, hstar]
  exact wpAny_bind (wpAny_holding (unpackItems_list hh ht h))
end
section
variable {X : Cx} {K : PySem.W.Frag}
def gLst (K : PySem.W.Frag) (n : Nat) (t : TGs) : TG := fun v σ H Q => ∃ a xs, v = .ref a ∧ SqL K H a xs ∧ xs.length = n ∧ t xs σ H Q
theorem pg_lstK {es : List Expr} {k : Nat} {t : TGs} {n : Nat} {pos : Pos} (hK : X.K = K) (hc : X.calm = true) (h : PGs X es t)
    (hn : (assignEach es X.env).length = n := by rfl) (hst : (assignEach es X.env).findIdx? (·.1) = none := by rfl) : PG X (.Tuple es k pos) (gLst K n t) := by
  subst hK
  intro pins s σ H v u Q I r hw
  obtain ⟨a, xs, e1, hq, hl, hw⟩ := hw
  subst e1
  cases r
  obtain ⟨its, rv, ht, hz⟩ := I.list hq
  refine assign_Tuple_list (I.ok.hd hc) ht.isList (by simp [hn, ← hl, rv.length]) hst fun h' hx => ?_
  have I1 : Inv X pins σ H { s with heap := h' } := I.kept (t' := s.toks) fun b o e => hx b o (Nat.ne_of_lt (Heap.lt_size e)) e
  exact h pins _ σ H xs _ Q I1 (by simpa using rv) hw
def GSets (k : Nat) (g : TGs) : Prop := ∀ x σ H Q, g x σ H Q → g x σ H fun σ2 H2 => Q σ2 H2 ∧ σ2.length = σ.length ∧ ∀ j, k ≤ j → σ2[j]? = σ[j]?
theorem GSets.nil {k : Nat} : GSets k gNil := fun x σ H Q q => ⟨q.1, q.2, rfl, fun _ _ => rfl⟩
end
end L2
set_option Elab.async false
set_option linter.all false
set_option maxRecDepth 100000
set_option maxHeartbeats 4000000
namespace Maj
end Maj
namespace L3
open PySem
open L2 hiding D Rf Rfs Rp dI dT
section
variable {K : PySem.W.Frag} {ρ : Bool} {Γr Γl Γ Γn : List Nat} {te : TE} {de : DE}
def vgLst (n : Nat) (dg : List D → Dl → (Dl → Prop) → Prop) (x : D) (δ : Dl) (P : Dl → Prop) : Prop := asL x fun ds => ds.length = n ∧ dg ds δ P
theorem gt_lst {n : Nat} {g : TGs} {dg : List D → Dl → (Dl → Prop) → Prop} (h : GTs K Γ g dg) : GT K Γ (gLst K n g) (vgLst n dg) :=
  ⟨fun x δ P P' k q => by obtain ⟨ds, e, z⟩ := asL_out q; exact asL_in e ⟨z.1, h.mono _ _ _ _ k z.2⟩,
   fun {B0 fps δ σ H x v fp Q} o r nn q => by
    obtain ⟨ds, e, z⟩ := asL_out q
    obtain ⟨a, xs, fq, rfl, hs, hr, hin⟩ := r.seq e
    exact ⟨a, xs, rfl, hs, hr.length.trans z.1, h.run o hr (fun j hj b hb => nn j hj b (hin b hb)) z.2⟩⟩
theorem ER.es0 (h : ER K [] te de) : ES K [] te de := ⟨h.mono, fun o q => h.run o (h.mono _ _ _ (fun x z v H' s r => let ⟨fp, r⟩ := r; z v H' fp s r fun j hj => (nomatch hj)) q)⟩
end
end L3
set_option Elab.async false
set_option linter.all false
set_option maxRecDepth 100000
set_option maxHeartbeats 4000000
namespace L3
open PySem L2
section
variable {K : PySem.W.Frag}
def asIB (xs : List D) (P : Int → Prop) : Prop := match xs with | [.int j] => P j | [.bl b] => P (if b then 1 else 0) | _ => False
theorem asIB_int {i : Int} {P : Int → Prop} : asIB [.int i] P ↔ P i := Iff.rfl
theorem asIB_bl {b : Bool} {P : Int → Prop} : asIB [.bl b] P ↔ P (if b then 1 else 0) := Iff.rfl
end
end L3
namespace L3
open PySem
open L2 hiding D Rf Rfs Rp dI dT
theorem cutD_init {ds : List D} : cutD ds none (some (-1)) = ds.take (ds.length - 1) := by
  unfold cutD
  have e : HT.sIx ds.length ds.length (some (-1)) = ds.length - 1 := by
    show (if (-1 : Int) < 0 then (-1 + (ds.length : Int)).toNat else min (-1 : Int).toNat ds.length) = ds.length - 1
    rw [if_pos (by decide)]; omega
  rw [e, HT.sIx_none, Nat.sub_zero, List.drop_zero]
end L3
set_option Elab.async false
set_option linter.all false
set_option maxRecDepth 100000
set_option maxHeartbeats 4000000
namespace L3
open PySem L2
section
variable {K : PySem.W.Frag} {ρ : Bool} {Γr Γl Γ : List Nat} {B0 : Hp} {i j m : Nat} {a0 : Addr} {fps : Nat → List Addr} {δ : Dl} {σ : St} {H H' : Hp} {t u : TS} {d e : Nat → DS} {te tx t1 : TE} {de dx d1 : DE}
end
end L3
namespace L3
open PySem
open L2 hiding D Rf Rfs Rp dI dT
section
variable {δ : Dl} {i j : Nat} {t : List (List Int)} {a b v : Int} {d1 de dx : DE} {d : Nat → DS} {E : DEnds}
end
end L3
set_option Elab.async false
set_option linter.all false
set_option maxRecDepth 100000
set_option maxHeartbeats 4000000
namespace L3
open PySem L2
def D.flat : D → Bool
  | .tup ds => ds.all D.scal
  | d => d.scal
theorem flat_int {i : Int} : (D.int i).flat = true := rfl
theorem flat_bl {b : Bool} : (D.bl b).flat = true := rfl
theorem flat_tup4 {a b c d : Int} : (D.tup [.int a, .int b, .int c, .int d]).flat = true := rfl
theorem flat_tup3 {a b c : Int} : (D.tup [.int a, .int b, .int c]).flat = true := rfl
theorem flat_tup2 {a b : Int} : (D.tup [.int a, .int b]).flat = true := rfl
end L3
namespace L3
open PySem
open L2 hiding D Rf Rfs Rp dI dT
theorem cell_set {t : List (List Int)} {n m a b c d : Nat} {v : Int} (hR : Rect n m t) (ha : a < n) (hb : b < m) : cellAt (setCell t a b v) c d = if a = c ∧ b = d then v else cellAt t c d := by
  have hl := hR.1
  have hr := hR.row ha
  unfold setCell cellAt
  by_cases h : a = c
  · subst h
    rw [List.getD_eq_getElem?_getD (l := t.set a _), List.getElem?_set_self (by omega), Option.getD_some]
    by_cases h2 : b = d
    · subst h2
      rw [if_pos ⟨rfl, rfl⟩, List.getD_eq_getElem?_getD, List.getElem?_set_self (by rw [show (t.getD a []).length = m from hr]; exact hb), Option.getD_some]
    · rw [if_neg (fun z => h2 z.2), List.getD_eq_getElem?_getD, List.getElem?_set_ne h2, ← List.getD_eq_getElem?_getD]
  · rw [if_neg (fun z => h z.1), List.getD_eq_getElem?_getD (l := t.set a _), List.getElem?_set_ne h, ← List.getD_eq_getElem?_getD]
theorem Rect.ext {t u : List (List Int)} {n m : Nat} (h1 : Rect n m t) (h2 : Rect n m u) (h : ∀ a b, a < n → b < m → cellAt t a b = cellAt u a b) : t = u := by
  refine List.ext_getElem (by rw [h1.1, h2.1]) fun a ha hb => ?_
  have la := h1.2 _ (List.getElem_mem ha)
  have lb := h2.2 _ (List.getElem_mem hb)
  refine List.ext_getElem (by rw [la, lb]) fun b hc hd => ?_
  have := h a b (by rw [← h1.1]; exact ha) (by rw [← la]; exact hc)
  unfold cellAt at this
  rw [List.getD_eq_getElem?_getD, List.getD_eq_getElem?_getD (l := t), List.getD_eq_getElem?_getD, List.getD_eq_getElem?_getD (l := u), List.getElem?_eq_getElem ha, List.getElem?_eq_getElem hb, Option.getD_some, Option.getD_some, List.getElem?_eq_getElem hc, List.getElem?_eq_getElem hd] at this
  exact this
end L3
set_option linter.all false
set_option maxRecDepth 100000
namespace L2
open PySem PySem.Spec PyProof.Rows
section
variable {κ : Type} [DecidableEq κ]
end
section
variable {P : Program} {w : World} {H : Hp} {h : Heap} {a : Addr}
end
section
variable {X : Cx} {pins : List (Addr × Obj)} {σ : St} {H : Hp} {s : Shared} {a : Addr} {y v : V} {u r : Value} {o : Option V} {A : Around} {E : Value → Shared → Prop}
end
section
variable {X : Cx} {pins : List (Addr × Obj)} {σ : St} {H : Hp} {s : Shared} {a : Addr} {kvs : List (Key × V)} {k : Key} {u : Value} {A : Around} {E : Value → Shared → Prop}
end
section
variable {X : Cx} {o i e value : Expr} {pos pos' tpos : Pos} {td ty tv : TE}
end
section
variable {X : Cx} {pos : Pos}
end
section
variable {X : Cx} {pins : List (Addr × Obj)} {σ : St} {H : Hp} {s : Shared} {a : Addr} {y d : V} {u r : Value} {o : Option V} {A : Around} {E : Value → Shared → Prop}
end
section
variable {X : Cx} {o e f : Expr} {apos cpos : Pos} {td ty tx : TE}
end
section
variable {X : Cx} {pins : List (Addr × Obj)} {σ : St} {H : Hp} {s : Shared} {a : Addr} {kvs : List (Key × V)} {A : Around} {E : Value → Shared → Prop}
end
section
variable {X : Cx} {pins : List (Addr × Obj)} {σ : St} {H : Hp} {s : Shared} {a : Addr} {y : V} {u : Value} {A : Around} {E : Value → Shared → Prop}
end
end L2
set_option Elab.async false
set_option linter.all false
set_option maxRecDepth 100000
set_option maxHeartbeats 4000000
namespace L3
open PySem L2
def ST0 (K : PySem.W.Frag) (t : TS) (Γ Γn : List Nat) (d : DS) : Prop :=
  ∀ ⦃B0 : Hp⦄ ⦃Dn : Ends⦄ ⦃E : DEnds⦄ ⦃fps : Nat → List Addr⦄ ⦃δ : Dl⦄ ⦃σ : St⦄ ⦃H : Hp⦄, (∀ {fps δ H}, Ok K B0 Γn fps δ σ H → E.nx δ → Dn.nx σ H) → Ok K B0 Γ fps δ σ H → d E δ → t Dn σ H
section
variable {K : PySem.W.Frag} {ρ : Bool} {Γr Γl Γ Γ1 Γ2 Γn M : List Nat} {t u : TS} {te ta tb tx t1 t2 : TE} {de da db dx d1 d2 : DE} {d e : DS}
variable {B0 : Hp} {fps : Nat → List Addr} {δ : Dl} {σ : St} {H H' : Hp}
theorem ST0.st (h : ST0 K t Γ Γn d) : ST K ρ Γr Γl t Γ Γn d := fun _ _ _ _ _ _ _ k o q => h (fun o' z => k.nx o' z) o q
theorem st0_setItem (i : Nat) (he : EM K Γ [] te de) (hx : ER K Γ tx dx) (hi : i ∈ Γ := by decide) : ST0 K (tAsg te (gSub (tVar i) tx rSetL)) Γ Γ (vSetItem i de dx) := by
  intro B0 Dn E fps δ σ H k o h
  refine he.run o (he.mono _ _ _ (fun x z v H1 fp s r n => ?_) h)
  obtain ⟨ds, e, z⟩ := slotL_out z
  obtain ⟨a0, _, _, h1, _⟩ := (o.same s).ownL e
  refine ⟨.ref a0, h1, hx.run (o.same s) (hx.mono _ _ _ (fun y z w H2 s2 r2 => ?_) z)⟩
  obtain ⟨m, em, z9⟩ := asI1_out z
  subst em
  cases ej : ixN ds.length m with
  | none => rw [ej] at z9; exact z9.elim
  | some j =>
    rw [ej] at z9
    obtain ⟨a, xs, e1, e2, e3, fps', o'⟩ := setItem_ok ((o.same s).same s2) hi e (r.same s2) n.nd (fun a ha => (n.mu a ha).same s2) (fun a ha => ⟨o.b0.free (n.fresh a ha), fun j z => o.dom z (n.fresh a ha)⟩) (ixN_lt ej)
    rw [h1] at e1; cases e1
    exact ⟨a0, xs, m, j, rfl, r2.int, e2, by rw [e3]; exact ej, k o' z9⟩
theorem st0_setItem2 (i : Nat) (he : EM K Γ [] te de) (h1 : ER K Γ t1 d1) (h2 : ER K Γ t2 d2) (hi : i ∈ Γ := by decide) : ST0 K (tAsg te (gSub (tOp (rIxL K) (tVar i) t1) t2 rSetL)) Γ Γ (vSetItem2 i de d1 d2) := by
  intro B0 Dn E fps δ σ H k o h
  refine he.run o (he.mono _ _ _ (fun x z v H1 fp s r n => ?_) h)
  obtain ⟨ds, e, z⟩ := slotL_out z
  obtain ⟨a0, xs0, fq0, g1, _⟩ := (o.same s).ownL e
  refine ⟨.ref a0, g1, h1.run (o.same s) (h1.mono _ _ _ (fun y z w H2 s2 r2 => ?_) z)⟩
  obtain ⟨m, em, z8⟩ := asI1_out z
  subst em
  obtain ⟨es, ej, z8⟩ := asLst_out z8
  cases ejj : ixN ds.length m with
  | none => unfold atI at ej; rw [ejj] at ej; cases ej
  | some j =>
    have o2 := (o.same s).same s2
    have ej' : ds[j]? = some (.lst es) := by unfold atI at ej; rw [ejj] at ej; exact ej
    obtain ⟨a, xs, b, ys, fe, e1, e2, e3, e4, e5, e6, e7, e8, e9, _, KK⟩ := inner_ok (es' := []) o2 hi e ej'
    rw [g1] at e1; cases e1
    refine ⟨a0, xs, m, .ref b, rfl, r2.int, .inl (.inl e2), by unfold atI; rw [e3, ejj]; exact e4, h2.run o2 (h2.mono _ _ _ (fun y2 z w2 H3 s3 r3 => ?_) z8)⟩
    obtain ⟨m2, em2, z9⟩ := asI1_out z
    subst em2
    rw [ejj] at z9
    cases ej2 : ixN es.length m2 with
    | none => rw [ej2] at z9; exact z9.elim
    | some j2 =>
      rw [ej2] at z9
      have o3 := o2.same s3
      obtain ⟨a', xs', b', ys', fe', f1, f2, f3, f4, f5, f6, f7, f8, f9, f10, KK⟩ := inner_ok (es' := es.set j2 x) o3 hi e ej'
      rw [g1] at f1; cases f1
      rw [s3 _ _ e2] at f2; cases f2
      rw [e4] at f4; cases f4
      have r4 := r.same (s2.trans s3)
      have src : ∀ c ∈ fp, B0 c = none ∧ ∀ j, c ∉ fps j := fun a ha => ⟨o.b0.free (n.fresh a ha), fun j z => o.dom z (n.fresh a ha)⟩
      obtain ⟨fq', r', nd', k'⟩ := Rfs.set r4 n.nd f6 f7 (fun c hc z => (src c hc).2 i (f9 c z)) (ixN_lt ej2)
      have mu' : ∀ c ∈ fq', Mu H3 c := fun c hc => by
        rcases k' c hc with w | w
        · exact ((o3.own i hi).2 c (f9 c w)).2
        · exact (n.mu c w).same (s2.trans s3)
      obtain ⟨fps', o'⟩ := KK r' nd' (fun z => (k' b z).elim f8 fun w => (src b w).2 i f10) mu' (fun c hc => (k' c hc).imp id fun w => src c w)
      exact ⟨b, ys', m2, j2, rfl, r3.int, f5, by rw [f6.length]; exact ej2, k o' z9⟩
def slotP (δ : Dl) (i : Nat) (P : Addr → D → Prop) : Prop := match δ[i]? with | some (some (.pin a d)) => P a d | _ => False
theorem slotP_out {i : Nat} {P : Addr → D → Prop} (h : slotP δ i P) : ∃ a d, δ[i]? = some (some (.pin a d)) ∧ P a d := by
  unfold slotP at h; split at h
  · exact ⟨_, _, by assumption, h⟩
  · exact h.elim
theorem slotP_in {i : Nat} {P : Addr → D → Prop} {a : Addr} {x : D} (e : δ[i]? = some (some (.pin a x))) (h : P a x) : slotP δ i P := by unfold slotP; rw [e]; exact h
theorem Ok.redata (o : Ok K B0 Γ fps δ σ H) {i : Nat} {x y : D} (e : δ[i]? = some (some x)) (h : ∀ v, σ[i]? = some (some v) → Rf K H x v (fps i) → Rf K H y v (fps i)) : Ok K B0 Γ fps (δ.set i (some y)) σ H := by
  have hl : i < δ.length := (List.getElem?_eq_some_iff.mp e).1
  refine ⟨by rw [List.length_set]; exact o.len, o.b0, fun j d q => ?_, fun j q => ?_, o.own, o.dj⟩
  · by_cases hj : j = i
    · subst hj
      rw [List.getElem?_set_self hl] at q; cases q
      obtain ⟨v, h1, h2⟩ := o.val j x e
      exact ⟨v, h1, h v h1 h2⟩
    · rw [List.getElem?_set_ne (Ne.symm hj)] at q
      exact o.val j d q
  · by_cases hj : j = i
    · subst hj
      exact absurd (List.getElem?_set_self hl) (q y)
    · exact o.non j fun d z => q d (by rw [List.getElem?_set_ne (Ne.symm hj)]; exact z)
def vPin (i : Nat) (d : DS) (E : DEnds) (δ : Dl) : Prop := slotP δ i fun a x => d { E with nx := fun δ' => vVar i δ' fun x' => E.nx (δ'.set i (some (.pin a x'))) } (δ.set i (some x))
theorem st0_pin (i : Nat) (h : ST0 K t Γ Γn d) : ST0 K t Γ Γn (vPin i d) := by
  intro B0 Dn E fps δ σ H k o q
  obtain ⟨a, x, e, q⟩ := slotP_out q
  obtain ⟨v, h1, h2⟩ := o.val i _ e
  obtain rfl : v = .ref a := h2.1
  have o1 : Ok K B0 Γ fps (δ.set i (some x)) σ H := o.redata e fun _ _ z => z.2
  refine h (E := { E with nx := fun δ' => vVar i δ' fun x' => E.nx (δ'.set i (some (.pin a x'))) }) (fun {fps2 δ2 H2} o2 z => ?_) o1 q
  obtain ⟨x', e2, z⟩ := vVar_out z
  exact k (o2.redata (y := .pin a x') e2 fun v hv r => ⟨by rw [h1] at hv; cases hv; rfl, r⟩) z
theorem st_pin (i : Nat) (h : ST0 K t Γ Γn d) : ST K ρ Γr Γl t Γ Γn (vPin i d) := (st0_pin i h).st
def vVarP (i : Nat) (δ : Dl) (P : DK) : Prop := slotP δ i fun _ x => P x
theorem er_varP (i : Nat) : ER K Γ (tVar i) (vVarP i) := ⟨fun δ P P' k h => by obtain ⟨a, x, e, z⟩ := slotP_out h; exact slotP_in e (k _ z), fun {B0 fps δ σ H Q} o q => by
  obtain ⟨a, x, e, q⟩ := slotP_out q
  obtain ⟨v, e1, r⟩ := o.val i _ e
  exact ⟨v, e1, q v H (Same.refl H) ⟨_, r.2⟩⟩⟩
def D.isRef : D → Bool | .lst _ => true | .dic _ => true | .pin _ _ => true | .ins _ _ _ => true | _ => false
theorem Rf.isRef {x : D} {v : V} {fp : List Addr} (h : Rf K H x v fp) (e : x.isRef = true) : ∃ a, v = .ref a := by
  cases x with
  | lst ds => obtain ⟨a, xs, fq, rfl, _⟩ := h; exact ⟨a, rfl⟩
  | dic ds => obtain ⟨a, rfl, _⟩ := h; exact ⟨a, rfl⟩
  | pin a d => exact ⟨a, h.1⟩
  | ins C ns ds => obtain ⟨a, dx, xs, fq, rfl, _⟩ := h; exact ⟨a, rfl⟩
  | _ => cases e
abbrev DSI := List D → (D → D → Prop) → Prop
def DMonoI (S : DSI) : Prop := ∀ xs (P P' : D → D → Prop), (∀ r x, P r x → P' r x) → S xs P → S xs P'
def PostI (K : PySem.W.Frag) (p : Nat) (vs : List V) (B : Hp) (Q : VK) (r x' : D) : Prop :=
  ∀ w H' fp' fpw v, Same B H' → vs[p]? = some v → Rf K H' x' v fp' → fp'.Nodup → (∀ b ∈ fp', B b = none ∧ Mu H' b) → Rf K H' r w fpw → fpw.Nodup → (∀ b ∈ fpw, B b = none ∧ Mu H' b ∧ b ∉ fp') → Q w H'
def spI (K : PySem.W.Frag) (p : Nat) (S : DSI) : Sp := fun vs H Q _ => ∃ B fv ds, Ok K B [p] fv (ds.map some) (vs.map some) H ∧ (∃ a, vs[p]? = some (.ref a)) ∧ S ds (PostI K p vs B Q)
theorem spI_len {p : Nat} {S : DSI} {n : Nat} (hS : ∀ ds P, S ds P → ds.length = n) {vs : List V} {H : Hp} {Q : VK} {E : XK} (h : spI K p S vs H Q E) : vs.length = n := by
  obtain ⟨B, fv, ds, o, _, h⟩ := h
  have := o.len
  rw [List.length_map, List.length_map] at this
  rw [this]; exact hS _ _ h
abbrev endsI (p : Nat) (a : Addr) (P : D → D → Prop) : DEnds := ⟨fun δ => slotP δ p fun a' x => a' = a ∧ P .non x, fun r δ => slotP δ p fun a' x => a' = a ∧ P r x, fun _ => False, fun _ => False⟩
theorem startI_ok {p : Nat} {N : List Str} {ds : List D} {vs : List V} {fv : Nat → List Addr} {a : Addr} (o : Ok K B0 [p] fv (ds.map some) (vs.map some) H) (ha : vs[p]? = some (.ref a)) {x : D} (hx : ds[p]? = some x) :
    Ok K B0 [p] fv (startD N (ds.set p (.pin a x))) (L2.start N vs) H := by
  have hl : vs.length = ds.length := by have := o.len; rwa [List.length_map, List.length_map] at this
  have hp : p < ds.length := (List.getElem?_eq_some_iff.mp hx).1
  have o1 : Ok K B0 [p] fv ((ds.map some).set p (some (.pin a x))) (vs.map some) H := o.redata (x := x) (by rw [List.getElem?_map, hx]; rfl) fun v hv r => ⟨by rw [List.getElem?_map, ha] at hv; cases hv; rfl, r⟩
  have e : (ds.map some).set p (some (.pin a x)) = (ds.set p (.pin a x)).map some := by rw [List.map_set]
  rw [e] at o1
  have hl1 : (ds.set p (.pin a x)).length = ds.length := List.length_set
  generalize ds.set p (.pin a x) = ds1 at *
  unfold startD L2.start
  refine ⟨by rw [List.length_append, List.length_append, List.length_map, List.length_map, List.length_replicate, List.length_replicate]; omega, o1.b0, fun i d q => ?_, fun i q => ?_, o1.own, o1.dj⟩
  · by_cases hi : i < ds1.length
    · rw [List.getElem?_append_left (by simpa using hi)] at q
      rw [List.getElem?_append_left (by rw [List.length_map]; omega)]
      exact o1.val i d q
    · rw [List.getElem?_append_right (by simpa using hi), List.getElem?_replicate] at q
      split at q <;> cases q
  · refine o1.non i fun d z => q d ?_
    have : i < ds1.length := by simpa using (List.getElem?_eq_some_iff.mp z).1
    rw [List.getElem?_append_left (by simpa using this)]
    exact z
theorem fn_valI {N : List Str} {p : Nat} {S : DSI} (hs : ST K true [p] [] t [p] Γn d) (hd : ∀ ds P a x, S ds P → ds[p]? = some x → d (endsI p a P) (startD N (ds.set p (.pin a x)))) (hΓ : p ∈ Γn := by decide) (hS : ∀ ds P, S ds P → p < ds.length) :
    ∀ {vs H Q E}, spI K p S vs H Q E → t { nx := fun _ H' => Q .non H', rt := Q } (L2.start N vs) H := by
  rintro vs H Q E ⟨B, fv, ds, o, ⟨a, ha⟩, h⟩
  have hlt := hS _ _ h
  obtain ⟨x, hx⟩ : ∃ x, ds[p]? = some x := ⟨_, List.getElem?_eq_getElem hlt⟩
  have fin : ∀ {Γ' fps δ σ H' r w fpw}, p ∈ Γ' → Ok K B Γ' fps δ σ H' → Rf K H' r w fpw → fpw.Nodup → (∀ b ∈ fpw, B b = none ∧ Mu H' b ∧ b ∉ fps p) → (slotP δ p fun a' x => a' = a ∧ PostI K p vs B Q r x) → Q w H' := by
    intro Γ' fps δ σ H' r w fpw hp o' rr nd fr z
    obtain ⟨a', x', e, ea, z2⟩ := slotP_out z
    subst ea
    obtain ⟨v, h1, h2⟩ := o'.val p _ e
    obtain rfl : v = .ref a' := h2.1
    exact z2 w H' (fps p) fpw (.ref a') o'.b0 ha h2.2 (o'.own p hp).1 (fun b hb => (o'.own p hp).2 b hb) rr nd fr
  refine hs (E := endsI p a (PostI K p vs B Q)) ⟨fun o' z => ?_, fun _ (z : False) => z.elim, fun _ (z : False) => z.elim, fun o' r i z => ?_⟩ (startI_ok o ha hx) (hd ds _ a x h hx)
  · exact fin (r := .non) (w := .non) (fpw := []) hΓ o' ⟨rfl, rfl⟩ List.nodup_nil (fun b hb => (nomatch hb)) z
  · exact fin (List.mem_singleton.mpr rfl) o' r (i rfl).nd (fun b hb => ⟨(i rfl).nw b hb, (i rfl).mu b hb, (i rfl).dj p (List.mem_singleton.mpr rfl) b hb⟩) z
theorem Rfs.split' {H : Hp} : ∀ {ds : List D} {vs : List V} {fp : List Addr}, Rfs K H ds vs fp → ∃ fps : Nat → List Addr, (∀ i d, ds[i]? = some d → ∃ v, vs[i]? = some v ∧ Rf K H d v (fps i)) ∧ (∀ i, ds.length ≤ i → fps i = []) ∧ ∀ i a, a ∈ fps i → a ∈ fp
  | [], vs, fp, h => ⟨fun _ => [], fun i d e => by simp at e, fun _ _ => rfl, fun _ _ h => (nomatch h)⟩
  | d :: ds, vs, fp, h => by
    obtain ⟨x, r, f1, f2, rfl, rfl, h1, h2⟩ := h
    obtain ⟨fps, k1, k2, k3⟩ := Rfs.split' h2
    refine ⟨fun i => match i with | 0 => f1 | j + 1 => fps j, fun i d' e => ?_, fun i hi => ?_, fun i a hm => ?_⟩
    · cases i with
      | zero => simp at e; subst e; exact ⟨x, rfl, h1⟩
      | succ j => simpa using k1 j d' (by simpa using e)
    · cases i with
      | zero => simp at hi
      | succ j => exact k2 j (by simpa using hi)
    · cases i with
      | zero => exact List.mem_append_left _ hm
      | succ j => exact List.mem_append_right _ (k3 j a hm)
structure AI (K : PySem.W.Frag) (Γ : List Nat) (i p : Nat) (t : TA) (d : DA) : Prop where
  mono : ∀ δ (P P' : List D → Prop), (∀ x, P x → P' x) → d δ P → d δ P'
  run : ∀ {B0 fps δ σ H Q}, Ok K B0 Γ fps δ σ H → d δ (fun xs => ∀ vs H' (fv : Nat → List Addr), Same H H' → vs.length = xs.length → (∀ l x, xs[l]? = some x → ∃ v, vs[l]? = some v ∧ Rf K H' x v (fv l)) → (∀ l, xs.length ≤ l → fv l = []) → fv p = fps i → p < xs.length → (∃ v, vs[p]? = some v ∧ σ[i]? = some (some v)) →
    (∀ l, l ≠ p → ∀ a ∈ fv l, a ∉ fps i) → Q vs H') → t σ H Q
structure EX (K : PySem.W.Frag) (Γ : List Nat) (i : Nat) (t : TE) (d : DE) : Prop where
  mono : ∀ δ (P P' : DK), (∀ x, P x → P' x) → d δ P → d δ P'
  run : ∀ {B0 fps δ σ H Q}, Ok K B0 Γ fps δ σ H → d δ (fun x => ∀ v H' fp, Same H H' → Rf K H' x v fp → (∀ a ∈ fp, a ∉ fps i) → Q v H') → t σ H Q
theorem ex_es {i : Nat} (h : ES K Γ te de) (hi : i ∈ Γ := by decide) : EX K Γ i te de := ⟨h.mono, fun o q => h.run o (h.mono _ _ _ (fun x z v H' fp s r n => z v H' fp s r fun a ha => n i hi a ha) q)⟩
structure AX (K : PySem.W.Frag) (Γ : List Nat) (i : Nat) (t : TA) (d : DA) : Prop where
  mono : ∀ δ (P P' : List D → Prop), (∀ x, P x → P' x) → d δ P → d δ P'
  run : ∀ {B0 fps δ σ H Q}, Ok K B0 Γ fps δ σ H → d δ (fun xs => ∀ vs H' fp, Same H H' → Rfs K H' xs vs fp → (∀ a ∈ fp, a ∉ fps i) → Q vs H') → t σ H Q
theorem ax_nil {i : Nat} : AX K Γ i tNil vNil := ⟨fun _ _ _ k h => k _ h, fun {_ _ _ _ H _} o q => q [] H [] (Same.refl H) ⟨rfl, rfl⟩ fun _ h => (nomatch h)⟩
theorem ax_cons {i : Nat} {ta : TA} {da : DA} (he : EX K Γ i te de) (ha : AX K Γ i ta da) : AX K Γ i (tCons te ta) (vCons de da) :=
  ⟨fun δ P P' k h => he.mono _ _ _ (fun x z => ha.mono _ _ _ (fun xs z => k _ z) z) h, fun {B0 fps δ σ H Q} o q =>
    he.run o (he.mono _ _ _ (fun x z v H1 fp s1 r n => ha.run (o.same s1) (ha.mono _ _ _ (fun xs z vs H' fq s2 rs ns => z (v :: vs) H' (fp ++ fq) (s1.trans s2) ⟨v, vs, fp, fq, rfl, rfl, r.same s2, rs⟩ fun a ha => (List.mem_append.mp ha).elim (n a) (ns a)) z)) q)⟩
theorem ai_here (i : Nat) {ta : TA} {da : DA} (ha : AX K Γ i ta da) : AI K Γ i 0 (tCons (tVar i) ta) (vCons (vVar i) da) :=
  ⟨fun δ P P' k h => vVar_mono _ _ _ (fun x z => ha.mono _ _ _ (fun xs z => k _ z) z) h, fun {B0 fps δ σ H Q} o q => by
    obtain ⟨x, e, q⟩ := vVar_out q
    obtain ⟨v, h1, h2⟩ := o.val i x e
    refine ⟨v, h1, ha.run o (ha.mono _ _ _ (fun xs z vs H' fp s r n => ?_) q)⟩
    obtain ⟨fv, k1, k2, k3⟩ := r.split'
    refine z (v :: vs) H' (fun l => match l with | 0 => fps i | l + 1 => fv l) s (by rw [List.length_cons, List.length_cons, r.length]) (fun l y ey => ?_) (fun l hl => ?_) rfl (by rw [List.length_cons]; omega) ⟨v, rfl, h1⟩ (fun l hl a hm => ?_)
    · cases l with
      | zero => simp at ey; subst ey; exact ⟨v, rfl, h2.same s⟩
      | succ l => simpa using k1 l y (by simpa using ey)
    · cases l with
      | zero => simp at hl
      | succ l => exact k2 l (by simpa using hl)
    · cases l with
      | zero => exact absurd rfl hl
      | succ l =>
        exact n a (k3 l a hm)⟩
theorem callI_run {Ex : XK} {i p : Nat} {S : DSI} {ta : TA} {da : DA} (hS : DMonoI S) (ha : AI K Γ i p ta da) (hi : i ∈ Γ) (o : Ok K B0 Γ fps δ σ H) {Q : VK}
    (h : da δ fun xs => (∀ x, xs[p]? = some x → x.isRef = true) ∧ S xs fun r x' => ∀ w H' fps' fpw, Ok K B0 Γ fps' (δ.set i (some x')) σ H' → Rf K H' r w fpw → fpw.Nodup → (∀ b ∈ fpw, B0 b = none ∧ Mu H' b ∧ ∀ j, b ∉ fps' j) → Q w H') :
    tCall (spI K p S) [] Ex ta σ H Q := by
  refine ha.run o (ha.mono _ _ _ (fun xs z vs H1 fv s hl k1 k2 k3 hp hv k4 => ?_) h)
  rw [List.append_nil]
  obtain ⟨z1, z2⟩ := z
  obtain ⟨v0, hv1, hv2⟩ := hv
  have o1 := o.same s
  obtain ⟨x, hx⟩ : ∃ x, xs[p]? = some x := ⟨_, List.getElem?_eq_getElem hp⟩
  obtain ⟨v, e1, e2⟩ := k1 p x hx
  rw [hv1] at e1; cases e1
  obtain ⟨a, rfl⟩ := e2.isRef (z1 x hx)
  have hown := o1.own i hi
  refine ⟨fun b => if b ∈ fps i then none else H1 b, fv, xs, ⟨by rw [List.length_map, List.length_map, hl], fun b u e => ?_, fun l d e => ?_, fun l e => ?_, fun l hl' => ?_, fun l hl' j hj b hb => ?_⟩, ⟨a, hv1⟩, hS _ _ _ (fun r x' z => ?_) z2⟩
  · split at e
    · cases e
    · exact e
  · rw [List.getElem?_map] at e
    cases q : xs[l]? with
    | none => rw [q] at e; cases e
    | some y =>
      rw [q] at e; cases e
      obtain ⟨v, e3, e4⟩ := k1 l d q
      exact ⟨v, by rw [List.getElem?_map, e3]; rfl, e4⟩
  · by_cases hlt : l < xs.length
    · exact absurd (by rw [List.getElem?_map, List.getElem?_eq_getElem hlt]; rfl) (e (xs[l]))
    · exact k2 l (by omega)
  · cases List.mem_singleton.mp hl'
    rw [k3]
    exact ⟨hown.1, fun b hb => ⟨if_pos hb, (hown.2 b hb).2⟩⟩
  · cases List.mem_singleton.mp hl'
    rw [k3] at hb
    exact fun w => k4 j hj b w hb
  · intro w H' fp' fpw v sB hv r' nd mu rr ndw frw
    rw [hv1] at hv; cases hv
    have fresh : ∀ b, (if b ∈ fps i then none else H1 b) = none → b ∈ fps i ∨ (B0 b = none ∧ ∀ j, b ∉ fps j) := fun b hb => by
      by_cases q : b ∈ fps i
      · exact .inl q
      · rw [if_neg q] at hb
        exact .inr ⟨o1.b0.free hb, fun j z => o1.dom z hb⟩
    have o2 := o1.write hi (fp' := fp') (d' := x') hv2 r' nd (fun b hb => (mu b hb).2) (fun b hb => fresh b (mu b hb).1) (fun b u hb e => sB b u (by show (if b ∈ fps i then none else H1 b) = some u; rw [if_neg hb]; exact e))
    refine z w H' _ fpw o2 rr ndw fun b hb => ⟨?_, (frw b hb).2.1, fun j => ?_⟩
    · rcases fresh b (frw b hb).1 with q | q
      · exact (hown.2 b q).1
      · exact q.1
    · by_cases hj : j = i
      · rw [if_pos hj]; exact (frw b hb).2.2
      · rw [if_neg hj]
        rcases fresh b (frw b hb).1 with q | q
        · exact o1.dj i hi j hj b q
        · exact q.2 j
def vCallI (i p : Nat) (S : DSI) (da : DA) (E : DEnds) (δ : Dl) : Prop := da δ fun xs => (∀ x, xs[p]? = some x → x.isRef = true) ∧ S xs fun _ x' => E.nx (δ.set i (some x'))
theorem st0_callI {Ex : XK} {S : DSI} {ta : TA} {da : DA} (i p : Nat) (hS : DMonoI S) (ha : AI K Γ i p ta da) (hi : i ∈ Γ := by decide) : ST0 K (tDrop (tCall (spI K p S) [] Ex ta)) Γ Γ (vCallI i p S da) :=
  fun {B0 Dn E fps δ σ H} k o h => callI_run hS ha hi o (ha.mono _ _ _ (fun xs z => ⟨z.1, hS _ _ _ (fun r x' z w H' fps' fpw o' _ _ _ => k o' z) z.2⟩) h)
end
end L3
set_option Elab.async false
set_option linter.all false
set_option maxRecDepth 100000
set_option maxHeartbeats 4000000
namespace L2
open PySem PySem.Spec PyProof.Rows
section
variable {X : Cx}
end
end L2
namespace L2
open PySem PySem.Spec PyProof.Rows
section
variable {X : Cx} {K : PySem.W.Frag}
theorem call_sortedK (hK : X.K = K) : CallR X (.builtin "sorted") (fun xs H Q => ∃ (a : Addr) (ns : List Int), xs = [.ref a] ∧ SqL K H a (ns.map V.int) ∧ ns.length < 64 ∧
    ∀ (l : Addr) (ms : List Int), H l = none → ms.Perm ns → ms.Pairwise (· ≤ ·) → Q (.ref l) (upd H l (.lst (ms.map V.int)))) := by
  subst hK
  intro pins s σ H xs us Q I r h
  obtain ⟨a, ns, rfl, hS, hz, q⟩ := h
  obtain ⟨u, rfl, ru⟩ := vals1 r
  obtain rfl : u = Value.ref a := ru
  obtain ⟨its, rv, pl, _⟩ := I.list hS
  have hl := rv.length
  rw [List.length_map] at hl
  refine sorted_ints pl.isList (ints_are rv) (by omega) fun out ms a1 a2 a3 => ?_
  obtain ⟨n, he⟩ := sortedAll_at s.heap its out
  have hn : H (s.heap.objs.size + 1) = none := I.hok.fresh (Nat.le_succ _)
  have hlm := a2.length_eq
  refine ⟨.ref (s.heap.objs.size + 1), _, I.laid (t' := s.toks) (o := .lst (ms.map V.int)) (fun b o e => sortedAll_old e) (Nat.le_succ _) ⟨?_, out.toList, n, vals_of_ints a1, ?_⟩, rfl, q _ ms hn a2 a3⟩
  · rw [List.length_map]; exact small (by omega)
  · exact he
end
end L2
set_option Elab.async false
set_option linter.all false
set_option maxRecDepth 100000
set_option maxHeartbeats 4000000
namespace L2
open PySem PySem.Spec PyProof.Rows
end L2
namespace L3
open PySem L2
section
variable {K : PySem.W.Frag} {ρ : Bool} {Γr Γl Γ Γ1 Γ2 Γn M : List Nat} {t u : TS} {te ta tb td ty tv : TE} {de da db dd dk dv : DE} {d e : DS}
def ofV : V → D | .non => .non | .bl b => .bl b | .int i => .int i | .str x => .str x | _ => .non
def asDic (x : D) (P : List (Key × V) → Prop) : Prop := match x with | .dic kvs => P kvs | _ => False
theorem asDic_dic {kvs : List (Key × V)} {P : List (Key × V) → Prop} : asDic (.dic kvs) P ↔ P kvs := Iff.rfl
def vSort (xs : List D) (P : DK) : Prop := match xs with | [x] => asNs x fun ns => ns.length < 64 ∧ ∀ ms : List Int, ms.Perm ns → ms.Pairwise (· ≤ ·) → P (dI ms) | _ => False
theorem vSort_ints {ns : List Int} {P : DK} : vSort [dI ns] P ↔ ns.length < 64 ∧ ∀ ms : List Int, ms.Perm ns → ms.Pairwise (· ≤ ·) → P (dI ms) := asNs_ints
theorem c_sort : CallV K (fun xs H Q => ∃ (a : Addr) (ns : List Int), xs = [.ref a] ∧ SqL K H a (ns.map V.int) ∧ ns.length < 64 ∧ ∀ (l : Addr) (ms : List Int), H l = none → ms.Perm ns → ms.Pairwise (· ≤ ·) → Q (.ref l) (upd H l (.lst (ms.map V.int)))) vSort :=
  ⟨fun xs P P' k h => by
    unfold vSort at h ⊢
    revert h
    split
    · exact fun h => by obtain ⟨ns, e, z⟩ := asNs_out h; exact asNs_in e ⟨z.1, fun ms a b => k _ (z.2 ms a b)⟩
    · exact id,
   fun {H xs vs Q} r h => by
    unfold vSort at h
    split at h
    · obtain ⟨v, rfl, r0⟩ := r.one
      obtain ⟨ns, e, z⟩ := asNs_out h
      obtain ⟨a, ys, fq, rfl, hs, hr⟩ := r0.seq e
      rw [hr.intsV] at hs
      exact ⟨a, ns, rfl, hs, z.1, fun l ms hl hp ho => z.2 ms hp ho _ _ [l] (Same.new' hl) (Rf.ofInts upd_same) (Nw.one hl upd_same).any⟩
    · exact h.elim⟩
theorem isRef_lst {ds : List D} : (D.lst ds).isRef = true := rfl
theorem isRef_dic {ds : List (Key × V)} : (D.dic ds).isRef = true := rfl
theorem ofV_int {i : Int} : ofV (.int i) = .int i := rfl
theorem ofV_bl {b : Bool} : ofV (.bl b) = .bl b := rfl
theorem ofV_non : ofV .non = .non := rfl
def vLenD (xs : List D) (P : DK) : Prop := match xs with | [.dic kvs] => P (.int kvs.length) | _ => False
theorem vLenD_dic {kvs : List (Key × V)} {P : DK} : vLenD [.dic kvs] P ↔ P (.int kvs.length) := Iff.rfl
end
end L3
set_option Elab.async false
set_option linter.all false
set_option maxRecDepth 100000
set_option maxHeartbeats 4000000
namespace Mat
theorem nodup_sub : ∀ {l l' : List Nat}, l.Nodup → (∀ x ∈ l, x ∈ l') → l.length ≤ l'.length
  | [], _, _, _ => Nat.zero_le _
  | x :: l, l', h, s => by
    obtain ⟨h1, h2⟩ := List.nodup_cons.mp h
    have hx := s x List.mem_cons_self
    have := nodup_sub (l' := l'.erase x) h2 fun y hy => (List.mem_erase_of_ne (fun z => h1 (by rw [← z]; exact hy))).mpr (s y (List.mem_cons_of_mem _ hy))
    rw [List.length_erase_of_mem hx] at this
    have : 0 < l'.length := List.length_pos_of_mem hx
    rw [List.length_cons]; omega
theorem nodup_lt {l : List Nat} {n : Nat} (h : l.Nodup) (hl : ∀ x ∈ l, x < n) : l.length ≤ n := by
  have := nodup_sub h (l' := List.range n) fun x hx => List.mem_range.mpr (hl x hx)
  rwa [List.length_range] at this
end Mat
namespace Mat
end Mat
namespace Mat
end Mat
set_option Elab.async false
set_option linter.all false
set_option maxRecDepth 100000
set_option maxHeartbeats 4000000
namespace L2
open PySem PySem.Spec PyProof.Rows
theorem GSets.cons {i k : Nat} {u : TGs} (h : i < k) (hu : GSets k u) : GSets k (gCons (gName i) u) := fun x σ H Q ⟨v, r, e, q⟩ => ⟨v, r, e, by
  have q2 := hu r (σ.set i (some v)) H Q q
  have e1 : (fun (σ2 : St) (H2 : Hp) => Q σ2 H2 ∧ σ2.length = (σ.set i (some v)).length ∧ ∀ j, k ≤ j → σ2[j]? = (σ.set i (some v))[j]?) = fun σ2 H2 => Q σ2 H2 ∧ σ2.length = σ.length ∧ ∀ j, k ≤ j → σ2[j]? = σ[j]? := by
    funext σ2 H2
    refine propext ⟨fun z => ⟨z.1, by rw [z.2.1, List.length_set], fun j hj => by rw [z.2.2 j hj, List.getElem?_set_ne (by omega)]⟩, fun z => ⟨z.1, by rw [z.2.1, List.length_set], fun j hj => by rw [z.2.2 j hj, List.getElem?_set_ne (by omega)]⟩⟩
  rw [e1] at q2
  exact q2⟩
theorem GSet.tup {K : PySem.W.Frag} {k n : Nat} {u : TGs} (hu : GSets k u) : GSet k (gTup K n u) := fun x σ H Q ⟨a, xs, e, hs, hl, q⟩ => ⟨a, xs, e, hs, hl, hu xs σ H Q q⟩
end L2
set_option Elab.async false
set_option linter.all false
set_option maxRecDepth 100000
set_option maxHeartbeats 4000000
namespace L3
open PySem L2
section
variable {K : PySem.W.Frag} {ρ : Bool} {Γr Γl Γ Γ1 Γ2 Γn M : List Nat} {t u : TS} {te ta tb : TE} {de da db : DE} {d e : DS}
end
end L3
namespace L3
open PySem L2
abbrev dPr (q : Int × List Int) : D := .tup [.int q.1, dI q.2]
abbrev oPr (q : Int × List Int) : L2.D := .tup [.int q.1, L2.dI q.2]
theorem old_pr {q : Int × List Int} : (dPr q).old = some (oPr q) := by
  rw [D.old, D.olds, D.olds, D.olds, D.old, old_dI]; rfl
theorem olds_prs : ∀ {ps : List (Int × List Int)}, D.olds (ps.map dPr) = some (ps.map oPr)
  | [] => by rw [List.map_nil, D.olds]; rfl
  | p :: ps => by rw [List.map_cons, D.olds, olds_prs, old_pr]; rfl
theorem plains_prs : ∀ (ps : List (Int × List Int)), L2.D.plains (ps.map oPr) = true
  | [] => rfl
  | p :: ps => by
    rw [List.map_cons, L2.D.plains, plains_prs ps, L2.D.plain, L2.D.plains, L2.D.plains, L2.D.plains, L2.D.plain, L2.D.plain, L2.D.plains_ints]; rfl
theorem depths_prs : ∀ (ps : List (Int × List Int)), L2.D.depths (ps.map oPr) ≤ 5
  | [] => by rw [List.map_nil, L2.D.depths]; omega
  | p :: ps => by
    have := depths_prs ps
    rw [List.map_cons, L2.D.depths, L2.D.depth, L2.D.depths, L2.D.depths, L2.D.depths, L2.D.depth, L2.D.depth, L2.D.depths_ints]
    · refine Nat.max_le.mpr ⟨?_, this⟩
      decide
    all_goals (intro ds h; cases h)
theorem eqbs_prs : ∀ (ps qs : List (Int × List Int)), L2.D.eqbs (ps.map oPr) (qs.map oPr) = decide (ps = qs)
  | [], [] => rfl
  | [], y :: ys => rfl
  | x :: xs, [] => rfl
  | (a, x) :: xs, (b, y) :: ys => by
    rw [List.map_cons, List.map_cons, L2.D.eqbs, eqbs_prs xs ys, L2.D.eqb, L2.D.eqbs, L2.D.eqbs, L2.D.eqbs, L2.D.eqb, L2.D.eqb, L2.D.eqbs_ints]
    by_cases h1 : a = b
    · subst h1
      by_cases h2 : x = y
      · subst h2; simp
      · simp [h2]
    · have : (a == b) = false := beq_eq_false_iff_ne.mpr h1
      simp [this, h1]
theorem vEqL_pairs {neg : Bool} {ps qs : List (Int × List Int)} {P : DK} (h : P (.bl (if neg then !decide (ps = qs) else decide (ps = qs)))) : vEqL neg (.lst (ps.map dPr)) (.lst (qs.map dPr)) P :=
  ⟨_, _, by rw [D.old, olds_prs]; rfl, by rw [D.old, olds_prs]; rfl, plains_prs _, plains_prs _, Nat.le_trans (depths_prs _) (by omega), by rw [eqbs_prs]; exact h⟩
theorem sorted_rng {ms : List Int} {n : Nat} (h : ms.Perm (rngI n)) (ho : ms.Pairwise (· ≤ ·)) : ms = rngI n := by
  refine List.Perm.eq_of_pairwise (fun a b _ _ h1 h2 => by omega) ho ?_ h
  unfold rngI
  rw [List.pairwise_map]
  exact (List.pairwise_lt_range (n := n)).imp fun h => by omega
def Tab (n : Nat) (ps : List (Int × List Int)) (t : List (List Int)) : Prop := Rect n n t ∧ ∀ k j : Nat, k < n → j < n → cellAt t k j = (ps.map fun q => if q.2.getD k 0 = (j : Int) then q.1 else 0).sum
theorem Tab.uniq {n : Nat} {ps : List (Int × List Int)} {t u : List (List Int)} (h1 : Tab n ps t) (h2 : Tab n ps u) : t = u := h1.1.ext h2.1 fun a b ha hb => by rw [h1.2 a b ha hb, h2.2 a b ha hb]
theorem Tab.snoc {n : Nat} {ps : List (Int × List Int)} {t u : List (List Int)} {q : Int × List Int} (h : Tab n ps t) (hu : Rect n n u) (hc : ∀ k j : Nat, k < n → j < n → cellAt u k j = cellAt t k j + if q.2.getD k 0 = (j : Int) then q.1 else 0) : Tab n (ps ++ [q]) u :=
  ⟨hu, fun k j hk hj => by rw [hc k j hk hj, h.2 k j hk hj, List.map_append, List.sum_append]; simp⟩
end L3
set_option Elab.async false
set_option linter.all false
set_option maxRecDepth 100000
set_option maxHeartbeats 4000000
namespace Bir
section
variable {κ : Type} [DecidableEq κ]
end
end Bir
set_option Elab.async false
set_option linter.all false
set_option maxRecDepth 100000
set_option maxHeartbeats 4000000
namespace Bir
open L3
end Bir
set_option Elab.async false
set_option linter.all false
set_option maxRecDepth 100000
set_option maxHeartbeats 4000000
namespace L2
open PySem
end L2
namespace L3
open PySem L2
section
variable {K : PySem.W.Frag} {ρ : Bool} {Γr Γl Γ Γ1 Γ2 Γn M : List Nat} {t u : TS} {te ta tb td ty tv ti : TE} {de da db dd dk dv di : DE} {d e : DS}
def vTupOf (xs : List D) (P : DK) : Prop := match xs with | [x] => asL x fun ds => ds.all D.scal = true ∧ P (.tup ds) | _ => False
theorem vTupOf_lst {ds : List D} {P : DK} : vTupOf [.lst ds] P ↔ ds.all D.scal = true ∧ P (.tup ds) := Iff.rfl
def asTI (x : D) (P : List Int → Prop) : Prop := match x with | .tup ds => (match toInts ds with | some ns => P ns | none => False) | _ => False
theorem asTI_in {ns : List Int} {P : List Int → Prop} : asTI (.tup (ns.map D.int)) P ↔ P ns := by
  unfold asTI
  show (match toInts (ns.map D.int) with | some ns => P ns | none => False) ↔ P ns
  rw [toInts_map]
def asDit (x : D) (P : List (List Key × V) → Prop) : Prop := match x with | .dit kvs => P kvs | _ => False
theorem asDit_dit {kvs : List (List Key × V)} {P : List (List Key × V) → Prop} : asDit (.dit kvs) P ↔ P kvs := Iff.rfl
end
end L3
set_option Elab.async false
set_option linter.all false
set_option maxRecDepth 100000
set_option maxHeartbeats 4000000
namespace L3
open PySem L2
section
variable {K : PySem.W.Frag} {Γ : List Nat}
def vTupR (xs : List D) (P : DK) : Prop := match xs with | [x] => asL x fun ds => P (.tup ds) | _ => False
theorem vTupR_lst {ds : List D} {P : DK} : vTupR [.lst ds] P ↔ P (.tup ds) := Iff.rfl
end
end L3
set_option Elab.async false
set_option linter.all false
set_option maxRecDepth 100000
set_option maxHeartbeats 4000000
namespace L3
open PySem L2
section
variable {K : PySem.W.Frag} {ρ : Bool} {Γr Γl Γ : List Nat}
end
end L3
set_option Elab.async false
set_option linter.all false
set_option maxRecDepth 100000
set_option maxHeartbeats 4000000
namespace L2
open PySem PySem.Spec PyProof.Rows
def tOrE (t u : TE) : TE := fun σ H Q => t σ H Q ∨ u σ H Q
theorem pe_orE {X : Cx} {e : Expr} {t u : TE} (h1 : PE X e t) (h2 : PE X e u) : PE X e (tOrE t u) := fun pins s σ H Q I h => h.elim (h1 pins s σ H Q I) (h2 pins s σ H Q I)
def rIsC (K : PySem.W.Frag) (P : Addr) (xs : List V) (H : Hp) (Q : VK) : Prop := ∃ x t b, xs = [x, .ref P] ∧ TyOf K H x t ∧ PySem.W.kitOne K t (.ref P) = some b ∧ Q (.bl b) H
theorem call_isC {X : Cx} {K : PySem.W.Frag} {P : Addr} (hK : X.K = K) : CallR X (.builtin "isinstance") (rIsC K P) := by
  subst hK
  intro pins s σ H xs us Q I r h
  obtain ⟨x, t, b, rfl, ty, e, q⟩ := h
  obtain ⟨u, w', rfl, rx, rn⟩ := vals2 r
  obtain rfl : w' = Value.ref P := rn
  exact isinst_ok I rx ty e fun tk => ⟨.bl b, H, I.tok _, rfl, q⟩
theorem pe_fldK {X : Cx} {K : PySem.W.Frag} {e : Expr} {f : Str} {pos : Pos} {ta : TE} (hK : X.K = K) (he : PE X e ta) (hb : attributeBase e f X.env (eval e X.env) = eval e X.env) : PE X (.Attribute e f pos) (tFld K ta f) := hK ▸ pe_fld he hb
theorem ps_fldK {X : Cx} {K : PySem.W.Frag} {o value : Expr} {f : Str} {pos pos' : Pos} {ta tv : TE} (hK : X.K = K) (ha : PE X o ta) (hv : PE X value tv) (hs : swapsWith value (some (.Attribute o f pos')) pos.line X.env = pure false) : PS X (.Assign [.Attribute o f pos'] value pos) (sFld K ta tv f) := hK ▸ ps_fld ha hv hs
structure MtAt (K : PySem.W.Frag) (C : Addr) (x qual : Str) (st : Stmt) (ps : List Str) (f : Addr) (fd : FuncData) : Prop where
  fn : Fun K x qual st f fd
  mt : Meth K C x f
  bd : Binds K fd ps []
structure MkAt (K : PySem.W.Frag) (mg : Str → Option Value) (n : Str) (C : Addr) (qual : Str) (st : Stmt) (ps : List Str) (f : Addr) (fd : FuncData) : Prop where
  fn : Fun K "__init__" qual st f fd
  mkk : Mk K C f
  bd : Binds K fd ps []
  mg : mg n = some (.ref C)
structure ICls (K : PySem.W.Frag) (C : Addr) : Prop where
  cl : Cls K C
  ha : PySem.W.findIn K (.ref C) "__class__" = some (some (.builtin "object.__class__"))
  hn : PySem.W.specialIn K (.builtin "object.__class__") "__get__" = some (some (.builtin "getset_descriptor.__get__"))
  ht : PySem.W.takesIn K (.builtin "object.__class__") = some true
  hm : PySem.W.mroIn K C (.type "object") = some true
theorem lookup_zip {f : Str} {v : V} : ∀ {ns : List Str} {xs : List V} {i : Nat}, ns.Nodup → ns[i]? = some f → xs[i]? = some v → (ns.zip xs).lookup f = some v
  | [], _, i, _, e, _ => by simp at e
  | _ :: _, [], i, _, _, e => by simp at e
  | n :: ns, x :: xs, 0, _, e1, e2 => by
    simp at e1 e2
    subst e1; subst e2
    simp
  | n :: ns, x :: xs, i + 1, hd, e1, e2 => by
    obtain ⟨h1, h2⟩ := List.nodup_cons.mp hd
    simp only [List.getElem?_cons_succ] at e1 e2
    have hne : f ≠ n := fun z => h1 (z ▸ List.mem_of_getElem? e1)
    rw [List.zip_cons_cons, List.lookup_cons, beq_eq_false_iff_ne.mpr hne]
    exact lookup_zip h2 e1 e2
theorem lookup_zip_none {f : Str} : ∀ {ns : List Str} {xs : List V}, f ∉ ns → (ns.zip xs).lookup f = none
  | [], _, _ => by simp
  | _ :: _, [], _ => by simp
  | n :: ns, x :: xs, h => by
    have hne : f ≠ n := fun z => h (z ▸ List.mem_cons_self)
    rw [List.zip_cons_cons, List.lookup_cons, beq_eq_false_iff_ne.mpr hne]
    exact lookup_zip_none fun z => h (List.mem_cons_of_mem _ z)
theorem putF_zip {f : Str} {v : V} : ∀ {ns : List Str} {xs : List V}, f ∉ ns → ns.length = xs.length → putF f v (ns.zip xs) = (ns ++ [f]).zip (xs ++ [v])
  | [], [], _, _ => rfl
  | [], _ :: _, _, h => by simp at h
  | _ :: _, [], _, h => by simp at h
  | n :: ns, x :: xs, h, hl => by
    have hne : n ≠ f := fun z => h (z ▸ List.mem_cons_self)
    rw [List.zip_cons_cons, putF, if_neg hne, putF_zip (fun z => h (List.mem_cons_of_mem _ z)) (by simpa using hl)]
    rfl
end L2
namespace L3
open PySem L2
section
variable {K : PySem.W.Frag} {Γ M : List Nat} {t u ta tb : TE} {d e da db : DE} {C : Addr} {ns : List Str} {f : Str}
def asF (C : Addr) (ns : List Str) (i : Nat) (x : D) (P : DK) : Prop := match x with | .ins C' ns' ds => (C' = C ∧ ns' = ns) ∧ asO (ds[i]?) P | _ => False
theorem asF_ins {ds : List D} {i : Nat} {P : DK} : asF C ns i (.ins C ns ds) P = asO (ds[i]?) P := by
  unfold asF
  simp
theorem asF_out {x : D} {i : Nat} {P : DK} (h : asF C ns i x P) : ∃ ds y, x = .ins C ns ds ∧ ds[i]? = some y ∧ P y := by
  cases x with
  | ins C' ns' ds =>
    obtain ⟨⟨rfl, rfl⟩, h⟩ := h
    obtain ⟨y, e, h⟩ := asO_out h
    exact ⟨ds, y, rfl, e, h⟩
  | _ => exact h.elim
theorem asF_mono {x : D} {i : Nat} {P P' : DK} (k : ∀ z, P z → P' z) (h : asF C ns i x P) : asF C ns i x P' := by
  obtain ⟨ds, y, rfl, e, h⟩ := asF_out h
  rw [asF_ins, e]
  exact k _ h
def vFld (C : Addr) (ns : List Str) (i : Nat) (da : DE) (δ : Dl) (P : DK) : Prop := da δ fun x => asF C ns i x P
theorem es_fld (ns : List Str) (i : Nat) (hc : Cls K C) (hn : NoAttr K C f) (ha : ES K Γ ta da) (hi : ns[i]? = some f := by rfl) (hd : ns.Nodup := by decide +kernel) : ES K Γ (tFld K ta f) (vFld C ns i da) :=
  ⟨fun δ P P' k h => ha.mono _ _ _ (fun x z => asF_mono k z) h,
   fun o q => ha.run o (ha.mono _ _ _ (fun x z v H1 fp s1 r1 n1 => by
    obtain ⟨ds, y, rfl, e, z⟩ := asF_out z
    obtain ⟨a, dx, xs, fq, rfl, hH, rfl, hr⟩ := r1
    obtain ⟨w, f', e1, r3, k⟩ := hr.get e
    exact ⟨a, C, dx, _, w, rfl, hH, hc, hn, lookup_zip hd hi e1, z w H1 f' s1 r3 fun j hj b hb => n1 j hj b (List.mem_cons_of_mem _ (k b hb))⟩) q)⟩
def isI (C : Addr) (ns : List Str) (x : D) : Prop := match x with | .ins C' ns' _ => C' = C ∧ ns' = ns | _ => False
theorem isI_ins {ds : List D} : isI C ns (.ins C ns ds) = True := by
  unfold isI
  simp
theorem isI_out {x : D} (h : isI C ns x) : ∃ ds, x = .ins C ns ds := by
  cases x with
  | ins C' ns' ds => obtain ⟨rfl, rfl⟩ := h; exact ⟨ds, rfl⟩
  | _ => exact h.elim
def vMeth (C : Addr) (ns : List Str) (S : DSp) (da : DE) (dr : DA) (δ : Dl) (P : DK) : Prop := da δ fun x => isI C ns x ∧ dr δ fun xs => S (x :: xs) P
theorem em_meth {m : Str} {S : DSp} {E : XK} {w : TA} {dr : DA} (ns : List Str) (hS : DMono S) (ha : ER K Γ ta da) (hr : AR K Γ w dr) (hm : m ∉ ns := by decide +kernel) : EM K Γ [] (tMeth C m (spP K S) [] E ta w) (vMeth C ns S da dr) :=
  ⟨fun δ P P' k h => ha.mono _ _ _ (fun x z => ⟨z.1, hr.mono _ _ _ (fun y z => hS _ _ _ k z) z.2⟩) h,
   fun {B0 fps δ σ H Q} o q => ha.run o (ha.mono _ _ _ (fun x z v H1 s1 r1 => by
    obtain ⟨z1, z2⟩ := z
    obtain ⟨ds, rfl⟩ := isI_out z1
    obtain ⟨fp, a, dx, xs, fq, rfl, hH, e, hq⟩ := id r1
    refine ⟨a, dx, _, rfl, hH, lookup_zip_none hm, hr.run (o.same s1) (hr.mono _ _ _ (fun ys z vs H2 s2 r2 => ?_) z2)⟩
    obtain ⟨f1, r1'⟩ := r1.same s2
    obtain ⟨f2, r2'⟩ := r2
    exact ⟨.ins C ns ds :: ys, ⟨f1 ++ f2, _, _, f1, f2, by rw [List.append_nil], rfl, r1', r2'⟩, hS _ _ _ (fun u z u' H' fp s r n => z u' H' fp ((s1.trans s2).trans s) r (n.any.later (s1.trans s2))) z⟩) q)⟩
def vOrE (d e : DE) (δ : Dl) (P : DK) : Prop := d δ P ∨ e δ P
theorem em_orE (h1 : EM K Γ M t d) (h2 : EM K Γ M u e) : EM K Γ M (tOrE t u) (vOrE d e) :=
  ⟨fun δ P P' k h => h.imp (h1.mono _ _ _ k) (h2.mono _ _ _ k), fun o q => q.elim (fun q => .inl (h1.run o q)) fun q => .inr (h2.run o q)⟩
def vIsC (L : List Addr) (da : DE) (δ : Dl) (P : DK) : Prop := da δ fun x => (∃ C ns ds, x = .ins C ns ds ∧ C ∈ L) ∧ P (.bl true)
theorem em_isC {P : Addr} (L : List Addr) (hk : ∀ C ∈ L, ICls K C ∧ PySem.W.kitOne K (.ref C) (.ref P) = some true) (ha : ER K Γ ta da) : EM K Γ [] (tCB (rIsC K P) (tCons ta (tCons (tC (.ref P)) tNil))) (vIsC L da) :=
  ⟨fun δ P P' k h => ha.mono _ _ _ (fun x z => ⟨z.1, k _ z.2⟩) h,
   fun {B0 fps δ σ H Q} o h => ha.run o (ha.mono _ _ _ (fun x z v H1 s1 r1 => by
    obtain ⟨⟨C, ns, ds, rfl, hC⟩, z⟩ := z
    obtain ⟨fp, a, dx, xs, fq, rfl, hH, _, _⟩ := r1
    obtain ⟨k1, k2⟩ := hk C hC
    exact ⟨.ref a, _, _, rfl, .ins hH k1.cl k1.ha k1.hn k1.ht k1.hm, k2, z _ H1 [] s1 ⟨rfl, rfl⟩ Nw.nil⟩) h)⟩
def spN (K : PySem.W.Frag) (C : Addr) (S : DSp) : Sp := fun vs H Q _ => ∃ (x dx : Addr) (ws : List V) (ds : List D) (B0 : Hp), vs = .ref x :: ws ∧ B0 x = none ∧ H = upd B0 x (.ins C dx []) ∧ Rps K B0 ds ws ∧
  S ds fun d => ∀ ns xs dd fq H', d = .ins C ns dd → Same B0 H' → H' x = some (.ins C dx (ns.zip xs)) → Rfs K H' dd xs fq → fq.Nodup → (∀ a ∈ fq, B0 a = none ∧ a ≠ x ∧ Mu H' a) → Q .non H'
theorem spN_len {S : DSp} {n : Nat} (h : ∀ ds P, S ds P → ds.length = n) {vs : List V} {H : Hp} {Q : VK} {E : XK} (k : spN K C S vs H Q E) : vs.length = n + 1 := by
  obtain ⟨x, dx, ws, ds, B0, rfl, _, _, r, hS⟩ := k
  obtain ⟨fp, r⟩ := r
  rw [List.length_cons, r.length, h _ _ hS]
theorem em_make {S : DSp} {E : XK} {w : TA} {dr : DA} (hS : DMono S) (hi : ∀ ds P, S ds P → S ds fun d => (∃ ns dd, d = .ins C ns dd) ∧ P d) (hr : AR K Γ w dr) : EM K Γ [] (tMake C (spN K C S) [] E w) (vCall S dr) :=
  ⟨fun δ P P' k h => hr.mono _ _ _ (fun y z => hS _ _ _ k z) h,
   fun {B0 fps δ σ H Q} o q => hr.run o (hr.mono _ _ _ (fun ys z vs H1 s1 r1 => by
    intro x dx hx hdx hne
    have sx : Same H1 (upd H1 dx (.own x)) := Same.new' hdx
    refine ⟨x, dx, vs, ys, upd H1 dx (.own x), by rw [List.append_nil], by rw [upd_ne (Ne.symm hne)]; exact hx, rfl, r1.same sx, hS _ _ _ ?_ (hi _ _ z)⟩
    rintro d ⟨⟨ns, dd, rfl⟩, z⟩ ns' xs dd' fq H' e sH hH hq hnd hfq
    cases e
    refine ⟨rfl, z (.ref x) H' (x :: fq) (s1.trans (sx.trans sH)) ⟨x, dx, xs, fq, rfl, hH, rfl, hq⟩ ⟨List.nodup_cons.mpr ⟨fun h => (hfq x h).2.1 rfl, hnd⟩, fun a ha => ?_, fun a ha => ?_⟩⟩
    · rcases List.mem_cons.mp ha with e | h
      · rw [e]; exact .inr (.inr (.inr ⟨_, _, _, hH⟩))
      · exact (hfq a h).2.2
    · rcases List.mem_cons.mp ha with e | h
      · rw [e]; exact .inl (s1.free hx)
      · exact .inl (s1.free (sx.free (hfq a h).1))) q)⟩
structure INI (K : PySem.W.Frag) (C : Addr) (t : TS) (ns : List Str) (d : DA) : Prop where
  mono : ∀ δ (P P' : List D → Prop), (∀ x, P x → P' x) → d δ P → d δ P'
  run : ∀ {B0 fps δ σ H x dx ns0 xs0 ds0 fq0 Dn}, Ok K B0 [] fps δ σ H → σ[0]? = some (some (.ref x)) → H x = some (.ins C dx (ns0.zip xs0)) → B0 x = none → ns0.length = xs0.length → Rfs K H ds0 xs0 fq0 → fq0.Nodup →
    (∀ a ∈ fq0, B0 a = none ∧ a ≠ x ∧ Mu H a) → (∀ i, x ∉ fps i) → (∀ n ∈ ns, n ∉ ns0) → (ns0 ++ ns).Nodup → (ns0 ++ ns).length ≤ 100 →
    d δ (fun ds => ∀ H' xs fq, Same B0 H' → H' x = some (.ins C dx ((ns0 ++ ns).zip xs)) → Rfs K H' (ds0 ++ ds) xs fq → fq.Nodup → (∀ a ∈ fq, B0 a = none ∧ a ≠ x ∧ Mu H' a) → Dn.nx σ H') → t Dn σ H
theorem Rfs.snoc {H : Hp} : ∀ {ds : List D} {xs : List V} {fq : List Addr} {d : D} {v : V} {fp : List Addr}, Rfs K H ds xs fq → Rf K H d v fp → Rfs K H (ds ++ [d]) (xs ++ [v]) (fq ++ fp)
  | [], xs, fq, d, v, fp, h, r => by
    obtain ⟨rfl, rfl⟩ := h
    exact ⟨v, [], fp, [], rfl, by simp, r, rfl, rfl⟩
  | d0 :: ds, xs, fq, d, v, fp, h, r => by
    obtain ⟨x, rr, f1, f2, rfl, rfl, h1, h2⟩ := h
    exact ⟨x, rr ++ [v], f1, f2 ++ fp, rfl, by simp, h1, h2.snoc r⟩
theorem ini_step {f : Str} (hc : Cls K C) (hn : NoAttr K C f) (he : EM K [] [] ta da) {B0 : Hp} {fps : Nat → List Addr} {δ : Dl} {σ : St} {H : Hp} {x dx : Addr} {ns0 : List Str} {xs0 : List V} {ds0 : List D} {fq0 : List Addr} {Dn : Ends}
    (o : Ok K B0 [] fps δ σ H) (h0 : σ[0]? = some (some (.ref x))) (hx : H x = some (.ins C dx (ns0.zip xs0))) (hb : B0 x = none) (hl : ns0.length = xs0.length) (hr : Rfs K H ds0 xs0 fq0) (hnd : fq0.Nodup)
    (hq : ∀ a ∈ fq0, B0 a = none ∧ a ≠ x ∧ Mu H a) (hfp : ∀ i, x ∉ fps i) (hf : f ∉ ns0) (h100 : ns0.length < 100)
    (q : da δ fun y => ∀ H' v fq, Ok K B0 [] fps δ σ H' → H' x = some (.ins C dx ((ns0 ++ [f]).zip (xs0 ++ [v]))) → Rfs K H' (ds0 ++ [y]) (xs0 ++ [v]) fq → fq.Nodup → (∀ a ∈ fq, B0 a = none ∧ a ≠ x ∧ Mu H' a) → Dn.nx σ H') : sFld K (tVar 0) ta f Dn σ H := by
  refine he.run o (he.mono _ _ _ (fun y z v H1 fp s1 r1 n1 => ?_) q)
  have hx1 := s1 _ _ hx
  refine ⟨.ref x, h0, x, C, dx, _, rfl, hx1, hc, hn, by rw [List.length_zip]; omega, ?_⟩
  rw [putF_zip hf hl]
  have hxp : x ∉ fp := fun h => by have := n1.fresh x h; rw [hx] at this; cases this
  have keep : ∀ a, a ≠ x → upd H1 x (.ins C dx ((ns0 ++ [f]).zip (xs0 ++ [v]))) a = H1 a := fun a ha => upd_ne ha
  have imm : ∀ a w, H1 a = some w → Im w → upd H1 x (.ins C dx ((ns0 ++ [f]).zip (xs0 ++ [v]))) a = some w := fun a w e hi => by
    have : a ≠ x := fun z => by
      subst z
      rw [hx1] at e
      cases e
      rcases hi with ⟨_, z⟩ | ⟨_, _, z⟩ | ⟨_, _, z⟩ <;> cases z
    rw [keep a this]; exact e
  have muk : ∀ a, a ≠ x → Mu H1 a → Mu (upd H1 x (.ins C dx ((ns0 ++ [f]).zip (xs0 ++ [v])))) a := fun a ha m => m.upd (.inr (.inr (.inr ⟨_, _, _, rfl⟩)))
  have o1 := o.same s1
  refine z _ v (fq0 ++ fp) ⟨o1.len, fun a w e => ?_, fun i dd e => ?_, o1.non, fun _ h => (nomatch h), fun _ h => (nomatch h)⟩ upd_same (Rfs.snoc ((hr.same s1).mono (fun a ha w e => by rw [keep a (hq a ha).2.1]; exact e) imm) (r1.mono (fun a ha w e => by rw [keep a (fun z => hxp (z ▸ ha))]; exact e) imm)) ?_ fun a ha => ?_
  · rw [keep a (fun z => by subst z; rw [hb] at e; cases e)]
    exact o1.b0 a w e
  · obtain ⟨v', h1, h2⟩ := o1.val i dd e
    exact ⟨v', h1, h2.mono (fun a ha w e => by rw [keep a (fun z => hfp i (z ▸ ha))]; exact e) imm⟩
  · refine List.nodup_append.mpr ⟨hnd, n1.nd, fun a h1 b h2 e => ?_⟩
    subst e
    exact (hq a h1).2.2.some (n1.fresh a h2)
  · rcases List.mem_append.mp ha with h | h
    · exact ⟨(hq a h).1, (hq a h).2.1, muk a (hq a h).2.1 ((hq a h).2.2.same s1)⟩
    · exact ⟨o.b0.free (n1.fresh a h), fun z => hxp (z ▸ h), muk a (fun z => hxp (z ▸ h)) (n1.mu a h)⟩
theorem ini_one {f : Str} (hc : Cls K C) (hn : NoAttr K C f) (he : EM K [] [] ta da) : INI K C (sFld K (tVar 0) ta f) [f] (vCons da vNil) :=
  ⟨fun δ P P' k h => he.mono _ _ _ (fun x z => k _ z) h, fun {B0 fps δ σ H x dx ns0 xs0 ds0 fq0 Dn} o h0 hx hb hl hr hnd hq hfp hf hns h100 q =>
    ini_step hc hn he o h0 hx hb hl hr hnd hq hfp (hf f List.mem_cons_self) (by simp at h100; omega) (he.mono _ _ _ (fun y z H' v fq o' g1 g2 g3 g4 => z H' _ fq o'.b0 g1 g2 g3 g4) q)⟩
theorem ini_cons {f : Str} {t : TS} {ns : List Str} {dr : DA} (hc : Cls K C) (hn : NoAttr K C f) (he : EM K [] [] ta da) (hr : INI K C t ns dr) : INI K C (tSeq (sFld K (tVar 0) ta f) t) (f :: ns) (vCons da dr) :=
  ⟨fun δ P P' k h => he.mono _ _ _ (fun x z => hr.mono _ _ _ (fun y z => k _ z) z) h, fun {B0 fps δ σ H x dx ns0 xs0 ds0 fq0 Dn} o h0 hx hb hl hR hnd hq hfp hf hns h100 q =>
    ini_step hc hn he o h0 hx hb hl hR hnd hq hfp (hf f List.mem_cons_self) (by simp at h100; omega) (he.mono _ _ _ (fun y z H' v fq o' g1 g2 g3 g4 => by
      have e1 : ns0 ++ f :: ns = (ns0 ++ [f]) ++ ns := by simp
      refine hr.run o' h0 g1 hb (by simp [hl]) g2 g3 g4 hfp (fun n hn' z' => ?_) (by rw [← e1]; exact hns) (by rw [← e1]; exact h100) (hr.mono _ _ _ (fun ds z H2 xs fq s2 k1 k2 k3 k4 => ?_) z)
      · rw [e1] at hns
        exact (List.nodup_append.mp hns).2.2 n z' n hn' rfl
      · refine z H2 xs fq s2 (by rw [e1]; exact k1) ?_ k3 k4
        rw [List.append_assoc] at k2
        exact k2) q)⟩
theorem fn_ini {N : List Str} {S : DSp} {t : TS} {ns : List Str} {d : DA} (hs : INI K C t ns d) (hd : ∀ ds P, S ds P → d (none :: (startD (N.drop 1) ds)) fun dd => P (.ins C ns dd)) (hN : 1 ≤ N.length) (hns : ns.Nodup := by decide +kernel) (h100 : ns.length ≤ 100 := by decide) :
    ∀ {vs H Q E}, spN K C S vs H Q E → t { nx := fun _ H' => Q .non H', rt := Q } (L2.start N vs) H := by
  rintro vs H Q E ⟨x, dx, ws, ds, B0, rfl, hb, rfl, r, h⟩
  obtain ⟨fps, o⟩ := start_ok (N := N.drop 1) r
  have sx : Same B0 (upd B0 x (.ins C dx [])) := Same.new' hb
  have o2 := o.same sx
  have est : L2.start N (.ref x :: ws) = some (.ref x) :: L2.start (N.drop 1) ws := by
    unfold L2.start
    rw [List.map_cons, List.cons_append, List.length_cons, List.length_drop, show N.length - (ws.length + 1) = N.length - 1 - ws.length by omega]
  rw [est]
  refine hs.run (B0 := B0) (fps := fun i => match i with | 0 => [] | j + 1 => fps j) (δ := none :: startD (N.drop 1) ds) (x := x) (dx := dx) (ns0 := []) (xs0 := []) (ds0 := []) (fq0 := []) ⟨by rw [List.length_cons, List.length_cons, o2.len], sx, fun i dd e => ?_, fun i e => ?_, fun _ h => (nomatch h), fun _ h => (nomatch h)⟩ rfl upd_same hb rfl ⟨rfl, rfl⟩ List.nodup_nil (fun _ h => (nomatch h)) (fun i => ?_) (fun _ _ h => (nomatch h)) hns h100 (hs.mono _ _ _ (fun dd z H' xs fq s1 k1 k2 k3 k4 => ?_) (hd ds _ h))
  · cases i with
    | zero => simp at e
    | succ j => exact o2.val j dd (by simpa using e)
  · cases i with
    | zero => rfl
    | succ j => exact o2.non j fun dd z => e dd (by simpa using z)
  · cases i with
    | zero => exact fun h => (nomatch h)
    | succ j => exact fun h => o.dom h hb
  · exact z ns xs dd fq H' rfl s1 k1 k2 k3 k4
end
end L3
set_option linter.all false
set_option maxRecDepth 100000
namespace L2
open PySem PySem.Spec PyProof.Rows
theorem ObjOk.there {P : Program} {w : World} {H : Hp} {h : Heap} {a : Addr} {o : HO} (x : ObjOk P w H h a o) : ∃ ob, h.get? a = some ob := by
  cases o with
  | lst xs => obtain ⟨_, _, _, _, e⟩ := x; exact ⟨_, e⟩
  | tup xs => obtain ⟨_, _, _, ob, e, _⟩ := x; exact ⟨_, e⟩
  | dK kvs => obtain ⟨_, _, _, _, o, _, _, e, _⟩ := x; exact ⟨_, e⟩
  | dT kvs => obtain ⟨_, _, _, _, o, _, _, e, _⟩ := x; exact ⟨_, e⟩
  | set S n => obtain ⟨o, _, _, _, e, _⟩ := x; exact ⟨_, e⟩
  | ins C dx fs => obtain ⟨_, _, _, e, _⟩ := x; exact ⟨_, e⟩
  | own y => exact x
  | xd fs => obtain ⟨_, ⟨_, _, _, e, _⟩, _⟩ := x; exact ⟨_, e⟩
  | rng lo hi => obtain ⟨_, _, _, e⟩ := x; exact ⟨_, e⟩
  | frz ob u => obtain ⟨e, _⟩ := x; exact ⟨_, e⟩
  | tbl ps => exact ⟨_, (show h.get? a = some _ from x)⟩
  | met f y => exact ⟨_, (show h.get? a = some _ from x)⟩
  | ext φ => obtain ⟨_, e, _⟩ := x; exact e
  | memo φ ks => obtain ⟨_, _, _, _, _, _, _, e, _⟩ := x; exact ⟨_, e⟩
def Fly (h : Heap) (H : Hp) (lo : Heap) (a : Addr) (C : Value) : Prop :=
  (H a = none ∧ lo.get? a = none) ∧ ∃ oe vs a0 T oT ts, h.get? a = some oe ∧ (oe.cls = C ∧ vs[0]? = some a0) ∧ oe.data = .fields vs ∧ vs[1]? = some (.ref T) ∧ T ≠ a ∧ h.get? T = some oT ∧ oT.data = .fields ts ∧ ts[3]? = some .none ∧ H T = none ∧ lo.get? T = none
def FlyN (h : Heap) (H : Hp) (lo : Heap) (a : Addr) (C : Value) : Prop :=
  (H a = none ∧ lo.get? a = none) ∧ ∃ oe vs a0, h.get? a = some oe ∧ (oe.cls = C ∧ vs[0]? = some a0) ∧ oe.data = .fields vs ∧ vs[1]? = some .none
def CXR (P : Program) (w : World) : CXT := fun outer H s E e s' => ∃ (a C : Addr) (H' : Hp), e = .ref a ∧ s'.os = s.os ∧ AllBare s'.gens ∧ Un (frs outer) [] H H' s.heap s'.heap ∧ HOk P w H' s'.heap ∧
  Fly s'.heap H' s.heap a (.ref C) ∧ E (.ref C) none H'
section
variable {P : Program} {w : World} {K : PySem.W.Frag} {mg : Str → Option Value} {base : Heap} {N : List Str} {qual : Str} {scope : Scope} {f : Addr} {cd : Value} {A : Around} {outer : List Env} {s0 : Shared} {H0 : Hp} {E : XK}
variable {pins : List (Addr × Obj)} {σ : St} {H' : Hp} {s' : Shared} {a C : Addr} {h2 : Heap}
theorem left_done {as : List Addr} {a0 : Value} (J : Inv (cxOf (CXR P w) P w K mg base N qual scope f cd A outer s0 H0 E) pins σ H' s')
    (has : ∀ b ∈ as, b ∈ frs (envOfC qual scope s0.heap.objs.size f cd :: outer) ∨ (H' b = none ∧ s0.heap.get? b = none))
    (L : Heap.LeftW (PySem.W.hideAll s'.heap as) (envOfC qual scope s0.heap.objs.size f cd :: outer) a (.ref C) a0 s'.heap h2) (ha : H' a = none ∧ s0.heap.get? a = none) (q : E (.ref C) none H') :
    CXR P w outer H0 s0 E (.ref a) { s' with heap := h2 } := by
  obtain ⟨k1, k2, k3, k4⟩ := L
  have bs : Un (frs outer) [] H0 H' s0.heap s'.heap := J.base
  have keepB : ∀ b o, s'.heap.get? b = some o → b ∉ as → h2.get? b = some o := fun b o e n => k1 b o (PySem.W.hideAll_get _ e n)
  have stf : ∀ b ∈ frs (envOfC qual scope s0.heap.objs.size f cd :: outer), H' b = none := J.stkFree
  have sts : ∀ b ∈ frs (envOfC qual scope s0.heap.objs.size f cd :: outer), b ∈ s0.heap.objs.size :: frs outer := J.stkSub
  have trk : ∀ b u, H' b = some u → b ∉ as := fun b u e z => by
    rcases has b z with z | ⟨z, _⟩
    · rw [stf b z] at e; cases e
    · rw [z] at e; cases e
  have nofld : ∀ b ∈ frs (envOfC qual scope s0.heap.objs.size f cd :: outer), ∃ o, s'.heap.get? b = some o ∧ ∀ vs, o.data ≠ .fields vs := fun b hb => (J.stack.mem hb).2
  refine ⟨a, C, H', rfl, J.os, J.bare, ⟨fun b o e n hb hx => ?_, fun b o e n hb hx => ?_, bs.free, fun b o e hx => ?_, bs.tups, bs.frzs, bs.tbls⟩, fun c o e => ?_, ⟨ha, ?_⟩, q⟩
  · refine keepB b o (bs.keep b o e n hb hx) fun z => ?_
    rcases has b z with z | ⟨_, z⟩
    · rcases List.mem_cons.mp (sts b z) with z | z
      · rw [z] at e; exact absurd (Heap.lt_size e) (Nat.lt_irrefl _)
      · exact hb z
    · rw [z] at e; cases e
  · obtain ⟨sl, e1⟩ := bs.slot b o e n hb hx
    obtain ⟨_, o', e', nf⟩ := J.ok.funs.mem hb
    have e' : s0.heap.get? b = some o' := e'
    rw [e] at e'; cases e'
    obtain ⟨sl2, e2⟩ := k4 b { o with slots := sl } e1 nf
    exact ⟨sl2, e2⟩
  · obtain ⟨o', e1⟩ := bs.there b o e hx
    by_cases z : b ∈ as
    · rcases has b z with z | ⟨_, z⟩
      · obtain ⟨o2, e2, nf⟩ := nofld b z
        obtain ⟨sl, e3⟩ := k4 b o2 e2 nf
        exact ⟨_, e3⟩
      · rw [z] at e; cases e
    · exact ⟨o', keepB b o' e1 z⟩
  · refine (J.hok c o e).stay (fun b u hb q => keepB b u q ?_) (fun _ q => q) fun _ _ q => q
    rcases hb with rfl | hb
    · exact trk _ _ e
    · exact trk _ _ hb
  · obtain ⟨oe, vs, T, oT, ts, g1, g2, g3, g4, g5, g6, g7, g8, g9⟩ := k3
    refine ⟨oe, vs, a0, T, oT, ts, g1, g2, g3, g4, g6, g7, g8, g9, ?_, ?_⟩
    · cases r : H' T with
      | none => rfl
      | some u =>
        obtain ⟨ob, e⟩ := (J.hok T u r).there
        rw [PySem.W.hideAll_get as e (trk T u r)] at g5
        cases g5
    · cases r : s0.heap.get? T with
      | none => rfl
      | some u =>
        obtain ⟨o', e1⟩ := bs.there T u r (fun z => (nomatch z))
        by_cases z : T ∈ as
        · rcases has T z with z | ⟨_, z⟩
          · obtain ⟨_, o2, e2, nf⟩ := k2.mem z
            rw [g7] at e2; cases e2
            exact absurd g8 (nf ts)
          · rw [z] at r; cases r
        · rw [PySem.W.hideAll_get as e1 z] at g5; cases g5
theorem leave_x {H : Hp} {s : Shared} (I : Inv (cxOf (CXR P w) P w K mg base N qual scope f cd A outer s0 H0 E) pins σ H s) (os : s'.os = s.os) (bare : AllBare s'.gens)
    (U : Un (frs (envOfC qual scope s0.heap.objs.size f cd :: outer)) [] H H' s.heap s'.heap) (ok : HOk P w H' s'.heap) (fl : FlyN s'.heap H' s.heap a (.ref C) ∨ Fly s'.heap H' s.heap a (.ref C)) (q : E (.ref C) none H') :
    (cxOf (CXR P w) P w K mg base N qual scope f cd A outer s0 H0 E).xe (.ref a) s' := by
  have J : Inv (cxOf (CXR P w) P w K mg base N qual scope f cd A outer s0 H0 E) pins σ H' s' := I.call' os U ok bare fun b hb => (nomatch hb)
  have up : ∀ b, s.heap.get? b = none → s0.heap.get? b = none := fun b n => by
    cases r : s0.heap.get? b with
    | none => rfl
    | some u =>
      obtain ⟨o', e1⟩ := I.base.there b u r (fun z => (nomatch z))
      rw [n] at e1; cases e1
  have hfr : (A.deeper (envOfC qual scope s0.heap.objs.size f cd)).frames = some (envOfC qual scope s0.heap.objs.size f cd :: outer) := J.ok.frames
  have hst : s'.heap.FunFrames base (envOfC qual scope s0.heap.objs.size f cd :: outer) := J.stack
  have hin : ∀ env ∈ (envOfC qual scope s0.heap.objs.size f cd :: outer), ∀ b, env.frame = some b → b ∈ frs (envOfC qual scope s0.heap.objs.size f cd :: outer) := fun env he b hb => List.mem_filterMap.mpr ⟨env, he, hb⟩
  show wpAny _ _ _ _ _ _
  rcases fl with ⟨⟨na, fa⟩, oe, vs, a0, ge, ⟨gc, g0⟩, gd, g1⟩ | ⟨⟨na, fa⟩, oe, vs, a0, T, oT, ts, ge, gc, gd, g1, g2, g3, g4, g5, nT, fT⟩
  · refine wpAny_leaving_firstW (base := PySem.W.hideAll s'.heap (a :: frs (envOfC qual scope s0.heap.objs.size f cd :: outer))) hfr
      (PySem.W.funFrames_hide hst fun env he b hb => List.mem_cons_of_mem _ (hin env he b hb)) rfl ge (fun b o e => PySem.W.of_hideAll _ e) (PySem.W.hideAll_none _ (List.mem_cons_self ..)) gd g1 g0 fun h2 L => ?_
    rw [gc] at L
    refine left_done J (fun b hb => ?_) L ⟨na, up a fa⟩ q
    rcases List.mem_cons.mp hb with rfl | hb
    · exact .inr ⟨na, up _ fa⟩
    · exact .inl hb
  · refine wpAny_leaving_nextW (a0 := a0) (base := PySem.W.hideAll s'.heap (a :: T :: frs (envOfC qual scope s0.heap.objs.size f cd :: outer))) (cls := .ref C) hfr
      (PySem.W.funFrames_hide hst fun env he b hb => List.mem_cons_of_mem _ (List.mem_cons_of_mem _ (hin env he b hb))) rfl
      ⟨oe, vs, T, oT, ts, ge, gc, gd, g1, PySem.W.hideAll_none _ (List.mem_cons_of_mem _ (List.mem_cons_self ..)), g2, g3, g4, g5⟩ (fun b o e => PySem.W.of_hideAll _ e) (PySem.W.hideAll_none _ (List.mem_cons_self ..)) fun h2 L => ?_
    refine left_done J (fun b hb => ?_) L ⟨na, up a fa⟩ q
    rcases List.mem_cons.mp hb with rfl | hb
    · exact .inr ⟨na, up _ fa⟩
    · rcases List.mem_cons.mp hb with rfl | hb
      · exact .inr ⟨nT, up _ fT⟩
      · exact .inl hb
end
def tRaise (C : Addr) (E : XK) (ta : TA) : TS := fun _ σ H => ta σ H fun vs H1 => vs.length ≤ 1000 ∧ E (.ref C) none H1
def Raises (X : Cx) (C : Addr) (E : XK) : Prop := ∀ (pins : List (Addr × Obj)) (σ : St) (H : Hp) (s : Shared) (h' : Heap) (a : Addr) (us : List Value), Inv X pins σ H s → Heap.MadeExcOf s.heap h' a (.ref C) us → E (.ref C) none H → X.xe (.ref a) { s with heap := h' }
theorem raise_x {P : Program} {w : World} {K : PySem.W.Frag} {mg : Str → Option Value} {base : Heap} {N : List Str} {qual : Str} {scope : Scope} {f : Addr} {cd : Value} {A : Around} {outer : List Env} {s0 : Shared} {H0 : Hp} {E : XK} {C : Addr} :
    Raises (cxOf (CXR P w) P w K mg base N qual scope f cd A outer s0 H0 E) C E := fun pins σ H s h' a us I hx q => by
  obtain ⟨t, ht, _, _⟩ := hx.there
  refine leave_x (s' := { s with heap := h' }) I rfl I.bare (Un.kept hx.keeps) (I.hok.kept hx.keeps) (.inl ⟨⟨?_, hx.new⟩, _, _, _, ht, ⟨rfl, rfl⟩, rfl, rfl⟩) q
  cases r : H a with
  | none => rfl
  | some u =>
    obtain ⟨ob, e⟩ := (I.hok a u r).there
    rw [hx.new] at e; cases e
section
variable {X : Cx} {x : Str} {C : Addr} {bmB : List Value} {B newId initId : String} {E : XK} {e : Expr} {es : List Expr} {ta : TA} {np cpos pos : Pos}
theorem ps_raise (O : OwnCls x C bmB newId X.mg X.base) (FB : ExcBaseFacts B newId initId bmB) (hc : X.calm = true) (hg : Gl X x) (hxe : Raises X C E) (ha : PA X (e :: es) ta) (hdb : (x == ("__debug__" : Str)) = false := by decide)
    (he : starEach (e :: es) X.env = (false, eval e X.env) :: starEach es X.env := by rfl) (hpl : (backTo cpos (starEach es X.env)).any (·.1) = false := by rfl) :
    PS X (.Raise (some (.Call (.Name x np) (e :: es) [] cpos)) none pos) (tRaise C E ta) := by
  intro pins s σ H D I h
  obtain ⟨tl, N, nm, q, bs, hdct, sn, sub, ab, col, dd, k0, k1, k2, k3, k5, mN, hC, hN, hni, T⟩ := O.obj
  refine wpAny_Raise_call_subT (C := C) (nm := nm) (q := q) (N := N) (bs := bs) (bm := tl) (hdct := hdct) (sn := sn) (sub := sub) (ab := ab) (col := col) (dd := dd) (k0 := k0) (k1 := k1) (k2 := k2) (k3 := k3) (k5 := k5)
    FB (mN := mN) (T.hasType FB.hasBase) (I.ok.hd hc) (by rw [he]; show (false || (backTo cpos (starEach es X.env)).any (·.1)) = false; rw [hpl]; rfl) hni (ld_glob I hg O.bound ⟨rfl, ?_⟩ hdb)
  have h1 := ha cpos pins s σ H _ I h
  rw [he] at h1 ⊢
  refine Calls.evalArgs_plain (thn h1 fun us s1 ⟨vs, H1, I1, r, q1, q2⟩ => ?_)
  exact ⟨rfl, by show us.length ≤ _; rw [← r.length]; exact Nat.le_of_lt (small1000 q1), I1.bk _ _ hC, hN.keeps I1.bk, T.keeps I1.bk, fun h' a hx => hxe pins σ H1 s1 h' a us I1 hx q2⟩
end
end L2
set_option linter.all false
set_option maxRecDepth 100000
namespace L2
open PySem PySem.Spec PyProof.Rows
abbrev VB : List Value := [.type "ValueError", .type "Exception", .type "BaseException", .type "object"]
def ExcObj (h : Heap) (C : Addr) (ups : List Addr) : Prop := ∃ N nm q bs hdct sn sub ab col dd k0 k1 k2 k3 k5 mN,
  h.get? C = some (excClassObj nm q C N bs (ups.map Value.ref ++ VB) hdct sn sub ab col dd k0 k1 k2 k3 k5 "ValueError.__new__") ∧ h.Ns N mN ∧ mN "__init__" = none ∧ OwnTail h VB (ups.map Value.ref ++ VB)
theorem ExcObj.own {h : Heap} {C : Addr} {ups : List Addr} {mg : Str → Option Value} {x : Str} (O : ExcObj h C ups) (hm : mg x = some (.ref C)) : OwnCls x C VB "ValueError.__new__" mg h := by
  obtain ⟨N, nm, q, bs, hdct, sn, sub, ab, col, dd, k0, k1, k2, k3, k5, mN, hC, hN, hni, T⟩ := O
  exact ⟨hm, _, N, nm, q, bs, hdct, sn, sub, ab, col, dd, k0, k1, k2, k3, k5, mN, hC, hN, hni, T⟩
section
variable {X : Cx} {pins : List (Addr × Obj)} {σ : St} {H H' : Hp} {s s' : Shared} {a C : Addr} {a0 : Value} {h : Heap}
end
end L2
set_option linter.all false
set_option maxRecDepth 100000
namespace L2
open PySem PySem.Spec PyProof.Rows
section
variable {X : Cx} {pins : List (Addr × Obj)} {σ : St} {H : Hp} {s : Shared} {a : Addr} {oe : Obj}
end
section
variable {X : Cx} {CX : CXT} {k : Nat} {f C D : Addr} {fd : FuncData} {ps : List Str} {sp : Sp} {E : XK} {x y n : Str} {p np cp ep hp pos : Pos} {e : Expr} {es : List Expr} {ta : TA} {b₀ : Stmt} {suite : List Stmt} {i : Nat} {ups upD : List Addr}
end
end L2
set_option Elab.async false
set_option linter.all false
set_option maxRecDepth 100000
set_option maxHeartbeats 4000000
namespace L3
open PySem L2
abbrev DSX := List D → DK → (Addr → Prop) → Prop
def DMonoX (S : DSX) : Prop := ∀ xs (P P' : DK) (R R' : Addr → Prop), (∀ z, P z → P' z) → (∀ C, R C → R' C) → S xs P R → S xs P' R'
def spX (K : PySem.W.Frag) (S : DSX) : Sp := fun vs H Q E => ∃ ds, Rps K H ds vs ∧ S ds (fun x => ∀ v H' fp, Same H H' → Rf K H' x v fp → Nw H H' nf [] fp → Q v H') (fun C => ∀ H', Same H H' → E (.ref C) none H')
def SX (K : PySem.W.Frag) (ρ : Bool) (Γr Γl : List Nat) (R : Addr → Prop) (t : XK → TS) (Γ Γn : List Nat) (d : DS) : Prop :=
  ∀ ⦃B0 : Hp⦄ ⦃Dn : Ends⦄ ⦃E : DEnds⦄ ⦃Ex : XK⦄ ⦃fps : Nat → List Addr⦄ ⦃δ : Dl⦄ ⦃σ : St⦄ ⦃H : Hp⦄, (∀ C H', Same B0 H' → R C → Ex (.ref C) none H') → EOk K ρ Γr Γl Γn B0 Dn E → Ok K B0 Γ fps δ σ H → d E δ → t Ex Dn σ H
section
variable {K : PySem.W.Frag} {ρ : Bool} {Γr Γl Γ Γ1 Γ2 Γn M : List Nat} {R : Addr → Prop} {t u : XK → TS} {t0 : TS} {d e : DS} {C : Addr} {S : DSX} {ta : TA} {da : DA}
theorem ST.sx (h : ST K ρ Γr Γl t0 Γ Γn d) : SX K ρ Γr Γl R (fun _ => t0) Γ Γn d := fun _ _ _ _ _ _ _ _ _ k o q => h k o q
theorem sx_seq (h1 : SX K ρ Γr Γl R t Γ Γ1 d) (h2 : SX K ρ Γr Γl R u Γ1 Γ2 e) : SX K ρ Γr Γl R (fun Ex => tSeq (t Ex) (u Ex)) Γ Γ2 (vSeq d e) :=
  fun {B0 Dn E Ex fps δ σ H} x k o h => h1 (Dn := { Dn with nx := u Ex Dn }) (E := { E with nx := e E }) x ⟨fun o h => h2 x k o h, k.bk, k.ct, k.rt⟩ o h
theorem sx_if {c : TT} {dc : DT} (hc : TR K Γ c dc) (h1 : SX K ρ Γr Γl R t Γ Γn d) (h2 : SX K ρ Γr Γl R u Γ Γn e) : SX K ρ Γr Γl R (fun Ex => tIfS c (t Ex) (u Ex)) Γ Γn (vIfS dc d e) :=
  fun _ _ _ _ _ _ _ _ x k o h => hc.run o (hc.mono _ _ _ (fun b z H' s => ite_imp (fun z => h1 x k (o.same s) z) (fun z => h2 x k (o.same s) z) z) h)
def vRaise (C : Addr) (R : Addr → Prop) (da : DA) (_ : DEnds) (δ : Dl) : Prop := da δ fun xs => xs.length ≤ 1000 ∧ R C
theorem sx_raise (ha : AR K Γ ta da) : SX K ρ Γr Γl R (fun Ex => tRaise C Ex ta) Γ Γn (vRaise C R da) :=
  fun {B0 Dn E Ex fps δ σ H} x k o h => ha.run o (ha.mono _ _ _ (fun xs z vs H' s r => by
    obtain ⟨fp, r⟩ := r
    exact ⟨by rw [r.length]; exact z.1, x C H' (o.b0.trans s) z.2⟩) h)
theorem em_callX {Ex : XK} {B0 : Hp} {fps : Nat → List Addr} {δ : Dl} {σ : St} {H : Hp} {Q : VK} (hS : DMonoX S) (ha : AR K Γ ta da) (x : ∀ C H', Same B0 H' → R C → Ex (.ref C) none H') (o : Ok K B0 Γ fps δ σ H)
    (h : da δ fun xs => S xs (fun z => ∀ v H' fp, Same H H' → Rf K H' z v fp → Nw H H' fps [] fp → Q v H') R) : tCall (spX K S) [] Ex ta σ H Q :=
  ha.run o (ha.mono _ _ _ (fun xs z vs H1 s1 r1 => ⟨xs, by rw [List.append_nil]; exact r1, hS _ _ _ _ _ (fun u z u' H' fp s r n => z u' H' fp (s1.trans s) r (n.any.later s1)) (fun C z H2 s2 => x C H2 (o.b0.trans (s1.trans s2)) z) z⟩) h)
theorem fn_valX {N : List Str} {dR : (Addr → Prop) → DS} (hs : ∀ R, SX K true [] [] R t [] Γn (dR R)) (hd : ∀ ds P R, S ds P R → dR R (endsD P) (startD N ds)) :
    ∀ {vs H Q E}, spX K S vs H Q E → t E { nx := fun _ H' => Q .non H', rt := Q } (L2.start N vs) H := by
  rintro vs H Q E ⟨ds, r, h⟩
  obtain ⟨fps, o⟩ := start_ok (N := N) r
  refine hs _ (E := endsD _) (Ex := E) (fun C H' s z => z H' s) ⟨fun {fps δ σ H'} o z => ?_, fun o (z : False) => z.elim, fun o (z : False) => z.elim, fun o r i z => ?_⟩ o (hd ds _ _ h)
  · exact z _ H' [] o.b0 ⟨rfl, rfl⟩ Nw.nil
  · exact z _ _ _ o.b0 r ⟨(i rfl).nd, (i rfl).mu, fun a ha => .inl ((i rfl).nw a ha)⟩
def noX (S : DSX) : DSp := fun ds P => S ds P fun _ => False
theorem noX_mono (hS : DMonoX S) : DMono (noX S) := fun xs P P' k h => hS _ _ _ _ _ k (fun _ z => z) h
theorem em_noX {Ex : XK} (hS : DMonoX S) (ha : AR K Γ ta da) : EM K Γ [] (tCall (spX K S) [] Ex ta) (vCall (noX S) da) :=
  ⟨fun δ P P' k h => ha.mono _ _ _ (fun y z => noX_mono hS _ _ _ k z) h, fun {B0 fps δ σ H Q} o q => em_callX (R := fun _ => False) hS ha (fun _ _ _ z => z.elim) o q⟩
end
end L3
set_option linter.all false
set_option maxRecDepth 100000
namespace PySem.W
open PySem PySem.Spec PySem.Calls PyProof.Rows
section
variable {prog : Program} {w : World} {A : Around} {E : Value → Shared → Prop} {s : Shared} {K : Frag} {x C : Addr} {ox : Obj}
structure ExcK (K : Frag) (C : Addr) : Prop where
  ga : findIn K (.ref C) "__getattribute__" = some (some (.builtin "BaseException.__getattribute__"))
  ge : findIn K (.ref C) "__getattr__" = some none
  cl : findIn K (.ref C) "__class__" = some (some (.builtin "object.__class__"))
  ob : mroIn K C (.type "object") = some true
  be : mroIn K C (.type "BaseException") = some true
  is : (clsIn K C).isSome = true
end
end PySem.W
namespace L2
open PySem PySem.Spec PyProof.Rows
section
variable {X : Cx} {pins : List (Addr × Obj)} {σ : St} {H : Hp} {s : Shared} {a C : Addr} {oe : Obj} {i : Nat} {n x : Str} {np p cp : Pos} {b : Bool}
end
end L2
set_option linter.all false
set_option maxRecDepth 100000
namespace L2
open PySem PySem.Spec PyProof.Rows
section
variable {X : Cx} {a C : Addr} {oe : Obj}
end
section
variable {P : Program} {w : World} {K : PySem.W.Frag} {mg : Str → Option Value} {base : Heap} {CX : CXT}
theorem Fun.okX {x qual : Str} {st : Stmt} {f : Addr} {fd : FuncData} {N ps : List Str} {k : Nat} {sp : Sp} (F : Fun K x qual st f fd) (S : FnScope N ps (defScope st)) (len : ∀ vs H Q E, sp vs H Q E → vs.length = ps.length)
    (hbody : ∀ (cdv : Value) (A : Around) (outer : List Env) (s : Shared) (H : Hp) (vs : List V) (Q : VK) (E : XK), Room k (A.deeper (envOfC qual (defScope st) s.heap.objs.size f cdv)) → sp vs H Q E →
      ∃ t, PSs (cxOf (CXR P w) P w K mg base N qual (defScope st) f cdv A outer s H E) (defBody st) t ∧ t { nx := fun _ H' => Q .non H', rt := Q } (start N vs) H) : FnOk P w K mg base (CXR P w) (k + 1) f fd ps sp := by
  obtain ⟨oc, od, kV, doc, pm, an, cdv, ct, osl, rfl, lk, hcd⟩ := F.ex
  exact fn_of lk hcd S len fun A outer s H vs Q E hr hsp => hbody cdv A outer s H vs Q E hr hsp
end
theorem ExcObj.of_lookup {K : PySem.W.Frag} {h : Heap} {C : Addr} {ups : List Addr} {mro : List Value} {dd : Option Addr} {nm qn : Str} {bs : List Value} {ns : Addr} {hd : Bool} {sn : List Str} {sub : List Value} {ab : Bool} {col : Option Bool} {k0 k1 k2 k3 k5 : Option Value} (X : K.In h)
    (u : K.lookup C = some ⟨.type "type", dd, .cls ⟨nm, bs, mro, ns, qn, hd, sn, sub, ab, col, false⟩, #[k0, k1, k2, k3, some (.builtin "ValueError.__new__"), k5]⟩) (hm : mro = .ref C :: (ups.map Value.ref ++ VB)) (v : PySem.W.excIn K C VB "ValueError.__new__" = true) : ExcObj h C ups := by
  subst hm
  unfold PySem.W.excIn at v
  rw [u] at v
  simp only [Bool.and_eq_true, beq_iff_eq, Bool.not_eq_true'] at v
  obtain ⟨⟨⟨_, ht⟩, hok⟩, hni⟩ := v
  exact ⟨ns, nm, qn, bs, hd, sn, sub, ab, col, dd, k0, k1, k2, k3, k5, _, X _ _ u, .of_isNs (PySem.W.isNs_of_in X hok), PySem.W.nsMap_none_of_in X hok hni, PySem.W.tail_of_in X ht⟩
theorem passN {X : Cx} {P : Program} {w : World} : Passes (CXR P w) X E0 := fun _ _ _ _ _ _ _ h => by
  obtain ⟨_, _, _, _, _, _, _, _, _, q⟩ := h
  exact q.elim
end L2
set_option Elab.async false
set_option linter.all false
set_option maxRecDepth 100000
set_option maxHeartbeats 4000000
namespace L3
open PySem L2
section
variable {K : PySem.W.Frag} {ρ : Bool} {Γr Γl Γ : List Nat} {i : Nat} {t u : Addr → TS} {d e : DS} {C : Addr} {S : DSX} {ta : TA} {da : DA}
end
theorem spX_len {K : PySem.W.Frag} {S : DSX} {n : Nat} (hS : ∀ ds P R, S ds P R → ds.length = n) {vs : List V} {H : Hp} {Q : VK} {E : XK} (h : spX K S vs H Q E) : vs.length = n := by
  obtain ⟨ds, ⟨fp, r⟩, h⟩ := h
  rw [r.length]; exact hS _ _ _ h
end L3
set_option Elab.async false
set_option linter.all false
set_option maxRecDepth 100000
set_option maxHeartbeats 4000000
namespace L2
open PySem
end L2
set_option Elab.async false
set_option linter.all false
set_option maxRecDepth 100000
namespace L2
open PySem PySem.Spec PyProof.Rows
section
variable {P : Program} {w : World} {K : PySem.W.Frag} {mg : Str → Option Value} {base : Heap} {x qual : Str} {st : Stmt} {dv : List Value} {f : Addr} {fd : FuncData} {N ps : List Str} {k : Nat} {sp : Sp}
end
end L2
set_option Elab.async false
set_option linter.all false
set_option maxRecDepth 100000
namespace L3
open PySem L2
section
variable {K : PySem.W.Frag} {Γ : List Nat} {t : TA} {d : DA}
end
end L3
set_option linter.all false
set_option maxRecDepth 100000
namespace L2
open PySem PySem.Spec PyProof.Rows
section
variable {X : Cx} {CX : CXT} {k : Nat} {f C D : Addr} {fd : FuncData} {ps : List Str} {sp : Sp} {E : XK} {x y n : Str} {p np cp ep hp pos : Pos} {e : Expr} {es : List Expr} {ta : TA} {b₀ : Stmt} {suite : List Stmt} {i : Nat} {ups upD : List Addr}
end
end L2
set_option linter.all false
set_option maxRecDepth 100000
namespace L2
open PySem PySem.Spec PyProof.Rows
section
variable {X : Cx} {CX : CXT} {k : Nat} {f C D : Addr} {fd : FuncData} {ps : List Str} {sp : Sp} {E : XK} {x y n : Str} {p np cp ep hp pos p2 : Pos} {e b : Expr} {es : List Expr} {ta : TA} {tb : TE} {b₀ : Stmt} {suite : List Stmt} {i : Nat} {ups upD : List Addr} {op : CmpOp} {r : R2}
end
end L2
set_option Elab.async false
set_option linter.all false
set_option maxRecDepth 100000
set_option maxHeartbeats 4000000
namespace L3
open PySem L2
section
variable {K : PySem.W.Frag} {ρ : Bool} {Γr Γl Γ Γ1 Γ2 Γn M : List Nat} {R : Addr → Prop} {t u : TS} {te ta tb tx t1 t2 tz : TE} {de da db dx d1 d2 dz : DE} {d e : DS}
variable {B0 : Hp} {fps : Nat → List Addr} {δ : Dl} {σ : St} {H H' : Hp}
def flatD : D → Bool
  | .tup ds => ds.all D.scal
  | d => D.scal d
theorem Rf.flat0 {H : Hp} {d : D} {v : V} {fp : List Addr} (h : Rf K H d v fp) (f : flatD d = true) : fp = [] := by
  cases d with
  | tup ds =>
    obtain ⟨a, xs, e1, e2, h⟩ := h
    exact (h.scals f).2
  | scr _ =>
    obtain ⟨a, e1, e2, e3⟩ := h
    exact e3
  | _ => first | exact h.2 | cases f
theorem Rfs.flat0 {H : Hp} : ∀ {ds : List D} {vs : List V} {fp : List Addr}, Rfs K H ds vs fp → ds.all flatD = true → fp = []
  | [], _, _, h, _ => h.2
  | d :: ds, vs, fp, h, f => by
    obtain ⟨x, r, f1, f2, e1, e2, h1, h2⟩ := h
    rw [List.all_cons, Bool.and_eq_true] at f
    rw [e2, h1.flat0 f.1, h2.flat0 f.2]; rfl
abbrev DSJ := List D → (D → D → Prop) → Prop
def DMonoJ (S : DSJ) : Prop := ∀ xs (P P' : D → D → Prop), (∀ r x, P r x → P' r x) → S xs P → S xs P'
def PostJ (K : PySem.W.Frag) (vs : List V) (B : Hp) (Q : VK) (x' y' : D) : Prop :=
  ∀ H' fp fq v u, Same B H' → vs[0]? = some v → vs[1]? = some u → Rf K H' x' v fp → Rf K H' y' u fq → fp.Nodup → fq.Nodup → (∀ b ∈ fp, B b = none ∧ Mu H' b ∧ b ∉ fq) → (∀ b ∈ fq, B b = none ∧ Mu H' b) → Q .non H'
def spJ (K : PySem.W.Frag) (S : DSJ) : Sp := fun vs H Q _ => ∃ B fv ds, Ok K B [0, 1] fv (ds.map some) (vs.map some) H ∧ (∃ a b, vs[0]? = some (.ref a) ∧ vs[1]? = some (.ref b)) ∧ S ds (PostJ K vs B Q)
theorem spJ_len {S : DSJ} {n : Nat} (hS : ∀ ds P, S ds P → ds.length = n) {vs : List V} {H : Hp} {Q : VK} {E : XK} (h : spJ K S vs H Q E) : vs.length = n := by
  obtain ⟨B, fv, ds, o, _, h⟩ := h
  have := o.len
  rw [List.length_map, List.length_map] at this
  rw [this]; exact hS _ _ h
abbrev endsJ (a b : Addr) (P : D → D → Prop) : DEnds := ⟨fun δ => slotP δ 0 fun a' x => a' = a ∧ slotP δ 1 fun b' y => b' = b ∧ P x y, fun _ _ => False, fun _ => False, fun _ => False⟩
theorem startJ_ok {N : List Str} {ds : List D} {vs : List V} {fv : Nat → List Addr} {a b : Addr} (o : Ok K B0 [0, 1] fv (ds.map some) (vs.map some) H) (ha : vs[0]? = some (.ref a)) (hb : vs[1]? = some (.ref b)) {x y : D} (hx : ds[0]? = some x) (hy : ds[1]? = some y) :
    Ok K B0 [0, 1] fv (startD N ((ds.set 0 (.pin a x)).set 1 (.pin b y))) (L2.start N vs) H := by
  have hl : vs.length = ds.length := by have := o.len; rwa [List.length_map, List.length_map] at this
  have o1 : Ok K B0 [0, 1] fv ((ds.map some).set 0 (some (.pin a x))) (vs.map some) H := o.redata (x := x) (by rw [List.getElem?_map, hx]; rfl) fun v hv r => ⟨by rw [List.getElem?_map, ha] at hv; cases hv; rfl, r⟩
  have o1 : Ok K B0 [0, 1] fv (((ds.map some).set 0 (some (.pin a x))).set 1 (some (.pin b y))) (vs.map some) H := o1.redata (x := y) (by rw [List.getElem?_set_ne (by decide), List.getElem?_map, hy]; rfl) fun v hv r => ⟨by rw [List.getElem?_map, hb] at hv; cases hv; rfl, r⟩
  have e : ((ds.map some).set 0 (some (.pin a x))).set 1 (some (.pin b y)) = ((ds.set 0 (.pin a x)).set 1 (.pin b y)).map some := by rw [List.map_set, List.map_set]
  rw [e] at o1
  have hl1 : ((ds.set 0 (.pin a x)).set 1 (.pin b y)).length = ds.length := by rw [List.length_set, List.length_set]
  generalize (ds.set 0 (.pin a x)).set 1 (.pin b y) = ds1 at *
  unfold startD L2.start
  refine ⟨by rw [List.length_append, List.length_append, List.length_map, List.length_map, List.length_replicate, List.length_replicate]; omega, o1.b0, fun i d q => ?_, fun i q => ?_, o1.own, o1.dj⟩
  · by_cases hi : i < ds1.length
    · rw [List.getElem?_append_left (by simpa using hi)] at q
      rw [List.getElem?_append_left (by rw [List.length_map]; omega)]
      exact o1.val i d q
    · rw [List.getElem?_append_right (by simpa using hi), List.getElem?_replicate] at q
      split at q <;> cases q
  · refine o1.non i fun d z => q d ?_
    have : i < ds1.length := by simpa using (List.getElem?_eq_some_iff.mp z).1
    rw [List.getElem?_append_left (by simpa using this)]
    exact z
theorem fn_valJ {N : List Str} {S : DSJ} (hs : ST K true [0, 1] [] t [0, 1] Γn d) (hd : ∀ ds P a b x y, S ds P → ds[0]? = some x → ds[1]? = some y → d (endsJ a b P) (startD N ((ds.set 0 (.pin a x)).set 1 (.pin b y)))) (hΓ : 0 ∈ Γn := by decide) (hΓ1 : 1 ∈ Γn := by decide) (hS : ∀ ds P, S ds P → 1 < ds.length) :
    ∀ {vs H Q E}, spJ K S vs H Q E → t { nx := fun _ H' => Q .non H', rt := Q } (L2.start N vs) H := by
  rintro vs H Q E ⟨B, fv, ds, o, ⟨a, b, ha, hb⟩, h⟩
  have hlt := hS _ _ h
  obtain ⟨x, hx⟩ : ∃ x, ds[0]? = some x := ⟨_, List.getElem?_eq_getElem (by omega)⟩
  obtain ⟨y, hy⟩ : ∃ x, ds[1]? = some x := ⟨_, List.getElem?_eq_getElem hlt⟩
  refine hs (E := endsJ a b (PostJ K vs B Q)) ⟨fun {fps δ σ H'} o' z => ?_, fun _ (z : False) => z.elim, fun _ (z : False) => z.elim, fun _ _ _ (z : False) => z.elim⟩ (startJ_ok o ha hb hx hy) (hd ds _ a b x y h hx hy)
  obtain ⟨a', x', e, ea, z2⟩ := slotP_out z
  subst ea
  obtain ⟨b', y', e', eb, z3⟩ := slotP_out z2
  subst eb
  obtain ⟨v, h1, h2⟩ := o'.val 0 _ e
  obtain rfl : v = .ref a' := h2.1
  obtain ⟨u, h3, h4⟩ := o'.val 1 _ e'
  obtain rfl : u = .ref b' := h4.1
  exact z3 H' (fps 0) (fps 1) _ _ o'.b0 ha hb h2.2 h4.2 (o'.own 0 hΓ).1 (o'.own 1 hΓ1).1 (fun b hb => ⟨((o'.own 0 hΓ).2 b hb).1, ((o'.own 0 hΓ).2 b hb).2, o'.dj 0 hΓ 1 (by decide) b hb⟩) (fun b hb => (o'.own 1 hΓ1).2 b hb)
def vCallJ (i j : Nat) (S : DSJ) (dz : DE) (E : DEnds) (δ : Dl) : Prop := vVar i δ fun x => vVar j δ fun y => dz δ fun z => (x.isRef = true ∧ y.isRef = true ∧ z.scal = true) ∧ S [x, y, z] fun x' y' => E.nx ((δ.set i (some x')).set j (some y'))
theorem st_callJ {Ex : XK} {S : DSJ} (i j : Nat) (hS : DMonoJ S) (hz : ER K Γ tz dz) (hi : i ∈ Γ := by decide) (hj : j ∈ Γ := by decide) (hij : i ≠ j := by decide) :
    ST K ρ Γr Γl (tDrop (tCall (spJ K S) [] Ex (tCons (tVar i) (tCons (tVar j) (tCons tz tNil))))) Γ Γ (vCallJ i j S dz) := by
  intro B0 Dn E fps δ σ H k o h
  obtain ⟨x, ex, h⟩ := vVar_out h
  obtain ⟨y, ey, h⟩ := vVar_out h
  obtain ⟨v, hv, rv⟩ := o.val i x ex
  obtain ⟨u, hu, ru⟩ := o.val j y ey
  refine ⟨v, hv, u, hu, hz.run o (hz.mono _ _ _ (fun z zz w H1 s1 r => ?_) h)⟩
  obtain ⟨⟨zx, zy, zs⟩, zz⟩ := zz
  obtain ⟨fz, r⟩ := r
  obtain ⟨rfl, rfl⟩ := r.scal zs
  obtain ⟨a, rfl⟩ := rv.isRef zx
  obtain ⟨b, rfl⟩ := ru.isRef zy
  have o1 := o.same s1
  obtain ⟨B1, sB, oB, eB⟩ := (o1.sub (Γ' := [i, j]) (fun l hl => by rcases List.mem_cons.mp hl with rfl | hl; exact hi; cases List.mem_singleton.mp hl; exact hj)).rebase
  have mi : i ∈ [i, j] := List.mem_cons_self
  have mj : j ∈ [i, j] := List.mem_cons_of_mem _ List.mem_cons_self
  refine ⟨B1, fun l => match l with | 0 => fps i | 1 => fps j | _ => [], [x, y, z], ⟨rfl, oB.b0, fun l d e => ?_, fun l e => ?_, fun l hl => ?_, fun l hl m hm c hc => ?_⟩, ⟨a, b, rfl, rfl⟩, hS _ _ _ (fun x' y' z' => ?_) zz⟩
  · match l, e with
    | 0, e => cases e; exact ⟨_, rfl, rv.same s1⟩
    | 1, e => cases e; exact ⟨_, rfl, ru.same s1⟩
    | 2, e => cases e; exact ⟨_, rfl, r⟩
    | n + 3, e => cases e
  · match l, e with
    | 0, e => exact absurd rfl (e x)
    | 1, e => exact absurd rfl (e y)
    | n + 2, e => rfl
  · rcases List.mem_cons.mp hl with rfl | hl
    · exact oB.own i mi
    · cases List.mem_singleton.mp hl; exact oB.own j mj
  · rcases List.mem_cons.mp hl with rfl | hl
    · match m, hm with
      | 0, hm => exact absurd rfl hm
      | 1, _ => exact oB.dj i mi j (Ne.symm hij) c hc
      | n + 2, _ => exact List.not_mem_nil
    · cases List.mem_singleton.mp hl
      match m, hm with
      | 0, _ => exact oB.dj j mj i hij c hc
      | 1, hm => exact absurd rfl hm
      | n + 2, _ => exact List.not_mem_nil
  · intro H' fp fq v' u' sB' e1 e2 r1 r2 nd1 nd2 m1 m2
    cases e1
    cases e2
    have sb : Same B0 H' := sB.trans sB'
    have fresh : ∀ c, B1 c = none → c ∈ fps i ∨ c ∈ fps j ∨ (B0 c = none ∧ ∀ l, c ∉ fps l) := fun c hc => by
      by_cases q1 : c ∈ fps i
      · exact .inl q1
      · by_cases q2 : c ∈ fps j
        · exact .inr (.inl q2)
        · have := eB c (fun l hl => by rcases List.mem_cons.mp hl with rfl | hl; exact q1; cases List.mem_singleton.mp hl; exact q2)
          rw [hc] at this
          exact .inr (.inr ⟨o1.b0.free this.symm, fun l z => o1.dom z this.symm⟩)
    have b0n : ∀ c, B1 c = none → B0 c = none := fun c hc => by
      rcases fresh c hc with q | q | q
      · exact ((o1.own i hi).2 c q).1
      · exact ((o1.own j hj).2 c q).1
      · exact q.1
    have keep : ∀ c q, c ∉ fps i → c ∉ fps j → H1 c = some q → H' c = some q := fun c q h1 h2 e => by
      have := eB c (fun l hl => by rcases List.mem_cons.mp hl with rfl | hl; exact h1; cases List.mem_singleton.mp hl; exact h2)
      exact sB' c q (this.trans e)
    have out : ∀ l, l ≠ i → l ≠ j → ∀ c ∈ fps l, c ∉ fp ∧ c ∉ fq ∧ c ∉ fps i ∧ c ∉ fps j := fun l h1 h2 c hc => by
      have n1 : c ∉ fps i := fun z => o1.dj i hi l h1 c z hc
      have n2 : c ∉ fps j := fun z => o1.dj j hj l h2 c z hc
      have nb : B1 c ≠ none := fun z => by
        rcases fresh c z with q | q | q
        · exact n1 q
        · exact n2 q
        · exact q.2 l hc
      exact ⟨fun z => nb (m1 c z).1, fun z => nb (m2 c z).1, n1, n2⟩
    have li : i < δ.length := (List.getElem?_eq_some_iff.mp ex).1
    have lj : j < δ.length := (List.getElem?_eq_some_iff.mp ey).1
    refine k.nx (fps := fun l => if l = i then fp else if l = j then fq else fps l) ⟨by rw [List.length_set, List.length_set]; exact o1.len, sb, fun l d' e => ?_, fun l e => ?_, fun l hl => ?_, fun l hl m hm c hc => ?_⟩ z'
    · by_cases q1 : l = i
      · subst q1
        rw [List.getElem?_set_ne (Ne.symm hij), List.getElem?_set_self li] at e
        cases e
        rw [if_pos rfl]
        exact ⟨_, hv, r1⟩
      · by_cases q2 : l = j
        · subst q2
          rw [List.getElem?_set_self (by rw [List.length_set]; exact lj)] at e
          cases e
          rw [if_neg q1, if_pos rfl]
          exact ⟨_, hu, r2⟩
        · rw [List.getElem?_set_ne (Ne.symm q2), List.getElem?_set_ne (Ne.symm q1)] at e
          rw [if_neg q1, if_neg q2]
          obtain ⟨w', e1, e2⟩ := o1.val l d' e
          refine ⟨w', e1, e2.mono (fun c hc q eq => keep c q (out l q1 q2 c hc).2.2.1 (out l q1 q2 c hc).2.2.2 eq) fun c q eq im => keep c q (fun z => ((o1.own i hi).2 c z).2.notup q eq im) (fun z => ((o1.own j hj).2 c z).2.notup q eq im) eq⟩
    · by_cases q1 : l = i
      · subst q1
        exact absurd (by rw [List.getElem?_set_ne (Ne.symm hij), List.getElem?_set_self li]) (e x')
      · by_cases q2 : l = j
        · subst q2
          exact absurd (by rw [List.getElem?_set_self (by rw [List.length_set]; exact lj)]) (e y')
        · rw [if_neg q1, if_neg q2]
          exact o1.non l fun d' z => e d' (by rw [List.getElem?_set_ne (Ne.symm q2), List.getElem?_set_ne (Ne.symm q1)]; exact z)
    · by_cases q1 : l = i
      · rw [if_pos q1]
        exact ⟨nd1, fun c hc => ⟨b0n c (m1 c hc).1, (m1 c hc).2.1⟩⟩
      · rw [if_neg q1]
        by_cases q2 : l = j
        · rw [if_pos q2]
          exact ⟨nd2, fun c hc => ⟨b0n c (m2 c hc).1, (m2 c hc).2⟩⟩
        · rw [if_neg q2]
          refine ⟨(o1.own l hl).1, fun c hc => ⟨((o1.own l hl).2 c hc).1, ?_⟩⟩
          have n1 := (out l q1 q2 c hc).2.2.1
          have n2 := (out l q1 q2 c hc).2.2.2
          rcases ((o1.own l hl).2 c hc).2 with ⟨x, z⟩ | ⟨x, z⟩ | ⟨x, z⟩ | ⟨C, dx, fs, z⟩
          · exact .inl ⟨x, keep c _ n1 n2 z⟩
          · exact .inr (.inl ⟨x, keep c _ n1 n2 z⟩)
          · exact .inr (.inr (.inl ⟨x, keep c _ n1 n2 z⟩))
          · exact .inr (.inr (.inr ⟨C, dx, fs, keep c _ n1 n2 z⟩))
    · by_cases q1 : l = i
      · rw [if_pos q1] at hc
        by_cases q2 : m = i
        · exact absurd (q2.trans q1.symm) hm
        · rw [if_neg q2]
          by_cases q3 : m = j
          · rw [if_pos q3]; exact (m1 c hc).2.2
          · rw [if_neg q3]; exact fun z => (out m q2 q3 c z).1 hc
      · rw [if_neg q1] at hc
        by_cases q2 : l = j
        · rw [if_pos q2] at hc
          by_cases q3 : m = i
          · rw [if_pos q3]; exact fun z => (m1 c z).2.2 hc
          · rw [if_neg q3]
            by_cases q4 : m = j
            · exact absurd (q4.trans q2.symm) hm
            · rw [if_neg q4]; exact fun z => (out m q3 q4 c z).2.1 hc
        · rw [if_neg q2] at hc
          by_cases q3 : m = i
          · rw [if_pos q3]; exact (out l q1 q2 c hc).1
          · rw [if_neg q3]
            by_cases q4 : m = j
            · rw [if_pos q4]; exact (out l q1 q2 c hc).2.1
            · rw [if_neg q4]; exact o1.dj l hl m hm c hc
end
end L3
set_option linter.all false
set_option maxRecDepth 100000
namespace L2
open PySem PySem.Spec PyProof.Rows
section
variable {X : Cx}
end
end L2
set_option Elab.async false
set_option linter.all false
set_option maxRecDepth 100000
set_option maxHeartbeats 4000000
namespace L3
open PySem L2
section
variable {K : PySem.W.Frag} {ρ : Bool} {Γr Γl Γ Γ1 Γ2 Γn M : List Nat} {R : Addr → Prop} {t u : TS} {te ta tb tx t1 t2 tz : TE} {de da db dx d1 d2 dz : DE} {d e : DS}
variable {B0 : Hp} {fps : Nat → List Addr} {δ : Dl} {σ : St} {H H' : Hp}
theorem Rfs.cons0 {d : D} {v : V} {ds : List D} {vs : List V} (h : Rf K H d v []) (r : Rfs K H ds vs []) : Rfs K H (d :: ds) (v :: vs) [] := ⟨v, vs, [], [], rfl, rfl, h, r⟩
theorem Rfs.tail0 {d : D} {ds : List D} {vs : List V} (r : Rfs K H (d :: ds) vs []) : ∃ v ws, vs = v :: ws ∧ Rf K H d v [] ∧ Rfs K H ds ws [] := by
  obtain ⟨v, ws, f1, f2, rfl, e, h1, h2⟩ := r
  obtain ⟨rfl, rfl⟩ := List.append_eq_nil_iff.mp e.symm
  exact ⟨v, ws, rfl, h1, h2⟩
theorem Rfs.erase0 : ∀ {ds : List D} {vs : List V} (k : Nat), Rfs K H ds vs [] → Rfs K H (ds.eraseIdx k) (vs.eraseIdx k) []
  | [], vs, k, r => by obtain ⟨rfl, _⟩ : vs = [] ∧ _ := r; exact ⟨by simp, rfl⟩
  | d :: ds, vs, 0, r => by obtain ⟨v, ws, rfl, h1, h2⟩ := r.tail0; exact h2
  | d :: ds, vs, k + 1, r => by obtain ⟨v, ws, rfl, h1, h2⟩ := r.tail0; exact .cons0 h1 (Rfs.erase0 k h2)
theorem flat_write (o : Ok K B0 Γ fps δ σ H) {i : Nat} (hi : i ∈ Γ) {ds : List D} (e : δ[i]? = some (some (.lst ds))) (hf : ds.all flatD = true) :
    ∃ a xs, σ[i]? = some (some (.ref a)) ∧ H a = some (.lst xs) ∧ Rfs K H ds xs [] ∧ ∀ {ds' : List D} {xs' : List V}, Rfs K H ds' xs' [] → Ok K B0 Γ (fun j => if j = i then [a] else fps j) (δ.set i (some (.lst ds'))) σ (upd H a (.lst xs')) := by
  obtain ⟨a, xs, fq, h1, h2, h3, h4⟩ := o.ownL e
  obtain rfl := h4.flat0 hf
  have hown := o.own i hi
  rw [h3] at hown
  have nt := (hown.2 a List.mem_cons_self).2.notup
  refine ⟨a, xs, h1, h2, h4, fun {ds' xs'} r => o.write hi (d' := .lst ds') (fp' := [a]) h1 ⟨a, xs', [], rfl, upd_same, rfl, r.upd (fun z => (nomatch z)) nt⟩ (by simp) (fun b hb => ?_) (fun b hb => ?_) ?_⟩
  · cases List.mem_singleton.mp hb; exact .inl ⟨_, upd_same⟩
  · cases List.mem_singleton.mp hb; rw [h3]; exact .inl List.mem_cons_self
  · rw [h3]; exact updKeep List.mem_cons_self
def vPopF (i : Nat) (de : DE) (E : DEnds) (δ : Dl) : Prop := slotL δ i fun ds => de δ fun x => asI [x] fun m => (ds.all flatD = true ∧ 0 ≤ m ∧ m < ds.length ∧ ds.length ≤ 1000) ∧ E.nx (δ.set i (some (.lst (ds.eraseIdx m.toNat))))
theorem st0_popF (i : Nat) (he : ER K Γ te de) (hi : i ∈ Γ := by decide) : ST0 K (tDrop (tBM K "list" rPopAt (tVar i) (tCons te tNil))) Γ Γ (vPopF i de) := by
  intro B0 Dn E fps δ σ H k o h
  obtain ⟨ds, e, h⟩ := slotL_out h
  obtain ⟨a0, xs0, fq, g1, g2, g3, g4⟩ := o.ownL e
  refine ⟨.ref a0, g1, .inl ⟨rfl, xs0, .inl (.inl g2)⟩, he.run o (he.mono _ _ _ (fun x z v H1 s r => ?_) h)⟩
  obtain ⟨m, em, z⟩ := asI1_out z
  subst em
  obtain ⟨⟨z1, z2, z3, z4⟩, z⟩ := z
  obtain ⟨a, xs, h1, h2, h3, h4⟩ := flat_write (o.same s) hi e z1
  rw [g1] at h1; cases h1
  have hl := h3.length
  have hk : m.toNat < xs.length := by omega
  exact ⟨a0, xs, m, m.toNat, _, rfl, by rw [r.int], h2, by omega, by omega, by rw [seqIndex_of z2 (by omega)], List.getElem?_eq_getElem hk, k (h4 (Rfs.erase0 _ h3)) z⟩
theorem Rfs.set0 {x : D} {v : V} : ∀ {ds : List D} {vs : List V} (k : Nat), Rf K H x v [] → Rfs K H ds vs [] → Rfs K H (ds.set k x) (vs.set k v) []
  | [], vs, k, h, r => by obtain ⟨rfl, _⟩ : vs = [] ∧ _ := r; exact ⟨by simp, rfl⟩
  | d :: ds, vs, 0, h, r => by obtain ⟨w, ws, rfl, h1, h2⟩ := r.tail0; exact .cons0 h h2
  | d :: ds, vs, k + 1, h, r => by obtain ⟨w, ws, rfl, h1, h2⟩ := r.tail0; exact .cons0 h1 (Rfs.set0 k h h2)
def vSub2 (i : Nat) (de d1 d2 : DE) (E : DEnds) (δ : Dl) : Prop := de δ fun z => ∃ x y, z = .tup [x, y] ∧ flatD x = true ∧ flatD y = true ∧ slotL δ i fun ds => ds.all flatD = true ∧ d1 δ fun a => asI [a] fun p => (0 ≤ p ∧ p < ds.length) ∧ d2 (δ.set i (some (.lst (ds.set p.toNat x)))) fun b => asI [b] fun q => (0 ≤ q ∧ q < ds.length) ∧ E.nx ((δ.set i (some (.lst (ds.set p.toNat x)))).set i (some (.lst ((ds.set p.toNat x).set q.toNat y))))
theorem st0_sub2 (i : Nat) {n : Nat} (he : EM K Γ [] te de) (h1 : ER K Γ t1 d1) (h2 : ER K Γ t2 d2) (hi : i ∈ Γ := by decide) (hn : n = 2 := by rfl) :
    ST0 K (tAsg te (gTup K n (gCons (gSub (tVar i) t1 rSetL) (gCons (gSub (tVar i) t2 rSetL) gNil)))) Γ Γ (vSub2 i de d1 d2) := by
  intro B0 Dn E fps δ σ H k o h
  subst hn
  refine he.run o (he.mono _ _ _ (fun z zz v H1 fp s1 r1 n1 => ?_) h)
  obtain ⟨x, y, rfl, fx, fy, zz⟩ := zz
  obtain ⟨a, vs, rfl, hT, rs⟩ := r1
  obtain rfl := rs.flat0 (by rw [List.all_cons, List.all_cons, fx, fy]; rfl)
  obtain ⟨v1, ws, rfl, rx, rs⟩ := rs.tail0
  obtain ⟨v2, ws, rfl, ry, rs⟩ := rs.tail0
  obtain ⟨rfl, _⟩ : ws = [] ∧ _ := rs
  obtain ⟨ds, e, hf, zy⟩ := slotL_out zz
  have o1 := o.same s1
  obtain ⟨b0, xs0, fq, g1, g2, g3, g4⟩ := o1.ownL e
  refine ⟨a, _, rfl, .inl (.inl hT), rfl, v1, [v2], rfl, .ref b0, g1, h1.run o1 (h1.mono _ _ _ (fun y1 z1 w1 H2 s2 r2 => ?_) zy)⟩
  obtain ⟨p, ep, ⟨p0, p1⟩, z1'⟩ := asI1_out z1
  subst ep
  have o2 := o1.same s2
  obtain ⟨b, xs, k1, k2, k3, k4⟩ := flat_write o2 hi e hf
  rw [g1] at k1; cases k1
  have hl := k3.length
  have ou := k4 (Rfs.set0 p.toNat (rx.same s2) k3)
  refine ⟨b0, xs, p, p.toNat, rfl, r2.int, k2, ixN_nat p0 (by omega), v2, [], rfl, .ref b0, g1, h2.run ou (h2.mono _ _ _ (fun y2 z2 w2 H3 s3 r3 => ?_) z1')⟩
  obtain ⟨q, eq, ⟨q0, q1⟩, z2'⟩ := asI1_out z2
  subst eq
  have lt : i < δ.length := (List.getElem?_eq_some_iff.mp e).1
  have e2 : (δ.set i (some (.lst (ds.set p.toNat x))))[i]? = some (some (.lst (ds.set p.toNat x))) := List.getElem?_set_self lt
  have hf2 : (ds.set p.toNat x).all flatD = true := by
    rw [List.all_eq_true] at hf ⊢
    intro d hd
    rcases List.mem_or_eq_of_mem_set hd with z | z
    · exact hf d z
    · rw [z]; exact fx
  obtain ⟨b', xs', m1, m2, m3, m4⟩ := flat_write (ou.same s3) hi e2 hf2
  rw [g1] at m1; cases m1
  have hl2 := m3.length
  rw [List.length_set] at hl2
  have ry' : Rf K H3 y v2 [] := ((ry.same s2).upd (fun z => (nomatch z)) ((o2.own i hi).2 b0 (by rw [(show fps i = b0 :: fq from g3)]; exact List.mem_cons_self)).2.notup).same s3
  exact ⟨b0, xs', q, q.toNat, rfl, r3.int, m2, ixN_nat q0 (by omega), rfl, k (m4 (Rfs.set0 q.toNat ry' m3)) z2'⟩
end
end L3
set_option Elab.async false
set_option linter.all false
set_option maxRecDepth 100000
set_option maxHeartbeats 4000000
namespace L3
open PySem L2
section
variable {K : PySem.W.Frag} {ρ : Bool} {Γr Γl Γ Γ1 Γ2 Γn M : List Nat} {t u : TS} {te ta tb tz : TE} {de da db dz : DE} {d e : DS}
variable {B0 : Hp} {fps : Nat → List Addr} {δ : Dl} {σ : St} {H H' : Hp}
end
end L3
set_option Elab.async false
set_option linter.all false
set_option maxRecDepth 100000
set_option maxHeartbeats 4000000
namespace L3
open PySem L2
section
variable {K : PySem.W.Frag} {ρ : Bool} {Γr Γl Γ Γ1 Γ2 Γn M : List Nat} {t u : TS} {te tb tz : TE} {de db dz : DE} {d e : DS} {ta : TA} {da : DA}
variable {B0 : Hp} {fps : Nat → List Addr} {δ : Dl} {σ : St} {H H' : Hp}
end
end L3
set_option Elab.async false
set_option linter.all false
set_option maxRecDepth 100000
set_option maxHeartbeats 4000000
namespace L2
open PySem PySem.Spec PyProof.Rows
section
variable {X : Cx}
end
end L2
set_option Elab.async false
set_option linter.all false
set_option maxRecDepth 100000
set_option maxHeartbeats 4000000
namespace L3
open PySem L2
section
variable {K : PySem.W.Frag}
end
end L3
set_option Elab.async false
set_option linter.all false
set_option maxRecDepth 100000
set_option maxHeartbeats 4000000
namespace L2
open PySem PySem.Spec PyProof.Rows
section
variable {X : Cx}
end
end L2
set_option Elab.async false
set_option linter.all false
set_option maxRecDepth 100000
set_option maxHeartbeats 4000000
namespace L3
open PySem L2
section
variable {K : PySem.W.Frag} {ρ : Bool} {Γr Γl Γ Γ1 Γ2 Γn M : List Nat} {R : Addr → Prop} {t u : TS} {te ta tb tx t1 t2 tz : TE} {de da db dx d1 d2 dz : DE} {d e : DS}
variable {B0 : Hp} {fps : Nat → List Addr} {δ : Dl} {σ : St} {H H' : Hp}
end
end L3
set_option Elab.async false
set_option linter.all false
set_option maxRecDepth 100000
set_option maxHeartbeats 4000000
namespace L3
open PySem
open L2 hiding D Rf Rfs Rp dI dT
section
variable {K : PySem.W.Frag} {Γ : List Nat}
theorem atI_nat {α : Type} {xs : List α} {k : Nat} {w : α} (h : xs[k]? = some w) : atI xs (k : Int) = some w := by
  have hl : k < xs.length := (List.getElem?_eq_some_iff.mp h).1
  unfold atI
  rw [ixN_nat (by omega) (by omega)]
  simpa using h
end
end L3
set_option Elab.async false
set_option linter.all false
set_option maxRecDepth 100000
set_option maxHeartbeats 4000000
namespace L3
open PySem L2
section
variable {K : PySem.W.Frag} {ρ : Bool} {Γr Γl Γ Γn M : List Nat} {te tx t1 t2 : TE} {de dx d1 d2 : DE} {t : TS} {d : DS}
variable {B0 : Hp} {fps : Nat → List Addr} {δ : Dl} {σ : St} {H H' : Hp}
def tabQ : D → Option (List D) | .lst ds => some ds | .pin _ (.lst ds) => some ds | _ => none
def setQ (x : D) (ds : List D) : D := match x with | .pin p _ => .pin p (.lst ds) | _ => .lst ds
theorem tabQ_rf {x : D} {ds : List D} {v : V} {fp : List Addr} (e : tabQ x = some ds) (h : Rf K H x v fp) : ∃ b ys fq, v = .ref b ∧ H b = some (.lst ys) ∧ fp = b :: fq ∧ Rfs K H ds ys fq ∧ ∀ {H' : Hp} {ds' : List D} {ys' : List V} {fq' : List Addr}, H' b = some (.lst ys') → Rfs K H' ds' ys' fq' → Rf K H' (setQ x ds') v (b :: fq') := by
  cases x with
  | lst es => cases e; obtain ⟨b, ys, fq, rfl, h1, rfl, h2⟩ := h; exact ⟨b, ys, fq, rfl, h1, rfl, h2, fun a b' => ⟨b, _, _, rfl, a, rfl, b'⟩⟩
  | pin p y =>
    cases y with
    | lst es => cases e; obtain ⟨rfl, b, ys, fq, e1, h1, rfl, h2⟩ := h; cases e1; exact ⟨_, ys, fq, rfl, h1, rfl, h2, fun a b' => ⟨rfl, _, _, _, rfl, a, rfl, b'⟩⟩
    | _ => cases e
  | _ => cases e
theorem Rfs.cutA : ∀ {ds : List D} {xs : List V} {fq : List Addr} {m : Nat} {d : D}, Rfs K H ds xs fq → ds[m]? = some d →
    ∃ v f F1 F2, xs[m]? = some v ∧ fq = F1 ++ (f ++ F2) ∧ Rf K H d v f ∧ ∀ {d' : D} {v' : V} {f' : List Addr}, Rf K H d' v' f' → Rfs K H (ds.set m d') (xs.set m v') (F1 ++ (f' ++ F2))
  | [], _, _, _, _, _, e => by simp at e
  | d0 :: ds, _, _, 0, d, h, e => by
    obtain ⟨x, r, f1, f2, rfl, rfl, h1, h2⟩ := h
    simp at e; subst e
    exact ⟨x, f1, [], f2, rfl, rfl, h1, fun r' => ⟨_, r, _, f2, rfl, rfl, r', h2⟩⟩
  | d0 :: ds, _, _, m + 1, d, h, e => by
    obtain ⟨x, r, f1, f2, rfl, rfl, h1, h2⟩ := h
    obtain ⟨v, f, F1, F2, e1, rfl, h3, mk⟩ := Rfs.cutA (m := m) h2 (by simpa using e)
    exact ⟨v, f, f1 ++ F1, F2, by simpa using e1, by rw [List.append_assoc], h3, fun r' => ⟨x, _, f1, _, rfl, by rw [List.append_assoc], h1, mk r'⟩⟩
theorem nd_mid {A B C : List Addr} : (A ++ (B ++ C)).Nodup ↔ (A ++ C).Nodup ∧ B.Nodup ∧ ∀ c ∈ B, c ∉ A ++ C := by
  rw [(List.Perm.nodup_iff (l₂ := B ++ (A ++ C)) (by
    rw [← List.append_assoc, ← List.append_assoc]
    exact List.Perm.append_right C List.perm_append_comm)), List.nodup_append]
  exact ⟨fun ⟨a, b, c⟩ => ⟨b, a, fun x hx hy => c x hx x hy rfl⟩, fun ⟨a, b, c⟩ => ⟨b, a, fun x hx y hy z => c x hx (z ▸ hy)⟩⟩
theorem Ok.lend (o : Ok K B0 Γ fps δ σ H) {S L : Nat} (hS : S ∈ Γ) (hL : L ∉ Γ) (hl : L < δ.length) {x p : D} {ds es : List D} {m : Nat} (e : δ[S]? = some (some x)) (ex : tabQ x = some ds) (em : ds[m]? = some (.tup [p, .lst es])) (hp : p.scal = true) :
    ∃ a0 xs c b fps', σ[S]? = some (some (.ref a0)) ∧ H a0 = some (.lst xs) ∧ xs[m]? = some (.ref c) ∧ H c = some (.tup [p.toV, .ref b]) ∧ xs.length = ds.length ∧
      Ok K B0 (L :: Γ) fps' ((δ.set S (some (setQ x (ds.set m (.tup [p, .raw (.ref b)]))))).set L (some (.pin b (.lst es)))) (σ.set L (some (.ref b))) H := by
  have hSL : S ≠ L := fun z => hL (z ▸ hS)
  obtain ⟨v, hv, r⟩ := o.val S _ e
  obtain ⟨a0, xs, fq, rfl, h1, h2, h3, mk⟩ := tabQ_rf ex r
  obtain ⟨v, f, F1, F2, e1, rfl, h4, mk2⟩ := h3.cutA em
  obtain ⟨c, ws, rfl, hc, v0, r0, g0, g1, rfl, rfl, q0, q1⟩ := h4
  obtain ⟨rfl, rfl⟩ := q0.scal hp
  obtain ⟨v1, r1, g2, g3, rfl, rfl, q1, q2⟩ := q1
  obtain ⟨rfl, rfl⟩ : r1 = [] ∧ g3 = [] := q2
  rw [List.nil_append, List.append_nil] at *
  have own := o.own S hS
  rw [h2] at own
  obtain ⟨b, ys, fe, rfl, hb, rfl, hr⟩ := id q1
  have nd := List.nodup_cons.mp own.1
  obtain ⟨n1, n2, n3⟩ := nd_mid.mp nd.2
  have hSl : S < δ.length := (List.getElem?_eq_some_iff.mp e).1
  have sub1 : ∀ z ∈ a0 :: (F1 ++ F2), z ∈ fps S := fun z hz => by
    rw [h2]
    rcases List.mem_cons.mp hz with q | q
    · exact List.mem_cons.mpr (.inl q)
    · exact List.mem_cons_of_mem _ (by rcases List.mem_append.mp q with q | q; exact List.mem_append_left _ q; exact List.mem_append_right _ (List.mem_append_right _ q))
  have sub2 : ∀ z ∈ b :: fe, z ∈ fps S := fun z hz => by
    rw [h2]; exact List.mem_cons_of_mem _ (List.mem_append_right _ (List.mem_append_left _ hz))
  have nin : ∀ z ∈ b :: fe, z ∉ a0 :: (F1 ++ F2) := fun z hz q => by
    rcases List.mem_cons.mp q with q | q
    · exact nd.1 (by rw [← q]; exact List.mem_append_right _ (List.mem_append_left _ hz))
    · exact n3 z hz q
  refine ⟨a0, xs, c, b, fun l => if l = L then b :: fe else if l = S then a0 :: (F1 ++ F2) else fps l, hv, h1, e1, hc, h3.length, by simp [o.len], o.b0, fun l d' e' => ?_, fun l e' => ?_, fun l hl' => ?_, fun l hl' j hj z hz => ?_⟩
  · by_cases q : l = L
    · subst q
      rw [if_pos rfl]
      rw [List.getElem?_set_self (by rw [List.length_set]; exact hl)] at e'
      cases e'
      exact ⟨.ref b, by rw [List.getElem?_set_self (by rw [o.len]; exact hl)], rfl, q1⟩
    · rw [if_neg q]
      rw [List.getElem?_set_ne (Ne.symm q)] at e' ⊢
      by_cases q2 : l = S
      · subst q2
        rw [if_pos rfl]
        rw [List.getElem?_set_self hSl] at e'
        cases e'
        have t0 : Rf K H (.tup [p, .raw (.ref b)]) (.ref c) [] := ⟨c, _, rfl, hc, _, _, [], [], rfl, rfl, q0, _, [], [], [], rfl, rfl, ⟨rfl, rfl⟩, rfl, rfl⟩
        have := mk2 t0
        rw [List.nil_append, show xs.set m (.ref c) = xs from by
          refine List.ext_getElem? fun j => ?_
          rw [List.getElem?_set]
          by_cases z : m = j
          · subst z; rw [if_pos rfl, e1, if_pos (List.getElem?_eq_some_iff.mp e1).1]
          · rw [if_neg z]] at this
        exact ⟨_, hv, mk h1 this⟩
      · rw [if_neg q2]
        rw [List.getElem?_set_ne (Ne.symm q2)] at e'
        exact o.val l d' e'
  · by_cases q : l = L
    · subst q
      exact absurd (by rw [List.getElem?_set_self (by rw [List.length_set]; exact hl)]) (e' _)
    · rw [if_neg q]
      by_cases q2 : l = S
      · subst q2
        exact absurd (by rw [List.getElem?_set_ne (Ne.symm q), List.getElem?_set_self hSl]) (e' _)
      · rw [if_neg q2]
        exact o.non l fun d' z => e' d' (by rw [List.getElem?_set_ne (Ne.symm q), List.getElem?_set_ne (Ne.symm q2)]; exact z)
  · by_cases q : l = L
    · rw [if_pos q]
      exact ⟨n2, fun z hz => (o.own S hS).2 z (sub2 z hz)⟩
    · rw [if_neg q]
      have hl2 : l ∈ Γ := (List.mem_cons.mp hl').resolve_left q
      by_cases q2 : l = S
      · rw [if_pos q2]
        exact ⟨List.nodup_cons.mpr ⟨fun z => nd.1 (by rcases List.mem_append.mp z with q | q; exact List.mem_append_left _ q; exact List.mem_append_right _ (List.mem_append_right _ q)), n1⟩, fun z hz => (o.own S hS).2 z (sub1 z hz)⟩
      · rw [if_neg q2]; exact o.own l hl2
  · by_cases q : l = L
    · rw [if_pos q] at hz
      rw [if_neg (fun w => hj (w.trans q.symm))]
      by_cases q3 : j = S
      · rw [if_pos q3]; exact nin z hz
      · rw [if_neg q3]; exact o.dj S hS j q3 z (sub2 z hz)
    · rw [if_neg q] at hz
      have hl2 : l ∈ Γ := (List.mem_cons.mp hl').resolve_left q
      by_cases q2 : l = S
      · rw [if_pos q2] at hz
        by_cases q3 : j = L
        · rw [if_pos q3]; exact fun w => nin z w hz
        · rw [if_neg q3, if_neg (fun w => hj (w.trans q2.symm))]
          exact o.dj S hS j (fun w => hj (w.trans q2.symm)) z (sub1 z hz)
      · rw [if_neg q2] at hz
        by_cases q3 : j = L
        · rw [if_pos q3]; exact fun w => o.dj l hl2 S (Ne.symm q2) z hz (sub2 z w)
        · rw [if_neg q3]
          by_cases q4 : j = S
          · rw [if_pos q4]; exact fun w => o.dj l hl2 S (Ne.symm q2) z hz (sub1 z w)
          · rw [if_neg q4]; exact o.dj l hl2 j hj z hz
theorem Ok.goneL {L : Nat} (o : Ok K B0 (L :: Γ) fps δ σ H) (hL : L ∉ Γ) : Ok K B0 Γ (fun l => if l = L then [] else fps l) (δ.set L none) σ H := by
  refine ⟨by simp [o.len], o.b0, fun l d' e' => ?_, fun l e' => ?_, fun l hl => ?_, fun l hl j hj z hz => ?_⟩
  · by_cases q : l = L
    · subst q
      rw [List.getElem?_set] at e'
      simp at e'
    · rw [if_neg q]
      rw [List.getElem?_set_ne (Ne.symm q)] at e'
      exact o.val l d' e'
  · by_cases q : l = L
    · rw [if_pos q]
    · rw [if_neg q]
      exact o.non l fun d' z => e' d' (by rw [List.getElem?_set_ne (Ne.symm q)]; exact z)
  · have q : l ≠ L := fun z => hL (z ▸ hl)
    rw [if_neg q]
    exact o.own l (List.mem_cons_of_mem _ hl)
  · have q : l ≠ L := fun z => hL (z ▸ hl)
    rw [if_neg q] at hz
    by_cases q3 : j = L
    · rw [if_pos q3]; exact List.not_mem_nil
    · rw [if_neg q3]; exact o.dj l (List.mem_cons_of_mem _ hl) j hj z hz
theorem Ok.back {S L : Nat} (o : Ok K B0 (L :: Γ) fps δ σ H) (hS : S ∈ Γ) (hL : L ∉ Γ) {x z y : D} {ds : List D} {j : Nat} {b : Addr} (e : δ[S]? = some (some x)) (ex : tabQ x = some ds) (ej : ds[j]? = some (.tup [z, .raw (.ref b)])) (eL : δ[L]? = some (some (.pin b y))) :
    ∃ fps', Ok K B0 Γ fps' ((δ.set S (some (setQ x (ds.set j (.tup [z, y]))))).set L none) σ H := by
  have hSL : S ≠ L := fun z => hL (z ▸ hS)
  have mS : S ∈ L :: Γ := List.mem_cons_of_mem _ hS
  have mL : L ∈ L :: Γ := List.mem_cons_self
  obtain ⟨v, hv, r⟩ := o.val S _ e
  obtain ⟨a0, xs, fq, rfl, h1, h2, h3, mk⟩ := tabQ_rf ex r
  obtain ⟨v, f, F1, F2, e1, rfl, h4, mk2⟩ := h3.cutA ej
  obtain ⟨c, ws, rfl, hc, v0, r0, g0, g1, rfl, rfl, q0, q1⟩ := h4
  obtain ⟨v1, r1, g2, g3, rfl, rfl, q1, q2⟩ := q1
  obtain ⟨rfl, rfl⟩ : r1 = [] ∧ g3 = [] := q2
  obtain ⟨rfl, rfl⟩ : v1 = .ref b ∧ g2 = [] := q1
  obtain ⟨vL, hvL, rL⟩ := o.val L _ eL
  obtain ⟨rfl, rL⟩ : vL = .ref b ∧ _ := rL
  simp only [List.append_nil] at h2 h3
  have own := o.own S mS
  rw [h2] at own
  have nd := List.nodup_cons.mp own.1
  obtain ⟨n1, n2, n3⟩ := nd_mid.mp nd.2
  have dj : ∀ a ∈ fps L, a ∉ a0 :: (F1 ++ (g0 ++ F2)) := fun a ha => by rw [← h2]; exact o.dj L mL S hSL a ha
  have hSl : S < δ.length := (List.getElem?_eq_some_iff.mp e).1
  have mem : ∀ a, a ∈ a0 :: (F1 ++ ((g0 ++ fps L) ++ F2)) → a ∈ fps S ∨ a ∈ fps L := fun a ha => by
    rw [h2]
    rcases List.mem_cons.mp ha with q | q
    · exact .inl (List.mem_cons.mpr (.inl q))
    · rcases List.mem_append.mp q with q | q
      · exact .inl (List.mem_cons_of_mem _ (List.mem_append_left _ q))
      · rcases List.mem_append.mp q with q | q
        · rcases List.mem_append.mp q with q | q
          · exact .inl (List.mem_cons_of_mem _ (List.mem_append_right _ (List.mem_append_left _ q)))
          · exact .inr q
        · exact .inl (List.mem_cons_of_mem _ (List.mem_append_right _ (List.mem_append_right _ q)))
  have nd2 : (a0 :: (F1 ++ ((g0 ++ fps L) ++ F2))).Nodup := by
    refine List.nodup_cons.mpr ⟨fun q => ?_, ?_⟩
    · rcases List.mem_append.mp q with q | q
      · exact nd.1 (List.mem_append_left _ q)
      · rcases List.mem_append.mp q with q | q
        · rcases List.mem_append.mp q with q | q
          · exact nd.1 (List.mem_append_right _ (List.mem_append_left _ q))
          · exact dj a0 q List.mem_cons_self
        · exact nd.1 (List.mem_append_right _ (List.mem_append_right _ q))
    · refine nd_mid.mpr ⟨n1, List.nodup_append.mpr ⟨n2, (o.own L mL).1, fun a h1 b h2 q => ?_⟩, fun a ha q => ?_⟩
      · subst q; exact dj a h2 (List.mem_cons_of_mem _ (List.mem_append_right _ (List.mem_append_left _ h1)))
      · rcases List.mem_append.mp ha with ha | ha
        · exact n3 a ha q
        · refine dj a ha (List.mem_cons_of_mem _ ?_)
          rcases List.mem_append.mp q with q | q
          · exact List.mem_append_left _ q
          · exact List.mem_append_right _ (List.mem_append_right _ q)
  have xsm : xs.set j (.ref c) = xs := by
    refine List.ext_getElem? fun k => ?_
    rw [List.getElem?_set]
    by_cases z : j = k
    · subst z; rw [if_pos rfl, e1, if_pos (List.getElem?_eq_some_iff.mp e1).1]
    · rw [if_neg z]
  have rN : Rf K H (.tup [z, y]) (.ref c) (g0 ++ fps L) := ⟨c, _, rfl, hc, _, _, g0, fps L, rfl, rfl, q0, _, [], fps L, [], rfl, (List.append_nil _).symm, rL, rfl, rfl⟩
  have rS := mk2 rN
  rw [xsm] at rS
  refine ⟨fun l => if l = L then [] else if l = S then a0 :: (F1 ++ ((g0 ++ fps L) ++ F2)) else fps l, by simp [o.len], o.b0, fun l d' e' => ?_, fun l e' => ?_, fun l hl => ?_, fun l hl i hi a ha => ?_⟩
  · by_cases q : l = L
    · subst q
      rw [List.getElem?_set] at e'
      simp at e'
    · rw [if_neg q]
      rw [List.getElem?_set_ne (Ne.symm q)] at e'
      by_cases q2 : l = S
      · subst q2
        rw [if_pos rfl]
        rw [List.getElem?_set_self hSl] at e'
        cases e'
        exact ⟨_, hv, mk h1 rS⟩
      · rw [if_neg q2]
        rw [List.getElem?_set_ne (Ne.symm q2)] at e'
        exact o.val l d' e'
  · by_cases q : l = L
    · rw [if_pos q]
    · rw [if_neg q]
      by_cases q2 : l = S
      · subst q2
        exact absurd (by rw [List.getElem?_set_ne (Ne.symm q), List.getElem?_set_self hSl]) (e' _)
      · rw [if_neg q2]
        exact o.non l fun d' z => e' d' (by rw [List.getElem?_set_ne (Ne.symm q), List.getElem?_set_ne (Ne.symm q2)]; exact z)
  · have q : l ≠ L := fun z => hL (z ▸ hl)
    rw [if_neg q]
    by_cases q2 : l = S
    · rw [if_pos q2]
      exact ⟨nd2, fun a ha => (mem a ha).elim ((o.own S mS).2 a) ((o.own L mL).2 a)⟩
    · rw [if_neg q2]; exact o.own l (List.mem_cons_of_mem _ hl)
  · have q : l ≠ L := fun z => hL (z ▸ hl)
    rw [if_neg q] at ha
    by_cases q3 : i = L
    · rw [if_pos q3]; exact List.not_mem_nil
    · rw [if_neg q3]
      by_cases q2 : l = S
      · rw [if_pos q2] at ha
        rw [if_neg (fun w => hi (w.trans q2.symm))]
        rcases mem a ha with w | w
        · exact o.dj S mS i (fun w => hi (w.trans q2.symm)) a w
        · exact o.dj L mL i q3 a w
      · rw [if_neg q2] at ha
        by_cases q4 : i = S
        · rw [if_pos q4]
          intro w
          rcases mem a w with w | w
          · exact o.dj l (List.mem_cons_of_mem _ hl) S (Ne.symm q2) a ha w
          · exact o.dj l (List.mem_cons_of_mem _ hl) L (Ne.symm q) a ha w
        · rw [if_neg q4]; exact o.dj l (List.mem_cons_of_mem _ hl) i hi a ha
def bkE (S L : Nat) (E : DEnds) : DEnds := { E with nx := fun δ' => ∃ x ds b y, δ'[S]? = some (some x) ∧ tabQ x = some ds ∧ δ'[L]? = some (some (.pin b y)) ∧ ((∃ j z, ds[j]? = some (.tup [z, .raw (.ref b)]) ∧ E.nx ((δ'.set S (some (setQ x (ds.set j (.tup [z, y]))))).set L none)) ∨ E.nx (δ'.set L none)) }
theorem bk_ok {S L : Nat} {Dn : Ends} {E : DEnds} (k : EOk K ρ Γr Γl Γ B0 Dn E) (hS : S ∈ Γ) (hL : L ∉ Γ) : EOk K ρ Γr Γl (L :: Γ) B0 Dn (bkE S L E) :=
  ⟨fun o ⟨x, ds, b, y, e1, e2, e3, h⟩ => by
    rcases h with ⟨j, z, e4, h⟩ | h
    · obtain ⟨fps', o'⟩ := o.back hS hL e1 e2 e4 e3
      exact k.nx o' h
    · exact k.nx (o.goneL hL) h, k.bk, k.ct, k.rt⟩
def vLend2 (S i L : Nat) (d1 : DE) (d : DS) (E : DEnds) (δ : Dl) : Prop := ∃ x ds, δ[S]? = some (some x) ∧ tabQ x = some ds ∧ (i < δ.length ∧ L < δ.length) ∧ d1 δ fun k => ∃ (m : Int) (p : D) (es : List D), k = .int m ∧ 0 ≤ m ∧ p.scal = true ∧ ds[m.toNat]? = some (.tup [p, .lst es]) ∧
  ∀ b : Addr, d (bkE S L E) (((δ.set i (some p)).set S (some (setQ x (ds.set m.toNat (.tup [p, .raw (.ref b)]))))).set L (some (.pin b (.lst es))))
theorem st_lend2 (S i L : Nat) {n : Nat} (h1 : ER K Γ t1 d1) (hb : ST K ρ Γr Γl t (L :: Γ) (L :: Γ) d) (hS : S ∈ Γ := by decide) (hL : L ∉ Γ := by decide) (hi : i ∉ Γ := by decide) (hiS : i ≠ S := by decide) (hiL : i ≠ L := by decide) (hn : n = 2 := by rfl) :
    ST K ρ Γr Γl (tSeq (tAsg (tOp (rIxL K) (tVar S) t1) (gTup K n (gCons (gName i) (gCons (gName L) gNil)))) t) Γ Γ (vLend2 S i L d1 d) := by
  intro B0 Dn E fps δ σ H k o h
  subst hn
  obtain ⟨x, ds, e, ex, ⟨li, lL⟩, h⟩ := h
  obtain ⟨v, hv, r⟩ := o.val S _ e
  obtain ⟨a0, xs, fq, rfl, g1, g2, g3, mk⟩ := tabQ_rf ex r
  refine ⟨.ref a0, hv, h1.run o (h1.mono _ _ _ (fun y z w H2 s2 r2 => ?_) h)⟩
  obtain ⟨m, p, es, rfl, m0, hp, em, z⟩ := z
  have o2 := o.same s2
  have o3 := (o2.setSh i (Same.refl H2) (Rf.ofScal (K := K) hp) (fun _ _ _ w => (nomatch w))).sub (Γ' := Γ) fun l hl => mem_minus.mpr ⟨hl, fun q => hi (by rw [← List.mem_singleton.mp q]; exact hl)⟩
  obtain ⟨a1, xs1, c, b, fps', k1, k2, k3, k4, k5, o4⟩ := o3.lend hS hL (by rw [List.length_set]; exact lL) (by rw [List.getElem?_set_ne hiS]; exact e) ex em hp
  have hml := (List.getElem?_eq_some_iff.mp em).1
  rw [List.getElem?_set_ne hiS, hv] at k1
  cases k1
  exact ⟨a0, xs1, m, .ref c, rfl, r2.int, .inl (.inl k2), by unfold atI; rw [ixN_nat m0 (by rw [k5]; omega)]; exact k3, c, _, rfl, .inl (.inl k4), rfl, _, _, rfl, _, [], rfl, rfl, hb (bk_ok k hS hL) o4 (z b)⟩
def vLend1 (S L : Nat) (d1 : DE) (d : DS) (E : DEnds) (δ : Dl) : Prop := ∃ x ds, δ[S]? = some (some x) ∧ tabQ x = some ds ∧ L < δ.length ∧ d1 δ fun k => ∃ (m : Int) (p : D) (es : List D), k = .int m ∧ 0 ≤ m ∧ p.scal = true ∧ ds[m.toNat]? = some (.tup [p, .lst es]) ∧
  ∀ b : Addr, d (bkE S L E) ((δ.set S (some (setQ x (ds.set m.toNat (.tup [p, .raw (.ref b)]))))).set L (some (.pin b (.lst es))))
theorem st_lend1 (S L : Nat) (h1 : ER K Γ t1 d1) (hb : ST K ρ Γr Γl t (L :: Γ) (L :: Γ) d) (hS : S ∈ Γ := by decide) (hL : L ∉ Γ := by decide) :
    ST K ρ Γr Γl (tSeq (tAsg (tOp (rIxT K) (tOp (rIxL K) (tVar S) t1) (tC (.int 1))) (gName L)) t) Γ Γ (vLend1 S L d1 d) := by
  intro B0 Dn E fps δ σ H k o h
  obtain ⟨x, ds, e, ex, lL, h⟩ := h
  obtain ⟨v, hv, r⟩ := o.val S _ e
  obtain ⟨a0, xs, fq, rfl, g1, g2, g3, mk⟩ := tabQ_rf ex r
  refine ⟨.ref a0, hv, h1.run o (h1.mono _ _ _ (fun y z w H2 s2 r2 => ?_) h)⟩
  obtain ⟨m, p, es, rfl, m0, hp, em, z⟩ := z
  have o2 := o.same s2
  obtain ⟨a1, xs1, c, b, fps', k1, k2, k3, k4, k5, o4⟩ := o2.lend hS hL lL e ex em hp
  have hml := (List.getElem?_eq_some_iff.mp em).1
  rw [hv] at k1
  cases k1
  exact ⟨a0, xs1, m, .ref c, rfl, r2.int, .inl (.inl k2), by unfold atI; rw [ixN_nat m0 (by rw [k5]; omega)]; exact k3, c, _, 1, .ref b, rfl, rfl, .inl (.inl k4), atI_nat (k := 1) rfl, hb (bk_ok k hS hL) o4 (z b)⟩
end
end L3
set_option Elab.async false
set_option linter.all false
set_option maxRecDepth 100000
set_option maxHeartbeats 4000000
namespace L3
open PySem L2
section
variable {K : PySem.W.Frag} {ρ : Bool} {Γr Γl Γ Γn M : List Nat} {te tx tn t1 t2 : TE} {de dx dn d1 d2 : DE} {t u : TS} {d e : DS}
variable {B0 : Hp} {fps : Nat → List Addr} {δ : Dl} {σ : St} {H H' : Hp}
theorem ST.drop0 (h : ST K true [] [] (tDrop te) Γ Γn d) : ST0 K (tDrop te) Γ Γn d := by
  intro B0 Dn E fps δ σ H k o q
  have z := h (Dn := { nx := fun σ' H' => σ' = σ → Dn.nx σ H', bk := fun _ _ => True, ct := fun _ _ => True, rt := fun _ _ => True }) ⟨fun o' z w => by subst w; exact k o' z, fun _ _ => trivial, fun _ _ => trivial, fun _ _ _ _ => trivial⟩ o q
  have e : (fun (_ : V) (H' : Hp) => σ = σ → Dn.nx σ H') = fun _ H' => Dn.nx σ H' := by funext v H'; simp
  show te σ H (fun _ H' => Dn.nx σ H')
  rw [← e]
  exact z
theorem st_ifL {c : TT} {dc : DT} {A R : TS} (hc : TR K Γ c dc) (h1 : ST K ρ Γr Γl (tSeq A R) Γ Γn d) (h2 : ST K ρ Γr Γl R Γ Γn e) : ST K ρ Γr Γl (tSeq (tIfS c A tNext) R) Γ Γn (vIfS dc d e) :=
  fun B0 Dn E fps δ σ H k o q => (show tIfS c (tSeq A R) R Dn σ H from st_if hc h1 h2 k o q)
def vIfN (dc : DT) (E : DEnds) (δ : Dl) : Prop := dc δ fun b => b = false ∧ E.nx δ
theorem st_ifN {c : TT} {dc : DT} {A : TS} (hc : TR K Γ c dc) : ST K ρ Γr Γl (tIfS c A tNext) Γ Γ (vIfN dc) :=
  fun B0 Dn E fps δ σ H k o q => hc.run o (hc.mono _ _ _ (fun b z H' s => by rw [z.1, if_neg (by decide)]; exact k.nx (o.same s) z.2) q)
theorem Ok.outW (o : Ok K B0 Γ fps δ σ H) {i : Nat} (hi : i ∈ Γ) {ds : List D} (e : δ[i]? = some (some (.lst ds))) :
    ∃ a xs fq, σ[i]? = some (some (.ref a)) ∧ H a = some (.lst xs) ∧ Rfs K H ds xs fq ∧ fq.Nodup ∧ a ∉ fq ∧ ∀ {ds' : List D} {xs' : List V} {fq' : List Addr}, Rfs K H ds' xs' fq' → fq'.Nodup → (∀ c ∈ fq', c ∈ fq) → Ok K B0 Γ (fun j => if j = i then a :: fq' else fps j) (δ.set i (some (.lst ds'))) σ (upd H a (.lst xs')) := by
  obtain ⟨a, xs, fq, h1, h2, h3, h4⟩ := o.ownL e
  have hown := o.own i hi
  rw [h3] at hown
  obtain ⟨n1, n2⟩ := List.nodup_cons.mp hown.1
  have nt := (hown.2 a List.mem_cons_self).2.notup
  refine ⟨a, xs, fq, h1, h2, h4, n2, n1, fun {ds' xs' fq'} r nd sub => o.write hi (d' := .lst ds') (fp' := a :: fq') h1 ⟨a, xs', fq', rfl, upd_same, rfl, r.upd (fun z => n1 (sub a z)) nt⟩ (List.nodup_cons.mpr ⟨fun z => n1 (sub a z), nd⟩) (fun b hb => ?_) (fun b hb => ?_) ?_⟩
  · rcases List.mem_cons.mp hb with rfl | hb
    · exact .inl ⟨_, upd_same⟩
    · exact Mu.upd ((hown.2 b (List.mem_cons_of_mem _ (sub b hb))).2) (.inl ⟨_, rfl⟩)
  · rw [h3]
    rcases List.mem_cons.mp hb with rfl | hb
    · exact .inl List.mem_cons_self
    · exact .inl (List.mem_cons_of_mem _ (sub b hb))
  · rw [h3]; exact updKeep List.mem_cons_self
theorem Rfs.eraseS : ∀ {ds : List D} {xs : List V} {fq : List Addr} (n : Nat), Rfs K H ds xs fq → ∃ fq', Rfs K H (ds.eraseIdx n) (xs.eraseIdx n) fq' ∧ fq'.Sublist fq
  | [], xs, fq, n, h => by obtain ⟨rfl, rfl⟩ := h; exact ⟨[], ⟨by simp, rfl⟩, List.Sublist.refl _⟩
  | d :: ds, xs, fq, 0, h => by
    obtain ⟨x, r, f1, f2, rfl, rfl, h1, h2⟩ := h
    exact ⟨f2, h2, List.sublist_append_right _ _⟩
  | d :: ds, xs, fq, n + 1, h => by
    obtain ⟨x, r, f1, f2, rfl, rfl, h1, h2⟩ := h
    obtain ⟨fq', h3, h4⟩ := Rfs.eraseS n h2
    exact ⟨f1 ++ fq', ⟨x, _, f1, fq', rfl, rfl, h1, h3⟩, List.Sublist.append (List.Sublist.refl _) h4⟩
def vPopD (i : Nat) (de : DE) (E : DEnds) (δ : Dl) : Prop := slotL δ i fun ds => de δ fun x => asI [x] fun m => (0 ≤ m ∧ m < ds.length ∧ ds.length ≤ 1000) ∧ E.nx (δ.set i (some (.lst (ds.eraseIdx m.toNat))))
theorem st0_popD (i : Nat) (he : ER K Γ te de) (hi : i ∈ Γ := by decide) : ST0 K (tDrop (tBM K "list" rPopAt (tVar i) (tCons te tNil))) Γ Γ (vPopD i de) := by
  intro B0 Dn E fps δ σ H k o h
  obtain ⟨ds, e, h⟩ := slotL_out h
  obtain ⟨a0, xs0, fq, g1, g2, g3, g4⟩ := o.ownL e
  refine ⟨.ref a0, g1, .inl ⟨rfl, xs0, .inl (.inl g2)⟩, he.run o (he.mono _ _ _ (fun x z v H1 s r => ?_) h)⟩
  obtain ⟨m, em, z⟩ := asI1_out z
  subst em
  obtain ⟨⟨z2, z3, z4⟩, z⟩ := z
  obtain ⟨a, xs, fq1, h1, h2, h3, n1, n2, h4⟩ := (o.same s).outW hi e
  rw [g1] at h1; cases h1
  have hl := h3.length
  have hk : m.toNat < xs.length := by omega
  obtain ⟨fq', h5, h6⟩ := h3.eraseS m.toNat
  exact ⟨a0, xs, m, m.toNat, _, rfl, by rw [r.int], h2, by omega, by omega, by rw [seqIndex_of z2 (by omega)], List.getElem?_eq_getElem hk, k (h4 h5 (h6.nodup n1) fun c hc => h6.subset hc) z⟩
theorem Rfs.swapS : ∀ {ds : List D} {xs : List V} {fq : List Addr} {p : Nat} {d0 d : D} {x0 x : V}, Rfs K H ds xs fq → fq.Nodup → ds[0]? = some d0 → ds[p]? = some d → xs[0]? = some x0 → xs[p]? = some x →
    ∃ fq', Rfs K H ((ds.set p d0).set 0 d) ((xs.set p x0).set 0 x) fq' ∧ fq'.Nodup ∧ ∀ c ∈ fq', c ∈ fq
  | [], _, _, _, _, _, _, _, _, _, e, _, _, _ => by simp at e
  | a :: ds, xs, fq, 0, d0, d, x0, x, h, nd, e1, e2, e3, e4 => by
    obtain ⟨y, r, f1, f2, rfl, rfl, h1, h2⟩ := h
    simp at e1 e2 e3 e4
    subst e1 e2 e3 e4
    exact ⟨f1 ++ f2, ⟨_, _, f1, f2, rfl, rfl, h1, h2⟩, nd, fun c hc => hc⟩
  | a :: ds, xs, fq, p + 1, d0, d, x0, x, h, nd, e1, e2, e3, e4 => by
    obtain ⟨y, r, f1, f2, rfl, rfl, h1, h2⟩ := h
    simp at e1 e2 e3 e4
    subst e1 e3
    obtain ⟨v, f, F1, F2, q1, rfl, q2, mk⟩ := h2.cutA (m := p) e2
    rw [e4] at q1; cases q1
    have pm : (f ++ (F1 ++ (f1 ++ F2))).Perm (f1 ++ (F1 ++ (f ++ F2))) := by
      have s1 : ∀ X : List Addr, (F1 ++ (X ++ F2)).Perm (X ++ (F1 ++ F2)) := fun X => by
        rw [← List.append_assoc, ← List.append_assoc]
        exact List.Perm.append_right F2 List.perm_append_comm
      refine (List.Perm.append_left f (s1 f1)).trans (.trans ?_ (List.Perm.append_left f1 (s1 f)).symm)
      rw [← List.append_assoc f, ← List.append_assoc f1]
      exact List.Perm.append_right _ List.perm_append_comm
    exact ⟨f ++ (F1 ++ (f1 ++ F2)), ⟨x, _, f, _, rfl, rfl, q2, mk h1⟩, pm.nodup_iff.mpr nd, fun c hc => pm.mem_iff.mp hc⟩
def vSwap0 (i j : Nat) (E : DEnds) (δ : Dl) : Prop := slotL δ i fun ds => ∃ (p : Nat) (d0 d : D), δ[j]? = some (some (.int (p : Int))) ∧ ds[0]? = some d0 ∧ ds[p]? = some d ∧ E.nx (δ.set i (some (.lst ((ds.set p d0).set 0 d))))
theorem upd2 {a : Addr} {o1 o2 : HO} : upd (upd H a o1) a o2 = upd H a o2 := by
  funext b
  by_cases h : b = a
  · subst h; rw [upd_same, upd_same]
  · rw [upd_ne h, upd_ne h, upd_ne h]
theorem st0_swap0 (i j : Nat) {n : Nat} (hi : i ∈ Γ := by decide) (hn : n = 2 := by rfl) :
    ST0 K (tAsg (tTup (tCons (tOp (rIxL K) (tVar i) (tC (.int 0))) (tCons (tOp (rIxL K) (tVar i) (tVar j)) tNil))) (gTup K n (gCons (gSub (tVar i) (tVar j) rSetL) (gCons (gSub (tVar i) (tC (.int 0)) rSetL) gNil)))) Γ Γ (vSwap0 i j) := by
  intro B0 Dn E fps δ σ H k o h
  subst hn
  obtain ⟨ds, e, p, d0, dp, ej, e0, ep, h⟩ := slotL_out h
  obtain ⟨a, xs, fq, g1, g2, g3, n1, n2, _⟩ := o.outW hi e
  obtain ⟨vj, hj, rj⟩ := o.val j _ ej
  obtain rfl : vj = .int (p : Int) := rj.1
  have hl := g3.length
  have l0 := (List.getElem?_eq_some_iff.mp e0).1
  have lp := (List.getElem?_eq_some_iff.mp ep).1
  obtain ⟨x0, ex0⟩ : ∃ v, xs[0]? = some v := ⟨_, List.getElem?_eq_getElem (by omega)⟩
  obtain ⟨xp, exp⟩ : ∃ v, xs[p]? = some v := ⟨_, List.getElem?_eq_getElem (by omega)⟩
  refine ⟨.ref a, g1, a, xs, 0, x0, rfl, rfl, .inl (.inl g2), atI_nat (k := 0) ex0, .ref a, g1, .int (p : Int), hj, a, xs, (p : Int), xp, rfl, rfl, .inl (.inl g2), atI_nat (k := p) exp, (show 2 ≤ sizeLine by decide), fun q hq => ?_⟩
  have s : Same H (upd H q (.tup [x0, xp])) := Same.new' hq
  obtain ⟨a', xs', fq', g1', g2', g3', n1', n2', mk⟩ := (o.same s).outW hi e
  rw [g1] at g1'; cases g1'
  have g2s := s _ _ g2
  rw [g2s] at g2'; cases g2'
  obtain ⟨fq2, r2, nd2, sub2⟩ := g3'.swapS n1' e0 ep ex0 exp
  have o2 := mk r2 nd2 sub2
  refine ⟨q, _, rfl, .inl (.inl upd_same), rfl, x0, [xp], rfl, .ref a, g1, .int (p : Int), hj, a, xs, (p : Int), p, rfl, rfl, g2s, ixN_nat (by omega) (by omega), xp, [], rfl, .ref a, g1, a, xs.set p x0, 0, 0, rfl, rfl, upd_same, ?_, rfl, ?_⟩
  · exact ixN_nat (i := 0) (by decide) (by rw [List.length_set]; omega)
  · rw [upd2]; exact k o2 h
def PostB (K : PySem.W.Frag) (vs : List V) (B : Hp) (Q : VK) (x y : D) : Prop := ∀ H' w v, Same B H' → vs[1]? = some v → Rp K H' x w → Rp K H' y v → Q w H'
def spB (K : PySem.W.Frag) (S : DSJ) : Sp := fun vs H Q _ => ∃ B fv ds, Ok K B [0, 1, 2] fv (ds.map some) (vs.map some) H ∧ (∃ b, vs[1]? = some (.ref b)) ∧ S ds (PostB K vs B Q)
theorem spB_len {S : DSJ} {n : Nat} (hS : ∀ ds P, S ds P → ds.length = n) {vs : List V} {H : Hp} {Q : VK} {E : XK} (h : spB K S vs H Q E) : vs.length = n := by
  obtain ⟨B, fv, ds, o, _, h⟩ := h
  have := o.len
  rw [List.length_map, List.length_map] at this
  rw [this]; exact hS _ _ h
abbrev endsB (b : Addr) (P : D → D → Prop) : DEnds := ⟨fun _ => False, fun r δ => slotP δ 1 fun b' y => b' = b ∧ P r y, fun _ => False, fun _ => False⟩
theorem startB_ok {N : List Str} {ds : List D} {vs : List V} {fv : Nat → List Addr} {b : Addr} {Γa : List Nat} (o : Ok K B0 Γa fv (ds.map some) (vs.map some) H) (hb : vs[1]? = some (.ref b)) {y : D} (hy : ds[1]? = some y) :
    Ok K B0 Γa fv (startD N (ds.set 1 (.pin b y))) (L2.start N vs) H := by
  have hl : vs.length = ds.length := by have := o.len; rwa [List.length_map, List.length_map] at this
  have o1 : Ok K B0 Γa fv ((ds.map some).set 1 (some (.pin b y))) (vs.map some) H := o.redata (x := y) (by rw [List.getElem?_map, hy]; rfl) fun v hv r => ⟨by rw [List.getElem?_map, hb] at hv; cases hv; rfl, r⟩
  have e : (ds.map some).set 1 (some (.pin b y)) = (ds.set 1 (.pin b y)).map some := by rw [List.map_set]
  rw [e] at o1
  have hl1 : (ds.set 1 (.pin b y)).length = ds.length := by rw [List.length_set]
  generalize ds.set 1 (.pin b y) = ds1 at *
  unfold startD L2.start
  refine ⟨by rw [List.length_append, List.length_append, List.length_map, List.length_map, List.length_replicate, List.length_replicate]; omega, o1.b0, fun i d q => ?_, fun i q => ?_, o1.own, o1.dj⟩
  · by_cases hi : i < ds1.length
    · rw [List.getElem?_append_left (by simpa using hi)] at q
      rw [List.getElem?_append_left (by rw [List.length_map]; omega)]
      exact o1.val i d q
    · rw [List.getElem?_append_right (by simpa using hi), List.getElem?_replicate] at q
      split at q <;> cases q
  · refine o1.non i fun d z => q d ?_
    have : i < ds1.length := by simpa using (List.getElem?_eq_some_iff.mp z).1
    rw [List.getElem?_append_left (by simpa using this)]
    exact z
theorem fn_valB {N : List Str} {S : DSJ} (hs : ST K false [] [] t [0, 1, 2] Γn d) (hd : ∀ ds P b y, S ds P → ds[1]? = some y → d (endsB b P) (startD N (ds.set 1 (.pin b y)))) (hS : ∀ ds P, S ds P → 1 < ds.length) :
    ∀ {vs H Q E}, spB K S vs H Q E → t { nx := fun _ H' => Q .non H', rt := Q } (L2.start N vs) H := by
  rintro vs H Q E ⟨B, fv, ds, o, ⟨b, hb⟩, h⟩
  have hlt := hS _ _ h
  obtain ⟨y, hy⟩ : ∃ x, ds[1]? = some x := ⟨_, List.getElem?_eq_getElem hlt⟩
  refine hs (E := endsB b (PostB K vs B Q)) ⟨fun _ (z : False) => z.elim, fun _ (z : False) => z.elim, fun _ (z : False) => z.elim, fun {fps δ σ H' x v fp} o' r' _ z => ?_⟩ (startB_ok o hb hy) (hd ds _ b y h hy)
  obtain ⟨b', y', e', eb, z3⟩ := slotP_out z
  subst eb
  obtain ⟨u, h3, h4⟩ := o'.val 1 _ e'
  obtain rfl : u = .ref b' := h4.1
  exact z3 H' v _ o'.b0 hb ⟨fp, r'⟩ ⟨_, h4.2⟩
end
end L3
set_option Elab.async false
set_option linter.all false
set_option maxRecDepth 100000
set_option maxHeartbeats 4000000
namespace L3
open PySem L2
section
variable {K : PySem.W.Frag} {ρ : Bool} {Γr Γl Γ Γn M : List Nat} {tn : TE} {dn : DE}
variable {B0 : Hp} {fps : Nat → List Addr} {δ : Dl} {σ : St} {H H' : Hp}
def vAsgB (it ip io iq : Nat) (S : DSJ) (dn : DE) (E : DEnds) (δ : Dl) : Prop := vVar it δ fun x => vVar ip δ fun y => vVar io δ fun z => vVar iq δ fun q => dn δ fun n => (y.isRef = true ∧ n.scal = true) ∧ S [x, y, z, q, n] fun r y' => ∃ a b c, r = .lst [a, b, c] ∧ E.nx ((((δ.set ip (some y')).set it (some a)).set io (some b)).set iq (some c))
theorem st_asgB {Ex : XK} {S : DSJ} (it ip io iq : Nat) {n : Nat} (hS : DMonoJ S) (hz : ER K Γ tn dn) (h0 : it ∈ Γ := by decide) (h1 : ip ∈ Γ := by decide) (h2 : io ∈ Γ := by decide) (nd : [it, ip, io, iq].Nodup := by decide) (hn : n = 3 := by rfl) :
    ST K ρ Γr Γl (tAsg (tCall (spB K S) [] Ex (tCons (tVar it) (tCons (tVar ip) (tCons (tVar io) (tCons (tVar iq) (tCons tn tNil)))))) (gLst K n (gCons (gName it) (gCons (gName io) (gCons (gName iq) gNil))))) Γ [] (vAsgB it ip io iq S dn) := by
  intro B0 Dn E fps δ σ H k o h
  subst hn
  obtain ⟨n01, n02, n03, n12, n13, n23⟩ : it ≠ ip ∧ it ≠ io ∧ it ≠ iq ∧ ip ≠ io ∧ ip ≠ iq ∧ io ≠ iq := by simp at nd; exact ⟨nd.1.1, nd.1.2.1, nd.1.2.2, nd.2.1.1, nd.2.1.2, nd.2.2⟩
  obtain ⟨x, ex, h⟩ := vVar_out h
  obtain ⟨y, ey, h⟩ := vVar_out h
  obtain ⟨z, ez, h⟩ := vVar_out h
  obtain ⟨q, eq, h⟩ := vVar_out h
  obtain ⟨vx, hx, rx⟩ := o.val it x ex
  obtain ⟨vy, hy, ry⟩ := o.val ip y ey
  obtain ⟨vz, hzv, rz⟩ := o.val io z ez
  obtain ⟨vq, hq, rq⟩ := o.val iq q eq
  refine ⟨vx, hx, vy, hy, vz, hzv, vq, hq, hz.run o (hz.mono _ _ _ (fun n zz w H1 s1 r => ?_) h)⟩
  obtain ⟨⟨zy, zs⟩, zz⟩ := zz
  obtain ⟨fz, r⟩ := r
  obtain ⟨rfl, rfl⟩ := r.scal zs
  obtain ⟨b, rfl⟩ := ry.isRef zy
  have o1 := o.same s1
  have sub : ∀ l ∈ [it, ip, io], l ∈ Γ := fun l hl => by
    rcases List.mem_cons.mp hl with rfl | hl
    · exact h0
    · rcases List.mem_cons.mp hl with rfl | hl
      · exact h1
      · cases List.mem_singleton.mp hl; exact h2
  obtain ⟨B1, sB, oB, eB⟩ := (o1.sub (Γ' := [it, ip, io]) sub).rebase
  have m0 : it ∈ [it, ip, io] := List.mem_cons_self
  have m1 : ip ∈ [it, ip, io] := List.mem_cons_of_mem _ List.mem_cons_self
  have m2 : io ∈ [it, ip, io] := List.mem_cons_of_mem _ (List.mem_cons_of_mem _ List.mem_cons_self)
  refine ⟨B1, fun l => match l with | 0 => fps it | 1 => fps ip | 2 => fps io | 3 => fps iq | _ => [], [x, y, z, q, n], ⟨rfl, oB.b0, fun l d e => ?_, fun l e => ?_, fun l hl => ?_, fun l hl m hm c hc => ?_⟩, ⟨b, rfl⟩, hS _ _ _ (fun r' y' z' => ?_) zz⟩
  · match l, e with
    | 0, e => cases e; exact ⟨_, rfl, rx.same s1⟩
    | 1, e => cases e; exact ⟨_, rfl, ry.same s1⟩
    | 2, e => cases e; exact ⟨_, rfl, rz.same s1⟩
    | 3, e => cases e; exact ⟨_, rfl, rq.same s1⟩
    | 4, e => cases e; exact ⟨_, rfl, r⟩
    | n + 5, e => cases e
  · match l, e with
    | 0, e => exact absurd rfl (e x)
    | 1, e => exact absurd rfl (e y)
    | 2, e => exact absurd rfl (e z)
    | 3, e => exact absurd rfl (e q)
    | n + 4, e => rfl
  · rcases List.mem_cons.mp hl with rfl | hl
    · exact oB.own it m0
    · rcases List.mem_cons.mp hl with rfl | hl
      · exact oB.own ip m1
      · cases List.mem_singleton.mp hl; exact oB.own io m2
  · rcases List.mem_cons.mp hl with rfl | hl
    · match m, hm with
      | 0, hm => exact absurd rfl hm
      | 1, _ => exact oB.dj it m0 ip (Ne.symm n01) c hc
      | 2, _ => exact oB.dj it m0 io (Ne.symm n02) c hc
      | 3, _ => exact oB.dj it m0 iq (Ne.symm n03) c hc
      | n + 4, _ => exact List.not_mem_nil
    · rcases List.mem_cons.mp hl with rfl | hl
      · match m, hm with
        | 0, _ => exact oB.dj ip m1 it n01 c hc
        | 1, hm => exact absurd rfl hm
        | 2, _ => exact oB.dj ip m1 io (Ne.symm n12) c hc
        | 3, _ => exact oB.dj ip m1 iq (Ne.symm n13) c hc
        | n + 4, _ => exact List.not_mem_nil
      · cases List.mem_singleton.mp hl
        match m, hm with
        | 0, _ => exact oB.dj io m2 it n02 c hc
        | 1, _ => exact oB.dj io m2 ip n12 c hc
        | 2, hm => exact absurd rfl hm
        | 3, _ => exact oB.dj io m2 iq (Ne.symm n23) c hc
        | n + 4, _ => exact List.not_mem_nil
  · intro H' w v sB' ev rr ry'
    cases ev
    obtain ⟨a, b', c, rfl, hE⟩ := z'
    obtain ⟨fp, p, ws, fq, rfl, hl, _, rs⟩ := rr
    obtain ⟨va, r1, fa, f1, rfl, rfl, ra, rs⟩ := rs
    obtain ⟨vb, r2, fb, f2, rfl, rfl, rb, rs⟩ := rs
    obtain ⟨vc, r3, fc, f3, rfl, rfl, rc, rs⟩ := rs
    obtain ⟨rfl, rfl⟩ := rs
    obtain ⟨fy, ry'⟩ := ry'
    have keep : ∀ c u, c ∉ fps it → c ∉ fps ip → c ∉ fps io → H1 c = some u → H' c = some u := fun c u q0 q1 q2 e => by
      have := eB c (fun l hl => by
        rcases List.mem_cons.mp hl with rfl | hl
        · exact q0
        · rcases List.mem_cons.mp hl with rfl | hl
          · exact q1
          · cases List.mem_singleton.mp hl; exact q2)
      exact sB' c u (this.trans e)
    have im : ∀ c u, H1 c = some u → Im u → H' c = some u := fun c u e i => keep c u (fun z => ((o1.own it h0).2 c z).2.notup u e i) (fun z => ((o1.own ip h1).2 c z).2.notup u e i) (fun z => ((o1.own io h2).2 c z).2.notup u e i) e
    have li := (List.getElem?_eq_some_iff.mp ex).1
    have lp := (List.getElem?_eq_some_iff.mp ey).1
    have lo := (List.getElem?_eq_some_iff.mp ez).1
    have lq := (List.getElem?_eq_some_iff.mp eq).1
    refine ⟨p, _, rfl, .inl (.inl hl), rfl, va, [vb, vc], rfl, vb, [vc], rfl, vc, [], rfl, rfl, k.nx (fps := fun l => if l = iq then fc else if l = io then fb else if l = it then fa else if l = ip then fy else fps l) ⟨by simp [o.len], sB.trans sB', fun l d e => ?_, fun l e => ?_, fun l hl => (nomatch hl), fun l hl => (nomatch hl)⟩ hE⟩
    · by_cases c3 : l = iq
      · subst c3
        rw [List.getElem?_set_self (by simpa using lq)] at e
        cases e
        rw [if_pos rfl]
        exact ⟨vc, by rw [List.getElem?_set_self (by simpa [o.len] using lq)], rc⟩
      rw [if_neg c3]
      rw [List.getElem?_set_ne (Ne.symm c3)] at e ⊢
      by_cases c2 : l = io
      · subst c2
        rw [List.getElem?_set_self (by simpa using lo)] at e
        cases e
        rw [if_pos rfl]
        exact ⟨vb, by rw [List.getElem?_set_self (by simpa [o.len] using lo)], rb⟩
      rw [if_neg c2]
      rw [List.getElem?_set_ne (Ne.symm c2)] at e ⊢
      by_cases c0 : l = it
      · subst c0
        rw [List.getElem?_set_self (by simpa using li)] at e
        cases e
        rw [if_pos rfl]
        exact ⟨va, by rw [List.getElem?_set_self (by simpa [o.len] using li)], ra⟩
      rw [if_neg c0]
      rw [List.getElem?_set_ne (Ne.symm c0)] at e ⊢
      by_cases c1 : l = ip
      · subst c1
        rw [List.getElem?_set_self lp] at e
        cases e
        rw [if_pos rfl]
        exact ⟨_, hy, ry'⟩
      rw [if_neg c1]
      rw [List.getElem?_set_ne (Ne.symm c1)] at e
      obtain ⟨v, hv, rv⟩ := o1.val l d e
      exact ⟨v, hv, rv.mono (fun c hc u e => keep c u (fun z => o1.dj it h0 l c0 c z hc) (fun z => o1.dj ip h1 l c1 c z hc) (fun z => o1.dj io h2 l c2 c z hc) e) im⟩
    · by_cases c3 : l = iq
      · subst c3
        exact absurd (by rw [List.getElem?_set_self (by simpa using lq)]) (e _)
      rw [if_neg c3]
      by_cases c2 : l = io
      · subst c2
        exact absurd (by rw [List.getElem?_set_ne (Ne.symm c3), List.getElem?_set_self (by simpa using lo)]) (e _)
      rw [if_neg c2]
      by_cases c0 : l = it
      · subst c0
        exact absurd (by rw [List.getElem?_set_ne (Ne.symm c3), List.getElem?_set_ne (Ne.symm c2), List.getElem?_set_self (by simpa using li)]) (e _)
      rw [if_neg c0]
      by_cases c1 : l = ip
      · subst c1
        exact absurd (by rw [List.getElem?_set_ne (Ne.symm c3), List.getElem?_set_ne (Ne.symm c2), List.getElem?_set_ne (Ne.symm c0), List.getElem?_set_self lp]) (e _)
      rw [if_neg c1]
      exact o1.non l fun d z => e d (by rw [List.getElem?_set_ne (Ne.symm c3), List.getElem?_set_ne (Ne.symm c2), List.getElem?_set_ne (Ne.symm c0), List.getElem?_set_ne (Ne.symm c1)]; exact z)
end
end L3
set_option Elab.async false
set_option linter.all false
set_option maxRecDepth 100000
set_option maxHeartbeats 4000000
namespace L2
open PySem PySem.Spec PyProof.Rows PySem.Calls
section
variable {prog : Program} {w : World} {A : Around} {E : Value → Shared → Prop} {s : Shared}
end
section
variable {X : Cx} {pins : List (Addr × Obj)} {σ : St} {H : Hp} {s : Shared}
end
end L2
set_option Elab.async false
set_option linter.all false
set_option maxRecDepth 100000
set_option maxHeartbeats 4000000
namespace L2
open PySem PySem.Spec PyProof.Rows PySem.Calls
def SetN (a : Addr) (n : Nat) : HO := .ext fun h => ∃ o es ep t, h.get? a = some o ∧ o.ExactSet ∧ o.data = .set es ep t ∧ t.fits es.size = true ∧ es.size = n ∧ n < scanBound
section
variable {X : Cx}
theorem call_setN (hc : X.calm = true) {K : PySem.W.Frag} (hK : X.K = K) : CallR X (.type "set") (fun xs H Q => ∃ (a : Addr) (ns : List Int), xs = [.ref a] ∧ SqL K H a (ns.map V.int) ∧ ns.length < 64 ∧ ∀ (l : Addr) (n : Nat), H l = none → Q (.ref l) (upd H l (SetN l n))) := by
  subst hK
  intro pins s σ H xs us Q I r h
  obtain ⟨a, ns, rfl, hS, hz, q⟩ := h
  obtain ⟨u, rfl, ru⟩ := vals1 r
  obtain rfl : u = Value.ref a := ru
  obtain ⟨its, r', pl, _⟩ := I.list hS
  have hi : IntsAre its ns := intsAre_of r'
  have hl := r'.length
  rw [List.length_map] at hl
  refine PySem.call_set_list (items := its.toArray) (ns := ns) (I.ok.hd hc) pl.isList (by simpa using hi) (by unfold scanBound; simp; omega) fun h' tk hSet kp => ?_
  have hn : H s.heap.objs.size = none := I.hok.fresh (Nat.le_refl _)
  obtain ⟨o, es, ep, t, e1, e2, e3, e4, e5, e6, e7, e8⟩ := hSet
  refine ⟨.ref s.heap.objs.size, _, I.laid (t' := tk) (fun b u e => kp b u (Heap.lt_size e) e) (Nat.le_refl _) (show ObjOk X.prog X.w _ h' _ (SetN _ es.size) from ⟨⟨o, es, ep, t, e1, e2, e3, e7, rfl, e6⟩, ⟨o, e1⟩, fun h1 h2 ⟨o, es, ep, t, g1, g⟩ k => ⟨o, es, ep, t, k o g1, g⟩⟩), rfl, q _ _ hn⟩
theorem call_lenSetN : CallR X (.builtin "len") (fun xs H Q => ∃ (a : Addr) (n : Nat), xs = [.ref a] ∧ H a = some (SetN a n) ∧ Q (.int n) H) := by
  intro pins s σ H xs us Q I r h
  obtain ⟨a, n, rfl, hS, q⟩ := h
  obtain ⟨u, rfl, ru⟩ := vals1 r
  obtain rfl : u = Value.ref a := ru
  obtain ⟨⟨o, es, ep, t, g1, g2, g3, g4, g5, g6⟩, _, _⟩ : _ ∧ _ ∧ _ := I.hok a _ hS
  subst g5
  refine PySem.call_len_set g1 g2 g3 g4 (by unfold scanBound at g6; omega) ⟨.int es.size, H, I.tok _, ⟨_, rfl⟩, q⟩
end
end L2
set_option Elab.async false
set_option linter.all false
set_option maxRecDepth 100000
set_option maxHeartbeats 4000000
namespace L3
open PySem L2
section
variable {K : PySem.W.Frag} {Γ : List Nat} {te : TE} {de : DE}
def vLenSet (de : DE) (δ : Dl) (P : DK) : Prop := de δ fun x => asNs x fun ns => ns.length < 64 ∧ ∀ n : Nat, P (.int n)
theorem er_lenSet (he : ER K Γ te de) : ER K Γ (tCB (fun xs H Q => ∃ (a : Addr) (n : Nat), xs = [.ref a] ∧ H a = some (SetN a n) ∧ Q (.int n) H) (tCons (tCB (fun xs H Q => ∃ (a : Addr) (ns : List Int), xs = [.ref a] ∧ SqL K H a (ns.map V.int) ∧ ns.length < 64 ∧ ∀ (l : Addr) (n : Nat), H l = none → Q (.ref l) (upd H l (SetN l n))) (tCons te tNil)) tNil)) (vLenSet de) :=
  ⟨fun δ P P' k h => he.mono _ _ _ (fun x z => by obtain ⟨ns, e, z⟩ := asNs_out z; exact asNs_in e ⟨z.1, fun n => k _ (z.2 n)⟩) h,
   fun {B0 fps δ σ H Q} o h => he.run o (he.mono _ _ _ (fun x z v H1 s1 r1 => by
    obtain ⟨ns, e, z1, z⟩ := asNs_out z
    obtain ⟨a, ys, fq, rfl, hs, hr⟩ := Rp.seq r1 e
    rw [hr.intsV] at hs
    refine ⟨a, ns, rfl, hs, z1, fun l n hl => ⟨l, n, rfl, upd_same, ?_⟩⟩
    exact z n _ _ (s1.trans (Same.new' hl)) ⟨[], rfl, rfl⟩) h)⟩
end
end L3
namespace L3
open PySem L2
section
variable {K : PySem.W.Frag} {Γ : List Nat}
def vRawP (i : Nat) (δ : Dl) (P : DK) : Prop := slotP δ i fun a _ => P (.raw (.ref a))
theorem em_rawP (i : Nat) : EM K Γ [] (tVar i) (vRawP i) :=
  ⟨fun δ P P' k h => by obtain ⟨a, x, e, z⟩ := slotP_out h; exact slotP_in e (k _ z), fun {B0 fps δ σ H Q} o q => by
    obtain ⟨a, x, e, q⟩ := slotP_out q
    obtain ⟨v, e1, r⟩ := o.val i _ e
    exact ⟨v, e1, q v H [] (Same.refl H) ⟨r.1, rfl⟩ Nw.nil⟩⟩
end
end L3
set_option Elab.async false
set_option linter.all false
set_option maxRecDepth 100000
set_option maxHeartbeats 4000000
namespace Mine
open PySem L3
open L2 hiding D Rf Rfs Rp dI dT
open PyProof.Rows hiding St
local macro_rules | `(tactic| walk_at "v1") => `(tactic| simp only [vFld, asF_ins, vMeth, isI_ins, vOrE, vIsC, vIfN, vPopD, vSwap0, vAsgB, vLenSet, vRawP, vSub2, vCallJ, vPopF, vNext, vSeq, vSetM, vSet, vRet, vIfS, vAsg, vgName, vgTup2, vgCons_c, vgNil_n, vFor, vVar, vC, vOp, vUn, vI0_int, vI_int, vU_int, vTest, asB_bl, vAnd, vOr, vNot, vAndV, vChain, vNil, vCons, vLst, vTup, vCall, vItL, vRng1, asI_int, asII_int, asL_lst, asL_scr, vIxL_lst, vIxL_scr, vIxT_tup, vNoPart, vPart, vLen_lst, vLen_scr, vLen_tup, slotL, vAppend, vIs, tyn_int, tyn_bl, tyn_lst, tyn_tup, tyn_str, tyn_non, isB_ii, isB_ib, isB_ll, isB_tt, isB_ss, isB_bb, isB_bi, isB_il, isB_nl, vIsN_non, D.isNon, vScal, D.scal, flat_int, flat_bl, flat_tup2, flat_tup3, flat_tup4, asIB_int, asIB_bl, vYes, vCat_lst, vRep_lst, vList_lst, vList_scr, vSum_ints, asNs_ints, vSl, vSlR, vCatR_lst, vRepR_lst, vListR_lst, vAll_bools, vAny_bools, vMinL_ints, vMaxL_ints, vListRng, vPin, slotP, vVarP, vCallI, asDic_dic, vSort_ints, vLenD_dic, vTupOf_lst, vTupR_lst, asTI_in, asDit_dit, isRef_lst, isRef_dic, ofV_int, ofV_bl, ofV_non, D.toV, Option.some.injEq, forall_eq', vEqS_bl, vEqS_str, vgLst, vRaise, noX, atI_c0, atI_c1, atI_c2, atI_c3, asO_some, kill, List.foldl_nil, List.foldl_cons, List.set_cons_zero, List.set_cons_succ, List.getElem?_cons_zero, List.getElem?_cons_succ, List.getElem?_nil, endsD, vEqS_int, Bool.false_eq_true, Bool.not_false, Bool.not_true, if_true, if_false, ite_true, ite_false, true_and, and_true, List.length_cons, List.length_nil, decide_eq_true_eq, Bool.not_eq_true', decide_eq_false_iff_not, List.length_map, Bool.true_eq_false, eq_self, not_true_eq_false, not_false_eq_true, Int.reduceToNat, Int.reduceEq, Int.reduceLT, Int.reduceLE, Int.reducePow, Int.reduceAdd, Int.reduceMul, Int.reduceSub, Int.reduceNeg, Int.toNat_natCast])
local macro_rules | `(tactic| walk_at "vb1") => `(tactic| simp only [vFld, asF_ins, vMeth, isI_ins, vOrE, vIsC, vIfN, vPopD, vSwap0, vAsgB, vLenSet, vRawP, vSub2, vCallJ, vPopF, vNext, vSeq, vSetM, vSet, vRet, vIfS, vAsg, vgName, vgTup2, vgCons_c, vgNil_n, vFor, vVar, vC, vOp, vUn, vI0_int, vI_int, vU_int, vTest, asB_bl, vAnd, vOr, vNot, vAndV, vChain, vNil, vCons, vLst, vTup, vCall, vItL, vRng1, asI_int, asII_int, asL_lst, asL_scr, vIxL_lst, vIxL_scr, vIxT_tup, vNoPart, vPart, vLen_lst, vLen_scr, vLen_tup, slotL, vAppend, vIs, tyn_int, tyn_bl, tyn_lst, tyn_tup, tyn_str, tyn_non, isB_ii, isB_ib, isB_ll, isB_tt, isB_ss, isB_bb, isB_bi, isB_il, isB_nl, vIsN_non, D.isNon, vScal, D.scal, flat_int, flat_bl, flat_tup2, flat_tup3, flat_tup4, asIB_int, asIB_bl, vYes, vCat_lst, vRep_lst, vList_lst, vList_scr, vSum_ints, asNs_ints, vSl, vSlR, vCatR_lst, vRepR_lst, vListR_lst, vAll_bools, vAny_bools, vMinL_ints, vMaxL_ints, vListRng, vPin, slotP, vVarP, vCallI, asDic_dic, vSort_ints, vLenD_dic, vTupOf_lst, vTupR_lst, asTI_in, asDit_dit, isRef_lst, isRef_dic, ofV_int, ofV_bl, ofV_non, D.toV, Option.some.injEq, forall_eq', vEqS_bl, vEqS_str, vgLst, vRaise, noX, atI_c0, atI_c1, atI_c2, atI_c3, asO_some, kill, List.foldl_nil, List.foldl_cons, List.set_cons_zero, List.set_cons_succ, List.getElem?_cons_zero, List.getElem?_cons_succ, List.getElem?_nil, endsD, vEqS_int, Bool.false_eq_true, Bool.not_false, Bool.not_true, if_true, if_false, ite_true, ite_false, true_and, and_true, List.length_cons, List.length_nil, decide_eq_true_eq, Bool.not_eq_true', decide_eq_false_iff_not, List.length_map, Bool.true_eq_false, eq_self, not_true_eq_false, not_false_eq_true, Int.reduceToNat, Int.reduceEq, Int.reduceLT, Int.reduceLE, Int.reducePow, Int.reduceAdd, Int.reduceMul, Int.reduceSub, Int.reduceNeg, Int.toNat_natCast, vBody, cbaseD, List.reduceReplicate, List.replicate_succ, List.replicate_zero, List.map_cons, List.map_nil, Option.getD_some, List.cons_append, List.nil_append, Nat.reduceAdd])
local macro_rules | `(tactic| walk_at "v") => `(tactic| try (walk_at "v1"))
local macro_rules | `(tactic| walk_at "vb") => `(tactic| try (walk_at "vb1"))
local macro_rules | `(tactic| walk_at "cd") => `(tactic| first | exact ⟨by decide, 100, by decide, by decide⟩ | exact ⟨by omega, 100, by omega, by decide⟩ | omega | decide | rfl | exact ⟨by decide, by decide, by decide⟩ | exact ⟨64, 64, by omega, by omega, by decide⟩ | exact ⟨200, 200, by omega, by omega, by decide⟩ | exact scal_ints)
local macro_rules | `(tactic| walk_at "go") => `(tactic| repeat (first | (walk_at "v1") | ((with_reducible refine And.intro ?k1 ?_); (case k1 => walk_at "cd"))))
local macro_rules | `(tactic| walk_at "gb") => `(tactic| repeat (first | (walk_at "vb1") | ((with_reducible refine And.intro ?k1 ?_); (case k1 => walk_at "cd"))))
def top (i : Nat) : Stmt := PySem.Challenge.pw_evenmix_k64_mix_and_lead_papers.main.body.getD i (.Pass ⟨0, 0, 0, 0⟩)
def mtop (i j : Nat) : Stmt := (match top i with | .ClassDef _ _ _ b _ _ _ _ _ _ _ => b | _ => []).getD j (.Pass ⟨0, 0, 0, 0⟩)
abbrev s_copied_table : Stmt := top 5
abbrev N_copied_table : List Str := ["table"]
abbrev P_copied_table : List Str := ["table"]
theorem sc_copied_table : FnScope N_copied_table P_copied_table (defScope s_copied_table) := ⟨rfl, rfl, rfl, by decide +kernel, rfl, by decide +kernel, by decide +kernel⟩
abbrev s_sums_of_rows : Stmt := top 6
abbrev N_sums_of_rows : List Str := ["table"]
abbrev P_sums_of_rows : List Str := ["table"]
theorem sc_sums_of_rows : FnScope N_sums_of_rows P_sums_of_rows (defScope s_sums_of_rows) := ⟨rfl, rfl, rfl, by decide +kernel, rfl, by decide +kernel, by decide +kernel⟩
abbrev s_sums_of_columns : Stmt := top 7
abbrev N_sums_of_columns : List Str := ["table"]
abbrev P_sums_of_columns : List Str := ["table"]
theorem sc_sums_of_columns : FnScope N_sums_of_columns P_sums_of_columns (defScope s_sums_of_columns) := ⟨rfl, rfl, rfl, by decide +kernel, rfl, by decide +kernel, by decide +kernel⟩
abbrev s_turned_table : Stmt := top 8
abbrev N_turned_table : List Str := ["table"]
abbrev P_turned_table : List Str := ["table"]
theorem sc_turned_table : FnScope N_turned_table P_turned_table (defScope s_turned_table) := ⟨rfl, rfl, rfl, by decide +kernel, rfl, by decide +kernel, by decide +kernel⟩
abbrev s_column_of : Stmt := top 9
abbrev N_column_of : List Str := ["table", "place"]
abbrev P_column_of : List Str := ["table", "place"]
theorem sc_column_of : FnScope N_column_of P_column_of (defScope s_column_of) := ⟨rfl, rfl, rfl, by decide +kernel, rfl, by decide +kernel, by decide +kernel⟩
abbrev s_times_row : Stmt := top 10
abbrev N_times_row : List Str := ["table", "row"]
abbrev P_times_row : List Str := ["table", "row"]
theorem sc_times_row : FnScope N_times_row P_times_row (defScope s_times_row) := ⟨rfl, rfl, rfl, by decide +kernel, rfl, by decide +kernel, by decide +kernel⟩
abbrev s_product_of : Stmt := top 11
abbrev N_product_of : List Str := ["one", "other"]
abbrev P_product_of : List Str := ["one", "other"]
theorem sc_product_of : FnScope N_product_of P_product_of (defScope s_product_of) := ⟨rfl, rfl, rfl, by decide +kernel, rfl, by decide +kernel, by decide +kernel⟩
abbrev s_is_even : Stmt := top 13
abbrev N_is_even : List Str := ["table", "sums"]
abbrev P_is_even : List Str := ["table"]
theorem sc_is_even : FnScope N_is_even P_is_even (defScope s_is_even) := ⟨rfl, rfl, rfl, by decide +kernel, rfl, by decide +kernel, by decide +kernel⟩
abbrev s_is_mixture : Stmt := top 14
abbrev N_is_mixture : List Str := ["pairs", "many"]
abbrev P_is_mixture : List Str := ["pairs"]
theorem sc_is_mixture : FnScope N_is_mixture P_is_mixture (defScope s_is_mixture) := ⟨rfl, rfl, rfl, by decide +kernel, rfl, by decide +kernel, by decide +kernel⟩
abbrev s_is_pair : Stmt := top 15
abbrev N_is_pair : List Str := ["pair", "many"]
abbrev P_is_pair : List Str := ["pair", "many"]
theorem sc_is_pair : FnScope N_is_pair P_is_pair (defScope s_is_pair) := ⟨rfl, rfl, rfl, by decide +kernel, rfl, by decide +kernel, by decide +kernel⟩
abbrev s_told_by : Stmt := top 16
abbrev N_told_by : List Str := ["pairs", "many", "table", "pair"]
abbrev P_told_by : List Str := ["pairs"]
theorem sc_told_by : FnScope N_told_by P_told_by (defScope s_told_by) := ⟨rfl, rfl, rfl, by decide +kernel, rfl, by decide +kernel, by decide +kernel⟩
abbrev s_add_dealing : Stmt := top 17
abbrev N_add_dealing : List Str := ["table", "parts", "dealing", "row"]
abbrev P_add_dealing : List Str := ["table", "parts", "dealing"]
theorem sc_add_dealing : FnScope N_add_dealing P_add_dealing (defScope s_add_dealing) := ⟨rfl, rfl, rfl, by decide +kernel, rfl, by decide +kernel, by decide +kernel⟩
abbrev s_MixPaper_init : Stmt := mtop 20 0
abbrev N_MixPaper_init : List Str := ["self", "table", "pairs"]
abbrev P_MixPaper_init : List Str := ["self", "table", "pairs"]
theorem sc_MixPaper_init : FnScope N_MixPaper_init P_MixPaper_init (defScope s_MixPaper_init) := ⟨rfl, rfl, rfl, by decide +kernel, rfl, by decide +kernel, by decide +kernel⟩
abbrev s_MixPaper_holds : Stmt := mtop 20 1
abbrev N_MixPaper_holds : List Str := ["self"]
abbrev P_MixPaper_holds : List Str := ["self"]
theorem sc_MixPaper_holds : FnScope N_MixPaper_holds P_MixPaper_holds (defScope s_MixPaper_holds) := ⟨rfl, rfl, rfl, by decide +kernel, rfl, by decide +kernel, by decide +kernel⟩
abbrev s_LeadPaper_init : Stmt := mtop 21 0
abbrev N_LeadPaper_init : List Str := ["self", "one", "other", "table"]
abbrev P_LeadPaper_init : List Str := ["self", "one", "other", "table"]
theorem sc_LeadPaper_init : FnScope N_LeadPaper_init P_LeadPaper_init (defScope s_LeadPaper_init) := ⟨rfl, rfl, rfl, by decide +kernel, rfl, by decide +kernel, by decide +kernel⟩
abbrev s_LeadPaper_holds : Stmt := mtop 21 1
abbrev N_LeadPaper_holds : List Str := ["self", "bottom"]
abbrev P_LeadPaper_holds : List Str := ["self"]
theorem sc_LeadPaper_holds : FnScope N_LeadPaper_holds P_LeadPaper_holds (defScope s_LeadPaper_holds) := ⟨rfl, rfl, rfl, by decide +kernel, rfl, by decide +kernel, by decide +kernel⟩
abbrev s_law_fold : Stmt := top 23
abbrev N_law_fold : List Str := ["_law_script", "_law_number", "_law_cell"]
abbrev P_law_fold : List Str := ["_law_script", "_law_number"]
theorem sc_law_fold : FnScope N_law_fold P_law_fold (defScope s_law_fold) := ⟨rfl, rfl, rfl, by decide +kernel, rfl, by decide +kernel, by decide +kernel⟩
abbrev s_law_next : Stmt := top 24
abbrev N_law_next : List Str := ["_law_number"]
abbrev P_law_next : List Str := ["_law_number"]
theorem sc_law_next : FnScope N_law_next P_law_next (defScope s_law_next) := ⟨rfl, rfl, rfl, by decide +kernel, rfl, by decide +kernel, by decide +kernel⟩
abbrev s_law_judged : Stmt := top 25
abbrev N_law_judged : List Str := ["_law_paper", "_law_due", "_law_turn", "_law_found"]
abbrev P_law_judged : List Str := ["_law_paper", "_law_due"]
theorem sc_law_judged : FnScope N_law_judged P_law_judged (defScope s_law_judged) := ⟨rfl, rfl, rfl, by decide +kernel, rfl, by decide +kernel, by decide +kernel⟩
abbrev s_law_pairs : Stmt := top 26
abbrev N_law_pairs : List Str := ["_law_script", "_law_number", "_law_size", "_law_pairs_here", "_law_k", "_law_dealing", "_law_cell", "_law_one", "_law_other"]
abbrev P_law_pairs : List Str := ["_law_script", "_law_number"]
theorem sc_law_pairs : FnScope N_law_pairs P_law_pairs (defScope s_law_pairs) := ⟨rfl, rfl, rfl, by decide +kernel, rfl, by decide +kernel, by decide +kernel⟩
abbrev s_law_summed : Stmt := top 27
abbrev N_law_summed : List Str := ["_law_pairs_here", "_law_size", "_law_table", "_law_parts", "_law_dealing", "_law_row"]
abbrev P_law_summed : List Str := ["_law_pairs_here", "_law_size"]
theorem sc_law_summed : FnScope N_law_summed P_law_summed (defScope s_law_summed) := ⟨rfl, rfl, rfl, by decide +kernel, rfl, by decide +kernel, by decide +kernel⟩
abbrev s_law_mixture : Stmt := top 28
abbrev N_law_mixture : List Str := ["_law_pairs_here", "_law_size", "_law_parts", "_law_dealing"]
abbrev P_law_mixture : List Str := ["_law_pairs_here"]
theorem sc_law_mixture : FnScope N_law_mixture P_law_mixture (defScope s_law_mixture) := ⟨rfl, rfl, rfl, by decide +kernel, rfl, by decide +kernel, by decide +kernel⟩
abbrev s_law_even : Stmt := top 29
abbrev N_law_even : List Str := ["_law_table", "_law_sums", "_law_k"]
abbrev P_law_even : List Str := ["_law_table"]
theorem sc_law_even : FnScope N_law_even P_law_even (defScope s_law_even) := ⟨rfl, rfl, rfl, by decide +kernel, rfl, by decide +kernel, by decide +kernel⟩
abbrev s_law_led : Stmt := top 30
abbrev N_law_led : List Str := ["_law_one", "_law_other", "_law_table", "_law_row", "_law_number"]
abbrev P_law_led : List Str := ["_law_one", "_law_other", "_law_table"]
theorem sc_law_led : FnScope N_law_led P_law_led (defScope s_law_led) := ⟨rfl, rfl, rfl, by decide +kernel, rfl, by decide +kernel, by decide +kernel⟩
abbrev s_law_spoiled : Stmt := top 31
abbrev N_law_spoiled : List Str := ["_law_table", "_law_pairs_here", "_law_number", "_law_way", "_law_at", "_law_parts", "_law_dealing", "_law_place", "_law_column"]
abbrev P_law_spoiled : List Str := ["_law_table", "_law_pairs_here", "_law_number"]
theorem sc_law_spoiled : FnScope N_law_spoiled P_law_spoiled (defScope s_law_spoiled) := ⟨rfl, rfl, rfl, by decide +kernel, rfl, by decide +kernel, by decide +kernel⟩
abbrev s_law_unlike : Stmt := top 32
abbrev N_law_unlike : List Str := ["_law_one", "_law_other", "_law_way"]
abbrev P_law_unlike : List Str := ["_law_one", "_law_other", "_law_way"]
theorem sc_law_unlike : FnScope N_law_unlike P_law_unlike (defScope s_law_unlike) := ⟨rfl, rfl, rfl, by decide +kernel, rfl, by decide +kernel, by decide +kernel⟩
abbrev s_law_cropped : Stmt := top 33
abbrev N_law_cropped : List Str := ["_law_table", "_law_way"]
abbrev P_law_cropped : List Str := ["_law_table", "_law_way"]
theorem sc_law_cropped : FnScope N_law_cropped P_law_cropped (defScope s_law_cropped) := ⟨rfl, rfl, rfl, by decide +kernel, rfl, by decide +kernel, by decide +kernel⟩
abbrev s_law_summing : Stmt := top 34
abbrev N_law_summing : List Str := ["_law_pairs_here", "_law_size", "_law_number", "_law_at", "_law_parts", "_law_dealing"]
abbrev P_law_summing : List Str := ["_law_pairs_here", "_law_size", "_law_number"]
theorem sc_law_summing : FnScope N_law_summing P_law_summing (defScope s_law_summing) := ⟨rfl, rfl, rfl, by decide +kernel, rfl, by decide +kernel, by decide +kernel⟩
abbrev s_law_pushed : Stmt := top 35
abbrev N_law_pushed : List Str := ["_law_table", "_law_number", "_law_size", "_law_i", "_law_j", "_law_k", "_law_l", "_law_push"]
abbrev P_law_pushed : List Str := ["_law_table", "_law_number"]
theorem sc_law_pushed : FnScope N_law_pushed P_law_pushed (defScope s_law_pushed) := ⟨rfl, rfl, rfl, by decide +kernel, rfl, by decide +kernel, by decide +kernel⟩
abbrev s_law_bent : Stmt := top 36
abbrev N_law_bent : List Str := ["_law_table", "_law_pairs_here", "_law_one", "_law_other", "_law_number", "_law_size", "_law_at"]
abbrev P_law_bent : List Str := ["_law_table", "_law_pairs_here", "_law_one", "_law_other", "_law_number"]
theorem sc_law_bent : FnScope N_law_bent P_law_bent (defScope s_law_bent) := ⟨rfl, rfl, rfl, by decide +kernel, rfl, by decide +kernel, by decide +kernel⟩
abbrev s_law : Stmt := top 37
abbrev N_law : List Str := ["_law_script", "_law_number", "_law_pairs_here", "_law_size", "_law_kept", "_law_table", "_law_row", "_law_k", "_law_one", "_law_other", "_law_due"]
abbrev P_law : List Str := ["_law_script"]
theorem sc_law : FnScope N_law P_law (defScope s_law) := ⟨rfl, rfl, rfl, by decide +kernel, rfl, by decide +kernel, by decide +kernel⟩
structure Txt (K : PySem.W.Frag) (mg : Str → Option Value) : Prop where
  len_ : mg "len" = none
  isinstance_ : mg "isinstance" = none
  int_ : mg "int" = none
  bool_ : mg "bool" = none
  list_ : mg "list" = none
  range_ : mg "range" = none
  sum_ : mg "sum" = none
  sorted_ : mg "sorted" = none
  min_ : mg "min" = none
  any_ : mg "any" = none
  all_ : mg "all" = none
  zip_ : mg "zip" = none
  set_ : mg "set" = none
  ValueError_ : mg "ValueError" = none
  MOST_ : ∃ t, mg "MOST" = some (Value.int 8 t)
structure Cs where
  (MixError NoMix Paper MixPaper LeadPaper : Addr)
structure Fns (K : PySem.W.Frag) (mg : Str → Option Value) (c : Cs) : Prop where
  h_copied_table : ∃ f fd, FnAt K mg "copied_table" s_copied_table P_copied_table f fd
  h_sums_of_rows : ∃ f fd, FnAt K mg "sums_of_rows" s_sums_of_rows P_sums_of_rows f fd
  h_sums_of_columns : ∃ f fd, FnAt K mg "sums_of_columns" s_sums_of_columns P_sums_of_columns f fd
  h_turned_table : ∃ f fd, FnAt K mg "turned_table" s_turned_table P_turned_table f fd
  h_column_of : ∃ f fd, FnAt K mg "column_of" s_column_of P_column_of f fd
  h_times_row : ∃ f fd, FnAt K mg "times_row" s_times_row P_times_row f fd
  h_product_of : ∃ f fd, FnAt K mg "product_of" s_product_of P_product_of f fd
  h_is_even : ∃ f fd, FnAt K mg "is_even" s_is_even P_is_even f fd
  h_is_mixture : ∃ f fd, FnAt K mg "is_mixture" s_is_mixture P_is_mixture f fd
  h_is_pair : ∃ f fd, FnAt K mg "is_pair" s_is_pair P_is_pair f fd
  h_told_by : ∃ f fd, FnAt K mg "told_by" s_told_by P_told_by f fd
  h_add_dealing : ∃ f fd, FnAt K mg "add_dealing" s_add_dealing P_add_dealing f fd
  h_MixPaper_init : ∃ f fd, MkAt K mg "MixPaper" c.MixPaper "MixPaper.__init__" s_MixPaper_init P_MixPaper_init f fd
  h_MixPaper_holds : ∃ f fd, MtAt K c.MixPaper "holds" "MixPaper.holds" s_MixPaper_holds P_MixPaper_holds f fd
  h_LeadPaper_init : ∃ f fd, MkAt K mg "LeadPaper" c.LeadPaper "LeadPaper.__init__" s_LeadPaper_init P_LeadPaper_init f fd
  h_LeadPaper_holds : ∃ f fd, MtAt K c.LeadPaper "holds" "LeadPaper.holds" s_LeadPaper_holds P_LeadPaper_holds f fd
  h_law_fold : ∃ f fd, FnAt K mg "_law_fold" s_law_fold P_law_fold f fd
  h_law_next : ∃ f fd, FnAt K mg "_law_next" s_law_next P_law_next f fd
  h_law_judged : ∃ f fd, FnAt K mg "_law_judged" s_law_judged P_law_judged f fd
  h_law_pairs : ∃ f fd, FnAt K mg "_law_pairs" s_law_pairs P_law_pairs f fd
  h_law_summed : ∃ f fd, FnAt K mg "_law_summed" s_law_summed P_law_summed f fd
  h_law_mixture : ∃ f fd, FnAt K mg "_law_mixture" s_law_mixture P_law_mixture f fd
  h_law_even : ∃ f fd, FnAt K mg "_law_even" s_law_even P_law_even f fd
  h_law_led : ∃ f fd, FnAt K mg "_law_led" s_law_led P_law_led f fd
  h_law_spoiled : ∃ f fd, FnAt K mg "_law_spoiled" s_law_spoiled P_law_spoiled f fd
  h_law_unlike : ∃ f fd, FnAt K mg "_law_unlike" s_law_unlike P_law_unlike f fd
  h_law_cropped : ∃ f fd, FnAt K mg "_law_cropped" s_law_cropped P_law_cropped f fd
  h_law_summing : ∃ f fd, FnAt K mg "_law_summing" s_law_summing P_law_summing f fd
  h_law_pushed : ∃ f fd, FnAt K mg "_law_pushed" s_law_pushed P_law_pushed f fd
  h_law_bent : ∃ f fd, FnAt K mg "_law_bent" s_law_bent P_law_bent f fd
  h_law : ∃ f fd, FnAt K mg "law" s_law P_law f fd
structure Exs (K : PySem.W.Frag) (mg : Str → Option Value) (base : Heap) (c : Cs) : Prop where
  m_MixError : mg "MixError" = some (.ref c.MixError)
  m_NoMix : mg "NoMix" = some (.ref c.NoMix)
  m_Paper : mg "Paper" = some (.ref c.Paper)
  m_MixPaper : mg "MixPaper" = some (.ref c.MixPaper)
  m_LeadPaper : mg "LeadPaper" = some (.ref c.LeadPaper)
  i_MixPaper : ICls K c.MixPaper
  kp_MixPaper : PySem.W.kitOne K (.ref c.MixPaper) (.ref c.Paper) = some true
  n_MixPaper_table : NoAttr K c.MixPaper "table"
  n_MixPaper_pairs : NoAttr K c.MixPaper "pairs"
  i_LeadPaper : ICls K c.LeadPaper
  kp_LeadPaper : PySem.W.kitOne K (.ref c.LeadPaper) (.ref c.Paper) = some true
  n_LeadPaper_one : NoAttr K c.LeadPaper "one"
  n_LeadPaper_other : NoAttr K c.LeadPaper "other"
  n_LeadPaper_table : NoAttr K c.LeadPaper "table"
  o_MixError : ExcObj base c.MixError []
  o_NoMix : ExcObj base c.NoMix [c.MixError]
  k_NoMix : PySem.W.ExcK K c.NoMix
theorem isP {K : PySem.W.Frag} {mg : Str → Option Value} {base : Heap} {c : Cs} (xs : Exs K mg base c) : ∀ C ∈ [c.MixPaper, c.LeadPaper], ICls K C ∧ PySem.W.kitOne K (.ref C) (.ref c.Paper) = some true := fun C hC => by
  simp only [List.mem_cons, List.not_mem_nil, or_false] at hC
  rcases hC with z | z
  · rw [z]; exact ⟨xs.i_MixPaper, xs.kp_MixPaper⟩
  · rw [z]; exact ⟨xs.i_LeadPaper, xs.kp_LeadPaper⟩
section
variable {P : Program} {w : World} {K : PySem.W.Frag} {mg : Str → Option Value} {base : Heap}
def S_copied_table : DSp := fun ds P => ∃ t, ds = [dT t] ∧ t.length ≤ 1000 ∧ P (dT t)
theorem mono_copied_table : DMono S_copied_table := by
  intro xs P P' k h
  unfold S_copied_table at h ⊢
  grind
theorem len_copied_table : ∀ ds P, S_copied_table ds P → ds.length = 1 := by
  intro ds P h
  obtain ⟨_, e, _⟩ := h
  rw [e]; rfl
theorem ok_copied_table {c : Cs} {f : Addr} {fd : FuncData} (F : FnAt K mg "copied_table" s_copied_table P_copied_table f fd) (A_ : Fns K mg c) (T : Txt K mg) (xs : Exs K mg base c) : FnOk P w K mg base CX0 1 f fd P_copied_table (spP K S_copied_table) := by
  refine F.fn.ok sc_copied_table (fun vs H Q E h => spP_len len_copied_table h) (fun cdv A outer s H vs Q E hr h => ?_)
  refine ⟨_, (pss_one (ps_ret (pe_comp0 (CompScope.of (sc0 := (defScope s_copied_table)) (tn := ["row"]) (cap := []) (idx := []) (by decide +kernel) rfl rfl) (pi_listK (K := K) rfl (pv 0)) (GSet.name (by decide)) (fun _ _ _ _ _ => pg_name (i := 0) (nodupB_iff (l := ["row"]) (by decide +kernel)) rfl (by first | exact Or.inl rfl | exact Or.inr rfl) (by first | exact .inl rfl | exact .inr rfl)) (fun _ _ _ _ _ => (pe_callTy (call_listK (K := K) rfl) (by rfl) T.list_ boot_list (pa_cons (pv 0) pa_nil)))))), fn_val (Γn := []) (N := N_copied_table) (st_ret (M := []) (em_comp0 (it_list (es_var 0)) (gt_name 0) (em_cb c_list (ar_cons (ES.er (es_var 0)) ar_nil)))) (fun ds P hS => ?_) h⟩
  obtain ⟨t, rfl, hl, hP⟩ := hS
  rw [show startD N_copied_table [dT t] = [some (dT t)] from rfl]
  walk_at "v"
  refine comp_copy (t := t) (fun R h => h) hl (fun r hr R h => by walk_at "gb"; exact h) ?_
  exact hP
def S_sums_of_rows : DSp := fun ds P => ∃ t, ds = [dT t] ∧ t.length ≤ 1000 ∧ P (dI (t.map List.sum))
theorem mono_sums_of_rows : DMono S_sums_of_rows := by
  intro xs P P' k h
  unfold S_sums_of_rows at h ⊢
  grind
theorem len_sums_of_rows : ∀ ds P, S_sums_of_rows ds P → ds.length = 1 := by
  intro ds P h
  obtain ⟨_, e, _⟩ := h
  rw [e]; rfl
theorem ok_sums_of_rows {c : Cs} {f : Addr} {fd : FuncData} (F : FnAt K mg "sums_of_rows" s_sums_of_rows P_sums_of_rows f fd) (A_ : Fns K mg c) (T : Txt K mg) (xs : Exs K mg base c) : FnOk P w K mg base CX0 1 f fd P_sums_of_rows (spP K S_sums_of_rows) := by
  refine F.fn.ok sc_sums_of_rows (fun vs H Q E h => spP_len len_sums_of_rows h) (fun cdv A outer s H vs Q E hr h => ?_)
  refine ⟨_, (pss_one (ps_ret (pe_comp0 (CompScope.of (sc0 := (defScope s_sums_of_rows)) (tn := ["row"]) (cap := []) (idx := []) (by decide +kernel) rfl rfl) (pi_listK (K := K) rfl (pv 0)) (GSet.name (by decide)) (fun _ _ _ _ _ => pg_name (i := 0) (nodupB_iff (l := ["row"]) (by decide +kernel)) rfl (by first | exact Or.inl rfl | exact Or.inr rfl) (by first | exact .inl rfl | exact .inr rfl)) (fun _ _ _ _ _ => (pe_callB (call_sumK (K := K) rfl rfl) (by rfl) T.sum_ boot_sum (pa_cons (pv 0) pa_nil)))))), fn_val (Γn := []) (N := N_sums_of_rows) (st_ret (M := []) (em_comp0 (it_list (es_var 0)) (gt_name 0) (em_cb c_sum (ar_cons (ES.er (es_var 0)) ar_nil)))) (fun ds P hS => ?_) h⟩
  obtain ⟨t, rfl, hl, hP⟩ := hS
  rw [show startD N_sums_of_rows [dT t] = [some (dT t)] from rfl]
  walk_at "v"
  refine comp_rows (t := t) (g := fun r => .int r.sum) (fun R h => h) hl (fun r hr R h => ?_) ?_
  · walk_at "gb"
    exact h
  · rw [map_int]; exact hP
def S_column_of : DSp := fun ds P => ∃ (t : List (List Int)) (j : Nat), ds = [dT t, .int j] ∧ t.length ≤ 1000 ∧ (∀ r ∈ t, j < r.length) ∧ P (dI (colOf t j))
theorem mono_column_of : DMono S_column_of := by
  intro xs P P' k h
  unfold S_column_of at h ⊢
  grind
theorem len_column_of : ∀ ds P, S_column_of ds P → ds.length = 2 := by
  intro ds P h
  obtain ⟨_, _, e, _⟩ := h
  rw [e]; rfl
theorem ok_column_of {c : Cs} {f : Addr} {fd : FuncData} (F : FnAt K mg "column_of" s_column_of P_column_of f fd) (A_ : Fns K mg c) (T : Txt K mg) (xs : Exs K mg base c) : FnOk P w K mg base CX0 1 f fd P_column_of (spP K S_column_of) := by
  refine F.fn.ok sc_column_of (fun vs H Q E h => spP_len len_column_of h) (fun cdv A outer s H vs Q E hr h => ?_)
  refine ⟨_, (pss_one (ps_ret (pe_comp0 (CompScope.of (sc0 := (defScope s_column_of)) (tn := ["row"]) (cap := ["place"]) (idx := [1]) (by decide +kernel) rfl rfl) (pi_listK (K := K) rfl (pv 0)) (GSet.name (by decide)) (fun _ _ _ _ _ => pg_name (i := 0) (nodupB_iff (l := ["row", "place"]) (by decide +kernel)) rfl (by first | exact Or.inl rfl | exact Or.inr rfl) (by first | exact .inl rfl | exact .inr rfl)) (fun _ _ _ _ _ => (pe_ix (ix_listK (K := K) rfl) (pv 0) (pv 1) (fun _ _ => rfl)))))), fn_val (Γn := []) (N := N_column_of) (st_ret (M := []) (em_comp0 (it_list (es_var 0)) (gt_name 0) (ER.scal (ES.er (es_ixL (es_var 0) (ES.er (es_var 1))))))) (fun ds P hS => ?_) h⟩
  obtain ⟨t, j, rfl, hl, hj, hP⟩ := hS
  rw [show startD N_column_of [dT t, .int j] = [some (dT t), some (.int j)] from rfl]
  walk_at "v"
  refine comp_rows (t := t) (g := fun r => .int (r.getD j 0)) (fun R h => h) hl (fun r hr R h => ?_) ?_
  · walk_at "gb"
    have := hj r hr
    refine asO_ints (by omega) ?_
    rw [Int.toNat_natCast]
    exact ⟨rfl, h⟩
  · rw [map_int]; exact hP
def turned (m : Nat) (t : List (List Int)) : List (List Int) := (List.range m).map fun (j : Nat) => colOf t j
def S_turned_table : DSp := fun ds P => ∃ (t : List (List Int)) (n m : Nat), ds = [dT t] ∧ Rect n m t ∧ 1 ≤ n ∧ n ≤ 1000 ∧ m ≤ 1000 ∧ P (dT (turned m t))
theorem mono_turned_table : DMono S_turned_table := by
  intro xs P P' k h
  unfold S_turned_table at h ⊢
  grind
theorem len_turned_table : ∀ ds P, S_turned_table ds P → ds.length = 1 := by
  intro ds P h
  obtain ⟨_, _, _, e, _⟩ := h
  rw [e]; rfl
theorem ok_turned_table {c : Cs} {f : Addr} {fd : FuncData} (F : FnAt K mg "turned_table" s_turned_table P_turned_table f fd) (A_ : Fns K mg c) (T : Txt K mg) (xs : Exs K mg base c) : FnOk P w K mg base CX0 2 f fd P_turned_table (spP K S_turned_table) := by
  obtain ⟨f0, d0, E_column_of⟩ := A_.h_column_of
  have G_column_of : FnOk P w K mg base CX0 1 f0 d0 P_column_of (spP K S_column_of) := ok_column_of E_column_of A_ T xs
  refine F.fn.ok sc_turned_table (fun vs H Q E h => spP_len len_turned_table h) (fun cdv A outer s H vs Q E hr h => ?_)
  refine ⟨_, (pss_one (ps_ret (pe_comp0 (CompScope.of (sc0 := (defScope s_turned_table)) (tn := ["place"]) (cap := ["table"]) (idx := [0]) (by decide +kernel) rfl rfl) (pi_range1 rfl T.range_ (pa_cons (pe_callB (call_lenK (K := K) rfl) (by rfl) T.len_ PySem.boot_len (pa_cons (pe_ix (ix_listK (K := K) rfl) (pv 0) pe_int (fun _ _ => rfl)) pa_nil)) pa_nil)) (GSet.name (by decide)) (fun _ _ _ _ _ => pg_name (i := 0) (nodupB_iff (l := ["place", "table"]) (by decide +kernel)) rfl (by first | exact Or.inl rfl | exact Or.inr rfl) (by first | exact .inl rfl | exact .inr rfl)) (fun _ _ _ _ _ => (pe_call G_column_of (hr.mono (by decide)) rfl E_column_of.mg E_column_of.fn.kp E_column_of.bd .nil pass0 (pa_cons (pv 1) (pa_cons (pv 0) pa_nil))))))), fn_val (Γn := []) (N := N_turned_table) (st_ret (M := []) (em_comp0 (it_rng1 (ar_cons (EM.er (em_cb c_len (ar_cons (ES.er (es_ixL (es_var 0) (EM.er em_int))) ar_nil))) ar_nil)) (gt_name 0) (em_call (S := S_column_of) mono_column_of (ar_cons (ES.er (es_var 1)) (ar_cons (ES.er (es_var 0)) ar_nil))))) (fun ds P hS => ?_) h⟩
  obtain ⟨t, n, m, rfl, hR, hn, hn2, hm, hP⟩ := hS
  rw [show startD N_turned_table [dT t] = [some (dT t)] from rfl]
  have ht := hR.1
  have h0 := hR.row (i := 0) (by omega)
  walk_at "v"
  refine comp_rng (lo := 0) (n := m) (g := fun (j : Nat) => dI (colOf t j)) (fun R h => ?_) hm (fun j hj R h => ?_) ?_
  · walk_at "v"
    refine asO_rows (by omega) ?_
    walk_at "v"
    rw [h0]
    exact ⟨by omega, h⟩
  · walk_at "gb"
    rw [Int.zero_add]
    exact ⟨t, j, rfl, by omega, fun r hr => by rw [hR.2 r hr]; exact hj, h⟩
  · rw [map_dI]; exact hP
def S_sums_of_columns : DSp := fun ds P => ∃ (t : List (List Int)) (n m : Nat), ds = [dT t] ∧ Rect n m t ∧ 1 ≤ n ∧ n ≤ 1000 ∧ m ≤ 1000 ∧ P (dI ((turned m t).map List.sum))
theorem mono_sums_of_columns : DMono S_sums_of_columns := by
  intro xs P P' k h
  unfold S_sums_of_columns at h ⊢
  grind
theorem len_sums_of_columns : ∀ ds P, S_sums_of_columns ds P → ds.length = 1 := by
  intro ds P h
  obtain ⟨_, _, _, e, _⟩ := h
  rw [e]; rfl
theorem ok_sums_of_columns {c : Cs} {f : Addr} {fd : FuncData} (F : FnAt K mg "sums_of_columns" s_sums_of_columns P_sums_of_columns f fd) (A_ : Fns K mg c) (T : Txt K mg) (xs : Exs K mg base c) : FnOk P w K mg base CX0 3 f fd P_sums_of_columns (spP K S_sums_of_columns) := by
  obtain ⟨f0, d0, E_sums_of_rows⟩ := A_.h_sums_of_rows
  have G_sums_of_rows : FnOk P w K mg base CX0 1 f0 d0 P_sums_of_rows (spP K S_sums_of_rows) := ok_sums_of_rows E_sums_of_rows A_ T xs
  obtain ⟨f1, d1, E_turned_table⟩ := A_.h_turned_table
  have G_turned_table : FnOk P w K mg base CX0 2 f1 d1 P_turned_table (spP K S_turned_table) := ok_turned_table E_turned_table A_ T xs
  refine F.fn.ok sc_sums_of_columns (fun vs H Q E h => spP_len len_sums_of_columns h) (fun cdv A outer s H vs Q E hr h => ?_)
  refine ⟨_, (pss_one (ps_ret (pe_call G_sums_of_rows (hr.mono (by decide)) rfl E_sums_of_rows.mg E_sums_of_rows.fn.kp E_sums_of_rows.bd .nil pass0 (pa_cons (pe_call G_turned_table (hr.mono (by decide)) rfl E_turned_table.mg E_turned_table.fn.kp E_turned_table.bd .nil pass0 (pa_cons (pv 0) pa_nil)) pa_nil)))), fn_val (Γn := []) (N := N_sums_of_columns) (st_ret (M := []) (em_call (S := S_sums_of_rows) mono_sums_of_rows (ar_cons (EM.er (em_call (S := S_turned_table) mono_turned_table (ar_cons (ES.er (es_var 0)) ar_nil))) ar_nil))) (fun ds P hS => ?_) h⟩
  obtain ⟨t, n, m, rfl, hR, hn, hn2, hm, hP⟩ := hS
  rw [show startD N_sums_of_columns [dT t] = [some (dT t)] from rfl]
  walk_at "v"
  refine ⟨t, n, m, rfl, hR, hn, hn2, hm, ?_⟩
  exact ⟨turned m t, rfl, by unfold turned; rw [List.length_map, List.length_range]; exact hm, hP⟩
def EvenT (n m : Nat) (t : List (List Int)) : Prop := n = m ∧ (∀ r ∈ t, ∀ x ∈ r, 0 ≤ x) ∧ 1 ≤ (rowAt t 0).sum ∧ (∀ r ∈ t, r.sum = (rowAt t 0).sum) ∧ ∀ j, j < m → (colOf t j).sum = (rowAt t 0).sum
theorem min_neg {r : List Int} {M : Int} (h1 : M ∈ r) (h2 : ∀ x ∈ r, M ≤ x) : decide (M < 0) = r.any fun x => decide (x < 0) := by
  rw [Bool.eq_iff_iff, decide_eq_true_eq, List.any_eq_true]
  constructor
  · exact fun h => ⟨M, h1, decide_eq_true h⟩
  · rintro ⟨x, hx, h⟩
    have := h2 x hx
    have := of_decide_eq_true h
    omega
def S_is_even : DSp := fun ds P => ∃ (t : List (List Int)) (n m : Nat), ds = [dT t] ∧ Rect n m t ∧ 1 ≤ n ∧ n ≤ 9 ∧ 1 ≤ m ∧ m ≤ 9 ∧ ∀ b : Bool, (b = true ↔ EvenT n m t) → P (.bl b)
theorem mono_is_even : DMono S_is_even := by
  intro xs P P' k h
  unfold S_is_even at h ⊢
  grind
theorem len_is_even : ∀ ds P, S_is_even ds P → ds.length = 1 := by
  intro ds P h
  obtain ⟨_, _, _, e, _⟩ := h
  rw [e]; rfl
theorem ok_is_even {c : Cs} {f : Addr} {fd : FuncData} (F : FnAt K mg "is_even" s_is_even P_is_even f fd) (A_ : Fns K mg c) (T : Txt K mg) (xs : Exs K mg base c) : FnOk P w K mg base CX0 4 f fd P_is_even (spP K S_is_even) := by
  obtain ⟨f0, d0, E_sums_of_rows⟩ := A_.h_sums_of_rows
  have G_sums_of_rows : FnOk P w K mg base CX0 1 f0 d0 P_sums_of_rows (spP K S_sums_of_rows) := ok_sums_of_rows E_sums_of_rows A_ T xs
  obtain ⟨f1, d1, E_sums_of_columns⟩ := A_.h_sums_of_columns
  have G_sums_of_columns : FnOk P w K mg base CX0 3 f1 d1 P_sums_of_columns (spP K S_sums_of_columns) := ok_sums_of_columns E_sums_of_columns A_ T xs
  refine F.fn.ok sc_is_even (fun vs H Q E h => spP_len len_is_even h) (fun cdv A outer s H vs Q E hr h => ?_)
  refine ⟨_, (pss_cons (ps_if (pt_cmpR op_ne (pe_callB (call_lenK (K := K) rfl) (by rfl) T.len_ PySem.boot_len (pa_cons (pe_ix (ix_listK (K := K) rfl) (pv 0) pe_int (fun _ _ => rfl)) pa_nil)) (pe_callB (call_lenK (K := K) rfl) (by rfl) T.len_ PySem.boot_len (pa_cons (pv 0) pa_nil)) (nomark _)) (pss_one (ps_ret pe_bl)) pss_nil)
      (pss_cons (ps_if (pt_val (pe_callB (call_anyL (K := K) rfl rfl) (by rfl) T.any_ boot_any (pa_cons (pe_comp0 (CompScope.of (sc0 := (defScope s_is_even)) (tn := ["row"]) (cap := []) (idx := []) (by decide +kernel) rfl rfl) (pi_listK (K := K) rfl (pv 0)) (GSet.name (by decide)) (fun _ _ _ _ _ => pg_name (i := 0) (nodupB_iff (l := ["row"]) (by decide +kernel)) rfl (by first | exact Or.inl rfl | exact Or.inr rfl) (by first | exact .inl rfl | exact .inr rfl)) (fun _ _ _ _ _ => (pe_cmpR op_lt (pe_callB (call_minL (K := K) rfl rfl) (by rfl) T.min_ boot_min (pa_cons (pv 0) pa_nil)) pe_int (nomark _)))) pa_nil))) (pss_one (ps_ret pe_bl)) pss_nil)
      (pss_cons (ps_set (i := 1) sc_is_even.nd rfl (by first | exact Or.inl rfl | exact Or.inr rfl) (pe_op op_cat (pe_call G_sums_of_rows (hr.mono (by decide)) rfl E_sums_of_rows.mg E_sums_of_rows.fn.kp E_sums_of_rows.bd .nil pass0 (pa_cons (pv 0) pa_nil)) (pe_call G_sums_of_columns (hr.mono (by decide)) rfl E_sums_of_columns.mg E_sums_of_columns.fn.kp E_sums_of_columns.bd .nil pass0 (pa_cons (pv 0) pa_nil))))
      (pss_one (ps_ret (pe_and (pe_cmpR op_ge (pe_ix (ix_listK (K := K) rfl) (pv 1) pe_int (fun _ _ => rfl)) pe_int (nomark _)) (pe_one (pe_callB (call_allL (K := K) rfl rfl) (by rfl) T.all_ boot_all (pa_cons (pe_comp0 (CompScope.of (sc0 := (defScope s_is_even)) (tn := ["number"]) (cap := ["sums"]) (idx := [1]) (by decide +kernel) rfl rfl) (pi_listK (K := K) rfl (pv 1)) (GSet.name (by decide)) (fun _ _ _ _ _ => pg_name (i := 0) (nodupB_iff (l := ["number", "sums"]) (by decide +kernel)) rfl (by first | exact Or.inl rfl | exact Or.inr rfl) (by first | exact .inl rfl | exact .inr rfl)) (fun _ _ _ _ _ => (pe_cmpR op_eq (pv 0) (pe_ix (ix_listK (K := K) rfl) (pv 1) pe_int (fun _ _ => rfl)) (nomark _)))) pa_nil))))))))), fn_val (Γn := []) (N := N_is_even) (st_seq (st_if (tr_test (EM.er (em_op o_ne (EM.er (em_cb c_len (ar_cons (ES.er (es_ixL (es_var 0) (EM.er em_int))) ar_nil))) (EM.er (em_cb c_len (ar_cons (ES.er (es_var 0)) ar_nil)))))) (st_ret (M := []) em_bl) st_next)
      (st_seq (st_if (tr_b (EM.er (em_cb c_anyL (ar_cons (EM.er (em_comp0 (it_list (es_var 0)) (gt_name 0) (em_op o_bl (EM.er (em_cb c_minL (ar_cons (ES.er (es_var 0)) ar_nil))) (EM.er em_int)))) ar_nil)))) (st_ret (M := []) em_bl) st_next)
      (st_seq (ST.post (Γn := []) (st_setS 1 (EM.es (em_op o_cat (EM.er (em_call (S := S_sums_of_rows) mono_sums_of_rows (ar_cons (ES.er (es_var 0)) ar_nil))) (EM.er (em_call (S := S_sums_of_columns) mono_sums_of_columns (ar_cons (ES.er (es_var 0)) ar_nil)))))))
      (st_ret (M := []) (em_andV (EM.er (em_op o_bl (ES.er (es_ixL (es_var 1) (EM.er em_int))) (EM.er em_int))) (em_cb c_allL (ar_cons (EM.er (em_comp0 (it_list (es_var 1)) (gt_name 0) (em_op o_eq (ES.er (es_var 0)) (ES.er (es_ixL (es_var 1) (EM.er em_int)))))) ar_nil))))))) (fun ds P hS => ?_) h⟩
  obtain ⟨t, n, m, rfl, hR, hn1, hn9, hm1, hm9, hP⟩ := hS
  rw [show startD N_is_even [dT t] = [some (dT t), none] from rfl]
  have hl := hR.1
  have h0 := hR.row (i := 0) (by omega)
  walk_at "v"
  refine asO_rows (by omega) ?_
  walk_at "v"
  rw [h0, hl]
  split
  · rename_i c
    exact hP false ⟨fun z => (by cases z), fun z => absurd (by rw [z.1] : (m : Int) = n) c⟩
  rename_i c
  have emn : n = m := by omega
  refine comp_rows (t := t) (g := fun r => .bl (r.any fun x => decide (x < 0))) (fun R h => h) (by omega) (fun r hr R h => ?_) ?_
  · walk_at "gb"
    refine ⟨by rw [hR.2 r hr]; omega, fun M h1 h2 => ?_⟩
    walk_at "gb"
    rw [min_neg h1 h2]
    exact h
  rw [map_bl]
  walk_at "v"
  split
  · rename_i c2
    refine hP false ⟨fun z => (by cases z), fun z => ?_⟩
    rw [List.any_map, List.any_eq_true] at c2
    obtain ⟨r, hr, h⟩ := c2
    obtain ⟨x, hx, h⟩ := List.any_eq_true.mp h
    have := z.2.1 r hr x hx
    have := of_decide_eq_true h
    omega
  rename_i c2
  have nonneg : ∀ r ∈ t, ∀ x ∈ r, 0 ≤ x := fun r hr x hx => by
    by_cases h : 0 ≤ x
    · exact h
    · refine absurd ?_ c2
      rw [List.any_map, List.any_eq_true]
      exact ⟨r, hr, List.any_eq_true.mpr ⟨x, hx, decide_eq_true (by omega)⟩⟩
  refine ⟨t, rfl, by omega, ?_⟩
  refine ⟨t, n, m, rfl, hR, by omega, by omega, by omega, ?_⟩
  have hlt : (turned m t).length = m := by unfold turned; rw [List.length_map, List.length_range]
  walk_at "go"
  refine ⟨⟨scal_ints, scal_ints, by omega⟩, ?_⟩
  rw [cat_dI]
  generalize hs : t.map List.sum ++ (turned m t).map List.sum = sums
  have hs0 : sums.getD 0 0 = (rowAt t 0).sum := by
    rw [← hs, rowAt, List.getD_eq_getElem?_getD, List.getD_eq_getElem?_getD, List.getElem?_append_left (by rw [List.length_map]; omega), List.getElem?_map, List.getElem?_eq_getElem (by omega)]
    rfl
  have hsl : sums.length = n + m := by rw [← hs, List.length_append, List.length_map, List.length_map, hl, hlt]
  refine asO_ints (by omega) ?_
  walk_at "v"
  rw [hs0]
  have all : (∀ x ∈ sums, x = (rowAt t 0).sum) ↔ (∀ r ∈ t, r.sum = (rowAt t 0).sum) ∧ ∀ j, j < m → (colOf t j).sum = (rowAt t 0).sum := by
    rw [← hs]
    constructor
    · intro h
      refine ⟨fun r hr => h _ (List.mem_append_left _ (List.mem_map_of_mem hr)), fun j hj => h _ (List.mem_append_right _ (List.mem_map.mpr ⟨colOf t j, ?_, rfl⟩))⟩
      exact List.mem_map.mpr ⟨j, List.mem_range.mpr hj, rfl⟩
    · rintro ⟨h1, h2⟩ x hx
      rcases List.mem_append.mp hx with z | z
      · obtain ⟨r, hr, rfl⟩ := List.mem_map.mp z; exact h1 r hr
      · obtain ⟨r, hr, rfl⟩ := List.mem_map.mp z
        obtain ⟨j, hj, rfl⟩ := List.mem_map.mp hr
        exact h2 j (List.mem_range.mp hj)
  split
  · rename_i c3
    refine comp_ints (ns := sums) (g := fun x => .bl (decide (x = (rowAt t 0).sum))) (fun R h => h) (by omega) (fun x hx R h => ?_) ?_
    · walk_at "gb"
      refine asO_ints (by omega) ?_
      walk_at "gb"
      rw [hs0]
      exact h
    rw [map_bl]
    walk_at "v"
    refine hP _ ?_
    rw [List.all_map, List.all_eq_true]
    constructor
    · intro h
      exact ⟨emn, nonneg, c3, all.mp fun x hx => of_decide_eq_true (h x hx)⟩
    · intro h x hx
      exact decide_eq_true (all.mpr h.2.2.2 x hx)
  · rename_i c3
    exact hP false ⟨fun z => (by cases z), fun z => absurd z.2.2.1 c3⟩
def S_is_pair : DSp := fun ds P => ∃ (w : Int) (d : List Int) (n : Nat), ds = [.tup [.int w, dI d], .int n] ∧ n ≤ 64 ∧ d.length < 64 ∧ ∀ b : Bool, (b = true ↔ 1 ≤ w ∧ d.Perm (rngI n)) → P (.bl b)
theorem mono_is_pair : DMono S_is_pair := by
  intro xs P P' k h
  unfold S_is_pair at h ⊢
  grind
theorem len_is_pair : ∀ ds P, S_is_pair ds P → ds.length = 2 := by
  intro ds P h
  obtain ⟨_, _, _, e, _⟩ := h
  rw [e]; rfl
theorem ok_is_pair {c : Cs} {f : Addr} {fd : FuncData} (F : FnAt K mg "is_pair" s_is_pair P_is_pair f fd) (A_ : Fns K mg c) (T : Txt K mg) (xs : Exs K mg base c) : FnOk P w K mg base CX0 1 f fd P_is_pair (spP K S_is_pair) := by
  refine F.fn.ok sc_is_pair (fun vs H Q E h => spP_len len_is_pair h) (fun cdv A outer s H vs Q E hr h => ?_)
  refine ⟨_, (pss_one (ps_ret (pe_and (pe_cmpR op_ge (pe_ix (ix_tupK (K := K) rfl) (pv 0) pe_int (fun _ _ => rfl)) pe_int (nomark _)) (pe_and (pe_cmpR op_eq (pe_callB (call_lenK (K := K) rfl) (by rfl) T.len_ PySem.boot_len (pa_cons (pe_ix (ix_tupK (K := K) rfl) (pv 0) pe_int (fun _ _ => rfl)) pa_nil)) (pv 1) (nomark _)) (pe_one (pe_cmpR (op_eqL hr.units) (pe_callB (call_sortedK (K := K) rfl) (by rfl) T.sorted_ boot_sorted (pa_cons (pe_ix (ix_tupK (K := K) rfl) (pv 0) pe_int (fun _ _ => rfl)) pa_nil)) (pe_listRngK rfl rfl T.list_ rfl T.range_ (pv 1)) (nomark _))))))), fn_val (Γn := []) (N := N_is_pair) (st_ret (M := []) (em_andV (EM.er (em_op o_bl (ES.er (es_ixT (es_var 0) (EM.er em_int))) (EM.er em_int))) (em_andV (EM.er (em_op o_eq (EM.er (em_cb c_len (ar_cons (ES.er (es_ixT (es_var 0) (EM.er em_int))) ar_nil))) (ES.er (es_var 1)))) (em_op o_eqL (EM.er (em_cb c_sort (ar_cons (ES.er (es_ixT (es_var 0) (EM.er em_int))) ar_nil))) (EM.er (em_listRng (ES.er (es_var 1)))))))) (fun ds P hS => ?_) h⟩
  obtain ⟨w, d, n, rfl, hn, hl, hP⟩ := hS
  have hlr : (rngI n).length = n := by unfold rngI; rw [List.length_map, List.length_range]
  have no : ¬ (1 ≤ w ∧ d.Perm (rngI n)) → P (.bl false) := fun h => hP false ⟨fun z => (by cases z), fun z => absurd z h⟩
  rw [show startD N_is_pair [.tup [.int w, dI d], .int n] = [some (.tup [.int w, dI d]), some (.int n)] from rfl]
  walk_at "go"
  split
  · rename_i c1
    split
    · rename_i c2
      refine ⟨by omega, fun ms hm ho => ?_⟩
      walk_at "go"
      refine vEqL_ints ?_
      simp only [Bool.false_eq_true, if_false]
      refine hP _ ⟨fun z => ⟨by omega, ?_⟩, fun z => decide_eq_true (sorted_rng (hm.trans z.2) ho)⟩
      have := of_decide_eq_true z
      rw [← show ms = rngI n from this]
      exact hm.symm
    · rename_i c2
      exact no fun z => c2 (by have := z.2.length_eq; omega)
  · rename_i c1
    exact no fun z => c1 (by omega)
def Mix (n : Nat) (ps : List (Int × List Int)) : Prop := 1 ≤ n ∧ n ≤ 8 ∧ 1 ≤ ps.length ∧ ps.length ≤ 200 ∧ ∀ q ∈ ps, 1 ≤ q.1 ∧ q.2.Perm (rngI n)
theorem Mix.len {n : Nat} {ps : List (Int × List Int)} (h : Mix n ps) {q : Int × List Int} (hq : q ∈ ps) : q.2.length = n := by
  have := (h.2.2.2.2 q hq).2.length_eq
  rw [this]; unfold rngI; rw [List.length_map, List.length_range]
theorem asO_P {ps : List (Int × List Int)} {P : DK} (h : 1 ≤ ps.length) (k : ∀ q ∈ ps, P (dPr q)) : asO (atI (ps.map dPr) 0) P := asO_end h (.inl rfl) k
noncomputable def pairB (n : Nat) (q : Int × List Int) : Bool := @decide (1 ≤ q.1 ∧ q.2.Perm (rngI n)) (Classical.propDecidable _)
def S_is_mixture : DSp := fun ds P => ∃ (ps : List (Int × List Int)), ds = [.lst (ps.map dPr)] ∧ ps.length ≤ 200 ∧ (∀ q ∈ ps, q.2.length < 64) ∧ ∀ b : Bool, (b = true ↔ ∃ n, Mix n ps) → P (.bl b)
theorem mono_is_mixture : DMono S_is_mixture := by
  intro xs P P' k h
  unfold S_is_mixture at h ⊢
  grind
theorem len_is_mixture : ∀ ds P, S_is_mixture ds P → ds.length = 1 := by
  intro ds P h
  obtain ⟨_, e, _⟩ := h
  rw [e]; rfl
theorem ok_is_mixture {c : Cs} {f : Addr} {fd : FuncData} (F : FnAt K mg "is_mixture" s_is_mixture P_is_mixture f fd) (A_ : Fns K mg c) (T : Txt K mg) (xs : Exs K mg base c) : FnOk P w K mg base CX0 2 f fd P_is_mixture (spP K S_is_mixture) := by
  obtain ⟨f0, d0, E_is_pair⟩ := A_.h_is_pair
  have G_is_pair : FnOk P w K mg base CX0 1 f0 d0 P_is_pair (spP K S_is_pair) := ok_is_pair E_is_pair A_ T xs
  refine F.fn.ok sc_is_mixture (fun vs H Q E h => spP_len len_is_mixture h) (fun cdv A outer s H vs Q E hr h => ?_)
  refine ⟨_, (pss_cons (ps_if (pt_cmpR (op_eqL hr.units) (pv 0) (pe_lst pa_nil) (nomark _)) (pss_one (ps_ret pe_bl)) pss_nil)
      (pss_cons (ps_set (i := 1) sc_is_mixture.nd rfl (by first | exact Or.inl rfl | exact Or.inr rfl) (pe_callB (call_lenK (K := K) rfl) (by rfl) T.len_ PySem.boot_len (pa_cons (pe_ix (ix_tupK (K := K) rfl) (pe_ix (ix_listK (K := K) rfl) (pv 0) pe_int (fun _ _ => rfl)) pe_int (fun _ _ => rfl)) pa_nil)))
      (pss_one (ps_ret (pe_and (pe_chain op_le op_le pe_int (pv 1) (pe_glob (v := .int 8) rfl T.MOST_.choose_spec ⟨_, rfl⟩)) (pe_one (pe_callB (call_allL (K := K) rfl rfl) (by rfl) T.all_ boot_all (pa_cons (pe_comp0 (CompScope.of (sc0 := (defScope s_is_mixture)) (tn := ["pair"]) (cap := ["many"]) (idx := [1]) (by decide +kernel) rfl rfl) (pi_listK (K := K) rfl (pv 0)) (GSet.name (by decide)) (fun _ _ _ _ _ => pg_name (i := 0) (nodupB_iff (l := ["pair", "many"]) (by decide +kernel)) rfl (by first | exact Or.inl rfl | exact Or.inr rfl) (by first | exact .inl rfl | exact .inr rfl)) (fun _ _ _ _ _ => (pe_call G_is_pair (hr.mono (by decide)) rfl E_is_pair.mg E_is_pair.fn.kp E_is_pair.bd .nil pass0 (pa_cons (pv 0) (pa_cons (pv 1) pa_nil))))) pa_nil)))))))), fn_val (Γn := []) (N := N_is_mixture) (st_seq (st_if (tr_test (EM.er (em_op o_eqL (ES.er (es_var 0)) (EM.er (em_lst am_nil))))) (st_ret (M := []) em_bl) st_next)
      (st_seq (ST.post (Γn := []) (st_setS 1 (EM.es (em_cb c_len (ar_cons (ES.er (es_ixT (es_ixL (es_var 0) (EM.er em_int)) (EM.er em_int))) ar_nil)))))
      (st_ret (M := []) (em_andV (EM.er (em_chain o_bl o_bl (EM.er em_int) (ES.er (es_var 1)) (EM.er em_int))) (em_cb c_allL (ar_cons (EM.er (em_comp0 (it_list (es_var 0)) (gt_name 0) (em_call (S := S_is_pair) mono_is_pair (ar_cons (ES.er (es_var 0)) (ar_cons (ES.er (es_var 1)) ar_nil))))) ar_nil)))))) (fun ds P hS => ?_) h⟩
  obtain ⟨ps, rfl, p2, h64, hP⟩ := hS
  have no : (∀ n, ¬ Mix n ps) → P (.bl false) := fun h => hP false ⟨fun z => (by cases z), fun ⟨n, z⟩ => absurd z (h n)⟩
  rw [show startD N_is_mixture [.lst (ps.map dPr)] = [some (.lst (ps.map dPr)), none] from rfl]
  walk_at "go"
  refine vEqL_pairs (qs := []) ?_
  walk_at "v"
  by_cases p0 : ps = []
  · rw [if_pos p0]
    refine no fun n h => ?_
    have := h.2.2.1
    rw [p0] at this
    exact absurd this (by decide)
  rw [if_neg p0]
  have p1 : 1 ≤ ps.length := by
    cases ps with
    | nil => exact absurd rfl p0
    | cons a l => simp
  refine asO_P p1 fun q hq0 => ?_
  walk_at "go"
  split
  · rename_i c1
    walk_at "go"
    split
    · rename_i c2
      have hq64 := h64 q hq0
      refine comp_any (as := ps) (f := dPr) (p := fun _ => true) (g := fun q' => .bl (pairB q.2.length q')) (fun R h => h) (by omega) (fun q' hq' R h => ?_) ?_
      · walk_at "gb"
        refine ⟨q'.1, q'.2, q.2.length, rfl, by omega, h64 q' hq', fun b hb => ?_⟩
        have e : b = pairB q.2.length q' := by
          rw [Bool.eq_iff_iff, hb]
          unfold pairB
          exact (@decide_eq_true_iff _ (Classical.propDecidable _)).symm
        rw [e]
        exact h
      rw [show (ps.filter fun _ => true) = ps from List.filter_eq_self.mpr fun _ _ => rfl, show ps.map (fun q' => L3.D.bl (pairB q.2.length q')) = (ps.map fun q' => pairB q.2.length q').map L3.D.bl by rw [List.map_map]; rfl]
      walk_at "v"
      refine hP _ ?_
      rw [List.all_map, List.all_eq_true]
      constructor
      · intro h
        exact ⟨q.2.length, by omega, by omega, p1, p2, fun q' hq' => (@of_decide_eq_true _ (Classical.propDecidable _) (h q' hq'))⟩
      · rintro ⟨n, hM⟩ q' hq'
        have e := hM.len hq0
        show pairB q.2.length q' = true
        unfold pairB
        rw [e]
        exact (@decide_eq_true _ (Classical.propDecidable _) (hM.2.2.2.2 q' hq'))
    · rename_i c2
      refine no fun n h => ?_
      have := h.len hq0
      have := h.2.1
      omega
  · rename_i c1
    refine no fun n h => ?_
    have := h.len hq0
    have := h.1
    omega
def S_add_dealing : DSI := fun ds P => ∃ (t : List (List Int)) (n : Nat) (w : Int) (d : List Int), ds = [dT t, .int w, dI d] ∧ Rect n n t ∧ n ≤ 8 ∧ d.Perm (rngI n) ∧ ∀ u, Rect n n u → (∀ k j : Nat, k < n → j < n → cellAt u k j = cellAt t k j + if d.getD k 0 = (j : Int) then w else 0) → P .non (dT u)
theorem mono_add_dealing : DMonoI S_add_dealing := by
  intro xs P P' k h
  unfold S_add_dealing at h ⊢
  grind
theorem len_add_dealing : ∀ ds P, S_add_dealing ds P → ds.length = 3 := by
  intro ds P h
  unfold S_add_dealing at h
  grind
theorem ok_add_dealing {c : Cs} {f : Addr} {fd : FuncData} (F : FnAt K mg "add_dealing" s_add_dealing P_add_dealing f fd) (A_ : Fns K mg c) (T : Txt K mg) (xs : Exs K mg base c) : FnOk P w K mg base CX0 1 f fd P_add_dealing (spI K 0 S_add_dealing) := by
  refine F.fn.ok sc_add_dealing (fun vs H Q E h => spI_len len_add_dealing h) (fun cdv A outer s H vs Q E hr h => ?_)
  refine ⟨_, (pss_one (ps_for PassesOwn.never rfl (pi_range1 rfl T.range_ (pa_cons (pe_callB (call_lenK (K := K) rfl) (by rfl) T.len_ PySem.boot_len (pa_cons (pv 2) pa_nil)) pa_nil)) (pg_name (i := 3) sc_add_dealing.nd rfl (by first | exact Or.inl rfl | exact Or.inr rfl)) (pss_one (ps_asg (pe_op op_add (pe_ix (ix_listK (K := K) rfl) (pe_ix (ix_listK (K := K) rfl) (pv 0) (pv 3) (fun _ _ => rfl)) (pe_ix (ix_listK (K := K) rfl) (pv 2) (pv 3) (fun _ _ => rfl)) (fun _ _ => rfl)) (pv 1)) (pg_sub (pe_ix (ix_listK (K := K) rfl) (pv 0) (pv 3) (fun _ _ => rfl)) (pe_ix (ix_listK (K := K) rfl) (pv 2) (pv 3) (fun _ _ => rfl)) set_list))))), fn_valI (Γn := [0]) (N := N_add_dealing) (p := 0) (st_for (it_rng1 (ar_cons (EM.er (em_cb c_len (ar_cons (ES.er (es_var 2)) ar_nil))) ar_nil)) (gt_name 3) (st_pin 0 (st0_setItem2 0 (em_op o_int (er_ixL (er_ixL (er_var 0) (ES.er (es_var 3))) (ES.er (es_ixL (es_var 2) (ES.er (es_var 3))))) (ES.er (es_var 1))) (ES.er (es_var 3)) (ES.er (es_ixL (es_var 2) (ES.er (es_var 3))))))) (fun ds P a x hS hx => ?_) (by decide) (fun ds P h => by have := len_add_dealing ds P h; omega) h⟩
  obtain ⟨t, n, w, d, rfl, hR, n8, hp, hP⟩ := hS
  have hlr : (rngI n).length = n := by unfold rngI; rw [List.length_map, List.length_range]
  have hdl : d.length = n := by rw [hp.length_eq]; exact hlr
  cases hx
  simp only [List.set_cons_zero, List.set_cons_succ]
  rw [show startD N_add_dealing [.pin a (dT t), .int w, dI d] = [some (.pin a (dT t)), some (.int w), some (dI d), none] from rfl]
  walk_at "go"
  refine loop_rng (fun i δ => ∃ (u : List (List Int)) (o3 : Option D), δ = [some (.pin a (dT u)), some (.int w), some (dI d), o3] ∧ Rect n n u ∧ ∀ k j : Nat, k < n → j < n → cellAt u k j = cellAt t k j + if k < i ∧ d.getD k 0 = (j : Int) then w else 0) ⟨t, none, rfl, hR, fun k j _ _ => by simp⟩ ?_ ?_
  · rintro i δ N hi ⟨u, o3, rfl, hU, hc⟩ hN
    obtain ⟨p1, p2, p3⟩ := perm_at hp (show i < n by omega)
    have hl := hU.1
    have hrow := hU.row (i := i) (by omega)
    obtain ⟨c, ec⟩ : ∃ c : Nat, d.getD i 0 = (c : Int) := ⟨(d.getD i 0).toNat, by omega⟩
    walk_at "v"
    rw [Int.zero_add]
    refine setItem2_tab (t := u) (a := (i : Int)) (b := (c : Int)) (v := cellAt u i c + w) rfl (fun R h => ?_) (fun R h => ?_) (fun R h => ?_) (by omega) (by rw [Int.toNat_natCast, hrow]; omega) ?_
    · walk_at "v"
      refine asO_rows (by omega) ?_
      walk_at "v"
      refine asO_ints (by omega) ?_
      rw [Int.toNat_natCast, ec]
      walk_at "v"
      refine asO_ints (by rw [hrow]; omega) ?_
      rw [Int.toNat_natCast]
      walk_at "v"
      exact h
    · walk_at "v"; exact h
    · walk_at "v"
      refine asO_ints (by omega) ?_
      rw [Int.toNat_natCast, ec]
      exact h
    rw [Int.toNat_natCast, Int.toNat_natCast]
    walk_at "v"
    refine hN _ ⟨_, _, rfl, hU.setCell (by omega), fun k j hk hj => ?_⟩
    rw [cell_set hU (by omega) (by omega)]
    by_cases q : i = k ∧ c = j
    · obtain ⟨rfl, rfl⟩ := q
      rw [if_pos ⟨rfl, rfl⟩, hc i c hk hj, if_neg (fun z => by omega), if_pos ⟨by omega, ec⟩]
      omega
    · rw [if_neg q, hc k j hk hj]
      congr 1
      by_cases h1 : k < i ∧ d.getD k 0 = (j : Int)
      · rw [if_pos h1, if_pos ⟨by omega, h1.2⟩]
      · rw [if_neg h1, if_neg (fun z => ?_)]
        by_cases z1 : k = i
        · subst z1
          rw [ec] at z
          exact q ⟨rfl, by omega⟩
        · exact h1 ⟨by omega, z.2⟩
  · rintro δ ⟨u, o3, rfl, hU, hc⟩
    walk_at "v"
    exact hP u hU fun k j hk hj => by rw [hc k j hk hj, hdl]; simp [hk]
def S_told_by (c : Cs) : DSX := fun ds P R => ∃ (ps : List (Int × List Int)), ds = [.lst (ps.map dPr)] ∧ ps.length ≤ 200 ∧ (∀ q ∈ ps, q.2.length < 64) ∧ (∀ n, Mix n ps → ∀ t, Tab n ps t → P (dT t)) ∧ ((∀ n, ¬ Mix n ps) → R c.NoMix)
theorem mono_told_by {c : Cs} : DMonoX (S_told_by c) := by
  intro xs P P' R R' k kr h
  obtain ⟨ps, e, h0, h1, h2, h3⟩ := h
  exact ⟨ps, e, h0, h1, fun n a t b => k _ (h2 n a t b), fun z => kr _ (h3 z)⟩
theorem len_told_by {c : Cs} : ∀ ds P R, S_told_by c ds P R → ds.length = 1 := by
  intro ds P R h
  obtain ⟨ps, e, _⟩ := h
  rw [e]; rfl
theorem ok_told_by {c : Cs} {f : Addr} {fd : FuncData} (F : FnAt K mg "told_by" s_told_by P_told_by f fd) (A_ : Fns K mg c) (T : Txt K mg) (xs : Exs K mg base c) : FnOk P w K mg base (CXR P w) 3 f fd P_told_by (spX K (S_told_by c)) := by
  obtain ⟨f0, d0, E_is_mixture⟩ := A_.h_is_mixture
  have G_is_mixture : FnOk P w K mg base CX0 2 f0 d0 P_is_mixture (spP K S_is_mixture) := ok_is_mixture E_is_mixture A_ T xs
  obtain ⟨f1, d1, E_add_dealing⟩ := A_.h_add_dealing
  have G_add_dealing : FnOk P w K mg base CX0 1 f1 d1 P_add_dealing (spI K 0 S_add_dealing) := ok_add_dealing E_add_dealing A_ T xs
  refine F.fn.okX sc_told_by (fun vs H Q E h => spX_len len_told_by h) (fun cdv A outer s H vs Q E hr h => ?_)
  refine ⟨_, (pss_cons (ps_if (PT.nox (pt_not (pt_val (pe_call G_is_mixture (hr.mono (by decide)) rfl E_is_mixture.mg E_is_mixture.fn.kp E_is_mixture.bd .nil pass0 (pa_cons (pv 0) pa_nil))))) (pss_one (ps_raise (xs.o_NoMix.own xs.m_NoMix) PySem.F.excBase_ValueError rfl rfl raise_x (pa_cons pe_str pa_nil))) pss_nil)
      (PSs.nox (pss_cons (ps_set (i := 1) sc_told_by.nd rfl (by first | exact Or.inl rfl | exact Or.inr rfl) (pe_callB (call_lenK (K := K) rfl) (by rfl) T.len_ PySem.boot_len (pa_cons (pe_ix (ix_tupK (K := K) rfl) (pe_ix (ix_listK (K := K) rfl) (pv 0) pe_int (fun _ _ => rfl)) pe_int (fun _ _ => rfl)) pa_nil)))
      (pss_cons (ps_setC0 (i := 2) (CompScope.of (sc0 := (defScope s_told_by)) (tn := ["row"]) (cap := ["many"]) (idx := [1]) (by decide +kernel) rfl rfl) sc_told_by.nd rfl (by first | exact Or.inl rfl | exact Or.inr rfl) (pi_range1 rfl T.range_ (pa_cons (pv 1) pa_nil)) (GSet.name (by decide)) (fun _ _ _ _ _ => pg_name (i := 0) (nodupB_iff (l := ["row", "many"]) (by decide +kernel)) rfl (by first | exact Or.inl rfl | exact Or.inr rfl) (by first | exact .inl rfl | exact .inr rfl)) (fun _ _ _ _ _ => (pe_op op_rep (pe_lst (pa_cons pe_int pa_nil)) (pv 1))))
      (pss_cons (ps_for PassesOwn.never rfl (pi_listK (K := K) rfl (pv 0)) (pg_name (i := 3) sc_told_by.nd rfl (by first | exact Or.inl rfl | exact Or.inr rfl)) (pss_one (ps_expr (pe_call G_add_dealing (hr.mono (by decide)) rfl E_add_dealing.mg E_add_dealing.fn.kp E_add_dealing.bd .nil pass0 (pa_cons (pv 2) (pa_cons (pe_ix (ix_tupK (K := K) rfl) (pv 3) pe_int (fun _ _ => rfl)) (pa_cons (pe_ix (ix_tupK (K := K) rfl) (pv 3) pe_int (fun _ _ => rfl)) pa_nil)))))))
      (pss_one (ps_ret (pv 2)))))))), fn_valX (Γn := [2]) (N := N_told_by) (fun R => (sx_seq (sx_if (tr_not (tr_b (EM.er (em_call (S := S_is_mixture) mono_is_mixture (ar_cons (ES.er (es_var 0)) ar_nil))))) (sx_raise (ar_cons (EM.er em_str) ar_nil)) (ST.sx st_next))
      (ST.sx (st_seq (ST.post (Γn := []) (st_setS 1 (EM.es (em_cb c_len (ar_cons (ES.er (es_ixT (es_ixL (es_var 0) (EM.er em_int)) (EM.er em_int))) ar_nil)))))
      (st_seq (ST.post (Γn := [2]) (st_setM (M := []) 2 (em_comp0 (it_rng1 (ar_cons (ES.er (es_var 1)) ar_nil)) (gt_name 0) (em_op o_rep (EM.er (em_lst (am_cons0 em_int am_nil))) (ES.er (es_var 1))))))
      (st_seq (st_for (it_list (es_var 0)) (gt_name 3) (ST0.st (st0_callI 2 0 mono_add_dealing (ai_here 2 (ax_cons (ex_es (es_ixT (es_var 3) (EM.er em_int))) (ax_cons (ex_es (es_ixT (es_var 3) (EM.er em_int))) ax_nil))))))
      (st_ret (M := [2]) (em_var 2)))))))) (fun ds P R hS => ?_) h⟩
  obtain ⟨ps, rfl, p2, h64, hP, hX⟩ := hS
  rw [show startD N_told_by [.lst (ps.map dPr)] = [some (.lst (ps.map dPr)), none, none, none] from rfl]
  walk_at "v"
  refine ⟨ps, rfl, p2, h64, fun b hb => ?_⟩
  by_cases hm : ∃ n, Mix n ps
  case neg =>
    have hb0 : b = false := by
      cases b with
      | false => rfl
      | true => exact absurd (hb.mp rfl) hm
    subst hb0
    walk_at "v"
    exact ⟨by decide, hX fun n h => hm ⟨n, h⟩⟩
  rw [hb.mpr hm]
  obtain ⟨n, hM⟩ := hm
  have hP := hP n hM
  obtain ⟨n1, n8, p1, _, hq⟩ := id hM
  walk_at "go"
  refine asO_P p1 fun q hq0 => ?_
  walk_at "go"
  rw [hM.len hq0]
  refine comp_rng (lo := 0) (n := n) (g := fun _ => dI (List.replicate n 0)) (fun R h => ?_) (by omega) (fun i hi R h => ?_) ?_
  · walk_at "go"; exact h
  · walk_at "gb"
    rw [rep_zero]
    exact ⟨⟨rfl, by omega, by omega⟩, h⟩
  rw [map_dI]
  walk_at "go"
  have h0 : Rect n n ((List.range n).map fun _ => List.replicate n (0 : Int)) := ⟨by rw [List.length_map, List.length_range], fun r hr => by
    obtain ⟨_, _, rfl⟩ := List.mem_map.mp hr
    exact List.length_replicate⟩
  have c0 : ∀ k j : Nat, k < n → j < n → cellAt ((List.range n).map fun _ => List.replicate n (0 : Int)) k j = 0 := fun k j hk hj => by
    unfold cellAt
    rw [List.getD_eq_getElem?_getD (l := (List.range n).map _), List.getElem?_map, List.getElem?_range hk, Option.map_some, Option.getD_some, List.getD_eq_getElem?_getD, List.getElem?_replicate, if_pos hj]; rfl
  refine loop_any (as := ps) (f := dPr) (fun i δ => ∃ (t : List (List Int)) (o3 : Option D), δ = [some (.lst (ps.map dPr)), some (.int n), some (dT t), o3] ∧ Tab n (ps.take i) t) ⟨_, none, rfl, h0, fun k j hk hj => by rw [c0 k j hk hj, List.take_zero]; rfl⟩ ?_ ?_
  · rintro i q' δ N e ⟨t, o3, rfl, hT⟩ hN
    have hq' := hq q' (List.mem_of_getElem? e)
    walk_at "go"
    refine ⟨t, n, q'.1, q'.2, rfl, hT.1, n8, hq'.2, fun u hU hc => ?_⟩
    walk_at "v"
    refine hN _ ⟨u, _, rfl, ?_⟩
    rw [List.take_add_one, e]
    exact hT.snoc hU hc
  · rintro δ ⟨t, o3, rfl, hT⟩
    rw [List.take_length] at hT
    walk_at "v"
    exact hP t hT
def Bd (k : Nat) (xs : List Int) : Prop := ∀ x ∈ xs, x.natAbs < 2 ^ k
theorem Bd.at {k : Nat} {xs : List Int} (h : Bd k xs) (j : Nat) : (xs.getD j 0).natAbs < 2 ^ k := by
  rw [List.getD_eq_getElem?_getD]
  cases e : xs[j]? with
  | none => exact Nat.pow_pos (by decide)
  | some v => exact h v (List.mem_of_getElem? e)
theorem Bd.mono {k l : Nat} {xs : List Int} (h : Bd k xs) (hk : k ≤ l) : Bd l xs := fun x hx => Nat.lt_of_lt_of_le (h x hx) (Nat.pow_le_pow_right (by decide) hk)
def BdT (k : Nat) (t : List (List Int)) : Prop := ∀ r ∈ t, Bd k r
theorem BdT.mono {k l : Nat} {t : List (List Int)} (h : BdT k t) (hk : k ≤ l) : BdT l t := fun r hr => (h r hr).mono hk
theorem BdT.cell {k n m i j : Nat} {t : List (List Int)} (h : BdT k t) (hR : Rect n m t) (hi : i < n) : (cellAt t i j).natAbs < 2 ^ k := (h _ (rowAt_mem (by rw [hR.1]; exact hi))).at j
def dot (xs ys : List Int) : Int := ((List.range xs.length).map fun (j : Nat) => xs.getD j 0 * ys.getD j 0).sum
def S_product_of : DSp := fun ds P => ∃ xs ys : List Int, ds = [dI xs, dI ys] ∧ xs.length ≤ 9 ∧ ys.length = xs.length ∧ Bd 300 xs ∧ Bd 300 ys ∧ P (.int (dot xs ys))
theorem mono_product_of : DMono S_product_of := by
  intro xs P P' k h
  unfold S_product_of at h ⊢
  grind
theorem len_product_of : ∀ ds P, S_product_of ds P → ds.length = 2 := by
  intro ds P h
  obtain ⟨_, _, e, _⟩ := h
  rw [e]; rfl
theorem ok_product_of {c : Cs} {f : Addr} {fd : FuncData} (F : FnAt K mg "product_of" s_product_of P_product_of f fd) (A_ : Fns K mg c) (T : Txt K mg) (xs : Exs K mg base c) : FnOk P w K mg base CX0 1 f fd P_product_of (spP K S_product_of) := by
  refine F.fn.ok sc_product_of (fun vs H Q E h => spP_len len_product_of h) (fun cdv A outer s H vs Q E hr h => ?_)
  refine ⟨_, (pss_one (ps_ret (pe_callB (call_sumK (K := K) rfl rfl) (by rfl) T.sum_ boot_sum (pa_cons (pe_comp0 (CompScope.of (sc0 := (defScope s_product_of)) (tn := ["place"]) (cap := ["one", "other"]) (idx := [0, 1]) (by decide +kernel) rfl rfl) (pi_range1 rfl T.range_ (pa_cons (pe_callB (call_lenK (K := K) rfl) (by rfl) T.len_ PySem.boot_len (pa_cons (pv 0) pa_nil)) pa_nil)) (GSet.name (by decide)) (fun _ _ _ _ _ => pg_name (i := 0) (nodupB_iff (l := ["place", "one", "other"]) (by decide +kernel)) rfl (by first | exact Or.inl rfl | exact Or.inr rfl) (by first | exact .inl rfl | exact .inr rfl)) (fun _ _ _ _ _ => (pe_op op_mulB (pe_ix (ix_listK (K := K) rfl) (pv 1) (pv 0) (fun _ _ => rfl)) (pe_ix (ix_listK (K := K) rfl) (pv 2) (pv 0) (fun _ _ => rfl))))) pa_nil)))), fn_val (Γn := []) (N := N_product_of) (st_ret (M := []) (em_cb c_sum (ar_cons (EM.er (em_comp0 (it_rng1 (ar_cons (EM.er (em_cb c_len (ar_cons (ES.er (es_var 0)) ar_nil))) ar_nil)) (gt_name 0) (em_op o_intC (ES.er (es_ixL (es_var 1) (ES.er (es_var 0)))) (ES.er (es_ixL (es_var 2) (ES.er (es_var 0))))))) ar_nil))) (fun ds P hS => ?_) h⟩
  obtain ⟨xs, ys, rfl, hl, hy, b1, b2, hP⟩ := hS
  rw [show startD N_product_of [dI xs, dI ys] = [some (dI xs), some (dI ys)] from rfl]
  walk_at "go"
  refine comp_rng (lo := 0) (n := xs.length) (g := fun (j : Nat) => .int (xs.getD j 0 * ys.getD j 0)) (fun R h => ?_) (by omega) (fun j hj R h => ?_) ?_
  · walk_at "go"
    exact h
  · walk_at "gb"
    rw [Int.zero_add]
    refine asO_ints (by omega) (asO_ints (by omega) ?_)
    rw [Int.toNat_natCast]
    exact ⟨⟨300, 300, b1.at j, b2.at j, by decide⟩, h⟩
  · rw [map_int]
    walk_at "go"
    exact hP
def S_times_row : DSp := fun ds P => ∃ (t : List (List Int)) (ys : List Int), ds = [dT t, dI ys] ∧ t.length ≤ 9 ∧ (∀ r ∈ t, r.length = ys.length) ∧ ys.length ≤ 9 ∧ BdT 300 t ∧ Bd 300 ys ∧ P (dI (t.map fun r => dot r ys))
theorem mono_times_row : DMono S_times_row := by
  intro xs P P' k h
  unfold S_times_row at h ⊢
  grind
theorem len_times_row : ∀ ds P, S_times_row ds P → ds.length = 2 := by
  intro ds P h
  obtain ⟨_, _, e, _⟩ := h
  rw [e]; rfl
theorem ok_times_row {c : Cs} {f : Addr} {fd : FuncData} (F : FnAt K mg "times_row" s_times_row P_times_row f fd) (A_ : Fns K mg c) (T : Txt K mg) (xs : Exs K mg base c) : FnOk P w K mg base CX0 2 f fd P_times_row (spP K S_times_row) := by
  obtain ⟨f0, d0, E_product_of⟩ := A_.h_product_of
  have G_product_of : FnOk P w K mg base CX0 1 f0 d0 P_product_of (spP K S_product_of) := ok_product_of E_product_of A_ T xs
  refine F.fn.ok sc_times_row (fun vs H Q E h => spP_len len_times_row h) (fun cdv A outer s H vs Q E hr h => ?_)
  refine ⟨_, (pss_one (ps_ret (pe_comp0 (CompScope.of (sc0 := (defScope s_times_row)) (tn := ["line"]) (cap := ["row"]) (idx := [1]) (by decide +kernel) rfl rfl) (pi_listK (K := K) rfl (pv 0)) (GSet.name (by decide)) (fun _ _ _ _ _ => pg_name (i := 0) (nodupB_iff (l := ["line", "row"]) (by decide +kernel)) rfl (by first | exact Or.inl rfl | exact Or.inr rfl) (by first | exact .inl rfl | exact .inr rfl)) (fun _ _ _ _ _ => (pe_call G_product_of (hr.mono (by decide)) rfl E_product_of.mg E_product_of.fn.kp E_product_of.bd .nil pass0 (pa_cons (pv 0) (pa_cons (pv 1) pa_nil))))))), fn_val (Γn := []) (N := N_times_row) (st_ret (M := []) (em_comp0 (it_list (es_var 0)) (gt_name 0) (em_call (S := S_product_of) mono_product_of (ar_cons (ES.er (es_var 0)) (ar_cons (ES.er (es_var 1)) ar_nil))))) (fun ds P hS => ?_) h⟩
  obtain ⟨t, ys, rfl, hl, hr, hy, b1, b2, hP⟩ := hS
  rw [show startD N_times_row [dT t, dI ys] = [some (dT t), some (dI ys)] from rfl]
  walk_at "go"
  refine comp_rows (t := t) (g := fun r => .int (dot r ys)) (fun R h => h) (by omega) (fun r hq R h => ?_) ?_
  · walk_at "gb"
    exact ⟨r, ys, rfl, by rw [hr r hq]; exact hy, (hr r hq).symm, b1 r hq, b2, h⟩
  · rw [map_int]
    exact hP
abbrev mixNs : List Str := ["table", "pairs"]
abbrev mixD (c : Cs) (t : List (List Int)) (ps : List (Int × List Int)) : D := .ins c.MixPaper mixNs [dT t, .lst (ps.map dPr)]
def S_MixPaper_init (c : Cs) : DSp := fun ds P => ∃ (t : List (List Int)) (ps : List (Int × List Int)), ds = [dT t, .lst (ps.map dPr)] ∧ t.length ≤ 1000 ∧ ps.length ≤ 200 ∧ P (mixD c t ps)
theorem mono_MixPaper_init {c : Cs} : DMono (S_MixPaper_init c) := by
  intro xs P P' k h
  unfold S_MixPaper_init at h ⊢
  grind
theorem len_MixPaper_init {c : Cs} : ∀ ds P, (S_MixPaper_init c) ds P → ds.length = 2 := by
  intro ds P h
  obtain ⟨_, _, e, _⟩ := h
  rw [e]; rfl
theorem ins_MixPaper_init {c : Cs} : ∀ ds P, (S_MixPaper_init c) ds P → (S_MixPaper_init c) ds fun d => (∃ ns dd, d = .ins c.MixPaper ns dd) ∧ P d := by
  intro ds P h
  unfold S_MixPaper_init at h ⊢
  grind
theorem ok_MixPaper_init {c : Cs} {f : Addr} {fd : FuncData} (F : MkAt K mg "MixPaper" c.MixPaper "MixPaper.__init__" s_MixPaper_init P_MixPaper_init f fd) (A_ : Fns K mg c) (T : Txt K mg) (xs : Exs K mg base c) : FnOk P w K mg base CX0 2 f fd P_MixPaper_init (spN K c.MixPaper (S_MixPaper_init c)) := by
  obtain ⟨f0, d0, E_copied_table⟩ := A_.h_copied_table
  have G_copied_table : FnOk P w K mg base CX0 1 f0 d0 P_copied_table (spP K S_copied_table) := ok_copied_table E_copied_table A_ T xs
  refine F.fn.ok sc_MixPaper_init (fun vs H Q E h => spN_len len_MixPaper_init h) (fun cdv A outer s H vs Q E hr h => ?_)
  refine ⟨_, (pss_cons (ps_fldK (K := K) rfl (pv 0) (pe_call G_copied_table (hr.mono (by decide)) rfl E_copied_table.mg E_copied_table.fn.kp E_copied_table.bd .nil pass0 (pa_cons (pv 1) pa_nil)) rfl)
      (pss_one (ps_fldK (K := K) rfl (pv 0) (pe_comp0 (CompScope.of (sc0 := (defScope s_MixPaper_init)) (tn := ["pair"]) (cap := []) (idx := []) (by decide +kernel) rfl rfl) (pi_listK (K := K) rfl (pv 2)) (GSet.name (by decide)) (fun _ _ _ _ _ => pg_name (i := 0) (nodupB_iff (l := ["pair"]) (by decide +kernel)) rfl (by first | exact Or.inl rfl | exact Or.inr rfl) (by first | exact .inl rfl | exact .inr rfl)) (fun _ _ _ _ _ => (pe_tup (pa_cons (pe_ix (ix_tupK (K := K) rfl) (pv 0) pe_int (fun _ _ => rfl)) (pa_cons (pe_callTy (call_listK (K := K) rfl) (by rfl) T.list_ boot_list (pa_cons (pe_ix (ix_tupK (K := K) rfl) (pv 0) pe_int (fun _ _ => rfl)) pa_nil)) pa_nil))))) rfl))), fn_ini (N := N_MixPaper_init) (ini_cons xs.i_MixPaper.cl xs.n_MixPaper_table (em_call (S := S_copied_table) mono_copied_table (ar_cons (ES.er (es_var 1)) ar_nil)) (ini_one xs.i_MixPaper.cl xs.n_MixPaper_pairs (em_comp0 (it_list (es_var 2)) (gt_name 0) (em_tup (am_cons0 (ER.scal (ES.er (es_ixT (es_var 0) (EM.er em_int)))) (am_cons0 (em_cb c_list (ar_cons (ES.er (es_ixT (es_var 0) (EM.er em_int))) ar_nil)) am_nil)))))) (fun ds P hS => ?_) (by decide) (by decide +kernel) (by decide) h⟩
  obtain ⟨t, ps, rfl, h1, h2, hP⟩ := hS
  rw [show startD (N_MixPaper_init.drop 1) [dT t, .lst (ps.map dPr)] = [some (dT t), some (.lst (ps.map dPr))] from rfl]
  walk_at "go"
  refine ⟨t, rfl, h1, ?_⟩
  walk_at "go"
  refine comp_all (as := ps) (f := dPr) (g := dPr) (fun R h => h) (by omega) (fun q hq R h => ?_) ?_
  · rw [show dPr q = .tup [.int q.1, dI q.2] from rfl] at h ⊢
    walk_at "gb"
    exact h
  exact hP
def S_MixPaper_holds (c : Cs) : DSp := fun ds P => ∃ (t : List (List Int)) (ps : List (Int × List Int)), ds = [mixD c t ps] ∧ ps.length ≤ 200 ∧ (∀ q ∈ ps, q.2.length < 64) ∧ ∀ b : Bool, (b = true ↔ ∃ n, Mix n ps ∧ Tab n ps t) → P (.bl b)
theorem mono_MixPaper_holds {c : Cs} : DMono (S_MixPaper_holds c) := by
  intro xs P P' k h
  unfold S_MixPaper_holds at h ⊢
  grind
theorem len_MixPaper_holds {c : Cs} : ∀ ds P, (S_MixPaper_holds c) ds P → ds.length = 1 := by
  intro ds P h
  obtain ⟨_, _, e, _⟩ := h
  rw [e]; rfl
theorem ok_MixPaper_holds {c : Cs} {f : Addr} {fd : FuncData} (F : MtAt K c.MixPaper "holds" "MixPaper.holds" s_MixPaper_holds P_MixPaper_holds f fd) (A_ : Fns K mg c) (T : Txt K mg) (xs : Exs K mg base c) : FnOk P w K mg base CX0 4 f fd P_MixPaper_holds (spP K (S_MixPaper_holds c)) := by
  obtain ⟨f0, d0, E_is_mixture⟩ := A_.h_is_mixture
  have G_is_mixture : FnOk P w K mg base CX0 2 f0 d0 P_is_mixture (spP K S_is_mixture) := ok_is_mixture E_is_mixture A_ T xs
  obtain ⟨f1, d1, E_told_by⟩ := A_.h_told_by
  have G_told_by : FnOk P w K mg base (CXR P w) 3 f1 d1 P_told_by (spX K (S_told_by c)) := ok_told_by E_told_by A_ T xs
  refine F.fn.ok sc_MixPaper_holds (fun vs H Q E h => spP_len len_MixPaper_holds h) (fun cdv A outer s H vs Q E hr h => ?_)
  refine ⟨_, (pss_one (ps_ret (pe_and (pe_call G_is_mixture (hr.mono (by decide)) rfl E_is_mixture.mg E_is_mixture.fn.kp E_is_mixture.bd .nil pass0 (pa_cons (pe_fldK (K := K) rfl (pv 0) rfl) pa_nil)) (pe_one (pe_cmpR (op_eqL hr.units) (pe_call G_told_by (hr.mono (by decide)) rfl E_told_by.mg E_told_by.fn.kp E_told_by.bd .nil passN (pa_cons (pe_fldK (K := K) rfl (pv 0) rfl) pa_nil)) (pe_fldK (K := K) rfl (pv 0) rfl) (nomark _)))))), fn_val (Γn := []) (N := N_MixPaper_holds) (st_ret (M := []) (em_andV (EM.er (em_call (S := S_is_mixture) mono_is_mixture (ar_cons (ES.er (es_fld ["table", "pairs"] 1 xs.i_MixPaper.cl xs.n_MixPaper_pairs (es_var 0))) ar_nil))) (em_op o_eqL (EM.er (em_noX mono_told_by (ar_cons (ES.er (es_fld ["table", "pairs"] 1 xs.i_MixPaper.cl xs.n_MixPaper_pairs (es_var 0))) ar_nil))) (ES.er (es_fld ["table", "pairs"] 0 xs.i_MixPaper.cl xs.n_MixPaper_table (es_var 0)))))) (fun ds P hS => ?_) h⟩
  obtain ⟨t, ps, rfl, h1, h2, hP⟩ := hS
  rw [show startD N_MixPaper_holds [mixD c t ps] = [some (mixD c t ps)] from rfl]
  walk_at "go"
  refine ⟨ps, rfl, h1, h2, fun b hb => ?_⟩
  dsimp only
  cases b with
  | false =>
    walk_at "go"
    exact hP false ⟨fun z => (by cases z), fun ⟨n, hM, _⟩ => by have := hb.mpr ⟨n, hM⟩; cases this⟩
  | true =>
    obtain ⟨n, hM⟩ := hb.mp rfl
    walk_at "go"
    refine ⟨ps, rfl, h1, h2, fun n' hM' t' hT' => ?_, fun z => absurd hM (z n)⟩
    refine vEqL_rows (xs := t') (ys := t) ?_
    rw [if_neg (by decide)]
    refine hP _ ⟨fun z => ⟨n', hM', by rw [← of_decide_eq_true z]; exact hT'⟩, fun ⟨n2, hM2, hT2⟩ => decide_eq_true ?_⟩
    obtain ⟨q, hq⟩ : ∃ q, q ∈ ps := ⟨_, List.getElem_mem (show 0 < ps.length from hM.2.2.1)⟩
    have e : n2 = n' := by rw [← hM2.len hq, ← hM'.len hq]
    subst e
    exact hT'.uniq hT2
abbrev ledNs : List Str := ["one", "other", "table"]
abbrev ledD (c : Cs) (one other : List Int) (t : List (List Int)) : D := .ins c.LeadPaper ledNs [dI one, dI other, dT t]
def S_LeadPaper_init (c : Cs) : DSp := fun ds P => ∃ (one other : List Int) (t : List (List Int)), ds = [dI one, dI other, dT t] ∧ t.length ≤ 1000 ∧ P (ledD c one other t)
theorem mono_LeadPaper_init {c : Cs} : DMono (S_LeadPaper_init c) := by
  intro xs P P' k h
  unfold S_LeadPaper_init at h ⊢
  grind
theorem len_LeadPaper_init {c : Cs} : ∀ ds P, (S_LeadPaper_init c) ds P → ds.length = 3 := by
  intro ds P h
  obtain ⟨_, _, _, e, _⟩ := h
  rw [e]; rfl
theorem ins_LeadPaper_init {c : Cs} : ∀ ds P, (S_LeadPaper_init c) ds P → (S_LeadPaper_init c) ds fun d => (∃ ns dd, d = .ins c.LeadPaper ns dd) ∧ P d := by
  intro ds P h
  unfold S_LeadPaper_init at h ⊢
  grind
theorem ok_LeadPaper_init {c : Cs} {f : Addr} {fd : FuncData} (F : MkAt K mg "LeadPaper" c.LeadPaper "LeadPaper.__init__" s_LeadPaper_init P_LeadPaper_init f fd) (A_ : Fns K mg c) (T : Txt K mg) (xs : Exs K mg base c) : FnOk P w K mg base CX0 2 f fd P_LeadPaper_init (spN K c.LeadPaper (S_LeadPaper_init c)) := by
  obtain ⟨f0, d0, E_copied_table⟩ := A_.h_copied_table
  have G_copied_table : FnOk P w K mg base CX0 1 f0 d0 P_copied_table (spP K S_copied_table) := ok_copied_table E_copied_table A_ T xs
  refine F.fn.ok sc_LeadPaper_init (fun vs H Q E h => spN_len len_LeadPaper_init h) (fun cdv A outer s H vs Q E hr h => ?_)
  refine ⟨_, (pss_cons (ps_fldK (K := K) rfl (pv 0) (pe_callTy (call_listK (K := K) rfl) (by rfl) T.list_ boot_list (pa_cons (pv 1) pa_nil)) rfl)
      (pss_cons (ps_fldK (K := K) rfl (pv 0) (pe_callTy (call_listK (K := K) rfl) (by rfl) T.list_ boot_list (pa_cons (pv 2) pa_nil)) rfl)
      (pss_one (ps_fldK (K := K) rfl (pv 0) (pe_call G_copied_table (hr.mono (by decide)) rfl E_copied_table.mg E_copied_table.fn.kp E_copied_table.bd .nil pass0 (pa_cons (pv 3) pa_nil)) rfl)))), fn_ini (N := N_LeadPaper_init) (ini_cons xs.i_LeadPaper.cl xs.n_LeadPaper_one (em_cb c_list (ar_cons (ES.er (es_var 1)) ar_nil)) (ini_cons xs.i_LeadPaper.cl xs.n_LeadPaper_other (em_cb c_list (ar_cons (ES.er (es_var 2)) ar_nil)) (ini_one xs.i_LeadPaper.cl xs.n_LeadPaper_table (em_call (S := S_copied_table) mono_copied_table (ar_cons (ES.er (es_var 3)) ar_nil))))) (fun ds P hS => ?_) (by decide) (by decide +kernel) (by decide) h⟩
  obtain ⟨one, other, t, rfl, h1, hP⟩ := hS
  rw [show startD (N_LeadPaper_init.drop 1) [dI one, dI other, dT t] = [some (dI one), some (dI other), some (dT t)] from rfl]
  walk_at "go"
  refine ⟨t, rfl, h1, ?_⟩
  walk_at "go"
  exact hP
theorem sum_bd {k : Nat} : ∀ {xs : List Int}, Bd k xs → xs.sum.natAbs ≤ xs.length * 2 ^ k
  | [], _ => by simp
  | x :: xs, h => by
    have a := h x List.mem_cons_self
    have b := sum_bd (xs := xs) fun y hy => h y (List.mem_cons_of_mem _ hy)
    rw [List.sum_cons, List.length_cons, Nat.succ_mul]
    omega
theorem sum_lt {k : Nat} {xs : List Int} (h : Bd k xs) (l : xs.length ≤ 8) : xs.sum.natAbs < 2 ^ (k + 4) := by
  have a := sum_bd h
  have b : xs.length * 2 ^ k ≤ 8 * 2 ^ k := Nat.mul_le_mul_right _ l
  have c : 0 < 2 ^ k := Nat.pow_pos (by decide)
  rw [Nat.pow_add]
  generalize 2 ^ k = z at *
  omega
def LedT (n m : Nat) (one other : List Int) (t : List (List Int)) : Prop := EvenT n m t ∧ one.length = n ∧ other.length = n ∧ (t.map fun r => dot r other) = one.map fun x => x * (rowAt t 0).sum
def S_LeadPaper_holds (c : Cs) : DSp := fun ds P => ∃ (one other : List Int) (t : List (List Int)) (n m : Nat), ds = [ledD c one other t] ∧ Rect n m t ∧ 1 ≤ n ∧ n ≤ 8 ∧ 1 ≤ m ∧ m ≤ 8 ∧ Bd 200 one ∧ Bd 200 other ∧ BdT 100 t ∧ one.length ≤ 100 ∧ ∀ b : Bool, (b = true ↔ LedT n m one other t) → P (.bl b)
theorem mono_LeadPaper_holds {c : Cs} : DMono (S_LeadPaper_holds c) := by
  intro xs P P' k h
  unfold S_LeadPaper_holds at h ⊢
  grind
theorem len_LeadPaper_holds {c : Cs} : ∀ ds P, (S_LeadPaper_holds c) ds P → ds.length = 1 := by
  intro ds P h
  obtain ⟨_, _, _, _, _, e, _⟩ := h
  rw [e]; rfl
theorem ok_LeadPaper_holds {c : Cs} {f : Addr} {fd : FuncData} (F : MtAt K c.LeadPaper "holds" "LeadPaper.holds" s_LeadPaper_holds P_LeadPaper_holds f fd) (A_ : Fns K mg c) (T : Txt K mg) (xs : Exs K mg base c) : FnOk P w K mg base CX0 5 f fd P_LeadPaper_holds (spP K (S_LeadPaper_holds c)) := by
  obtain ⟨f0, d0, E_times_row⟩ := A_.h_times_row
  have G_times_row : FnOk P w K mg base CX0 2 f0 d0 P_times_row (spP K S_times_row) := ok_times_row E_times_row A_ T xs
  obtain ⟨f1, d1, E_is_even⟩ := A_.h_is_even
  have G_is_even : FnOk P w K mg base CX0 4 f1 d1 P_is_even (spP K S_is_even) := ok_is_even E_is_even A_ T xs
  refine F.fn.ok sc_LeadPaper_holds (fun vs H Q E h => spP_len len_LeadPaper_holds h) (fun cdv A outer s H vs Q E hr h => ?_)
  refine ⟨_, (pss_cons (ps_if (PW.pt (pw_or (pt_not (pt_val (pe_call G_is_even (hr.mono (by decide)) rfl E_is_even.mg E_is_even.fn.kp E_is_even.bd .nil pass0 (pa_cons (pe_fldK (K := K) rfl (pv 0) rfl) pa_nil)))) (pw_or1 (pt_not (pt_chain op_eq op_eq (pe_callB (call_lenK (K := K) rfl) (by rfl) T.len_ PySem.boot_len (pa_cons (pe_fldK (K := K) rfl (pv 0) rfl) pa_nil)) (pe_callB (call_lenK (K := K) rfl) (by rfl) T.len_ PySem.boot_len (pa_cons (pe_fldK (K := K) rfl (pv 0) rfl) pa_nil)) (pe_callB (call_lenK (K := K) rfl) (by rfl) T.len_ PySem.boot_len (pa_cons (pe_fldK (K := K) rfl (pv 0) rfl) pa_nil))))))) (pss_one (ps_ret pe_bl)) pss_nil)
      (pss_cons (ps_set (i := 1) sc_LeadPaper_holds.nd rfl (by first | exact Or.inl rfl | exact Or.inr rfl) (pe_callB (call_sumK (K := K) rfl rfl) (by rfl) T.sum_ boot_sum (pa_cons (pe_ix (ix_listK (K := K) rfl) (pe_fldK (K := K) rfl (pv 0) rfl) pe_int (fun _ _ => rfl)) pa_nil)))
      (pss_one (ps_ret (pe_cmpR (op_eqL hr.units) (pe_call G_times_row (hr.mono (by decide)) rfl E_times_row.mg E_times_row.fn.kp E_times_row.bd .nil pass0 (pa_cons (pe_fldK (K := K) rfl (pv 0) rfl) (pa_cons (pe_fldK (K := K) rfl (pv 0) rfl) pa_nil))) (pe_comp0 (CompScope.of (sc0 := (defScope s_LeadPaper_holds)) (tn := ["number"]) (cap := ["bottom"]) (idx := [1]) (by decide +kernel) rfl rfl) (pi_listK (K := K) rfl (pe_fldK (K := K) rfl (pv 0) rfl)) (GSet.name (by decide)) (fun _ _ _ _ _ => pg_name (i := 0) (nodupB_iff (l := ["number", "bottom"]) (by decide +kernel)) rfl (by first | exact Or.inl rfl | exact Or.inr rfl) (by first | exact .inl rfl | exact .inr rfl)) (fun _ _ _ _ _ => (pe_op op_mulB (pv 0) (pv 1)))) (nomark _)))))), fn_val (Γn := []) (N := N_LeadPaper_holds) (st_seq (st_if (tr_or (tr_not (tr_b (EM.er (em_call (S := S_is_even) mono_is_even (ar_cons (ES.er (es_fld ["one", "other", "table"] 2 xs.i_LeadPaper.cl xs.n_LeadPaper_table (es_var 0))) ar_nil))))) (tr_not (tr_test (EM.er (em_chain o_eq o_eq (EM.er (em_cb c_len (ar_cons (ES.er (es_fld ["one", "other", "table"] 2 xs.i_LeadPaper.cl xs.n_LeadPaper_table (es_var 0))) ar_nil))) (EM.er (em_cb c_len (ar_cons (ES.er (es_fld ["one", "other", "table"] 0 xs.i_LeadPaper.cl xs.n_LeadPaper_one (es_var 0))) ar_nil))) (EM.er (em_cb c_len (ar_cons (ES.er (es_fld ["one", "other", "table"] 1 xs.i_LeadPaper.cl xs.n_LeadPaper_other (es_var 0))) ar_nil)))))))) (st_ret (M := []) em_bl) st_next)
      (st_seq (ST.post (Γn := []) (st_setS 1 (EM.es (em_cb c_sum (ar_cons (ES.er (es_ixL (es_fld ["one", "other", "table"] 2 xs.i_LeadPaper.cl xs.n_LeadPaper_table (es_var 0)) (EM.er em_int))) ar_nil)))))
      (st_ret (M := []) (em_op o_eqL (EM.er (em_call (S := S_times_row) mono_times_row (ar_cons (ES.er (es_fld ["one", "other", "table"] 2 xs.i_LeadPaper.cl xs.n_LeadPaper_table (es_var 0))) (ar_cons (ES.er (es_fld ["one", "other", "table"] 1 xs.i_LeadPaper.cl xs.n_LeadPaper_other (es_var 0))) ar_nil)))) (EM.er (em_comp0 (it_list (es_fld ["one", "other", "table"] 0 xs.i_LeadPaper.cl xs.n_LeadPaper_one (es_var 0))) (gt_name 0) (em_op o_intC (ES.er (es_var 0)) (ES.er (es_var 1))))))))) (fun ds P hS => ?_) h⟩
  obtain ⟨one, other, t, n, m, rfl, hR, n1, n8, m1, m8, b1, b2, bt, lo, hP⟩ := hS
  rw [show startD N_LeadPaper_holds [ledD c one other t] = [some (ledD c one other t), none] from rfl]
  walk_at "go"
  refine ⟨t, n, m, rfl, hR, n1, by omega, m1, by omega, fun b hb => ?_⟩
  have lt := hR.1
  have no : ¬ LedT n m one other t → P (.bl false) := fun h => hP false ⟨fun z => (by cases z), fun z => absurd z h⟩
  dsimp only
  cases b with
  | false =>
    walk_at "go"
    exact no fun z => by have := hb.mpr z.1; cases this
  | true =>
    have hE := hb.mp rfl
    have nm := hE.1
    walk_at "go"
    by_cases c1 : t.length = one.length
    case neg =>
      rw [if_neg (by omega)]
      exact no fun z => c1 (by rw [lt]; exact z.2.1.symm)
    rw [if_pos (by omega)]
    by_cases c2 : one.length = other.length
    case neg =>
      rw [if_pos (by omega)]
      exact no fun z => c2 (z.2.1.trans z.2.2.1.symm)
    rw [if_neg (by omega)]
    have r0 := hR.row (i := 0) (by omega)
    have sb := sum_lt (bt _ (rowAt_mem (t := t) (i := 0) (by omega))) (by omega)
    refine asO_rows (by omega) ?_
    walk_at "go"
    refine ⟨t, other, rfl, by omega, fun r hr => by rw [hR.2 r hr]; omega, by omega, bt.mono (by decide), b2.mono (by decide), ?_⟩
    walk_at "go"
    refine comp_ints (ns := one) (g := fun x => .int (x * (rowAt t 0).sum)) (fun R h => by walk_at "go"; exact h) (by omega) (fun x hx R h => ?_) ?_
    · walk_at "gb"
      exact ⟨⟨200, 104, b1 x hx, sb, by decide⟩, h⟩
    rw [show one.map (fun x => L3.D.int (x * (rowAt t 0).sum)) = (one.map fun x => x * (rowAt t 0).sum).map L3.D.int from map_int]
    refine vEqL_ints ?_
    rw [if_neg (by decide)]
    exact hP _ ⟨fun z => ⟨hE, by omega, by omega, of_decide_eq_true z⟩, fun z => decide_eq_true z.2.2.2⟩
theorem band_n {a b : Nat} : Builtin.bitAnd (a : Int) (b : Int) = ((a &&& b : Nat) : Int) := by
  unfold Builtin.bitAnd
  rw [decide_eq_true (show (0 : Int) ≤ a by omega), decide_eq_true (show (0 : Int) ≤ b by omega)]
  simp
theorem bor_n {a b : Nat} : Builtin.bitOr (a : Int) (b : Int) = ((a ||| b : Nat) : Int) := by
  unfold Builtin.bitOr Builtin.bitAnd Builtin.bitNot
  rw [decide_eq_false (show ¬ (0 : Int) ≤ -(a : Int) - 1 by omega), decide_eq_false (show ¬ (0 : Int) ≤ -(b : Int) - 1 by omega)]
  simp only
  rw [show (-(-(a : Int) - 1) - 1).toNat = a by omega, show (-(-(b : Int) - 1) - 1).toNat = b by omega]
  omega
theorem bxor_bd {x y : Int} {k : Nat} (hx : 0 ≤ x ∧ x < 2 ^ k) (hy : 0 ≤ y ∧ y < 2 ^ k) : 0 ≤ Builtin.bitXor x y ∧ Builtin.bitXor x y < 2 ^ k := by
  obtain ⟨a, rfl⟩ : ∃ a : Nat, x = a := ⟨x.toNat, by omega⟩
  obtain ⟨b, rfl⟩ : ∃ b : Nat, y = b := ⟨y.toNat, by omega⟩
  have ha : a < 2 ^ k := by have := hx.2; exact_mod_cast this
  have hb : b < 2 ^ k := by have := hy.2; exact_mod_cast this
  unfold Builtin.bitXor
  rw [bor_n, band_n]
  have h1 : a &&& b ≤ a := Nat.and_le_left
  have h2 : a ≤ a ||| b := Nat.left_le_or
  have h3 : a ||| b < 2 ^ k := Nat.or_lt_two_pow ha hb
  have h4 : ((a ||| b : Nat) : Int) < 2 ^ k := by exact_mod_cast h3
  omega
theorem band_bd {x : Int} {m : Nat} (hx : 0 ≤ x) : 0 ≤ Builtin.bitAnd x (m : Int) ∧ Builtin.bitAnd x (m : Int) ≤ m := by
  obtain ⟨a, rfl⟩ : ∃ a : Nat, x = a := ⟨x.toNat, by omega⟩
  rw [band_n]
  have : a &&& m ≤ m := Nat.and_le_right
  omega
def S_law_fold : DSp := fun ds P => ∃ (ns : List Int) (x : Int), ds = [.scr ns, .int x] ∧ 0 ≤ x ∧ x < 2 ^ 64 ∧ ∀ y : Int, 0 ≤ y → y < 2 ^ 64 → P (.int y)
theorem mono_law_fold : DMono S_law_fold := by
  intro xs P P' k h
  unfold S_law_fold at h ⊢
  grind
theorem len_law_fold : ∀ ds P, S_law_fold ds P → ds.length = 2 := by
  intro ds P h
  obtain ⟨_, _, e, _⟩ := h
  rw [e]; rfl
theorem ok_law_fold {c : Cs} {f : Addr} {fd : FuncData} (F : FnAt K mg "_law_fold" s_law_fold P_law_fold f fd) (A_ : Fns K mg c) (T : Txt K mg) (xs : Exs K mg base c) : FnOk P w K mg base CX0 1 f fd P_law_fold (spP K S_law_fold) := by
  refine F.fn.ok sc_law_fold (fun vs H Q E h => spP_len len_law_fold h) (fun cdv A outer s H vs Q E hr h => ?_)
  refine ⟨_, (pss_cons (ps_for PassesOwn.never rfl (pi_listK (K := K) rfl (pv 0)) (pg_name (i := 2) sc_law_fold.nd rfl (by first | exact Or.inl rfl | exact Or.inr rfl)) (pss_cons (ps_set (i := 1) sc_law_fold.nd rfl (by first | exact Or.inl rfl | exact Or.inr rfl) (pe_op op_mod (pe_op op_mulB (pe_op op_xor (pv 1) (pe_op op_mod (pv 2) (pe_op op_pow pe_int pe_int))) pe_int) (pe_op op_pow pe_int pe_int)))
      (pss_one (ps_set (i := 1) sc_law_fold.nd rfl (by first | exact Or.inl rfl | exact Or.inr rfl) (pe_op op_xor (pv 1) (pe_op op_fdivB (pv 1) (pe_op op_pow pe_int pe_int)))))))
      (pss_one (ps_ret (pv 1)))), fn_val (Γn := []) (N := N_law_fold) (st_seq (st_for (it_list (es_var 0)) (gt_name 2) (st_seq (ST.post (Γn := []) (st_setS 1 (EM.es (em_op o_intC (EM.er (em_op o_intC (EM.er (em_op o_int (ES.er (es_var 1)) (EM.er (em_op o_intC (ES.er (es_var 2)) (EM.er (em_op o_intC (EM.er em_int) (EM.er em_int))))))) (EM.er em_int))) (EM.er (em_op o_intC (EM.er em_int) (EM.er em_int)))))))
      (ST.post (Γn := []) (st_setS 1 (EM.es (em_op o_int (ES.er (es_var 1)) (EM.er (em_op o_intC (ES.er (es_var 1)) (EM.er (em_op o_intC (EM.er em_int) (EM.er em_int)))))))))))
      (st_ret (M := []) (ER.scal (ES.er (es_var 1))))) (fun ds P hS => ?_) h⟩
  obtain ⟨ns, x, rfl, h0, h1, hP⟩ := hS
  rw [show startD N_law_fold [.scr ns, .int x] = [some (.scr ns), some (.int x), none] from rfl]
  walk_at "v"
  refine loop_any (as := ns) (f := L3.D.int) (fun i δ => ∃ (y : Int) (o : Option D), δ = [some (.scr ns), some (.int y), o] ∧ 0 ≤ y ∧ y < 2 ^ 64) ⟨x, none, rfl, h0, h1⟩ ?_ ?_
  · rintro i a δ N e ⟨y, o, rfl, h0, h1⟩ hN
    have ha := emod_lt (x := a) (n := 18446744073709551616) (by decide)
    have hb := bxor_bd (k := 64) ⟨h0, h1⟩ (show 0 ≤ a % 18446744073709551616 ∧ a % 18446744073709551616 < 2 ^ 64 from ⟨ha.1, by have := ha.2; omega⟩)
    walk_at "go"
    have hc := emod_lt (x := Builtin.bitXor y (a % 18446744073709551616) * 3935559000370003845) (n := 18446744073709551616) (by decide)
    generalize Builtin.bitXor y (a % 18446744073709551616) * 3935559000370003845 % 18446744073709551616 = z at *
    have hd : 0 ≤ z / 2147483648 ∧ z / 2147483648 < 2 ^ 64 := by omega
    have he := bxor_bd (k := 64) (show 0 ≤ z ∧ z < 2 ^ 64 from ⟨hc.1, by have := hc.2; omega⟩) hd
    exact hN _ ⟨_, _, rfl, he.1, he.2⟩
  · rintro δ ⟨y, o, rfl, h0, h1⟩
    walk_at "v"
    exact hP y h0 h1
def S_law_next : DSp := fun ds P => ∃ x : Int, ds = [.int x] ∧ 0 ≤ x ∧ x < 2 ^ 65 ∧ ∀ y : Int, 0 ≤ y → y < 2 ^ 64 → P (.int y)
theorem mono_law_next : DMono S_law_next := by
  intro xs P P' k h
  unfold S_law_next at h ⊢
  grind
theorem len_law_next : ∀ ds P, S_law_next ds P → ds.length = 1 := by
  intro ds P h
  obtain ⟨_, e, _⟩ := h
  rw [e]; rfl
theorem ok_law_next {c : Cs} {f : Addr} {fd : FuncData} (F : FnAt K mg "_law_next" s_law_next P_law_next f fd) (A_ : Fns K mg c) (T : Txt K mg) (xs : Exs K mg base c) : FnOk P w K mg base CX0 1 f fd P_law_next (spP K S_law_next) := by
  refine F.fn.ok sc_law_next (fun vs H Q E h => spP_len len_law_next h) (fun cdv A outer s H vs Q E hr h => ?_)
  refine ⟨_, (pss_one (ps_ret (pe_op op_mod (pe_op op_mulB (pe_op op_xor (pv 0) (pe_op op_fdivB (pv 0) (pe_op op_pow pe_int pe_int))) pe_int) (pe_op op_pow pe_int pe_int)))), fn_val (Γn := []) (N := N_law_next) (st_ret (M := []) (em_op o_intC (EM.er (em_op o_intC (EM.er (em_op o_int (ES.er (es_var 0)) (EM.er (em_op o_intC (ES.er (es_var 0)) (EM.er (em_op o_intC (EM.er em_int) (EM.er em_int))))))) (EM.er em_int))) (EM.er (em_op o_intC (EM.er em_int) (EM.er em_int))))) (fun ds P hS => ?_) h⟩
  obtain ⟨x, rfl, h0, h1, hP⟩ := hS
  rw [show startD N_law_next [.int x] = [some (.int x)] from rfl]
  have hb := bxor_bd (k := 65) ⟨h0, h1⟩ (show 0 ≤ x / 134217728 ∧ x / 134217728 < 2 ^ 65 by omega)
  walk_at "go"
  try refine ⟨mulC ⟨65, 64, by omega, by decide, by decide⟩, ?_⟩
  walk_at "go"
  have hc := emod_lt (x := Builtin.bitXor x (x / 134217728) * 2685821657736338717) (n := 18446744073709551616) (by decide)
  exact hP _ hc.1 (by have := hc.2; omega)
def Hold (c : Cs) (d : D) (v : Bool) : Prop := (isI c.MixPaper mixNs d ∧ ∀ P : DK, P (.bl v) → S_MixPaper_holds c [d] P) ∨ (isI c.LeadPaper ledNs d ∧ ∀ P : DK, P (.bl v) → S_LeadPaper_holds c [d] P)
def S_law_judged (c : Cs) : DSp := fun ds P => ∃ (d : D) (v : Bool), ds = [d, .bl v] ∧ Hold c d v ∧ P (.bl true)
theorem mono_law_judged {c : Cs} : DMono (S_law_judged c) := by
  intro xs P P' k h
  unfold S_law_judged at h ⊢
  grind
theorem len_law_judged {c : Cs} : ∀ ds P, (S_law_judged c) ds P → ds.length = 2 := by
  intro ds P h
  obtain ⟨_, _, e, _⟩ := h
  rw [e]; rfl
theorem ok_law_judged {c : Cs} {f : Addr} {fd : FuncData} (F : FnAt K mg "_law_judged" s_law_judged P_law_judged f fd) (A_ : Fns K mg c) (T : Txt K mg) (xs : Exs K mg base c) : FnOk P w K mg base CX0 6 f fd P_law_judged (spP K (S_law_judged c)) := by
  obtain ⟨f0, d0, E_MixPaper_holds⟩ := A_.h_MixPaper_holds
  have G_MixPaper_holds : FnOk P w K mg base CX0 4 f0 d0 P_MixPaper_holds (spP K (S_MixPaper_holds c)) := ok_MixPaper_holds E_MixPaper_holds A_ T xs
  obtain ⟨f1, d1, E_LeadPaper_holds⟩ := A_.h_LeadPaper_holds
  have G_LeadPaper_holds : FnOk P w K mg base CX0 5 f1 d1 P_LeadPaper_holds (spP K (S_LeadPaper_holds c)) := ok_LeadPaper_holds E_LeadPaper_holds A_ T xs
  refine F.fn.ok sc_law_judged (fun vs H Q E h => spP_len len_law_judged h) (fun cdv A outer s H vs Q E hr h => ?_)
  refine ⟨_, (pss_cons (ps_for PassesOwn.never rfl (pi_range1 rfl T.range_ (pa_cons pe_int pa_nil)) (pg_name (i := 2) sc_law_judged.nd rfl (by first | exact Or.inl rfl | exact Or.inr rfl)) (pss_cons (ps_set (i := 3) sc_law_judged.nd rfl (by first | exact Or.inl rfl | exact Or.inr rfl) (pe_orE (pe_meth0 (pv 0) xs.i_MixPaper.cl E_MixPaper_holds.mt G_MixPaper_holds (hr.mono (by decide)) E_MixPaper_holds.bd .nil pass0) (pe_meth0 (pv 0) xs.i_LeadPaper.cl E_LeadPaper_holds.mt G_LeadPaper_holds (hr.mono (by decide)) E_LeadPaper_holds.bd .nil pass0)))
      (pss_one (ps_if (PW.pt (pw_or (pt_not (pt_val (pe_callB (call_isinstK (K := K) rfl) (by rfl) T.isinstance_ boot_isinstance (pa_cons (pv 3) (pa_cons (pe_bltn (v := .ty "bool") rfl T.bool_ boot_bool rfl) pa_nil))))) (pw_or1 (pt_cmpR op_ne (pv 3) (pv 1) (nomark _))))) (pss_one (ps_ret pe_bl)) pss_nil))))
      (pss_one (ps_ret (pe_callB (call_isC (K := K) (P := c.Paper) rfl) (by rfl) T.isinstance_ boot_isinstance (pa_cons (pv 0) (pa_cons (pe_glob (v := .ref c.Paper) rfl xs.m_Paper rfl) pa_nil)))))), fn_val (Γn := []) (N := N_law_judged) (st_seq (st_for (it_rng1 (ar_cons (EM.er em_int) ar_nil)) (gt_name 2) (st_seq (ST.post (Γn := []) (st_setS 3 (EM.es (em_orE (em_meth (C := c.MixPaper) ["table", "pairs"] mono_MixPaper_holds (ES.er (es_var 0)) ar_nil) (em_meth (C := c.LeadPaper) ["one", "other", "table"] mono_LeadPaper_holds (ES.er (es_var 0)) ar_nil)))))
      (st_if (tr_or (tr_not (tr_b (EM.er (em_isinst kit_bool (ES.er (es_var 3)))))) (tr_test (EM.er (em_op o_ne (ES.er (es_var 3)) (ES.er (es_var 1)))))) (st_ret (M := []) em_bl) st_next)))
      (st_ret (M := []) (em_isC _ (isP xs) (ES.er (es_var 0))))) (fun ds P hS => ?_) h⟩
  obtain ⟨d, v, rfl, hH, hP⟩ := hS
  rw [show startD N_law_judged [d, .bl v] = [some (d), some (.bl v), none, none] from rfl]
  walk_at "go"
  refine loop_rng (n := 2) (fun i δ => ∃ o2 o3 : Option D, δ = [some d, some (.bl v), o2, o3]) ⟨none, none, rfl⟩ ?_ ?_
  · rintro i δ N hi ⟨o2, o3, rfl⟩ hN
    walk_at "v"
    rcases hH with ⟨h1, h2⟩ | ⟨h1, h2⟩
    · refine .inl ⟨h1, h2 _ ?_⟩
      walk_at "go"
      exact hN _ ⟨_, _, rfl⟩
    · refine .inr ⟨h1, h2 _ ?_⟩
      walk_at "go"
      exact hN _ ⟨_, _, rfl⟩
  · rintro δ ⟨o2, o3, rfl⟩
    walk_at "v"
    refine ⟨?_, hP⟩
    rcases hH with ⟨h1, _⟩ | ⟨h1, _⟩
    · obtain ⟨ds, rfl⟩ := isI_out h1
      exact ⟨_, _, _, rfl, by simp⟩
    · obtain ⟨ds, rfl⟩ := isI_out h1
      exact ⟨_, _, _, rfl, by simp⟩
def PsN (B n : Nat) (ps : List (Int × List Int)) : Prop := ∀ q ∈ ps, q.1.natAbs ≤ B ∧ q.2.length = n ∧ ∀ c ∈ q.2, 0 ≤ c ∧ c < n
theorem pick3 {a b c i : Int} {P : DK} (hi : 0 ≤ i ∧ i < 3) (h : ∀ v, v = a ∨ v = b ∨ v = c → P (.int v)) : asO (atI [L3.D.int a, L3.D.int b, L3.D.int c] i) P := by
  rcases (show i = 0 ∨ i = 1 ∨ i = 2 by omega) with rfl | rfl | rfl
  · exact h _ (.inl rfl)
  · exact h _ (.inr (.inl rfl))
  · exact h _ (.inr (.inr rfl))
def S_law_pairs : DSp := fun ds P => ∃ (ns : List Int) (x : Int), ds = [.scr ns, .int x] ∧ ns.length ≤ 63 ∧ 0 ≤ x ∧ x < 2 ^ 64 ∧ ∀ (ps : List (Int × List Int)) (n : Nat), 1 ≤ n → n ≤ 6 → 1 ≤ ps.length → ps.length ≤ 6 → PsN (10 ^ 12 + 1) n ps → P (.lst (ps.map dPr))
theorem peel {A R : DS} {E : DEnds} {δ : Dl} (h : ∀ R', R' = R → vSeq A R' E δ) : vSeq A R E δ := h R rfl
theorem peelE {A R : DS} {E : DEnds} {δ : Dl} (h : ∀ R' E', R' = R → E' = E → vSeq A R' E' δ) : vSeq A R E δ := h R E rfl rfl
theorem ifS {dc : DT} {d e : DS} {E : DEnds} {δ : Dl} (p : Prop) [Decidable p] (ht : ∀ Q : Bool → Prop, Q (decide p) → dc δ Q) (h1 : p → d E δ) (h2 : ¬ p → e E δ) : vIfS dc d e E δ := by
  unfold vIfS
  refine ht _ ?_
  by_cases h : p
  · rw [decide_eq_true h]; exact h1 h
  · rw [decide_eq_false h]; exact h2 h
theorem mono_law_pairs : DMono S_law_pairs := by
  intro xs P P' k h
  obtain ⟨ns, x, e, h1, h2, h3, h⟩ := h
  exact ⟨ns, x, e, h1, h2, h3, fun ps n a b d f g => k _ (h ps n a b d f g)⟩
theorem len_law_pairs : ∀ ds P, S_law_pairs ds P → ds.length = 2 := by
  intro ds P h
  obtain ⟨_, _, e, _⟩ := h
  rw [e]; rfl
theorem ok_law_pairs {c : Cs} {f : Addr} {fd : FuncData} (F : FnAt K mg "_law_pairs" s_law_pairs P_law_pairs f fd) (A_ : Fns K mg c) (T : Txt K mg) (xs : Exs K mg base c) : FnOk P w K mg base CX0 2 f fd P_law_pairs (spP K S_law_pairs) := by
  obtain ⟨f0, d0, E_law_next⟩ := A_.h_law_next
  have G_law_next : FnOk P w K mg base CX0 1 f0 d0 P_law_next (spP K S_law_next) := ok_law_next E_law_next A_ T xs
  refine F.fn.ok sc_law_pairs (fun vs H Q E h => spP_len len_law_pairs h) (fun cdv A outer s H vs Q E hr h => ?_)
  refine ⟨_, (pss_cons (ps_set (i := 2) sc_law_pairs.nd rfl (by first | exact Or.inl rfl | exact Or.inr rfl) (pe_op op_add pe_int (pe_op op_mod (pv 1) pe_int)))
      (pss_cons (ps_set (i := 3) sc_law_pairs.nd rfl (by first | exact Or.inl rfl | exact Or.inr rfl) (pe_lst pa_nil))
      (pss_cons (ps_for PassesOwn.never rfl (pi_range1 rfl T.range_ (pa_cons (pe_op op_add pe_int (pe_op op_mod (pe_op op_fdivB (pv 1) pe_int) pe_int)) pa_nil)) (pg_name (i := 4) sc_law_pairs.nd rfl (by first | exact Or.inl rfl | exact Or.inr rfl)) (pss_cons (ps_setC0 (i := 5) (CompScope.of (sc0 := (defScope s_law_pairs)) (tn := ["_law_place"]) (cap := ["_law_number", "_law_size", "_law_k"]) (idx := [1, 2, 4]) (by decide +kernel) rfl rfl) sc_law_pairs.nd rfl (by first | exact Or.inl rfl | exact Or.inr rfl) (pi_range1 rfl T.range_ (pa_cons (pv 2) pa_nil)) (GSet.name (by decide)) (fun _ _ _ _ _ => pg_name (i := 0) (nodupB_iff (l := ["_law_place", "_law_number", "_law_size", "_law_k"]) (by decide +kernel)) rfl (by first | exact Or.inl rfl | exact Or.inr rfl) (by first | exact .inl rfl | exact .inr rfl)) (fun _ _ _ _ _ => (pe_op op_mod (pe_op op_add (pe_op op_mulB (pv 0) (pe_op op_add pe_int (pe_op op_mulB pe_int (pe_op op_and (pe_op op_shr (pv 1) pe_int) pe_int)))) (pv 3)) (pv 2))))
      (pss_cons (ps_if (pt_cmpR op_ne (pe_callB call_lenSetN (by rfl) T.len_ PySem.boot_len (pa_cons (pe_callTy (call_setN rfl (K := K) rfl) (by rfl) T.set_ PyProof.Rows.boot_set (pa_cons (pv 5) pa_nil)) pa_nil)) (pv 2) (nomark _)) (pss_one (ps_set (i := 5) sc_law_pairs.nd rfl (by first | exact Or.inl rfl | exact Or.inr rfl) (pe_listRngK rfl rfl T.list_ rfl T.range_ (pv 2)))) pss_nil)
      (pss_cons (ps_expr (pe_bm PySem.F.plainAttrs_list PySem.F.slot_list_append PySem.F.type_list_append mt_append (pv 3) (pa_cons (pe_tup (pa_cons (pe_op op_add pe_int (pe_op op_mod (pe_op op_shr (pv 1) pe_int) (pe_ix (ix_listK (K := K) rfl) (pe_lst (pa_cons pe_int (pa_cons (pe_op op_pow pe_int pe_int) (pa_cons (pe_op op_pow pe_int pe_int) pa_nil)))) (pe_op op_mod (pe_op op_fdivB (pv 1) pe_int) pe_int) (fun _ _ => rfl)))) (pa_cons (pv 5) pa_nil))) pa_nil)))
      (pss_one (ps_set (i := 1) sc_law_pairs.nd rfl (by first | exact Or.inl rfl | exact Or.inr rfl) (pe_call G_law_next (hr.mono (by decide)) rfl E_law_next.mg E_law_next.fn.kp E_law_next.bd .nil pass0 (pa_cons (pv 1) pa_nil))))))))
      (pss_cons (ps_for PassesOwn.never rfl (pi_listK (K := K) rfl (pe_slice (sl_listK (K := K) rfl) (pv 0) po_none (po_some pe_int))) (pg_name (i := 6) sc_law_pairs.nd rfl (by first | exact Or.inl rfl | exact Or.inr rfl)) (pss_cons (ps_set (i := 5) sc_law_pairs.nd rfl (by first | exact Or.inl rfl | exact Or.inr rfl) (pe_ix (ix_tupK (K := K) rfl) (pe_ix (ix_listK (K := K) rfl) (pv 3) (pe_op op_mod (pv 6) (pe_callB (call_lenK (K := K) rfl) (by rfl) T.len_ PySem.boot_len (pa_cons (pv 3) pa_nil))) (fun _ _ => rfl)) pe_int (fun _ _ => rfl)))
      (pss_cons (ps_set (i := 7) sc_law_pairs.nd rfl (by first | exact Or.inl rfl | exact Or.inr rfl) (pe_op op_mod (pe_op op_fdivB (pv 6) pe_int) (pv 2)))
      (pss_cons (ps_set (i := 8) sc_law_pairs.nd rfl (by first | exact Or.inl rfl | exact Or.inr rfl) (pe_op op_mod (pe_op op_fdivB (pv 6) pe_int) (pv 2)))
      (pss_one (ps_asg (pe_tup (pa_cons (pe_ix (ix_listK (K := K) rfl) (pv 5) (pv 8) (fun _ _ => rfl)) (pa_cons (pe_ix (ix_listK (K := K) rfl) (pv 5) (pv 7) (fun _ _ => rfl)) pa_nil))) (pg_tupK (K := K) rfl rfl (pgs_cons (pg_sub (pv 5) (pv 7) set_list) (pgs_cons (pg_sub (pv 5) (pv 8) set_list) pgs_nil)))))))))
      (pss_one (ps_ret (pv 3))))))), fn_val (Γn := [3]) (N := N_law_pairs) (st_seq (ST.post (Γn := []) (st_setS 2 (EM.es (em_op o_int (EM.er em_int) (EM.er (em_op o_intC (ES.er (es_var 1)) (EM.er em_int)))))))
      (st_seq (ST.post (Γn := [3]) (st_setM (M := []) 3 (em_lst am_nil)))
      (st_seq (st_for (it_rng1 (ar_cons (EM.er (em_op o_int (EM.er em_int) (EM.er (em_op o_intC (EM.er (em_op o_intC (ES.er (es_var 1)) (EM.er em_int))) (EM.er em_int))))) ar_nil)) (gt_name 4) (st_seq (ST.post (Γn := [5, 3]) (st_setM (M := []) 5 (em_comp0 (it_rng1 (ar_cons (ES.er (es_var 2)) ar_nil)) (gt_name 0) (em_op o_intC (EM.er (em_op o_int (EM.er (em_op o_intC (ES.er (es_var 0)) (EM.er (em_op o_int (EM.er em_int) (EM.er (em_op o_intC (EM.er em_int) (EM.er (em_op o_int (EM.er (em_op o_intC (ES.er (es_var 1)) (EM.er em_int))) (EM.er em_int))))))))) (ES.er (es_var 3)))) (ES.er (es_var 2))))))
      (st_seq (st_if (tr_test (EM.er (em_op o_ne (er_lenSet (er_var 5)) (ES.er (es_var 2))))) (ST.post (Γn := [5, 3]) (st_setM (M := []) 5 (em_listRng (ES.er (es_var 2))))) st_next)
      (st_seq (ST.post (Γn := [3]) (st_append (M := [5]) 3 (em_tup (am_cons (em_op o_int (EM.er em_int) (EM.er (em_op o_intC (EM.er (em_op o_intC (ES.er (es_var 1)) (EM.er em_int))) (ES.er (es_ixL (EM.es (em_lst (am_cons0 em_int (am_cons0 (em_op o_intC (EM.er em_int) (EM.er em_int)) (am_cons0 (em_op o_intC (EM.er em_int) (EM.er em_int)) am_nil))))) (EM.er (em_op o_intC (EM.er (em_op o_intC (ES.er (es_var 1)) (EM.er em_int))) (EM.er em_int)))))))) (am_cons (em_var 5) am_nil)))))
      (ST.post (Γn := [3]) (st_setS 1 (EM.es (em_call (S := S_law_next) mono_law_next (ar_cons (ES.er (es_var 1)) ar_nil)))))))))
      (st_seq (st_for (it_list (EM.es (em_sl (ES.er (es_var 0)) or_none (or_some (EM.er em_int))))) (gt_name 6) (st_lend1 3 5 (EM.er (em_op o_intC (ES.er (es_var 6)) (EM.er (em_cb c_len (ar_cons (er_var 3) ar_nil)))))
      (st_seq (ST.post (Γn := [5, 3]) (st_setS 7 (EM.es (em_op o_intC (EM.er (em_op o_intC (ES.er (es_var 6)) (EM.er em_int))) (ES.er (es_var 2))))))
      (st_seq (ST.post (Γn := [5, 3]) (st_setS 8 (EM.es (em_op o_intC (EM.er (em_op o_intC (ES.er (es_var 6)) (EM.er em_int))) (ES.er (es_var 2))))))
      (st_pin 5 (st0_sub2 5 (em_tup (am_cons0 (ER.scal (er_ixL (er_var 5) (ES.er (es_var 8)))) (am_cons0 (ER.scal (er_ixL (er_var 5) (ES.er (es_var 7)))) am_nil))) (ES.er (es_var 7)) (ES.er (es_var 8))))))))
      (st_ret (M := [3]) (em_var 3)))))) (fun ds P hS => ?_) h⟩
  obtain ⟨ns, x, rfl, hz, x0, x1, hP⟩ := hS
  rw [show startD N_law_pairs [.scr ns, .int x] = [some (.scr ns), some (.int x), none, none, none, none, none, none, none] from rfl]
  have h6 := emod_lt (x := x) (n := 6) (by decide)
  have k6 := emod_lt (x := x / 8) (n := 6) (by decide)
  obtain ⟨n, hn⟩ : ∃ n : Nat, 1 + x % 6 = (n : Int) := ⟨(1 + x % 6).toNat, by omega⟩
  obtain ⟨m, hm⟩ : ∃ m : Nat, 1 + x / 8 % 6 = (m : Int) := ⟨(1 + x / 8 % 6).toNat, by omega⟩
  refine peel fun R1 e1 => ?_
  walk_at "go"
  rw [hn]
  subst e1
  refine peel fun R1 e1 => ?_
  walk_at "go"
  subst e1
  refine peel fun R1 e1 => ?_
  walk_at "go"
  rw [hm]
  refine loop_rng (lo := 0) (n := m) (fun i δ => ∃ (y : Int) (ps : List (Int × List Int)) (o4 o5 o6 o7 o8 : Option D), δ = [some (.scr ns), some (.int y), some (.int n), some (.lst (ps.map dPr)), o4, o5, o6, o7, o8] ∧ 0 ≤ y ∧ y < 2 ^ 64 ∧ ps.length = i ∧ PsN (10 ^ 12 + 1) n ps) ⟨x, [], none, none, none, none, none, rfl, x0, x1, rfl, fun q h => absurd h List.not_mem_nil⟩ ?_ ?_
  · rintro i δ N hi ⟨y, ps, o4, o5, o6, o7, o8, rfl, y0, y1, hl, hps⟩ hN
    simp only [vgName, List.set_cons_succ, List.set_cons_zero]
    refine peelE fun R0 E0 e0 hE => ?_
    walk_at "go"
    have hb : 0 ≤ Builtin.bitAnd (y / 512) 1 ∧ Builtin.bitAnd (y / 512) 1 ≤ 1 := band_bd (m := 1) (by omega)
    refine comp_rng (lo := 0) (n := n) (g := fun (j : Nat) => .int (((j : Int) * (1 + 2 * Builtin.bitAnd (y / 512) 1) + (0 + (i : Int))) % n)) (fun R h => ?_) (by omega) (fun j hj R h => ?_) ?_
    · walk_at "go"; exact h
    · walk_at "gb"
      rw [Int.zero_add (j : Int)]
      exact h
    rw [map_int]
    have hd : ∀ c ∈ (List.range n).map (fun (j : Nat) => ((j : Int) * (1 + 2 * Builtin.bitAnd (y / 512) 1) + (0 + (i : Int))) % n), 0 ≤ c ∧ c < n := fun c hc => by
      obtain ⟨j, _, rfl⟩ := List.mem_map.mp hc
      exact emod_lt (by omega)
    have ld : ((List.range n).map (fun (j : Nat) => ((j : Int) * (1 + 2 * Builtin.bitAnd (y / 512) 1) + (0 + (i : Int))) % n)).length = n := by rw [List.length_map, List.length_range]
    generalize (List.range n).map (fun (j : Nat) => ((j : Int) * (1 + 2 * Builtin.bitAnd (y / 512) 1) + (0 + (i : Int))) % n) = d at *
    subst e0
    refine peel fun R0 e0 => ?_
    have k2 : ∀ d : List Int, d.length = n → (∀ c ∈ d, 0 ≤ c ∧ c < n) → R0 E0 [some (.scr ns), some (.int y), some (.int n), some (.lst (ps.map dPr)), some (.int (0 + (i : Int))), some (dI d), o6, o7, o8] := by
      subst e0
      intro d ld hd
      refine peel fun R0 e0 => ?_
      walk_at "go"
      refine pick3 (emod_lt (by decide)) fun v hv => ?_
      have v1 : 1 ≤ v ∧ v ≤ 10 ^ 12 := by omega
      have ve := emod_lt (x := y / 1024) (n := v) (by omega)
      walk_at "go"
      subst e0
      walk_at "go"
      refine ⟨y, rfl, y0, by omega, fun z z0 z1 => ?_⟩
      rw [hE]
      refine hN _ ⟨z, ps ++ [(1 + y / 1024 % v, d)], _, _, _, _, _, by rw [List.map_append]; rfl, z0, z1, by rw [List.length_append, hl]; rfl, fun q hq => ?_⟩
      rcases List.mem_append.mp hq with w | w
      · exact hps q w
      · rw [List.mem_singleton.mp w]
        exact ⟨by show (1 + y / 1024 % v).natAbs ≤ _; omega, ld, hd⟩
    walk_at "go"
    intro k
    split
    · refine ⟨by omega, k2 _ ?_ fun c hc => ?_⟩
      · unfold rngI; rw [List.length_map, List.length_range]
      · unfold rngI at hc
        obtain ⟨j, hj, rfl⟩ := List.mem_map.mp hc
        have := List.mem_range.mp hj
        omega
    · exact k2 _ ld hd
  · rintro δ ⟨y, ps, o4, o5, o6, o7, o8, rfl, y0, y1, hl, hps⟩
    subst e1
    walk_at "go"
    obtain ⟨cs, ec, hc⟩ := cut_ints (ns := ns) (lo := none) (hi := some 6)
    rw [ec]
    have m1 : 1 ≤ ps.length ∧ ps.length ≤ 6 := by omega
    clear hl
    refine loop_any (as := cs) (f := L3.D.int) (fun i δ => ∃ (ps : List (Int × List Int)) (o4 o5 o6 o7 o8 : Option D), δ = [some (.scr ns), some (.int y), some (.int n), some (.lst (ps.map dPr)), o4, o5, o6, o7, o8] ∧ (1 ≤ ps.length ∧ ps.length ≤ 6) ∧ PsN (10 ^ 12 + 1) n ps) ⟨ps, o4, o5, o6, o7, o8, rfl, m1, hps⟩ ?_ ?_
    · clear hps m1 ps o4 o5 o6 o7 o8
      rintro i a δ N e ⟨ps, o4, o5, o6, o7, o8, rfl, m1, hps⟩ hN
      simp only [vgName, List.set_cons_succ, List.set_cons_zero]
      have am := emod_lt (x := a) (n := (ps.length : Int)) (by omega)
      refine ⟨_, ps.map dPr, rfl, rfl, (show 5 < 9 by decide), ?_⟩
      walk_at "go"
      obtain ⟨q, hq⟩ : ∃ q, ps[(a % (ps.length : Int)).toNat]? = some q := ⟨_, List.getElem?_eq_getElem (by omega)⟩
      obtain ⟨b1, b2, b3⟩ := hps q (List.mem_of_getElem? hq)
      have ak := emod_lt (x := a / 7) (n := (n : Int)) (by omega)
      have al := emod_lt (x := a / 49) (n := (n : Int)) (by omega)
      refine ⟨a % (ps.length : Int), .int q.1, q.2.map L3.D.int, rfl, am.1, rfl, by rw [List.getElem?_map, hq]; rfl, fun b => ?_⟩
      simp only [setQ, List.set_cons_succ, List.set_cons_zero]
      walk_at "go"
      have fl : (q.2.map L3.D.int).all flatD = true := by rw [List.all_map, List.all_eq_true]; exact fun _ _ => rfl
      refine asO_ints (by omega) ⟨rfl, asO_ints (by omega) ⟨rfl, by decide, _, _, rfl, rfl, rfl, fl, by omega, by omega, ?_⟩⟩
      have cel : ∀ i : Int, 0 ≤ i → i < n → 0 ≤ q.2.getD i.toNat 0 ∧ q.2.getD i.toNat 0 < n := fun i h0 h1 => b3 _ (by
        rw [List.getD_eq_getElem?_getD, List.getElem?_eq_getElem (by omega)]
        exact List.getElem_mem _)
      have c1 := cel _ al.1 al.2
      have c2 := cel _ ak.1 ak.2
      refine ⟨_, _, b, _, rfl, rfl, rfl, .inl ⟨(a % (ps.length : Int)).toNat, .int q.1, List.getElem?_set_self (by rw [List.length_map]; omega), ?_⟩⟩
      simp only [setQ, List.set_cons_succ, List.set_cons_zero]
      have e5 : ((ps.map dPr).set (a % (ps.length : Int)).toNat (.tup [.int q.1, .raw (.ref b)])).set (a % (ps.length : Int)).toNat (.tup [.int q.1, .lst (((q.2.map L3.D.int).set (a / 7 % (n : Int)).toNat (.int (q.2.getD (a / 49 % (n : Int)).toNat 0))).set (a / 49 % (n : Int)).toNat (.int (q.2.getD (a / 7 % (n : Int)).toNat 0)))]) = (ps.set (a % (ps.length : Int)).toNat (q.1, (q.2.set (a / 7 % (n : Int)).toNat (q.2.getD (a / 49 % (n : Int)).toNat 0)).set (a / 49 % (n : Int)).toNat (q.2.getD (a / 7 % (n : Int)).toNat 0))).map dPr := by
        rw [List.set_set, List.map_set]
        show _ = (ps.map dPr).set _ (.tup [.int q.1, .lst (((q.2.set _ _).set _ _).map L3.D.int)])
        rw [List.map_set, List.map_set]
      rw [e5]
      refine hN _ ⟨_, _, _, _, _, _, rfl, by rw [List.length_set]; exact m1, fun z hz => ?_⟩
      rcases List.mem_or_eq_of_mem_set hz with w | w
      · exact hps z w
      · rw [w]
        refine ⟨b1, by rw [List.length_set, List.length_set]; exact b2, fun c hc => ?_⟩
        rcases List.mem_or_eq_of_mem_set hc with w | w
        · rcases List.mem_or_eq_of_mem_set w with w | w
          · exact b3 c w
          · rw [w]; exact c1
        · rw [w]; exact c2
    · rintro δ ⟨ps, o4, o5, o6, o7, o8, rfl, m1, hps⟩
      walk_at "go"
      exact hP ps n (by omega) (by omega) m1.1 m1.2 hps
def S_law_summed : DSp := fun ds P => ∃ (ps : List (Int × List Int)) (n : Nat), ds = [.lst (ps.map dPr), .int n] ∧ 1 ≤ n ∧ n ≤ 8 ∧ ps.length ≤ 200 ∧ (∀ q ∈ ps, q.2.length = n ∧ ∀ c ∈ q.2, 0 ≤ c ∧ c < n) ∧ ∀ t, Tab n ps t → P (dT t)
theorem mono_law_summed : DMono S_law_summed := by
  intro xs P P' k h
  unfold S_law_summed at h ⊢
  grind
theorem len_law_summed : ∀ ds P, S_law_summed ds P → ds.length = 2 := by
  intro ds P h
  obtain ⟨_, _, e, _⟩ := h
  rw [e]; rfl
theorem ok_law_summed {c : Cs} {f : Addr} {fd : FuncData} (F : FnAt K mg "_law_summed" s_law_summed P_law_summed f fd) (A_ : Fns K mg c) (T : Txt K mg) (xs : Exs K mg base c) : FnOk P w K mg base CX0 1 f fd P_law_summed (spP K S_law_summed) := by
  refine F.fn.ok sc_law_summed (fun vs H Q E h => spP_len len_law_summed h) (fun cdv A outer s H vs Q E hr h => ?_)
  refine ⟨_, (pss_cons (ps_setC0 (i := 2) (CompScope.of (sc0 := (defScope s_law_summed)) (tn := ["_law_row"]) (cap := ["_law_size"]) (idx := [1]) (by decide +kernel) rfl rfl) sc_law_summed.nd rfl (by first | exact Or.inl rfl | exact Or.inr rfl) (pi_range1 rfl T.range_ (pa_cons (pv 1) pa_nil)) (GSet.name (by decide)) (fun _ _ _ _ _ => pg_name (i := 0) (nodupB_iff (l := ["_law_row", "_law_size"]) (by decide +kernel)) rfl (by first | exact Or.inl rfl | exact Or.inr rfl) (by first | exact .inl rfl | exact .inr rfl)) (fun _ _ _ _ _ => (pe_op op_rep (pe_lst (pa_cons pe_int pa_nil)) (pv 1))))
      (pss_cons (ps_for PassesOwn.never rfl (pi_listK (K := K) rfl (pv 0)) (pg_tupK (K := K) rfl rfl (pgs_cons (pg_name (i := 3) sc_law_summed.nd rfl (by first | exact Or.inl rfl | exact Or.inr rfl)) (pgs_cons (pg_name (i := 4) sc_law_summed.nd rfl (by first | exact Or.inl rfl | exact Or.inr rfl)) pgs_nil))) (pss_one (ps_for PassesOwn.never rfl (pi_range1 rfl T.range_ (pa_cons (pv 1) pa_nil)) (pg_name (i := 5) sc_law_summed.nd rfl (by first | exact Or.inl rfl | exact Or.inr rfl)) (pss_one (ps_asg (pe_op op_add (pe_ix (ix_listK (K := K) rfl) (pe_ix (ix_listK (K := K) rfl) (pv 2) (pv 5) (fun _ _ => rfl)) (pe_ix (ix_listK (K := K) rfl) (pv 4) (pv 5) (fun _ _ => rfl)) (fun _ _ => rfl)) (pv 3)) (pg_sub (pe_ix (ix_listK (K := K) rfl) (pv 2) (pv 5) (fun _ _ => rfl)) (pe_ix (ix_listK (K := K) rfl) (pv 4) (pv 5) (fun _ _ => rfl)) set_list))))))
      (pss_one (ps_ret (pv 2))))), fn_val (Γn := [2]) (N := N_law_summed) (st_seq (ST.post (Γn := [2]) (st_setM (M := []) 2 (em_comp0 (it_rng1 (ar_cons (ES.er (es_var 1)) ar_nil)) (gt_name 0) (em_op o_rep (EM.er (em_lst (am_cons0 em_int am_nil))) (ES.er (es_var 1))))))
      (st_seq (st_for (it_list (es_var 0)) (gt_tup (gts_cons (gt_name 3) (gts_cons (gt_name 4) gts_nil))) (st_for (it_rng1 (ar_cons (ES.er (es_var 1)) ar_nil)) (gt_name 5) (st_setItem2 2 (em_op o_int (er_ixL (er_ixL (er_var 2) (ES.er (es_var 5))) (ES.er (es_ixL (es_var 4) (ES.er (es_var 5))))) (ES.er (es_var 3))) (ES.er (es_var 5)) (ES.er (es_ixL (es_var 4) (ES.er (es_var 5)))))))
      (st_ret (M := [2]) (em_var 2)))) (fun ds P hS => ?_) h⟩
  obtain ⟨ps, n, rfl, n1, n8, p2, hq, hP⟩ := hS
  rw [show startD N_law_summed [.lst (ps.map dPr), .int n] = [some (.lst (ps.map dPr)), some (.int n), none, none, none, none] from rfl]
  walk_at "go"
  refine comp_rng (lo := 0) (n := n) (g := fun _ => dI (List.replicate n 0)) (fun R h => ?_) (by omega) (fun i hi R h => ?_) ?_
  · walk_at "go"; exact h
  · walk_at "gb"
    rw [rep_zero]
    exact ⟨⟨rfl, by omega, by omega⟩, h⟩
  rw [map_dI]
  walk_at "go"
  have h0 : Rect n n ((List.range n).map fun _ => List.replicate n (0 : Int)) := ⟨by rw [List.length_map, List.length_range], fun r hr => by
    obtain ⟨_, _, rfl⟩ := List.mem_map.mp hr
    exact List.length_replicate⟩
  have c0 : ∀ k j : Nat, k < n → j < n → cellAt ((List.range n).map fun _ => List.replicate n (0 : Int)) k j = 0 := fun k j hk hj => by
    unfold cellAt
    rw [List.getD_eq_getElem?_getD (l := (List.range n).map _), List.getElem?_map, List.getElem?_range hk, Option.map_some, Option.getD_some, List.getD_eq_getElem?_getD, List.getElem?_replicate, if_pos hj]; rfl
  refine loop_any (as := ps) (f := dPr) (fun i δ => ∃ (t : List (List Int)) (o3 o4 o5 : Option D), δ = [some (.lst (ps.map dPr)), some (.int n), some (dT t), o3, o4, o5] ∧ Tab n (ps.take i) t) ⟨_, none, none, none, rfl, h0, fun k j hk hj => by rw [c0 k j hk hj, List.take_zero]; rfl⟩ ?_ ?_
  · rintro i q δ N e ⟨t, o3, o4, o5, rfl, hT⟩ hN
    obtain ⟨lq, cq⟩ := hq q (List.mem_of_getElem? e)
    rw [show dPr q = .tup [.int q.1, dI q.2] from rfl]
    walk_at "go"
    refine loop_rng (lo := 0) (n := n) (fun k δ => ∃ (u : List (List Int)) (o5 : Option D), δ = [some (.lst (ps.map dPr)), some (.int n), some (dT u), some (.int q.1), some (dI q.2), o5] ∧ Rect n n u ∧ ∀ r j : Nat, r < n → j < n → cellAt u r j = cellAt t r j + if r < k ∧ q.2.getD r 0 = (j : Int) then q.1 else 0) ⟨t, _, rfl, hT.1, fun r j _ _ => by simp⟩ ?_ ?_
    · rintro k δ N' hk ⟨u, o5, rfl, hU, hc⟩ hN'
      have hl := hU.1
      have hrow := hU.row (i := k) (by omega)
      have ck : 0 ≤ q.2.getD k 0 ∧ q.2.getD k 0 < n := cq _ (by
        rw [List.getD_eq_getElem?_getD, List.getElem?_eq_getElem (by omega)]
        exact List.getElem_mem _)
      obtain ⟨c, ec⟩ : ∃ c : Nat, q.2.getD k 0 = (c : Int) := ⟨(q.2.getD k 0).toNat, by omega⟩
      rw [Int.zero_add]
      refine setItem2_tab (t := u) (a := (k : Int)) (b := (c : Int)) (v := cellAt u k c + q.1) rfl (fun R h => ?_) (fun R h => ?_) (fun R h => ?_) (by omega) (by rw [Int.toNat_natCast, hrow]; omega) ?_
      · walk_at "v"
        refine asO_rows (by omega) ?_
        walk_at "v"
        refine asO_ints (by omega) ?_
        rw [Int.toNat_natCast, ec]
        walk_at "v"
        refine asO_ints (by rw [hrow]; omega) ?_
        rw [Int.toNat_natCast]
        walk_at "v"
        exact h
      · walk_at "v"; exact h
      · walk_at "v"
        refine asO_ints (by omega) ?_
        rw [Int.toNat_natCast, ec]
        exact h
      rw [Int.toNat_natCast, Int.toNat_natCast]
      walk_at "v"
      refine hN' _ ⟨_, _, rfl, hU.setCell (by omega), fun r j hr hj => ?_⟩
      rw [cell_set hU (by omega) (by omega)]
      by_cases w : k = r ∧ c = j
      · obtain ⟨rfl, rfl⟩ := w
        rw [if_pos ⟨rfl, rfl⟩, hc k c hr hj, if_neg (fun z => by omega), if_pos ⟨by omega, ec⟩]
        omega
      · rw [if_neg w, hc r j hr hj]
        congr 1
        by_cases h1 : r < k ∧ q.2.getD r 0 = (j : Int)
        · rw [if_pos h1, if_pos ⟨by omega, h1.2⟩]
        · rw [if_neg h1, if_neg (fun z => ?_)]
          by_cases z1 : r = k
          · subst z1
            rw [ec] at z
            exact w ⟨rfl, by omega⟩
          · exact h1 ⟨by omega, z.2⟩
    · rintro δ ⟨u, o5, rfl, hU, hc⟩
      refine hN _ ⟨u, _, _, _, rfl, ?_⟩
      rw [List.take_add_one, e]
      exact hT.snoc hU fun r j hr hj => by rw [hc r j hr hj]; simp [hr]
  · rintro δ ⟨t, o3, o4, o5, rfl, hT⟩
    rw [List.take_length] at hT
    walk_at "v"
    exact hP t hT
def S_law_mixture : DSp := fun ds P => ∃ (ps : List (Int × List Int)), ds = [.lst (ps.map dPr)] ∧ ps.length ≤ 200 ∧ (∀ q ∈ ps, q.2.length ≤ 8) ∧ ∀ b : Bool, (b = true ↔ ∃ n, Mix n ps) → P (.bl b)
theorem mono_law_mixture : DMono S_law_mixture := by
  intro xs P P' k h
  unfold S_law_mixture at h ⊢
  grind
theorem len_law_mixture : ∀ ds P, S_law_mixture ds P → ds.length = 1 := by
  intro ds P h
  obtain ⟨_, e, _⟩ := h
  rw [e]; rfl
theorem ok_law_mixture {c : Cs} {f : Addr} {fd : FuncData} (F : FnAt K mg "_law_mixture" s_law_mixture P_law_mixture f fd) (A_ : Fns K mg c) (T : Txt K mg) (xs : Exs K mg base c) : FnOk P w K mg base CX0 1 f fd P_law_mixture (spP K S_law_mixture) := by
  refine F.fn.ok sc_law_mixture (fun vs H Q E h => spP_len len_law_mixture h) (fun cdv A outer s H vs Q E hr h => ?_)
  refine ⟨_, (pss_cons (ps_if (pt_cmpR op_eq (pe_callB (call_lenK (K := K) rfl) (by rfl) T.len_ PySem.boot_len (pa_cons (pv 0) pa_nil)) pe_int (nomark _)) (pss_one (ps_ret pe_bl)) pss_nil)
      (pss_cons (ps_set (i := 1) sc_law_mixture.nd rfl (by first | exact Or.inl rfl | exact Or.inr rfl) (pe_callB (call_lenK (K := K) rfl) (by rfl) T.len_ PySem.boot_len (pa_cons (pe_ix (ix_tupK (K := K) rfl) (pe_ix (ix_listK (K := K) rfl) (pv 0) pe_int (fun _ _ => rfl)) pe_int (fun _ _ => rfl)) pa_nil)))
      (pss_cons (ps_for PassesOwn.never rfl (pi_listK (K := K) rfl (pv 0)) (pg_tupK (K := K) rfl rfl (pgs_cons (pg_name (i := 2) sc_law_mixture.nd rfl (by first | exact Or.inl rfl | exact Or.inr rfl)) (pgs_cons (pg_name (i := 3) sc_law_mixture.nd rfl (by first | exact Or.inl rfl | exact Or.inr rfl)) pgs_nil))) (pss_one (ps_if (PW.pt (pw_or (pt_cmpR op_lt (pv 2) pe_int (nomark _)) (pw_or (pt_cmpR op_ne (pe_callB (call_lenK (K := K) rfl) (by rfl) T.len_ PySem.boot_len (pa_cons (pv 3) pa_nil)) (pv 1) (nomark _)) (pw_or1 (pt_cmpR (op_neL hr.units) (pe_callB (call_sortedK (K := K) rfl) (by rfl) T.sorted_ boot_sorted (pa_cons (pv 3) pa_nil)) (pe_listRngK rfl rfl T.list_ rfl T.range_ (pv 1)) (nomark _)))))) (pss_one (ps_ret pe_bl)) pss_nil)))
      (pss_one (ps_ret (pe_cmpR op_ge (pv 1) pe_int (nomark _))))))), fn_val (Γn := []) (N := N_law_mixture) (st_seq (st_if (tr_test (EM.er (em_op o_eq (EM.er (em_cb c_len (ar_cons (ES.er (es_var 0)) ar_nil))) (EM.er em_int)))) (st_ret (M := []) em_bl) st_next)
      (st_seq (ST.post (Γn := []) (st_setS 1 (EM.es (em_cb c_len (ar_cons (ES.er (es_ixT (es_ixL (es_var 0) (EM.er em_int)) (EM.er em_int))) ar_nil)))))
      (st_seq (st_for (it_list (es_var 0)) (gt_tup (gts_cons (gt_name 2) (gts_cons (gt_name 3) gts_nil))) (st_if (tr_or (tr_test (EM.er (em_op o_bl (ES.er (es_var 2)) (EM.er em_int)))) (tr_or (tr_test (EM.er (em_op o_ne (EM.er (em_cb c_len (ar_cons (ES.er (es_var 3)) ar_nil))) (ES.er (es_var 1))))) (tr_test (EM.er (em_op o_neL (EM.er (em_cb c_sort (ar_cons (ES.er (es_var 3)) ar_nil))) (EM.er (em_listRng (ES.er (es_var 1))))))))) (st_ret (M := []) em_bl) st_next))
      (st_ret (M := []) (em_op o_bl (ES.er (es_var 1)) (EM.er em_int)))))) (fun ds P hS => ?_) h⟩
  obtain ⟨ps, rfl, p2, h8, hP⟩ := hS
  have no : (∀ n, ¬ Mix n ps) → P (.bl false) := fun h => hP false ⟨fun z => (by cases z), fun ⟨n, z⟩ => absurd z (h n)⟩
  rw [show startD N_law_mixture [.lst (ps.map dPr)] = [some (.lst (ps.map dPr)), none, none, none] from rfl]
  walk_at "go"
  by_cases p0 : ps.length = 0
  · rw [if_pos (by omega)]
    exact no fun n h => by have := h.2.2.1; omega
  rw [if_neg (by omega)]
  refine asO_P (by omega) fun q0 hq0 => ?_
  rw [show dPr q0 = .tup [.int q0.1, dI q0.2] from rfl]
  walk_at "go"
  have l0 := h8 q0 hq0
  refine loop_any (as := ps) (f := dPr) (fun i δ => ∃ (o2 o3 : Option D), δ = [some (.lst (ps.map dPr)), some (.int q0.2.length), o2, o3] ∧ ∀ q ∈ ps.take i, 1 ≤ q.1 ∧ q.2.Perm (rngI q0.2.length)) ⟨none, none, rfl, fun q h => by rw [List.take_zero] at h; exact absurd h List.not_mem_nil⟩ ?_ ?_
  · rintro i q δ N e ⟨o2, o3, rfl, hp⟩ hN
    have hq := List.mem_of_getElem? e
    have lq := h8 q hq
    rw [show dPr q = .tup [.int q.1, dI q.2] from rfl]
    walk_at "go"
    by_cases c1 : q.1 < 1
    · rw [if_pos c1]
      exact no fun n h => by have := (h.2.2.2.2 q hq).1; omega
    rw [if_neg c1]
    by_cases c2 : q.2.length = q0.2.length
    case neg =>
      rw [if_pos (by omega)]
      exact no fun n h => c2 ((h.len hq).trans (h.len hq0).symm)
    rw [if_neg (by omega)]
    refine ⟨by omega, fun ms hm ho => ?_⟩
    walk_at "go"
    refine vEqL_ints ?_
    rw [if_pos rfl]
    by_cases c3 : ms = rngI q0.2.length
    · rw [decide_eq_true (show ms = _ from c3)]
      walk_at "go"
      refine hN _ ⟨_, _, rfl, fun z hz => ?_⟩
      rw [List.take_add_one, e] at hz
      rcases List.mem_append.mp hz with w | w
      · exact hp z w
      · cases List.mem_singleton.mp w
        exact ⟨by omega, by rw [← c3]; exact hm.symm⟩
    · rw [decide_eq_false (show ¬ ms = _ from c3)]
      walk_at "go"
      refine no fun n h => c3 ?_
      rw [h.len hq0]
      exact sorted_rng (hm.trans (h.2.2.2.2 q hq).2) ho
  · rintro δ ⟨o2, o3, rfl, hp⟩
    rw [List.take_length] at hp
    walk_at "go"
    exact hP _ ⟨fun z => ⟨q0.2.length, by have := of_decide_eq_true z; omega, l0, by omega, p2, hp⟩, fun ⟨n, h⟩ => decide_eq_true (by have := h.len hq0; have := h.1; omega)⟩
def mnR (r : List Int) : Int := r.min?.getD 0
theorem mn_eq {r : List Int} {M : Int} (h1 : M ∈ r) (h2 : ∀ x ∈ r, M ≤ x) : mnR r = M := by
  unfold mnR
  rw [List.min?_eq_some_iff.mpr ⟨h1, h2⟩]
  rfl
theorem mn_ex : ∀ {r : List Int}, 1 ≤ r.length → ∃ M, M ∈ r ∧ ∀ x ∈ r, M ≤ x
  | [x], _ => ⟨x, List.mem_singleton.mpr rfl, fun y hy => by rw [List.mem_singleton.mp hy]; exact Int.le_refl _⟩
  | x :: y :: r, _ => by
    obtain ⟨M, h1, h2⟩ := mn_ex (r := y :: r) (by simp)
    by_cases c : x ≤ M
    · refine ⟨x, List.mem_cons_self, fun z hz => ?_⟩
      rcases List.mem_cons.mp hz with w | w
      · rw [w]; exact Int.le_refl _
      · exact Int.le_trans c (h2 z w)
    · refine ⟨M, List.mem_cons_of_mem _ h1, fun z hz => ?_⟩
      rcases List.mem_cons.mp hz with w | w
      · rw [w]; omega
      · exact h2 z w
def S_law_even : DSp := fun ds P => ∃ (t : List (List Int)) (n m : Nat), ds = [dT t] ∧ Rect n m t ∧ 1 ≤ n ∧ n ≤ 8 ∧ 1 ≤ m ∧ m ≤ 8 ∧ ∀ b : Bool, (b = true ↔ EvenT n m t) → P (.bl b)
theorem mono_law_even : DMono S_law_even := by
  intro xs P P' k h
  unfold S_law_even at h ⊢
  grind
theorem len_law_even : ∀ ds P, S_law_even ds P → ds.length = 1 := by
  intro ds P h
  obtain ⟨_, _, _, e, _⟩ := h
  rw [e]; rfl
theorem ok_law_even {c : Cs} {f : Addr} {fd : FuncData} (F : FnAt K mg "_law_even" s_law_even P_law_even f fd) (A_ : Fns K mg c) (T : Txt K mg) (xs : Exs K mg base c) : FnOk P w K mg base CX0 1 f fd P_law_even (spP K S_law_even) := by
  refine F.fn.ok sc_law_even (fun vs H Q E h => spP_len len_law_even h) (fun cdv A outer s H vs Q E hr h => ?_)
  refine ⟨_, (pss_cons (ps_setC0 (i := 1) (CompScope.of (sc0 := (defScope s_law_even)) (tn := ["_law_row"]) (cap := []) (idx := []) (by decide +kernel) rfl rfl) sc_law_even.nd rfl (by first | exact Or.inl rfl | exact Or.inr rfl) (pi_listK (K := K) rfl (pv 0)) (GSet.name (by decide)) (fun _ _ _ _ _ => pg_name (i := 0) (nodupB_iff (l := ["_law_row"]) (by decide +kernel)) rfl (by first | exact Or.inl rfl | exact Or.inr rfl) (by first | exact .inl rfl | exact .inr rfl)) (fun _ _ _ _ _ => (pe_callB (call_sumK (K := K) rfl rfl) (by rfl) T.sum_ boot_sum (pa_cons (pv 0) pa_nil))))
      (pss_cons (ps_if (PW.pt (pw_or (pt_cmpR op_ne (pe_callB (call_lenK (K := K) rfl) (by rfl) T.len_ PySem.boot_len (pa_cons (pe_ix (ix_listK (K := K) rfl) (pv 0) pe_int (fun _ _ => rfl)) pa_nil)) (pe_callB (call_lenK (K := K) rfl) (by rfl) T.len_ PySem.boot_len (pa_cons (pv 0) pa_nil)) (nomark _)) (pw_or (pt_cmpR op_lt (pe_callB (call_minL (K := K) rfl rfl) (by rfl) T.min_ boot_min (pa_cons (pe_comp0 (CompScope.of (sc0 := (defScope s_law_even)) (tn := ["_law_row"]) (cap := []) (idx := []) (by decide +kernel) rfl rfl) (pi_listK (K := K) rfl (pv 0)) (GSet.name (by decide)) (fun _ _ _ _ _ => pg_name (i := 0) (nodupB_iff (l := ["_law_row"]) (by decide +kernel)) rfl (by first | exact Or.inl rfl | exact Or.inr rfl) (by first | exact .inl rfl | exact .inr rfl)) (fun _ _ _ _ _ => (pe_callB (call_minL (K := K) rfl rfl) (by rfl) T.min_ boot_min (pa_cons (pv 0) pa_nil)))) pa_nil)) pe_int (nomark _)) (pw_or1 (pt_cmpR op_lt (pe_ix (ix_listK (K := K) rfl) (pv 1) pe_int (fun _ _ => rfl)) pe_int (nomark _)))))) (pss_one (ps_ret pe_bl)) pss_nil)
      (pss_cons (ps_for PassesOwn.never rfl (pi_range1 rfl T.range_ (pa_cons (pe_callB (call_lenK (K := K) rfl) (by rfl) T.len_ PySem.boot_len (pa_cons (pv 0) pa_nil)) pa_nil)) (pg_name (i := 2) sc_law_even.nd rfl (by first | exact Or.inl rfl | exact Or.inr rfl)) (pss_one (ps_if (PW.pt (pw_or (pt_cmpR op_ne (pe_ix (ix_listK (K := K) rfl) (pv 1) (pv 2) (fun _ _ => rfl)) (pe_ix (ix_listK (K := K) rfl) (pv 1) pe_int (fun _ _ => rfl)) (nomark _)) (pw_or1 (pt_cmpR op_ne (pe_callB (call_sumK (K := K) rfl rfl) (by rfl) T.sum_ boot_sum (pa_cons (pe_comp0 (CompScope.of (sc0 := (defScope s_law_even)) (tn := ["_law_row"]) (cap := ["_law_k"]) (idx := [2]) (by decide +kernel) rfl rfl) (pi_listK (K := K) rfl (pv 0)) (GSet.name (by decide)) (fun _ _ _ _ _ => pg_name (i := 0) (nodupB_iff (l := ["_law_row", "_law_k"]) (by decide +kernel)) rfl (by first | exact Or.inl rfl | exact Or.inr rfl) (by first | exact .inl rfl | exact .inr rfl)) (fun _ _ _ _ _ => (pe_ix (ix_listK (K := K) rfl) (pv 0) (pv 1) (fun _ _ => rfl)))) pa_nil)) (pe_ix (ix_listK (K := K) rfl) (pv 1) pe_int (fun _ _ => rfl)) (nomark _))))) (pss_one (ps_ret pe_bl)) pss_nil)))
      (pss_one (ps_ret pe_bl))))), fn_val (Γn := []) (N := N_law_even) (st_seq (ST.post (Γn := []) (st_setS 1 (EM.es (em_comp0 (it_list (es_var 0)) (gt_name 0) (em_cb c_sum (ar_cons (ES.er (es_var 0)) ar_nil))))))
      (st_seq (st_if (tr_or (tr_test (EM.er (em_op o_ne (EM.er (em_cb c_len (ar_cons (ES.er (es_ixL (es_var 0) (EM.er em_int))) ar_nil))) (EM.er (em_cb c_len (ar_cons (ES.er (es_var 0)) ar_nil)))))) (tr_or (tr_test (EM.er (em_op o_bl (EM.er (em_cb c_minL (ar_cons (EM.er (em_comp0 (it_list (es_var 0)) (gt_name 0) (em_cb c_minL (ar_cons (ES.er (es_var 0)) ar_nil)))) ar_nil))) (EM.er em_int)))) (tr_test (EM.er (em_op o_bl (ES.er (es_ixL (es_var 1) (EM.er em_int))) (EM.er em_int)))))) (st_ret (M := []) em_bl) st_next)
      (st_seq (st_for (it_rng1 (ar_cons (EM.er (em_cb c_len (ar_cons (ES.er (es_var 0)) ar_nil))) ar_nil)) (gt_name 2) (st_if (tr_or (tr_test (EM.er (em_op o_ne (ES.er (es_ixL (es_var 1) (ES.er (es_var 2)))) (ES.er (es_ixL (es_var 1) (EM.er em_int)))))) (tr_test (EM.er (em_op o_ne (EM.er (em_cb c_sum (ar_cons (EM.er (em_comp0 (it_list (es_var 0)) (gt_name 0) (ER.scal (ES.er (es_ixL (es_var 0) (ES.er (es_var 1))))))) ar_nil))) (ES.er (es_ixL (es_var 1) (EM.er em_int))))))) (st_ret (M := []) em_bl) st_next))
      (st_ret (M := []) em_bl)))) (fun ds P hS => ?_) h⟩
  obtain ⟨t, n, m, rfl, hR, n1, n8, m1, m8, hP⟩ := hS
  have no : ¬ EvenT n m t → P (.bl false) := fun h => hP false ⟨fun z => (by cases z), fun z => absurd z h⟩
  rw [show startD N_law_even [dT t] = [some (dT t), none, none] from rfl]
  walk_at "go"
  have lt := hR.1
  have r0 := hR.row (i := 0) (by omega)
  refine comp_rows (t := t) (g := fun r => .int r.sum) (fun R h => h) (by omega) (fun r hr R h => by walk_at "gb"; exact h) ?_
  rw [map_int]
  refine asO_rows (by omega) ?_
  walk_at "go"
  by_cases c1 : n = m
  case neg =>
    rw [if_pos (by omega)]
    exact no fun z => c1 z.1
  rw [if_neg (by omega)]
  refine comp_rows (t := t) (g := fun r => .int (mnR r)) (fun R h => h) (by omega) (fun r hr R h => ?_) ?_
  · walk_at "gb"
    refine ⟨by have := hR.2 r hr; omega, fun M h1 h2 => ?_⟩
    rw [mn_eq h1 h2] at h
    exact h
  rw [map_int]
  refine vMinL_ints.mpr ⟨by rw [List.length_map]; omega, fun M hM hmin => ?_⟩
  walk_at "go"
  have mem : ∀ r ∈ t, ∃ i, i < n ∧ r = rowAt t i := fun r hr => by
    obtain ⟨i, hi, rfl⟩ := List.mem_iff_getElem.mp hr
    refine ⟨i, by omega, ?_⟩
    unfold rowAt
    rw [List.getD_eq_getElem?_getD, List.getElem?_eq_getElem hi]; rfl
  by_cases c2 : M < 0
  · rw [if_pos c2]
    refine no fun z => ?_
    obtain ⟨r, hr, rfl⟩ := List.mem_map.mp hM
    have := hR.2 r hr
    obtain ⟨M', m1', m2'⟩ := mn_ex (r := r) (by omega)
    rw [mn_eq m1' m2'] at c2
    have := z.2.1 r hr M' m1'
    omega
  rw [if_neg c2]
  have nn : ∀ r ∈ t, ∀ x ∈ r, 0 ≤ x := fun r hr x hx => by
    have := hR.2 r hr
    obtain ⟨M', m1', m2'⟩ := mn_ex (r := r) (by omega)
    have a := hmin (mnR r) (List.mem_map.mpr ⟨r, hr, rfl⟩)
    rw [mn_eq m1' m2'] at a
    have := m2' x hx
    omega
  have s0 : ∀ i, i < n → (t.map List.sum).getD i 0 = (rowAt t i).sum := fun i hi => by
    unfold rowAt
    rw [List.getD_eq_getElem?_getD, List.getD_eq_getElem?_getD, List.getElem?_map, List.getElem?_eq_getElem (by omega)]; rfl
  refine asO_ints (by rw [List.length_map]; omega) ?_
  walk_at "go"
  rw [s0 0 (by omega)]
  by_cases c3 : (rowAt t 0).sum < 1
  · rw [if_pos c3]
    exact no fun z => by have := z.2.2.1; omega
  rw [if_neg c3]
  walk_at "go"
  rw [lt]
  refine loop_rng (lo := 0) (n := n) (fun k δ => ∃ (o2 : Option D), δ = [some (dT t), some (dI (t.map List.sum)), o2] ∧ ∀ i, i < k → (rowAt t i).sum = (rowAt t 0).sum ∧ (colOf t i).sum = (rowAt t 0).sum) ⟨none, rfl, fun i h => absurd h (Nat.not_lt_zero _)⟩ ?_ ?_
  · rintro k δ N hk ⟨o2, rfl, hp⟩ hN
    rw [Int.zero_add]
    walk_at "go"
    refine asO_ints (by rw [List.length_map]; omega) (asO_ints (by rw [List.length_map]; omega) ?_)
    rw [Int.toNat_natCast, s0 k hk, show (t.map List.sum).getD (0 : Int).toNat 0 = (rowAt t 0).sum from s0 0 (by omega)]
    walk_at "go"
    by_cases c4 : (rowAt t k).sum = (rowAt t 0).sum
    case neg =>
      rw [if_pos c4]
      exact no fun z => c4 (z.2.2.2.1 _ (rowAt_mem (by omega)))
    rw [if_neg (fun z => z c4)]
    refine comp_rows (t := t) (g := fun r => .int (r.getD k 0)) (fun R h => by walk_at "go"; exact h) (by omega) (fun r hr R h => ?_) ?_
    · walk_at "gb"
      have := hR.2 r hr
      refine asO_ints (by omega) ?_
      rw [Int.toNat_natCast]
      exact ⟨rfl, h⟩
    rw [map_int]
    walk_at "go"
    refine asO_ints (by rw [List.length_map]; omega) ?_
    rw [show (t.map List.sum).getD (0 : Int).toNat 0 = (rowAt t 0).sum from s0 0 (by omega)]
    walk_at "go"
    rw [show t.map (fun r => r.getD k 0) = colOf t k from rfl]
    by_cases c5 : (colOf t k).sum = (rowAt t 0).sum
    case neg =>
      rw [if_pos c5]
      exact no fun z => c5 (z.2.2.2.2 k (by omega))
    rw [if_neg (fun z => z c5)]
    refine hN _ ⟨_, rfl, fun i hi => ?_⟩
    rcases Nat.lt_or_ge i k with w | w
    · exact hp i w
    · rw [show i = k by omega]; exact ⟨c4, c5⟩
  · rintro δ ⟨o2, rfl, hp⟩
    walk_at "go"
    refine hP _ ⟨fun _ => ⟨c1, nn, by omega, fun r hr => ?_, fun j hj => (hp j (by omega)).2⟩, fun _ => rfl⟩
    obtain ⟨i, hi, rfl⟩ := mem r hr
    exact (hp i hi).1
theorem zip_ri {t : List (List Int)} {s : List Int} (h : t.length = s.length) : (((t.map dI).zip (s.map L3.D.int)).map fun p => L3.D.tup [p.1, p.2]) = (List.range t.length).map fun i => L3.D.tup [dI (rowAt t i), .int (s.getD i 0)] := by
  refine List.ext_getElem (by simp [h]) fun i h1 h2 => ?_
  have q1 : i < t.length := by simpa using h2
  have q2 : i < s.length := by omega
  rw [List.getElem_map, List.getElem_zip, List.getElem_map, List.getElem_map, List.getElem_map, List.getElem_range]
  show L3.D.tup [dI t[i], .int s[i]] = L3.D.tup [dI (t.getD i []), .int (s.getD i 0)]
  rw [List.getD_eq_getElem?_getD, List.getD_eq_getElem?_getD, List.getElem?_eq_getElem q1, List.getElem?_eq_getElem q2]; rfl
theorem zip_ints {t s : List Int} (h : t.length = s.length) : (((t.map L3.D.int).zip (s.map L3.D.int)).map fun p => L3.D.tup [p.1, p.2]) = (List.range t.length).map fun i => L3.D.tup [.int (t.getD i 0), .int (s.getD i 0)] := by
  refine List.ext_getElem (by simp [h]) fun i h1 h2 => ?_
  have q1 : i < t.length := by simpa using h2
  have q2 : i < s.length := by omega
  rw [List.getElem_map, List.getElem_zip, List.getElem_map, List.getElem_map, List.getElem_map, List.getElem_range]
  show L3.D.tup [.int t[i], .int s[i]] = L3.D.tup [.int (t.getD i 0), .int (s.getD i 0)]
  rw [List.getD_eq_getElem?_getD, List.getD_eq_getElem?_getD, List.getElem?_eq_getElem q1, List.getElem?_eq_getElem q2]; rfl
def S_law_led : DSp := fun ds P => ∃ (one other : List Int) (t : List (List Int)) (n m : Nat), ds = [dI one, dI other, dT t] ∧ Rect n m t ∧ 1 ≤ n ∧ n ≤ 8 ∧ 1 ≤ m ∧ m ≤ 8 ∧ Bd 200 one ∧ Bd 200 other ∧ BdT 100 t ∧ ∀ b : Bool, (b = true ↔ LedT n m one other t) → P (.bl b)
theorem mono_law_led : DMono S_law_led := by
  intro xs P P' k h
  unfold S_law_led at h ⊢
  grind
theorem len_law_led : ∀ ds P, S_law_led ds P → ds.length = 3 := by
  intro ds P h
  obtain ⟨_, _, _, _, _, e, _⟩ := h
  rw [e]; rfl
theorem ok_law_led {c : Cs} {f : Addr} {fd : FuncData} (F : FnAt K mg "_law_led" s_law_led P_law_led f fd) (A_ : Fns K mg c) (T : Txt K mg) (xs : Exs K mg base c) : FnOk P w K mg base CX0 2 f fd P_law_led (spP K S_law_led) := by
  obtain ⟨f0, d0, E_law_even⟩ := A_.h_law_even
  have G_law_even : FnOk P w K mg base CX0 1 f0 d0 P_law_even (spP K S_law_even) := ok_law_even E_law_even A_ T xs
  refine F.fn.ok sc_law_led (fun vs H Q E h => spP_len len_law_led h) (fun cdv A outer s H vs Q E hr h => ?_)
  refine ⟨_, (pss_cons (ps_if (PW.pt (pw_or (pt_not (pt_val (pe_call G_law_even (hr.mono (by decide)) rfl E_law_even.mg E_law_even.fn.kp E_law_even.bd .nil pass0 (pa_cons (pv 2) pa_nil)))) (pw_or (pt_cmpR op_ne (pe_callB (call_lenK (K := K) rfl) (by rfl) T.len_ PySem.boot_len (pa_cons (pv 0) pa_nil)) (pe_callB (call_lenK (K := K) rfl) (by rfl) T.len_ PySem.boot_len (pa_cons (pv 2) pa_nil)) (nomark _)) (pw_or1 (pt_cmpR op_ne (pe_callB (call_lenK (K := K) rfl) (by rfl) T.len_ PySem.boot_len (pa_cons (pv 1) pa_nil)) (pe_callB (call_lenK (K := K) rfl) (by rfl) T.len_ PySem.boot_len (pa_cons (pv 2) pa_nil)) (nomark _)))))) (pss_one (ps_ret pe_bl)) pss_nil)
      (pss_cons (ps_for PassesOwn.never rfl (pi_zipK (K := K) rfl rfl T.zip_ (pa_cons (pv 2) (pa_cons (pv 0) pa_nil))) (pg_tupK (K := K) rfl rfl (pgs_cons (pg_name (i := 3) sc_law_led.nd rfl (by first | exact Or.inl rfl | exact Or.inr rfl)) (pgs_cons (pg_name (i := 4) sc_law_led.nd rfl (by first | exact Or.inl rfl | exact Or.inr rfl)) pgs_nil))) (pss_one (ps_if (pt_cmpR op_ne (pe_callB (call_sumK (K := K) rfl rfl) (by rfl) T.sum_ boot_sum (pa_cons (pe_comp0 (CompScope.of (sc0 := (defScope s_law_led)) (tn := ["_law_cell", "_law_by"]) (cap := []) (idx := []) (by decide +kernel) rfl rfl) (pi_zipK (K := K) rfl rfl T.zip_ (pa_cons (pv 3) (pa_cons (pv 1) pa_nil))) (GSet.tup (GSets.cons (by decide) (GSets.cons (by decide) GSets.nil))) (fun _ _ _ _ _ => pg_tupK (K := K) (n := 2) rfl rfl (pgs_cons (pg_name (i := 0) (nodupB_iff (l := ["_law_cell", "_law_by"]) (by decide +kernel)) rfl (by first | exact Or.inl rfl | exact Or.inr rfl) (by first | exact .inl rfl | exact .inr rfl)) (pgs_cons (pg_name (i := 1) (nodupB_iff (l := ["_law_cell", "_law_by"]) (by decide +kernel)) rfl (by first | exact Or.inl rfl | exact Or.inr rfl) (by first | exact .inl rfl | exact .inr rfl)) pgs_nil))) (fun _ _ _ _ _ => (pe_op op_mulB (pv 0) (pv 1)))) pa_nil)) (pe_op op_mulB (pv 4) (pe_callB (call_sumK (K := K) rfl rfl) (by rfl) T.sum_ boot_sum (pa_cons (pe_ix (ix_listK (K := K) rfl) (pv 2) pe_int (fun _ _ => rfl)) pa_nil))) (nomark _)) (pss_one (ps_ret pe_bl)) pss_nil)))
      (pss_one (ps_ret pe_bl)))), fn_val (Γn := []) (N := N_law_led) (st_seq (st_if (tr_or (tr_not (tr_b (EM.er (em_call (S := S_law_even) mono_law_even (ar_cons (ES.er (es_var 2)) ar_nil))))) (tr_or (tr_test (EM.er (em_op o_ne (EM.er (em_cb c_len (ar_cons (ES.er (es_var 0)) ar_nil))) (EM.er (em_cb c_len (ar_cons (ES.er (es_var 2)) ar_nil)))))) (tr_test (EM.er (em_op o_ne (EM.er (em_cb c_len (ar_cons (ES.er (es_var 1)) ar_nil))) (EM.er (em_cb c_len (ar_cons (ES.er (es_var 2)) ar_nil)))))))) (st_ret (M := []) em_bl) st_next)
      (st_seq (st_for (it_zip (es_var 2) (es_var 0)) (gt_tup (gts_cons (gt_name 3) (gts_cons (gt_name 4) gts_nil))) (st_if (tr_test (EM.er (em_op o_ne (EM.er (em_cb c_sum (ar_cons (EM.er (em_comp0 (it_zip (es_var 3) (es_var 1)) (gt_tup (gts_cons (gt_name 0) (gts_cons (gt_name 1) gts_nil))) (em_op o_intC (ES.er (es_var 0)) (ES.er (es_var 1))))) ar_nil))) (EM.er (em_op o_intC (ES.er (es_var 4)) (EM.er (em_cb c_sum (ar_cons (ES.er (es_ixL (es_var 2) (EM.er em_int))) ar_nil)))))))) (st_ret (M := []) em_bl) st_next))
      (st_ret (M := []) em_bl))) (fun ds P hS => ?_) h⟩
  obtain ⟨one, other, t, n, m, rfl, hR, n1, n8, m1, m8, b1, b2, bt, hP⟩ := hS
  have no : ¬ LedT n m one other t → P (.bl false) := fun h => hP false ⟨fun z => (by cases z), fun z => absurd z h⟩
  rw [show startD N_law_led [dI one, dI other, dT t] = [some (dI one), some (dI other), some (dT t), none, none] from rfl]
  have lt := hR.1
  have r0 := hR.row (i := 0) (by omega)
  have sb := sum_lt (bt _ (rowAt_mem (t := t) (i := 0) (by omega))) (by omega)
  walk_at "go"
  refine ⟨t, n, m, rfl, hR, n1, n8, m1, m8, fun b hb => ?_⟩
  dsimp only
  cases b with
  | false =>
    walk_at "go"
    exact no fun z => by have := hb.mpr z.1; cases this
  | true =>
    have hE := hb.mp rfl
    have nm := hE.1
    walk_at "go"
    by_cases c1 : one.length = t.length
    case neg =>
      rw [if_pos (by omega)]
      exact no fun z => c1 (by rw [lt]; exact z.2.1)
    rw [if_neg (by omega)]
    by_cases c2 : other.length = t.length
    case neg =>
      rw [if_pos (by omega)]
      exact no fun z => c2 (by rw [lt]; exact z.2.2.1)
    rw [if_neg (by omega)]
    unfold vZip
    walk_at "go"
    rw [zip_ri (by omega), lt]
    refine loop_any (as := List.range n) (f := fun i => L3.D.tup [dI (rowAt t i), .int (one.getD i 0)]) (fun i δ => ∃ (o3 o4 : Option D), δ = [some (dI one), some (dI other), some (dT t), o3, o4] ∧ ∀ j, j < i → dot (rowAt t j) other = one.getD j 0 * (rowAt t 0).sum) ⟨none, none, rfl, fun j h => absurd h (Nat.not_lt_zero _)⟩ ?_ ?_
    · rintro i i' δ N e ⟨o3, o4, rfl, hp⟩ hN
      obtain ⟨q1, q2⟩ := List.getElem?_eq_some_iff.mp e
      rw [List.getElem_range] at q2
      subst q2
      have hi : i < n := by rw [List.length_range] at q1; exact q1
      have lr := hR.row hi
      have br := bt _ (rowAt_mem (t := t) (i := i) (by omega))
      walk_at "go"
      refine comp_all (as := List.range n) (f := fun j => L3.D.tup [.int ((rowAt t i).getD j 0), .int (other.getD j 0)]) (g := fun j => .int ((rowAt t i).getD j 0 * other.getD j 0)) (fun R h => ?_) (by rw [List.length_range]; omega) (fun j hj R h => ?_) ?_
      · walk_at "go"
        rw [zip_ints (by omega), show (rowAt t i).length = n by omega]
        exact h
      · walk_at "gb"
        exact ⟨⟨100, 200, br.at j, b2.at j, by decide⟩, h⟩
      rw [map_int]
      walk_at "go"
      rw [show ((List.range n).map fun j => (rowAt t i).getD j 0 * other.getD j 0).sum = dot (rowAt t i) other from by unfold dot; rw [show (rowAt t i).length = n by omega]]
      refine asO_rows (by omega) ?_
      walk_at "go"
      refine ⟨⟨200, 104, b1.at i, sb, by decide⟩, ?_⟩
      by_cases c3 : dot (rowAt t i) other = one.getD i 0 * (rowAt t 0).sum
      · rw [if_neg (fun z => z c3)]
        refine hN _ ⟨_, _, rfl, fun j hj => ?_⟩
        rcases Nat.lt_or_ge j i with w | w
        · exact hp j w
        · rw [show j = i by omega]; exact c3
      · rw [if_pos c3]
        refine no fun z => c3 ?_
        have e1 := congrArg (fun l => l.getD i 0) z.2.2.2
        have l1 : i < t.length := by omega
        have l2 : i < one.length := by omega
        have e2 : (t.map fun r => dot r other).getD i 0 = dot (rowAt t i) other := by
          unfold rowAt
          rw [List.getD_eq_getElem?_getD, List.getElem?_map, List.getD_eq_getElem?_getD, List.getElem?_eq_getElem l1]; rfl
        have e3 : (one.map fun x => x * (rowAt t 0).sum).getD i 0 = one.getD i 0 * (rowAt t 0).sum := by
          rw [List.getD_eq_getElem?_getD, List.getElem?_map, List.getD_eq_getElem?_getD, List.getElem?_eq_getElem l2]; rfl
        rw [← e2, ← e3]
        exact e1
    · rintro δ ⟨o3, o4, rfl, hp⟩
      rw [List.length_range] at hp
      walk_at "go"
      refine hP _ ⟨fun _ => ⟨hE, by omega, by omega, ?_⟩, fun _ => rfl⟩
      refine List.ext_getElem (by rw [List.length_map, List.length_map]; omega) fun i h1 h2 => ?_
      rw [List.length_map] at h1 h2
      have := hp i (by omega)
      unfold rowAt at this
      rw [List.getD_eq_getElem?_getD, List.getElem?_eq_getElem h1, List.getD_eq_getElem?_getD, List.getElem?_eq_getElem h2] at this
      rw [List.getElem_map, List.getElem_map]
      exact this
theorem erase_set {α : Type} {x : α} : ∀ {l : List α} {k : Nat}, (l.set k x).eraseIdx k = l.eraseIdx k
  | [], _ => rfl
  | _ :: _, 0 => rfl
  | a :: l, k + 1 => congrArg (a :: ·) (erase_set (l := l) (k := k))
theorem erase_map {α β : Type} {f : α → β} : ∀ {l : List α} {k : Nat}, (l.map f).eraseIdx k = (l.eraseIdx k).map f
  | [], _ => rfl
  | _ :: _, 0 => rfl
  | a :: l, k + 1 => congrArg (f a :: ·) (erase_map (l := l) (k := k))
theorem bd_cell {k i j : Nat} {v : Int} {t : List (List Int)} (h : BdT k t) (hv : v.natAbs < 2 ^ k) : BdT k (setCell t i j v) := by
  intro r hr
  unfold setCell at hr
  rcases List.mem_or_eq_of_mem_set hr with w | w
  · exact h r w
  · rw [w]
    intro x hx
    rcases List.mem_or_eq_of_mem_set hx with z | z
    · rw [List.getD_eq_getElem?_getD] at z
      cases e : t[i]? with
      | none => rw [e] at z; exact absurd z List.not_mem_nil
      | some u => rw [e] at z; exact h u (List.mem_of_getElem? e) x z
    · rw [z]; exact hv
theorem setItem_any {i : Nat} {δ : Dl} {de dx : DE} {E : DEnds} {ds : List D} {x : D} {a : Int} (hs : δ[i]? = some (some (.lst ds))) (hde : ∀ R : DK, R x → de δ R) (hdx : ∀ R : DK, R (.int a) → dx δ R) (ha : 0 ≤ a ∧ a < ds.length) (h : E.nx (δ.set i (some (.lst (ds.set a.toNat x))))) : vSetItem i de dx E δ := by
  unfold vSetItem
  refine hde _ ((slotL_s hs).mpr (hdx _ ?_))
  show match ixN ds.length a with | some j => E.nx (δ.set i (some (.lst (ds.set j x)))) | none => False
  rw [ixN_nat ha.1 ha.2]
  exact h
theorem testI {w k : Int} {i : Nat} {δ : Dl} {Q : Bool → Prop} (hs : δ[i]? = some (some (.int w))) (h : Q (decide (w = k))) : vTest (vOp (vEqS false) (vVar i) (vC (.int k))) δ Q := by
  simp only [vTest, vOp, vVar, hs, vC, vEqS_int, asB_bl]
  exact h
theorem skipI {w k : Int} {i : Nat} {δ : Dl} {A R : DS} {E : DEnds} (hs : δ[i]? = some (some (.int w))) (hn : w ≠ k) (h : R E δ) : vSeq (vIfS (vTest (vOp (vEqS false) (vVar i) (vC (.int k)))) A vNext) R E δ := by
  unfold vSeq vIfS
  refine testI hs ?_
  rw [decide_eq_false hn, if_neg (by decide)]
  exact h
theorem skipL {w k : Int} {i : Nat} {δ : Dl} {A : DS} {E : DEnds} (hs : δ[i]? = some (some (.int w))) (hn : w ≠ k) (h : E.nx δ) : vIfS (vTest (vOp (vEqS false) (vVar i) (vC (.int k)))) A vNext E δ := by
  unfold vIfS
  refine testI hs ?_
  rw [decide_eq_false hn, if_neg (by decide)]
  exact h
theorem takeI {w k : Int} {i : Nat} {δ : Dl} {A R : DS} {E : DEnds} (hs : δ[i]? = some (some (.int w))) (hn : w = k) (h : ∀ N : Dl → Prop, N = R E → A { E with nx := N } δ) : vSeq (vIfS (vTest (vOp (vEqS false) (vVar i) (vC (.int k)))) A vNext) R E δ := by
  unfold vSeq vIfS
  refine testI hs ?_
  rw [decide_eq_true hn, if_pos rfl]
  exact h _ rfl
theorem takeL {w k : Int} {i : Nat} {δ : Dl} {A : DS} {E : DEnds} (hs : δ[i]? = some (some (.int w))) (hn : w = k) (h : A E δ) : vIfS (vTest (vOp (vEqS false) (vVar i) (vC (.int k)))) A vNext E δ := by
  unfold vIfS
  refine testI hs ?_
  rw [decide_eq_true hn, if_pos rfl]
  exact h
def PsQ (ps : List (Int × List Int)) : Prop := ps.length ≤ 12 ∧ ∀ q ∈ ps, q.2.length ≤ 6
def S_law_spoiled : DSJ := fun ds P => ∃ (t : List (List Int)) (ps : List (Int × List Int)) (n : Nat) (y : Int), ds = [dT t, .lst (ps.map dPr), .int y] ∧ Rect n n t ∧ 1 ≤ n ∧ n ≤ 6 ∧ BdT 56 t ∧ PsN (10 ^ 12 + 1) n ps ∧ 1 ≤ ps.length ∧ ps.length ≤ 12 ∧ 0 ≤ y ∧ ∀ t' ps', Rect n n t' → BdT 57 t' → PsQ ps' → P (dT t') (.lst (ps'.map dPr))
theorem mono_law_spoiled : DMonoJ S_law_spoiled := by
  intro xs P P' k h
  obtain ⟨t, ps, n, y, e, h1, h2, h3, h4, h5, h6, h7, h8, h⟩ := h
  exact ⟨t, ps, n, y, e, h1, h2, h3, h4, h5, h6, h7, h8, fun t' ps' a b d => k _ _ (h t' ps' a b d)⟩
theorem len_law_spoiled : ∀ ds P, S_law_spoiled ds P → ds.length = 3 := by
  intro ds P h
  obtain ⟨t, ps, n, y, e, _⟩ := h
  rw [e]; rfl
theorem ok_law_spoiled {c : Cs} {f : Addr} {fd : FuncData} (F : FnAt K mg "_law_spoiled" s_law_spoiled P_law_spoiled f fd) (A_ : Fns K mg c) (T : Txt K mg) (xs : Exs K mg base c) : FnOk P w K mg base CX0 1 f fd P_law_spoiled (spJ K S_law_spoiled) := by
  refine F.fn.ok sc_law_spoiled (fun vs H Q E h => spJ_len len_law_spoiled h) (fun cdv A outer s H vs Q E hr h => ?_)
  refine ⟨_, (pss_cons (ps_set (i := 3) sc_law_spoiled.nd rfl (by first | exact Or.inl rfl | exact Or.inr rfl) (pe_op op_mod (pv 2) pe_int))
      (pss_cons (ps_set (i := 4) sc_law_spoiled.nd rfl (by first | exact Or.inl rfl | exact Or.inr rfl) (pe_op op_mod (pe_op op_fdivB (pv 2) pe_int) (pe_callB (call_lenK (K := K) rfl) (by rfl) T.len_ PySem.boot_len (pa_cons (pv 1) pa_nil))))
      (pss_cons (ps_asg (pe_ix (ix_listK (K := K) rfl) (pv 1) (pv 4) (fun _ _ => rfl)) (pg_tupK (K := K) rfl rfl (pgs_cons (pg_name (i := 5) sc_law_spoiled.nd rfl (by first | exact Or.inl rfl | exact Or.inr rfl)) (pgs_cons (pg_name (i := 6) sc_law_spoiled.nd rfl (by first | exact Or.inl rfl | exact Or.inr rfl)) pgs_nil))))
      (pss_cons (ps_set (i := 7) sc_law_spoiled.nd rfl (by first | exact Or.inl rfl | exact Or.inr rfl) (pe_op op_mod (pe_op op_fdivB (pv 2) pe_int) (pe_callB (call_lenK (K := K) rfl) (by rfl) T.len_ PySem.boot_len (pa_cons (pv 6) pa_nil))))
      (pss_cons (ps_if (pt_cmpR op_eq (pv 3) pe_int (nomark _)) (pss_cons (ps_set (i := 8) sc_law_spoiled.nd rfl (by first | exact Or.inl rfl | exact Or.inr rfl) (pe_op op_mod (pe_op op_fdivB (pv 2) pe_int) (pe_callB (call_lenK (K := K) rfl) (by rfl) T.len_ PySem.boot_len (pa_cons (pv 0) pa_nil))))
      (pss_one (ps_asg (pe_op op_add (pe_ix (ix_listK (K := K) rfl) (pe_ix (ix_listK (K := K) rfl) (pv 0) (pv 7) (fun _ _ => rfl)) (pv 8) (fun _ _ => rfl)) pe_int) (pg_sub (pe_ix (ix_listK (K := K) rfl) (pv 0) (pv 7) (fun _ _ => rfl)) (pv 8) set_list)))) pss_nil)
      (pss_cons (ps_if (pt_cmpR op_eq (pv 3) pe_int (nomark _)) (pss_one (ps_asg (pe_tup (pa_cons (pe_op op_sub pe_int (pe_op op_mod (pe_op op_fdivB (pv 2) pe_int) pe_int)) (pa_cons (pv 6) pa_nil))) (pg_sub (pv 1) (pv 4) set_list))) pss_nil)
      (pss_cons (ps_if (pt_cmpR op_eq (pv 3) pe_int (nomark _)) (pss_one (ps_asg (pe_tup (pa_cons (pe_op op_add (pv 5) pe_int) (pa_cons (pv 6) pa_nil))) (pg_sub (pv 1) (pv 4) set_list))) pss_nil)
      (pss_cons (ps_if (pt_cmpR op_eq (pv 3) pe_int (nomark _)) (pss_one (ps_asg (pe_ix (ix_listK (K := K) rfl) (pv 6) (pe_op op_mod (pe_op op_fdivB (pv 2) pe_int) (pe_callB (call_lenK (K := K) rfl) (by rfl) T.len_ PySem.boot_len (pa_cons (pv 6) pa_nil))) (fun _ _ => rfl)) (pg_sub (pv 6) (pv 7) set_list))) pss_nil)
      (pss_cons (ps_if (pt_cmpR op_eq (pv 3) pe_int (nomark _)) (pss_one (ps_expr (pe_bm PySem.F.plainAttrs_list PySem.F.slot_list_pop PySem.F.type_list_pop mt_popAt (pv 6) (pa_cons (pv 7) pa_nil)))) pss_nil)
      (pss_cons (ps_if (pt_cmpR op_eq (pv 3) pe_int (nomark _)) (pss_one (ps_expr (pe_bm PySem.F.plainAttrs_list PySem.F.slot_list_pop PySem.F.type_list_pop mt_popAt (pv 1) (pa_cons (pv 4) pa_nil)))) pss_nil)
      (pss_one (ps_if (pt_cmpR op_eq (pv 3) pe_int (nomark _)) (pss_one (ps_asg (pe_tup (pa_cons (pe_ix (ix_listK (K := K) rfl) (pv 0) pe_int (fun _ _ => rfl)) (pa_cons (pe_ix (ix_listK (K := K) rfl) (pv 0) (pv 7) (fun _ _ => rfl)) pa_nil))) (pg_tupK (K := K) rfl rfl (pgs_cons (pg_sub (pv 0) (pv 7) set_list) (pgs_cons (pg_sub (pv 0) pe_int set_list) pgs_nil))))) pss_nil)))))))))))), fn_valJ (Γn := [0, 1]) (N := N_law_spoiled) (st_seq (ST.post (Γn := [0, 1]) (st_setS 3 (EM.es (em_op o_intC (ES.er (es_var 2)) (EM.er em_int)))))
      (st_seq (ST.post (Γn := [0, 1]) (st_setS 4 (EM.es (em_op o_intC (EM.er (em_op o_intC (ES.er (es_var 2)) (EM.er em_int))) (EM.er (em_cb c_len (ar_cons (er_varP 1) ar_nil)))))))
      (st_lend2 1 5 6 (ES.er (es_var 4))
      (st_seq (ST.post (Γn := [6, 0, 1]) (st_setS 7 (EM.es (em_op o_intC (EM.er (em_op o_intC (ES.er (es_var 2)) (EM.er em_int))) (EM.er (em_cb c_len (ar_cons (er_varP 6) ar_nil)))))))
      (st_seq (st_if (tr_test (EM.er (em_op o_eq (ES.er (es_var 3)) (EM.er em_int)))) (st_seq (ST.post (Γn := [6, 0, 1]) (st_setS 8 (EM.es (em_op o_intC (EM.er (em_op o_intC (ES.er (es_var 2)) (EM.er em_int))) (EM.er (em_cb c_len (ar_cons (er_varP 0) ar_nil)))))))
      (st_pin 0 (st0_setItem2 0 (em_op o_int (er_ixL (er_ixL (er_var 0) (ES.er (es_var 7))) (ES.er (es_var 8))) (EM.er em_int)) (ES.er (es_var 7)) (ES.er (es_var 8))))) st_next)
      (st_seq (st_if (tr_test (EM.er (em_op o_eq (ES.er (es_var 3)) (EM.er em_int)))) (st_pin 1 (st0_setItem 1 (em_tup (am_cons0 (em_op o_int (EM.er em_int) (EM.er (em_op o_intC (EM.er (em_op o_intC (ES.er (es_var 2)) (EM.er em_int))) (EM.er em_int)))) (am_cons0 (em_rawP 6) am_nil))) (ES.er (es_var 4)))) st_next)
      (st_seq (st_if (tr_test (EM.er (em_op o_eq (ES.er (es_var 3)) (EM.er em_int)))) (st_pin 1 (st0_setItem 1 (em_tup (am_cons0 (em_op o_int (ES.er (es_var 5)) (EM.er em_int)) (am_cons0 (em_rawP 6) am_nil))) (ES.er (es_var 4)))) st_next)
      (st_seq (st_if (tr_test (EM.er (em_op o_eq (ES.er (es_var 3)) (EM.er em_int)))) (st_pin 6 (st0_setItem 6 (ER.scal (er_ixL (er_var 6) (EM.er (em_op o_intC (EM.er (em_op o_intC (ES.er (es_var 2)) (EM.er em_int))) (EM.er (em_cb c_len (ar_cons (er_var 6) ar_nil))))))) (ES.er (es_var 7)))) st_next)
      (st_seq (st_if (tr_test (EM.er (em_op o_eq (ES.er (es_var 3)) (EM.er em_int)))) (st_pin 6 (st0_popF 6 (ES.er (es_var 7)))) st_next)
      (st_seq (st_if (tr_test (EM.er (em_op o_eq (ES.er (es_var 3)) (EM.er em_int)))) (st_pin 1 (st0_popD 1 (ES.er (es_var 4)))) st_next)
      (st_if (tr_test (EM.er (em_op o_eq (ES.er (es_var 3)) (EM.er em_int)))) (st_pin 0 (st0_swap0 0 7)) st_next))))))))))) (fun ds P a b x y hS hx hy => ?_) (by decide) (by decide) (fun ds P h => by have := len_law_spoiled ds P h; omega) h⟩
  obtain ⟨t, ps, n, y, rfl, hR, n1, n6, bt, hps, p1, p2, y0, hP⟩ := hS
  cases hx
  cases hy
  simp only [List.set_cons_zero, List.set_cons_succ]
  rw [show startD N_law_spoiled [.pin a (dT t), .pin b (.lst (ps.map dPr)), .int y] = [some (.pin a (dT t)), some (.pin b (.lst (ps.map dPr))), some (.int y), none, none, none, none, none, none] from rfl]
  refine peel fun R1 e1 => ?_
  walk_at "go"
  subst e1
  refine peel fun R1 e1 => ?_
  walk_at "go"
  subst e1
  have am := emod_lt (x := y / 8) (n := (ps.length : Int)) (by omega)
  obtain ⟨k, hk⟩ : ∃ k : Nat, y / 8 % (ps.length : Int) = (k : Int) := ⟨(y / 8 % (ps.length : Int)).toNat, by omega⟩
  rw [hk]
  obtain ⟨q, hq⟩ : ∃ q, ps[k]? = some q := ⟨_, List.getElem?_eq_getElem (by omega)⟩
  obtain ⟨b1, b2, b3⟩ := hps q (List.mem_of_getElem? hq)
  have lk : k < ps.length := by omega
  refine ⟨_, ps.map dPr, rfl, rfl, ⟨(show 5 < 9 by decide), (show 6 < 9 by decide)⟩, ?_⟩
  walk_at "go"
  refine ⟨(k : Int), .int q.1, q.2.map L3.D.int, rfl, by omega, rfl, by rw [Int.toNat_natCast, List.getElem?_map, hq]; rfl, fun b' => ?_⟩
  simp only [setQ, List.set_cons_succ, List.set_cons_zero, Int.toNat_natCast]
  have lt := hR.1
  have pl := emod_lt (x := y / 64) (n := (n : Int)) (by omega)
  have co := emod_lt (x := y / 512) (n := (n : Int)) (by omega)
  obtain ⟨p, hp⟩ : ∃ p : Nat, y / 64 % (n : Int) = (p : Int) := ⟨(y / 64 % (n : Int)).toNat, by omega⟩
  obtain ⟨j, hj⟩ : ∃ j : Nat, y / 512 % (n : Int) = (j : Int) := ⟨(y / 512 % (n : Int)).toNat, by omega⟩
  have fin : ∀ (t' : List (List Int)) (d' : List Int) (p' : Int) (o2 o3 o4 o5 o7 o8 : Option D), Rect n n t' → BdT 57 t' → d'.length ≤ 6 → (bkE 1 6 (endsJ a b P)).nx [some (.pin a (dT t')), some (.pin b (.lst ((ps.map dPr).set k (.tup [.int p', .raw (.ref b')])))), o2, o3, o4, o5, some (.pin b' (dI d')), o7, o8] := by
    intro t' d' p' o2 o3 o4 o5 o7 o8 hR' bt' ld
    refine ⟨_, _, b', _, rfl, rfl, rfl, .inl ⟨k, .int p', List.getElem?_set_self (by rw [List.length_map]; exact lk), ?_⟩⟩
    simp only [setQ, List.set_cons_succ, List.set_cons_zero]
    walk_at "go"
    rw [show ((ps.map dPr).set k (.tup [.int p', .raw (.ref b')])).set k (.tup [.int p', dI d']) = (ps.set k (p', d')).map dPr from by rw [List.set_set, List.map_set]]
    refine hP t' _ hR' bt' ⟨by rw [List.length_set]; exact p2, fun z hz => ?_⟩
    rcases List.mem_or_eq_of_mem_set hz with w | w
    · rw [(hps z w).2.1]; exact n6
    · rw [w]; exact ld
  refine peel fun R1 e1 => ?_
  walk_at "go"
  rw [b2, hp]
  subst e1
  have w8 := emod_lt (x := y) (n := 8) (by decide)
  have bt3 := bt.mono (show 56 ≤ 57 by decide)
  clear hk am
  rcases (show y % 8 = 0 ∨ y % 8 = 1 ∨ y % 8 = 2 ∨ y % 8 = 3 ∨ y % 8 = 4 ∨ y % 8 = 5 ∨ y % 8 = 6 ∨ y % 8 = 7 by omega) with hw | hw | hw | hw | hw | hw | hw | hw
  · rw [hw]
    exact skipI rfl (by decide) (skipI rfl (by decide) (skipI rfl (by decide) (skipI rfl (by decide) (skipI rfl (by decide) (skipI rfl (by decide) (skipL rfl (by decide) (fin t q.2 q.1 _ _ _ _ _ _ hR bt3 (by omega))))))))
  · rw [hw]
    refine takeI rfl rfl fun N eN => ?_
    walk_at "go"
    rw [lt, hj]
    have lr := hR.row (i := p) (by omega)
    refine setItem2_tab (t := t) (a := (p : Int)) (b := (j : Int)) (v := cellAt t p j + 1) rfl (fun R h => ?_) (fun R h => ?_) (fun R h => ?_) (by omega) (by rw [Int.toNat_natCast, lr]; omega) ?_
    · walk_at "v"
      refine asO_rows (by omega) ?_
      walk_at "v"
      refine asO_ints (by omega) ?_
      walk_at "v"
      exact h
    · walk_at "v"; exact h
    · walk_at "v"; exact h
    rw [Int.toNat_natCast, Int.toNat_natCast]
    walk_at "v"
    subst eN
    exact skipI rfl (by decide) (skipI rfl (by decide) (skipI rfl (by decide) (skipI rfl (by decide) (skipI rfl (by decide) (skipL rfl (by decide) (fin _ q.2 q.1 _ _ _ _ _ _ (hR.setCell (by omega)) (bd_cell bt3 (by have := bt.cell hR (j := j) (show p < n by omega); have := Int.natAbs_add_le (cellAt t p j) 1; omega)) (by omega)))))))
  · rw [hw]
    refine skipI rfl (by decide) (takeI rfl rfl fun N eN => ?_)
    walk_at "go"
    refine setItem_any (x := .tup [.int (0 - y / 512 % 2), .raw (.ref b')]) (a := (k : Int)) rfl (fun R h => by walk_at "go"; exact h) (fun R h => by walk_at "go"; exact h) (by rw [List.length_set, List.length_map]; omega) ?_
    rw [Int.toNat_natCast, List.set_set]
    walk_at "v"
    subst eN
    exact skipI rfl (by decide) (skipI rfl (by decide) (skipI rfl (by decide) (skipI rfl (by decide) (skipL rfl (by decide) (fin t q.2 _ _ _ _ _ _ _ hR bt3 (by omega))))))
  · rw [hw]
    refine skipI rfl (by decide) (skipI rfl (by decide) (takeI rfl rfl fun N eN => ?_))
    walk_at "go"
    refine setItem_any (x := .tup [.int (q.1 + 1), .raw (.ref b')]) (a := (k : Int)) rfl (fun R h => by walk_at "go"; exact h) (fun R h => by walk_at "go"; exact h) (by rw [List.length_set, List.length_map]; omega) ?_
    rw [Int.toNat_natCast, List.set_set]
    walk_at "v"
    subst eN
    exact skipI rfl (by decide) (skipI rfl (by decide) (skipI rfl (by decide) (skipL rfl (by decide) (fin t q.2 _ _ _ _ _ _ _ hR bt3 (by omega)))))
  · rw [hw]
    refine skipI rfl (by decide) (skipI rfl (by decide) (skipI rfl (by decide) (takeI rfl rfl fun N eN => ?_)))
    walk_at "go"
    have e5 := emod_lt (x := y / 512) (n := (q.2.length : Int)) (by omega)
    refine setItem_ints (r := q.2) (a := (p : Int)) (v := q.2.getD (y / 512 % (q.2.length : Int)).toNat 0) rfl (fun R h' => ?_) (fun R h' => ?_) (by omega) ?_
    · walk_at "go"
      refine asO_ints (by omega) ⟨rfl, h'⟩
    · walk_at "go"
      exact h'
    rw [Int.toNat_natCast]
    walk_at "v"
    subst eN
    exact skipI rfl (by decide) (skipI rfl (by decide) (skipL rfl (by decide) (fin t (q.2.set p _) q.1 _ _ _ _ _ _ hR bt3 (by rw [List.length_set]; omega))))
  · rw [hw]
    refine skipI rfl (by decide) (skipI rfl (by decide) (skipI rfl (by decide) (skipI rfl (by decide) (takeI rfl rfl fun N eN => ?_))))
    walk_at "go"
    refine ⟨⟨by rw [List.all_map, List.all_eq_true]; exact fun _ _ => rfl, by omega, by omega, by omega⟩, ?_⟩
    rw [erase_map]
    subst eN
    exact skipI rfl (by decide) (skipL rfl (by decide) (fin t (q.2.eraseIdx p) q.1 _ _ _ _ _ _ hR bt3 (by have := List.length_eraseIdx_le q.2 p; omega)))
  · rw [hw]
    refine skipI rfl (by decide) (skipI rfl (by decide) (skipI rfl (by decide) (skipI rfl (by decide) (skipI rfl (by decide) (takeI rfl rfl fun N eN => ?_)))))
    walk_at "go"
    refine ⟨⟨by omega, by rw [List.length_set, List.length_map]; omega, by rw [List.length_set, List.length_map]; omega⟩, ?_⟩
    rw [erase_set, erase_map]
    subst eN
    refine skipL rfl (by decide) ⟨_, _, b', _, rfl, rfl, rfl, .inr ?_⟩
    walk_at "go"
    refine hP t _ hR bt3 ⟨by have := List.length_eraseIdx_le ps k; omega, fun z hz => ?_⟩
    rw [(hps z (List.mem_of_mem_eraseIdx hz)).2.1]
    exact n6
  · rw [hw]
    refine skipI rfl (by decide) (skipI rfl (by decide) (skipI rfl (by decide) (skipI rfl (by decide) (skipI rfl (by decide) (skipI rfl (by decide) (takeL rfl rfl ?_))))))
    walk_at "go"
    refine ⟨p, dI (rowAt t 0), dI (rowAt t p), rfl, get_dT (by omega), get_dT (by omega), ?_⟩
    rw [show ((t.map dI).set p (dI (rowAt t 0))).set 0 (dI (rowAt t p)) = ((t.set p (rowAt t 0)).set 0 (rowAt t p)).map dI from by rw [List.map_set, List.map_set]]
    refine fin ((t.set p (rowAt t 0)).set 0 (rowAt t p)) q.2 q.1 _ _ _ _ _ _ ((hR.set (hR.row (by omega))).set (hR.row (by omega))) (fun r hr => ?_) (by omega)
    rcases List.mem_or_eq_of_mem_set hr with w | w
    · rcases List.mem_or_eq_of_mem_set w with w | w
      · exact bt3 r w
      · rw [w]; exact bt3 _ (rowAt_mem (by omega))
    · rw [w]; exact bt3 _ (rowAt_mem (by omega))
def S_law_unlike : DSp := fun ds P => ∃ (one other : List Int) (w : Int) (k : Nat), ds = [dI one, dI other, .int w] ∧ one.length ≤ 20 ∧ other.length ≤ 20 ∧ Bd k one ∧ Bd k other ∧ ∀ one' other', one'.length ≤ one.length + 1 → other'.length ≤ other.length + 1 → Bd k one' → Bd k other' → P (.lst [dI one', dI other'])
theorem mono_law_unlike : DMono S_law_unlike := by
  intro xs P P' k h
  obtain ⟨one, other, w, j, e, h1, h2, h3, h4, h⟩ := h
  exact ⟨one, other, w, j, e, h1, h2, h3, h4, fun a b c d f g => k _ (h a b c d f g)⟩
theorem len_law_unlike : ∀ ds P, S_law_unlike ds P → ds.length = 3 := by
  intro ds P h
  obtain ⟨_, _, _, _, e, _⟩ := h
  rw [e]; rfl
theorem ok_law_unlike {c : Cs} {f : Addr} {fd : FuncData} (F : FnAt K mg "_law_unlike" s_law_unlike P_law_unlike f fd) (A_ : Fns K mg c) (T : Txt K mg) (xs : Exs K mg base c) : FnOk P w K mg base CX0 1 f fd P_law_unlike (spR K S_law_unlike) := by
  refine F.fn.ok sc_law_unlike (fun vs H Q E h => spR_len len_law_unlike h) (fun cdv A outer s H vs Q E hr h => ?_)
  refine ⟨_, (pss_cons (ps_if (pt_cmpR op_eq (pv 2) pe_int (nomark _)) (pss_one (ps_ret (pe_lst (pa_cons (pv 0) (pa_cons (pe_op op_cat (pv 1) (pe_lst (pa_cons pe_int pa_nil))) pa_nil))))) pss_nil)
      (pss_cons (ps_if (pt_cmpR op_eq (pv 2) pe_int (nomark _)) (pss_one (ps_ret (pe_lst (pa_cons (pe_op op_cat (pv 0) (pe_lst (pa_cons pe_int pa_nil))) (pa_cons (pv 1) pa_nil))))) pss_nil)
      (pss_cons (ps_if (PW.pt (pw_and (pt_cmpR op_eq (pv 2) pe_int (nomark _)) (pw_and1 (pt_cmpR op_gt (pe_callB (call_lenK (K := K) rfl) (by rfl) T.len_ PySem.boot_len (pa_cons (pv 0) pa_nil)) pe_int (nomark _))))) (pss_one (ps_ret (pe_lst (pa_cons (pe_slice (sl_listK (K := K) rfl) (pv 0) po_none (po_some (pe_un un_neg pe_int))) (pa_cons (pv 1) pa_nil))))) pss_nil)
      (pss_cons (ps_if (PW.pt (pw_and (pt_cmpR op_eq (pv 2) pe_int (nomark _)) (pw_and1 (pt_cmpR op_gt (pe_callB (call_lenK (K := K) rfl) (by rfl) T.len_ PySem.boot_len (pa_cons (pv 1) pa_nil)) pe_int (nomark _))))) (pss_one (ps_ret (pe_lst (pa_cons (pv 0) (pa_cons (pe_slice (sl_listK (K := K) rfl) (pv 1) po_none (po_some (pe_un un_neg pe_int))) pa_nil))))) pss_nil)
      (pss_one (ps_ret (pe_lst (pa_cons (pv 0) (pa_cons (pv 1) pa_nil))))))))), fn_valR (Γn := []) (N := N_law_unlike) (st_seq (st_if (tr_test (EM.er (em_op o_eq (ES.er (es_var 2)) (EM.er em_int)))) (st_retR (er_lst (ar_cons (ES.er (es_var 0)) (ar_cons (EM.er (em_op o_cat (ES.er (es_var 1)) (EM.er (em_lst (am_cons0 em_int am_nil))))) ar_nil)))) st_next)
      (st_seq (st_if (tr_test (EM.er (em_op o_eq (ES.er (es_var 2)) (EM.er em_int)))) (st_retR (er_lst (ar_cons (EM.er (em_op o_cat (ES.er (es_var 0)) (EM.er (em_lst (am_cons0 em_int am_nil))))) (ar_cons (ES.er (es_var 1)) ar_nil)))) st_next)
      (st_seq (st_if (tr_and (tr_test (EM.er (em_op o_eq (ES.er (es_var 2)) (EM.er em_int)))) (tr_test (EM.er (em_op o_bl (EM.er (em_cb c_len (ar_cons (ES.er (es_var 0)) ar_nil))) (EM.er em_int))))) (st_retR (er_lst (ar_cons (EM.er (em_sl (ES.er (es_var 0)) or_none (or_some (EM.er (em_un u_int (EM.er em_int)))))) (ar_cons (ES.er (es_var 1)) ar_nil)))) st_next)
      (st_seq (st_if (tr_and (tr_test (EM.er (em_op o_eq (ES.er (es_var 2)) (EM.er em_int)))) (tr_test (EM.er (em_op o_bl (EM.er (em_cb c_len (ar_cons (ES.er (es_var 1)) ar_nil))) (EM.er em_int))))) (st_retR (er_lst (ar_cons (ES.er (es_var 0)) (ar_cons (EM.er (em_sl (ES.er (es_var 1)) or_none (or_some (EM.er (em_un u_int (EM.er em_int)))))) ar_nil)))) st_next)
      (st_retR (er_lst (ar_cons (ES.er (es_var 0)) (ar_cons (ES.er (es_var 1)) ar_nil)))))))) (fun ds P hS => ?_) h⟩
  obtain ⟨one, other, w, k, rfl, l1, l2, b1, b2, hP⟩ := hS
  rw [show startD N_law_unlike [dI one, dI other, .int w] = [some (dI one), some (dI other), some (.int w)] from rfl]
  have c0 : ∀ {xs : List Int}, Bd k xs → Bd k (xs ++ [0]) := fun {xs} h x hx => by
    rcases List.mem_append.mp hx with z | z
    · exact h x z
    · rw [List.mem_singleton.mp z]; exact Nat.pow_pos (by decide)
  have ci : ∀ {xs : List Int}, Bd k xs → Bd k (xs.take (xs.length - 1)) := fun {xs} h x hx => h x (List.mem_of_mem_take hx)
  have l0 : ∀ {xs : List Int}, (xs ++ [(0 : Int)]).length ≤ xs.length + 1 := fun {xs} => by rw [List.length_append]; exact Nat.le_refl _
  have li : ∀ {xs : List Int}, (xs.take (xs.length - 1)).length ≤ xs.length + 1 := fun {xs} => by rw [List.length_take]; omega
  refine peel fun R1 e1 => ?_
  walk_at "go"
  split
  · refine ⟨by decide, ⟨scal_ints, rfl, by omega⟩, by decide, ?_⟩
    rw [snoc_dI]
    exact hP one (other ++ [0]) (by omega) l0 b1 (c0 b2)
  subst e1
  refine peel fun R1 e1 => ?_
  walk_at "go"
  split
  · refine ⟨by decide, ⟨scal_ints, rfl, by omega⟩, by decide, ?_⟩
    rw [snoc_dI]
    exact hP (one ++ [0]) other l0 (by omega) (c0 b1) b2
  subst e1
  have last : P (.lst [dI one, dI other]) := hP one other (by omega) (by omega) b1 b2
  refine peel fun R1 e1 => ?_
  have k3 : R1 (endsD P) [some (dI one), some (dI other), some (.int w)] := by
    subst e1
    refine peel fun R1 e1 => ?_
    have k4 : R1 (endsD P) [some (dI one), some (dI other), some (.int w)] := by
      subst e1
      walk_at "go"
      exact last
    walk_at "go"
    split
    · split
      · refine ⟨scal_ints, by decide, ?_⟩
        rw [cutD_init, ← List.map_take, List.length_map]
        exact hP one (other.take (other.length - 1)) (by omega) li b1 (ci b2)
      · exact k4
    · exact k4
  walk_at "go"
  split
  · split
    · refine ⟨scal_ints, by decide, ?_⟩
      rw [cutD_init, ← List.map_take, List.length_map]
      exact hP (one.take (one.length - 1)) other li (by omega) (ci b1) b2
    · exact k3
  · exact k3
def S_law_cropped : DSp := fun ds P => ∃ (t : List (List Int)) (n m k : Nat) (w : Int), ds = [dT t, .int w] ∧ Rect n m t ∧ 1 ≤ n ∧ n ≤ 7 ∧ 1 ≤ m ∧ m ≤ 7 ∧ BdT k t ∧ ∀ t' n' m', Rect n' m' t' → 1 ≤ n' → n' ≤ 8 → 1 ≤ m' → m' ≤ 8 → BdT k t' → P (dT t')
theorem mono_law_cropped : DMono S_law_cropped := by
  intro xs P P' k h
  obtain ⟨t, n, m, j, w, e, h1, h2, h3, h4, h5, h6, h⟩ := h
  exact ⟨t, n, m, j, w, e, h1, h2, h3, h4, h5, h6, fun t' n' m' a b c d f g => k _ (h t' n' m' a b c d f g)⟩
theorem len_law_cropped : ∀ ds P, S_law_cropped ds P → ds.length = 2 := by
  intro ds P h
  obtain ⟨_, _, _, _, _, e, _⟩ := h
  rw [e]; rfl
theorem ok_law_cropped {c : Cs} {f : Addr} {fd : FuncData} (F : FnAt K mg "_law_cropped" s_law_cropped P_law_cropped f fd) (A_ : Fns K mg c) (T : Txt K mg) (xs : Exs K mg base c) : FnOk P w K mg base CX0 1 f fd P_law_cropped (spR K S_law_cropped) := by
  refine F.fn.ok sc_law_cropped (fun vs H Q E h => spR_len len_law_cropped h) (fun cdv A outer s H vs Q E hr h => ?_)
  refine ⟨_, (pss_cons (ps_if (PW.pt (pw_and (pt_cmpR op_eq (pv 1) pe_int (nomark _)) (pw_and1 (pt_cmpR op_gt (pe_callB (call_lenK (K := K) rfl) (by rfl) T.len_ PySem.boot_len (pa_cons (pv 0) pa_nil)) pe_int (nomark _))))) (pss_one (ps_ret (pe_slice (sl_listK (K := K) rfl) (pv 0) po_none (po_some (pe_un un_neg pe_int))))) pss_nil)
      (pss_cons (ps_if (PW.pt (pw_and (pt_cmpR op_eq (pv 1) pe_int (nomark _)) (pw_and1 (pt_cmpR op_gt (pe_callB (call_lenK (K := K) rfl) (by rfl) T.len_ PySem.boot_len (pa_cons (pe_ix (ix_listK (K := K) rfl) (pv 0) pe_int (fun _ _ => rfl)) pa_nil)) pe_int (nomark _))))) (pss_one (ps_ret (pe_comp0 (CompScope.of (sc0 := (defScope s_law_cropped)) (tn := ["_law_row"]) (cap := []) (idx := []) (by decide +kernel) rfl rfl) (pi_listK (K := K) rfl (pv 0)) (GSet.name (by decide)) (fun _ _ _ _ _ => pg_name (i := 0) (nodupB_iff (l := ["_law_row"]) (by decide +kernel)) rfl (by first | exact Or.inl rfl | exact Or.inr rfl) (by first | exact .inl rfl | exact .inr rfl)) (fun _ _ _ _ _ => (pe_slice (sl_listK (K := K) rfl) (pv 0) po_none (po_some (pe_un un_neg pe_int))))))) pss_nil)
      (pss_cons (ps_if (pt_cmpR op_eq (pv 1) pe_int (nomark _)) (pss_one (ps_ret (pe_op op_cat (pv 0) (pe_lst (pa_cons (pe_op op_rep (pe_lst (pa_cons pe_int pa_nil)) (pe_callB (call_lenK (K := K) rfl) (by rfl) T.len_ PySem.boot_len (pa_cons (pe_ix (ix_listK (K := K) rfl) (pv 0) pe_int (fun _ _ => rfl)) pa_nil))) pa_nil))))) pss_nil)
      (pss_cons (ps_if (pt_cmpR op_eq (pv 1) pe_int (nomark _)) (pss_one (ps_ret (pe_comp0 (CompScope.of (sc0 := (defScope s_law_cropped)) (tn := ["_law_row"]) (cap := []) (idx := []) (by decide +kernel) rfl rfl) (pi_listK (K := K) rfl (pv 0)) (GSet.name (by decide)) (fun _ _ _ _ _ => pg_name (i := 0) (nodupB_iff (l := ["_law_row"]) (by decide +kernel)) rfl (by first | exact Or.inl rfl | exact Or.inr rfl) (by first | exact .inl rfl | exact .inr rfl)) (fun _ _ _ _ _ => (pe_op op_cat (pv 0) (pe_lst (pa_cons pe_int pa_nil))))))) pss_nil)
      (pss_one (ps_ret (pv 0))))))), fn_valR (Γn := []) (N := N_law_cropped) (st_seq (st_if (tr_and (tr_test (EM.er (em_op o_eq (ES.er (es_var 1)) (EM.er em_int)))) (tr_test (EM.er (em_op o_bl (EM.er (em_cb c_len (ar_cons (ES.er (es_var 0)) ar_nil))) (EM.er em_int))))) (st_retR (er_sl (ES.er (es_var 0)) or_none (or_some (EM.er (em_un u_int (EM.er em_int)))))) st_next)
      (st_seq (st_if (tr_and (tr_test (EM.er (em_op o_eq (ES.er (es_var 1)) (EM.er em_int)))) (tr_test (EM.er (em_op o_bl (EM.er (em_cb c_len (ar_cons (ES.er (es_ixL (es_var 0) (EM.er em_int))) ar_nil))) (EM.er em_int))))) (st_retR (EM.er (em_comp0 (it_list (es_var 0)) (gt_name 0) (em_sl (ES.er (es_var 0)) or_none (or_some (EM.er (em_un u_int (EM.er em_int)))))))) st_next)
      (st_seq (st_if (tr_test (EM.er (em_op o_eq (ES.er (es_var 1)) (EM.er em_int)))) (st_retR (er_op o_catR (ES.er (es_var 0)) (EM.er (em_lst (am_cons0 (em_op o_rep (EM.er (em_lst (am_cons0 em_int am_nil))) (EM.er (em_cb c_len (ar_cons (ES.er (es_ixL (es_var 0) (EM.er em_int))) ar_nil)))) am_nil))))) st_next)
      (st_seq (st_if (tr_test (EM.er (em_op o_eq (ES.er (es_var 1)) (EM.er em_int)))) (st_retR (EM.er (em_comp0 (it_list (es_var 0)) (gt_name 0) (em_op o_cat (ES.er (es_var 0)) (EM.er (em_lst (am_cons0 em_int am_nil))))))) st_next)
      (st_retR (ES.er (es_var 0))))))) (fun ds P hS => ?_) h⟩
  obtain ⟨t, n, m, k, w, rfl, hR, n1, n7, m1, m7, bt, hP⟩ := hS
  rw [show startD N_law_cropped [dT t, .int w] = [some (dT t), some (.int w)] from rfl]
  have lt := hR.1
  have r0 := hR.row (i := 0) (by omega)
  have last : P (dT t) := hP t n m hR n1 (by omega) m1 (by omega) bt
  refine peel fun R1 e1 => ?_
  have k1 : R1 (endsD P) [some (dT t), some (.int w)] := by
    subst e1
    refine peel fun R1 e1 => ?_
    have k2 : R1 (endsD P) [some (dT t), some (.int w)] := by
      subst e1
      refine peel fun R1 e1 => ?_
      have k3 : R1 (endsD P) [some (dT t), some (.int w)] := by
        subst e1
        refine peel fun R1 e1 => ?_
        have k4 : R1 (endsD P) [some (dT t), some (.int w)] := by
          subst e1
          walk_at "go"
          exact last
        walk_at "go"
        split
        · refine comp_rows (t := t) (g := fun r => dI (r ++ [0])) (fun R h => h) (by omega) (fun r hr R h => ?_) ?_
          · walk_at "gb"
            have := hR.2 r hr
            refine ⟨⟨scal_ints, rfl, by omega⟩, ?_⟩
            rw [snoc_dI]
            exact h
          rw [map_dI]
          refine hP (t.map fun r => r ++ [0]) n (m + 1) ⟨by rw [List.length_map]; exact lt, fun r hr => ?_⟩ n1 (by omega) (by omega) (by omega) fun r hr => ?_
          · obtain ⟨u, hu, rfl⟩ := List.mem_map.mp hr
            rw [List.length_append, hR.2 u hu]; rfl
          · obtain ⟨u, hu, rfl⟩ := List.mem_map.mp hr
            intro x hx
            rcases List.mem_append.mp hx with z | z
            · exact bt u hu x z
            · rw [List.mem_singleton.mp z]; exact Nat.pow_pos (by decide)
        · exact k4
      walk_at "go"
      split
      · refine ⟨by decide, asO_rows (by omega) ?_⟩
        walk_at "go"
        refine ⟨⟨rfl, by omega, by omega⟩, by decide, by omega, ?_⟩
        rw [rep_zero, r0, show t.map dI ++ [dI (List.replicate m 0)] = (t ++ [List.replicate m 0]).map dI from by rw [List.map_append]; rfl]
        refine hP (t ++ [List.replicate m 0]) (n + 1) m ⟨by rw [List.length_append, lt]; rfl, fun r hr => ?_⟩ (by omega) (by omega) m1 (by omega) fun r hr => ?_
        · rcases List.mem_append.mp hr with z | z
          · exact hR.2 r z
          · rw [List.mem_singleton.mp z]; exact List.length_replicate
        · rcases List.mem_append.mp hr with z | z
          · exact bt r z
          · rw [List.mem_singleton.mp z]
            intro x hx
            rw [(List.mem_replicate.mp hx).2]
            exact Nat.pow_pos (by decide)
      · exact k3
    walk_at "go"
    split
    · refine asO_rows (by omega) ?_
      walk_at "go"
      split
      · refine comp_rows (t := t) (g := fun r => dI (r.take (r.length - 1))) (fun R h => h) (by omega) (fun r hr R h => ?_) ?_
        · walk_at "gb"
          rw [cutD_init, ← List.map_take, List.length_map]
          exact h
        rw [map_dI]
        refine hP (t.map fun r => r.take (r.length - 1)) n (m - 1) ⟨by rw [List.length_map]; exact lt, fun r hr => ?_⟩ n1 (by omega) (by omega) (by omega) fun r hr => ?_
        · obtain ⟨u, hu, rfl⟩ := List.mem_map.mp hr
          rw [List.length_take, hR.2 u hu]; omega
        · obtain ⟨u, hu, rfl⟩ := List.mem_map.mp hr
          exact fun x hx => bt u hu x (List.mem_of_mem_take hx)
      · exact k2
    · exact k2
  walk_at "go"
  split
  · split
    · rw [cutD_init, ← List.map_take, List.length_map]
      exact hP (t.take (t.length - 1)) (n - 1) m ⟨by rw [List.length_take]; omega, fun r hr => hR.2 r (List.mem_of_mem_take hr)⟩ (by omega) (by omega) m1 (by omega) fun r hr => bt r (List.mem_of_mem_take hr)
    · exact k1
  · exact k1
theorem rep_c {c : Int} {n : Nat} : L3.D.lst (repD [L3.D.int c] n) = dI (List.replicate n c) := by
  unfold repD dI
  simp
def S_law_summing : DSp := fun ds P => ∃ (ps : List (Int × List Int)) (n : Nat) (y : Int), ds = [.lst (ps.map dPr), .int n, .int y] ∧ 1 ≤ n ∧ n ≤ 6 ∧ 1 ≤ ps.length ∧ ps.length ≤ 6 ∧ PsN (10 ^ 12 + 1) n ps ∧ 0 ≤ y ∧ ∀ ps', 1 ≤ ps'.length → ps'.length ≤ 12 → PsN (10 ^ 13) n ps' → P (.lst (ps'.map dPr))
theorem mono_law_summing : DMono S_law_summing := by
  intro xs P P' k h
  obtain ⟨ps, n, y, e, h1, h2, h3, h4, h5, h6, h⟩ := h
  exact ⟨ps, n, y, e, h1, h2, h3, h4, h5, h6, fun a b c d => k _ (h a b c d)⟩
theorem len_law_summing : ∀ ds P, S_law_summing ds P → ds.length = 3 := by
  intro ds P h
  obtain ⟨_, _, _, e, _⟩ := h
  rw [e]; rfl
theorem ok_law_summing {c : Cs} {f : Addr} {fd : FuncData} (F : FnAt K mg "_law_summing" s_law_summing P_law_summing f fd) (A_ : Fns K mg c) (T : Txt K mg) (xs : Exs K mg base c) : FnOk P w K mg base CX0 1 f fd P_law_summing (spR K S_law_summing) := by
  refine F.fn.ok sc_law_summing (fun vs H Q E h => spR_len len_law_summing h) (fun cdv A outer s H vs Q E hr h => ?_)
  refine ⟨_, (pss_cons (ps_set (i := 3) sc_law_summing.nd rfl (by first | exact Or.inl rfl | exact Or.inr rfl) (pe_op op_mod (pe_op op_fdivB (pv 2) pe_int) (pe_callB (call_lenK (K := K) rfl) (by rfl) T.len_ PySem.boot_len (pa_cons (pv 0) pa_nil))))
      (pss_cons (ps_asg (pe_ix (ix_listK (K := K) rfl) (pv 0) (pv 3) (fun _ _ => rfl)) (pg_tupK (K := K) rfl rfl (pgs_cons (pg_name (i := 4) sc_law_summing.nd rfl (by first | exact Or.inl rfl | exact Or.inr rfl)) (pgs_cons (pg_name (i := 5) sc_law_summing.nd rfl (by first | exact Or.inl rfl | exact Or.inr rfl)) pgs_nil))))
      (pss_cons (ps_if (pt_cmpR op_eq (pe_op op_mod (pv 2) pe_int) pe_int (nomark _)) (pss_one (ps_ret (pe_op op_cat (pe_op op_cat (pe_slice (sl_listK (K := K) rfl) (pv 0) po_none (po_some (pv 3))) (pe_lst (pa_cons (pe_tup (pa_cons pe_int (pa_cons (pe_callTy (call_listK (K := K) rfl) (by rfl) T.list_ boot_list (pa_cons (pv 5) pa_nil)) pa_nil))) pa_nil))) (pe_slice (sl_listK (K := K) rfl) (pv 0) (po_some (pv 3)) po_none)))) pss_nil)
      (pss_cons (ps_if (pt_cmpR op_lt (pe_op op_mod (pv 2) pe_int) pe_int (nomark _)) (pss_one (ps_ret (pe_op op_cat (pe_op op_cat (pe_slice (sl_listK (K := K) rfl) (pv 0) po_none (po_some (pv 3))) (pe_lst (pa_cons (pe_tup (pa_cons (pe_op op_add (pv 4) pe_int) (pa_cons (pv 5) pa_nil))) (pa_cons (pe_tup (pa_cons (pe_un un_neg pe_int) (pa_cons (pe_callTy (call_listK (K := K) rfl) (by rfl) T.list_ boot_list (pa_cons (pv 5) pa_nil)) pa_nil))) pa_nil)))) (pe_slice (sl_listK (K := K) rfl) (pv 0) (po_some (pe_op op_add (pv 3) pe_int)) po_none)))) pss_nil)
      (pss_one (ps_ret (pe_op op_cat (pv 0) (pe_comp0 (CompScope.of (sc0 := (defScope s_law_summing)) (tn := ["_law_column"]) (cap := ["_law_size"]) (idx := [1]) (by decide +kernel) rfl rfl) (pi_range1 rfl T.range_ (pa_cons (pv 1) pa_nil)) (GSet.name (by decide)) (fun _ _ _ _ _ => pg_name (i := 0) (nodupB_iff (l := ["_law_column", "_law_size"]) (by decide +kernel)) rfl (by first | exact Or.inl rfl | exact Or.inr rfl) (by first | exact .inl rfl | exact .inr rfl)) (fun _ _ _ _ _ => (pe_tup (pa_cons pe_int (pa_cons (pe_op op_rep (pe_lst (pa_cons (pv 0) pa_nil)) (pv 1)) pa_nil)))))))))))), fn_valR (Γn := []) (N := N_law_summing) (st_seq (ST.post (Γn := []) (st_setS 3 (EM.es (em_op o_intC (EM.er (em_op o_intC (ES.er (es_var 2)) (EM.er em_int))) (EM.er (em_cb c_len (ar_cons (ES.er (es_var 0)) ar_nil)))))))
      (st_seq (st_asgS (es_ixL (es_var 0) (ES.er (es_var 3))) (gt_tup (gts_cons (gt_name 4) (gts_cons (gt_name 5) gts_nil))))
      (st_seq (st_if (tr_test (EM.er (em_op o_eq (EM.er (em_op o_intC (ES.er (es_var 2)) (EM.er em_int))) (EM.er em_int)))) (st_retR (er_op o_catR (er_op o_catR (er_sl (ES.er (es_var 0)) or_none (or_some (ES.er (es_var 3)))) (EM.er (em_lst (am_cons0 (em_tup (am_cons0 em_int (am_cons0 (em_cb c_list (ar_cons (ES.er (es_var 5)) ar_nil)) am_nil))) am_nil)))) (er_sl (ES.er (es_var 0)) (or_some (ES.er (es_var 3))) or_none))) st_next)
      (st_seq (st_if (tr_test (EM.er (em_op o_bl (EM.er (em_op o_intC (ES.er (es_var 2)) (EM.er em_int))) (EM.er em_int)))) (st_retR (er_op o_catR (er_op o_catR (er_sl (ES.er (es_var 0)) or_none (or_some (ES.er (es_var 3)))) (er_lst (ar_cons (er_tup (ar_cons (EM.er (em_op o_int (ES.er (es_var 4)) (EM.er em_int))) (ar_cons (ES.er (es_var 5)) ar_nil))) (ar_cons (EM.er (em_tup (am_cons0 (em_un u_int (EM.er em_int)) (am_cons0 (em_cb c_list (ar_cons (ES.er (es_var 5)) ar_nil)) am_nil)))) ar_nil)))) (er_sl (ES.er (es_var 0)) (or_some (EM.er (em_op o_int (ES.er (es_var 3)) (EM.er em_int)))) or_none))) st_next)
      (st_retR (er_op o_catR (ES.er (es_var 0)) (EM.er (em_comp0 (it_rng1 (ar_cons (ES.er (es_var 1)) ar_nil)) (gt_name 0) (em_tup (am_cons0 em_int (am_cons0 (em_op o_rep (EM.er (em_lst (am_cons0 (ER.scal (ES.er (es_var 0))) am_nil))) (ES.er (es_var 1))) am_nil))))))))))) (fun ds P hS => ?_) h⟩
  obtain ⟨ps, n, y, rfl, n1, n6, p1, p6, hps, y0, hP⟩ := hS
  rw [show startD N_law_summing [.lst (ps.map dPr), .int n, .int y] = [some (.lst (ps.map dPr)), some (.int n), some (.int y), none, none, none] from rfl]
  refine peel fun R1 e1 => ?_
  walk_at "go"
  subst e1
  refine peel fun R1 e1 => ?_
  walk_at "go"
  have am := emod_lt (x := y / 4) (n := (ps.length : Int)) (by omega)
  obtain ⟨k, hk⟩ : ∃ k : Nat, y / 4 % (ps.length : Int) = (k : Int) := ⟨(y / 4 % (ps.length : Int)).toNat, by omega⟩
  rw [hk]
  obtain ⟨q, hq⟩ : ∃ q, ps[k]? = some q := ⟨_, List.getElem?_eq_getElem (by omega)⟩
  obtain ⟨b1, b2, b3⟩ := hps q (List.mem_of_getElem? hq)
  have hps' : PsN (10 ^ 13) n ps := fun z hz => ⟨by have := (hps z hz).1; omega, (hps z hz).2⟩
  refine asO_idx (by omega) (by rw [List.length_map]; omega) ?_
  rw [Int.toNat_natCast, List.getElem?_map, hq]
  show asO (some (.tup [.int q.1, dI q.2])) _
  walk_at "go"
  subst e1
  have lk : k < ps.length := by omega
  have lp := List.length_take (l := ps) (i := k)
  have tk : ∀ z ∈ ps.take k, z ∈ ps := fun z hz => List.mem_of_mem_take hz
  have dk : ∀ i, ∀ z ∈ ps.drop i, z ∈ ps := fun i z hz => List.mem_of_mem_drop hz
  refine peel fun R1 e1 => ?_
  walk_at "go"
  rw [cutD_from (by omega) (by rw [List.length_map]; omega), cutD_to (by omega), ← List.map_take, ← List.map_drop, Int.toNat_natCast]
  split
  · refine ⟨scal_ints, by decide, by decide, by rw [List.length_map, List.length_take]; omega, by rw [List.length_append, List.length_map, List.length_map, List.length_take, List.length_drop]; simp; omega, ?_⟩
    rw [show (ps.take k).map dPr ++ [.tup [.int 0, .lst (q.2.map L3.D.int)]] ++ (ps.drop k).map dPr = (ps.take k ++ [(0, q.2)] ++ ps.drop k).map dPr from by rw [List.map_append, List.map_append]; rfl]
    refine hP _ (by rw [List.length_append, List.length_append, List.length_singleton]; omega) (by rw [List.length_append, List.length_append, List.length_take, List.length_drop]; simp; omega) fun z hz => ?_
    rcases List.mem_append.mp hz with w | w
    · rcases List.mem_append.mp w with w | w
      · exact hps' z (tk z w)
      · rw [List.mem_singleton.mp w]; exact ⟨(show (0 : Int).natAbs ≤ 10 ^ 13 by decide), b2, b3⟩
    · exact hps' z (dk k z w)
  subst e1
  refine peel fun R1 e1 => ?_
  walk_at "go"
  rw [cutD_from (by omega) (by rw [List.length_map]; omega), cutD_to (by omega), ← List.map_take, ← List.map_drop, Int.toNat_natCast, show ((k : Int) + 1).toNat = k + 1 by omega]
  split
  · refine ⟨by decide, scal_ints, by decide, by decide, by rw [List.length_map, List.length_take]; omega, by rw [List.length_append, List.length_map, List.length_map, List.length_take, List.length_drop]; simp; omega, ?_⟩
    rw [show (ps.take k).map dPr ++ [.tup [.int (q.1 + 3), dI q.2], .tup [.int (-3), .lst (q.2.map L3.D.int)]] ++ (ps.drop (k + 1)).map dPr = (ps.take k ++ [(q.1 + 3, q.2), (-3, q.2)] ++ ps.drop (k + 1)).map dPr from by rw [List.map_append, List.map_append]; rfl]
    refine hP _ (by rw [List.length_append, List.length_append, List.length_cons, List.length_singleton]; omega) (by rw [List.length_append, List.length_append, List.length_take, List.length_drop]; simp; omega) fun z hz => ?_
    rcases List.mem_append.mp hz with w | w
    · rcases List.mem_append.mp w with w | w
      · exact hps' z (tk z w)
      · rcases List.mem_cons.mp w with w | w
        · rw [w]; exact ⟨by show (q.1 + 3).natAbs ≤ _; omega, b2, b3⟩
        · rw [List.mem_singleton.mp w]; exact ⟨(show (-3 : Int).natAbs ≤ 10 ^ 13 by decide), b2, b3⟩
    · exact hps' z (dk (k + 1) z w)
  subst e1
  walk_at "go"
  refine comp_rng (lo := 0) (n := n) (g := fun (c : Nat) => dPr (7, List.replicate n (c : Int))) (fun R h => ?_) (by omega) (fun c hc R h => ?_) ?_
  · walk_at "go"
    exact h
  · walk_at "gb"
    rw [rep_c, Int.zero_add]
    exact ⟨⟨rfl, by omega, by omega⟩, by decide, h⟩
  rw [show (List.range n).map (fun (c : Nat) => dPr (7, List.replicate n (c : Int))) = ((List.range n).map fun (c : Nat) => ((7 : Int), List.replicate n (c : Int))).map dPr by rw [List.map_map]; rfl]
  walk_at "go"
  refine ⟨by rw [List.length_range]; omega, ?_⟩
  rw [← List.map_append]
  refine hP _ (by rw [List.length_append]; omega) (by rw [List.length_append, List.length_map, List.length_range]; omega) fun z hz => ?_
  rcases List.mem_append.mp hz with w | w
  · exact hps' z w
  · obtain ⟨c, hc, rfl⟩ := List.mem_map.mp w
    have := List.mem_range.mp hc
    refine ⟨(show (7 : Int).natAbs ≤ 10 ^ 13 by decide), List.length_replicate, fun x hx => ?_⟩
    rw [(List.mem_replicate.mp hx).2]
    omega
def S_law_pushed : DSI := fun ds P => ∃ (t : List (List Int)) (n : Nat) (y : Int), ds = [dT t, .int y] ∧ Rect n n t ∧ 2 ≤ n ∧ n ≤ 6 ∧ 0 ≤ y ∧ BdT 48 t ∧ ∀ t', Rect n n t' → BdT 56 t' → P .non (dT t')
theorem mono_law_pushed : DMonoI S_law_pushed := by
  intro xs P P' k h
  obtain ⟨t, n, y, e, h1, h2, h3, h4, h5, h⟩ := h
  exact ⟨t, n, y, e, h1, h2, h3, h4, h5, fun a b c => k _ _ (h a b c)⟩
theorem len_law_pushed : ∀ ds P, S_law_pushed ds P → ds.length = 2 := by
  intro ds P h
  obtain ⟨t, n, y, e, _⟩ := h
  rw [e]; rfl
theorem ok_law_pushed {c : Cs} {f : Addr} {fd : FuncData} (F : FnAt K mg "_law_pushed" s_law_pushed P_law_pushed f fd) (A_ : Fns K mg c) (T : Txt K mg) (xs : Exs K mg base c) : FnOk P w K mg base CX0 1 f fd P_law_pushed (spI K 0 S_law_pushed) := by
  refine F.fn.ok sc_law_pushed (fun vs H Q E h => spI_len len_law_pushed h) (fun cdv A outer s H vs Q E hr h => ?_)
  refine ⟨_, (pss_cons (ps_set (i := 2) sc_law_pushed.nd rfl (by first | exact Or.inl rfl | exact Or.inr rfl) (pe_callB (call_lenK (K := K) rfl) (by rfl) T.len_ PySem.boot_len (pa_cons (pv 0) pa_nil)))
      (pss_cons (ps_set (i := 3) sc_law_pushed.nd rfl (by first | exact Or.inl rfl | exact Or.inr rfl) (pe_op op_mod (pe_op op_fdivB (pv 1) pe_int) (pv 2)))
      (pss_cons (ps_set (i := 4) sc_law_pushed.nd rfl (by first | exact Or.inl rfl | exact Or.inr rfl) (pe_op op_mod (pe_op op_fdivB (pv 1) pe_int) (pv 2)))
      (pss_cons (ps_set (i := 5) sc_law_pushed.nd rfl (by first | exact Or.inl rfl | exact Or.inr rfl) (pe_op op_mod (pe_op op_add (pe_op op_add (pv 3) pe_int) (pe_op op_mod (pe_op op_fdivB (pv 1) pe_int) (pe_op op_sub (pv 2) pe_int))) (pv 2)))
      (pss_cons (ps_set (i := 6) sc_law_pushed.nd rfl (by first | exact Or.inl rfl | exact Or.inr rfl) (pe_op op_mod (pe_op op_add (pe_op op_add (pv 4) pe_int) (pe_op op_mod (pe_op op_fdivB (pv 1) pe_int) (pe_op op_sub (pv 2) pe_int))) (pv 2)))
      (pss_cons (ps_set (i := 7) sc_law_pushed.nd rfl (by first | exact Or.inl rfl | exact Or.inr rfl) (pe_op op_add pe_int (pe_ix (ix_listK (K := K) rfl) (pe_ix (ix_listK (K := K) rfl) (pv 0) (pv 3) (fun _ _ => rfl)) (pv 4) (fun _ _ => rfl))))
      (pss_cons (ps_if (pt_cmpR op_eq (pe_op op_mod (pv 1) pe_int) pe_int (nomark _)) (pss_one (ps_set (i := 7) sc_law_pushed.nd rfl (by first | exact Or.inl rfl | exact Or.inr rfl) (pe_ix (ix_listK (K := K) rfl) (pe_ix (ix_listK (K := K) rfl) (pv 0) (pv 3) (fun _ _ => rfl)) (pv 4) (fun _ _ => rfl)))) pss_nil)
      (pss_cons (ps_asg (pe_op op_sub (pe_ix (ix_listK (K := K) rfl) (pe_ix (ix_listK (K := K) rfl) (pv 0) (pv 3) (fun _ _ => rfl)) (pv 4) (fun _ _ => rfl)) (pv 7)) (pg_sub (pe_ix (ix_listK (K := K) rfl) (pv 0) (pv 3) (fun _ _ => rfl)) (pv 4) set_list))
      (pss_cons (ps_asg (pe_op op_add (pe_ix (ix_listK (K := K) rfl) (pe_ix (ix_listK (K := K) rfl) (pv 0) (pv 3) (fun _ _ => rfl)) (pv 6) (fun _ _ => rfl)) (pv 7)) (pg_sub (pe_ix (ix_listK (K := K) rfl) (pv 0) (pv 3) (fun _ _ => rfl)) (pv 6) set_list))
      (pss_one (ps_if (pt_cmpR op_eq (pe_op op_mod (pv 1) pe_int) pe_int (nomark _)) (pss_cons (ps_asg (pe_op op_add (pe_ix (ix_listK (K := K) rfl) (pe_ix (ix_listK (K := K) rfl) (pv 0) (pv 5) (fun _ _ => rfl)) (pv 4) (fun _ _ => rfl)) (pv 7)) (pg_sub (pe_ix (ix_listK (K := K) rfl) (pv 0) (pv 5) (fun _ _ => rfl)) (pv 4) set_list))
      (pss_one (ps_asg (pe_op op_sub (pe_ix (ix_listK (K := K) rfl) (pe_ix (ix_listK (K := K) rfl) (pv 0) (pv 5) (fun _ _ => rfl)) (pv 6) (fun _ _ => rfl)) (pv 7)) (pg_sub (pe_ix (ix_listK (K := K) rfl) (pv 0) (pv 5) (fun _ _ => rfl)) (pv 6) set_list)))) pss_nil))))))))))), fn_valI (Γn := [0]) (N := N_law_pushed) (p := 0) (st_seq (ST.post (Γn := [0]) (st_setS 2 (EM.es (em_cb c_len (ar_cons (er_varP 0) ar_nil)))))
      (st_seq (ST.post (Γn := [0]) (st_setS 3 (EM.es (em_op o_intC (EM.er (em_op o_intC (ES.er (es_var 1)) (EM.er em_int))) (ES.er (es_var 2))))))
      (st_seq (ST.post (Γn := [0]) (st_setS 4 (EM.es (em_op o_intC (EM.er (em_op o_intC (ES.er (es_var 1)) (EM.er em_int))) (ES.er (es_var 2))))))
      (st_seq (ST.post (Γn := [0]) (st_setS 5 (EM.es (em_op o_intC (EM.er (em_op o_int (EM.er (em_op o_int (ES.er (es_var 3)) (EM.er em_int))) (EM.er (em_op o_intC (EM.er (em_op o_intC (ES.er (es_var 1)) (EM.er em_int))) (EM.er (em_op o_int (ES.er (es_var 2)) (EM.er em_int))))))) (ES.er (es_var 2))))))
      (st_seq (ST.post (Γn := [0]) (st_setS 6 (EM.es (em_op o_intC (EM.er (em_op o_int (EM.er (em_op o_int (ES.er (es_var 4)) (EM.er em_int))) (EM.er (em_op o_intC (EM.er (em_op o_intC (ES.er (es_var 1)) (EM.er em_int))) (EM.er (em_op o_int (ES.er (es_var 2)) (EM.er em_int))))))) (ES.er (es_var 2))))))
      (st_seq (ST.post (Γn := [0]) (st_setS 7 (EM.es (em_op o_int (EM.er em_int) (er_ixL (er_ixL (er_varP 0) (ES.er (es_var 3))) (ES.er (es_var 4)))))))
      (st_seq (st_if (tr_test (EM.er (em_op o_eq (EM.er (em_op o_intC (ES.er (es_var 1)) (EM.er em_int))) (EM.er em_int)))) (ST.post (Γn := [0]) (st_setS 7 (EM.es (ER.scal (er_ixL (er_ixL (er_varP 0) (ES.er (es_var 3))) (ES.er (es_var 4))))))) st_next)
      (st_seq (st_pin 0 (st0_setItem2 0 (em_op o_int (er_ixL (er_ixL (er_var 0) (ES.er (es_var 3))) (ES.er (es_var 4))) (ES.er (es_var 7))) (ES.er (es_var 3)) (ES.er (es_var 4))))
      (st_seq (st_pin 0 (st0_setItem2 0 (em_op o_int (er_ixL (er_ixL (er_var 0) (ES.er (es_var 3))) (ES.er (es_var 6))) (ES.er (es_var 7))) (ES.er (es_var 3)) (ES.er (es_var 6))))
      (st_if (tr_test (EM.er (em_op o_eq (EM.er (em_op o_intC (ES.er (es_var 1)) (EM.er em_int))) (EM.er em_int)))) (st_seq (st_pin 0 (st0_setItem2 0 (em_op o_int (er_ixL (er_ixL (er_var 0) (ES.er (es_var 5))) (ES.er (es_var 4))) (ES.er (es_var 7))) (ES.er (es_var 5)) (ES.er (es_var 4))))
      (st_pin 0 (st0_setItem2 0 (em_op o_int (er_ixL (er_ixL (er_var 0) (ES.er (es_var 5))) (ES.er (es_var 6))) (ES.er (es_var 7))) (ES.er (es_var 5)) (ES.er (es_var 6))))) st_next)))))))))) (fun ds P a x hS hx => ?_) (by decide) (fun ds P h => by have := len_law_pushed ds P h; omega) h⟩
  obtain ⟨t, n, y, rfl, hR, n2, n6, y0, bt, hP⟩ := hS
  cases hx
  simp only [List.set_cons_zero, List.set_cons_succ]
  rw [show startD N_law_pushed [.pin a (dT t), .int y] = [some (.pin a (dT t)), some (.int y), none, none, none, none, none, none] from rfl]
  have lt := hR.1
  have g1 := emod_lt (x := y / 2) (n := (n : Int)) (by omega)
  have g2 := emod_lt (x := y / 16) (n := (n : Int)) (by omega)
  obtain ⟨i, hi⟩ : ∃ i : Nat, y / 2 % (n : Int) = (i : Int) := ⟨(y / 2 % (n : Int)).toNat, by omega⟩
  obtain ⟨j, hj⟩ : ∃ j : Nat, y / 16 % (n : Int) = (j : Int) := ⟨(y / 16 % (n : Int)).toNat, by omega⟩
  refine peel fun R1 e1 => ?_
  walk_at "go"
  rw [lt]
  subst e1
  refine peel fun R1 e1 => ?_
  walk_at "go"
  rw [hi]
  subst e1
  refine peel fun R1 e1 => ?_
  walk_at "go"
  rw [hj]
  subst e1
  refine peel fun R1 e1 => ?_
  walk_at "go"
  have g3 := emod_lt (x := (i : Int) + 1 + y / 128 % ((n : Int) - 1)) (n := (n : Int)) (by omega)
  obtain ⟨k, hk⟩ : ∃ k : Nat, ((i : Int) + 1 + y / 128 % ((n : Int) - 1)) % (n : Int) = (k : Int) := ⟨(((i : Int) + 1 + y / 128 % ((n : Int) - 1)) % (n : Int)).toNat, by omega⟩
  rw [hk]
  subst e1
  refine peel fun R1 e1 => ?_
  walk_at "go"
  have g4 := emod_lt (x := (j : Int) + 1 + y / 1024 % ((n : Int) - 1)) (n := (n : Int)) (by omega)
  obtain ⟨l, hl⟩ : ∃ l : Nat, ((j : Int) + 1 + y / 1024 % ((n : Int) - 1)) % (n : Int) = (l : Int) := ⟨(((j : Int) + 1 + y / 1024 % ((n : Int) - 1)) % (n : Int)).toNat, by omega⟩
  rw [hl]
  have li : i < n := by omega
  have lj : j < n := by omega
  have lk : k < n := by omega
  have ll : l < n := by omega
  clear g1 g2 g3 g4 hi hj hk hl
  have c0 := bt.cell hR (j := j) li
  subst e1
  refine peel fun R1 e1 => ?_
  walk_at "go"
  refine asO_rows (by omega) ?_
  walk_at "go"
  have lr := hR.row li
  refine asO_ints (by omega) ?_
  walk_at "go"
  subst e1
  refine peel fun R1 e1 => ?_
  have k5 : ∀ p : Int, p.natAbs ≤ 2 ^ 48 → R1 (endsI 0 a P) [some (.pin a (dT t)), some (.int y), some (.int n), some (.int i), some (.int j), some (.int k), some (.int l), some (.int p)] := by
    subst e1
    intro p hp
    have r_t := hR
    have b_t := bt
    refine peel fun R1 e1 => ?_
    walk_at "go"
    refine setItem2_tab (t := t) (a := (i : Int)) (b := (j : Int)) (v := cellAt t i j - p) rfl (fun R h => ?_) (fun R h => ?_) (fun R h => ?_) (by have := r_t.1; omega) (by rw [Int.toNat_natCast, r_t.row (by omega)]; omega) ?_
    · walk_at "v"
      refine asO_rows (by have := r_t.1; omega) ?_
      walk_at "v"
      refine asO_ints (by have := r_t.row (i := i) (by omega); omega) ?_
      walk_at "v"
      exact h
    · walk_at "v"; exact h
    · walk_at "v"; exact h
    rw [Int.toNat_natCast, Int.toNat_natCast]
    obtain ⟨t1, ht1⟩ : ∃ u, setCell t i j (cellAt t i j - p) = u := ⟨_, rfl⟩
    have r_t1 : Rect n n t1 := by rw [← ht1]; exact r_t.setCell (by omega)
    have b_t1 : BdT 50 t1 := by rw [← ht1]; exact bd_cell (b_t.mono (by decide)) (by have := b_t.cell r_t (j := j) (show i < n by omega); omega)
    rw [ht1]
    walk_at "v"
    subst e1
    refine peel fun R1 e1 => ?_
    walk_at "go"
    refine setItem2_tab (t := t1) (a := (i : Int)) (b := (l : Int)) (v := cellAt t1 i l + p) rfl (fun R h => ?_) (fun R h => ?_) (fun R h => ?_) (by have := r_t1.1; omega) (by rw [Int.toNat_natCast, r_t1.row (by omega)]; omega) ?_
    · walk_at "v"
      refine asO_rows (by have := r_t1.1; omega) ?_
      walk_at "v"
      refine asO_ints (by have := r_t1.row (i := i) (by omega); omega) ?_
      walk_at "v"
      exact h
    · walk_at "v"; exact h
    · walk_at "v"; exact h
    rw [Int.toNat_natCast, Int.toNat_natCast]
    obtain ⟨t2, ht2⟩ : ∃ u, setCell t1 i l (cellAt t1 i l + p) = u := ⟨_, rfl⟩
    have r_t2 : Rect n n t2 := by rw [← ht2]; exact r_t1.setCell (by omega)
    have b_t2 : BdT 51 t2 := by rw [← ht2]; exact bd_cell (b_t1.mono (by decide)) (by have := b_t1.cell r_t1 (j := l) (show i < n by omega); omega)
    rw [ht2]
    walk_at "v"
    subst e1
    refine ifS (y % 2 = 0) (fun Q h => by walk_at "go"; exact h) (fun _ => ?_) (fun _ => ?_)
    · refine peel fun R1 e1 => ?_
      walk_at "go"
      refine setItem2_tab (t := t2) (a := (k : Int)) (b := (j : Int)) (v := cellAt t2 k j + p) rfl (fun R h => ?_) (fun R h => ?_) (fun R h => ?_) (by have := r_t2.1; omega) (by rw [Int.toNat_natCast, r_t2.row (by omega)]; omega) ?_
      · walk_at "v"
        refine asO_rows (by have := r_t2.1; omega) ?_
        walk_at "v"
        refine asO_ints (by have := r_t2.row (i := k) (by omega); omega) ?_
        walk_at "v"
        exact h
      · walk_at "v"; exact h
      · walk_at "v"; exact h
      rw [Int.toNat_natCast, Int.toNat_natCast]
      obtain ⟨t3, ht3⟩ : ∃ u, setCell t2 k j (cellAt t2 k j + p) = u := ⟨_, rfl⟩
      have r_t3 : Rect n n t3 := by rw [← ht3]; exact r_t2.setCell (by omega)
      have b_t3 : BdT 52 t3 := by rw [← ht3]; exact bd_cell (b_t2.mono (by decide)) (by have := b_t2.cell r_t2 (j := j) (show k < n by omega); omega)
      rw [ht3]
      walk_at "v"
      subst e1
      walk_at "go"
      refine setItem2_tab (t := t3) (a := (k : Int)) (b := (l : Int)) (v := cellAt t3 k l - p) rfl (fun R h => ?_) (fun R h => ?_) (fun R h => ?_) (by have := r_t3.1; omega) (by rw [Int.toNat_natCast, r_t3.row (by omega)]; omega) ?_
      · walk_at "v"
        refine asO_rows (by have := r_t3.1; omega) ?_
        walk_at "v"
        refine asO_ints (by have := r_t3.row (i := k) (by omega); omega) ?_
        walk_at "v"
        exact h
      · walk_at "v"; exact h
      · walk_at "v"; exact h
      rw [Int.toNat_natCast, Int.toNat_natCast]
      obtain ⟨t4, ht4⟩ : ∃ u, setCell t3 k l (cellAt t3 k l - p) = u := ⟨_, rfl⟩
      have r_t4 : Rect n n t4 := by rw [← ht4]; exact r_t3.setCell (by omega)
      have b_t4 : BdT 53 t4 := by rw [← ht4]; exact bd_cell (b_t3.mono (by decide)) (by have := b_t3.cell r_t3 (j := l) (show k < n by omega); omega)
      rw [ht4]
      walk_at "v"
      exact hP t4 r_t4 (b_t4.mono (by decide))
    · walk_at "go"
      exact hP t2 r_t2 (b_t2.mono (by decide))
  have c0 : ((rowAt t i).getD j 0).natAbs < 2 ^ 48 := c0
  refine ifS (y % 2 = 1) (fun Q h => by walk_at "go"; exact h) (fun _ => ?_) (fun _ => ?_)
  · walk_at "go"
    refine asO_rows (by omega) ?_
    walk_at "go"
    refine asO_ints (by omega) ⟨rfl, ?_⟩
    exact k5 ((rowAt t i).getD j 0) (by omega)
  · walk_at "go"
    exact k5 _ (by omega)
def S_law_bent : DSJ := fun ds P => ∃ (t : List (List Int)) (ps : List (Int × List Int)) (one other : List Int) (n : Nat) (y : Int), ds = [dT t, .lst (ps.map dPr), dI one, dI other, .int y] ∧ Rect n n t ∧ 1 ≤ n ∧ n ≤ 6 ∧ BdT 56 t ∧ PsN (10 ^ 12 + 1) n ps ∧ 1 ≤ ps.length ∧ ps.length ≤ 12 ∧ one.length = n ∧ other.length = n ∧ Bd 150 one ∧ Bd 150 other ∧ 0 ≤ y ∧ ∀ t' n' m' one' other' ps', Rect n' m' t' → 1 ≤ n' → n' ≤ 8 → 1 ≤ m' → m' ≤ 8 → BdT 57 t' → one'.length ≤ 20 → Bd 151 one' → Bd 151 other' → PsQ ps' → P (.lst [dT t', dI one', dI other']) (.lst (ps'.map dPr))
theorem mono_law_bent : DMonoJ S_law_bent := by
  intro xs P P' k h
  obtain ⟨t, ps, one, other, n, y, e, h1, h2, h3, h4, h5, h6, h7, h8, h9, h10, h11, h12, h⟩ := h
  exact ⟨t, ps, one, other, n, y, e, h1, h2, h3, h4, h5, h6, h7, h8, h9, h10, h11, h12, fun t' n' m' o1 o2 ps' a b c d f g i j l q => k _ _ (h t' n' m' o1 o2 ps' a b c d f g i j l q)⟩
theorem len_law_bent : ∀ ds P, S_law_bent ds P → ds.length = 5 := by
  intro ds P h
  obtain ⟨t, ps, one, other, n, y, e, _⟩ := h
  rw [e]; rfl
theorem ok_law_bent {c : Cs} {f : Addr} {fd : FuncData} (F : FnAt K mg "_law_bent" s_law_bent P_law_bent f fd) (A_ : Fns K mg c) (T : Txt K mg) (xs : Exs K mg base c) : FnOk P w K mg base CX0 2 f fd P_law_bent (spB K S_law_bent) := by
  obtain ⟨f0, d0, E_law_spoiled⟩ := A_.h_law_spoiled
  have G_law_spoiled : FnOk P w K mg base CX0 1 f0 d0 P_law_spoiled (spJ K S_law_spoiled) := ok_law_spoiled E_law_spoiled A_ T xs
  obtain ⟨f1, d1, E_law_unlike⟩ := A_.h_law_unlike
  have G_law_unlike : FnOk P w K mg base CX0 1 f1 d1 P_law_unlike (spR K S_law_unlike) := ok_law_unlike E_law_unlike A_ T xs
  obtain ⟨f2, d2, E_law_cropped⟩ := A_.h_law_cropped
  have G_law_cropped : FnOk P w K mg base CX0 1 f2 d2 P_law_cropped (spR K S_law_cropped) := ok_law_cropped E_law_cropped A_ T xs
  refine F.fn.ok sc_law_bent (fun vs H Q E h => spB_len len_law_bent h) (fun cdv A outer s H vs Q E hr h => ?_)
  refine ⟨_, (pss_cons (ps_set (i := 5) sc_law_bent.nd rfl (by first | exact Or.inl rfl | exact Or.inr rfl) (pe_callB (call_lenK (K := K) rfl) (by rfl) T.len_ PySem.boot_len (pa_cons (pv 0) pa_nil)))
      (pss_cons (ps_expr (pe_call G_law_spoiled (hr.mono (by decide)) rfl E_law_spoiled.mg E_law_spoiled.fn.kp E_law_spoiled.bd .nil pass0 (pa_cons (pv 0) (pa_cons (pv 1) (pa_cons (pv 4) pa_nil)))))
      (pss_cons (ps_if (pt_cmpR op_eq (pe_op op_mod (pe_op op_fdivB (pv 4) (pe_op op_pow pe_int pe_int)) pe_int) pe_int (nomark _)) (pss_cons (ps_set (i := 6) sc_law_bent.nd rfl (by first | exact Or.inl rfl | exact Or.inr rfl) (pe_op op_mod (pe_op op_fdivB (pv 4) (pe_op op_pow pe_int pe_int)) (pv 5)))
      (pss_one (ps_asg (pe_op op_sub (pe_op op_add (pe_ix (ix_listK (K := K) rfl) (pv 2) (pv 6) (fun _ _ => rfl)) pe_int) (pe_op op_mulB pe_int (pe_op op_and (pe_op op_shr (pv 4) pe_int) pe_int))) (pg_sub (pv 2) (pv 6) set_list)))) pss_nil)
      (pss_cons (ps_if (pt_cmpR op_eq (pe_op op_mod (pe_op op_fdivB (pv 4) (pe_op op_pow pe_int pe_int)) pe_int) pe_int (nomark _)) (pss_one (ps_asg (pe_call G_law_unlike (hr.mono (by decide)) rfl E_law_unlike.mg E_law_unlike.fn.kp E_law_unlike.bd .nil pass0 (pa_cons (pv 2) (pa_cons (pv 3) (pa_cons (pe_op op_and (pe_op op_shr (pv 4) pe_int) pe_int) pa_nil)))) (pg_lstK (K := K) rfl rfl (pgs_cons (pg_name (i := 2) sc_law_bent.nd rfl (by first | exact Or.inl rfl | exact Or.inr rfl)) (pgs_cons (pg_name (i := 3) sc_law_bent.nd rfl (by first | exact Or.inl rfl | exact Or.inr rfl)) pgs_nil))))) pss_nil)
      (pss_cons (ps_if (PW.pt (pw_and (pt_cmpR op_eq (pe_op op_mod (pe_op op_fdivB (pv 4) (pe_op op_pow pe_int pe_int)) pe_int) pe_int (nomark _)) (pw_and1 (PW.pt (pw_or (pt_cmpR op_eq (pe_op op_and (pe_op op_shr (pv 4) pe_int) pe_int) pe_int (nomark _)) (pw_or1 (pt_cmpR op_eq (pv 5) pe_int (nomark _)))))))) (pss_cons (ps_set (i := 2) sc_law_bent.nd rfl (by first | exact Or.inl rfl | exact Or.inr rfl) (pe_op op_cat (pv 2) (pe_lst (pa_cons (pe_op op_mod (pv 4) pe_int) pa_nil))))
      (pss_one (ps_set (i := 3) sc_law_bent.nd rfl (by first | exact Or.inl rfl | exact Or.inr rfl) (pe_op op_cat (pv 3) (pe_lst (pa_cons (pe_op op_mod (pv 4) pe_int) pa_nil)))))) (pss_one (ps_if (pt_cmpR op_eq (pe_op op_mod (pe_op op_fdivB (pv 4) (pe_op op_pow pe_int pe_int)) pe_int) pe_int (nomark _)) (pss_cons (ps_set (i := 2) sc_law_bent.nd rfl (by first | exact Or.inl rfl | exact Or.inr rfl) (pe_slice (sl_listK (K := K) rfl) (pv 2) po_none (po_some (pe_un un_neg pe_int))))
      (pss_one (ps_set (i := 3) sc_law_bent.nd rfl (by first | exact Or.inl rfl | exact Or.inr rfl) (pe_slice (sl_listK (K := K) rfl) (pv 3) po_none (po_some (pe_un un_neg pe_int)))))) pss_nil)))
      (pss_one (ps_ret (pe_lst (pa_cons (pe_call G_law_cropped (hr.mono (by decide)) rfl E_law_cropped.mg E_law_cropped.fn.kp E_law_cropped.bd .nil pass0 (pa_cons (pv 0) (pa_cons (pe_op op_and (pe_op op_shr (pv 4) pe_int) pe_int) pa_nil))) (pa_cons (pv 2) (pa_cons (pv 3) pa_nil))))))))))), fn_valB (Γn := []) (N := N_law_bent) (st_seq (ST.post (Γn := [0, 1, 2]) (st_setS 5 (EM.es (em_cb c_len (ar_cons (er_var 0) ar_nil)))))
      (st_seq (st_pin 1 (ST.drop0 (st_callJ 0 1 mono_law_spoiled (ES.er (es_var 4)))))
      (st_seq (st_if (tr_test (EM.er (em_op o_eq (EM.er (em_op o_intC (EM.er (em_op o_intC (ES.er (es_var 4)) (EM.er (em_op o_intC (EM.er em_int) (EM.er em_int))))) (EM.er em_int))) (EM.er em_int)))) (st_seq (ST.post (Γn := [0, 1, 2]) (st_setS 6 (EM.es (em_op o_intC (EM.er (em_op o_intC (ES.er (es_var 4)) (EM.er (em_op o_intC (EM.er em_int) (EM.er em_int))))) (ES.er (es_var 5))))))
      (st_setItem 2 (em_op o_int (EM.er (em_op o_int (er_ixL (er_var 2) (ES.er (es_var 6))) (EM.er em_int))) (EM.er (em_op o_intC (EM.er em_int) (EM.er (em_op o_int (EM.er (em_op o_intC (ES.er (es_var 4)) (EM.er em_int))) (EM.er em_int)))))) (ES.er (es_var 6)))) st_next)
      (ST.pre (Γ1 := []) (st_seq (st_if (tr_test (EM.er (em_op o_eq (EM.er (em_op o_intC (EM.er (em_op o_intC (ES.er (es_var 4)) (EM.er (em_op o_intC (EM.er em_int) (EM.er em_int))))) (EM.er em_int))) (EM.er em_int)))) (st_asgS (ER.es0 (er_call (S := S_law_unlike) mono_law_unlike (ar_cons (ES.er (es_var 2)) (ar_cons (ES.er (es_var 3)) (ar_cons (EM.er (em_op o_int (EM.er (em_op o_intC (ES.er (es_var 4)) (EM.er em_int))) (EM.er em_int))) ar_nil))))) (gt_lst (gts_cons (gt_name 2) (gts_cons (gt_name 3) gts_nil)))) st_next)
      (st_seq (st_if (tr_and (tr_test (EM.er (em_op o_eq (EM.er (em_op o_intC (EM.er (em_op o_intC (ES.er (es_var 4)) (EM.er (em_op o_intC (EM.er em_int) (EM.er em_int))))) (EM.er em_int))) (EM.er em_int)))) (tr_or (tr_test (EM.er (em_op o_eq (EM.er (em_op o_int (EM.er (em_op o_intC (ES.er (es_var 4)) (EM.er em_int))) (EM.er em_int))) (EM.er em_int)))) (tr_test (EM.er (em_op o_eq (ES.er (es_var 5)) (EM.er em_int)))))) (ST.post (Γn := []) (st_seq (ST.post (Γn := [2]) (st_setM (M := []) 2 (em_op o_cat (ES.er (es_var 2)) (EM.er (em_lst (am_cons0 (em_op o_intC (ES.er (es_var 4)) (EM.er em_int)) am_nil))))))
      (ST.post (Γn := [2]) (st_setS 3 (EM.es (em_op o_cat (ES.er (es_var 3)) (EM.er (em_lst (am_cons0 (em_op o_intC (ES.er (es_var 4)) (EM.er em_int)) am_nil))))))))) (st_if (tr_test (EM.er (em_op o_eq (EM.er (em_op o_intC (EM.er (em_op o_intC (ES.er (es_var 4)) (EM.er (em_op o_intC (EM.er em_int) (EM.er em_int))))) (EM.er em_int))) (EM.er em_int)))) (ST.post (Γn := []) (st_seq (ST.post (Γn := [2]) (st_setM (M := []) 2 (em_sl (ES.er (es_var 2)) or_none (or_some (EM.er (em_un u_int (EM.er em_int)))))))
      (ST.post (Γn := [2]) (st_setS 3 (EM.es (em_sl (ES.er (es_var 3)) or_none (or_some (EM.er (em_un u_int (EM.er em_int)))))))))) st_next))
      (st_retR (er_lst (ar_cons (er_call (S := S_law_cropped) mono_law_cropped (ar_cons (ES.er (es_var 0)) (ar_cons (EM.er (em_op o_int (EM.er (em_op o_intC (ES.er (es_var 4)) (EM.er em_int))) (EM.er em_int))) ar_nil))) (ar_cons (ES.er (es_var 2)) (ar_cons (ES.er (es_var 3)) ar_nil))))))))))) (fun ds P b y hS hy => ?_) (fun ds P h => by have := len_law_bent ds P h; omega) h⟩
  obtain ⟨t, ps, one, other, n, y, rfl, hR, n1, n6, bt, hps, p1, p2, l1, l2, b1, b2, y0, hP⟩ := hS
  cases hy
  simp only [List.set_cons_zero, List.set_cons_succ]
  rw [show startD N_law_bent [dT t, .pin b (.lst (ps.map dPr)), dI one, dI other, .int y] = [some (dT t), some (.pin b (.lst (ps.map dPr))), some (dI one), some (dI other), some (.int y), none, none] from rfl]
  refine peel fun R1 e1 => ?_
  walk_at "go"
  subst e1
  refine peel fun R1 e1 => ?_
  walk_at "go"
  refine ⟨t, ps, n, y, rfl, hR, n1, n6, bt, hps, p1, p2, y0, fun t' ps' hR' bt' hq' => ?_⟩
  walk_at "go"
  have lt := hR.1
  rw [lt]
  subst e1
  refine peel fun R1 e1 => ?_
  have k3 : ∀ (one' : List Int) (o6 : Option D), one'.length = n → Bd 151 one' → R1 (endsB b P) [some (dT t'), some (.pin b (.lst (ps'.map dPr))), some (dI one'), some (dI other), some (.int y), some (.int n), o6] := by
    subst e1
    clear l1 b1 one
    intro one o6 l1 b1
    refine peel fun R1 e1 => ?_
    have k4 : ∀ (one' other' : List Int), one'.length ≤ 10 → other'.length ≤ 10 → Bd 151 one' → Bd 151 other' → R1 (endsB b P) [some (dT t'), some (.pin b (.lst (ps'.map dPr))), some (dI one'), some (dI other'), some (.int y), some (.int n), o6] := by
      subst e1
      clear l1 b1 l2 b2 one other
      intro one other l1 l2 b1 b2
      refine peel fun R1 e1 => ?_
      have k5 : ∀ (one' other' : List Int), one'.length ≤ 20 → Bd 151 one' → Bd 151 other' → R1 (endsB b P) [some (dT t'), some (.pin b (.lst (ps'.map dPr))), some (dI one'), some (dI other'), some (.int y), some (.int n), o6] := by
        subst e1
        intro one' other' l3 b3 b4
        walk_at "go"
        refine ⟨t', n, n, 57, _, rfl, hR', n1, by omega, n1, by omega, bt', fun t2 n2 m2 h1 h2 h3 h4 h5 h6 => ?_⟩
        walk_at "go"
        exact hP t2 n2 m2 one' other' ps' h1 h2 h3 h4 h5 h6 l3 b3 b4 hq'
      have ym := emod_lt (x := y) (n := 1000) (by decide)
      have sn : ∀ {xs : List Int}, Bd 151 xs → Bd 151 (xs ++ [y % 1000]) := fun {xs} h x hx => by
        rcases List.mem_append.mp hx with z | z
        · exact h x z
        · rw [List.mem_singleton.mp z]; exact Nat.lt_of_le_of_lt (show (y % 1000).natAbs ≤ 1000 by omega) (by decide)
      have app := k5 (one ++ [y % 1000]) (other ++ [y % 1000]) (by rw [List.length_append]; simp; omega) (sn b1) (sn b2)
      have cut := k5 (one.take (one.length - 1)) (other.take (other.length - 1)) (by rw [List.length_take]; omega) (fun x hx => b1 x (List.mem_of_mem_take hx)) (fun x hx => b2 x (List.mem_of_mem_take hx))
      have same := k5 one other (by omega) b1 b2
      walk_at "go"
      rw [cutD_init, cutD_init, ← List.map_take, ← List.map_take, List.length_map, List.length_map, snoc_dI, snoc_dI]
      split
      · split
        · exact ⟨by decide, ⟨scal_ints, rfl, by omega⟩, by decide, ⟨scal_ints, rfl, by omega⟩, app⟩
        · split
          · exact ⟨by decide, ⟨scal_ints, rfl, by omega⟩, by decide, ⟨scal_ints, rfl, by omega⟩, app⟩
          · exact ⟨by walk_at "cd", by walk_at "cd", scal_ints, scal_ints, cut⟩
      · exact ⟨by walk_at "cd", by walk_at "cd", same⟩
    walk_at "go"
    split
    · refine ⟨one, other, _, 151, rfl, by omega, by omega, b1, b2.mono (by decide), fun o1 o2 a1 a2 a3 a4 => ?_⟩
      walk_at "go"
      exact k4 o1 o2 (by omega) (by omega) a3 a4
    · exact k4 one other (by omega) (by omega) b1 (b2.mono (by decide))
  walk_at "go"
  have ym := emod_lt (x := y / 16777216) (n := (n : Int)) (by omega)
  have hb : 0 ≤ Builtin.bitAnd (y / 1099511627776) 1 ∧ Builtin.bitAnd (y / 1099511627776) 1 ≤ 1 := band_bd (m := 1) (by omega)
  split
  · refine ⟨by walk_at "cd", by walk_at "cd", by omega, ?_⟩
    have oa := b1.at (y / 16777216 % (n : Int)).toNat
    refine setItem_ints (r := one) (a := y / 16777216 % (n : Int)) (v := one.getD (y / 16777216 % (n : Int)).toNat 0 + 1 - 2 * Builtin.bitAnd (y / 1099511627776) 1) rfl (fun R h' => ?_) (fun R h' => ?_) (by omega) ?_
    · walk_at "go"
      refine asO_ints (by omega) ?_
      walk_at "go"
      exact h'
    · walk_at "go"
      exact h'
    refine k3 (one.set (y / 16777216 % (n : Int)).toNat _) _ (by rw [List.length_set]; exact l1) fun x hx => ?_
    rcases List.mem_or_eq_of_mem_set hx with z | z
    · exact b1.mono (by decide) x z
    · rw [z]; omega
  · exact k3 one none l1 (b1.mono (by decide))
theorem ps_cell {B : Nat} {k j : Nat} : ∀ {ps : List (Int × List Int)}, (∀ q ∈ ps, q.1.natAbs ≤ B) → ((ps.map fun (q : Int × List Int) => if q.2.getD k 0 = (j : Int) then q.1 else 0).sum).natAbs ≤ ps.length * B
  | [], _ => by simp
  | q :: ps, h => by
    have a := h q List.mem_cons_self
    have b := ps_cell (k := k) (j := j) (ps := ps) fun w hw => h w (List.mem_cons_of_mem _ hw)
    rw [List.map_cons, List.sum_cons, List.length_cons, Nat.succ_mul]
    split <;> omega
theorem tab_bd {n : Nat} {ps : List (Int × List Int)} {t : List (List Int)} (hT : Tab n ps t) (h : ∀ q ∈ ps, q.1.natAbs ≤ 10 ^ 13) (hl : ps.length ≤ 12) : BdT 48 t := by
  intro r hr x hx
  obtain ⟨i, hi, rfl⟩ := List.mem_iff_getElem.mp hr
  obtain ⟨j, hj, rfl⟩ := List.mem_iff_getElem.mp hx
  have li : i < n := by rw [← hT.1.1]; exact hi
  have lj : j < n := by rw [← hT.1.2 _ hr]; exact hj
  have e := hT.2 i j li lj
  have ec : cellAt t i j = t[i][j] := by
    unfold cellAt
    rw [List.getD_eq_getElem?_getD (l := t), List.getElem?_eq_getElem hi, Option.getD_some, List.getD_eq_getElem?_getD, List.getElem?_eq_getElem hj]; rfl
  rw [← ec, e]
  have a := ps_cell (k := i) (j := j) h
  have b : ps.length * 10 ^ 13 ≤ 12 * 10 ^ 13 := Nat.mul_le_mul_right _ hl
  exact Nat.lt_of_le_of_lt (Nat.le_trans a b) (by decide)
theorem dot_bd {a b : Nat} {xs ys : List Int} (h1 : Bd a xs) (h2 : Bd b ys) (l : xs.length ≤ 8) : (dot xs ys).natAbs < 2 ^ (a + b + 4) := by
  unfold dot
  refine sum_lt (fun v hv => ?_) (by rw [List.length_map, List.length_range]; exact l)
  obtain ⟨j, _, rfl⟩ := List.mem_map.mp hv
  rw [Int.natAbs_mul, Nat.pow_add]
  exact Nat.mul_lt_mul'' (h1.at j) (h2.at j)
def S_law : DSp := fun ds P => ∃ ns, ds = [.scr ns] ∧ ns.length ≤ 63 ∧ P (.bl true)
theorem law_goal {ns : List Int} {P : DK} (hl : ns.length ≤ 63) (h : P (.bl true)) : S_law [.scr ns] P := ⟨ns, rfl, hl, h⟩
theorem mono_law : DMono S_law := by
  intro xs P P' k h
  unfold S_law at h ⊢
  grind
theorem len_law : ∀ ds P, S_law ds P → ds.length = 1 := by
  intro ds P h
  obtain ⟨_, e, _⟩ := h
  rw [e]; rfl
theorem ok_law {c : Cs} {f : Addr} {fd : FuncData} (F : FnAt K mg "law" s_law P_law f fd) (A_ : Fns K mg c) (T : Txt K mg) (xs : Exs K mg base c) : FnOk P w K mg base CX0 7 f fd P_law (spP K S_law) := by
  obtain ⟨f0, d0, E_law_fold⟩ := A_.h_law_fold
  have G_law_fold : FnOk P w K mg base CX0 1 f0 d0 P_law_fold (spP K S_law_fold) := ok_law_fold E_law_fold A_ T xs
  obtain ⟨f1, d1, E_law_pairs⟩ := A_.h_law_pairs
  have G_law_pairs : FnOk P w K mg base CX0 2 f1 d1 P_law_pairs (spP K S_law_pairs) := ok_law_pairs E_law_pairs A_ T xs
  obtain ⟨f2, d2, E_law_summed⟩ := A_.h_law_summed
  have G_law_summed : FnOk P w K mg base CX0 1 f2 d2 P_law_summed (spP K S_law_summed) := ok_law_summed E_law_summed A_ T xs
  obtain ⟨f3, d3, E_law_judged⟩ := A_.h_law_judged
  have G_law_judged : FnOk P w K mg base CX0 6 f3 d3 P_law_judged (spP K (S_law_judged c)) := ok_law_judged E_law_judged A_ T xs
  obtain ⟨f4, d4, E_law_next⟩ := A_.h_law_next
  have G_law_next : FnOk P w K mg base CX0 1 f4 d4 P_law_next (spP K S_law_next) := ok_law_next E_law_next A_ T xs
  obtain ⟨f5, d5, E_law_summing⟩ := A_.h_law_summing
  have G_law_summing : FnOk P w K mg base CX0 1 f5 d5 P_law_summing (spR K S_law_summing) := ok_law_summing E_law_summing A_ T xs
  obtain ⟨f6, d6, E_law_pushed⟩ := A_.h_law_pushed
  have G_law_pushed : FnOk P w K mg base CX0 1 f6 d6 P_law_pushed (spI K 0 S_law_pushed) := ok_law_pushed E_law_pushed A_ T xs
  obtain ⟨f7, d7, E_law_bent⟩ := A_.h_law_bent
  have G_law_bent : FnOk P w K mg base CX0 2 f7 d7 P_law_bent (spB K S_law_bent) := ok_law_bent E_law_bent A_ T xs
  obtain ⟨f8, d8, E_law_mixture⟩ := A_.h_law_mixture
  have G_law_mixture : FnOk P w K mg base CX0 1 f8 d8 P_law_mixture (spP K S_law_mixture) := ok_law_mixture E_law_mixture A_ T xs
  obtain ⟨f9, d9, E_LeadPaper_init⟩ := A_.h_LeadPaper_init
  have G_LeadPaper_init : FnOk P w K mg base CX0 2 f9 d9 P_LeadPaper_init (spN K c.LeadPaper (S_LeadPaper_init c)) := ok_LeadPaper_init E_LeadPaper_init A_ T xs
  obtain ⟨f10, d10, E_law_led⟩ := A_.h_law_led
  have G_law_led : FnOk P w K mg base CX0 2 f10 d10 P_law_led (spP K S_law_led) := ok_law_led E_law_led A_ T xs
  obtain ⟨f11, d11, E_MixPaper_init⟩ := A_.h_MixPaper_init
  have G_MixPaper_init : FnOk P w K mg base CX0 2 f11 d11 P_MixPaper_init (spN K c.MixPaper (S_MixPaper_init c)) := ok_MixPaper_init E_MixPaper_init A_ T xs
  refine F.fn.ok sc_law (fun vs H Q E h => spP_len len_law h) (fun cdv A outer s H vs Q E hr h => ?_)
  refine ⟨_, (pss_cons (ps_set (i := 1) sc_law.nd rfl (by first | exact Or.inl rfl | exact Or.inr rfl) (pe_call G_law_fold (hr.mono (by decide)) rfl E_law_fold.mg E_law_fold.fn.kp E_law_fold.bd .nil pass0 (pa_cons (pv 0) (pa_cons pe_int pa_nil))))
      (pss_cons (ps_set (i := 2) sc_law.nd rfl (by first | exact Or.inl rfl | exact Or.inr rfl) (pe_call G_law_pairs (hr.mono (by decide)) rfl E_law_pairs.mg E_law_pairs.fn.kp E_law_pairs.bd .nil pass0 (pa_cons (pv 0) (pa_cons (pv 1) pa_nil))))
      (pss_cons (ps_set (i := 3) sc_law.nd rfl (by first | exact Or.inl rfl | exact Or.inr rfl) (pe_callB (call_lenK (K := K) rfl) (by rfl) T.len_ PySem.boot_len (pa_cons (pe_ix (ix_tupK (K := K) rfl) (pe_ix (ix_listK (K := K) rfl) (pv 2) pe_int (fun _ _ => rfl)) pe_int (fun _ _ => rfl)) pa_nil)))
      (pss_cons (ps_set (i := 4) sc_law.nd rfl (by first | exact Or.inl rfl | exact Or.inr rfl) (pe_op op_fdivB (pe_call G_law_next (hr.mono (by decide)) rfl E_law_next.mg E_law_next.fn.kp E_law_next.bd .nil pass0 (pa_cons (pe_op op_add (pv 1) pe_int) pa_nil)) (pe_op op_pow pe_int pe_int)))
      (pss_cons (ps_if (pt_cmpR op_eq (pe_op op_mod (pv 4) pe_int) pe_int (nomark _)) (pss_one (ps_set (i := 2) sc_law.nd rfl (by first | exact Or.inl rfl | exact Or.inr rfl) (pe_call G_law_summing (hr.mono (by decide)) rfl E_law_summing.mg E_law_summing.fn.kp E_law_summing.bd .nil pass0 (pa_cons (pv 2) (pa_cons (pv 3) (pa_cons (pe_op op_fdivB (pv 4) pe_int) pa_nil)))))) pss_nil)
      (pss_cons (ps_set (i := 5) sc_law.nd rfl (by first | exact Or.inl rfl | exact Or.inr rfl) (pe_call G_law_summed (hr.mono (by decide)) rfl E_law_summed.mg E_law_summed.fn.kp E_law_summed.bd .nil pass0 (pa_cons (pv 2) (pa_cons (pv 3) pa_nil))))
      (pss_cons (ps_if (PW.pt (pw_and (pt_cmpR op_eq (pe_op op_mod (pv 4) pe_int) pe_int (nomark _)) (pw_and1 (pt_cmpR op_gt (pv 3) pe_int (nomark _))))) (pss_one (ps_expr (pe_call G_law_pushed (hr.mono (by decide)) rfl E_law_pushed.mg E_law_pushed.fn.kp E_law_pushed.bd .nil pass0 (pa_cons (pv 5) (pa_cons (pe_op op_fdivB (pv 4) pe_int) pa_nil))))) pss_nil)
      (pss_cons (ps_set (i := 6) sc_law.nd rfl (by first | exact Or.inl rfl | exact Or.inr rfl) (pe_lst pa_nil))
      (pss_cons (ps_for PassesOwn.never rfl (pi_range1 rfl T.range_ (pa_cons (pv 3) pa_nil)) (pg_name (i := 7) sc_law.nd rfl (by first | exact Or.inl rfl | exact Or.inr rfl)) (pss_cons (ps_set (i := 1) sc_law.nd rfl (by first | exact Or.inl rfl | exact Or.inr rfl) (pe_call G_law_next (hr.mono (by decide)) rfl E_law_next.mg E_law_next.fn.kp E_law_next.bd .nil pass0 (pa_cons (pv 1) pa_nil)))
      (pss_one (ps_expr (pe_bm PySem.F.plainAttrs_list PySem.F.slot_list_append PySem.F.type_list_append mt_append (pv 6) (pa_cons (pe_op op_sub (pe_op op_mod (pv 1) (pe_op op_add (pe_op op_mulB pe_int (pe_op op_pow pe_int pe_int)) pe_int)) (pe_op op_pow pe_int pe_int)) pa_nil))))))
      (pss_cons (ps_setC0 (i := 8) (CompScope.of (sc0 := (defScope s_law)) (tn := ["_law_line"]) (cap := ["_law_row"]) (idx := [6]) (by decide +kernel) rfl rfl) sc_law.nd rfl (by first | exact Or.inl rfl | exact Or.inr rfl) (pi_listK (K := K) rfl (pv 5)) (GSet.name (by decide)) (fun _ _ _ _ _ => pg_name (i := 0) (nodupB_iff (l := ["_law_line", "_law_row"]) (by decide +kernel)) rfl (by first | exact Or.inl rfl | exact Or.inr rfl) (by first | exact .inl rfl | exact .inr rfl)) (fun _ _ _ _ _ => (pe_callB (call_sumK (K := K) rfl rfl) (by rfl) T.sum_ boot_sum (pa_cons (pe_comp0 (CompScope.of (sc0 := (relabelS _ (defScope s_law))) (tn := ["_law_cell", "_law_by"]) (cap := []) (idx := []) (by decide +kernel) rfl rfl) (pi_zipK (K := K) rfl rfl T.zip_ (pa_cons (pv 0) (pa_cons (pv 1) pa_nil))) (GSet.tup (GSets.cons (by decide) (GSets.cons (by decide) GSets.nil))) (fun _ _ _ _ _ => pg_tupK (K := K) (n := 2) rfl rfl (pgs_cons (pg_name (i := 0) (nodupB_iff (l := ["_law_cell", "_law_by"]) (by decide +kernel)) rfl (by first | exact Or.inl rfl | exact Or.inr rfl) (by first | exact .inl rfl | exact .inr rfl)) (pgs_cons (pg_name (i := 1) (nodupB_iff (l := ["_law_cell", "_law_by"]) (by decide +kernel)) rfl (by first | exact Or.inl rfl | exact Or.inr rfl) (by first | exact .inl rfl | exact .inr rfl)) pgs_nil))) (fun _ _ _ _ _ => (pe_op op_mulB (pv 0) (pv 1)))) pa_nil))))
      (pss_cons (ps_setC0 (i := 9) (CompScope.of (sc0 := (defScope s_law)) (tn := ["_law_by"]) (cap := ["_law_table"]) (idx := [5]) (by decide +kernel) rfl rfl) sc_law.nd rfl (by first | exact Or.inl rfl | exact Or.inr rfl) (pi_listK (K := K) rfl (pv 6)) (GSet.name (by decide)) (fun _ _ _ _ _ => pg_name (i := 0) (nodupB_iff (l := ["_law_by", "_law_table"]) (by decide +kernel)) rfl (by first | exact Or.inl rfl | exact Or.inr rfl) (by first | exact .inl rfl | exact .inr rfl)) (fun _ _ _ _ _ => (pe_op op_mulB (pv 0) (pe_callB (call_sumK (K := K) rfl rfl) (by rfl) T.sum_ boot_sum (pa_cons (pe_ix (ix_listK (K := K) rfl) (pv 1) pe_int (fun _ _ => rfl)) pa_nil)))))
      (pss_cons (ps_if (pt_cmpR op_eq (pe_op op_mod (pv 4) pe_int) pe_int (nomark _)) (pss_one (ps_asg (pe_call G_law_bent (hr.mono (by decide)) rfl E_law_bent.mg E_law_bent.fn.kp E_law_bent.bd .nil pass0 (pa_cons (pv 5) (pa_cons (pv 2) (pa_cons (pv 8) (pa_cons (pv 9) (pa_cons (pe_call G_law_next (hr.mono (by decide)) rfl E_law_next.mg E_law_next.fn.kp E_law_next.bd .nil pass0 (pa_cons (pv 1) pa_nil)) pa_nil)))))) (pg_lstK (K := K) rfl rfl (pgs_cons (pg_name (i := 5) sc_law.nd rfl (by first | exact Or.inl rfl | exact Or.inr rfl)) (pgs_cons (pg_name (i := 8) sc_law.nd rfl (by first | exact Or.inl rfl | exact Or.inr rfl)) (pgs_cons (pg_name (i := 9) sc_law.nd rfl (by first | exact Or.inl rfl | exact Or.inr rfl)) pgs_nil)))))) pss_nil)
      (pss_cons (ps_set (i := 10) sc_law.nd rfl (by first | exact Or.inl rfl | exact Or.inr rfl) (pe_and (pe_call G_law_mixture (hr.mono (by decide)) rfl E_law_mixture.mg E_law_mixture.fn.kp E_law_mixture.bd .nil pass0 (pa_cons (pv 2) pa_nil)) (pe_one (pe_cmpR (op_eqL hr.units) (pe_call G_law_summed (hr.mono (by decide)) rfl E_law_summed.mg E_law_summed.fn.kp E_law_summed.bd .nil pass0 (pa_cons (pv 2) (pa_cons (pe_callB (call_lenK (K := K) rfl) (by rfl) T.len_ PySem.boot_len (pa_cons (pe_ix (ix_tupK (K := K) rfl) (pe_ix (ix_listK (K := K) rfl) (pv 2) pe_int (fun _ _ => rfl)) pe_int (fun _ _ => rfl)) pa_nil)) pa_nil))) (pv 5) (nomark _)))))
      (pss_cons (ps_if (pt_not (pt_val (pe_call G_law_judged (hr.mono (by decide)) rfl E_law_judged.mg E_law_judged.fn.kp E_law_judged.bd .nil pass0 (pa_cons (pe_make E_MixPaper_init.mkk G_MixPaper_init (hr.mono (by decide)) rfl E_MixPaper_init.mg E_MixPaper_init.bd .nil pass0 (pa_cons (pv 5) (pa_cons (pv 2) pa_nil))) (pa_cons (pv 10) pa_nil))))) (pss_one (ps_ret pe_bl)) pss_nil)
      (pss_one (ps_ret (pe_call G_law_judged (hr.mono (by decide)) rfl E_law_judged.mg E_law_judged.fn.kp E_law_judged.bd .nil pass0 (pa_cons (pe_make E_LeadPaper_init.mkk G_LeadPaper_init (hr.mono (by decide)) rfl E_LeadPaper_init.mg E_LeadPaper_init.bd .nil pass0 (pa_cons (pv 8) (pa_cons (pv 9) (pa_cons (pv 5) pa_nil)))) (pa_cons (pe_call G_law_led (hr.mono (by decide)) rfl E_law_led.mg E_law_led.fn.kp E_law_led.bd .nil pass0 (pa_cons (pv 8) (pa_cons (pv 9) (pa_cons (pv 5) pa_nil)))) pa_nil))))))))))))))))))), fn_val (Γn := [8, 6, 5, 2]) (N := N_law) (st_seq (ST.post (Γn := []) (st_setS 1 (EM.es (em_call (S := S_law_fold) mono_law_fold (ar_cons (ES.er (es_var 0)) (ar_cons (EM.er em_int) ar_nil))))))
      (st_seq (ST.post (Γn := [2]) (st_setM (M := []) 2 (em_call (S := S_law_pairs) mono_law_pairs (ar_cons (ES.er (es_var 0)) (ar_cons (ES.er (es_var 1)) ar_nil)))))
      (st_seq (ST.post (Γn := [2]) (st_setS 3 (EM.es (em_cb c_len (ar_cons (er_ixT (er_ixL (er_var 2) (EM.er em_int)) (EM.er em_int)) ar_nil)))))
      (st_seq (ST.post (Γn := [2]) (st_setS 4 (EM.es (em_op o_intC (EM.er (em_call (S := S_law_next) mono_law_next (ar_cons (EM.er (em_op o_int (ES.er (es_var 1)) (EM.er em_int))) ar_nil))) (EM.er (em_op o_intC (EM.er em_int) (EM.er em_int)))))))
      (st_ifL (tr_test (EM.er (em_op o_eq (EM.er (em_op o_intC (ES.er (es_var 4)) (EM.er em_int))) (EM.er em_int))))
      (st_seq (ST.post (Γn := []) (ST.pre (Γ1 := []) (st_setS 2 (ER.es0 (er_call (S := S_law_summing) mono_law_summing (ar_cons (ES.er (es_var 2)) (ar_cons (ES.er (es_var 3)) (ar_cons (EM.er (em_op o_intC (ES.er (es_var 4)) (EM.er em_int))) ar_nil))))))))
      (st_seq (ST.post (Γn := [5]) (st_setM (M := []) 5 (em_call (S := S_law_summed) mono_law_summed (ar_cons (ES.er (es_var 2)) (ar_cons (ES.er (es_var 3)) ar_nil)))))
      (st_seq (st_if (tr_and (tr_test (EM.er (em_op o_eq (EM.er (em_op o_intC (ES.er (es_var 4)) (EM.er em_int))) (EM.er em_int)))) (tr_test (EM.er (em_op o_bl (ES.er (es_var 3)) (EM.er em_int))))) (ST0.st (st0_callI 5 0 mono_law_pushed (ai_here 5 (ax_cons (ex_es (EM.es (em_op o_intC (ES.er (es_var 4)) (EM.er em_int)))) ax_nil)))) st_next)
      (st_seq (ST.post (Γn := [6, 5]) (st_setM (M := []) 6 (em_lst am_nil)))
      (st_seq (st_for (it_rng1 (ar_cons (ES.er (es_var 3)) ar_nil)) (gt_name 7) (st_seq (ST.post (Γn := [6, 5]) (st_setS 1 (EM.es (em_call (S := S_law_next) mono_law_next (ar_cons (ES.er (es_var 1)) ar_nil)))))
      (ST.post (Γn := [6, 5]) (st_append (M := []) 6 (em_op o_int (EM.er (em_op o_intC (ES.er (es_var 1)) (EM.er (em_op o_int (EM.er (em_op o_intC (EM.er em_int) (EM.er (em_op o_intC (EM.er em_int) (EM.er em_int))))) (EM.er em_int))))) (EM.er (em_op o_intC (EM.er em_int) (EM.er em_int))))))))
      (st_seq (ST.post (Γn := [8, 6, 5]) (st_setM (M := []) 8 (em_comp0 (it_list (es_var 5)) (gt_name 0) (em_cb c_sum (ar_cons (EM.er (em_comp0 (it_zip (es_var 0) (es_var 1)) (gt_tup (gts_cons (gt_name 0) (gts_cons (gt_name 1) gts_nil))) (em_op o_intC (ES.er (es_var 0)) (ES.er (es_var 1))))) ar_nil)))))
      (st_seq (ST.post (Γn := [8, 6, 5]) (st_setS 9 (EM.es (em_comp0 (it_list (es_var 6)) (gt_name 0) (em_op o_intC (ES.er (es_var 0)) (EM.er (em_cb c_sum (ar_cons (ES.er (es_ixL (es_var 1) (EM.er em_int))) ar_nil))))))))
      (st_seq (st_ifN (tr_test (EM.er (em_op o_eq (EM.er (em_op o_intC (ES.er (es_var 4)) (EM.er em_int))) (EM.er em_int)))))
      (st_seq (ST.post (Γn := [8, 6, 5]) (st_setS 10 (EM.es (em_andV (EM.er (em_call (S := S_law_mixture) mono_law_mixture (ar_cons (ES.er (es_var 2)) ar_nil))) (em_op o_eqL (EM.er (em_call (S := S_law_summed) mono_law_summed (ar_cons (ES.er (es_var 2)) (ar_cons (EM.er (em_cb c_len (ar_cons (ES.er (es_ixT (es_ixL (es_var 2) (EM.er em_int)) (EM.er em_int))) ar_nil))) ar_nil)))) (er_var 5))))))
      (st_seq (st_if (tr_not (tr_b (EM.er (em_call (S := S_law_judged c) mono_law_judged (ar_cons (EM.er (em_make mono_MixPaper_init ins_MixPaper_init (ar_cons (er_var 5) (ar_cons (ES.er (es_var 2)) ar_nil)))) (ar_cons (ES.er (es_var 10)) ar_nil)))))) (st_ret (M := []) em_bl) st_next)
      (st_ret (M := []) (em_call (S := S_law_judged c) mono_law_judged (ar_cons (EM.er (em_make mono_LeadPaper_init ins_LeadPaper_init (ar_cons (er_var 8) (ar_cons (ES.er (es_var 9)) (ar_cons (er_var 5) ar_nil))))) (ar_cons (EM.er (em_call (S := S_law_led) mono_law_led (ar_cons (er_var 8) (ar_cons (ES.er (es_var 9)) (ar_cons (er_var 5) ar_nil))))) ar_nil))))))))))))))
      (st_seq (ST.post (Γn := [5, 2]) (st_setM (M := []) 5 (em_call (S := S_law_summed) mono_law_summed (ar_cons (er_var 2) (ar_cons (ES.er (es_var 3)) ar_nil)))))
      (st_seq (st_if (tr_and (tr_test (EM.er (em_op o_eq (EM.er (em_op o_intC (ES.er (es_var 4)) (EM.er em_int))) (EM.er em_int)))) (tr_test (EM.er (em_op o_bl (ES.er (es_var 3)) (EM.er em_int))))) (ST0.st (st0_callI 5 0 mono_law_pushed (ai_here 5 (ax_cons (ex_es (EM.es (em_op o_intC (ES.er (es_var 4)) (EM.er em_int)))) ax_nil)))) st_next)
      (st_seq (ST.post (Γn := [6, 5, 2]) (st_setM (M := []) 6 (em_lst am_nil)))
      (st_seq (st_for (it_rng1 (ar_cons (ES.er (es_var 3)) ar_nil)) (gt_name 7) (st_seq (ST.post (Γn := [6, 5, 2]) (st_setS 1 (EM.es (em_call (S := S_law_next) mono_law_next (ar_cons (ES.er (es_var 1)) ar_nil)))))
      (ST.post (Γn := [6, 5, 2]) (st_append (M := []) 6 (em_op o_int (EM.er (em_op o_intC (ES.er (es_var 1)) (EM.er (em_op o_int (EM.er (em_op o_intC (EM.er em_int) (EM.er (em_op o_intC (EM.er em_int) (EM.er em_int))))) (EM.er em_int))))) (EM.er (em_op o_intC (EM.er em_int) (EM.er em_int))))))))
      (st_seq (ST.post (Γn := [8, 6, 5, 2]) (st_setM (M := []) 8 (em_comp0 (it_list (es_var 5)) (gt_name 0) (em_cb c_sum (ar_cons (EM.er (em_comp0 (it_zip (es_var 0) (es_var 1)) (gt_tup (gts_cons (gt_name 0) (gts_cons (gt_name 1) gts_nil))) (em_op o_intC (ES.er (es_var 0)) (ES.er (es_var 1))))) ar_nil)))))
      (st_seq (ST.post (Γn := [8, 6, 5, 2]) (st_setS 9 (EM.es (em_comp0 (it_list (es_var 6)) (gt_name 0) (em_op o_intC (ES.er (es_var 0)) (EM.er (em_cb c_sum (ar_cons (ES.er (es_ixL (es_var 1) (EM.er em_int))) ar_nil))))))))
      (st_ifL (tr_test (EM.er (em_op o_eq (EM.er (em_op o_intC (ES.er (es_var 4)) (EM.er em_int))) (EM.er em_int))))
      (st_seq (ST.post (Γn := []) (st_asgB 5 2 8 9 mono_law_bent (EM.er (em_call (S := S_law_next) mono_law_next (ar_cons (ES.er (es_var 1)) ar_nil)))))
      (st_seq (ST.post (Γn := []) (st_setS 10 (EM.es (em_andV (EM.er (em_call (S := S_law_mixture) mono_law_mixture (ar_cons (ES.er (es_var 2)) ar_nil))) (em_op o_eqL (EM.er (em_call (S := S_law_summed) mono_law_summed (ar_cons (ES.er (es_var 2)) (ar_cons (EM.er (em_cb c_len (ar_cons (ES.er (es_ixT (es_ixL (es_var 2) (EM.er em_int)) (EM.er em_int))) ar_nil))) ar_nil)))) (ES.er (es_var 5)))))))
      (st_seq (st_if (tr_not (tr_b (EM.er (em_call (S := S_law_judged c) mono_law_judged (ar_cons (EM.er (em_make mono_MixPaper_init ins_MixPaper_init (ar_cons (ES.er (es_var 5)) (ar_cons (ES.er (es_var 2)) ar_nil)))) (ar_cons (ES.er (es_var 10)) ar_nil)))))) (st_ret (M := []) em_bl) st_next)
      (st_ret (M := []) (em_call (S := S_law_judged c) mono_law_judged (ar_cons (EM.er (em_make mono_LeadPaper_init ins_LeadPaper_init (ar_cons (ES.er (es_var 8)) (ar_cons (ES.er (es_var 9)) (ar_cons (ES.er (es_var 5)) ar_nil))))) (ar_cons (EM.er (em_call (S := S_law_led) mono_law_led (ar_cons (ES.er (es_var 8)) (ar_cons (ES.er (es_var 9)) (ar_cons (ES.er (es_var 5)) ar_nil))))) ar_nil)))))))
      (st_seq (ST.post (Γn := [8, 6, 5, 2]) (st_setS 10 (EM.es (em_andV (EM.er (em_call (S := S_law_mixture) mono_law_mixture (ar_cons (er_var 2) ar_nil))) (em_op o_eqL (EM.er (em_call (S := S_law_summed) mono_law_summed (ar_cons (er_var 2) (ar_cons (EM.er (em_cb c_len (ar_cons (er_ixT (er_ixL (er_var 2) (EM.er em_int)) (EM.er em_int)) ar_nil))) ar_nil)))) (er_var 5))))))
      (st_seq (st_if (tr_not (tr_b (EM.er (em_call (S := S_law_judged c) mono_law_judged (ar_cons (EM.er (em_make mono_MixPaper_init ins_MixPaper_init (ar_cons (er_var 5) (ar_cons (er_var 2) ar_nil)))) (ar_cons (ES.er (es_var 10)) ar_nil)))))) (st_ret (M := []) em_bl) st_next)
      (st_ret (M := []) (em_call (S := S_law_judged c) mono_law_judged (ar_cons (EM.er (em_make mono_LeadPaper_init ins_LeadPaper_init (ar_cons (er_var 8) (ar_cons (ES.er (es_var 9)) (ar_cons (er_var 5) ar_nil))))) (ar_cons (EM.er (em_call (S := S_law_led) mono_law_led (ar_cons (er_var 8) (ar_cons (ES.er (es_var 9)) (ar_cons (er_var 5) ar_nil))))) ar_nil)))))))))))))))))) (fun ds P hS => ?_) h⟩
  obtain ⟨ns, rfl, hz, hP⟩ := hS
  rw [show startD N_law [.scr ns] = [some (.scr ns), none, none, none, none, none, none, none, none, none, none] from rfl]
  refine peel fun R1 e1 => ?_
  walk_at "go"
  refine ⟨ns, _, rfl, by decide, by decide, fun x x0 x1 => ?_⟩
  subst e1
  refine peel fun R1 e1 => ?_
  walk_at "go"
  refine ⟨ns, x, rfl, hz, x0, x1, fun ps n n1 n6 p1 p6 hps => ?_⟩
  walk_at "go"
  subst e1
  refine peel fun R1 e1 => ?_
  walk_at "go"
  refine asO_P p1 fun q0 hq0 => ?_
  have l0 := (hps q0 hq0).2.1
  rw [show dPr q0 = .tup [.int q0.1, dI q0.2] from rfl]
  walk_at "go"
  rw [l0]
  subst e1
  refine peel fun R1 e1 => ?_
  walk_at "go"
  refine ⟨_, rfl, by omega, by omega, fun z z0 z1 => ?_⟩
  walk_at "go"
  subst e1
  clear l0 hq0 q0
  have z3 := emod_lt (x := z / 1048576) (n := 3) (by decide)
  refine ifS (z / 1048576 % 3 = 1) (fun Q h => by walk_at "go"; exact h) (fun c => ?_) (fun c => ?_)
  · refine peel fun R1 e1 => ?_
    walk_at "go"
    refine ⟨ps, n, _, rfl, n1, n6, p1, p6, hps, by omega, fun ps2 p21 p212 hps2 => ?_⟩
    walk_at "go"
    subst e1
    refine peel fun R1 e1 => ?_
    walk_at "go"
    refine ⟨ps2, n, rfl, n1, by omega, by omega, fun q hq => (hps2 q hq).2, fun t0 hT => ?_⟩
    have hR0 := hT.1
    have bt0 := tab_bd hT (fun q hq => (hps2 q hq).1) (by omega)
    clear hT
    walk_at "go"
    subst e1
    refine peel fun R1 e1 => ?_
    have km : ∀ t : List (List Int), Rect n n t → BdT 56 t → R1 (endsD P) [some (.scr ns), some (.int x), some (.lst (ps2.map dPr)), some (.int n), some (.int (z / 1048576)), some (dT t), none, none, none, none, none] := by
      clear hR0 bt0 t0
      subst e1
      intro t hR bt
      have lt := hR.1
      refine peel fun R1 e1 => ?_
      walk_at "go"
      subst e1
      refine peel fun R1 e1 => ?_
      walk_at "go"
      refine loop_rng (lo := 0) (n := n) (fun i δ => ∃ (y : Int) (row : List Int) (o7 : Option D), δ = [some (.scr ns), some (.int y), some (.lst (ps2.map dPr)), some (.int n), some (.int (z / 1048576)), some (dT t), some (dI row), o7, none, none, none] ∧ 0 ≤ y ∧ y < 2 ^ 64 ∧ row.length = i ∧ Bd 41 row) ⟨x, [], none, rfl, x0, by omega, rfl, fun v hv => absurd hv List.not_mem_nil⟩ ?_ ?_
      · rintro i δ N hi ⟨y, row, o7, rfl, y0, y1, hl, hb⟩ hN
        walk_at "go"
        refine ⟨y, rfl, y0, by omega, fun y' y0' y1' => ?_⟩
        walk_at "go"
        have hm := emod_lt (x := y') (n := 2000000000001) (by decide)
        rw [snoc_dI]
        refine hN _ ⟨y', _, _, rfl, y0', by omega, by rw [List.length_append, hl]; rfl, fun v hv => ?_⟩
        rcases List.mem_append.mp hv with w | w
        · exact hb v w
        · rw [List.mem_singleton.mp w]; omega
      · rintro δ ⟨x', row, o7, rfl, x0', x1', lr, br⟩
        subst e1
        dsimp only
        refine peel fun R1 e1 => ?_
        walk_at "go"
        refine comp_rows (t := t) (g := fun r => .int (dot r row)) (fun R h => h) (by omega) (fun r hr R h => ?_) ?_
        · have lrr := hR.2 r hr
          walk_at "gb"
          refine comp_all (as := List.range n) (f := fun j => L3.D.tup [.int (r.getD j 0), .int (row.getD j 0)]) (g := fun j => .int (r.getD j 0 * row.getD j 0)) (fun R h => ?_) (by rw [List.length_range]; omega) (fun j hj R h => ?_) ?_
          · unfold vZip
            walk_at "go"
            rw [zip_ints (by omega), lrr]
            exact h
          · walk_at "gb"
            exact ⟨⟨56, 41, (bt r hr).at j, br.at j, by decide⟩, h⟩
          rw [map_int]
          walk_at "gb"
          rw [show ((List.range n).map fun j => r.getD j 0 * row.getD j 0).sum = dot r row from by unfold dot; rw [lrr]]
          exact h
        rw [map_int]
        obtain ⟨one, hone⟩ : ∃ one, (t.map fun r => dot r row) = one := ⟨_, rfl⟩
        have l1 : one.length = n := by rw [← hone, List.length_map]; exact lt
        have b1 : Bd 150 one := fun v hv => by
          rw [← hone] at hv
          obtain ⟨r, hr, rfl⟩ := List.mem_map.mp hv
          exact Nat.lt_of_lt_of_le (dot_bd (bt r hr) br (by have := hR.2 r hr; omega)) (Nat.pow_le_pow_right (by decide) (by decide))
        rw [hone]
        clear hone
        have sb := sum_lt (bt _ (rowAt_mem (t := t) (i := 0) (by omega))) (by have := hR.row (i := 0) (by omega); omega)
        subst e1
        refine peel fun R1 e1 => ?_
        walk_at "go"
        refine comp_ints (ns := row) (g := fun v => .int (v * (rowAt t 0).sum)) (fun R h => h) (by omega) (fun v hv R h => ?_) ?_
        · walk_at "gb"
          refine asO_rows (by omega) ?_
          walk_at "gb"
          exact ⟨⟨41, 60, br v hv, sb, by decide⟩, h⟩
        rw [show row.map (fun v => L3.D.int (v * (rowAt t 0).sum)) = (row.map fun v => v * (rowAt t 0).sum).map L3.D.int from map_int]
        obtain ⟨other, hother⟩ : ∃ other, (row.map fun v => v * (rowAt t 0).sum) = other := ⟨_, rfl⟩
        have l2 : other.length = n := by rw [← hother, List.length_map]; exact lr
        have b2 : Bd 150 other := fun v hv => by
          rw [← hother] at hv
          obtain ⟨u, hu, rfl⟩ := List.mem_map.mp hv
          rw [Int.natAbs_mul]
          have := Nat.mul_lt_mul'' (br u hu) sb
          rw [← Nat.pow_add] at this
          exact Nat.lt_of_lt_of_le this (Nat.pow_le_pow_right (by decide) (by decide))
        rw [hother]
        clear hother sb
        subst e1
        have h6 : ∀ q ∈ ps2, q.2.length ≤ 6 := fun q hq => by have := (hps2 q hq).2.1; omega
        refine peel fun R1 e1 => ?_
        walk_at "go"
        subst e1
        refine peel fun R1 e1 => ?_
        have go : ∀ v : Bool, (v = true ↔ ∃ n, Mix n ps2 ∧ Tab n ps2 t) → R1 (endsD P) [some (.scr ns), some (.int x'), some (.lst (ps2.map dPr)), some (.int n), some (.int (z / 1048576)), some (dT t), some (dI row), o7, some (dI one), some (dI other), some (.bl v)] := by
          subst e1
          intro v hv
          refine peel fun R1 e1 => ?_
          walk_at "go"
          refine ⟨t, ps2, rfl, by have := hR.1; omega, by omega, ?_⟩
          refine ⟨_, v, rfl, .inl ⟨⟨rfl, rfl⟩, fun P' hP' => ⟨t, ps2, rfl, by omega, fun q hq => by have := h6 q hq; omega, fun b' hb' => ?_⟩⟩, ?_⟩
          · rw [Bool.eq_iff_iff.mpr (hb'.trans hv.symm)]; exact hP'
          walk_at "go"
          subst e1
          walk_at "go"
          refine ⟨one, other, t, rfl, by have := hR.1; omega, ?_⟩
          refine ⟨one, other, t, n, n, rfl, hR, by omega, by omega, by omega, by omega, b1.mono (by decide), b2.mono (by decide), bt.mono (by decide), fun b hb => ?_⟩
          refine ⟨_, b, rfl, .inr ⟨⟨rfl, rfl⟩, fun P' hP' => ⟨one, other, t, n, n, rfl, hR, by omega, by omega, by omega, by omega, b1.mono (by decide), b2.mono (by decide), bt.mono (by decide), by omega, fun b' hb' => ?_⟩⟩, hP⟩
          rw [Bool.eq_iff_iff.mpr (hb'.trans hb.symm)]; exact hP'
        walk_at "go"
        refine ⟨ps2, rfl, by omega, fun q hq => by have := h6 q hq; omega, fun b hb => ?_⟩
        dsimp only
        cases b with
        | false =>
          walk_at "go"
          exact go false ⟨fun w => (by cases w), fun ⟨k, h1, _⟩ => by have := hb.mpr ⟨k, h1⟩; cases this⟩
        | true =>
          obtain ⟨k, hM⟩ := hb.mp rfl
          walk_at "go"
          refine asO_P hM.2.2.1 fun q1 hq1 => ?_
          rw [show dPr q1 = .tup [.int q1.1, dI q1.2] from rfl]
          walk_at "go"
          rw [hM.len hq1]
          refine ⟨ps2, k, rfl, hM.1, hM.2.1, by omega, fun q hq => ⟨hM.len hq, fun c hc => ?_⟩, fun t2 hT2 => ?_⟩
          · have := (hM.2.2.2.2 q hq).2.mem_iff.mp hc
            unfold rngI at this
            obtain ⟨j, hj, rfl⟩ := List.mem_map.mp this
            have := List.mem_range.mp hj
            omega
          walk_at "go"
          refine vEqL_rows (xs := t2) (ys := t) ?_
          rw [if_neg (by decide)]
          refine go _ ⟨fun w => ⟨k, hM, by rw [← of_decide_eq_true w]; exact hT2⟩, fun ⟨k2, hM2, hT3⟩ => decide_eq_true ?_⟩
          have e : k2 = k := by rw [← hM2.len hq1, ← hM.len hq1]
          subst e
          exact hT2.uniq hT3
    refine ifS (z / 1048576 % 3 = 2 ∧ 1 < (n : Int)) (fun Q h => ?_) (fun hh => ?_) (fun _ => ?_)
    · walk_at "go"
      by_cases c2 : z / 1048576 % 3 = 2
      · rw [if_pos c2]
        rw [show decide (z / 1048576 % 3 = 2 ∧ 1 < (n : Int)) = decide (1 < (n : Int)) from by rw [Bool.eq_iff_iff, decide_eq_true_eq, decide_eq_true_eq]; exact ⟨fun w => w.2, fun w => ⟨c2, w⟩⟩] at h
        exact h
      · rw [if_neg c2]
        rw [decide_eq_false fun w => c2 w.1] at h
        exact h
    · walk_at "go"
      refine ⟨t0, n, _, rfl, hR0, by omega, n6, by omega, bt0, fun t' a b => ?_⟩
      walk_at "go"
      exact km t' a b
    · walk_at "go"
      exact km t0 hR0 (bt0.mono (by decide))
  · have hps13 : PsN (10 ^ 13) n ps := fun w hw => ⟨by have := (hps w hw).1; omega, (hps w hw).2⟩
    refine peel fun R1 e1 => ?_
    walk_at "go"
    refine ⟨ps, n, rfl, n1, by omega, by omega, fun q hq => (hps13 q hq).2, fun t0 hT => ?_⟩
    have hR0 := hT.1
    have bt0 := tab_bd hT (fun q hq => (hps13 q hq).1) (by omega)
    clear hT
    walk_at "go"
    subst e1
    refine peel fun R1 e1 => ?_
    have km : ∀ t : List (List Int), Rect n n t → BdT 56 t → R1 (endsD P) [some (.scr ns), some (.int x), some (.lst (ps.map dPr)), some (.int n), some (.int (z / 1048576)), some (dT t), none, none, none, none, none] := by
      clear hR0 bt0 t0
      subst e1
      intro t hR bt
      have lt := hR.1
      refine peel fun R1 e1 => ?_
      walk_at "go"
      subst e1
      refine peel fun R1 e1 => ?_
      walk_at "go"
      refine loop_rng (lo := 0) (n := n) (fun i δ => ∃ (y : Int) (row : List Int) (o7 : Option D), δ = [some (.scr ns), some (.int y), some (.lst (ps.map dPr)), some (.int n), some (.int (z / 1048576)), some (dT t), some (dI row), o7, none, none, none] ∧ 0 ≤ y ∧ y < 2 ^ 64 ∧ row.length = i ∧ Bd 41 row) ⟨x, [], none, rfl, x0, by omega, rfl, fun v hv => absurd hv List.not_mem_nil⟩ ?_ ?_
      · rintro i δ N hi ⟨y, row, o7, rfl, y0, y1, hl, hb⟩ hN
        walk_at "go"
        refine ⟨y, rfl, y0, by omega, fun y' y0' y1' => ?_⟩
        walk_at "go"
        have hm := emod_lt (x := y') (n := 2000000000001) (by decide)
        rw [snoc_dI]
        refine hN _ ⟨y', _, _, rfl, y0', by omega, by rw [List.length_append, hl]; rfl, fun v hv => ?_⟩
        rcases List.mem_append.mp hv with w | w
        · exact hb v w
        · rw [List.mem_singleton.mp w]; omega
      · rintro δ ⟨x', row, o7, rfl, x0', x1', lr, br⟩
        subst e1
        dsimp only
        refine peel fun R1 e1 => ?_
        walk_at "go"
        refine comp_rows (t := t) (g := fun r => .int (dot r row)) (fun R h => h) (by omega) (fun r hr R h => ?_) ?_
        · have lrr := hR.2 r hr
          walk_at "gb"
          refine comp_all (as := List.range n) (f := fun j => L3.D.tup [.int (r.getD j 0), .int (row.getD j 0)]) (g := fun j => .int (r.getD j 0 * row.getD j 0)) (fun R h => ?_) (by rw [List.length_range]; omega) (fun j hj R h => ?_) ?_
          · unfold vZip
            walk_at "go"
            rw [zip_ints (by omega), lrr]
            exact h
          · walk_at "gb"
            exact ⟨⟨56, 41, (bt r hr).at j, br.at j, by decide⟩, h⟩
          rw [map_int]
          walk_at "gb"
          rw [show ((List.range n).map fun j => r.getD j 0 * row.getD j 0).sum = dot r row from by unfold dot; rw [lrr]]
          exact h
        rw [map_int]
        obtain ⟨one, hone⟩ : ∃ one, (t.map fun r => dot r row) = one := ⟨_, rfl⟩
        have l1 : one.length = n := by rw [← hone, List.length_map]; exact lt
        have b1 : Bd 150 one := fun v hv => by
          rw [← hone] at hv
          obtain ⟨r, hr, rfl⟩ := List.mem_map.mp hv
          exact Nat.lt_of_lt_of_le (dot_bd (bt r hr) br (by have := hR.2 r hr; omega)) (Nat.pow_le_pow_right (by decide) (by decide))
        rw [hone]
        clear hone
        have sb := sum_lt (bt _ (rowAt_mem (t := t) (i := 0) (by omega))) (by have := hR.row (i := 0) (by omega); omega)
        subst e1
        refine peel fun R1 e1 => ?_
        walk_at "go"
        refine comp_ints (ns := row) (g := fun v => .int (v * (rowAt t 0).sum)) (fun R h => h) (by omega) (fun v hv R h => ?_) ?_
        · walk_at "gb"
          refine asO_rows (by omega) ?_
          walk_at "gb"
          exact ⟨⟨41, 60, br v hv, sb, by decide⟩, h⟩
        rw [show row.map (fun v => L3.D.int (v * (rowAt t 0).sum)) = (row.map fun v => v * (rowAt t 0).sum).map L3.D.int from map_int]
        obtain ⟨other, hother⟩ : ∃ other, (row.map fun v => v * (rowAt t 0).sum) = other := ⟨_, rfl⟩
        have l2 : other.length = n := by rw [← hother, List.length_map]; exact lr
        have b2 : Bd 150 other := fun v hv => by
          rw [← hother] at hv
          obtain ⟨u, hu, rfl⟩ := List.mem_map.mp hv
          rw [Int.natAbs_mul]
          have := Nat.mul_lt_mul'' (br u hu) sb
          rw [← Nat.pow_add] at this
          exact Nat.lt_of_lt_of_le this (Nat.pow_le_pow_right (by decide) (by decide))
        rw [hother]
        clear hother sb
        subst e1
        have h6 : ∀ q ∈ ps, q.2.length ≤ 6 := fun q hq => by have := (hps q hq).2.1; omega
        refine ifS (z / 1048576 % 3 = 0) (fun Q h => by walk_at "go"; exact h) (fun c0 => ?_) (fun c0 => ?_)
        · refine peel fun R1 e1 => ?_
          walk_at "go"
          refine ⟨x', rfl, x0', by omega, fun y y0 y1 => ?_⟩
          refine ⟨rfl, t, ps, one, other, n, y, rfl, hR, n1, n6, bt, hps, p1, by omega, l1, l2, b1, b2, y0, fun t3 n3 m3 one3 other3 ps3 hR3 a1 a2 a3 a4 bt3 a5 b13 b23 hq3 => ⟨_, _, _, rfl, ?_⟩⟩
          have a6 := hq3.1
          walk_at "go"
          subst e1
          refine peel fun R1 e1 => ?_
          have go : ∀ v : Bool, (v = true ↔ ∃ n, Mix n ps3 ∧ Tab n ps3 t3) → R1 (endsD P) [some (.scr ns), some (.int x'), some (.lst (ps3.map dPr)), some (.int n), some (.int (z / 1048576)), some (dT t3), some (dI row), o7, some (dI one3), some (dI other3), some (.bl v)] := by
            subst e1
            intro v hv
            refine peel fun R1 e1 => ?_
            walk_at "go"
            refine ⟨t3, ps3, rfl, by have := hR3.1; omega, by omega, ?_⟩
            refine ⟨_, v, rfl, .inl ⟨⟨rfl, rfl⟩, fun P' hP' => ⟨t3, ps3, rfl, by omega, fun q hq => by have := hq3.2 q hq; omega, fun b' hb' => ?_⟩⟩, ?_⟩
            · rw [Bool.eq_iff_iff.mpr (hb'.trans hv.symm)]; exact hP'
            walk_at "go"
            subst e1
            walk_at "go"
            refine ⟨one3, other3, t3, rfl, by have := hR3.1; omega, ?_⟩
            refine ⟨one3, other3, t3, n3, m3, rfl, hR3, by omega, by omega, by omega, by omega, b13.mono (by decide), b23.mono (by decide), bt3.mono (by decide), fun b hb => ?_⟩
            refine ⟨_, b, rfl, .inr ⟨⟨rfl, rfl⟩, fun P' hP' => ⟨one3, other3, t3, n3, m3, rfl, hR3, by omega, by omega, by omega, by omega, b13.mono (by decide), b23.mono (by decide), bt3.mono (by decide), by omega, fun b' hb' => ?_⟩⟩, hP⟩
            rw [Bool.eq_iff_iff.mpr (hb'.trans hb.symm)]; exact hP'
          walk_at "go"
          refine ⟨ps3, rfl, by omega, fun q hq => by have := hq3.2 q hq; omega, fun b hb => ?_⟩
          dsimp only
          cases b with
          | false =>
            walk_at "go"
            exact go false ⟨fun w => (by cases w), fun ⟨k, h1, _⟩ => by have := hb.mpr ⟨k, h1⟩; cases this⟩
          | true =>
            obtain ⟨k, hM⟩ := hb.mp rfl
            walk_at "go"
            refine asO_P hM.2.2.1 fun q1 hq1 => ?_
            rw [show dPr q1 = .tup [.int q1.1, dI q1.2] from rfl]
            walk_at "go"
            rw [hM.len hq1]
            refine ⟨ps3, k, rfl, hM.1, hM.2.1, by omega, fun q hq => ⟨hM.len hq, fun c hc => ?_⟩, fun t2 hT2 => ?_⟩
            · have := (hM.2.2.2.2 q hq).2.mem_iff.mp hc
              unfold rngI at this
              obtain ⟨j, hj, rfl⟩ := List.mem_map.mp this
              have := List.mem_range.mp hj
              omega
            walk_at "go"
            refine vEqL_rows (xs := t2) (ys := t3) ?_
            rw [if_neg (by decide)]
            refine go _ ⟨fun w => ⟨k, hM, by rw [← of_decide_eq_true w]; exact hT2⟩, fun ⟨k2, hM2, hT3⟩ => decide_eq_true ?_⟩
            have e : k2 = k := by rw [← hM2.len hq1, ← hM.len hq1]
            subst e
            exact hT2.uniq hT3
        · skip
          refine peel fun R1 e1 => ?_
          have go : ∀ v : Bool, (v = true ↔ ∃ n, Mix n ps ∧ Tab n ps t) → R1 (endsD P) [some (.scr ns), some (.int x'), some (.lst (ps.map dPr)), some (.int n), some (.int (z / 1048576)), some (dT t), some (dI row), o7, some (dI one), some (dI other), some (.bl v)] := by
            subst e1
            intro v hv
            refine peel fun R1 e1 => ?_
            walk_at "go"
            refine ⟨t, ps, rfl, by have := hR.1; omega, by omega, ?_⟩
            refine ⟨_, v, rfl, .inl ⟨⟨rfl, rfl⟩, fun P' hP' => ⟨t, ps, rfl, by omega, fun q hq => by have := h6 q hq; omega, fun b' hb' => ?_⟩⟩, ?_⟩
            · rw [Bool.eq_iff_iff.mpr (hb'.trans hv.symm)]; exact hP'
            walk_at "go"
            subst e1
            walk_at "go"
            refine ⟨one, other, t, rfl, by have := hR.1; omega, ?_⟩
            refine ⟨one, other, t, n, n, rfl, hR, by omega, by omega, by omega, by omega, b1.mono (by decide), b2.mono (by decide), bt.mono (by decide), fun b hb => ?_⟩
            refine ⟨_, b, rfl, .inr ⟨⟨rfl, rfl⟩, fun P' hP' => ⟨one, other, t, n, n, rfl, hR, by omega, by omega, by omega, by omega, b1.mono (by decide), b2.mono (by decide), bt.mono (by decide), by omega, fun b' hb' => ?_⟩⟩, hP⟩
            rw [Bool.eq_iff_iff.mpr (hb'.trans hb.symm)]; exact hP'
          walk_at "go"
          refine ⟨ps, rfl, by omega, fun q hq => by have := h6 q hq; omega, fun b hb => ?_⟩
          dsimp only
          cases b with
          | false =>
            walk_at "go"
            exact go false ⟨fun w => (by cases w), fun ⟨k, h1, _⟩ => by have := hb.mpr ⟨k, h1⟩; cases this⟩
          | true =>
            obtain ⟨k, hM⟩ := hb.mp rfl
            walk_at "go"
            refine asO_P hM.2.2.1 fun q1 hq1 => ?_
            rw [show dPr q1 = .tup [.int q1.1, dI q1.2] from rfl]
            walk_at "go"
            rw [hM.len hq1]
            refine ⟨ps, k, rfl, hM.1, hM.2.1, by omega, fun q hq => ⟨hM.len hq, fun c hc => ?_⟩, fun t2 hT2 => ?_⟩
            · have := (hM.2.2.2.2 q hq).2.mem_iff.mp hc
              unfold rngI at this
              obtain ⟨j, hj, rfl⟩ := List.mem_map.mp this
              have := List.mem_range.mp hj
              omega
            walk_at "go"
            refine vEqL_rows (xs := t2) (ys := t) ?_
            rw [if_neg (by decide)]
            refine go _ ⟨fun w => ⟨k, hM, by rw [← of_decide_eq_true w]; exact hT2⟩, fun ⟨k2, hM2, hT3⟩ => decide_eq_true ?_⟩
            have e : k2 = k := by rw [← hM2.len hq1, ← hM.len hq1]
            subst e
            exact hT2.uniq hT3
    refine ifS (z / 1048576 % 3 = 2 ∧ 1 < (n : Int)) (fun Q h => ?_) (fun hh => ?_) (fun _ => ?_)
    · walk_at "go"
      by_cases c2 : z / 1048576 % 3 = 2
      · rw [if_pos c2]
        rw [show decide (z / 1048576 % 3 = 2 ∧ 1 < (n : Int)) = decide (1 < (n : Int)) from by rw [Bool.eq_iff_iff, decide_eq_true_eq, decide_eq_true_eq]; exact ⟨fun w => w.2, fun w => ⟨c2, w⟩⟩] at h
        exact h
      · rw [if_neg c2]
        rw [decide_eq_false fun w => c2 w.1] at h
        exact h
    · walk_at "go"
      refine ⟨t0, n, _, rfl, hR0, by omega, n6, by omega, bt0, fun t' a b => ?_⟩
      walk_at "go"
      exact km t' a b
    · walk_at "go"
      exact km t0 hR0 (bt0.mono (by decide))
end
end Mine
set_option Elab.async false
set_option linter.all false
set_option maxRecDepth 100000
set_option maxHeartbeats 16000000
namespace Mine
open PySem L2 PyProof.Rows
theorem all_mk {l : PySem.W.OpenLaw} {w : World} {K : PySem.W.Frag} {h : Heap} {mg : Str → Option Value} {fa f0 f1 f2 f3 f4 f5 f6 f7 f8 f9 f10 f11 f12 f13 f14 f15 f16 f17 f18 f19 f20 f21 f22 f23 f24 f25 f26 f27 f28 f29 f30 : Addr} (X : K.In h) (G : h.Ns mainGlobals mg) (hfa : mg "law" = some (.ref fa))
    {od0 an0 od1 an1 od2 an2 od3 an3 od4 an4 od5 an5 od6 an6 od7 an7 od8 an8 od9 an9 od10 an10 od11 an11 od12 an12 od13 an13 od14 an14 od15 an15 od16 an16 od17 an17 od18 an18 od19 an19 od20 an20 od21 an21 od22 an22 od23 an23 od24 an24 od25 an25 od26 an26 od27 an27 od28 an28 od29 an29 od30 an30 : Option Addr} {sl0 sl1 sl2 sl3 sl4 sl5 sl6 sl7 sl8 sl9 sl10 sl11 sl12 sl13 sl14 sl15 sl16 sl17 sl18 sl19 sl20 sl21 sl22 sl23 sl24 sl25 sl26 sl27 sl28 sl29 sl30 : Array (Option Value)} {oc0 kV0 dc0 pm0 cd0 ct0 oc1 kV1 dc1 pm1 cd1 ct1 oc2 kV2 dc2 pm2 cd2 ct2 oc3 kV3 dc3 pm3 cd3 ct3 oc4 kV4 dc4 pm4 cd4 ct4 oc5 kV5 dc5 pm5 cd5 ct5 oc6 kV6 dc6 pm6 cd6 ct6 oc7 kV7 dc7 pm7 cd7 ct7 oc8 kV8 dc8 pm8 cd8 ct8 oc9 kV9 dc9 pm9 cd9 ct9 oc10 kV10 dc10 pm10 cd10 ct10 oc11 kV11 dc11 pm11 cd11 ct11 oc12 kV12 dc12 pm12 cd12 ct12 oc13 kV13 dc13 pm13 cd13 ct13 oc14 kV14 dc14 pm14 cd14 ct14 oc15 kV15 dc15 pm15 cd15 ct15 oc16 kV16 dc16 pm16 cd16 ct16 oc17 kV17 dc17 pm17 cd17 ct17 oc18 kV18 dc18 pm18 cd18 ct18 oc19 kV19 dc19 pm19 cd19 ct19 oc20 kV20 dc20 pm20 cd20 ct20 oc21 kV21 dc21 pm21 cd21 ct21 oc22 kV22 dc22 pm22 cd22 ct22 oc23 kV23 dc23 pm23 cd23 ct23 oc24 kV24 dc24 pm24 cd24 ct24 oc25 kV25 dc25 pm25 cd25 ct25 oc26 kV26 dc26 pm26 cd26 ct26 oc27 kV27 dc27 pm27 cd27 ct27 oc28 kV28 dc28 pm28 cd28 ct28 oc29 kV29 dc29 pm29 cd29 ct29 oc30 kV30 dc30 pm30 cd30 ct30 : Value}
    {C_MixError C_NoMix C_Paper C_MixPaper C_LeadPaper : Addr}
    (a0 : PySem.W.nsIn K mainGlobals "copied_table" = some (some (.ref f0))) (l0 : K.lookup f0 = some ⟨oc0, od0, .func (PySem.W.fnOf "copied_table" "copied_table" (defArgs s_copied_table) (defBody s_copied_table) (defScope s_copied_table) .none kV0 dc0 pm0 an0 cd0 ct0), sl0⟩) (c0 : PySem.W.codeIn K cd0 "copied_table" = true) (k0 : PySem.W.keepIn K (.ref f0) = true)
    (a1 : PySem.W.nsIn K mainGlobals "sums_of_rows" = some (some (.ref f1))) (l1 : K.lookup f1 = some ⟨oc1, od1, .func (PySem.W.fnOf "sums_of_rows" "sums_of_rows" (defArgs s_sums_of_rows) (defBody s_sums_of_rows) (defScope s_sums_of_rows) .none kV1 dc1 pm1 an1 cd1 ct1), sl1⟩) (c1 : PySem.W.codeIn K cd1 "sums_of_rows" = true) (k1 : PySem.W.keepIn K (.ref f1) = true)
    (a2 : PySem.W.nsIn K mainGlobals "sums_of_columns" = some (some (.ref f2))) (l2 : K.lookup f2 = some ⟨oc2, od2, .func (PySem.W.fnOf "sums_of_columns" "sums_of_columns" (defArgs s_sums_of_columns) (defBody s_sums_of_columns) (defScope s_sums_of_columns) .none kV2 dc2 pm2 an2 cd2 ct2), sl2⟩) (c2 : PySem.W.codeIn K cd2 "sums_of_columns" = true) (k2 : PySem.W.keepIn K (.ref f2) = true)
    (a3 : PySem.W.nsIn K mainGlobals "turned_table" = some (some (.ref f3))) (l3 : K.lookup f3 = some ⟨oc3, od3, .func (PySem.W.fnOf "turned_table" "turned_table" (defArgs s_turned_table) (defBody s_turned_table) (defScope s_turned_table) .none kV3 dc3 pm3 an3 cd3 ct3), sl3⟩) (c3 : PySem.W.codeIn K cd3 "turned_table" = true) (k3 : PySem.W.keepIn K (.ref f3) = true)
    (a4 : PySem.W.nsIn K mainGlobals "column_of" = some (some (.ref f4))) (l4 : K.lookup f4 = some ⟨oc4, od4, .func (PySem.W.fnOf "column_of" "column_of" (defArgs s_column_of) (defBody s_column_of) (defScope s_column_of) .none kV4 dc4 pm4 an4 cd4 ct4), sl4⟩) (c4 : PySem.W.codeIn K cd4 "column_of" = true) (k4 : PySem.W.keepIn K (.ref f4) = true)
    (a5 : PySem.W.nsIn K mainGlobals "times_row" = some (some (.ref f5))) (l5 : K.lookup f5 = some ⟨oc5, od5, .func (PySem.W.fnOf "times_row" "times_row" (defArgs s_times_row) (defBody s_times_row) (defScope s_times_row) .none kV5 dc5 pm5 an5 cd5 ct5), sl5⟩) (c5 : PySem.W.codeIn K cd5 "times_row" = true) (k5 : PySem.W.keepIn K (.ref f5) = true)
    (a6 : PySem.W.nsIn K mainGlobals "product_of" = some (some (.ref f6))) (l6 : K.lookup f6 = some ⟨oc6, od6, .func (PySem.W.fnOf "product_of" "product_of" (defArgs s_product_of) (defBody s_product_of) (defScope s_product_of) .none kV6 dc6 pm6 an6 cd6 ct6), sl6⟩) (c6 : PySem.W.codeIn K cd6 "product_of" = true) (k6 : PySem.W.keepIn K (.ref f6) = true)
    (a7 : PySem.W.nsIn K mainGlobals "is_even" = some (some (.ref f7))) (l7 : K.lookup f7 = some ⟨oc7, od7, .func (PySem.W.fnOf "is_even" "is_even" (defArgs s_is_even) (defBody s_is_even) (defScope s_is_even) .none kV7 dc7 pm7 an7 cd7 ct7), sl7⟩) (c7 : PySem.W.codeIn K cd7 "is_even" = true) (k7 : PySem.W.keepIn K (.ref f7) = true)
    (a8 : PySem.W.nsIn K mainGlobals "is_mixture" = some (some (.ref f8))) (l8 : K.lookup f8 = some ⟨oc8, od8, .func (PySem.W.fnOf "is_mixture" "is_mixture" (defArgs s_is_mixture) (defBody s_is_mixture) (defScope s_is_mixture) .none kV8 dc8 pm8 an8 cd8 ct8), sl8⟩) (c8 : PySem.W.codeIn K cd8 "is_mixture" = true) (k8 : PySem.W.keepIn K (.ref f8) = true)
    (a9 : PySem.W.nsIn K mainGlobals "is_pair" = some (some (.ref f9))) (l9 : K.lookup f9 = some ⟨oc9, od9, .func (PySem.W.fnOf "is_pair" "is_pair" (defArgs s_is_pair) (defBody s_is_pair) (defScope s_is_pair) .none kV9 dc9 pm9 an9 cd9 ct9), sl9⟩) (c9 : PySem.W.codeIn K cd9 "is_pair" = true) (k9 : PySem.W.keepIn K (.ref f9) = true)
    (a10 : PySem.W.nsIn K mainGlobals "told_by" = some (some (.ref f10))) (l10 : K.lookup f10 = some ⟨oc10, od10, .func (PySem.W.fnOf "told_by" "told_by" (defArgs s_told_by) (defBody s_told_by) (defScope s_told_by) .none kV10 dc10 pm10 an10 cd10 ct10), sl10⟩) (c10 : PySem.W.codeIn K cd10 "told_by" = true) (k10 : PySem.W.keepIn K (.ref f10) = true)
    (a11 : PySem.W.nsIn K mainGlobals "add_dealing" = some (some (.ref f11))) (l11 : K.lookup f11 = some ⟨oc11, od11, .func (PySem.W.fnOf "add_dealing" "add_dealing" (defArgs s_add_dealing) (defBody s_add_dealing) (defScope s_add_dealing) .none kV11 dc11 pm11 an11 cd11 ct11), sl11⟩) (c11 : PySem.W.codeIn K cd11 "add_dealing" = true) (k11 : PySem.W.keepIn K (.ref f11) = true)
    (a12 : PySem.W.findIn K (.ref C_MixPaper) "__init__" = some (some (.ref f12))) (i12 : PySem.W.isFn K (.ref f12) = true) (l12 : K.lookup f12 = some ⟨oc12, od12, .func (PySem.W.fnOf "__init__" "MixPaper.__init__" (defArgs s_MixPaper_init) (defBody s_MixPaper_init) (defScope s_MixPaper_init) .none kV12 dc12 pm12 an12 cd12 ct12), sl12⟩) (c12 : PySem.W.codeIn K cd12 "MixPaper.__init__" = true) (k12 : PySem.W.keepIn K (.ref f12) = true)
    (a13 : PySem.W.findIn K (.ref C_MixPaper) "holds" = some (some (.ref f13))) (i13 : PySem.W.isFn K (.ref f13) = true) (l13 : K.lookup f13 = some ⟨oc13, od13, .func (PySem.W.fnOf "holds" "MixPaper.holds" (defArgs s_MixPaper_holds) (defBody s_MixPaper_holds) (defScope s_MixPaper_holds) .none kV13 dc13 pm13 an13 cd13 ct13), sl13⟩) (c13 : PySem.W.codeIn K cd13 "MixPaper.holds" = true) (k13 : PySem.W.keepIn K (.ref f13) = true)
    (a14 : PySem.W.findIn K (.ref C_LeadPaper) "__init__" = some (some (.ref f14))) (i14 : PySem.W.isFn K (.ref f14) = true) (l14 : K.lookup f14 = some ⟨oc14, od14, .func (PySem.W.fnOf "__init__" "LeadPaper.__init__" (defArgs s_LeadPaper_init) (defBody s_LeadPaper_init) (defScope s_LeadPaper_init) .none kV14 dc14 pm14 an14 cd14 ct14), sl14⟩) (c14 : PySem.W.codeIn K cd14 "LeadPaper.__init__" = true) (k14 : PySem.W.keepIn K (.ref f14) = true)
    (a15 : PySem.W.findIn K (.ref C_LeadPaper) "holds" = some (some (.ref f15))) (i15 : PySem.W.isFn K (.ref f15) = true) (l15 : K.lookup f15 = some ⟨oc15, od15, .func (PySem.W.fnOf "holds" "LeadPaper.holds" (defArgs s_LeadPaper_holds) (defBody s_LeadPaper_holds) (defScope s_LeadPaper_holds) .none kV15 dc15 pm15 an15 cd15 ct15), sl15⟩) (c15 : PySem.W.codeIn K cd15 "LeadPaper.holds" = true) (k15 : PySem.W.keepIn K (.ref f15) = true)
    (a16 : PySem.W.nsIn K mainGlobals "_law_fold" = some (some (.ref f16))) (l16 : K.lookup f16 = some ⟨oc16, od16, .func (PySem.W.fnOf "_law_fold" "_law_fold" (defArgs s_law_fold) (defBody s_law_fold) (defScope s_law_fold) .none kV16 dc16 pm16 an16 cd16 ct16), sl16⟩) (c16 : PySem.W.codeIn K cd16 "_law_fold" = true) (k16 : PySem.W.keepIn K (.ref f16) = true)
    (a17 : PySem.W.nsIn K mainGlobals "_law_next" = some (some (.ref f17))) (l17 : K.lookup f17 = some ⟨oc17, od17, .func (PySem.W.fnOf "_law_next" "_law_next" (defArgs s_law_next) (defBody s_law_next) (defScope s_law_next) .none kV17 dc17 pm17 an17 cd17 ct17), sl17⟩) (c17 : PySem.W.codeIn K cd17 "_law_next" = true) (k17 : PySem.W.keepIn K (.ref f17) = true)
    (a18 : PySem.W.nsIn K mainGlobals "_law_judged" = some (some (.ref f18))) (l18 : K.lookup f18 = some ⟨oc18, od18, .func (PySem.W.fnOf "_law_judged" "_law_judged" (defArgs s_law_judged) (defBody s_law_judged) (defScope s_law_judged) .none kV18 dc18 pm18 an18 cd18 ct18), sl18⟩) (c18 : PySem.W.codeIn K cd18 "_law_judged" = true) (k18 : PySem.W.keepIn K (.ref f18) = true)
    (a19 : PySem.W.nsIn K mainGlobals "_law_pairs" = some (some (.ref f19))) (l19 : K.lookup f19 = some ⟨oc19, od19, .func (PySem.W.fnOf "_law_pairs" "_law_pairs" (defArgs s_law_pairs) (defBody s_law_pairs) (defScope s_law_pairs) .none kV19 dc19 pm19 an19 cd19 ct19), sl19⟩) (c19 : PySem.W.codeIn K cd19 "_law_pairs" = true) (k19 : PySem.W.keepIn K (.ref f19) = true)
    (a20 : PySem.W.nsIn K mainGlobals "_law_summed" = some (some (.ref f20))) (l20 : K.lookup f20 = some ⟨oc20, od20, .func (PySem.W.fnOf "_law_summed" "_law_summed" (defArgs s_law_summed) (defBody s_law_summed) (defScope s_law_summed) .none kV20 dc20 pm20 an20 cd20 ct20), sl20⟩) (c20 : PySem.W.codeIn K cd20 "_law_summed" = true) (k20 : PySem.W.keepIn K (.ref f20) = true)
    (a21 : PySem.W.nsIn K mainGlobals "_law_mixture" = some (some (.ref f21))) (l21 : K.lookup f21 = some ⟨oc21, od21, .func (PySem.W.fnOf "_law_mixture" "_law_mixture" (defArgs s_law_mixture) (defBody s_law_mixture) (defScope s_law_mixture) .none kV21 dc21 pm21 an21 cd21 ct21), sl21⟩) (c21 : PySem.W.codeIn K cd21 "_law_mixture" = true) (k21 : PySem.W.keepIn K (.ref f21) = true)
    (a22 : PySem.W.nsIn K mainGlobals "_law_even" = some (some (.ref f22))) (l22 : K.lookup f22 = some ⟨oc22, od22, .func (PySem.W.fnOf "_law_even" "_law_even" (defArgs s_law_even) (defBody s_law_even) (defScope s_law_even) .none kV22 dc22 pm22 an22 cd22 ct22), sl22⟩) (c22 : PySem.W.codeIn K cd22 "_law_even" = true) (k22 : PySem.W.keepIn K (.ref f22) = true)
    (a23 : PySem.W.nsIn K mainGlobals "_law_led" = some (some (.ref f23))) (l23 : K.lookup f23 = some ⟨oc23, od23, .func (PySem.W.fnOf "_law_led" "_law_led" (defArgs s_law_led) (defBody s_law_led) (defScope s_law_led) .none kV23 dc23 pm23 an23 cd23 ct23), sl23⟩) (c23 : PySem.W.codeIn K cd23 "_law_led" = true) (k23 : PySem.W.keepIn K (.ref f23) = true)
    (a24 : PySem.W.nsIn K mainGlobals "_law_spoiled" = some (some (.ref f24))) (l24 : K.lookup f24 = some ⟨oc24, od24, .func (PySem.W.fnOf "_law_spoiled" "_law_spoiled" (defArgs s_law_spoiled) (defBody s_law_spoiled) (defScope s_law_spoiled) .none kV24 dc24 pm24 an24 cd24 ct24), sl24⟩) (c24 : PySem.W.codeIn K cd24 "_law_spoiled" = true) (k24 : PySem.W.keepIn K (.ref f24) = true)
    (a25 : PySem.W.nsIn K mainGlobals "_law_unlike" = some (some (.ref f25))) (l25 : K.lookup f25 = some ⟨oc25, od25, .func (PySem.W.fnOf "_law_unlike" "_law_unlike" (defArgs s_law_unlike) (defBody s_law_unlike) (defScope s_law_unlike) .none kV25 dc25 pm25 an25 cd25 ct25), sl25⟩) (c25 : PySem.W.codeIn K cd25 "_law_unlike" = true) (k25 : PySem.W.keepIn K (.ref f25) = true)
    (a26 : PySem.W.nsIn K mainGlobals "_law_cropped" = some (some (.ref f26))) (l26 : K.lookup f26 = some ⟨oc26, od26, .func (PySem.W.fnOf "_law_cropped" "_law_cropped" (defArgs s_law_cropped) (defBody s_law_cropped) (defScope s_law_cropped) .none kV26 dc26 pm26 an26 cd26 ct26), sl26⟩) (c26 : PySem.W.codeIn K cd26 "_law_cropped" = true) (k26 : PySem.W.keepIn K (.ref f26) = true)
    (a27 : PySem.W.nsIn K mainGlobals "_law_summing" = some (some (.ref f27))) (l27 : K.lookup f27 = some ⟨oc27, od27, .func (PySem.W.fnOf "_law_summing" "_law_summing" (defArgs s_law_summing) (defBody s_law_summing) (defScope s_law_summing) .none kV27 dc27 pm27 an27 cd27 ct27), sl27⟩) (c27 : PySem.W.codeIn K cd27 "_law_summing" = true) (k27 : PySem.W.keepIn K (.ref f27) = true)
    (a28 : PySem.W.nsIn K mainGlobals "_law_pushed" = some (some (.ref f28))) (l28 : K.lookup f28 = some ⟨oc28, od28, .func (PySem.W.fnOf "_law_pushed" "_law_pushed" (defArgs s_law_pushed) (defBody s_law_pushed) (defScope s_law_pushed) .none kV28 dc28 pm28 an28 cd28 ct28), sl28⟩) (c28 : PySem.W.codeIn K cd28 "_law_pushed" = true) (k28 : PySem.W.keepIn K (.ref f28) = true)
    (a29 : PySem.W.nsIn K mainGlobals "_law_bent" = some (some (.ref f29))) (l29 : K.lookup f29 = some ⟨oc29, od29, .func (PySem.W.fnOf "_law_bent" "_law_bent" (defArgs s_law_bent) (defBody s_law_bent) (defScope s_law_bent) .none kV29 dc29 pm29 an29 cd29 ct29), sl29⟩) (c29 : PySem.W.codeIn K cd29 "_law_bent" = true) (k29 : PySem.W.keepIn K (.ref f29) = true)
    (a30 : PySem.W.nsIn K mainGlobals "law" = some (some (.ref f30))) (l30 : K.lookup f30 = some ⟨oc30, od30, .func (PySem.W.fnOf "law" "law" (defArgs s_law) (defBody s_law) (defScope s_law) .none kV30 dc30 pm30 an30 cd30 ct30), sl30⟩) (c30 : PySem.W.codeIn K cd30 "law" = true) (k30 : PySem.W.keepIn K (.ref f30) = true)
    (sg : PySem.W.specialIn K (.builtin "object.__class__") "__get__" = some (some (.builtin "getset_descriptor.__get__"))) (tg : PySem.W.takesIn K (.builtin "object.__class__") = some true)
    (pg_MixPaper : PySem.W.plainGet K C_MixPaper Str.empty = true) (hd_MixPaper : PySem.W.hasDictIn K C_MixPaper = true) (po_MixPaper : PySem.W.plainOver K C_MixPaper = true) (sa_MixPaper : PySem.W.findIn K (.ref C_MixPaper) "__setattr__" = some (some (.builtin "object.__setattr__"))) (mk_MixPaper : PySem.W.makesIn K C_MixPaper = true) (kc_MixPaper : PySem.W.keepIn K (.ref C_MixPaper) = true)
    (cl_MixPaper : PySem.W.findIn K (.ref C_MixPaper) "__class__" = some (some (.builtin "object.__class__"))) (ob_MixPaper : PySem.W.mroIn K C_MixPaper (.type "object") = some true) (ko_MixPaper : PySem.W.kitOne K (.ref C_MixPaper) (.ref C_Paper) = some true)
    (na_MixPaper_table : PySem.W.findIn K (.ref C_MixPaper) "table" = some none)
    (na_MixPaper_pairs : PySem.W.findIn K (.ref C_MixPaper) "pairs" = some none)
    (pg_LeadPaper : PySem.W.plainGet K C_LeadPaper Str.empty = true) (hd_LeadPaper : PySem.W.hasDictIn K C_LeadPaper = true) (po_LeadPaper : PySem.W.plainOver K C_LeadPaper = true) (sa_LeadPaper : PySem.W.findIn K (.ref C_LeadPaper) "__setattr__" = some (some (.builtin "object.__setattr__"))) (mk_LeadPaper : PySem.W.makesIn K C_LeadPaper = true) (kc_LeadPaper : PySem.W.keepIn K (.ref C_LeadPaper) = true)
    (cl_LeadPaper : PySem.W.findIn K (.ref C_LeadPaper) "__class__" = some (some (.builtin "object.__class__"))) (ob_LeadPaper : PySem.W.mroIn K C_LeadPaper (.type "object") = some true) (ko_LeadPaper : PySem.W.kitOne K (.ref C_LeadPaper) (.ref C_Paper) = some true)
    (na_LeadPaper_one : PySem.W.findIn K (.ref C_LeadPaper) "one" = some none)
    (na_LeadPaper_other : PySem.W.findIn K (.ref C_LeadPaper) "other" = some none)
    (na_LeadPaper_table : PySem.W.findIn K (.ref C_LeadPaper) "table" = some none)
    {dd_MixError : Option Addr} {nm_MixError qn_MixError : Str} {bs_MixError : List Value} {ns_MixError : Addr} {hd_MixError : Bool} {sn_MixError : List Str} {sub_MixError : List Value} {ab_MixError : Bool} {col_MixError : Option Bool} {k0_MixError k1_MixError k2_MixError k3_MixError k5_MixError : Option Value}
    {dd_NoMix : Option Addr} {nm_NoMix qn_NoMix : Str} {bs_NoMix : List Value} {ns_NoMix : Addr} {hd_NoMix : Bool} {sn_NoMix : List Str} {sub_NoMix : List Value} {ab_NoMix : Bool} {col_NoMix : Option Bool} {k0_NoMix k1_NoMix k2_NoMix k3_NoMix k5_NoMix : Option Value}
    (e_MixError : PySem.W.nsIn K mainGlobals "MixError" = some (some (.ref C_MixError)))
    (e_NoMix : PySem.W.nsIn K mainGlobals "NoMix" = some (some (.ref C_NoMix)))
    (e_Paper : PySem.W.nsIn K mainGlobals "Paper" = some (some (.ref C_Paper)))
    (e_MixPaper : PySem.W.nsIn K mainGlobals "MixPaper" = some (some (.ref C_MixPaper)))
    (e_LeadPaper : PySem.W.nsIn K mainGlobals "LeadPaper" = some (some (.ref C_LeadPaper)))
    (u_MixError : K.lookup C_MixError = some ⟨.type "type", dd_MixError, .cls ⟨nm_MixError, bs_MixError, .ref C_MixError :: VB, ns_MixError, qn_MixError, hd_MixError, sn_MixError, sub_MixError, ab_MixError, col_MixError, false⟩, #[k0_MixError, k1_MixError, k2_MixError, k3_MixError, some (.builtin "ValueError.__new__"), k5_MixError]⟩) (v_MixError : PySem.W.excIn K C_MixError VB "ValueError.__new__" = true)
    (u_NoMix : K.lookup C_NoMix = some ⟨.type "type", dd_NoMix, .cls ⟨nm_NoMix, bs_NoMix, .ref C_NoMix :: .ref C_MixError :: VB, ns_NoMix, qn_NoMix, hd_NoMix, sn_NoMix, sub_NoMix, ab_NoMix, col_NoMix, false⟩, #[k0_NoMix, k1_NoMix, k2_NoMix, k3_NoMix, some (.builtin "ValueError.__new__"), k5_NoMix]⟩) (v_NoMix : PySem.W.excIn K C_NoMix VB "ValueError.__new__" = true)
    (ga_NoMix : PySem.W.findIn K (.ref C_NoMix) "__getattribute__" = some (some (.builtin "BaseException.__getattribute__"))) (ge_NoMix : PySem.W.findIn K (.ref C_NoMix) "__getattr__" = some none) (cl_NoMix : PySem.W.findIn K (.ref C_NoMix) "__class__" = some (some (.builtin "object.__class__"))) (ob_NoMix : PySem.W.mroIn K C_NoMix (.type "object") = some true) (be_NoMix : PySem.W.mroIn K C_NoMix (.type "BaseException") = some true)
    {tk_MOST : Tok} (g_MOST : PySem.W.nsIn K mainGlobals "MOST" = some (some (Value.int 8 tk_MOST)))
    (z_len : PySem.W.nsIn K mainGlobals "len" = some none) (z_isinstance : PySem.W.nsIn K mainGlobals "isinstance" = some none) (z_int : PySem.W.nsIn K mainGlobals "int" = some none) (z_bool : PySem.W.nsIn K mainGlobals "bool" = some none) (z_list : PySem.W.nsIn K mainGlobals "list" = some none) (z_range : PySem.W.nsIn K mainGlobals "range" = some none) (z_sum : PySem.W.nsIn K mainGlobals "sum" = some none) (z_sorted : PySem.W.nsIn K mainGlobals "sorted" = some none) (z_min : PySem.W.nsIn K mainGlobals "min" = some none) (z_any : PySem.W.nsIn K mainGlobals "any" = some none) (z_all : PySem.W.nsIn K mainGlobals "all" = some none) (z_zip : PySem.W.nsIn K mainGlobals "zip" = some none) (z_set : PySem.W.nsIn K mainGlobals "set" = some none) (z_ValueError : PySem.W.nsIn K mainGlobals "ValueError" = some none) :
    ∃ fd : FuncData, (∀ (s : Shared) (v : Value), BindsTo s fd ⟨[v], []⟩ [("_law_script", v)]) ∧ ∀ base : Heap, K.In base → base.Ns mainGlobals mg → FnOk l.prog w K mg base CX0 7 fa fd P_law (L3.spP K S_law) := by
  have e := hfa.symm.trans (PySem.W.mg_of X G a30)
  cases e
  have T : Txt K mg := ⟨PySem.W.mg_none_of X G z_len, PySem.W.mg_none_of X G z_isinstance, PySem.W.mg_none_of X G z_int, PySem.W.mg_none_of X G z_bool, PySem.W.mg_none_of X G z_list, PySem.W.mg_none_of X G z_range, PySem.W.mg_none_of X G z_sum, PySem.W.mg_none_of X G z_sorted, PySem.W.mg_none_of X G z_min, PySem.W.mg_none_of X G z_any, PySem.W.mg_none_of X G z_all, PySem.W.mg_none_of X G z_zip, PySem.W.mg_none_of X G z_set, PySem.W.mg_none_of X G z_ValueError, ⟨_, PySem.W.mg_of X G g_MOST⟩⟩
  have F0 := fun_mk (st := s_copied_table) l0 c0 k0
  have E0 : FnAt K mg "copied_table" s_copied_table P_copied_table f0 _ := ⟨F0, PySem.W.mg_of X G a0, F0.binds (ps := P_copied_table) fun _ _ _ _ _ _ us hl => match us, hl with | [_], _ => rfl⟩
  have F1 := fun_mk (st := s_sums_of_rows) l1 c1 k1
  have E1 : FnAt K mg "sums_of_rows" s_sums_of_rows P_sums_of_rows f1 _ := ⟨F1, PySem.W.mg_of X G a1, F1.binds (ps := P_sums_of_rows) fun _ _ _ _ _ _ us hl => match us, hl with | [_], _ => rfl⟩
  have F2 := fun_mk (st := s_sums_of_columns) l2 c2 k2
  have E2 : FnAt K mg "sums_of_columns" s_sums_of_columns P_sums_of_columns f2 _ := ⟨F2, PySem.W.mg_of X G a2, F2.binds (ps := P_sums_of_columns) fun _ _ _ _ _ _ us hl => match us, hl with | [_], _ => rfl⟩
  have F3 := fun_mk (st := s_turned_table) l3 c3 k3
  have E3 : FnAt K mg "turned_table" s_turned_table P_turned_table f3 _ := ⟨F3, PySem.W.mg_of X G a3, F3.binds (ps := P_turned_table) fun _ _ _ _ _ _ us hl => match us, hl with | [_], _ => rfl⟩
  have F4 := fun_mk (st := s_column_of) l4 c4 k4
  have E4 : FnAt K mg "column_of" s_column_of P_column_of f4 _ := ⟨F4, PySem.W.mg_of X G a4, F4.binds (ps := P_column_of) fun _ _ _ _ _ _ us hl => match us, hl with | [_, _], _ => rfl⟩
  have F5 := fun_mk (st := s_times_row) l5 c5 k5
  have E5 : FnAt K mg "times_row" s_times_row P_times_row f5 _ := ⟨F5, PySem.W.mg_of X G a5, F5.binds (ps := P_times_row) fun _ _ _ _ _ _ us hl => match us, hl with | [_, _], _ => rfl⟩
  have F6 := fun_mk (st := s_product_of) l6 c6 k6
  have E6 : FnAt K mg "product_of" s_product_of P_product_of f6 _ := ⟨F6, PySem.W.mg_of X G a6, F6.binds (ps := P_product_of) fun _ _ _ _ _ _ us hl => match us, hl with | [_, _], _ => rfl⟩
  have F7 := fun_mk (st := s_is_even) l7 c7 k7
  have E7 : FnAt K mg "is_even" s_is_even P_is_even f7 _ := ⟨F7, PySem.W.mg_of X G a7, F7.binds (ps := P_is_even) fun _ _ _ _ _ _ us hl => match us, hl with | [_], _ => rfl⟩
  have F8 := fun_mk (st := s_is_mixture) l8 c8 k8
  have E8 : FnAt K mg "is_mixture" s_is_mixture P_is_mixture f8 _ := ⟨F8, PySem.W.mg_of X G a8, F8.binds (ps := P_is_mixture) fun _ _ _ _ _ _ us hl => match us, hl with | [_], _ => rfl⟩
  have F9 := fun_mk (st := s_is_pair) l9 c9 k9
  have E9 : FnAt K mg "is_pair" s_is_pair P_is_pair f9 _ := ⟨F9, PySem.W.mg_of X G a9, F9.binds (ps := P_is_pair) fun _ _ _ _ _ _ us hl => match us, hl with | [_, _], _ => rfl⟩
  have F10 := fun_mk (st := s_told_by) l10 c10 k10
  have E10 : FnAt K mg "told_by" s_told_by P_told_by f10 _ := ⟨F10, PySem.W.mg_of X G a10, F10.binds (ps := P_told_by) fun _ _ _ _ _ _ us hl => match us, hl with | [_], _ => rfl⟩
  have F11 := fun_mk (st := s_add_dealing) l11 c11 k11
  have E11 : FnAt K mg "add_dealing" s_add_dealing P_add_dealing f11 _ := ⟨F11, PySem.W.mg_of X G a11, F11.binds (ps := P_add_dealing) fun _ _ _ _ _ _ us hl => match us, hl with | [_, _, _], _ => rfl⟩
  have F12 := fun_mk (st := s_MixPaper_init) l12 c12 k12
  have E12 : MkAt K mg "MixPaper" C_MixPaper "MixPaper.__init__" s_MixPaper_init P_MixPaper_init f12 _ := ⟨F12, ⟨mk_MixPaper, a12, i12, kc_MixPaper⟩, F12.binds (ps := P_MixPaper_init) fun _ _ _ _ _ _ us hl => match us, hl with | [_, _, _], _ => rfl, PySem.W.mg_of X G e_MixPaper⟩
  have F13 := fun_mk (st := s_MixPaper_holds) l13 c13 k13
  have E13 : MtAt K C_MixPaper "holds" "MixPaper.holds" s_MixPaper_holds P_MixPaper_holds f13 _ := ⟨F13, ⟨a13, i13, k13⟩, F13.binds (ps := P_MixPaper_holds) fun _ _ _ _ _ _ us hl => match us, hl with | [_], _ => rfl⟩
  have F14 := fun_mk (st := s_LeadPaper_init) l14 c14 k14
  have E14 : MkAt K mg "LeadPaper" C_LeadPaper "LeadPaper.__init__" s_LeadPaper_init P_LeadPaper_init f14 _ := ⟨F14, ⟨mk_LeadPaper, a14, i14, kc_LeadPaper⟩, F14.binds (ps := P_LeadPaper_init) fun _ _ _ _ _ _ us hl => match us, hl with | [_, _, _, _], _ => rfl, PySem.W.mg_of X G e_LeadPaper⟩
  have F15 := fun_mk (st := s_LeadPaper_holds) l15 c15 k15
  have E15 : MtAt K C_LeadPaper "holds" "LeadPaper.holds" s_LeadPaper_holds P_LeadPaper_holds f15 _ := ⟨F15, ⟨a15, i15, k15⟩, F15.binds (ps := P_LeadPaper_holds) fun _ _ _ _ _ _ us hl => match us, hl with | [_], _ => rfl⟩
  have F16 := fun_mk (st := s_law_fold) l16 c16 k16
  have E16 : FnAt K mg "_law_fold" s_law_fold P_law_fold f16 _ := ⟨F16, PySem.W.mg_of X G a16, F16.binds (ps := P_law_fold) fun _ _ _ _ _ _ us hl => match us, hl with | [_, _], _ => rfl⟩
  have F17 := fun_mk (st := s_law_next) l17 c17 k17
  have E17 : FnAt K mg "_law_next" s_law_next P_law_next f17 _ := ⟨F17, PySem.W.mg_of X G a17, F17.binds (ps := P_law_next) fun _ _ _ _ _ _ us hl => match us, hl with | [_], _ => rfl⟩
  have F18 := fun_mk (st := s_law_judged) l18 c18 k18
  have E18 : FnAt K mg "_law_judged" s_law_judged P_law_judged f18 _ := ⟨F18, PySem.W.mg_of X G a18, F18.binds (ps := P_law_judged) fun _ _ _ _ _ _ us hl => match us, hl with | [_, _], _ => rfl⟩
  have F19 := fun_mk (st := s_law_pairs) l19 c19 k19
  have E19 : FnAt K mg "_law_pairs" s_law_pairs P_law_pairs f19 _ := ⟨F19, PySem.W.mg_of X G a19, F19.binds (ps := P_law_pairs) fun _ _ _ _ _ _ us hl => match us, hl with | [_, _], _ => rfl⟩
  have F20 := fun_mk (st := s_law_summed) l20 c20 k20
  have E20 : FnAt K mg "_law_summed" s_law_summed P_law_summed f20 _ := ⟨F20, PySem.W.mg_of X G a20, F20.binds (ps := P_law_summed) fun _ _ _ _ _ _ us hl => match us, hl with | [_, _], _ => rfl⟩
  have F21 := fun_mk (st := s_law_mixture) l21 c21 k21
  have E21 : FnAt K mg "_law_mixture" s_law_mixture P_law_mixture f21 _ := ⟨F21, PySem.W.mg_of X G a21, F21.binds (ps := P_law_mixture) fun _ _ _ _ _ _ us hl => match us, hl with | [_], _ => rfl⟩
  have F22 := fun_mk (st := s_law_even) l22 c22 k22
  have E22 : FnAt K mg "_law_even" s_law_even P_law_even f22 _ := ⟨F22, PySem.W.mg_of X G a22, F22.binds (ps := P_law_even) fun _ _ _ _ _ _ us hl => match us, hl with | [_], _ => rfl⟩
  have F23 := fun_mk (st := s_law_led) l23 c23 k23
  have E23 : FnAt K mg "_law_led" s_law_led P_law_led f23 _ := ⟨F23, PySem.W.mg_of X G a23, F23.binds (ps := P_law_led) fun _ _ _ _ _ _ us hl => match us, hl with | [_, _, _], _ => rfl⟩
  have F24 := fun_mk (st := s_law_spoiled) l24 c24 k24
  have E24 : FnAt K mg "_law_spoiled" s_law_spoiled P_law_spoiled f24 _ := ⟨F24, PySem.W.mg_of X G a24, F24.binds (ps := P_law_spoiled) fun _ _ _ _ _ _ us hl => match us, hl with | [_, _, _], _ => rfl⟩
  have F25 := fun_mk (st := s_law_unlike) l25 c25 k25
  have E25 : FnAt K mg "_law_unlike" s_law_unlike P_law_unlike f25 _ := ⟨F25, PySem.W.mg_of X G a25, F25.binds (ps := P_law_unlike) fun _ _ _ _ _ _ us hl => match us, hl with | [_, _, _], _ => rfl⟩
  have F26 := fun_mk (st := s_law_cropped) l26 c26 k26
  have E26 : FnAt K mg "_law_cropped" s_law_cropped P_law_cropped f26 _ := ⟨F26, PySem.W.mg_of X G a26, F26.binds (ps := P_law_cropped) fun _ _ _ _ _ _ us hl => match us, hl with | [_, _], _ => rfl⟩
  have F27 := fun_mk (st := s_law_summing) l27 c27 k27
  have E27 : FnAt K mg "_law_summing" s_law_summing P_law_summing f27 _ := ⟨F27, PySem.W.mg_of X G a27, F27.binds (ps := P_law_summing) fun _ _ _ _ _ _ us hl => match us, hl with | [_, _, _], _ => rfl⟩
  have F28 := fun_mk (st := s_law_pushed) l28 c28 k28
  have E28 : FnAt K mg "_law_pushed" s_law_pushed P_law_pushed f28 _ := ⟨F28, PySem.W.mg_of X G a28, F28.binds (ps := P_law_pushed) fun _ _ _ _ _ _ us hl => match us, hl with | [_, _], _ => rfl⟩
  have F29 := fun_mk (st := s_law_bent) l29 c29 k29
  have E29 : FnAt K mg "_law_bent" s_law_bent P_law_bent f29 _ := ⟨F29, PySem.W.mg_of X G a29, F29.binds (ps := P_law_bent) fun _ _ _ _ _ _ us hl => match us, hl with | [_, _, _, _, _], _ => rfl⟩
  have F30 := fun_mk (st := s_law) l30 c30 k30
  have E30 : FnAt K mg "law" s_law P_law fa _ := ⟨F30, PySem.W.mg_of X G a30, F30.binds (ps := P_law) fun _ _ _ _ _ _ us hl => match us, hl with | [_], _ => rfl⟩
  have A_ : Fns K mg ⟨C_MixError, C_NoMix, C_Paper, C_MixPaper, C_LeadPaper⟩ := ⟨⟨_, _, E0⟩, ⟨_, _, E1⟩, ⟨_, _, E2⟩, ⟨_, _, E3⟩, ⟨_, _, E4⟩, ⟨_, _, E5⟩, ⟨_, _, E6⟩, ⟨_, _, E7⟩, ⟨_, _, E8⟩, ⟨_, _, E9⟩, ⟨_, _, E10⟩, ⟨_, _, E11⟩, ⟨_, _, E12⟩, ⟨_, _, E13⟩, ⟨_, _, E14⟩, ⟨_, _, E15⟩, ⟨_, _, E16⟩, ⟨_, _, E17⟩, ⟨_, _, E18⟩, ⟨_, _, E19⟩, ⟨_, _, E20⟩, ⟨_, _, E21⟩, ⟨_, _, E22⟩, ⟨_, _, E23⟩, ⟨_, _, E24⟩, ⟨_, _, E25⟩, ⟨_, _, E26⟩, ⟨_, _, E27⟩, ⟨_, _, E28⟩, ⟨_, _, E29⟩, ⟨_, _, E30⟩⟩
  exact ⟨PySem.W.fnOf "law" "law" (defArgs s_law) (defBody s_law) (defScope s_law) .none kV30 dc30 pm30 an30 cd30 ct30, fun s v => .of_eq rfl, fun base hb _ => ok_law E30 A_ T (c := ⟨C_MixError, C_NoMix, C_Paper, C_MixPaper, C_LeadPaper⟩) ⟨PySem.W.mg_of X G e_MixError, PySem.W.mg_of X G e_NoMix, PySem.W.mg_of X G e_Paper, PySem.W.mg_of X G e_MixPaper, PySem.W.mg_of X G e_LeadPaper, ⟨⟨pg_MixPaper, hd_MixPaper, po_MixPaper, sa_MixPaper⟩, cl_MixPaper, sg, tg, ob_MixPaper⟩, ko_MixPaper, na_MixPaper_table, na_MixPaper_pairs, ⟨⟨pg_LeadPaper, hd_LeadPaper, po_LeadPaper, sa_LeadPaper⟩, cl_LeadPaper, sg, tg, ob_LeadPaper⟩, ko_LeadPaper, na_LeadPaper_one, na_LeadPaper_other, na_LeadPaper_table, ExcObj.of_lookup (ups := []) hb u_MixError rfl v_MixError, ExcObj.of_lookup (ups := [C_MixError]) hb u_NoMix rfl v_NoMix, ⟨ga_NoMix, ge_NoMix, cl_NoMix, ob_NoMix, be_NoMix, by unfold PySem.W.clsIn; rw [u_NoMix]; rfl⟩⟩⟩
theorem walk {l : PySem.W.OpenLaw} {q : Program} {loose : List Str} {XP : (Str → Option Value) → Heap → Prop} {YP : World → Heap → Prop} {d : DefRec} {K : Params → PySem.W.Frag} (hn : l.most = some 63) (hdf : d.params.defaults = [])
    (hY : ∀ (w : World) (h : Heap), YP w h → (K w.params).In h)
    (F : ∀ (w : World) (mg : Str → Option Value) (fa : Addr) (h : Heap), (K w.params).In h → h.Ns mainGlobals mg → mg d.name = some (.ref fa) →
      ∃ fd : FuncData, (∀ (s : Shared) (u : Value), BindsTo s fd ⟨[u], []⟩ [("_law_script", u)]) ∧ ∀ base : Heap, (K w.params).In base → base.Ns mainGlobals mg → FnOk l.prog w (K w.params) mg base CX0 7 fa fd ["_law_script"] (L3.spP (K w.params) S_law)) :
    PySem.W.WalkO q loose XP YP l.row.toRowW d [] (fun f vs => PySem.call f vs) :=
  L2.walk_of (n := 63) (k := 7) (x := "_law_script") (CX := fun _ => CX0) (sp := fun w => L3.spP (K w.params) S_law) hn (by decide) hdf ⟨rfl, by decide, by decide⟩ hY F (fun w H a ns hl hO hS => ⟨[.scr ns], ⟨[], _, _, [], [], rfl, rfl, ⟨a, rfl, L3.sc_of hO hS, rfl⟩, rfl, rfl⟩, law_goal hl (fun v H' fp s r n => r.1)⟩) fun _ _ _ _ _ z => z
end Mine
open PySem PySem.W PyProof.Rows
namespace PySem.W.Fast
def tw10207442858080835870:=0
def tw16135938656178554427:=0
def tw2741005490652651632:=0
def tw10408905930860240556:=0
def tw460407883244478322:=0
def tw7286841353548533461:=0
def tw5771200651752132890:=0
def tw16957603896246059347:=0
def tw2231337802056425850:=0
def tw9836249523762109778:=0
def tw7261402706320935500:=0
def tw2292103695032977509:=0
def tw13872340426028013011:=0
def tw5498535519413839942:=0
def tw18129648531651667655:=0
def tw15948475949066309997:=0
def tw15102301528542463705:=0
def tw7577970168949829511:=0
def tw14194268037774498097:=0
def tw10826466076454596441:=0
def tw18368734983912146041:=0
def tw5365237413191410430:=0
def tw6258333257697336591:=0
def tw17037564503218046534:=0
def tw7559946884565811580:=0
def tw18016059489975223414:=0
def tw14843527752430696373:=0
def tw1986785355448023894:=0
def tw8300653891682973240:=0
def tw13745867200707505035:=0
def tw7702687709638074976:=0
def tw17331236383263697751:=0
def tw7583211656422136849:=0
def tw16747036284992166447:=0
def tw18084188550933173746:=0
def tw4231688168966182350:=0
def tw16812297705213813426:=0
def tw11550126797264008009:=0
def tw10363164454928843388:=0
def tw4201623917671528547:=0
def tw4081418231256887845:=0
def tw4323804172083468225:=0
def tw7760978605049169062:=0
def tw12766892134005998884:=0
def tw16855453781906998258:=0
def tw13400440938352374936:=0
def tw16613445876405280572:=0
def tw1301678103957176844:=0
def tw15476754735850907366:=0
def tw9201136938382593612:=0
def tw7109963389602398929:=0
def tw2978951588476365086:=0
def tw5754771297657690914:=0
def tw4961715305018299563:=0
def tw1212179695935892376:=0
def tw14576468498513902538:=0
def tw1607452310073178211:=0
def tw12623071461689968582:=0
def tw17502489544851535875:=0
def tw4956081418622272568:=0
def tw1200476623946345993:=0
def tw11981994376214594903:=0
def tw5632652451309644937:=0
def tw3888509773463411416:=0
def tw13354894450191474386:=0
def tw1881320371972881925:=0
def tw17489821111567656133:=0
def tw15484858942191391521:=0
def tw15277318935963283283:=0
def tw16371053098792892978:=0
def tw7078073999417652977:=0
def tw16809830598831187357:=0
def tw7580572367838291025:=0
def tw6243714586187558101:=0
def tw15431387448847096163:=0
def tw17845851278741275969:=0
def tw1972391901631452542:=0
def tw5285846013925988391:=0
def tw10970233932151326331:=0
def tw4766060479080761214:=0
def tw1464912468436961729:=0
def tw16542786013421719006:=0
def tw3947106336531347117:=0
def tw12320305937674642702:=0
def tw9189589648459417711:=0
def tw18007576448268084638:=0
def tw13378914465293733441:=0
def tw16995748878868231927:=0
def tw6810883610712073864:=0
def tw12441704346345303132:=0
def tw4293177478485535654:=0
def tw15904719572356638014:=0
def tw16294753209828499693:=0
def tw16085955479964540781:=0
def tw7300581235533843244:=0
def tw7799532702531160463:=0
def tw18070832542149925402:=0
def tw15935886839050678856:=0
def tw8436163967616894734:=0
def tw18196145107025389432:=0
def tw12143835268468101234:=0
def tw8245809764243831545:=0
def tw2156737233998408447:=0
def tw1538572241726281304:=0
def tw8242014414203843908:=0
def tw1504226221704314526:=0
def tw5640460241836238834:=0
def tw697304707538371388:=0
def tw17711400529710561248:=0
def tw6282786296395306411:=0
def tw6357446541674716695:=0
def tw11908298317342756814:=0
def tw13486163967776050067:=0
def tw4933002534104228727:=0
def tw17699920661239407218:=0
def tw1172041632523625199:=0
def tw7771916781226407173:=0
def tw9297556643789707121:=0
def tw13069977465133092982:=0
def tw6781915477865682001:=0
def tw3093057017150080515:=0
def tw16048694118583658853:=0
def tw15970937049357062450:=0
def tw9864008147173310261:=0
def tw16591281930046124634:=0
def tw8080945707761551736:=0
def tw11540743136749691234:=0
def tw10533925738939423664:=0
def tw4301576184067329787:=0
def tw17325560506313273262:=0
def tw1003198305875591169:=0
def tw5639127369516398488:=0
def tw16939485794895627186:=0
def tw8749513394212264535:=0
def tw12543430548546259431:=0
def tw9542647901888116763:=0
def tw1014055154445504219:=0
def tw15030349177563351316:=0
def tw9362051737688766267:=0
def tw9446434895599892172:=0
def tw18364752935709789119:=0
def tw16786329625376212:=0
def tw5142984558039107213:=0
def tw7731395329446134924:=0
def tw5998365378777933201:=0
def tw3166948703655070058:=0
def tw6269446661711128589:=0
def tw5922773648485327307:=0
def tw6091703152019108842:=0
def tw16899050148541319660:=0
def tw10159897729468479300:=0
def tw10526739302459356177:=0
def tw1226795102503536674:=0
def tw16010663060381681393:=0
def tw1725669808198835943:=0
def tw1138487956881226777:=0
def tw2245395203855454377:=0
def tw345571360663862517:=0
def tw18161801347079163960:=0
def tw11901127881084848164:=0
def tw200405623442320929:=0
def tw944949793884757924:=0
def tw7343758961789559178:=0
def tw2453346309259513501:=0
def tw5043720103027882423:=0
def tw3829220297099016076:=0
def tw17744343945132133773:=0
def tw922256931919202361:=0
def tw15369920235960031383:=0
def tw9904584223937950044:=0
def tw1899941776992105940:=0
def tw3986095397814736604:=0
def tw11301346015729547601:=0
def tw4880730524563117147:=0
def tw13499820794416108226:=0
def tw12951020573472347561:=0
def tw15340836476675686519:=0
def tw10598227525175274912:=0
def tw13786738012096803661:=0
def tw9015138836488711801:=0
def tw14634028490761181655:=0
def tw298176118911510846:=0
def tw8190513907906227756:=0
def tw11176808827398225135:=0
def tw13503456968167691673:=0
def tw6876359877051117396:=0
def tw441116240083418088:=0
def tw13014444687630853670:=0
def tw1953296282131851187:=0
def tw1708977893040825839:=0
def tw15135028695089018628:=0
def tw14658719253118153737:=0
def tw10919279107545749663:=0
def tw12964188649666463604:=0
def tw4434704674628066244:=0
def tw15701087173936689784:=0
def tw17494919931790791059:=0
def tw6837966052986641503:=0
def tw14766479330841463195:=0
def tw9556262812223966277:=0
def tw6742066732217373400:=0
def tw11400700091706486796:=0
def tw5570953738269122826:=0
def tw15596989104194748308:=0
def tw4815065398413240211:=0
def tw2797102659302765539:=0
def tw13849710786064913999:=0
def tw2739056813273914722:=0
def tw11242572014296956591:=0
def tw12595627296911827775:=0
def tw18234737732138627115:=0
def tw340664944933042349:=0
def tw7177985314290964550:=0
def tw14084377493084218831:=0
def tw17673484118597781559:=0
def tw1813382762372302816:=0
def tw14075362453523313952:=0
def tw15104669529172529747:=0
def tw9916353753454041505:=0
def tw10268028122117363938:=0
def tw9859616980874350673:=0
def tw6291425273951557516:=0
def tw10415042691373837982:=0
def tw9253915999386208261:=0
def tw13788189392843094114:=0
def tw2158942767488539405:=0
def tw4926921768672808413:=0
def tw3237076493412322868:=0
def tw4968363230305884886:=0
def tw5790779673878255058:=0
def tw4884408628411485418:=0
def tw13682879239706945877:=0
def tw7146451542280706142:=0
def tw5883913876230122250:=0
def tw311238035474376238:=0
def tw1242392347929248516:=0
def tw11263213262875505071:=0
def tw10595112117930974193:=0
def tw561053186713575246:=0
def tw18354640617647952978:=0
def tw9896021316093420665:=0
def tw14452432181445412693:=0
def tw5180385619050296117:=0
def tw5172462656099732821:=0
def tw4245454716412001160:=0
def tw3884498659536621186:=0
def tw2623610852560361863:=0
def tw10602445814857634743:=0
def tw10675537069943675030:=0
end PySem.W.Fast
set_option maxRecDepth 100000 in
set_option maxHeartbeats 0 in
theorem PySem.Challenge.cw_evenmix_k64_mix_and_lead_papers_holds : PySem.Challenge.rw_evenmix_k64_mix_and_lead_papers.Holds := by
  w_on; o_law; k_head; (case hw => w_witness2)
  k_fill
  refine Mine.walk (l := PySem.Challenge.rw_evenmix_k64_mix_and_lead_papers) rfl rfl (fun w h Y => PySem.W.kIn_of Y) ?F
  case F =>
    intro w mg fa h KX G hmg
    refine' Mine.all_mk KX G hmg ?a0 ?l0 ?c0 ?k0 ?a1 ?l1 ?c1 ?k1 ?a2 ?l2 ?c2 ?k2 ?a3 ?l3 ?c3 ?k3 ?a4 ?l4 ?c4 ?k4 ?a5 ?l5 ?c5 ?k5 ?a6 ?l6 ?c6 ?k6 ?a7 ?l7 ?c7 ?k7 ?a8 ?l8 ?c8 ?k8 ?a9 ?l9 ?c9 ?k9 ?a10 ?l10 ?c10 ?k10 ?a11 ?l11 ?c11 ?k11 ?a12 ?i12 ?l12 ?c12 ?k12 ?a13 ?i13 ?l13 ?c13 ?k13 ?a14 ?i14 ?l14 ?c14 ?k14 ?a15 ?i15 ?l15 ?c15 ?k15 ?a16 ?l16 ?c16 ?k16 ?a17 ?l17 ?c17 ?k17 ?a18 ?l18 ?c18 ?k18 ?a19 ?l19 ?c19 ?k19 ?a20 ?l20 ?c20 ?k20 ?a21 ?l21 ?c21 ?k21 ?a22 ?l22 ?c22 ?k22 ?a23 ?l23 ?c23 ?k23 ?a24 ?l24 ?c24 ?k24 ?a25 ?l25 ?c25 ?k25 ?a26 ?l26 ?c26 ?k26 ?a27 ?l27 ?c27 ?k27 ?a28 ?l28 ?c28 ?k28 ?a29 ?l29 ?c29 ?k29 ?a30 ?l30 ?c30 ?k30 ?sg ?tg ?pg_MixPaper ?hd_MixPaper ?po_MixPaper ?sa_MixPaper ?mk_MixPaper ?kc_MixPaper ?cl_MixPaper ?ob_MixPaper ?ko_MixPaper ?na_MixPaper_table ?na_MixPaper_pairs ?pg_LeadPaper ?hd_LeadPaper ?po_LeadPaper ?sa_LeadPaper ?mk_LeadPaper ?kc_LeadPaper ?cl_LeadPaper ?ob_LeadPaper ?ko_LeadPaper ?na_LeadPaper_one ?na_LeadPaper_other ?na_LeadPaper_table ?e_MixError ?e_NoMix ?e_Paper ?e_MixPaper ?e_LeadPaper ?u_MixError ?v_MixError ?u_NoMix ?v_NoMix ?ga_NoMix ?ge_NoMix ?cl_NoMix ?ob_NoMix ?be_NoMix ?g_MOST ?z_len ?z_isinstance ?z_int ?z_bool ?z_list ?z_range ?z_sum ?z_sorted ?z_min ?z_any ?z_all ?z_zip ?z_set ?z_ValueError
    (case e_MixError => k_is)
    (case e_NoMix => k_is)
    (case e_Paper => k_is)
    (case e_MixPaper => k_is)
    (case e_LeadPaper => k_is)
    (case a0 => k_is)
    (case l0 => k_is)
    (case c0 => k_is)
    (case k0 => k_is)
    (case a1 => k_is)
    (case l1 => k_is)
    (case c1 => k_is)
    (case k1 => k_is)
    (case a2 => k_is)
    (case l2 => k_is)
    (case c2 => k_is)
    (case k2 => k_is)
    (case a3 => k_is)
    (case l3 => k_is)
    (case c3 => k_is)
    (case k3 => k_is)
    (case a4 => k_is)
    (case l4 => k_is)
    (case c4 => k_is)
    (case k4 => k_is)
    (case a5 => k_is)
    (case l5 => k_is)
    (case c5 => k_is)
    (case k5 => k_is)
    (case a6 => k_is)
    (case l6 => k_is)
    (case c6 => k_is)
    (case k6 => k_is)
    (case a7 => k_is)
    (case l7 => k_is)
    (case c7 => k_is)
    (case k7 => k_is)
    (case a8 => k_is)
    (case l8 => k_is)
    (case c8 => k_is)
    (case k8 => k_is)
    (case a9 => k_is)
    (case l9 => k_is)
    (case c9 => k_is)
    (case k9 => k_is)
    (case a10 => k_is)
    (case l10 => k_is)
    (case c10 => k_is)
    (case k10 => k_is)
    (case a11 => k_is)
    (case l11 => k_is)
    (case c11 => k_is)
    (case k11 => k_is)
    (case a12 => k_is)
    (case i12 => k_is)
    (case l12 => k_is)
    (case c12 => k_is)
    (case k12 => k_is)
    (case a13 => k_is)
    (case i13 => k_is)
    (case l13 => k_is)
    (case c13 => k_is)
    (case k13 => k_is)
    (case a14 => k_is)
    (case i14 => k_is)
    (case l14 => k_is)
    (case c14 => k_is)
    (case k14 => k_is)
    (case a15 => k_is)
    (case i15 => k_is)
    (case l15 => k_is)
    (case c15 => k_is)
    (case k15 => k_is)
    (case a16 => k_is)
    (case l16 => k_is)
    (case c16 => k_is)
    (case k16 => k_is)
    (case a17 => k_is)
    (case l17 => k_is)
    (case c17 => k_is)
    (case k17 => k_is)
    (case a18 => k_is)
    (case l18 => k_is)
    (case c18 => k_is)
    (case k18 => k_is)
    (case a19 => k_is)
    (case l19 => k_is)
    (case c19 => k_is)
    (case k19 => k_is)
    (case a20 => k_is)
    (case l20 => k_is)
    (case c20 => k_is)
    (case k20 => k_is)
    (case a21 => k_is)
    (case l21 => k_is)
    (case c21 => k_is)
    (case k21 => k_is)
    (case a22 => k_is)
    (case l22 => k_is)
    (case c22 => k_is)
    (case k22 => k_is)
    (case a23 => k_is)
    (case l23 => k_is)
    (case c23 => k_is)
    (case k23 => k_is)
    (case a24 => k_is)
    (case l24 => k_is)
    (case c24 => k_is)
    (case k24 => k_is)
    (case a25 => k_is)
    (case l25 => k_is)
    (case c25 => k_is)
    (case k25 => k_is)
    (case a26 => k_is)
    (case l26 => k_is)
    (case c26 => k_is)
    (case k26 => k_is)
    (case a27 => k_is)
    (case l27 => k_is)
    (case c27 => k_is)
    (case k27 => k_is)
    (case a28 => k_is)
    (case l28 => k_is)
    (case c28 => k_is)
    (case k28 => k_is)
    (case a29 => k_is)
    (case l29 => k_is)
    (case c29 => k_is)
    (case k29 => k_is)
    (case a30 => k_is)
    (case l30 => k_is)
    (case c30 => k_is)
    (case k30 => k_is)
    (case sg => k_is)
    (case tg => k_is)
    (case pg_MixPaper => k_is)
    (case hd_MixPaper => k_is)
    (case po_MixPaper => k_is)
    (case sa_MixPaper => k_is)
    (case mk_MixPaper => k_is)
    (case kc_MixPaper => k_is)
    (case cl_MixPaper => k_is)
    (case ob_MixPaper => k_is)
    (case ko_MixPaper => kit_is)
    (case na_MixPaper_table => k_is)
    (case na_MixPaper_pairs => k_is)
    (case pg_LeadPaper => k_is)
    (case hd_LeadPaper => k_is)
    (case po_LeadPaper => k_is)
    (case sa_LeadPaper => k_is)
    (case mk_LeadPaper => k_is)
    (case kc_LeadPaper => k_is)
    (case cl_LeadPaper => k_is)
    (case ob_LeadPaper => k_is)
    (case ko_LeadPaper => kit_is)
    (case na_LeadPaper_one => k_is)
    (case na_LeadPaper_other => k_is)
    (case na_LeadPaper_table => k_is)
    (case u_MixError => k_is)
    (case v_MixError => k_exc)
    (case u_NoMix => k_is)
    (case v_NoMix => k_exc)
    (case ga_NoMix => k_is)
    (case ge_NoMix => k_is)
    (case cl_NoMix => k_is)
    (case ob_NoMix => k_is)
    (case be_NoMix => k_is)
    (case g_MOST => k_is)
    (case z_len => k_is)
    (case z_isinstance => k_is)
    (case z_int => k_is)
    (case z_bool => k_is)
    (case z_list => k_is)
    (case z_range => k_is)
    (case z_sum => k_is)
    (case z_sorted => k_is)
    (case z_min => k_is)
    (case z_any => k_is)
    (case z_all => k_is)
    (case z_zip => k_is)
    (case z_set => k_is)
    (case z_ValueError => k_is)
