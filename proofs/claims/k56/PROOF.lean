import PyProof.Rows.All
import Wide.All
import OpenK.AllK
import Wide.FinOn
import Lean
import PyProof.EqAt
import PyProof.EqKinds
import PyProof.TupleCall
import PyProof.DictRoadsH
import PyProof.TupleKey
import PyProof.NeKinds
import PyProof.ZipIter
import KE.KRevIter
import PyProof.ListRange
import KE.LcSums
import PyProof.Rows.MinMaxN
import KE.KTryDeep
import PyProof.ExcArgsOwn
import PyProof.ExcAttrAll.ValueError
import KE.KIntText
import PyProof.JoinWalk
import PyProof.StrCalls
import KE.KIsAll
import KE.RegKIsAll
import PySem.Challenge.RW_evenmix_k56_by_number_and_back
set_option linter.all false
set_option maxRecDepth 100000
namespace L2
open PySem
abbrev PKey := Int × List Int
section
variable {prog : Program} {w : World}
abbrev inner (prog : Program) (w : World) := PySem.intKind prog w
def IsDKey (h : Heap) (k : PKey) (a : Addr) : Prop :=
  ∃ o n t b, h.get? a = some o ∧ o.cls = .type "tuple" ∧ o.data = .seq #[.int k.1 t, .ref b] n ∧ IsTupleKey (inner prog w) h k.2 b
def pairHash (prog : Program) (w : World) (k : PKey) : Int := reduceHash (Builtin.Tuple.tupleHashOf [hashInt k.1, tupleKeyHash (inner prog w) k.2])
theorem IsDKey.ty {s : Shared} {k : PKey} {a : Addr} (x : IsDKey (prog := prog) (w := w) s.heap k a) : s.TypeIs (.ref a) "tuple" := by
  obtain ⟨o, n, t, b, e, c, _⟩ := x
  exact ⟨o, e, c⟩
theorem IsDKey.uniq {h : Heap} {a : Addr} {x y : PKey} (hx : IsDKey (prog := prog) (w := w) h x a) (hy : IsDKey (prog := prog) (w := w) h y a) : x = y := by
  obtain ⟨o, n, t, b, e, c, d, i⟩ := hx
  obtain ⟨o', n', t', b', e', c', d', i'⟩ := hy
  rw [e] at e'
  cases e'
  rw [d] at d'
  injection d' with q1 _
  have q2 := congrArg Array.toList q1
  injection q2 with q3 q4
  injection q3 with q5 _
  injection q4 with q6 _
  injection q6 with q7
  subst q7
  exact Prod.ext q5 (i.inj i')
theorem IsDKey.stays {h h' : Heap} {k : PKey} {a d : Addr} {o : Obj} {es ep} (x : IsDKey (prog := prog) (w := w) h k a) (ho : h.get? d = some o) (hd : o.data = .dict es ep) (hs : Heap.SameBut d h h') : IsDKey (prog := prog) (w := w) h' k a := by
  obtain ⟨o', n, t, b, e, c, q, i⟩ := x
  have ne : a ≠ d := fun z => by
    rw [z, ho] at e
    cases e
    rw [hd] at q
    exact nomatch q
  exact ⟨o', n, t, b, (hs.2 a ne).trans e, c, q, i.keeps ho hd hs⟩
theorem flat_items {p1 p2 : Program} {w1 w2 : World} {ks : List Int} {vs : List Value} (h : ItemsAre (intKind p1 w1) ks vs) : ItemsAre (intKind p2 w2) ks vs := by
  induction h with
  | nil => exact .nil
  | cons a _ ih => exact .cons a ih
theorem flat_any {p1 p2 : Program} {w1 w2 : World} {h : Heap} {ks : List Int} {a : Addr} (x : IsTupleKey (intKind p1 w1) h ks a) : IsTupleKey (intKind p2 w2) h ks a := by
  obtain ⟨o, it, n, e1, e2, e3, e4⟩ := x
  exact ⟨o, it, n, e1, e2, e3, flat_items e4⟩
variable {A : Around} {E : Value → Shared → Prop} {s : Shared}
theorem pair_hash {k : PKey} {a : Addr} {Q : Int → Shared → Prop} (hu : A.units + 2 < cLine) (hk : IsDKey (prog := prog) (w := w) s.heap k a) (h : Q (pairHash prog w k) { s with toks := s.toks + (k.2.length + 3) }) : wpAny (model prog w) A (pyHash (.ref a)) Q E s := by
  have ty := hk.ty
  obtain ⟨o, n, t, b, ho, _, hd, hi⟩ := hk
  unfold pyHash
  first | unfold pyHashByItsType | skip
  first | refine wpAny_bind (wpAny_cRoomFor_or (.inr (by omega)) ?_) | skip
  refine (wpAny_bind (wpAny_specialOf ty F.slot_tuple_hash.lookup ?_))
  show wpAny (model prog w) A (if (some (Value.builtin "tuple.__hash__") == some Value.none) = true then _ else _) Q E s
  rw [if_neg (fun z => by rw [beq_builtin_none] at z; cases z)]
  refine (wpAny_bind (wpAny_specialOf ty F.slot_tuple_hash.lookup ?_))
  show wpAny (model prog w) A (callSpecialIfBoundUnlessNone? (.ref a) "__hash__" _ >>= _) Q E s
  refine wpAny_bind (wpAny_callSpecialIfBoundUnlessNone?_slot ty F.slot_tuple_hash (wpAny_call_entry F.slot_tuple_hash ty F.entry_tuple_hash ?_ (F.args_tuple_hash_1 _)))
  show wpAny (model prog w) _ (Builtin.Tuple.tupleItemsOf (.ref a) >>= _) _ _ s
  refine wpAny_bind (wpAny_tupleItemsOf ho hd (wpAny_bind ?_))
  rw [← Array.forIn_toList]
  refine wpAny_forIn_list _ (fun rest (z : Array Int) s' => (rest = [.int k.1 t, .ref b] ∧ z.toList = [] ∧ s' = s) ∨ (rest = [.ref b] ∧ z.toList = [hashInt k.1] ∧ s' = { s with toks := s.toks + 1 }) ∨ (rest = [] ∧ z.toList = [hashInt k.1, tupleKeyHash (inner prog w) k.2] ∧ s' = { s with toks := s.toks + 1 + (k.2.length + 1) })) _ ?_ ?_ _ _ (.inl ⟨rfl, rfl, rfl⟩)
  · rintro x rest z s' (⟨e1, e2, rfl⟩ | ⟨e1, e2, rfl⟩ | ⟨e1, _⟩)
    · cases e1
      refine wpAny_bind ((inner prog w).pyHash (k := k.1) (by simp [inner, intKind, Value.isInt]) ?_)
      first
        | exact wpAny_pure (.inr (.inl ⟨rfl, by simp [e2]; rfl, rfl⟩))
        | exact wpAny_bind (wpAny_pure (wpAny_pure (.inr (.inl ⟨rfl, by simp [e2]; rfl, rfl⟩))))
    · cases e1
      refine wpAny_bind (wpAny_pyHash_tuple (knd := inner prog w) (ks := k.2) (by first | omega | (show A.in1.units < cLine; show A.units + 1 < cLine; omega)) hi ?_)
      first
        | exact wpAny_pure (.inr (.inr ⟨rfl, by simp [e2], rfl⟩))
        | exact wpAny_bind (wpAny_pure (wpAny_pure (.inr (.inr ⟨rfl, by simp [e2], rfl⟩))))
    · cases e1
  · rintro z s' (⟨e1, _⟩ | ⟨e1, _⟩ | ⟨_, e2, rfl⟩)
    · cases e1
    · cases e1
    show wpAny (model prog w) _ (retInt (Builtin.Tuple.tupleHashOf z.toList)) _ _ _
    rw [e2]
    refine wpAny_ret_mkInt ?_
    unfold pairHash reduceHash at h
    generalize Builtin.Tuple.tupleHashOf [hashInt k.1, tupleKeyHash (inner prog w) k.2] = m at h ⊢
    rw [show s.toks + (k.2.length + 3) = s.toks + 1 + (k.2.length + 1) + 1 by omega] at h
    show wpAny (model prog w) A (if (decide (-(2 : Int) ^ 63 ≤ m) && decide (m < 2 ^ 63)) = true then _ else _) Q E _
    by_cases hr : (decide (-(2 : Int) ^ 63 ≤ m) && decide (m < 2 ^ 63)) = true
    · rw [if_pos hr] at h ⊢
      exact wpAny_pure h
    · rw [if_neg hr] at h ⊢
      exact wpAny_bind (wpAny_rule (wpAny_pure h))
theorem pair_eq {x y : PKey} {a b : Addr} (hu : A.units + 2 < cLine) (hx : IsDKey (prog := prog) (w := w) s.heap x a) (hy : IsDKey (prog := prog) (w := w) s.heap y b) : SeqAt.EqAt A s (.ref a) (.ref b) (decide (x = y)) := by
  by_cases hab : a = b
  · subst hab
    rw [hx.uniq hy, decide_eq_true rfl]
    exact SeqAt.EqAt.same _
  · obtain ⟨o1, n1, t1, b1, g1, c1, d1, i1⟩ := hx
    obtain ⟨o2, n2, t2, b2, g2, c2, d2, i2⟩ := hy
    have r1 : s.heap.IsTuple a #[.int x.1 t1, .ref b1] := ⟨o1, g1, c1, n1, d1⟩
    have r2 : s.heap.IsTuple b #[.int y.1 t2, .ref b2] := ⟨o2, g2, c2, n2, d2⟩
    have inn : SeqAt.EqAt A.in1 s (.ref b1) (.ref b2) (decide (x.2 = y.2)) := fun prog' w' E' Q' q => by
      have := wpAny_eqBool_tuple (prog := prog') (w := w') (knd := intKind prog' w') (A := A.in1) (E := E') (s := s) (x := x.2) (y := y.2) (a := b1) (b := b2) (Q := Q') (by show A.units + 1 < cLine; omega) (flat_any i1) (flat_any i2) q
      exact this
    have key := SeqAt.RcAt.tuples (A := A) (e := fun j => if j = 0 then decide (x.1 = y.1) else decide (x.2 = y.2)) r1 r2 (by omega) (fun j h1 h2 => by
      have hj : j = 0 ∨ j = 1 := by simp at h1; omega
      rcases hj with rfl | rfl
      · have := SeqAt.EqAt.int_int (A := A.in1) (s := s) x.1 t1 y.1 t2
        rw [show (x.1 == y.1) = decide (x.1 = y.1) from rfl] at this
        exact this
      · exact inn)
    refine SeqAt.EqAt.of_refs hab ?_
    have e : decide (x = y) = ((List.range (min (#[Value.int x.1 t1, Value.ref b1] : Array Value).size (#[Value.int y.1 t2, Value.ref b2] : Array Value).size)).all (fun j => if j = 0 then decide (x.1 = y.1) else decide (x.2 = y.2)) && (#[Value.int x.1 t1, Value.ref b1] : Array Value).size == (#[Value.int y.1 t2, Value.ref b2] : Array Value).size) := by
      rw [show (List.range (min (#[Value.int x.1 t1, Value.ref b1] : Array Value).size (#[Value.int y.1 t2, Value.ref b2] : Array Value).size)) = [0, 1] from rfl]
      rw [Bool.eq_iff_iff]
      simp [Prod.ext_iff]
    rw [e]
    exact key
theorem quiet_flat {ks : List Int} {a : Addr} {n : Nat} {Q : Bool → Shared → Prop} (hk : IsTupleKey (inner prog w) s.heap ks a) (h : Q true s) : wpAny (model prog w) A (eqIsQuiet (n + 1) (.ref a)) Q E s := by
  have ty := hk.typeIs
  obtain ⟨o, it, m, ho, _, hd, hi⟩ := hk
  unfold eqIsQuiet
  refine (wpAny_bind (wpAny_specialOf ty F.slot_tuple_eq.lookup ?_))
  show wpAny (model prog w) A (isInstance (.ref a) (.type "tuple") >>= _) Q E s
  refine (wpAny_bind (wpAny_isInstance ty isSubtype_tuple_tuple ?_))
  simp only [Bool.not_true, Bool.false_eq_true, if_false]
  refine (wpAny_bind (wpAny_seqItems ho hd (wpAny_bind ?_)))
  show wpAny (model prog w) A (forIn it _ _) _ E s
  rw [← Array.forIn_toList]
  refine wpAny_forIn_list _ (fun rest r s' => (r.1 = none ∧ s' = s) ∧ ∀ v ∈ rest, carriedByValue v = true) _ ?_ ?_ _ _ ⟨⟨rfl, rfl⟩, hi.byValue⟩
  · rintro v rest r s' ⟨⟨hr, rfl⟩, hall⟩
    rw [eqIsQuiet_byValue _ (hall v List.mem_cons_self)]
    refine wpAny_bind (wpAny_pure ?_)
    simp only [Bool.not_true, Bool.false_eq_true, if_false]
    exact wpAny_pure ⟨⟨rfl, rfl⟩, fun u hu => hall u (List.mem_cons_of_mem _ hu)⟩
  · rintro ⟨r1, r2⟩ s' ⟨⟨hr, rfl⟩, _⟩
    simp only at hr
    subst hr
    exact wpAny_pure h
theorem pair_quiet {k : PKey} {a : Addr} {Q : Bool → Shared → Prop} (hk : IsDKey (prog := prog) (w := w) s.heap k a) (h : Q true s) : wpAny (model prog w) A (eqIsQuiet 8 (.ref a)) Q E s := by
  have ty := hk.ty
  obtain ⟨o, n, t, b, ho, _, hd, hi⟩ := hk
  unfold eqIsQuiet
  refine (wpAny_bind (wpAny_specialOf ty F.slot_tuple_eq.lookup ?_))
  show wpAny (model prog w) A (isInstance (.ref a) (.type "tuple") >>= _) Q E s
  refine (wpAny_bind (wpAny_isInstance ty isSubtype_tuple_tuple ?_))
  simp only [Bool.not_true, Bool.false_eq_true, if_false]
  refine (wpAny_bind (wpAny_seqItems ho hd (wpAny_bind ?_)))
  show wpAny (model prog w) A (forIn (#[Value.int k.1 t, Value.ref b] : Array Value) _ _) _ E s
  rw [← Array.forIn_toList]
  refine wpAny_forIn_list _ (fun rest r s' => (r.1 = none ∧ s' = s) ∧ ∀ v ∈ rest, v = .int k.1 t ∨ v = .ref b) _ ?_ ?_ _ _ ⟨⟨rfl, rfl⟩, fun v hv => by simpa using hv⟩
  · rintro v rest r s' ⟨⟨hr, rfl⟩, hall⟩
    rcases hall v List.mem_cons_self with rfl | rfl
    · rw [eqIsQuiet_byValue _ rfl]
      refine wpAny_bind (wpAny_pure ?_)
      simp only [Bool.not_true, Bool.false_eq_true, if_false]
      exact wpAny_pure ⟨⟨rfl, rfl⟩, fun u hu => hall u (List.mem_cons_of_mem _ hu)⟩
    · refine wpAny_bind (quiet_flat hi ?_)
      simp only [Bool.not_true, Bool.false_eq_true, if_false]
      exact wpAny_pure ⟨⟨rfl, rfl⟩, fun u hu => hall u (List.mem_cons_of_mem _ hu)⟩
  · rintro ⟨r1, r2⟩ s' ⟨⟨hr, rfl⟩, _⟩
    simp only at hr
    subst hr
    exact wpAny_pure h
end
def pairKind (prog : Program) (w : World) : HeapKind prog w PKey where
  is := IsDKey (prog := prog) (w := w)
  hash := pairHash prog w
  draws := fun k => k.2.length + 3
  room := fun A => A.units + 2 < cLine
  inj := fun hx hy => hx.uniq hy
  keeps := fun x ho hd hs => x.stays ho hd hs
  pyHash := fun hu hk h => pair_hash hu hk h
  eqBool := fun hu hx hy h => pair_eq hu hx hy _ _ _ _ h
  quiet := fun hk h => pair_quiet hk h
end L2
set_option Elab.async false
set_option linter.all false
set_option maxRecDepth 100000
namespace L2
open PySem PySem.Spec PyProof.Rows
abbrev Key := Sum Int Str
def keyIs : Key → Value → Bool
  | .inl k, v => Value.isInt k v
  | .inr x, v => Value.isStrOf x v
def keyH (w : World) : Key → Int
  | .inl k => hashInt k
  | .inr x => hashStr w x
theorem keyIs_shape : ∀ {k : Key} {v : Value}, keyIs k v = true → (∃ i t, k = Sum.inl i ∧ v = Value.int i t) ∨ (∃ x t, k = Sum.inr x ∧ v = Value.str x t)
  | .inl i, v, h => by
    obtain ⟨t, e⟩ := Value.isInt_shape (k := i) (v := v) h
    exact .inl ⟨i, t, rfl, e⟩
  | .inr x, v, h => by
    obtain ⟨t, e⟩ := Value.isStrOf_shape (x := x) (v := v) h
    exact .inr ⟨x, t, rfl, e⟩
theorem key_ll (a b : Int) : decide ((Sum.inl a : Key) = Sum.inl b) = (a == b) := by
  by_cases e : a = b
  · subst e; simp
  · have h : ¬ (Sum.inl a : Key) = Sum.inl b := fun q => e (Sum.inl.inj q)
    rw [decide_eq_false h]
    exact (beq_eq_false_iff_ne.mpr e).symm
theorem key_rr (a b : Str) : decide ((Sum.inr a : Key) = Sum.inr b) = decide (a = b) := by
  by_cases e : a = b
  · subst e; simp
  · have h : ¬ (Sum.inr a : Key) = Sum.inr b := fun q => e (Sum.inr.inj q)
    rw [decide_eq_false h, decide_eq_false e]
theorem key_lr (a : Int) (b : Str) : decide ((Sum.inl a : Key) = Sum.inr b) = false := decide_eq_false (fun q => nomatch q)
theorem key_rl (a : Str) (b : Int) : decide ((Sum.inr a : Key) = Sum.inl b) = false := decide_eq_false (fun q => nomatch q)
def mixKind (prog : Program) (w : World) : PySem.KeyKind prog w Key where
  is := keyIs
  hash := keyH w
  inj := fun v a b ha hb => by
    rcases keyIs_shape ha with ⟨i, t, rfl, rfl⟩ | ⟨x, t, rfl, rfl⟩
    · rcases keyIs_shape hb with ⟨j, u, rfl, e⟩ | ⟨y, u, rfl, e⟩
      · injection e with e1 _; rw [e1]
      · exact nomatch e
    · rcases keyIs_shape hb with ⟨j, u, rfl, e⟩ | ⟨y, u, rfl, e⟩
      · exact nomatch e
      · injection e with e1 _; rw [e1]
  byValue := fun k v h => by
    rcases keyIs_shape h with ⟨i, t, rfl, rfl⟩ | ⟨x, t, rfl, rfl⟩ <;> rfl
  pyHash := fun hv h => by
    rcases keyIs_shape hv with ⟨i, t, rfl, rfl⟩ | ⟨x, t, rfl, rfl⟩
    · exact wpAny_pyHash_int h
    · exact wpAny_pyHash_str h
  eqBool := fun hu hv h => by
    rcases keyIs_shape hu with ⟨i, t, rfl, rfl⟩ | ⟨x, t, rfl, rfl⟩
    · rcases keyIs_shape hv with ⟨j, u, rfl, rfl⟩ | ⟨y, u, rfl, rfl⟩
      · rw [key_ll] at h; exact wpAny_eqBool_int h
      · rw [key_lr] at h; exact SeqAt.EqAt.int_str i t y u _ _ _ _ h
    · rcases keyIs_shape hv with ⟨j, u, rfl, rfl⟩ | ⟨y, u, rfl, rfl⟩
      · rw [key_rl] at h; exact SeqAt.EqAt.str_int x t j u _ _ _ _ h
      · rw [key_rr] at h; exact wpAny_eqBool_str h
  «strs» := fun k x t v h => by
    rcases keyIs_shape h with ⟨i, u, rfl, e⟩ | ⟨y, u, rfl, e⟩
    · exact nomatch e
    · injection e with e1 _
      subst e1
      cases v <;> rfl
end L2
namespace L2
open PySem PySem.Spec PyProof.Rows
inductive V where
  | non | bl (b : Bool) | int (i : Int) | str (x : Str) | byt (b : Array UInt8) | flt (b : UInt64) | ref (a : Addr) | ty (n : String)
  deriving DecidableEq
def RelV : V → Value → Prop
  | .non, u => u = Value.none
  | .bl b, u => u = Value.bool b
  | .int i, u => ∃ t, u = Value.int i t
  | .str x, u => ∃ t, u = Value.str x t
  | .byt b, u => ∃ t, u = Value.bytes b t
  | .flt b, u => ∃ t, u = Value.float b t
  | .ref a, u => u = Value.ref a
  | .ty n, u => u = Value.type n
abbrev Vals : List V → List Value → Prop := Paired RelV
theorem Vals.length {xs : List V} {us : List Value} (r : Vals xs us) : xs.length = us.length := Paired.length r
theorem Vals.get : ∀ {xs : List V} {us : List Value} {i : Nat} {x : V}, Vals xs us → xs[i]? = some x → ∃ u, us[i]? = some u ∧ RelV x u
  | _, _, _, _, .nil, e => by simp at e
  | _, _, 0, _, .cons r _, e => by simp at e; subst e; exact ⟨_, rfl, r⟩
  | _, _, i + 1, x, .cons _ t, e => by
    obtain ⟨u, h1, h2⟩ := Vals.get (i := i) (x := x) t (by simpa using e)
    exact ⟨u, by simpa using h1, h2⟩
theorem Vals.set {x : V} {u : Value} (r : RelV x u) : ∀ {xs : List V} {us : List Value} (i : Nat), Vals xs us → Vals (xs.set i x) (us.set i u)
  | _, _, _, .nil => .nil
  | _, _, 0, .cons _ t => .cons r t
  | _, _, i + 1, .cons q t => .cons q (Vals.set r i t)
theorem Vals.append : ∀ {xs ys : List V} {us ws : List Value}, Vals xs us → Vals ys ws → Vals (xs ++ ys) (us ++ ws)
  | _, _, _, _, .nil, s => s
  | _, _, _, _, .cons r t, s => .cons r (Vals.append t s)
theorem Vals.take : ∀ {xs : List V} {us : List Value} (n : Nat), Vals xs us → Vals (xs.take n) (us.take n)
  | _, _, 0, _ => .nil
  | _, _, _ + 1, .nil => .nil
  | _, _, n + 1, .cons r t => .cons r (Vals.take n t)
theorem Vals.drop : ∀ {xs : List V} {us : List Value} (n : Nat), Vals xs us → Vals (xs.drop n) (us.drop n)
  | _, _, 0, r => r
  | _, _, _ + 1, .nil => .nil
  | _, _, n + 1, .cons _ t => Vals.drop n t
def RelO : Option V → Option Value → Prop
  | some v, some u => RelV v u
  | none, none => True
  | _, _ => False
def KV {κ : Type} : List (κ × V) → List (κ × Value) → Prop := Paired fun (p : κ × V) (q : κ × Value) => p.1 = q.1 ∧ RelV p.2 q.2
def kV : Key → V
  | .inl i => .int i
  | .inr x => .str x
inductive HO where
    | lst (xs : List V)
    | tup (xs : List V)
    | dK (kvs : List (Key × V)) | dT (kvs : List (List Key × V))
    | set (S : Int → Bool) (n : Nat)
    | ins (C dx : Addr) (fs : List (Str × V))
    | own (x : Addr)
    | xd (fs : List (Str × V))
    | met (f x : Addr)
    | rng (lo hi : Int)
    | frz (o : Obj) (u : HO)
    | tbl (ps : Array Value)
    | ext (φ : Heap → Prop)
  | memo (φ : Int → List Int → Int → Prop) (ks : List PKey)
abbrev Hp := Addr → Option HO
def upd (H : Hp) (a : Addr) (o : HO) : Hp := fun b => if b = a then some o else H b
theorem upd_same {H : Hp} {a : Addr} {o : HO} : upd H a o a = some o := by unfold upd; rw [if_pos rfl]
theorem upd_ne {H : Hp} {a b : Addr} {o : HO} (h : b ≠ a) : upd H a o b = H b := by unfold upd; rw [if_neg h]
theorem upd_upd {H : Hp} {a : Addr} {o u : HO} : upd (upd H a o) a u = upd H a u := by
  funext b; unfold upd; split <;> rfl
theorem ne_of_none {H : Hp} {a b : Addr} {o : HO} (h : H a = some o) (h' : H b = none) : a ≠ b := by
  intro e; subst e; rw [h] at h'; cases h'
def boxK (k : PKey) : Bool := decide (0 ≤ k.1) && decide (k.1 < 8) && decide (k.2.length ≤ 5) && k.2.all fun e => decide (0 ≤ e) && decide (e < 7)
def MemoAt (H : Hp) (φ : Int → List Int → Int → Prop) (x : PKey × Addr × Value) : Prop := ∃ b n t, H x.2.1 = some (.tup [.int x.1.1, .ref b]) ∧ H b = some (.tup (x.1.2.map V.int)) ∧ x.2.2 = .int n t ∧ φ x.1.1 x.1.2 n ∧ boxK x.1 = true
section
variable (P : Program) (w : World)
def ObjOk (H : Hp) (h : Heap) (a : Addr) : HO → Prop
  | .lst xs => xs.length ≤ sizeLine ∧ ∃ (its : List Value) (n : Nat), Vals xs its ∧ h.get? a = some { cls := .type "list", data := .seq its.toArray n }
  | .tup xs => xs.length ≤ sizeLine ∧ ∃ its : List Value, Vals xs its ∧ IsTup h a its.toArray
  | .dK kvs => kvs.length ≤ sizeLine ∧ (a == sysModules) = false ∧ ∃ vs, KV kvs vs ∧ h.DictOf (mixKind P w) a vs
  | .dT kvs => kvs.length ≤ sizeLine ∧ (a == sysModules) = false ∧ ∃ xs : List (List Key × Addr × Value),
      Paired (fun (p : List Key × V) (q : List Key × Addr × Value) => p.1 = q.1 ∧ H q.2.1 = some (.tup (p.1.map kV)) ∧ RelV p.2 q.2.2) kvs xs ∧
      ∃ o es ep, h.get? a = some o ∧ o.ExactDict ∧ o.data = .dict es ep ∧ es.toList = xs.map (entryOfKey (tupleKind (mixKind P w))) ∧ (xs.map (·.1)).Nodup
  | .set S n => h.SetOf (intKind P w) a S n
  | .ins C dx fs => H dx = some (.own a) ∧ fs.length ≤ 1000 ∧ dx ≠ a ∧ h.get? a = some (PySem.W.instObj C dx) ∧
      ∃ mA, h.Ns1 dx mA ∧ (∀ f, RelO (fs.lookup f) (mA f)) ∧ PySem.Within mA (fs.map (·.1))
  | .own _ => ∃ o, h.get? a = some o
  | .xd fs => ∃ mA, h.Ns1 a mA ∧ ∀ f, RelO (fs.lookup f) (mA f)
  | .rng lo hi => ∃ t u v, h.get? a = some { cls := .type "range", data := .fields #[.int lo t, .int hi u, .int 1 v] }
  | .frz o u => h.get? a = some o ∧ ObjOk H h a u
  | .tbl ps => h.get? a = some { cls := .none, data := .fields ps }
  | .met f x => h.get? a = some (PySem.W.methodObj (.ref f) (.ref x))
  | .memo φ ks => (a == sysModules) = false ∧ ∃ xs : List (PKey × Addr × Value), (∀ x ∈ xs, MemoAt H φ x) ∧ (∀ k ∈ ks, k ∈ xs.map (·.1)) ∧
      ∃ o es ep, h.get? a = some o ∧ o.ExactDict ∧ o.data = .dict es ep ∧ es.toList = xs.map (entryOfKey (pairKind P w)) ∧ (xs.map (·.1)).Nodup
  | .ext φ => φ h ∧ (∃ o, h.get? a = some o) ∧ ∀ h1 h2 : Heap, φ h1 → (∀ o, h1.get? a = some o → h2.get? a = some o) → φ h2
def HOk (H : Hp) (h : Heap) : Prop := ∀ a o, H a = some o → ObjOk P w H h a o
end
section
variable {P : Program} {w : World} {H H' : Hp} {h h' : Heap} {a : Addr} {o : HO}
theorem ObjOk.lt (x : ObjOk P w H h a o) : a < h.objs.size := by
  cases o with
  | lst xs => obtain ⟨_, _, _, _, e⟩ := x; exact Heap.lt_size e
  | tup xs => obtain ⟨_, _, _, p⟩ := x; exact p.lt
  | dK kvs => obtain ⟨_, _, _, _, o, _, _, e, _⟩ := x; exact Heap.lt_size e
  | dT kvs => obtain ⟨_, _, _, _, o, _, _, e, _⟩ := x; exact Heap.lt_size e
  | set S n => obtain ⟨o, _, _, _, e, _⟩ := x; exact Heap.lt_size e
  | ins C dx fs => obtain ⟨_, _, _, e, _⟩ := x; exact Heap.lt_size e
  | own y => obtain ⟨_, e⟩ := x; exact Heap.lt_size e
  | xd fs => obtain ⟨_, ⟨_, _, _, e, _⟩, _⟩ := x; exact Heap.lt_size e
  | rng lo hi => obtain ⟨_, _, _, e⟩ := x; exact Heap.lt_size e
  | frz ob u => obtain ⟨e, _⟩ := x; exact Heap.lt_size e
  | tbl ps => exact Heap.lt_size (show h.get? a = some _ from x)
  | met f y => exact Heap.lt_size (show h.get? a = some _ from x)
  | ext φ => obtain ⟨_, ⟨_, e⟩, _⟩ := x; exact Heap.lt_size e
  | memo φ ks => obtain ⟨_, _, _, _, _, _, _, e, _⟩ := x; exact Heap.lt_size e
theorem Paired.mapP {α β : Type} {F G : α → β → Prop} : ∀ {l₁ : List α} {l₂ : List β}, Paired F l₁ l₂ → (∀ a b, F a b → G a b) → Paired G l₁ l₂
  | _, _, .nil, _ => .nil
  | _, _, .cons r t, f => .cons (f _ _ r) (Paired.mapP t f)
theorem ObjOk.stay (x : ObjOk P w H h a o) (k : ∀ b u, (b = a ∨ H b = some (.own a)) → h.get? b = some u → h'.get? b = some u)
    (ho : ∀ b, H b = some (.own a) → H' b = some (.own a)) (ht : ∀ b xs, H b = some (.tup xs) → H' b = some (.tup xs)) : ObjOk P w H' h' a o := by
  induction o with
  | lst xs => obtain ⟨z, its, n, r, e⟩ := x; exact ⟨z, its, n, r, k _ _ (.inl rfl) e⟩
  | tup xs => obtain ⟨z, its, r, ob, e, c⟩ := x; exact ⟨z, its, r, ob, k _ _ (.inl rfl) e, c⟩
  | dK kvs => obtain ⟨z, y, vs, r, ob, es, ep, e, c⟩ := x; exact ⟨z, y, vs, r, ob, es, ep, k _ _ (.inl rfl) e, c⟩
  | dT kvs =>
    obtain ⟨z, y, xs, r, ob, es, ep, e, c⟩ := x
    exact ⟨z, y, xs, Paired.mapP r fun p q z => ⟨z.1, ht _ _ z.2.1, z.2.2⟩, ob, es, ep, k _ _ (.inl rfl) e, c⟩
  | set S n => obtain ⟨ob, es, ep, t, e, c⟩ := x; exact ⟨ob, es, ep, t, k _ _ (.inl rfl) e, c⟩
  | ins C dx fs =>
    obtain ⟨d, z, ne, e, mA, ⟨od, es, ep, e2, c⟩, r⟩ := x
    exact ⟨ho _ d, z, ne, k _ _ (.inl rfl) e, mA, ⟨od, es, ep, k _ _ (.inr d) e2, c⟩, r⟩
  | own y => obtain ⟨ob, e⟩ := x; exact ⟨ob, k _ _ (.inl rfl) e⟩
  | xd fs => obtain ⟨mA, ⟨od, es, ep, e, c⟩, r⟩ := x; exact ⟨mA, ⟨od, es, ep, k _ _ (.inl rfl) e, c⟩, r⟩
  | rng lo hi => obtain ⟨t, u, v, e⟩ := x; exact ⟨t, u, v, k _ _ (.inl rfl) e⟩
  | frz ob u ih => obtain ⟨e, q⟩ := x; exact ⟨k _ _ (.inl rfl) e, ih q⟩
  | tbl ps =>
    have e : h.get? a = some { cls := .none, data := .fields ps } := x
    show h'.get? a = some { cls := .none, data := .fields ps }
    exact k a _ (.inl rfl) e
  | met f y =>
    have e : h.get? a = some (PySem.W.methodObj (.ref f) (.ref y)) := x
    show h'.get? a = some (PySem.W.methodObj (.ref f) (.ref y))
    exact k a _ (.inl rfl) e
  | memo φ ks =>
    obtain ⟨y, xs, hx, hk, ob, es, ep, e, c⟩ := x
    exact ⟨y, xs, fun z hz => let ⟨b, n, t, q1, q2, q3⟩ := hx z hz; ⟨b, n, t, ht _ _ q1, ht _ _ q2, q3⟩, hk, ob, es, ep, k _ _ (.inl rfl) e, c⟩
  | ext φ => obtain ⟨p, ⟨o, e⟩, st⟩ := x; exact ⟨st _ _ p fun o q => k _ _ (.inl rfl) q, ⟨o, k _ _ (.inl rfl) e⟩, st⟩
theorem HOk.lt (x : HOk P w H h) (e : H a = some o) : a < h.objs.size := (x a o e).lt
theorem HOk.fresh (x : HOk P w H h) (e : h.objs.size ≤ a) : H a = none := by
  cases q : H a with
  | none => rfl
  | some u => exact absurd (Nat.lt_of_lt_of_le (x.lt q) e) (Nat.lt_irrefl _)
theorem HOk.kept (x : HOk P w H h) (k : ∀ b u, h.get? b = some u → h'.get? b = some u) : HOk P w H h' := fun a o e =>
  (x a o e).stay (fun b u _ q => k b u q) (fun _ q => q) fun _ _ q => q
theorem HOk.laid (x : HOk P w H h) (k : ∀ b u, h.get? b = some u → h'.get? b = some u) (hp : h.objs.size ≤ a) (new : ObjOk P w (upd H a o) h' a o) : HOk P w (upd H a o) h' := fun b u e => by
  have hn := x.fresh hp
  by_cases hb : b = a
  · subst hb; rw [upd_same] at e; cases e; exact new
  · rw [upd_ne hb] at e
    exact (x b u e).stay (fun c v _ q => k c v q) (fun c q => by rw [upd_ne (ne_of_none q hn)]; exact q) fun c xs q => by rw [upd_ne (ne_of_none q hn)]; exact q
end
def Rd (H : Hp) (a : Addr) (u : HO) : Prop := H a = some u ∨ ∃ o, H a = some (.frz o u)
theorem Rd.ok {P : Program} {w : World} {H : Hp} {h : Heap} {a : Addr} {u : HO} (r : Rd H a u) (x : HOk P w H h) : ObjOk P w H h a u := by
  rcases r with r | ⟨o, r⟩
  · exact x a u r
  · obtain ⟨_, q⟩ := x a _ r
    exact q
def Mut : Option HO → Prop
  | some (.lst _) => True
  | some (.dK _) => True
  | some (.dT _) => True
  | some (.set _ _) => True
  | some (.ins _ _ _) => True
  | some (.ext _) => True
  | some (.memo _ _) => True
  | _ => False
section
variable {P : Program} {w : World} {H : Hp} {h h' : Heap} {x e : Addr} {o' : HO}
theorem HOk.write (ok : HOk P w H h) (mu : Mut (H x)) (he : e = x ∨ H e = some (.own x)) (k : ∀ b u, b ≠ e → h.get? b = some u → h'.get? b = some u) (heo : ∃ u, h'.get? e = some u)
    (new : ObjOk P w (upd H x o') h' x o') : HOk P w (upd H x o') h' := fun b u q => by
  have nown : ∀ c y, H c = some (.own y) → c ≠ x := fun c y r z => by subst z; rw [r] at mu; exact mu
  have ntup : ∀ c xs, H c = some (.tup xs) → c ≠ x := fun c xs r z => by subst z; rw [r] at mu; exact mu
  by_cases hb : b = x
  · subst hb; rw [upd_same] at q; cases q; exact new
  · rw [upd_ne hb] at q
    by_cases hbe : b = e
    · have q' : H b = some (.own x) := by
        rcases he with z | z
        · exact absurd (hbe.trans z) hb
        · rw [hbe]; exact z
      rw [q] at q'; cases q'
      obtain ⟨v, hv⟩ := heo
      exact ⟨v, by rw [hbe]; exact hv⟩
    · refine (ok b u q).stay (fun c v hc r => k c v ?_ r) (fun c r => by rw [upd_ne (nown c b r)]; exact r) fun c xs r => by rw [upd_ne (ntup c xs r)]; exact r
      rcases hc with rfl | hc
      · exact hbe
      · rintro rfl
        rcases he with z | z
        · exact nown c b hc z
        · rw [hc] at z; cases z; exact hb rfl
end
structure Un (fs ex : List Addr) (H H' : Hp) (h h' : Heap) : Prop where
  keep : ∀ b o, h.get? b = some o → H b = none → b ∉ fs → b ∉ ex → h'.get? b = some o
  slot : ∀ b o, h.get? b = some o → H b = none → b ∈ fs → b ∉ ex → ∃ sl, h'.get? b = some { o with slots := sl }
  free : ∀ b o, h.get? b = some o → H b = none → b ∉ ex → H' b = none
  there : ∀ b o, h.get? b = some o → b ∉ ex → ∃ o', h'.get? b = some o'
  tups : ∀ b xs, H b = some (.tup xs) → H' b = some (.tup xs)
  frzs : ∀ b o u, H b = some (.frz o u) → H' b = some (.frz o u)
  tbls : ∀ b ps, H b = some (.tbl ps) → ∃ more, H' b = some (.tbl (ps ++ more))
section
variable {fs fs' ex ex' : List Addr} {H H1 H2 : Hp} {h h1 h2 h' : Heap} {a x e : Addr} {o : HO}
theorem Un.any (u : Un fs ex H H1 h h1) {b : Addr} {ob : Obj} (q : h.get? b = some ob) (n : H b = none) (hx : b ∉ ex) : ∃ sl, h1.get? b = some { ob with slots := sl } := by
  by_cases hb : b ∈ fs
  · exact u.slot b ob q n hb hx
  · exact ⟨ob.slots, u.keep b ob q n hb hx⟩
theorem Un.trans (a : Un fs ex H H1 h h1) (b : Un fs ex H1 H2 h1 h2) : Un fs ex H H2 h h2 where
  keep := fun c ob q n hc hx => b.keep c ob (a.keep c ob q n hc hx) (a.free c ob q n hx) hc hx
  slot := fun c ob q n hc hx => by
    obtain ⟨sl, e1⟩ := a.slot c ob q n hc hx
    obtain ⟨sl', e2⟩ := b.slot c _ e1 (a.free c ob q n hx) hc hx
    exact ⟨sl', e2⟩
  free := fun c ob q n hx => by
    obtain ⟨o', e1⟩ := a.there c ob q hx
    exact b.free c o' e1 (a.free c ob q n hx) hx
  there := fun c ob q hx => by
    obtain ⟨o', e1⟩ := a.there c ob q hx
    exact b.there c o' e1 hx
  tups := fun c xs q => b.tups c xs (a.tups c xs q)
  frzs := fun c ob xs q => b.frzs c ob xs (a.frzs c ob xs q)
  tbls := fun c ps q => by
    obtain ⟨m1, e1⟩ := a.tbls c ps q
    obtain ⟨m2, e2⟩ := b.tbls c _ e1
    exact ⟨m1 ++ m2, by rw [e2, Array.append_assoc]⟩
theorem Un.kept (k : ∀ b u, h.get? b = some u → h'.get? b = some u) : Un fs ex H H h h' :=
  ⟨fun b ob q _ _ _ => k b ob q, fun b ob q _ _ _ => ⟨ob.slots, k b ob q⟩, fun _ _ _ n _ => n, fun b ob q _ => ⟨ob, k b ob q⟩, fun _ _ q => q, fun _ _ _ q => q, fun _ ps q => ⟨#[], by rw [q]; simp⟩⟩
theorem Un.refl : Un fs ex H H h h := Un.kept fun _ _ q => q
theorem Un.laid (k : ∀ b u, h.get? b = some u → h'.get? b = some u) (hp : h.objs.size ≤ a) (hn : H a = none) : Un fs ex H (upd H a o) h h' where
  keep := fun b u q _ _ _ => k b u q
  slot := fun b u q _ _ _ => ⟨u.slots, k b u q⟩
  free := fun b u q n _ => by rw [upd_ne (Nat.ne_of_lt (Nat.lt_of_lt_of_le (Heap.lt_size q) hp))]; exact n
  there := fun b u q _ => ⟨u, k b u q⟩
  tups := fun b xs q => by rw [upd_ne (ne_of_none q hn)]; exact q
  frzs := fun b u xs q => by rw [upd_ne (ne_of_none q hn)]; exact q
  tbls := fun b ps q => ⟨#[], by rw [upd_ne (ne_of_none q hn), q]; simp⟩
theorem Un.write (mu : Mut (H x)) (he : e = x ∨ H e = some (.own x)) (k : ∀ b u, b ≠ e → h.get? b = some u → h'.get? b = some u) (heo : ∃ u, h'.get? e = some u) : Un fs ex H (upd H x o) h h' := by
  have hx : ∀ b, H b = none → b ≠ x := fun b n z => by subst z; rw [n] at mu; exact mu
  have hb : ∀ b, H b = none → b ≠ e := fun b n z => by
    subst z
    rcases he with r | r
    · exact hx b n r
    · rw [n] at r; cases r
  have hm : ∀ b u, H b = some u → ¬ Mut (some u) → b ≠ x := fun b u q nm z => by subst z; rw [q] at mu; exact nm mu
  refine ⟨fun b u q n _ _ => k b u (hb b n) q, fun b u q n _ _ => ⟨u.slots, k b u (hb b n) q⟩, fun b u q n _ => by rw [upd_ne (hx b n)]; exact n, fun b u q _ => ?_,
    fun b xs q => by rw [upd_ne (hm b _ q fun z => z)]; exact q, fun b u xs q => by rw [upd_ne (hm b _ q fun z => z)]; exact q, fun b ps q => ⟨#[], by rw [upd_ne (hm b _ q fun z => z), q]; simp⟩⟩
  by_cases hbe : b = e
  · subst hbe; exact heo
  · exact ⟨u, k b u hbe q⟩
theorem Un.mono (u : Un fs ex H H1 h h1) (hs : ∀ b ∈ fs, b ∈ fs') (hx : ∀ b ∈ ex, b ∈ ex') : Un fs' ex' H H1 h h1 :=
  ⟨fun b ob q n hb he => u.keep b ob q n (fun z => hb (hs b z)) fun z => he (hx b z), fun _ _ q n _ he => u.any q n fun z => he (hx _ z), fun b ob q n he => u.free b ob q n fun z => he (hx b z), fun b ob q he => u.there b ob q fun z => he (hx b z), u.tups, u.frzs, u.tbls⟩
end
def trk (h : Heap) (H : Hp) : List Addr := (List.range h.objs.size).filter fun a => (H a).isSome
def hidT (h : Heap) (H : Hp) : Heap := PySem.W.hideAll h (trk h H)
theorem hidT_size (h : Heap) (H : Hp) : (hidT h H).objs.size = h.objs.size := PySem.W.hideAll_size _ _
theorem hidT_get {h : Heap} {H : Hp} {b : Addr} {o : Obj} (e : h.get? b = some o) (n : H b = none) : (hidT h H).get? b = some o :=
  PySem.W.hideAll_get _ e fun hm => by
    have q : (H b).isSome = true := (List.mem_filter.mp hm).2
    rw [n] at q; simp at q
theorem of_hidT {h : Heap} {H : Hp} {b : Addr} {o : Obj} (e : (hidT h H).get? b = some o) : h.get? b = some o ∧ H b = none := by
  have e' : h.get? b = some o := PySem.W.of_hideAll (trk h H) e
  refine ⟨e', ?_⟩
  cases q : H b with
  | none => rfl
  | some x =>
    have hm : b ∈ trk h H := List.mem_filter.mpr ⟨List.mem_range.mpr (Heap.lt_size e'), by simp [q]⟩
    have z : (hidT h H).get? b = none := PySem.W.hideAll_none (trk h H) hm
    rw [z] at e; cases e
def allNews (g h : Heap) (L : Addr) : List (Addr × Obj) := (List.range h.objs.size).filterMap fun a => if a = L ∨ (g.get? a).isSome = true then none else (h.get? a).map fun o => (a, o)
def rest (g h : Heap) (L d : Addr) : List (Addr × Obj) := (allNews g h L).filter fun p => decide (p.1 ≠ d)
end L2
namespace L2
open PySem PySem.Spec PyProof.Rows
structure Mod (K : PySem.W.Frag) (mg : Str → Option Value) (base : Heap) : Prop where
  kin : K.In base
  glob : base.Ns mainGlobals mg
  blt : ∃ mb, base.Ns builtinsNs mb ∧ ∀ x : Str, x ≠ "__name__" → mb x = bootBuiltins x
  nolimit : base.NoLimit
structure Cx where
  prog : Program
  w : World
  K : PySem.W.Frag
  mg : Str → Option Value
  base : Heap
  A : Around
  N : List Str
  s₀ : Shared
  H₀ : Hp
  env : Env
  outer : List Env
  stack : List Env
  ex : List Addr
  fn : Str → Bool
  calm : Bool
  pn : List (Addr × Obj)
  xe : Value → Shared → Prop
def frs (l : List Env) : List Addr := l.filterMap (·.frame)
abbrev Cx.fs (X : Cx) : List Addr := frs X.outer
def Vis (sc : Scope) (x : Str) : Prop := sc.names.lookup x = some .local ∨ sc.names.lookup x = some .cell ∨ sc.names.lookup x = some .free
def Loc (sc : Scope) (x : Str) : Prop := sc.names.lookup x = some .local ∨ sc.names.lookup x = some .cell
def Look (env : Env) (h : Heap) (m : Str → Option Value) (x : Str) (u : Value) : Prop :=
  (env.kindOf x = some .local ∧ m x = some u) ∨ ((env.kindOf x = some .cell ∨ env.kindOf x = some .free) ∧ ∃ c, env.cells.lookup x = some c ∧ h.IsCell c (some u))
structure Cx.Ok (X : Cx) : Prop where
  mod : Mod X.K X.mg X.base
  kind : X.env.scope.kind = .function
  glob : X.env.globals = mainGlobals
  blt : X.env.builtins = builtinsNs
  above : X.s₀.heap.objs.size ≤ X.env.locals
  inj : ∀ x y c, X.env.cells.lookup x = some c → X.env.cells.lookup y = some c → x = y
  has : ∀ x, (X.env.kindOf x = some .cell ∨ X.env.kindOf x = some .free) → ∃ c, X.env.cells.lookup x = some c
  cab : ∀ x c, X.fn x = true → X.env.cells.lookup x = some c → X.s₀.heap.objs.size ≤ c
  hd : X.calm = true → X.A.handled = none
  frames : X.A.frames = some X.stack
  stk : X.stack = X.outer ∨ (X.stack = X.env :: X.outer ∧ X.env.frame = some X.env.locals)
  exf : ∀ b ∈ X.ex, b ≠ X.env.locals ∧ ∀ x c, X.env.cells.lookup x = some c → c ≠ b
  bs : ∀ b o, X.base.get? b = some o → X.s₀.heap.get? b = some o ∧ X.H₀ b = none
  bsz : X.base.objs.size ≤ X.s₀.heap.objs.size
  noex : ∀ b o, X.base.get? b = some o → b ∉ X.ex
  exfs : ∀ b ∈ X.ex, b ∉ X.fs
  funs : X.s₀.heap.FunFrames X.base X.outer
  frf : ∀ b ∈ X.fs, X.H₀ b = none
structure Inv (X : Cx) (pins : List (Addr × Obj)) (σ : List (Option V)) (H : Hp) (s : Shared) : Prop where
  ok : X.Ok
  os : s.os = X.s₀.os
  bare : AllBare s.gens
  base : Un X.fs X.ex X.H₀ H X.s₀.heap s.heap
  loc : ∃ m, s.heap.Ns X.env.locals m ∧ ∀ (i : Nat) (x : Str) (v : V), X.N[i]? = some x → σ[i]? = some (some v) → Vis X.env.scope x → ∃ u, RelV v u ∧ Look X.env s.heap m x u
  cell : ∀ x c, X.env.cells.lookup x = some c → ∃ v, s.heap.IsCell c v
  free : H X.env.locals = none
  freeC : ∀ x c, X.env.cells.lookup x = some c → H c = none
  pin : ∀ p ∈ X.pn ++ pins, s.heap.get? p.1 = some p.2 ∧ H p.1 = none ∧ p.1 ≠ X.env.locals ∧ p.1 ∉ X.fs ∧ ∀ v, p.2.data ≠ .cell v
  hok : HOk X.prog X.w H s.heap
  len : σ.length = X.N.length
section
variable {X : Cx} {pins : List (Addr × Obj)} {σ : List (Option V)} {H H' : Hp} {s : Shared} {h' : Heap}
theorem Cx.Ok.nofr (ok : X.Ok) {b : Addr} {o : Obj} (e : X.base.get? b = some o) : b ∉ X.fs := fun hb => by
  have := (ok.funs.mem hb).1
  rw [e] at this; cases this
theorem Inv.bs (I : Inv X pins σ H s) : ∀ b o, X.base.get? b = some o → s.heap.get? b = some o ∧ H b = none := fun b o e =>
  ⟨I.base.keep b o (I.ok.bs b o e).1 (I.ok.bs b o e).2 (I.ok.nofr e) (I.ok.noex b o e), I.base.free b o (I.ok.bs b o e).1 (I.ok.bs b o e).2 (I.ok.noex b o e)⟩
theorem Inv.bk (I : Inv X pins σ H s) : ∀ b o, X.base.get? b = some o → s.heap.get? b = some o := fun b o e => (I.bs b o e).1
theorem Inv.mod (I : Inv X pins σ H s) : Mod X.K X.mg X.base := I.ok.mod
theorem Inv.kIn (I : Inv X pins σ H s) : X.K.In s.heap := I.ok.mod.kin.keeps I.bk
theorem Inv.fr (I : Inv X pins σ H s) : ∃ m, Fr X.base X.env.locals s.heap m :=
  let ⟨m, hn, _⟩ := I.loc
  ⟨m, hn, I.bk, Nat.le_trans I.ok.bsz I.ok.above⟩
theorem Inv.lt (I : Inv X pins σ H s) : X.env.locals < s.heap.objs.size := let ⟨_, hn, _⟩ := I.loc; hn.lt
theorem Inv.sz (I : Inv X pins σ H s) : X.s₀.heap.objs.size ≤ s.heap.objs.size := Nat.le_trans I.ok.above (Nat.le_of_lt I.lt)
theorem Inv.nofs (I : Inv X pins σ H s) {a : Addr} (h : s.heap.objs.size ≤ a) : a ∉ X.fs := fun hb => by
  obtain ⟨_, o, ho, _⟩ := I.ok.funs.mem hb
  exact absurd (Nat.lt_of_lt_of_le (Heap.lt_size ho) (Nat.le_trans I.sz h)) (Nat.lt_irrefl _)
theorem Inv.cne (I : Inv X pins σ H s) : ∀ x c, X.env.cells.lookup x = some c → c ≠ X.env.locals := fun x c e z => by
  obtain ⟨v, o, ho, hd⟩ := I.cell x c e
  obtain ⟨m, ⟨o', es, ep, ho', hd', _⟩, _⟩ := I.loc
  rw [z, ho'] at ho; cases ho; rw [hd'] at hd; cases hd
theorem Inv.funs (I : Inv X pins σ H s) : s.heap.FunFrames X.base X.outer := by
  have all : ∀ (l : List Env), (∀ b ∈ frs l, b ∈ X.fs) → X.s₀.heap.FunFrames X.base l → s.heap.FunFrames X.base l := by
    intro l
    induction l with
    | nil => intro _ _; trivial
    | cons env r ih =>
      intro hs hl
      obtain ⟨hk, ⟨L, o, hf, hn, ho, hd⟩, hr⟩ := hl
      have hL : L ∈ X.fs := hs L (by unfold frs; rw [List.filterMap_cons, hf]; exact List.mem_cons_self)
      obtain ⟨sl, e⟩ := I.base.slot L o ho (I.ok.frf L hL) hL fun z => I.ok.exfs L z hL
      exact ⟨hk, ⟨L, _, hf, hn, e, hd⟩, ih (fun b hb => hs b (by unfold frs; rw [List.filterMap_cons, hf]; exact List.mem_cons_of_mem _ hb)) hr⟩
  exact all X.outer (fun _ hb => hb) I.ok.funs
theorem Inv.stack (I : Inv X pins σ H s) : s.heap.FunFrames X.base X.stack := by
  rcases I.ok.stk with e | ⟨e, hf⟩
  · rw [e]; exact I.funs
  · rw [e]
    obtain ⟨m, hn, _⟩ := I.loc
    refine .cons (by rw [I.ok.kind]; decide) hf hn ?_ I.funs
    exact Heap.get?_none_of_le (Nat.le_trans I.ok.bsz I.ok.above)
theorem Inv.stkSub (I : Inv X pins σ H s) : ∀ b ∈ frs X.stack, b ∈ X.env.locals :: X.fs := fun b hb => by
  rcases I.ok.stk with e | ⟨e, hf⟩
  · rw [e] at hb; exact List.mem_cons_of_mem _ hb
  · rw [e] at hb
    unfold frs at hb
    rw [List.filterMap_cons, hf] at hb
    exact hb
theorem Inv.stkFree (I : Inv X pins σ H s) : ∀ b ∈ frs X.stack, H b = none := fun b hb => by
  rcases List.mem_cons.mp (I.stkSub b hb) with e | hb
  · rw [e]; exact I.free
  · obtain ⟨_, o, ho, _⟩ := I.ok.funs.mem hb
    exact I.base.free b o ho (I.ok.frf b hb) fun z => I.ok.exfs b z hb
theorem Inv.step {g' : Array GenState} {t' : Nat} {d' : Drawn} {ch : List Addr} (I : Inv X pins σ H s)
    (hch : ∀ b ∈ ch, (b ∈ X.ex ∨ X.s₀.heap.objs.size ≤ b) ∧ b ≠ X.env.locals ∧ (∀ x c, X.env.cells.lookup x = some c → c ≠ b) ∧ ∀ p ∈ X.pn ++ pins, p.1 ≠ b)
    (keep : ∀ b o, b ≠ X.env.locals → b ∉ X.fs → b ∉ ch → s.heap.get? b = some o → H b = none → h'.get? b = some o)
    (slot : ∀ b o, b ≠ X.env.locals → b ∈ X.fs → b ∉ ch → s.heap.get? b = some o → H b = none → ∃ sl, h'.get? b = some { o with slots := sl }) (free : ∀ b o, b ∉ ch → s.heap.get? b = some o → H b = none → H' b = none)
    (there : ∀ b o, b ∉ ch → s.heap.get? b = some o → ∃ o', h'.get? b = some o')
    (tups : ∀ b xs, H b = some (.tup xs) → H' b = some (.tup xs)) (frzs : ∀ b o u, H b = some (.frz o u) → H' b = some (.frz o u)) (tbls : ∀ b ps, H b = some (.tbl ps) → ∃ more, H' b = some (.tbl (ps ++ more)))
    (ns : ∀ m, s.heap.Ns X.env.locals m → h'.Ns X.env.locals m) (hok : HOk X.prog X.w H' h') (hg : AllBare g') :
    Inv X pins σ H' { s with heap := h', gens := g', drawn := d', toks := t' } := by
  have neL : ∀ b o, X.s₀.heap.get? b = some o → b ≠ X.env.locals := fun b o e => Nat.ne_of_lt (Nat.lt_of_lt_of_le (Heap.lt_size e) I.ok.above)
  have neC : ∀ b o, X.s₀.heap.get? b = some o → b ∉ X.ex → b ∉ ch := fun b o e hx hb => by
    rcases (hch b hb).1 with z | z
    · exact hx z
    · exact absurd (Nat.lt_of_lt_of_le (Heap.lt_size e) z) (Nat.lt_irrefl _)
  have cellK : ∀ x c, X.env.cells.lookup x = some c → ∀ v, s.heap.IsCell c v → h'.IsCell c v := fun x c e v ⟨o, ho, hd⟩ => by
    have nch : c ∉ ch := fun z => (hch c z).2.2.1 x c e rfl
    by_cases hc : c ∈ X.fs
    · obtain ⟨sl, q⟩ := slot c o (I.cne x c e) hc nch ho (I.freeC x c e)
      exact ⟨_, q, hd⟩
    · exact ⟨o, keep c o (I.cne x c e) hc nch ho (I.freeC x c e), hd⟩
  refine ⟨I.ok, I.os, hg, ⟨fun b o e n hb hx => ?_, fun b o e n hb hx => ?_, fun b o e n hx => ?_, fun b o e hx => ?_, fun b xs e => tups b xs (I.base.tups b xs e), fun b o xs e => frzs b o xs (I.base.frzs b o xs e), fun b ps e => ?_⟩, ?_, fun x c e => ?_, ?_, fun x c e => ?_, fun p hp => ?_, hok, I.len⟩
  · exact keep b o (neL b o e) hb (neC b o e hx) (I.base.keep b o e n hb hx) (I.base.free b o e n hx)
  · obtain ⟨sl, e1⟩ := I.base.slot b o e n hb hx
    obtain ⟨sl', e2⟩ := slot b _ (neL b o e) hb (neC b o e hx) e1 (I.base.free b o e n hx)
    exact ⟨sl', e2⟩
  · obtain ⟨o', e1⟩ := I.base.there b o e hx
    exact free b o' (neC b o e hx) e1 (I.base.free b o e n hx)
  · obtain ⟨o', e1⟩ := I.base.there b o e hx
    exact there b o' (neC b o e hx) e1
  · obtain ⟨m1, e1⟩ := I.base.tbls b ps e
    obtain ⟨m2, e2⟩ := tbls b _ e1
    exact ⟨m1 ++ m2, by rw [e2, Array.append_assoc]⟩
  · obtain ⟨m, hn, hl⟩ := I.loc
    refine ⟨m, ns m hn, fun i x v e1 e2 e3 => ?_⟩
    obtain ⟨u, r, l⟩ := hl i x v e1 e2 e3
    refine ⟨u, r, ?_⟩
    rcases l with l | ⟨k, c, e, z⟩
    · exact .inl l
    · exact .inr ⟨k, c, e, cellK x c e _ z⟩
  · obtain ⟨v, z⟩ := I.cell x c e
    exact ⟨v, cellK x c e v z⟩
  · obtain ⟨m, ⟨o, _, _, ho, _⟩, _⟩ := I.loc
    exact free _ o (fun z => (hch _ z).2.1 rfl) ho I.free
  · obtain ⟨v, o, ho, hd⟩ := I.cell x c e
    exact free c o (fun z => (hch c z).2.2.1 x c e rfl) ho (I.freeC x c e)
  · obtain ⟨e, n, ne, nf, d⟩ := I.pin p hp
    have nch : p.1 ∉ ch := fun z => (hch p.1 z).2.2.2 p hp rfl
    exact ⟨keep p.1 p.2 ne nf nch e n, free p.1 p.2 nch e n, ne, nf, d⟩
theorem Inv.un {t' : Nat} (I : Inv X pins σ H s) (u : Un X.fs [] H H' s.heap h') (hok : HOk X.prog X.w H' h') : Inv X pins σ H' { s with heap := h', toks := t' } := by
  obtain ⟨m, ⟨o, es, ep, ho, r⟩, _⟩ := id I.loc
  obtain ⟨sl, hL⟩ := u.any ho I.free (by simp)
  exact I.step (g' := s.gens) (d' := s.drawn) (ch := []) (fun _ z => nomatch z) (fun b o _ hb _ e n => u.keep b o e n hb (by simp)) (fun b o _ hb _ e n => u.slot b o e n hb (by simp)) (fun b o _ e n => u.free b o e n (by simp)) (fun b o _ e => u.there b o e (by simp)) u.tups u.frzs u.tbls (fun m' hm => by
    obtain ⟨o', es', ep', ho', r'⟩ := hm
    rw [ho] at ho'; cases ho'
    exact ⟨_, es', ep', hL, r'⟩) hok I.bare
theorem Inv.call {g' : Array GenState} {t' : Nat} {d' : Drawn} {ch : List Addr} (I : Inv X pins σ H s) (u : Un (frs X.stack) ch H H' s.heap h') (hok : HOk X.prog X.w H' h') (hg : AllBare g')
    (hch : ∀ b ∈ ch, (b ∈ X.ex ∨ X.s₀.heap.objs.size ≤ b) ∧ b ≠ X.env.locals ∧ (∀ x c, X.env.cells.lookup x = some c → c ≠ b) ∧ ∀ p ∈ X.pn ++ pins, p.1 ≠ b) :
    Inv X pins σ H' { s with heap := h', gens := g', drawn := d', toks := t' } := by
  obtain ⟨m, ⟨o, es, ep, ho, r⟩, _⟩ := id I.loc
  obtain ⟨sl, hL⟩ := u.any ho I.free fun z => (hch _ z).2.1 rfl
  exact I.step (ch := ch) hch (fun b o hL hb hc e n => u.keep b o e n (fun z => (List.mem_cons.mp (I.stkSub b z)).elim hL hb) hc) (fun b o _ _ hc e n => u.any e n hc) (fun b o hc e n => u.free b o e n hc) (fun b o hc e => u.there b o e hc) u.tups u.frzs u.tbls (fun m' hm => by
    obtain ⟨o', es', ep', ho', r'⟩ := hm
    rw [ho] at ho'; cases ho'
    exact ⟨_, es', ep', hL, r'⟩) hok hg
theorem Inv.turned {t' : Nat} {it : Addr} (I : Inv X pins σ H s) (k : ∀ b o, b ≠ it → s.heap.get? b = some o → h'.get? b = some o) (hn : H it = none) (hL : it ≠ X.env.locals)
    (h1 : it ∈ X.ex ∨ X.s₀.heap.objs.size ≤ it) (h2 : ∀ x c, X.env.cells.lookup x = some c → c ≠ it) (h3 : ∀ p ∈ X.pn ++ pins, p.1 ≠ it) : Inv X pins σ H { s with heap := h', toks := t' } := by
  have nit : ∀ b u, H b = some u → b ≠ it := fun b u e z => by rw [z, hn] at e; cases e
  refine I.step (g' := s.gens) (d' := s.drawn) (ch := [it]) (fun b hb => ?_) (fun b o _ _ hc e _ => k b o (fun z => hc (by simp [z])) e) (fun b o _ _ hc e _ => ⟨o.slots, k b o (fun z => hc (by simp [z])) e⟩) (fun _ _ _ _ n => n)
    (fun b o hc e => ⟨o, k b o (fun z => hc (by simp [z])) e⟩) (fun _ _ e => e) (fun _ _ _ e => e) (fun b ps e => ⟨#[], by rw [e]; simp⟩) (fun m hm => ?_) (fun b u e => ?_) I.bare
  · have e : b = it := by simpa using hb
    subst e
    exact ⟨h1, hL, h2, h3⟩
  · obtain ⟨o, es, ep, ho, r⟩ := hm
    exact ⟨o, es, ep, k _ o (Ne.symm hL) ho, r⟩
  · refine (I.hok b u e).stay (fun c v hc q => k c v ?_ q) (fun _ q => q) fun _ _ q => q
    rcases hc with z | z
    · rw [z]; exact nit b u e
    · exact nit c _ z
theorem Inv.tok (I : Inv X pins σ H s) (t : Nat) : Inv X pins σ H { s with toks := t } := I.un (h' := s.heap) (t' := t) Un.refl I.hok
theorem Inv.kept {t' : Nat} (I : Inv X pins σ H s) (k : ∀ b u, s.heap.get? b = some u → h'.get? b = some u) : Inv X pins σ H { s with heap := h', toks := t' } := I.un (Un.kept k) (I.hok.kept k)
theorem Inv.laid {a : Addr} {o : HO} {t' : Nat} (I : Inv X pins σ H s) (k : ∀ b u, s.heap.get? b = some u → h'.get? b = some u) (hp : s.heap.objs.size ≤ a) (new : ObjOk X.prog X.w (upd H a o) h' a o) :
    Inv X pins σ (upd H a o) { s with heap := h', toks := t' } := I.un (Un.laid k hp (I.hok.fresh hp)) (I.hok.laid k hp new)
theorem Inv.write {x e : Addr} {o : HO} {t' : Nat} (I : Inv X pins σ H s) (mu : Mut (H x)) (he : e = x ∨ H e = some (.own x)) (k : ∀ b u, b ≠ e → s.heap.get? b = some u → h'.get? b = some u) (heo : ∃ u, h'.get? e = some u)
    (new : ObjOk X.prog X.w (upd H x o) h' x o) : Inv X pins σ (upd H x o) { s with heap := h', toks := t' } := I.un (Un.write mu he k heo) (I.hok.write mu he k heo new)
theorem Inv.weak {σ' : List (Option V)} (I : Inv X pins σ H s) (hl : σ'.length = σ.length) (w : ∀ (i : Nat) v, σ'[i]? = some (some v) → σ[i]? = some (some v)) : Inv X pins σ' H s :=
  ⟨I.ok, I.os, I.bare, I.base, let ⟨m, hn, hl'⟩ := I.loc; ⟨m, hn, fun i x v e1 e2 e3 => hl' i x v e1 (w i v e2) e3⟩, I.cell, I.free, I.freeC, I.pin, I.hok, hl.trans I.len⟩
theorem Inv.pins_of {pins' : List (Addr × Obj)} (I : Inv X pins σ H s) (h : ∀ p ∈ pins', s.heap.get? p.1 = some p.2 ∧ H p.1 = none ∧ p.1 ≠ X.env.locals ∧ p.1 ∉ X.fs ∧ ∀ v, p.2.data ≠ .cell v) : Inv X pins' σ H s :=
  ⟨I.ok, I.os, I.bare, I.base, I.loc, I.cell, I.free, I.freeC, fun p hp => (List.mem_append.mp hp).elim (fun z => I.pin p (List.mem_append_left _ z)) (h p), I.hok, I.len⟩
theorem nodup_ix {N : List Str} (hN : N.Nodup) {i j : Nat} {x : Str} (a : N[i]? = some x) (b : N[j]? = some x) : i = j := by
  obtain ⟨h1, e1⟩ := List.getElem?_eq_some_iff.mp a
  obtain ⟨h2, e2⟩ := List.getElem?_eq_some_iff.mp b
  exact (List.getElem_inj hN).mp (e1.trans e2.symm)
theorem store_ok2 {M : Model} {A : Around} {E : Value → Shared → Prop} {i : Nat} {x : Str} {v : V} {u : Value} {Q : Unit → Shared → Prop} (I : Inv X pins σ H s) (hN : X.N.Nodup) (hi : X.N[i]? = some x) (hx : Loc X.env.scope x) (r : RelV v u)
    (h : ∀ s', Inv X pins (σ.set i (some v)) H s' → (∃ a, Heap.SameBut a s.heap s'.heap ∧ (a = X.env.locals ∨ X.env.cells.lookup x = some a)) → Q () s') (hf : X.fn x = true ∨ X.env.scope.names.lookup x = some .local := by first | exact .inl rfl | exact .inr rfl | assumption) : wpAny M A (storeName X.env x u) Q E s := by
  obtain ⟨m, hn, hl⟩ := id I.loc
  have hcls : (X.env.scope.kind == .class || (X.env.scope.kind == .module && X.env.locals != X.env.globals)) = false := by rw [I.ok.kind]; rfl
  have hiσ : i < σ.length := by rw [I.len]; exact (List.getElem?_eq_some_iff.mp hi).1
  have cne := I.cne
  have tracked : ∀ {a : Addr} {h' : Heap}, (∃ o, s.heap.get? a = some o ∧ H a = none) → Heap.SameBut a s.heap h' → HOk X.prog X.w H h' := fun {a h'} ha hs b ob e => by
    obtain ⟨_, _, hfree⟩ := ha
    refine (I.hok b ob e).stay (fun c w' hc q => (hs.2 c ?_).trans q) (fun _ q => q) fun _ _ q => q
    rintro rfl
    rcases hc with rfl | hc
    · rw [hfree] at e; cases e
    · rw [hfree] at hc; cases hc
  rcases hx with hk | hk
  · refine wpAny_storeName_local hk hn (fun h' hn' hs => ?_) hcls
    obtain ⟨oL, _, _, hoL, _⟩ := id hn
    refine h _ ⟨I.ok, I.os, I.bare, ⟨fun b o e n hb hx => ?_, fun b o e n hb hx => ?_, I.base.free, fun b o e hx => ?_, I.base.tups, I.base.frzs, I.base.tbls⟩, ⟨_, hn', fun j y v' e1 e2 e3 => ?_⟩, fun y c e => ?_, I.free, I.freeC, fun p hp => ?_, tracked ⟨oL, hoL, I.free⟩ hs, by simpa using I.len⟩ ⟨_, hs, .inl rfl⟩
    · exact (hs.2 b (Nat.ne_of_lt (Nat.lt_of_lt_of_le (Heap.lt_size e) I.ok.above))).trans (I.base.keep b o e n hb hx)
    · obtain ⟨sl, e1⟩ := I.base.slot b o e n hb hx
      exact ⟨sl, (hs.2 b (Nat.ne_of_lt (Nat.lt_of_lt_of_le (Heap.lt_size e) I.ok.above))).trans e1⟩
    · obtain ⟨o', e1⟩ := I.base.there b o e hx
      exact ⟨o', (hs.2 b (Nat.ne_of_lt (Nat.lt_of_lt_of_le (Heap.lt_size e) I.ok.above))).trans e1⟩
    · by_cases hj : j = i
      · subst hj
        rw [hi] at e1; cases e1
        rw [List.getElem?_set_self hiσ] at e2
        cases e2
        exact ⟨u, r, .inl ⟨hk, by simp⟩⟩
      · rw [List.getElem?_set_ne (Ne.symm hj)] at e2
        obtain ⟨u', r', q⟩ := hl j y v' e1 e2 e3
        refine ⟨u', r', ?_⟩
        rcases q with ⟨k, e⟩ | ⟨k, c, e, z⟩
        · refine .inl ⟨k, ?_⟩
          have : y ≠ x := fun e => hj (nodup_ix hN e1 (e ▸ hi))
          simp [this, e]
        · exact .inr ⟨k, c, e, z.sameBut hs (cne y c e)⟩
    · obtain ⟨w', z⟩ := I.cell y c e
      exact ⟨w', z.sameBut hs (cne y c e)⟩
    · obtain ⟨e, n, ne, nf, d⟩ := I.pin p hp
      exact ⟨(hs.2 p.1 ne).trans e, n, ne, nf, d⟩
  · have hfn : X.fn x = true := by
      rcases hf with z | z
      · exact z
      · rw [z] at hk; cases hk
    obtain ⟨c, hc⟩ := I.ok.has x (.inl hk)
    obtain ⟨w', z⟩ := I.cell x c hc
    refine wpAny_storeName_cell I.ok.kind hk hc z (fun h' hc' hs => ?_)
    obtain ⟨oc, hoc, hocd⟩ := id z
    refine h { s with heap := h' } ⟨I.ok, I.os, I.bare, ⟨fun b o e n hb hx => ?_, fun b o e n hb hx => ?_, I.base.free, fun b o e hx => ?_, I.base.tups, I.base.frzs, I.base.tbls⟩, ⟨m, hn.sameBut hs (Ne.symm (cne x c hc)), fun j y v' e1 e2 e3 => ?_⟩, fun y c' e => ?_, I.free, I.freeC, fun p hp => ?_, tracked ⟨oc, hoc, I.freeC x c hc⟩ hs, by simpa using I.len⟩ ⟨c, hs, .inr hc⟩
    · exact (hs.2 b (Nat.ne_of_lt (Nat.lt_of_lt_of_le (Heap.lt_size e) (I.ok.cab x c hfn hc)))).trans (I.base.keep b o e n hb hx)
    · obtain ⟨sl, e1⟩ := I.base.slot b o e n hb hx
      exact ⟨sl, (hs.2 b (Nat.ne_of_lt (Nat.lt_of_lt_of_le (Heap.lt_size e) (I.ok.cab x c hfn hc)))).trans e1⟩
    · obtain ⟨o', e1⟩ := I.base.there b o e hx
      exact ⟨o', (hs.2 b (Nat.ne_of_lt (Nat.lt_of_lt_of_le (Heap.lt_size e) (I.ok.cab x c hfn hc)))).trans e1⟩
    · by_cases hj : j = i
      · subst hj
        rw [hi] at e1; cases e1
        rw [List.getElem?_set_self hiσ] at e2
        cases e2
        exact ⟨u, r, .inr ⟨.inl hk, c, hc, hc'⟩⟩
      · rw [List.getElem?_set_ne (Ne.symm hj)] at e2
        obtain ⟨u', r', q⟩ := hl j y v' e1 e2 e3
        refine ⟨u', r', ?_⟩
        rcases q with q | ⟨k, c', e, z'⟩
        · exact .inl q
        · refine .inr ⟨k, c', e, z'.sameBut hs ?_⟩
          rintro rfl
          exact hj (nodup_ix hN e1 (I.ok.inj _ _ _ e hc ▸ hi))
    · by_cases hcc : c' = c
      · subst hcc; exact ⟨_, hc'⟩
      · obtain ⟨w2, z2⟩ := I.cell y c' e
        exact ⟨w2, z2.sameBut hs hcc⟩
    · obtain ⟨e, n, ne, nf, d⟩ := I.pin p hp
      refine ⟨(hs.2 p.1 ?_).trans e, n, ne, nf, d⟩
      intro q
      rw [q, hoc] at e
      have q' : oc = p.2 := Option.some.inj e
      exact d w' (by rw [← q']; exact hocd)
theorem store_ok {M : Model} {A : Around} {E : Value → Shared → Prop} {i : Nat} {x : Str} {v : V} {u : Value} {Q : Unit → Shared → Prop} (I : Inv X pins σ H s) (hN : X.N.Nodup) (hi : X.N[i]? = some x) (hx : Loc X.env.scope x) (r : RelV v u)
    (h : ∀ s', Inv X pins (σ.set i (some v)) H s' → Q () s') (hf : X.fn x = true ∨ X.env.scope.names.lookup x = some .local := by first | exact .inl rfl | exact .inr rfl | assumption) : wpAny M A (storeName X.env x u) Q E s :=
  store_ok2 I hN hi hx r (fun s' I' _ => h s' I') hf
theorem Inv.call' {s' : Shared} {ch : List Addr} (I : Inv X pins σ H s) (ho : s'.os = s.os) (u : Un (frs X.stack) ch H H' s.heap s'.heap) (hok : HOk X.prog X.w H' s'.heap) (hg : AllBare s'.gens)
    (hch : ∀ b ∈ ch, (b ∈ X.ex ∨ X.s₀.heap.objs.size ≤ b) ∧ b ≠ X.env.locals ∧ (∀ x c, X.env.cells.lookup x = some c → c ≠ b) ∧ ∀ p ∈ X.pn ++ pins, p.1 ≠ b) : Inv X pins σ H' s' := by
  obtain ⟨h', g', d', t', o'⟩ := s'
  have e : o' = s.os := ho
  subst e
  exact I.call (g' := g') (t' := t') (d' := d') u hok hg hch
end
abbrev XK := Value → Option Addr → Hp → Prop
abbrev St := List (Option V)
abbrev VK := V → Hp → Prop
abbrev TE := St → Hp → VK → Prop
abbrev TT := St → Hp → (Bool → Hp → Prop) → Prop
abbrev TA := St → Hp → (List V → Hp → Prop) → Prop
structure Ends where
  nx : St → Hp → Prop
  rt : VK
  bk : St → Hp → Prop := fun _ _ => False
  ct : St → Hp → Prop := fun _ _ => False
abbrev TS := Ends → St → Hp → Prop
def EP (X : Cx) (pins : List (Addr × Obj)) (σ : St) (Q : VK) (u : Value) (s' : Shared) : Prop := ∃ v H', Inv X pins σ H' s' ∧ RelV v u ∧ Q v H'
def TP (X : Cx) (pins : List (Addr × Obj)) (σ : St) (Q : Bool → Hp → Prop) (b : Bool) (s' : Shared) : Prop := ∃ H', Inv X pins σ H' s' ∧ Q b H'
def AP (X : Cx) (pins : List (Addr × Obj)) (σ : St) (Q : List V → Hp → Prop) (us : List Value) (s' : Shared) : Prop := ∃ vs H', Inv X pins σ H' s' ∧ Vals vs us ∧ Q vs H'
def SP (X : Cx) (pins : List (Addr × Obj)) (D : Ends) (f : Flow) (s' : Shared) : Prop :=
  match f with
  | .next => ∃ σ' H', Inv X pins σ' H' s' ∧ D.nx σ' H'
  | .brk => ∃ σ' H', Inv X pins σ' H' s' ∧ D.bk σ' H'
  | .cont => ∃ σ' H', Inv X pins σ' H' s' ∧ D.ct σ' H'
  | .ret u => ∃ v σ' H', Inv X pins σ' H' s' ∧ RelV v u ∧ D.rt v H'
def PE (X : Cx) (e : Expr) (t : TE) : Prop :=
  ∀ (pins : List (Addr × Obj)) (s : Shared) (σ : St) (H : Hp) (Q : VK), Inv X pins σ H s → t σ H Q → wpAny (model X.prog X.w) X.A (eval e X.env) (EP X pins σ Q) X.xe s
def PT (X : Cx) (e : Expr) (t : TT) : Prop :=
  ∀ (pins : List (Addr × Obj)) (s : Shared) (σ : St) (H : Hp) (Q : Bool → Hp → Prop), Inv X pins σ H s → t σ H Q → wpAny (model X.prog X.w) X.A (isTrue e X.env (eval e X.env)) (TP X pins σ Q) X.xe s
def PW (X : Cx) (e : Expr) (t : TT) : Prop :=
  ∀ (whole : Sem Value) (pins : List (Addr × Obj)) (s : Shared) (σ : St) (H : Hp) (Q : Bool → Hp → Prop), Inv X pins σ H s → t σ H Q → wpAny (model X.prog X.w) X.A (isTrue e X.env whole) (TP X pins σ Q) X.xe s
theorem PW.pt {X : Cx} {e : Expr} {t : TT} (h : PW X e t) : PT X e t := h _
def PA (X : Cx) (es : List Expr) (t : TA) : Prop :=
  ∀ (pos : Pos) (pins : List (Addr × Obj)) (s : Shared) (σ : St) (H : Hp) (Q : List V → Hp → Prop), Inv X pins σ H s → t σ H Q → wpAny (model X.prog X.w) X.A (spliced (backTo pos (starEach es X.env))) (AP X pins σ Q) X.xe s
def PS (X : Cx) (st : Stmt) (t : TS) : Prop :=
  ∀ (pins : List (Addr × Obj)) (s : Shared) (σ : St) (H : Hp) (D : Ends), Inv X pins σ H s → t D σ H → wpAny (model X.prog X.w) X.A (exec st X.env) (SP X pins D) X.xe s
def PSs (X : Cx) (st : List Stmt) (t : TS) : Prop :=
  ∀ (pins : List (Addr × Obj)) (s : Shared) (σ : St) (H : Hp) (D : Ends), Inv X pins σ H s → t D σ H → wpAny (model X.prog X.w) X.A (execs st X.env) (SP X pins D) X.xe s
theorem thn {α : Type} {t : Sem α} {Q Q' : α → Shared → Prop} {M : Model} {A : Around} {E : Value → Shared → Prop} {s : Shared} (h : wpAny M A t Q E s) (hQ : ∀ a s, Q a s → Q' a s) : wpAny M A t Q' E s := wpAny_mono h hQ fun _ _ x => x
end L2
namespace L2
open PySem PySem.Spec PyProof.Rows
section
variable {X : Cx}
theorem bin {a b : Expr} {ta tb : TE} (ha : PE X a ta) (hb : PE X b tb) {pins : List (Addr × Obj)} {s : Shared} {σ : St} {H : Hp} {R : V → V → Hp → Prop} (I : Inv X pins σ H s) (h : ta σ H fun x H1 => tb σ H1 fun y H2 => R x y H2)
    {α : Type} {Q : α → Shared → Prop} {f : Value → Value → Sem α}
    (hf : ∀ v u s2 x y H2, Inv X pins σ H2 s2 → RelV x v → RelV y u → R x y H2 → wpAny (model X.prog X.w) X.A (f v u) Q X.xe s2) :
    wpAny (model X.prog X.w) X.A (eval a X.env) (fun v s₁ => wpAny (model X.prog X.w) X.A (eval b X.env) (fun u s₂ => wpAny (model X.prog X.w) X.A (f v u) Q X.xe s₂) X.xe s₁) X.xe s := by
  refine thn (ha pins s σ H _ I h) fun v s1 ⟨x, H1, I1, r1, q1⟩ => ?_
  refine thn (hb pins s1 σ H1 _ I1 q1) fun u s2 ⟨y, H2, I2, r2, q2⟩ => ?_
  exact hf v u s2 x y H2 I2 r1 r2 q2
def tVar (i : Nat) : TE := fun σ H Q => ∃ v, σ[i]? = some (some v) ∧ Q v H
def tC (v : V) : TE := fun _ H Q => Q v H
theorem pe_var {i : Nat} {x : Str} {pos : Pos} (hN : X.N[i]? = some x) (hv : Vis X.env.scope x) (hd : (x == ("__debug__" : Str)) = false := by decide) (hcd : (x == ("__classdict__" : Str)) = false := by decide) : PE X (.Name x pos) (tVar i) := by
  intro pins s σ H Q I h
  obtain ⟨v, e, h⟩ := h
  obtain ⟨m, hn, hl⟩ := I.loc
  obtain ⟨u, r, l⟩ := hl i x v hN e hv
  have fin : EP X pins σ Q u s := ⟨v, H, I, r, h⟩
  rcases l with ⟨hk, hm⟩ | ⟨hk, c, hc, hcell⟩
  · exact wpAny_Name (wpAny_loadName_local I.ok.kind hk hn hm fin) hd
  · rcases hk with hk | hk
    · exact wpAny_Name (wpAny_loadName_cell I.ok.kind hk hc hcell fin) hd
    · exact wpAny_Name (wpAny_loadName_free I.ok.kind hk hc hcell fin hcd) hd
theorem pe_int {i j pos} : PE X (.Constant (.int i) j pos) (tC (.int i)) := fun _ _ _ H _ I h => wpAny_Constant_int ⟨.int i, H, I.tok _, ⟨_, rfl⟩, h⟩
theorem pe_bl {b j pos} : PE X (.Constant (.bool b) j pos) (tC (.bl b)) := fun _ _ _ H _ I h => Constant_bool ⟨.bl b, H, I, rfl, h⟩
theorem pe_non {j pos} : PE X (.Constant .none j pos) (tC .non) := fun _ _ _ H _ I h => Constant_none ⟨.non, H, I, rfl, h⟩
theorem pe_str {x j pos} : PE X (.Constant (.str x) j pos) (tC (.str x)) := fun _ _ _ H _ I h => Calls.Constant_str ⟨.str x, H, I.tok _, ⟨_, rfl⟩, h⟩
def Gl (X : Cx) (x : Str) : Prop := X.env.kindOf x = some .globalImplicit
theorem ld_glob {E : Value → Shared → Prop} {pins : List (Addr × Obj)} {s : Shared} {σ : St} {H : Hp} {x : Str} {u : Value} {pos : Pos} {Q : Value → Shared → Prop} (I : Inv X pins σ H s) (hg : Gl X x) (hm : X.mg x = some u) (h : Q u s)
    (hd : (x == ("__debug__" : Str)) = false := by decide) : wpAny (model X.prog X.w) X.A (eval (.Name x pos) X.env) Q E s :=
  Calls.Name_function_global I.ok.kind hg (Calls.loadGlobal_global (by rw [I.ok.glob]; exact I.mod.glob.keeps I.bk) hm h) hd
theorem ld_blt {E : Value → Shared → Prop} {pins : List (Addr × Obj)} {s : Shared} {σ : St} {H : Hp} {x : Str} {u : Value} {pos : Pos} {Q : Value → Shared → Prop} (I : Inv X pins σ H s) (hg : Gl X x) (hm : X.mg x = none) (hv : bootBuiltins x = some u) (h : Q u s)
    (hn : x ≠ "__name__" := by decide) (hd : (x == ("__debug__" : Str)) = false := by decide) : wpAny (model X.prog X.w) X.A (eval (.Name x pos) X.env) Q E s := by
  obtain ⟨mb, h1, h2⟩ := I.mod.blt
  exact Calls.Name_function_global I.ok.kind hg (Calls.loadGlobal_builtin (by rw [I.ok.glob]; exact I.mod.glob.keeps I.bk) hm (by rw [I.ok.blt]; exact h1.keeps I.bk) ((h2 x hn).trans hv) h) hd
theorem pe_glob {x : Str} {v : V} {u : Value} {pos : Pos} (hg : Gl X x) (hm : X.mg x = some u) (r : RelV v u) (hd : (x == ("__debug__" : Str)) = false := by decide) : PE X (.Name x pos) (tC v) :=
  fun _ _ _ H _ I h => ld_glob I hg hm ⟨v, H, I, r, h⟩ hd
theorem pe_bltn {x : Str} {v : V} {u : Value} {pos : Pos} (hg : Gl X x) (hm : X.mg x = none) (hv : bootBuiltins x = some u) (r : RelV v u) (hn : x ≠ "__name__" := by decide) (hd : (x == ("__debug__" : Str)) = false := by decide) : PE X (.Name x pos) (tC v) :=
  fun _ _ _ H _ I h => ld_blt I hg hm hv ⟨v, H, I, r, h⟩ hn hd
variable {a b : Expr} {ta tb : TE} {pos : Pos}
def PC (X : Cx) (op : CmpOp) (a b : Expr) (t : TE) : Prop :=
  ∀ (pins : List (Addr × Obj)) (s : Shared) (σ : St) (H : Hp) (Q : VK), Inv X pins σ H s → t σ H Q →
    wpAny (model X.prog X.w) X.A (eval a X.env) (fun v s₁ => wpAny (model X.prog X.w) X.A (eval b X.env) (fun u s₂ => wpAny (model X.prog X.w) X.A (compareOp op v u) (EP X pins σ Q) X.xe s₂) X.xe s₁) X.xe s
theorem nobehind (b : Expr) {op : CmpOp} (h : op ≠ .In) (h2 : op ≠ .NotIn) : behindInMarks op b = false := by
  have e1 : (op == CmpOp.In) = false := by cases op <;> first | rfl | exact absurd rfl h
  have e2 : (op == CmpOp.NotIn) = false := by cases op <;> first | rfl | exact absurd rfl h2
  cases b <;> simp [behindInMarks, e1, e2]
def tB (t : TE) : TT := fun σ H Q => t σ H fun x H1 => ∃ c, x = .bl c ∧ Q c H1
theorem pt_cmp {op : CmpOp} {t : TE} (h : PC X op a b t) (h1 : behindInMarks op b = false := by first | exact nobehind _ (by decide) (by decide) | rfl) : PT X (.Compare a [op] [b] pos) (tB t) := by
  intro pins s σ H Q I hw
  refine wpAny_isTrue_Compare1 (thn (h pins s σ H _ I hw) fun v s1 h1 => thn h1 fun u s2 h2 => thn h2 fun c s3 ⟨x, H1, I1, r1, q1⟩ => ?_) h1
  obtain ⟨d, rfl, q⟩ := q1
  cases r1
  exact wpAny_truthy_bool ⟨H1, I1, q⟩
theorem pt_val {e : Expr} {t : TE} (h : PE X e t) (he : ∀ whole, isTrue e X.env whole = (do let v ← whole; standAt e.pos; holding [v] (truthy v)) := by intro _; rfl) : PT X e (tB t) := by
  intro pins s σ H Q I hw
  refine isTrue_plain (thn (h pins s σ H _ I hw) fun v s1 ⟨x, H1, I1, r1, q1⟩ => ?_) (he _)
  obtain ⟨d, rfl, q⟩ := q1
  cases r1
  exact wpAny_truthy_bool ⟨H1, I1, q⟩
variable {tA tB' : TT} {rest : List Expr}
def tAnd (t u : TT) : TT := fun σ H Q => t σ H fun c H1 => if c = true then u σ H1 Q else Q false H1
def tOr (t u : TT) : TT := fun σ H Q => t σ H fun c H1 => if c = true then Q true H1 else u σ H1 Q
def tNot (t : TT) : TT := fun σ H Q => t σ H fun c H1 => Q (!c) H1
theorem pw_and1 (ha : PT X a tA) : PW X (.BoolOp .And [a] pos) tA := by
  intro wh pins s σ H Q I h
  refine isTrue_and (thn (ha pins s σ H Q I h) fun c s1 e => ?_)
  cases c with
  | true => exact isTrue_and_nil e
  | false => exact e
theorem pw_or1 (ha : PT X a tA) : PW X (.BoolOp .Or [a] pos) tA := by
  intro wh pins s σ H Q I h
  refine isTrue_or (thn (ha pins s σ H Q I h) fun c s1 e => ?_)
  cases c with
  | false => exact isTrue_or_nil e
  | true => exact e
theorem pw_and (ha : PT X a tA) (hb : PW X (.BoolOp .And (b :: rest) pos) tB') : PW X (.BoolOp .And (a :: b :: rest) pos) (tAnd tA tB') := by
  intro wh pins s σ H Q I h
  refine isTrue_and (thn (ha pins s σ H _ I h) fun c s1 ⟨H1, I1, q1⟩ => ?_)
  cases c with
  | true => exact hb wh pins s1 σ H1 Q I1 q1
  | false => exact ⟨H1, I1, q1⟩
theorem pw_or (ha : PT X a tA) (hb : PW X (.BoolOp .Or (b :: rest) pos) tB') : PW X (.BoolOp .Or (a :: b :: rest) pos) (tOr tA tB') := by
  intro wh pins s σ H Q I h
  refine isTrue_or (thn (ha pins s σ H _ I h) fun c s1 ⟨H1, I1, q1⟩ => ?_)
  cases c with
  | true => exact ⟨H1, I1, q1⟩
  | false => exact hb wh pins s1 σ H1 Q I1 q1
theorem pt_not (ha : PT X a tA) : PT X (.UnaryOp .Not a pos) (tNot tA) := by
  intro pins s σ H Q I h
  exact isTrue_not (ha pins s σ H (fun c H1 => Q (!c) H1) I h)
def tAndV (ta tb : TE) : TE := fun σ H Q => ta σ H fun x H1 => ∃ c, x = .bl c ∧ if c = true then tb σ H1 Q else Q (.bl false) H1
def tOrV (ta tb : TE) : TE := fun σ H Q => ta σ H fun x H1 => ∃ c, x = .bl c ∧ if c = true then Q (.bl true) H1 else tb σ H1 Q
def tNotV (ta : TE) : TE := fun σ H Q => ta σ H fun x H1 => ∃ c, x = .bl c ∧ Q (.bl (!c)) H1
theorem pe_one {op} {t : TE} (h : PE X a t) : PE X (.BoolOp op [a] pos) t := fun pins s σ H Q I hw => BoolOp_one (h pins s σ H Q I hw)
theorem pe_and (ha : PE X a ta) (hb : PE X (.BoolOp .And (b :: rest) pos) tb) : PE X (.BoolOp .And (a :: b :: rest) pos) (tAndV ta tb) := by
  intro pins s σ H Q I h
  refine BoolOp_and (thn (ha pins s σ H _ I h) fun v s1 ⟨x, H1, I1, r1, q1⟩ => ?_)
  obtain ⟨c, rfl, q1⟩ := q1
  cases r1
  refine wpAny_truthy_bool ?_
  cases c with
  | true => exact hb pins s1 σ H1 Q I1 q1
  | false => exact ⟨.bl false, H1, I1, rfl, q1⟩
theorem pe_or (ha : PE X a ta) (hb : PE X (.BoolOp .Or (b :: rest) pos) tb) : PE X (.BoolOp .Or (a :: b :: rest) pos) (tOrV ta tb) := by
  intro pins s σ H Q I h
  refine BoolOp_or (thn (ha pins s σ H _ I h) fun v s1 ⟨x, H1, I1, r1, q1⟩ => ?_)
  obtain ⟨c, rfl, q1⟩ := q1
  cases r1
  refine wpAny_truthy_bool ?_
  cases c with
  | false => exact hb pins s1 σ H1 Q I1 q1
  | true => exact ⟨.bl true, H1, I1, rfl, q1⟩
theorem pe_not (ha : PE X a ta) : PE X (.UnaryOp .Not a pos) (tNotV ta) := by
  intro pins s σ H Q I h
  refine UnaryOp_ (thn (ha pins s σ H _ I h) fun v s1 ⟨x, H1, I1, r1, q1⟩ => ?_)
  obtain ⟨c, rfl, q1⟩ := q1
  cases r1
  exact not_of (wpAny_truthy_bool ⟨.bl (!c), H1, I1, rfl, q1⟩)
end
end L2
namespace L2
open PySem PySem.Spec PyProof.Rows
def SqL (K : PySem.W.Frag) (H : Hp) (a : Addr) (xs : List V) : Prop :=
  Rd H a (.lst xs) ∨
    ∃ (o : Obj) (its : Array Value) (n : Nat), K.lookup a = some o ∧ o.cls = .type "list" ∧ o.dict = none ∧ o.data = .seq its n ∧ its.size ≤ sizeLine ∧ Vals xs its.toList
def SqT (K : PySem.W.Frag) (H : Hp) (a : Addr) (xs : List V) : Prop :=
  Rd H a (.tup xs) ∨
    ∃ (o : Obj) (its : Array Value) (n : Nat), K.lookup a = some o ∧ o.cls = .type "tuple" ∧ o.data = .seq its n ∧ its.size ≤ sizeLine ∧ Vals xs its.toList
def absV : Value → Option V
  | .none => some .non
  | .bool b => some (.bl b)
  | .int i _ => some (.int i)
  | .str x _ => some (.str x)
  | .bytes b _ => some (.byt b)
  | .float b _ => some (.flt b)
  | .ref a => some (.ref a)
  | .type n => some (.ty n)
  | _ => none
theorem RelV.abs {x : V} {u : Value} (r : RelV x u) : absV u = some x := by
  cases x with
  | non => cases r; rfl
  | bl _ => cases r; rfl
  | int _ => obtain ⟨t, rfl⟩ := r; rfl
  | str _ => obtain ⟨t, rfl⟩ := r; rfl
  | byt _ => obtain ⟨t, rfl⟩ := r; rfl
  | flt _ => obtain ⟨t, rfl⟩ := r; rfl
  | ref _ => cases r; rfl
  | ty _ => cases r; rfl
theorem RelV.inj {x y : V} {u : Value} (r : RelV x u) (q : RelV y u) : x = y := Option.some.inj (r.abs.symm.trans q.abs)
theorem Vals.inj : ∀ {xs ys : List V} {us : List Value}, Vals xs us → Vals ys us → xs = ys
  | _, _, _, .nil, .nil => rfl
  | _, _, _, .cons r t, .cons r' t' => by rw [r.inj r', Vals.inj t t']
section
variable {X : Cx} {pins : List (Addr × Obj)} {σ : St} {H : Hp} {s : Shared} {a : Addr} {xs ys : List V}
theorem SqL.of {K : PySem.W.Frag} (h : H a = some (.lst xs)) : SqL K H a xs := .inl (.inl h)
theorem SqT.of {K : PySem.W.Frag} (h : H a = some (.tup xs)) : SqT K H a xs := .inl (.inl h)
theorem Inv.list (I : Inv X pins σ H s) (h : SqL X.K H a xs) : ∃ its : List Value, Vals xs its ∧ PlainL s.heap a its.toArray ∧ xs.length ≤ sizeLine := by
  rcases h with h | ⟨o, its, n, hk, hc, hd, hs, hz, r⟩
  · obtain ⟨z, its, n, r, e⟩ := h.ok I.hok
    exact ⟨its, r, ⟨_, n, e, rfl, rfl, rfl⟩, z⟩
  · refine ⟨its.toList, r, ⟨o, n, I.kIn a o hk, hc, hd, by simpa using hs⟩, ?_⟩
    have e := r.length
    simp only [Array.length_toList] at e
    omega
theorem Inv.tuple (I : Inv X pins σ H s) (h : SqT X.K H a xs) : ∃ its : List Value, Vals xs its ∧ IsTup s.heap a its.toArray ∧ xs.length ≤ sizeLine := by
  rcases h with h | ⟨o, its, n, hk, hc, hs, hz, r⟩
  · obtain ⟨z, its, r, p⟩ := h.ok I.hok
    exact ⟨its, r, p, z⟩
  · refine ⟨its.toList, r, ⟨o, I.kIn a o hk, hc, n, by simpa using hs⟩, ?_⟩
    have e := r.length
    simp only [Array.length_toList] at e
    omega
theorem Inv.list_inj (I : Inv X pins σ H s) (h : SqL X.K H a xs) (h' : SqL X.K H a ys) : xs = ys := by
  obtain ⟨its, r, ⟨o, n, e, _, _, d⟩, _⟩ := I.list h
  obtain ⟨its', r', ⟨o', n', e', _, _, d'⟩, _⟩ := I.list h'
  rw [e] at e'; cases e'
  rw [d] at d'
  injection d' with d1 _
  have : its = its' := by simpa using congrArg Array.toList d1
  subst this
  exact r.inj r'
end
abbrev Cx.wish (X : Cx) (E : Value → Shared → Prop) : Cx := { X with xe := E }
abbrev Cx.nox (X : Cx) : Cx := X.wish fun _ _ => False
theorem Cx.Ok.wish {X : Cx} (ok : X.Ok) (E : Value → Shared → Prop) : (X.wish E).Ok :=
  ⟨ok.mod, ok.kind, ok.glob, ok.blt, ok.above, ok.inj, ok.has, ok.cab, ok.hd, ok.frames, ok.stk, ok.exf, ok.bs, ok.bsz, ok.noex, ok.exfs, ok.funs, ok.frf⟩
theorem Cx.Ok.unwish {X : Cx} {E : Value → Shared → Prop} (ok : (X.wish E).Ok) : X.Ok :=
  ⟨ok.mod, ok.kind, ok.glob, ok.blt, ok.above, ok.inj, ok.has, ok.cab, ok.hd, ok.frames, ok.stk, ok.exf, ok.bs, ok.bsz, ok.noex, ok.exfs, ok.funs, ok.frf⟩
section
variable {X : Cx} {pins : List (Addr × Obj)} {σ : St} {H : Hp} {s : Shared} {E : Value → Shared → Prop}
theorem Inv.wish (I : Inv X pins σ H s) (E : Value → Shared → Prop) : Inv (X.wish E) pins σ H s := ⟨I.ok.wish E, I.os, I.bare, I.base, I.loc, I.cell, I.free, I.freeC, I.pin, I.hok, I.len⟩
theorem Inv.unwish (I : Inv (X.wish E) pins σ H s) : Inv X pins σ H s := ⟨I.ok.unwish, I.os, I.bare, I.base, I.loc, I.cell, I.free, I.freeC, I.pin, I.hok, I.len⟩
theorem SP.unwish {D : Ends} {f : Flow} {s' : Shared} (h : SP (X.wish E) pins D f s') : SP X pins D f s' := by
  cases f with
  | next => obtain ⟨σ', H', I, q⟩ := h; exact ⟨σ', H', I.unwish, q⟩
  | brk => obtain ⟨σ', H', I, q⟩ := h; exact ⟨σ', H', I.unwish, q⟩
  | cont => obtain ⟨σ', H', I, q⟩ := h; exact ⟨σ', H', I.unwish, q⟩
  | ret u => obtain ⟨v, σ', H', I, r, q⟩ := h; exact ⟨v, σ', H', I.unwish, r, q⟩
theorem PT.nox {e : Expr} {t : TT} (h : PT X.nox e t) : PT X e t := fun pins s σ H Q I hw =>
  wpAny_mono (h pins s σ H Q (I.wish _) hw) (fun _ _ ⟨H', I', q⟩ => ⟨H', I'.unwish, q⟩) fun _ _ z => False.elim z
theorem PSs.nox {st : List Stmt} {t : TS} (h : PSs X.nox st t) : PSs X st t := fun pins s σ H D I hw =>
  wpAny_mono (h pins s σ H D (I.wish _) hw) (fun _ _ q => q.unwish) fun _ _ z => False.elim z
end
section
variable {X : Cx} {st : Stmt} {rest : List Stmt} {t u : TS} {e : Expr} {te : TE} {pos : Pos}
def tNext : TS := fun D σ H => D.nx σ H
def tSeq (t u : TS) : TS := fun D σ H => t { D with nx := u D } σ H
theorem pss_nil : PSs X [] tNext := fun _ _ σ H _ I h => wpAny_execs_nil ⟨σ, H, I, h⟩
theorem pss_cons (h1 : PS X st t) (h2 : PSs X rest u) : PSs X (st :: rest) (tSeq t u) := by
  intro pins s σ H D I h
  refine wpAny_execs_cons (thn (h1 pins s σ H { D with nx := u D } I h) fun f s1 q => ?_)
  cases f with
  | next =>
    obtain ⟨σ', H', I', q⟩ := q
    exact h2 pins s1 σ' H' D I' q
  | ret v => exact q
  | brk => exact q
  | cont => exact q
theorem pss_one (h1 : PS X st t) : PSs X [st] t := by
  intro pins s σ H D I h
  refine wpAny_execs_cons (thn (h1 pins s σ H D I h) fun f s1 q => ?_)
  cases f with
  | next => exact wpAny_execs_nil q
  | ret v => exact q
  | brk => exact q
  | cont => exact q
theorem Inv.quiet {pins : List (Addr × Obj)} {σ : St} {H : Hp} {s : Shared} (I : Inv X pins σ H s) : interactive X.env = false := by simp [interactive, I.ok.kind]
def tDrop (te : TE) : TS := fun D σ H => te σ H fun _ H1 => D.nx σ H1
theorem ps_expr (he : PE X e te) (hs : swapsWith e none pos.line X.env = pure false := by rfl) : PS X (.Expr e pos) (tDrop te) := by
  intro pins s σ H D I h
  exact wpAny_Expr_any (thn (he pins s σ H _ I h) fun v s1 ⟨x, H1, I1, r1, q1⟩ => ⟨σ, H1, I1, q1⟩) I.quiet hs
def tRet (te : TE) : TS := fun D σ H => te σ H D.rt
theorem ps_ret (he : PE X e te) : PS X (.Return (some e) pos) (tRet te) := by
  intro pins s σ H D I h
  exact wpAny_Return_some (thn (he pins s σ H _ I h) fun v s1 ⟨x, H1, I1, r1, q1⟩ => ⟨x, σ, H1, I1, r1, q1⟩)
def tRetN : TS := fun D _ H => D.rt .non H
def tIfS (c : TT) (t u : TS) : TS := fun D σ H => c σ H fun b H1 => if b = true then t D σ H1 else u D σ H1
theorem ps_if {c : Expr} {a b : List Stmt} {tc : TT} (hc : PT X c tc) (ha : PSs X a t) (hb : PSs X b u) : PS X (.If c a b pos) (tIfS tc t u) := by
  intro pins s σ H D I h
  refine wpAny_If (thn (hc pins s σ H _ I h) fun d s1 ⟨H1, I1, q1⟩ => ?_)
  cases d with
  | true => exact ha pins s1 σ H1 D I1 q1
  | false => exact hb pins s1 σ H1 D I1 q1
end
abbrev TG := V → St → Hp → (St → Hp → Prop) → Prop
abbrev TGs := List V → St → Hp → (St → Hp → Prop) → Prop
def PG (X : Cx) (target : Expr) (t : TG) : Prop :=
  ∀ (pins : List (Addr × Obj)) (s : Shared) (σ : St) (H : Hp) (v : V) (u : Value) (Q : St → Hp → Prop), Inv X pins σ H s → RelV v u → t v σ H Q →
    wpAny (model X.prog X.w) X.A (assign target X.env u) (fun _ s' => ∃ σ' H', Inv X pins σ' H' s' ∧ Q σ' H') X.xe s
def PGs (X : Cx) (ts : List Expr) (t : TGs) : Prop :=
  ∀ (pins : List (Addr × Obj)) (s : Shared) (σ : St) (H : Hp) (vs : List V) (us : List Value) (Q : St → Hp → Prop), Inv X pins σ H s → Vals vs us → t vs σ H Q →
    wpAny (model X.prog X.w) X.A (assignInOrder ((assignEach ts X.env).map (·.2)) us) (fun _ s' => ∃ σ' H', Inv X pins σ' H' s' ∧ Q σ' H') X.xe s
abbrev TSet := V → V → V → Hp → (Hp → Prop) → Prop
def PSet (X : Cx) (t : TSet) : Prop :=
  ∀ (pins : List (Addr × Obj)) (s : Shared) (σ : St) (H : Hp) (o i v : V) (ov iv u : Value) (Q : Hp → Prop), Inv X pins σ H s → RelV o ov → RelV i iv → RelV v u → t o i v H Q →
    wpAny (model X.prog X.w) X.A (setItem ov iv u) (fun _ s' => ∃ H', Inv X pins σ H' s' ∧ Q H') X.xe s
section
variable {X : Cx} {pos : Pos}
def gName (i : Nat) : TG := fun v σ H Q => Q (σ.set i (some v)) H
theorem pg_name {i : Nat} {x : Str} (hN : X.N.Nodup) (hi : X.N[i]? = some x) (hx : Loc X.env.scope x) (hf : X.fn x = true ∨ X.env.scope.names.lookup x = some .local := by first | exact .inl rfl | exact .inr rfl | assumption) : PG X (.Name x pos) (gName i) := by
  intro pins s σ H v u Q I r h
  exact wpAny_assign_Name (store_ok I hN hi hx r (fun s' I' => ⟨_, H, I', h⟩) hf)
def gNil : TGs := fun vs σ H Q => vs = [] ∧ Q σ H
def gCons (t : TG) (u : TGs) : TGs := fun vs σ H Q => ∃ v r, vs = v :: r ∧ t v σ H fun σ' H' => u r σ' H' Q
theorem pgs_nil : PGs X [] gNil := by
  intro pins s σ H vs us Q I r h
  obtain ⟨e, h⟩ := h
  subst e
  cases r
  exact assignInOrder_nil ⟨σ, H, I, h⟩
theorem pgs_cons {e : Expr} {es : List Expr} {t : TG} {u : TGs} (h1 : PG X e t) (h2 : PGs X es u)
    (hs : (assignEach (e :: es) X.env).map (·.2) = assign e X.env :: (assignEach es X.env).map (·.2) := by rfl) : PGs X (e :: es) (gCons t u) := by
  intro pins s σ H vs us Q I r h
  obtain ⟨v, vr, e1, h⟩ := h
  subst e1
  cases r with
  | cons r rr =>
    rw [hs]
    refine assignInOrder_cons (thn (h1 pins s σ H _ _ _ I r h) fun _ s1 ⟨σ1, H1, I1, q1⟩ => ?_)
    exact h2 pins s1 σ1 H1 _ _ Q I1 rr q1
def gTup (K : PySem.W.Frag) (n : Nat) (t : TGs) : TG := fun v σ H Q => ∃ a xs, v = .ref a ∧ SqT K H a xs ∧ xs.length = n ∧ t xs σ H Q
theorem pg_tup {es : List Expr} {k : Nat} {t : TGs} {n : Nat} (hc : X.calm = true) (h : PGs X es t)
    (hn : (assignEach es X.env).length = n := by rfl) (hst : (assignEach es X.env).findIdx? (·.1) = none := by rfl) : PG X (.Tuple es k pos) (gTup X.K n t) := by
  intro pins s σ H v u Q I r hw
  obtain ⟨a, xs, e1, hq, hl, hw⟩ := hw
  subst e1
  cases r
  obtain ⟨its, rv, ht, hz⟩ := I.tuple hq
  refine assign_Tuple_tuple (I.ok.hd hc) ht (by simp [hn, ← hl, rv.length]) hst fun h' hx => ?_
  have I1 : Inv X pins σ H { s with heap := h' } := I.kept (t' := s.toks) fun b o e => hx b o (Nat.ne_of_lt (Heap.lt_size e)) e
  exact h pins _ σ H xs _ Q I1 (by simpa using rv) hw
def gSub (to ti : TE) (t : TSet) : TG := fun v σ H Q => to σ H fun o H1 => ti σ H1 fun i H2 => t o i v H2 fun H3 => Q σ H3
theorem pg_sub {o i : Expr} {to ti : TE} {t : TSet} (ho : PE X o to) (hi : PE X i ti) (hs : PSet X t)
    (ha : ∀ v, assign (.Subscript o i pos) X.env v = (do
      let ov ← holding [v] (eval o X.env)
      let iv ← holding [v, ov] (eval i X.env)
      standAt pos
      holding [v, ov, iv] (setItem ov iv v)
      release [v, ov, iv] []) := by intro _; rfl) : PG X (.Subscript o i pos) (gSub to ti t) := by
  intro pins s σ H v u Q I r h
  rw [ha]
  refine wpAny_bind (wpAny_holding (thn (ho pins s σ H _ I h) fun ov s1 ⟨x, H1, I1, r1, q1⟩ => ?_))
  refine wpAny_bind (wpAny_holding (thn (hi pins s1 σ H1 _ I1 q1) fun iv s2 ⟨y, H2, I2, r2, q2⟩ => ?_))
  refine wpAny_bind (wpAny_standAt (wpAny_bind (wpAny_holding (thn (hs pins s2 σ H2 x y v ov iv u _ I2 r1 r2 r q2) fun _ s3 ⟨H3, I3, q3⟩ => ?_))))
  exact wpAny_release ⟨σ, H3, I3, q3⟩
def tAsg (te : TE) (g : TG) : TS := fun D σ H => te σ H fun x H1 => g x σ H1 D.nx
theorem ps_asg {tg e : Expr} {te : TE} {g : TG} (he : PE X e te) (hg : PG X tg g) (hs : swapsWithSole [tg] e pos.line X.env = pure false := by rfl) (hw : swappedStores [tg] e X.env = pure none := by rfl)
    (h1 : (assignEach [tg] X.env).map (·.2) = [assign tg X.env] := by rfl) : PS X (.Assign [tg] e pos) (tAsg te g) := by
  intro pins s σ H D I h
  refine wpAny_Assign_stores (thn (he pins s σ H _ I h) fun v s1 ⟨x, H1, I1, r1, q1⟩ => ?_) hs hw
  rw [h1]
  exact thn (hg pins s1 σ H1 x v _ I1 r1 q1) fun _ s2 q => q
theorem ps_set {i : Nat} {x : Str} {e : Expr} {te : TE} {pos' : Pos} (hN : X.N.Nodup) (hi : X.N[i]? = some x) (hx : Loc X.env.scope x) (he : PE X e te) (hs : swapsWith e (some (.Name x pos')) pos.line X.env = pure false := by rfl) (hf : X.fn x = true ∨ X.env.scope.names.lookup x = some .local := by first | exact .inl rfl | exact .inr rfl | assumption) :
    PS X (.Assign [.Name x pos'] e pos) (tAsg te (gName i)) := by
  intro pins s σ H D I h
  refine wpAny_Assign_Name (thn (he pins s σ H _ I h) fun v s1 ⟨y, H1, I1, r1, q1⟩ => ?_) hs
  exact store_ok I1 hN hi hx r1 (fun s2 I2 => ⟨_, H1, I2, q1⟩) hf
end
section
variable {X : Cx} {pos : Pos}
end
structure It where
  go : Nat → Hp → Prop
  yld : Nat → Hp → V → Hp → Prop
  stop : Nat → Hp → Prop
def FpOk (X : Cx) (pins : List (Addr × Obj)) (H : Hp) (b : Addr) : Prop :=
  H b = none ∧ b ≠ X.env.locals ∧ b ∉ X.fs ∧ (b ∈ X.ex ∨ X.s₀.heap.objs.size ≤ b) ∧ (∀ x c, X.env.cells.lookup x = some c → c ≠ b) ∧ ∀ p ∈ X.pn ++ pins, p.1 ≠ b
theorem Inv.fpOk {X : Cx} {pins : List (Addr × Obj)} {σ : St} {H H' : Hp} {s : Shared} {b : Addr} (I : Inv X pins σ H s) (hb : s.heap.objs.size ≤ b) (hn : H' b = none) : FpOk X pins H' b := by
  refine ⟨hn, Nat.ne_of_gt (Nat.lt_of_lt_of_le I.lt hb), I.nofs hb, .inr (Nat.le_trans I.sz hb), fun x c e z => ?_, fun p hp z => ?_⟩
  · obtain ⟨v, q⟩ := I.cell x c e
    exact absurd (Nat.lt_of_lt_of_le q.lt (by rw [z]; exact hb)) (Nat.lt_irrefl _)
  · exact absurd (Nat.lt_of_lt_of_le (Heap.lt_size (I.pin p hp).1) (by rw [z]; exact hb)) (Nat.lt_irrefl _)
structure Turn (P : Program) (w : World) (K : PySem.W.Frag) (tg : Expr) (J : It) (fp : List Addr) (it : Addr) (tn : Nat → Heap → Prop) : Prop where
  mem : it ∈ fp
  obj : ∀ i h, tn i h → ∀ b ∈ fp, ∃ o, h.get? b = some o ∧ ∀ v, o.data ≠ .cell v
  keep : ∀ i h h', tn i h → (∀ b ∈ fp, ∀ o, h.get? b = some o → h'.get? b = some o) → tn i h'
  item : ∀ (X : Cx), X.prog = P → X.w = w → X.K = K → X.calm = true → ∀ (i : Nat) (pins : List (Addr × Obj)) (s : Shared) (σ : St) (H : Hp) (E : Value → Shared → Prop), Inv X pins σ H s → (∀ b ∈ fp, FpOk X pins H b) → tn i s.heap → J.go i H →
    wpAny (model P w) X.A (pyNext (.ref it)) (fun r s1 => ∃ u, r = some u ∧
      wpAny (model P w) X.A (letOwnedTupleGo tg (.ref it) u) (fun _ s2 => ∃ x H', Inv X pins σ H' s2 ∧ RelV x u ∧ J.yld i H x H' ∧ tn (i + 1) s2.heap ∧ ∀ b ∈ fp, H' b = none) E s1) E s
  done : ∀ (X : Cx), X.prog = P → X.w = w → X.K = K → X.calm = true → ∀ (i : Nat) (pins : List (Addr × Obj)) (s : Shared) (σ : St) (H : Hp) (E : Value → Shared → Prop), Inv X pins σ H s → (∀ b ∈ fp, FpOk X pins H b) → tn i s.heap → J.stop i H →
    wpAny (model P w) X.A (pyNext (.ref it)) (fun r s1 => r = none ∧ Inv X pins σ H s1) E s
  self : ∀ (A : Around) (i : Nat) (s : Shared) (Q : Value → Shared → Prop) (E : Value → Shared → Prop), tn i s.heap → Q (.ref it) s → wpAny (model P w) A (pyIter (.ref it)) Q E s
abbrev TI := St → Hp → (It → Hp → Prop) → Prop
def PIE (X : Cx) (pins : List (Addr × Obj)) (σ : St) (tg : Expr) (R : It → Hp → Prop) (itv : Value) (s2 : Shared) : Prop :=
  ∃ (it : Addr) (fp : List Addr) (tn : Nat → Heap → Prop) (J : It) (H' : Hp), itv = .ref it ∧ Inv X pins σ H' s2 ∧ Turn X.prog X.w X.K tg J fp it tn ∧ tn 0 s2.heap ∧ (∀ b ∈ fp, FpOk X pins H' b) ∧ R J H'
def PI (X : Cx) (tg iter : Expr) (wi : TI) : Prop :=
  ∀ (pins : List (Addr × Obj)) (s : Shared) (σ : St) (H : Hp) (R : It → Hp → Prop), Inv X pins σ H s → wi σ H R →
    wpAny (model X.prog X.w) X.A (eval iter X.env) (fun v s1 => wpAny (model X.prog X.w) X.A (pyIter v) (PIE X pins σ tg R) X.xe s1) X.xe s
theorem go_of {M : Model} {A : Around} {E : Value → Shared → Prop} {s : Shared} {tg : Expr} {it : Addr} {u : Value} {o : Obj} {n : String} {vs : Array Value} {Q : Unit → Shared → Prop} (ho : s.heap.get? it = some o) (hc : o.cls = .type n) (hd : o.data = .fields vs)
    (hn : ["enumerate", "zip", "dict_itemiterator", "dict_reverseitemiterator", "odict_iterator", "itertools.zip_longest", "itertools.pairwise"].contains n = false) (hQ : Q () s) : wpAny M A (letOwnedTupleGo tg (.ref it) u) Q E s := by
  unfold letOwnedTupleGo
  cases tg <;> first
    | exact wpAny_pure hQ
    | (cases u <;> first
        | exact wpAny_pure hQ
        | (refine wpAny_bind (wpAny_load ho ?_)
           rw [hc, hd]
           show wpAny M A (if (["enumerate", "zip", "dict_itemiterator", "dict_reverseitemiterator", "odict_iterator", "itertools.zip_longest", "itertools.pairwise"].contains n && vs[0]? == some (rawInt _)) = true then _ else _) Q E s
           rw [if_neg (by intro h; rw [hn, Bool.false_and] at h; cases h)]
           exact wpAny_pure hQ))
def Itl (K : PySem.W.Frag) (a : Addr) : It :=
  ⟨fun i H => ∃ xs x, SqL K H a xs ∧ xs[i]? = some x, fun i H x H' => H' = H ∧ ∀ xs, SqL K H a xs → xs[i]? = some x, fun i H => ∃ xs, SqL K H a xs ∧ xs.length ≤ i⟩
def Itr (lo : Int) (n : Nat) : It := ⟨fun i _ => i < n, fun i H x H' => H' = H ∧ x = .int (lo + i), fun i _ => n ≤ i⟩
theorem turn_list {P : Program} {w : World} {K : PySem.W.Frag} {tg : Expr} (a it : Addr) : Turn P w K tg (Itl K a) [it] it (fun i h => h.IsListIter it a i) where
  mem := by simp
  obj := fun i h st b hb => by
    have e : b = it := by simpa using hb
    subst e
    obtain ⟨o, e, c, d⟩ := st
    exact ⟨o, e, fun v z => by rw [d] at z; cases z⟩
  keep := fun i h h' st k => st.at fun o e => k it (by simp) o e
  item := by
    intro X hP hw hK hc i pins s σ H E I hf st hg
    subst hP hw hK
    obtain ⟨xs, x, hq, hx⟩ := hg
    obtain ⟨its, rv, p, hz⟩ := I.list hq
    obtain ⟨u, hu, ru⟩ := rv.get hx
    obtain ⟨f0, f1, f2, f3, f4, f5⟩ := hf it (by simp)
    refine wpAny_pyNext_list_item st p.isList (x := u) (by simpa using hu) fun h' st' sb => ?_
    have I1 : Inv X pins σ H { s with heap := h' } := I.turned (t' := s.toks) (fun b o hb e => (sb.2 b hb).trans e) f0 f1 f3 f4 f5
    obtain ⟨o, e, c, d⟩ := id st'
    exact ⟨u, rfl, go_of (s := { s with heap := h' }) e c d (by decide) ⟨x, H, I1, ru, ⟨rfl, fun ys hy => by rw [I.list_inj hy hq]; exact hx⟩, st', fun b hb => (hf b hb).1⟩⟩
  done := by
    intro X hP hw hK hc i pins s σ H E I hf st hg
    subst hP hw hK
    obtain ⟨xs, hq, hx⟩ := hg
    obtain ⟨its, rv, p, hz⟩ := I.list hq
    obtain ⟨f0, f1, f2, f3, f4, f5⟩ := hf it (by simp)
    have hl := rv.length
    exact wpAny_pyNext_list_end (I.ok.hd hc) st p.isList (by simp; omega) fun h' eb => ⟨rfl, I.turned (t' := s.toks) (fun b o hb e => eb b o hb e) f0 f1 f3 f4 f5⟩
  self := fun _ _ _ _ _ st h => wpAny_pyIter_listiter st h
theorem turn_range {P : Program} {w : World} {K : PySem.W.Frag} {tg : Expr} (it : Addr) (lo : Int) (n : Nat) : Turn P w K tg (Itr lo n) [it] it (fun i h => IsRangeIter h it (lo + (i : Nat) * 1) ((n : Int) - (i : Nat)) 1) where
  mem := by simp
  obj := fun i h st b hb => by
    have e : b = it := by simpa using hb
    subst e
    exact ⟨_, st, fun v z => by
      have z' : Data.fields _ = Data.cell v := z
      cases z'⟩
  keep := fun i h h' st k => k it (by simp) _ st
  item := by
    intro X hP hw hK hc i pins s σ H E I hf st hg
    subst hP hw hK
    obtain ⟨f0, f1, f2, f3, f4, f5⟩ := hf it (by simp)
    have W := Walks.range (prog := X.prog) (w := X.w) (I.ok.hd hc) it lo 1 n
    refine W.item i s _ _ hg st fun v h' tk hv st' kk => ?_
    obtain ⟨t, rfl⟩ := hv
    have I1 : Inv X pins σ H { s with heap := h', toks := tk } := I.turned (fun b o hb e => kk b o (by simpa using hb) e) f0 f1 f3 f4 f5
    refine ⟨_, rfl, go_of (s := { s with heap := h', toks := tk }) (n := "range_iterator") st' rfl rfl (by decide) ⟨.int (lo + i), H, I1, ⟨t, ?_⟩, ⟨rfl, rfl⟩, st', fun b hb => (hf b hb).1⟩⟩
    rw [Int.mul_one]
  done := by
    intro X hP hw hK hc i pins s σ H E I hf st hg
    subst hP hw hK
    obtain ⟨f0, f1, f2, f3, f4, f5⟩ := hf it (by simp)
    exact wpAny_pyNext_range_end (I.ok.hd hc) st (by have : n ≤ i := hg; omega) fun h' eb => ⟨rfl, I.turned (t' := s.toks) (fun b o hb e => eb b o hb e) f0 f1 f3 f4 f5⟩
  self := fun _ _ _ _ _ st h => wpAny_pyIter_rangeiter st h
end L2
namespace L2
open PySem PySem.Spec PyProof.Rows
section
variable {X : Cx} {tg : Expr}
def iList (K : PySem.W.Frag) (tl : TE) : TI := fun σ H R => tl σ H fun x H1 => ∃ a, x = .ref a ∧ (∃ xs, SqL K H1 a xs) ∧ R (Itl K a) H1
theorem pi_list {l : Expr} {tl : TE} (hl : PE X l tl) : PI X tg l (iList X.K tl) := by
  intro pins s σ H R I h
  refine thn (hl pins s σ H _ I h) fun v s1 ⟨x, H1, I1, r1, q1⟩ => ?_
  obtain ⟨a, e, ⟨xs, hq⟩, q⟩ := q1
  subst e
  cases r1
  obtain ⟨its, rv, p, hz⟩ := I1.list hq
  refine wpAny_pyIter_list p.isList ?_
  refine ⟨s1.heap.objs.size, [s1.heap.objs.size], _, _, H1, rfl, I1.kept (t' := s1.toks) fun b o e => Heap.get?_push_of_some _ e, turn_list a _, ⟨_, Heap.get?_push_size _ rfl, rfl, rfl⟩, fun b hb => ?_, q⟩
  have e : b = s1.heap.objs.size := by simpa using hb
  subst e
  exact I1.fpOk (Nat.le_refl _) (I1.hok.fresh (Nat.le_refl _))
theorem range_it {pins : List (Addr × Obj)} {σ : St} {H : Hp} {s : Shared} {R : It → Hp → Prop} {E : Value → Shared → Prop} {lo hi : Int} {t u v : Tok} {tk : Nat} (I : Inv X pins σ H s) (h1 : -(2 ^ 62) ≤ lo) (h2 : lo < 2 ^ 62) (h3 : -(2 ^ 62) ≤ hi) (h4 : hi < 2 ^ 62)
    (q : R (Itr lo (hi - lo).toNat) H) : wpAny (model X.prog X.w) X.A (pyIter (.ref s.heap.objs.size)) (PIE X pins σ tg R) E { s with heap := s.heap.push { cls := .type "range", data := .fields #[.int lo t, .int hi u, .int 1 v] }, toks := tk } := by
  refine wpAny_pyIter_range (IsRange.new ..) (small_one h1 h2 h3 h4) ?_
  have I1 : Inv X pins σ H { s with heap := s.heap.push { cls := .type "range", data := .fields #[.int lo t, .int hi u, .int 1 v] }, toks := tk } := I.kept fun b o e => Heap.get?_push_of_some _ e
  refine ⟨(s.heap.push { cls := .type "range", data := .fields #[.int lo t, .int hi u, .int 1 v] }).objs.size, [(s.heap.push { cls := .type "range", data := .fields #[.int lo t, .int hi u, .int 1 v] }).objs.size], _, _, H, rfl,
    I1.kept (t' := tk) fun b o e => Heap.get?_push_of_some _ e, turn_range _ lo (hi - lo).toNat, ?_, fun b hb => ?_, q⟩
  · have e1 : lo + ((0 : Nat) : Int) * 1 = lo := by simp
    have e2 : (((hi - lo).toNat : Nat) : Int) - ((0 : Nat) : Int) = Builtin.Range.rangeSize lo hi 1 := by rw [rangeSize_one]; split <;> omega
    show IsRangeIter _ _ (lo + ((0 : Nat) : Int) * 1) ((((hi - lo).toNat : Nat) : Int) - ((0 : Nat) : Int)) 1
    rw [e1, e2]
    exact Heap.get?_push_size _ rfl
  · have e : b = (s.heap.push { cls := .type "range", data := .fields #[.int lo t, .int hi u, .int 1 v] }).objs.size := by simpa using hb
    subst e
    exact I1.fpOk (Nat.le_refl _) (I1.hok.fresh (Nat.le_refl _))
def iRng1 (ta : TA) : TI := fun σ H R => ta σ H fun vs H1 => ∃ j : Int, vs = [.int j] ∧ -(2 ^ 62) ≤ j ∧ j < 2 ^ 62 ∧ R (Itr 0 j.toNat) H1
theorem pi_range1 {a : Expr} {ta : TA} {p pos : Pos} (hg : Gl X "range") (hm : X.mg "range" = none) (ha : PA X [a] ta) (hs : starEach [a] X.env = [(false, eval a X.env)] := by rfl) : PI X tg (.Call (.Name "range" p) [a] [] pos) (iRng1 ta) := by
  intro pins s σ H R I h
  refine Call_ (ld_blt I hg hm boot_range (PyProof.Rows.callWith_type1 (thn (ha pos pins s σ H _ I h) fun us s1 ⟨vs, H1, I1, r1, q1⟩ => ?_) hs rfl))
  obtain ⟨j, e, q1, q2, q⟩ := q1
  subst e
  cases r1 with
  | cons r rr =>
    cases rr
    obtain ⟨t, rfl⟩ := r
    exact call_range_1 (range_it I1 (by omega) (by omega) q1 q2 (by simpa using q))
def tFor (wi : TI) (g : TG) (tb : TS) : TS := fun D σ H => wi σ H fun J H1 => ∃ W : Nat → Nat → St → Hp → Prop, (∃ m, W 0 m σ H1) ∧ ∀ i m σ H, W i m σ H →
  (J.stop i H ∧ D.nx σ H) ∨ (J.go i H ∧ ∃ N : St → Hp → Prop, (∀ σ' H', N σ' H' → ∃ m', m' < m ∧ W (i + 1) m' σ' H') ∧ ∀ x H', J.yld i H x H' → g x σ H' fun σ2 H2 => tb { D with nx := N, ct := N, bk := D.nx } σ2 H2)
def pinsAt (fp : List Addr) (h : Heap) : List (Addr × Obj) := fp.filterMap fun b => (h.get? b).map fun o => (b, o)
theorem mem_pinsAt {fp : List Addr} {h : Heap} {b : Addr} {o : Obj} (hb : b ∈ fp) (e : h.get? b = some o) : (b, o) ∈ pinsAt fp h := List.mem_filterMap.mpr ⟨b, hb, by rw [e]; rfl⟩
theorem of_pinsAt {fp : List Addr} {h : Heap} {p : Addr × Obj} (hp : p ∈ pinsAt fp h) : p.1 ∈ fp ∧ h.get? p.1 = some p.2 := by
  obtain ⟨b, hb, e⟩ := List.mem_filterMap.mp hp
  cases q : h.get? b with
  | none => rw [q] at e; cases e
  | some o =>
    rw [q] at e
    have e' : (b, o) = p := Option.some.inj e
    subst e'
    exact ⟨hb, q⟩
theorem Inv.pinned {pins : List (Addr × Obj)} {σ : St} {H : Hp} {s : Shared} {fp : List Addr} (I : Inv X pins σ H s) (hf : ∀ b ∈ fp, FpOk X pins H b) (ho : ∀ b ∈ fp, ∃ o, s.heap.get? b = some o ∧ ∀ v, o.data ≠ .cell v) : Inv X (pins ++ pinsAt fp s.heap) σ H s :=
  I.pins_of fun p hp => (List.mem_append.mp hp).elim (fun z => I.pin p (List.mem_append_right _ z)) fun z => by
    obtain ⟨hb, e⟩ := of_pinsAt z
    obtain ⟨f0, f1, f2, _⟩ := hf p.1 hb
    obtain ⟨o, e', d⟩ := ho p.1 hb
    rw [e] at e'; cases e'
    exact ⟨e, f0, f1, f2, d⟩
theorem Inv.unpinned {pins pl : List (Addr × Obj)} {σ : St} {H : Hp} {s : Shared} (I : Inv X (pins ++ pl) σ H s) : Inv X pins σ H s := I.pins_of fun p hp => I.pin p (List.mem_append_right _ (List.mem_append_left _ hp))
theorem ps_for {iter : Expr} {body : List Stmt} {wi : TI} {g : TG} {tb : TS} {pos : Pos} (hp : PassesOwn (model X.prog X.w) X.A X.env X.xe) (hc : X.calm = true) (hi : PI X tg iter wi) (hg : PG X tg g) (hb : PSs X body tb)
    (hs : ∀ x, foldedSetIterable iter X.env x = pure x := by intro _; rfl) : PS X (.For tg iter body [] pos) (tFor wi g tb) := by
  intro pins s σ H D I h
  refine wpAny_For (thn (hi pins s σ H _ I h) fun v s1 h1 => thn h1 fun itv s2 h2 => ?_) hs
  obtain ⟨it, fp, tn, J, H2, e, I2, T, st2, f2, W, ⟨m0, w0⟩, turn⟩ := h2
  subst e
  have stat : ∀ {H' : Hp}, (∀ b ∈ fp, H' b = none) → ∀ b ∈ fp, FpOk X pins H' b := fun hn b hb => ⟨hn b hb, (f2 b hb).2⟩
  refine codeAny_forLoop_any (fun n s' => ∃ i σ' H', Inv X pins σ' H' s' ∧ tn i s'.heap ∧ (∀ b ∈ fp, H' b = none) ∧ W i n σ' H') ?_ m0 ⟨0, σ, H2, I2, st2, fun b hb => (f2 b hb).1, w0⟩
  rintro n s3 ⟨i, σ3, H3, I3, st3, fr3, w3⟩
  rcases turn i n σ3 H3 w3 with ⟨stop, qn⟩ | ⟨go, N, hN, step⟩
  · refine wpAny_passesOwn hp (thn (T.done X rfl rfl rfl hc i pins s3 σ3 H3 X.xe I3 (stat fr3) st3 stop) fun r s4 ⟨hr, I4⟩ => ?_)
    subst hr
    exact wpAny_execs_nil ⟨σ3, H3, I4, qn⟩
  · refine wpAny_passesOwn hp (thn (T.item X rfl rfl rfl hc i pins s3 σ3 H3 X.xe I3 (stat fr3) st3 go) fun r s4 ⟨u, hr, h4⟩ => ?_)
    subst hr
    refine wpAny_passesOwn hp (thn h4 fun _ s5 ⟨x, H5, I5, r5, y5, st5, fr5⟩ => ?_)
    have I5' := I5.pinned (stat fr5) (T.obj _ _ st5)
    refine wpAny_passesOwn hp (thn (hg _ s5 σ3 H5 x u _ I5' r5 (step x H5 y5)) fun _ s6 ⟨σ6, H6, I6, q6⟩ => ?_)
    refine wpAny_passesOwn hp (thn (hb _ s6 σ6 H6 _ I6 q6) fun f s7 q7 => ?_)
    have again : ∀ {σ7 : St} {H7 : Hp}, Inv X (pins ++ pinsAt fp s5.heap) σ7 H7 s7 → N σ7 H7 → ∃ m, m < n ∧ ∃ i σ' H', Inv X pins σ' H' s7 ∧ tn i s7.heap ∧ (∀ b ∈ fp, H' b = none) ∧ W i m σ' H' := fun {σ7 H7} I7 n7 => by
      obtain ⟨m', hm, w7⟩ := hN σ7 H7 n7
      refine ⟨m', hm, i + 1, σ7, H7, I7.unpinned, T.keep _ _ _ st5 fun b hb o e => (I7.pin (b, o) (List.mem_append_right _ (List.mem_append_right _ (mem_pinsAt hb e)))).1, fun b hb => ?_, w7⟩
      obtain ⟨o, e, d⟩ := T.obj _ _ st5 b hb
      exact (I7.pin (b, o) (List.mem_append_right _ (List.mem_append_right _ (mem_pinsAt hb e)))).2.1
    cases f with
    | next => obtain ⟨σ7, H7, I7, n7⟩ := q7; exact again I7 n7
    | cont => obtain ⟨σ7, H7, I7, n7⟩ := q7; exact again I7 n7
    | brk => obtain ⟨σ7, H7, I7, q7⟩ := q7; exact ⟨σ7, H7, I7.unpinned, q7⟩
    | ret v => obtain ⟨x7, σ7, H7, I7, r7, q7⟩ := q7; exact ⟨x7, σ7, H7, I7.unpinned, r7, q7⟩
end
end L2
namespace L2
open PySem PySem.Spec PyProof.Rows
abbrev R2 := V → V → Hp → VK → Prop
def OpR (X : Cx) (f : Value → Value → Sem Value) (r : R2) : Prop :=
  ∀ (pins : List (Addr × Obj)) (s : Shared) (σ : St) (H : Hp) (x y : V) (v u : Value) (Q : VK), Inv X pins σ H s → RelV x v → RelV y u → r x y H Q →
    wpAny (model X.prog X.w) X.A (f v u) (EP X pins σ Q) X.xe s
def UnR (X : Cx) (f : Value → Sem Value) (r : V → Hp → VK → Prop) : Prop :=
  ∀ (pins : List (Addr × Obj)) (s : Shared) (σ : St) (H : Hp) (x : V) (v : Value) (Q : VK), Inv X pins σ H s → RelV x v → r x H Q →
    wpAny (model X.prog X.w) X.A (f v) (EP X pins σ Q) X.xe s
def CallR (X : Cx) (f : Value) (r : List V → Hp → VK → Prop) : Prop :=
  ∀ (pins : List (Addr × Obj)) (s : Shared) (σ : St) (H : Hp) (xs : List V) (us : List Value) (Q : VK), Inv X pins σ H s → Vals xs us → r xs H Q →
    wpAny (model X.prog X.w) X.A (call f us) (EP X pins σ Q) X.xe s
def tOp (r : R2) (ta tb : TE) : TE := fun σ H Q => ta σ H fun x H1 => tb σ H1 fun y H2 => r x y H2 Q
def tUn (r : V → Hp → VK → Prop) (ta : TE) : TE := fun σ H Q => ta σ H fun x H1 => r x H1 Q
def rI (C : Int → Int → Prop) (g : Int → Int → V) : R2 := fun x y H Q => ∃ i j, x = .int i ∧ y = .int j ∧ C i j ∧ Q (g i j) H
def rI0 (g : Int → Int → V) : R2 := fun x y H Q => ∃ i j, x = .int i ∧ y = .int j ∧ Q (g i j) H
def rU (g : Int → V) : V → Hp → VK → Prop := fun x H Q => ∃ i, x = .int i ∧ Q (g i) H
section
variable {X : Cx} {a b c : Expr} {ta tb tc : TE} {pos : Pos}
theorem binT (ha : PE X a ta) (hb : PE X b tb) {pins : List (Addr × Obj)} {s : Shared} {σ : St} {H : Hp} {R : V → V → Hp → Prop} (I : Inv X pins σ H s)
    (h : ta σ H fun x H1 => tb σ H1 fun y H2 => R x y H2) {Q : Value → Shared → Prop} {f : Value → Value → Sem Value}
    (hf : ∀ v u s2 x y H2, Inv X pins σ H2 s2 → RelV x v → RelV y u → R x y H2 → wpAny (model X.prog X.w) X.A (f v u) Q X.xe s2) :
    wpAny (model X.prog X.w) X.A (eval a X.env) (fun v s₁ => wpAny (model X.prog X.w) X.A (eval b X.env) (fun u s₂ => wpAny (model X.prog X.w) X.A (f v u) Q X.xe s₂) X.xe s₁) X.xe s := by
  refine thn (ha pins s σ H _ I h) fun v s1 ⟨x, H1, I1, r1, q1⟩ => ?_
  refine thn (hb pins s1 σ H1 _ I1 q1) fun u s2 ⟨y, H2, I2, r2, q2⟩ => ?_
  exact hf v u s2 x y H2 I2 r1 r2 q2
theorem pe_op {op : Operator} {r : R2} (ho : OpR X (binaryOp op) r) (ha : PE X a ta) (hb : PE X b tb) : PE X (.BinOp a op b pos) (tOp r ta tb) := by
  intro pins s σ H Q I h
  exact wpAny_BinOp (binT ha hb I h fun v u s2 x y H2 I2 rx ry q => ho pins s2 σ H2 x y v u Q I2 rx ry q)
theorem pe_un {op : UnaryOp} {r : V → Hp → VK → Prop} (ho : UnR X (unaryOp op) r) (ha : PE X a ta) : PE X (.UnaryOp op a pos) (tUn r ta) := by
  intro pins s σ H Q I h
  exact UnaryOp_ (thn (ha pins s σ H _ I h) fun v s1 ⟨x, H1, I1, r1, q1⟩ => ho pins s1 σ H1 x v Q I1 r1 q1)
theorem opI {f : Value → Value → Sem Value} {C : Int → Int → Prop} {g : Int → Int → Int}
    (rule : ∀ (i j : Int) (t u : Tok) (s : Shared) (Q : Value → Shared → Prop) (E : Value → Shared → Prop), C i j → Q (.int (g i j) s.toks) { s with toks := s.toks + 1 } → wpAny (model X.prog X.w) X.A (f (.int i t) (.int j u)) Q E s) :
    OpR X f (rI C fun i j => .int (g i j)) := by
  intro pins s σ H x y v u Q I rx ry h
  obtain ⟨i, j, rfl, rfl, hc, q⟩ := h
  obtain ⟨t, rfl⟩ := rx
  obtain ⟨t', rfl⟩ := ry
  exact rule i j t t' s _ _ hc ⟨.int (g i j), H, I.tok _, ⟨_, rfl⟩, q⟩
theorem opI0 {f : Value → Value → Sem Value} {g : Int → Int → Int}
    (rule : ∀ (i j : Int) (t u : Tok) (s : Shared) (Q : Value → Shared → Prop) (E : Value → Shared → Prop), Q (.int (g i j) s.toks) { s with toks := s.toks + 1 } → wpAny (model X.prog X.w) X.A (f (.int i t) (.int j u)) Q E s) :
    OpR X f (rI0 fun i j => .int (g i j)) := by
  intro pins s σ H x y v u Q I rx ry h
  obtain ⟨i, j, rfl, rfl, q⟩ := h
  obtain ⟨t, rfl⟩ := rx
  obtain ⟨t', rfl⟩ := ry
  exact rule i j t t' s _ _ ⟨.int (g i j), H, I.tok _, ⟨_, rfl⟩, q⟩
theorem opB0 {f : Value → Value → Sem Value} {g : Int → Int → Bool}
    (rule : ∀ (i j : Int) (t u : Tok) (s : Shared) (Q : Value → Shared → Prop) (E : Value → Shared → Prop), Q (.bool (g i j)) s → wpAny (model X.prog X.w) X.A (f (.int i t) (.int j u)) Q E s) :
    OpR X f (rI0 fun i j => .bl (g i j)) := by
  intro pins s σ H x y v u Q I rx ry h
  obtain ⟨i, j, rfl, rfl, q⟩ := h
  obtain ⟨t, rfl⟩ := rx
  obtain ⟨t', rfl⟩ := ry
  exact rule i j t t' s _ _ ⟨.bl (g i j), H, I, rfl, q⟩
def CPow (i j : Int) : Prop := 0 ≤ j ∧ j ≤ 1000000 ∧ i.natAbs < 2 ^ 64
theorem two_pow_nn (k : Nat) : (0 : Int) ≤ 2 ^ k := by
  rw [two_pow_cast]
  exact Int.natCast_nonneg _
theorem op_add : OpR X (binaryOp .Add) (rI0 fun i j => .int (i + j)) := opI0 fun _ _ _ _ _ _ _ q => add_int q
theorem op_sub : OpR X (binaryOp .Sub) (rI0 fun i j => .int (i - j)) := opI0 fun _ _ _ _ _ _ _ q => sub_int q
theorem op_mod : OpR X (binaryOp .Mod) (rI (fun _ j => 0 < j) fun i j => .int (i % j)) := opI fun i j _ _ _ _ _ hc q => by
  have h1 : (0 : Int) < j := hc
  exact mod_int' (by omega) (by rw [Int.fmod_eq_emod_of_nonneg i (by omega)]; exact q)
theorem op_pow : OpR X (binaryOp .Pow) (rI CPow fun i j => .int (i ^ j.toNat)) := opI fun _ _ _ _ _ _ _ hc q => pow_int_small hc.1 hc.2.1 hc.2.2 q
theorem op_shr : OpR X (binaryOp .RShift) (rI (fun _ j => 0 ≤ j) fun i j => .int (i / 2 ^ j.toNat)) := opI fun i j _ _ _ _ _ hc q =>
  rshift_int hc (by rw [Int.fdiv_eq_ediv_of_nonneg i (two_pow_nn _)]; exact q)
theorem op_and : OpR X (binaryOp .BitAnd) (rI0 fun i j => .int (Builtin.bitAnd i j)) := opI0 fun _ _ _ _ _ _ _ q => and_int q
theorem op_xor : OpR X (binaryOp .BitXor) (rI0 fun i j => .int (Builtin.bitXor i j)) := opI0 fun _ _ _ _ _ _ _ q => xor_int q
theorem unI {f : Value → Sem Value} {g : Int → Int}
    (rule : ∀ (i : Int) (t : Tok) (s : Shared) (Q : Value → Shared → Prop) (E : Value → Shared → Prop), Q (.int (g i) s.toks) { s with toks := s.toks + 1 } → wpAny (model X.prog X.w) X.A (f (.int i t)) Q E s) :
    UnR X f (rU fun i => .int (g i)) := by
  intro pins s σ H x v Q I rx h
  obtain ⟨i, rfl, q⟩ := h
  obtain ⟨t, rfl⟩ := rx
  exact rule i t s _ _ ⟨.int (g i), H, I.tok _, ⟨_, rfl⟩, q⟩
theorem un_neg : UnR X (unaryOp .USub) (rU fun i => .int (-i)) := unI fun _ _ _ _ _ q => neg_int q
end
def scal : V → V → Bool
  | .non, .non => true | .non, .int _ => true | .int _, .non => true | .non, .bl _ => true | .bl _, .non => true | .non, .str _ => true | .str _, .non => true
  | .int _, .int _ => true | .bl _, .bl _ => true | .str _, .str _ => true | .byt _, .byt _ => true
  | .int _, .str _ => true | .str _, .int _ => true | .bl _, .str _ => true | .str _, .bl _ => true
  | _, _ => false
def rEq : R2 := fun x y H Q => scal x y = true ∧ Q (.bl (decide (x = y))) H
def rNe : R2 := fun x y H Q => scal x y = true ∧ Q (.bl (!decide (x = y))) H
theorem dec_int {i j : Int} : decide (V.int i = V.int j) = (i == j) := by
  rw [Bool.eq_iff_iff]
  simp
theorem dec_bl {i j : Bool} : decide (V.bl i = V.bl j) = (i == j) := by
  rw [Bool.eq_iff_iff]
  simp
theorem dec_str {i j : Str} : decide (V.str i = V.str j) = (i == j) := by
  rw [Bool.eq_iff_iff]
  simp
theorem dec_byt {i j : Array UInt8} : decide (V.byt i = V.byt j) = (i.toList == j.toList) := by
  rw [Bool.eq_iff_iff]
  cases i
  cases j
  simp
section
variable {X : Cx} {a b c : Expr} {ta tb tc : TE} {pos : Pos}
theorem fin_bl {pins : List (Addr × Obj)} {σ : St} {H : Hp} {s : Shared} {Q : VK} {k k' : Bool} (I : Inv X pins σ H s) (q : Q (.bl k) H) (e : k = k') : EP X pins σ Q (.bool k') s := by
  subst e
  exact ⟨.bl k, H, I, rfl, q⟩
theorem op_eq : OpR X (compareOp .Eq) rEq := by
  intro pins s σ H x y v u Q I rx ry h
  obtain ⟨hs, q⟩ := h
  cases x with
  | non =>
    cases rx
    cases y with
    | non => cases ry; exact PySem.EqNone.eq_none_none (fin_bl I q (by simp))
    | bl j => cases ry; exact PySem.EqNone.eq_none_bool (fin_bl I q (by simp))
    | int j => obtain ⟨t', rfl⟩ := ry; exact PySem.EqNone.eq_none_int (fin_bl I q (by simp))
    | str j => obtain ⟨t', rfl⟩ := ry; exact PySem.EqNone.eq_none_str (fin_bl I q (by simp))
    | _ => exact absurd (show false = true from hs) Bool.false_ne_true
  | bl i =>
    cases rx
    cases y with
    | non => cases ry; exact PySem.EqNone.eq_bool_none (fin_bl I q (by simp))
    | bl j => cases ry; exact eq_bool (fin_bl I q dec_bl)
    | str j => obtain ⟨t', rfl⟩ := ry; exact PySem.EqMixed.eq_bool_str (fin_bl I q (by simp))
    | _ => exact absurd (show false = true from hs) Bool.false_ne_true
  | int i =>
    obtain ⟨t, rfl⟩ := rx
    cases y with
    | non => cases ry; exact PySem.EqNone.eq_int_none (fin_bl I q (by simp))
    | int j => obtain ⟨t', rfl⟩ := ry; exact eq_int (fin_bl I q dec_int)
    | str j => obtain ⟨t', rfl⟩ := ry; exact PySem.EqMixed.eq_int_str (fin_bl I q (by simp))
    | _ => exact absurd (show false = true from hs) Bool.false_ne_true
  | str i =>
    obtain ⟨t, rfl⟩ := rx
    cases y with
    | non => cases ry; exact PySem.EqNone.eq_str_none (fin_bl I q (by simp))
    | bl j => cases ry; exact PySem.EqMixed.eq_str_bool (fin_bl I q (by simp))
    | int j => obtain ⟨t', rfl⟩ := ry; exact PySem.EqMixed.eq_str_int (fin_bl I q (by simp))
    | str j => obtain ⟨t', rfl⟩ := ry; exact eq_str (fin_bl I q dec_str)
    | _ => exact absurd (show false = true from hs) Bool.false_ne_true
  | byt i =>
    obtain ⟨t, rfl⟩ := rx
    cases y with
    | byt j => obtain ⟨t', rfl⟩ := ry; exact PySem.W.eq_bytes (fin_bl I q dec_byt)
    | _ => exact absurd (show false = true from hs) Bool.false_ne_true
  | _ => cases y <;> exact absurd (show false = true from hs) Bool.false_ne_true
theorem op_ne : OpR X (compareOp .NotEq) rNe := by
  intro pins s σ H x y v u Q I rx ry h
  obtain ⟨hs, q⟩ := h
  cases x with
  | non =>
    cases rx
    cases y with
    | non => cases ry; exact PySem.EqNone.ne_none_none (fin_bl I q (by simp))
    | bl j => cases ry; exact PySem.EqNone.ne_none_bool (fin_bl I q (by simp))
    | int j => obtain ⟨t', rfl⟩ := ry; exact PySem.EqNone.ne_none_int (fin_bl I q (by simp))
    | str j => obtain ⟨t', rfl⟩ := ry; exact PySem.EqNone.ne_none_str (fin_bl I q (by simp))
    | _ => exact absurd (show false = true from hs) Bool.false_ne_true
  | bl i =>
    cases rx
    cases y with
    | non => cases ry; exact PySem.EqNone.ne_bool_none (fin_bl I q (by simp))
    | bl j => cases ry; exact ne_bool (fin_bl I q (congrArg not dec_bl))
    | str j => obtain ⟨t', rfl⟩ := ry; exact PySem.EqMixed.ne_bool_str (fin_bl I q (by simp))
    | _ => exact absurd (show false = true from hs) Bool.false_ne_true
  | int i =>
    obtain ⟨t, rfl⟩ := rx
    cases y with
    | non => cases ry; exact PySem.EqNone.ne_int_none (fin_bl I q (by simp))
    | int j => obtain ⟨t', rfl⟩ := ry; exact ne_int (fin_bl I q (congrArg not dec_int))
    | str j => obtain ⟨t', rfl⟩ := ry; exact PySem.EqMixed.ne_int_str (fin_bl I q (by simp))
    | _ => exact absurd (show false = true from hs) Bool.false_ne_true
  | str i =>
    obtain ⟨t, rfl⟩ := rx
    cases y with
    | non => cases ry; exact PySem.EqNone.ne_str_none (fin_bl I q (by simp))
    | bl j => cases ry; exact PySem.EqMixed.ne_str_bool (fin_bl I q (by simp))
    | int j => obtain ⟨t', rfl⟩ := ry; exact PySem.EqMixed.ne_str_int (fin_bl I q (by simp))
    | str j => obtain ⟨t', rfl⟩ := ry; exact ne_str (fin_bl I q (congrArg not dec_str))
    | _ => exact absurd (show false = true from hs) Bool.false_ne_true
  | byt i =>
    obtain ⟨t, rfl⟩ := rx
    cases y with
    | byt j => obtain ⟨t', rfl⟩ := ry; exact PySem.W.ne_bytes (fin_bl I q (congrArg not dec_byt))
    | _ => exact absurd (show false = true from hs) Bool.false_ne_true
  | _ => cases y <;> exact absurd (show false = true from hs) Bool.false_ne_true
theorem op_lt : OpR X (compareOp .Lt) (rI0 fun i j => .bl (decide (i < j))) := opB0 fun _ _ _ _ _ _ _ q => lt_int q
theorem op_le : OpR X (compareOp .LtE) (rI0 fun i j => .bl (decide (i ≤ j))) := opB0 fun _ _ _ _ _ _ _ q => le_int q
theorem op_gt : OpR X (compareOp .Gt) (rI0 fun i j => .bl (decide (j < i))) := opB0 fun _ _ _ _ _ _ _ q => gt_int q
theorem nomark (b : Expr) {op : CmpOp} (h : op ≠ .In := by decide) (h2 : op ≠ .NotIn := by decide) : behindInMarks op b = false := by
  have e1 : (op == CmpOp.In) = false := by cases op <;> first | rfl | exact absurd rfl h
  have e2 : (op == CmpOp.NotIn) = false := by cases op <;> first | rfl | exact absurd rfl h2
  cases b <;> simp [behindInMarks, e1, e2]
theorem pe_cmpR {op : CmpOp} {r : R2} (ho : OpR X (compareOp op) r) (ha : PE X a ta) (hb : PE X b tb) (hm : behindInMarks op b = false) : PE X (.Compare a [op] [b] pos) (tOp r ta tb) := by
  intro pins s σ H Q I h
  exact wpAny_Compare1 (binT ha hb I h fun v u s2 x y H2 I2 rx ry q => ho pins s2 σ H2 x y v u Q I2 rx ry q) hm
def tTest (t : TE) : TT := fun σ H Q => t σ H fun x H' => ∃ k, x = .bl k ∧ Q k H'
theorem pt_cmpR {op : CmpOp} {r : R2} (ho : OpR X (compareOp op) r) (ha : PE X a ta) (hb : PE X b tb) (hm : behindInMarks op b = false) : PT X (.Compare a [op] [b] pos) (tTest (tOp r ta tb)) := by
  intro pins s σ H Q I h
  refine wpAny_isTrue_Compare1 (thn (ha pins s σ H _ I h) fun v s1 ⟨x, H1, I1, r1, q1⟩ => thn (hb pins s1 σ H1 _ I1 q1) fun u s2 ⟨y, H2, I2, r2, q2⟩ =>
    thn (ho pins s2 σ H2 x y v u _ I2 r1 r2 q2) fun c s3 ⟨z, H3, I3, r3, k, e, q3⟩ => ?_) hm
  subst e
  cases r3
  exact wpAny_truthy_bool ⟨H3, I3, q3⟩
def tChain (r r' : R2) (ta tb tc : TE) : TE := fun σ H Q => ta σ H fun x H1 => tb σ H1 fun y H2 => r x y H2 fun z H3 => ∃ k, z = .bl k ∧
  (if k = true then tc σ H3 fun w' H4 => r' y w' H4 Q else Q (.bl false) H3)
theorem pt_chain {op op' : CmpOp} {r r' : R2} (ho : OpR X (compareOp op) r) (ho' : OpR X (compareOp op') r') (ha : PE X a ta) (hb : PE X b tb) (hc : PE X c tc)
    (hm : lastMarks [op, op'] [b, c] = false := by with_unfolding_all rfl) : PT X (.Compare a [op, op'] [b, c] pos) (tTest (tChain r r' ta tb tc)) := by
  intro pins s σ H Q I h
  refine isTrue_chain (thn (ha pins s σ H _ I h) fun v s1 ⟨x, H1, I1, r1, q1⟩ => test_link (thn (hb pins s1 σ H1 _ I1 q1) fun u s2 ⟨y, H2, I2, r2, q2⟩ =>
    thn (ho pins s2 σ H2 x y v u _ I2 r1 r2 q2) fun d s3 ⟨z, H3, I3, r3, k, e, q3⟩ => ?_)) hm
  subst e
  cases r3
  refine wpAny_truthy_bool ?_
  cases k with
  | false =>
    obtain ⟨k', e', q'⟩ := q3
    cases e'
    exact ite_ff ⟨H3, I3, q'⟩
  | true =>
    refine ite_tt (test_last (thn (hc pins s3 σ H3 _ I3 q3) fun w' s4 ⟨z', H4, I4, r4, q4⟩ => thn (ho' pins s4 σ H4 y z' u w' _ I4 r2 r4 q4) fun d' s5 ⟨z2, H5, I5, r5, k2, e2, q5⟩ => ?_))
    subst e2
    cases r5
    exact wpAny_truthy_bool ⟨H5, I5, q5⟩
theorem line63 : (sizeLine : Nat) < 2 ^ 63 := by rw [sizeLine_eq]; decide
theorem vals1 {x : V} {us : List Value} (r : Vals [x] us) : ∃ u, us = [u] ∧ RelV x u := by
  cases r with
  | cons r1 r2 => cases r2; exact ⟨_, rfl, r1⟩
theorem vals2 {x y : V} {us : List Value} (r : Vals [x, y] us) : ∃ u w', us = [u, w'] ∧ RelV x u ∧ RelV y w' := by
  cases r with
  | cons r1 r2 =>
    cases r2 with
    | cons r3 r4 => cases r4; exact ⟨_, _, rfl, r1, r3⟩
theorem call_int1 : CallR X (.type "int") (fun xs H Q => (∃ i, xs = [.int i] ∧ Q (.int i) H) ∨ ∃ k, xs = [.bl k] ∧ Q (.int (if k then 1 else 0)) H) := by
  intro pins s σ H xs us Q I r h
  rcases h with ⟨i, rfl, q⟩ | ⟨k, rfl, q⟩
  · obtain ⟨u, rfl, t, rfl⟩ := vals1 r
    exact call_int_int ⟨.int i, H, I, ⟨_, rfl⟩, q⟩
  · obtain ⟨u, rfl, r1⟩ := vals1 r
    cases r1
    exact call_int_bool ⟨.int (if k then 1 else 0), H, I.tok _, ⟨_, rfl⟩, q⟩
end
end L2
namespace L2
open PySem PySem.Spec PyProof.Rows
structure ObjM (h : Heap) (x dx C : Addr) (mA : Str → Option Value) : Prop where
  obj : h.get? x = some (PySem.W.instObj C dx)
  ns : h.Ns1 dx mA
  ne : dx ≠ x
theorem lookIn_ns {h : Heap} {dx : Addr} {mA : Str → Option Value} (n : h.Ns1 dx mA) : ∃ od, h.get? dx = some od ∧ ∀ name, PySem.W.lookIn name od = some (mA name) := by
  obtain ⟨o, es, ep, ho, hd, hk, _, hm⟩ := n
  refine ⟨o, ho, fun name => ?_⟩
  have e := hm name
  unfold nsFind findBy at e
  rw [← Array.find?_toList] at e
  unfold PySem.W.lookIn
  rw [hd]
  dsimp only
  split
  · rename_i y q
    rw [q] at e
    exact congrArg some e
  · rename_i q
    rw [q] at e
    have a : es.toList.any (·.refKey) = false := by
      rw [List.any_eq_false]
      intro y hy
      obtain ⟨z, t, hkey⟩ := hk y (Array.mem_toList_iff.mp hy)
      simp [DictEntry.refKey, hkey]
    have a' : ¬ es.toList.any (·.refKey) = true := by rw [a]; exact Bool.false_ne_true
    rw [if_neg a']
    exact congrArg some e
theorem ObjM.look {h : Heap} {x dx C : Addr} {mA : Str → Option Value} (I : ObjM h x dx C mA) : ∃ od, PySem.W.InstAt h x (PySem.W.instObj C dx) C (some od) ∧ ∀ name, PySem.W.lookIn name od = some (mA name) :=
  let ⟨od, ho, hl⟩ := lookIn_ns I.ns
  ⟨od, ⟨I.obj, rfl, rfl, ho⟩, hl⟩
section
variable {prog : Program} {w : World} {A : Around} {E : Value → Shared → Prop} {s : Shared} {K : PySem.W.Frag} {x dx C f : Addr} {mA : Str → Option Value} {name : Str} {v : Value}
theorem get_map {expr : Bool} {Q : Value → Shared → Prop} (X : K.In s.heap) (I : ObjM s.heap x dx C mA) (hg : PySem.W.plainGet K C name = true) (hh : PySem.W.hasDictIn K C = true)
    (ha : PySem.W.findIn K (.ref C) name = some none) (hv : mA name = some v) (hv' : PySem.W.handedIn v = true) (h : Q v { s with toks := s.toks + 1 }) :
    wpAny (model prog w) A (getAttr (.ref x) name expr) Q E s := by
  obtain ⟨od, J, hl⟩ := I.look
  exact PySem.W.get_value X J (PySem.W.plainGet_of hg).1 (PySem.W.findObj_own hh ha rfl (by rw [hl, hv])) hv' h
theorem get_meth {pl : Sem Bool} {Q : Value × List Value → Shared → Prop} (X : K.In s.heap) (I : ObjM s.heap x dx C mA) (hg : PySem.W.plainGet K C name = true)
    (hf : PySem.W.findIn K (.ref C) name = some (some (.ref f))) (ht : PySem.W.isFn K (.ref f) = true) (hv : mA name = none) (h : Q (.ref f, [.ref x]) s) :
    wpAny (model prog w) A (getMethod (.ref x) name pl) Q E s := by
  obtain ⟨od, J, hl⟩ := I.look
  exact PySem.W.method_fn X J (PySem.W.plainGet_of hg).1 (PySem.W.plainGet_of hg).2 hf (beq_iff_eq.mp ht) (by show (PySem.W.lookIn name od).map (·.isSome) = some false; rw [hl, hv]; rfl) h
theorem set_map {ns : List Str} {Q : Unit → Shared → Prop} (X : K.In s.heap) (I : ObjM s.heap x dx C mA)
    (hs : PySem.W.findIn K (.ref C) "__setattr__" = some (some (.builtin "object.__setattr__"))) (hp : PySem.W.plainOver K C = true) (ht : PySem.W.takerIn K C name = some none) (hh : PySem.W.hasDictIn K C = true)
    (hw : PySem.Within mA ns) (hsz : ns.length ≤ sizeLine)
    (h : ∀ h', ObjM h' x dx C (fun y => if y = name then some v else mA y) → Heap.SameBut dx s.heap h' → Q () { s with heap := h', toks := s.toks + 2 }) :
    wpAny (model prog w) A (setAttr (.ref x) name v) Q E s := by
  obtain ⟨od, J, hl⟩ := I.look
  refine PySem.W.set_plain X J hs (PySem.W.osa_open (s := { s with toks := s.toks + 1 }) (r := none) X J hp ht fun b => ?_)
  obtain ⟨cd, hc, hd'⟩ := PySem.W.any_some hh
  have hx : s.heap.get? x = some ⟨.ref C, some dx, .plain, #[]⟩ := I.obj
  refine wpAny_bind (wpAny_pure (wpAny_bind (wpAny_bind (wpAny_loadPart hx (wpAny_bind (PySem.W.Looks.here (s := { s with toks := s.toks + 1 }) (PySem.W.looks_clsIn X hc) ?_))))))
  rw [hd']
  refine wpAny_pure (a := some dx) (wpAny_bind (wpAny_pure (wpAny_bind ?_)))
  refine wpAny_nsSet1 (s := { s with toks := s.toks + 1 }) I.ns fun h' hn2 hs2 => ?_
  obtain ⟨oD, esD, epD, hoD, hdD, hcD⟩ := hn2.count (PySem.Within.cons name v hw)
  refine wpAny_bind (wpAny_lookBehind hoD (by rw [hdD]; exact pastItsLine_dict (Nat.le_trans hcD (by rw [List.length_cons]; omega))) ?_)
  exact wpAny_pure (h _ ⟨(hs2.2 _ (Ne.symm I.ne)).trans I.obj, hn2, I.ne⟩ hs2)
theorem make_map {R : Result → Shared → Prop} {vs : List Value} {kw : List (Str × Value)} (X : K.In s.heap) (hm : PySem.W.makesIn K C = true)
    (hi : PySem.W.findIn K (.ref C) "__init__" = some (some (.ref f))) (hf : PySem.W.typeIn K (.ref f) = some (.type "function"))
    (h : codeAny (model prog w) (A.under (.builtin "type.__call__" ⟨.ref C :: vs, kw⟩)) (.call (.ref f) ⟨.ref (s.heap.objs.size + 1) :: vs, kw⟩) (PySem.W.InitBack (s.heap.objs.size + 1) R)
      { s with heap := (s.heap.push PySem.W.emptyDict).push (PySem.W.instObj C s.heap.objs.size) }) :
    codeAny (model prog w) A (.call (.ref C) ⟨vs, kw⟩) R s := by
  obtain ⟨hh, g, d, t, os⟩ := s
  exact PySem.W.make_core (PySem.W.makes_of X hm) (PySem.W.looks_findIn X hi) (fun self => PySem.W.bind_fn X self hf) (.inl rfl) h
end
def putF (f : Str) (v : V) : List (Str × V) → List (Str × V)
  | [] => [(f, v)]
  | (g, x) :: r => if g = f then (g, v) :: r else (g, x) :: putF f v r
theorem lookup_putF (f g : Str) (v : V) : ∀ fs : List (Str × V), (putF f v fs).lookup g = if g = f then some v else fs.lookup g
  | [] => by
    show List.lookup g [(f, v)] = _
    by_cases h : g = f
    · have hb : (g == f) = true := beq_iff_eq.mpr h
      simp only [List.lookup, hb, if_pos h]
    · have hb : (g == f) = false := beq_eq_false_iff_ne.mpr h
      simp only [List.lookup, hb, if_neg h]
  | (k, x) :: r => by
    have ih := lookup_putF f g v r
    rw [show putF f v ((k, x) :: r) = (if k = f then (k, v) :: r else (k, x) :: putF f v r) from rfl]
    by_cases hk : k = f
    · rw [if_pos hk]
      by_cases h : g = k
      · have hb : (g == k) = true := beq_iff_eq.mpr h
        simp only [List.lookup, hb, if_pos (h.trans hk)]
      · have hb : (g == k) = false := beq_eq_false_iff_ne.mpr h
        simp only [List.lookup, hb, if_neg (fun e : g = f => h (e.trans hk.symm))]
    · rw [if_neg hk]
      by_cases h : g = k
      · have hb : (g == k) = true := beq_iff_eq.mpr h
        simp only [List.lookup, hb, if_neg (fun e : g = f => hk (h.symm.trans e))]
      · have hb : (g == k) = false := beq_eq_false_iff_ne.mpr h
        simp only [List.lookup, hb]
        exact ih
theorem keys_putF (f : Str) (v : V) : ∀ fs : List (Str × V), f ∈ (putF f v fs).map (·.1) ∧ ∀ g, g ∈ fs.map (·.1) → g ∈ (putF f v fs).map (·.1)
  | [] => ⟨by simp [putF], fun g h => by simp at h⟩
  | (k, x) :: r => by
    obtain ⟨i1, i2⟩ := keys_putF f v r
    rw [show putF f v ((k, x) :: r) = (if k = f then (k, v) :: r else (k, x) :: putF f v r) from rfl]
    by_cases hk : k = f
    · rw [if_pos hk]
      subst hk
      exact ⟨by simp, fun g h => by simpa using h⟩
    · rw [if_neg hk]
      refine ⟨?_, fun g h => ?_⟩
      · rw [List.map_cons]
        exact List.mem_cons_of_mem _ i1
      · rw [List.map_cons] at h ⊢
        rcases List.mem_cons.mp h with e | e
        · exact List.mem_cons.mpr (.inl e)
        · exact List.mem_cons_of_mem _ (i2 g e)
theorem length_putF (f : Str) (v : V) : ∀ fs : List (Str × V), (putF f v fs).length ≤ fs.length + 1
  | [] => by simp [putF]
  | (k, x) :: r => by
    have ih := length_putF f v r
    rw [show putF f v ((k, x) :: r) = (if k = f then (k, v) :: r else (k, x) :: putF f v r) from rfl]
    by_cases hk : k = f
    · rw [if_pos hk, List.length_cons, List.length_cons]; omega
    · rw [if_neg hk, List.length_cons, List.length_cons]; omega
theorem RelO.some_of {v : V} {o : Option Value} (r : RelO (some v) o) : ∃ u, o = some u ∧ RelV v u := by
  cases o with
  | none => exact (show False from r).elim
  | some u => exact ⟨u, rfl, r⟩
theorem RelO.none_of {o : Option Value} (r : RelO none o) : o = none := by
  cases o with
  | none => rfl
  | some u => exact (show False from r).elim
theorem handed_of {v : V} {u : Value} (r : RelV v u) : PySem.W.handedIn u = true := by
  cases v with
  | non => cases (show u = Value.none from r); rfl
  | bl b => cases (show u = Value.bool b from r); rfl
  | int i => obtain ⟨t, e⟩ := (show ∃ t, u = Value.int i t from r); cases e; rfl
  | str x => obtain ⟨t, e⟩ := (show ∃ t, u = Value.str x t from r); cases e; rfl
  | byt b => obtain ⟨t, e⟩ := (show ∃ t, u = Value.bytes b t from r); cases e; rfl
  | flt b => obtain ⟨t, e⟩ := (show ∃ t, u = Value.float b t from r); cases e; rfl
  | ref a => cases (show u = Value.ref a from r); rfl
  | ty n => cases (show u = Value.type n from r); rfl
section
variable {P : Program} {w : World} {H H' : Hp} {h h' : Heap} {a C dx : Addr} {fs fs' : List (Str × V)}
theorem ins_get (hok : HOk P w H h) (e : H a = some (.ins C dx fs)) : ∃ mA, ObjM h a dx C mA ∧ (∀ f, RelO (fs.lookup f) (mA f)) ∧ PySem.Within mA (fs.map (·.1)) ∧ fs.length ≤ 1000 ∧ H dx = some (.own a) := by
  obtain ⟨d, z, ne, ob, mA, n, r, q⟩ := (show ObjOk P w H h a (.ins C dx fs) from hok a _ e)
  exact ⟨mA, ⟨ob, n, ne⟩, r, q, z, d⟩
end
structure Cls (K : PySem.W.Frag) (C : Addr) : Prop where
  pg : PySem.W.plainGet K C Str.empty = true
  hd : PySem.W.hasDictIn K C = true
  po : PySem.W.plainOver K C = true
  sa : PySem.W.findIn K (.ref C) "__setattr__" = some (some (.builtin "object.__setattr__"))
theorem Cls.get {K : PySem.W.Frag} {C : Addr} (c : Cls K C) (f : Str) : PySem.W.plainGet K C f = true := c.pg
def NoAttr (K : PySem.W.Frag) (C : Addr) (f : Str) : Prop := PySem.W.findIn K (.ref C) f = some none
theorem NoAttr.taker {K : PySem.W.Frag} {C : Addr} {f : Str} (n : NoAttr K C f) : PySem.W.takerIn K C f = some none := by
  unfold PySem.W.takerIn
  rw [show PySem.W.findIn K (.ref C) f = some none from n]
  rfl
structure Meth (K : PySem.W.Frag) (C : Addr) (m : Str) (f : Addr) : Prop where
  at_ : PySem.W.findIn K (.ref C) m = some (some (.ref f))
  fn : PySem.W.isFn K (.ref f) = true
  kp : PySem.W.keepIn K (.ref f) = true
section
variable {X : Cx} {pins : List (Addr × Obj)} {σ : St} {H : Hp} {s : Shared} {a C dx : Addr} {fs : List (Str × V)} {f : Str} {v : V} {A : Around} {E : Value → Shared → Prop}
theorem getattr_ok {b : Bool} {Q : Value → Shared → Prop} (I : Inv X pins σ H s) (e : H a = some (.ins C dx fs)) (c : Cls X.K C) (n : NoAttr X.K C f) (l : fs.lookup f = some v)
    (h : ∀ u s', Inv X pins σ H s' → RelV v u → Q u s') : wpAny (model X.prog X.w) A (getAttr (.ref a) f b) Q E s := by
  obtain ⟨mA, O, r, _, _, _⟩ := ins_get I.hok e
  obtain ⟨u, hu, ru⟩ := RelO.some_of (v := v) (o := mA f) (by rw [← l]; exact r f)
  exact get_map I.kIn O (c.get f) c.hd n hu (handed_of ru) (h u _ (I.tok _) ru)
theorem getmeth_ok {m : Str} {g : Addr} {pl : Sem Bool} {Q : Value × List Value → Shared → Prop} (I : Inv X pins σ H s) (e : H a = some (.ins C dx fs)) (c : Cls X.K C) (k : Meth X.K C m g) (l : fs.lookup m = none)
    (h : Q (.ref g, [.ref a]) s) : wpAny (model X.prog X.w) A (getMethod (.ref a) m pl) Q E s := by
  obtain ⟨mA, O, r, _, _, _⟩ := ins_get I.hok e
  have hn : mA m = none := RelO.none_of (by rw [← l]; exact r m)
  exact get_meth I.kIn O (c.get m) k.at_ k.fn hn h
theorem setattr_ok {y : V} {u : Value} {Q : Unit → Shared → Prop} (I : Inv X pins σ H s) (e : H a = some (.ins C dx fs)) (c : Cls X.K C) (n : NoAttr X.K C f) (hl : fs.length < 1000) (ry : RelV y u)
    (h : ∀ s', Inv X pins σ (upd H a (.ins C dx (putF f y fs))) s' → Q () s') : wpAny (model X.prog X.w) A (setAttr (.ref a) f u) Q E s := by
  obtain ⟨mA, O, r, wi, _, ho⟩ := ins_get I.hok e
  have hz : (fs.map (·.1)).length ≤ sizeLine := by rw [List.length_map, sizeLine_eq]; omega
  refine set_map I.kIn O c.sa c.po n.taker c.hd wi hz fun h' O' sb => h _ ?_
  have hd : ∃ o, h'.get? dx = some o := let ⟨o, _, _, e', _⟩ := O'.ns; ⟨o, e'⟩
  refine I.write (x := a) (e := dx) (by rw [e]; exact True.intro) (.inr ho) (fun b q hb z => (sb.2 b hb).trans z) hd ?_
  refine ⟨by rw [upd_ne O.ne]; exact ho, ?_, O.ne, O'.obj, _, O'.ns, fun g => ?_, fun g hg => ?_⟩
  · have := length_putF f y fs; omega
  · show RelO ((putF f y fs).lookup g) (if g = f then some u else mA g)
    rw [lookup_putF]
    by_cases q : g = f
    · rw [if_pos q, if_pos q]; exact ry
    · rw [if_neg q, if_neg q]; exact r g
  · by_cases q : g = f
    · rw [q]; exact (keys_putF f y fs).1
    · refine (keys_putF f y fs).2 g (wi g fun z => hg ?_)
      show (if g = f then some u else mA g) = none
      rw [if_neg q]; exact z
theorem Inv.made (I : Inv X pins σ H s) : Inv X pins σ (upd (upd H s.heap.objs.size (.own (s.heap.objs.size + 1))) (s.heap.objs.size + 1) (.ins C s.heap.objs.size []))
    { s with heap := (s.heap.push PySem.W.emptyDict).push (PySem.W.instObj C s.heap.objs.size) } := by
  have e1 : (s.heap.push PySem.W.emptyDict).get? s.heap.objs.size = some PySem.W.emptyDict := Heap.get?_push_size s.heap rfl
  have e2 : ((s.heap.push PySem.W.emptyDict).push (PySem.W.instObj C s.heap.objs.size)).get? (s.heap.objs.size + 1) = some (PySem.W.instObj C s.heap.objs.size) := by
    have := Heap.get?_push_size (s.heap.push PySem.W.emptyDict) (o := PySem.W.instObj C s.heap.objs.size) rfl
    rwa [Heap.size_push] at this
  have e3 : (s.heap.push PySem.W.emptyDict).Ns s.heap.objs.size (fun _ => none) := ⟨PySem.W.emptyDict, #[], _, e1, rfl, (fun e he => absurd he (by simp)), fun _ => rfl⟩
  have I1 := I.laid (a := s.heap.objs.size) (o := .own (s.heap.objs.size + 1)) (h' := s.heap.push PySem.W.emptyDict) (t' := s.toks) (fun b u q => Heap.get?_push_of_some _ q) (Nat.le_refl _) ⟨_, e1⟩
  refine I1.laid (a := s.heap.objs.size + 1) (o := .ins C s.heap.objs.size []) (t' := s.toks) (fun b u q => Heap.get?_push_of_some _ q) (Nat.le_of_eq (Heap.size_push _ _)) ?_
  have ne : s.heap.objs.size ≠ s.heap.objs.size + 1 := Nat.ne_of_lt (Nat.lt_succ_self _)
  refine ⟨by rw [upd_ne ne, upd_same], Nat.zero_le _, ne, e2, fun _ => none, (Heap.Ns1.of_empty e3).at fun o q => Heap.get?_push_of_some _ q, fun _ => True.intro, fun y hy => absurd rfl hy⟩
theorem attr_of {prog : Program} {w : World} {env : Env} {e : Expr} {f : Str} {pos : Pos} {s : Shared} {Q : Value → Shared → Prop} (hb : attributeBase e f env (eval e env) = eval e env)
    (h : wpAny (model prog w) A (eval e env) (fun o s₁ => wpAny (model prog w) A (getAttr o f true) Q E s₁) E s) : wpAny (model prog w) A (eval (.Attribute e f pos) env) Q E s :=
  Attribute_any_ h (by rw [arm_eval_Attribute, hb])
end
def tFld (K : PySem.W.Frag) (ta : TE) (f : Str) : TE := fun σ H Q => ta σ H fun x H1 => ∃ a C dx fs v, x = .ref a ∧ H1 a = some (.ins C dx fs) ∧ Cls K C ∧ NoAttr K C f ∧ fs.lookup f = some v ∧ Q v H1
def sFld (K : PySem.W.Frag) (ta tv : TE) (f : Str) : TS := fun D σ H => tv σ H fun y H1 => ta σ H1 fun x H2 => ∃ a C dx fs, x = .ref a ∧ H2 a = some (.ins C dx fs) ∧ Cls K C ∧ NoAttr K C f ∧ fs.length < 1000 ∧
  D.nx σ (upd H2 a (.ins C dx (putF f y fs)))
section
variable {X : Cx} {o e value : Expr} {f : Str} {pos pos' tpos : Pos} {ta tv : TE}
theorem pe_fld (he : PE X e ta) (hb : attributeBase e f X.env (eval e X.env) = eval e X.env) : PE X (.Attribute e f pos) (tFld X.K ta f) := by
  intro pins s σ H Q I h
  refine attr_of hb (thn (he pins s σ H _ I h) fun u s1 ⟨x, H1, I1, rx, a, C, dx, fs, v, ex, ea, c, n, l, q⟩ => ?_)
  subst ex
  obtain rfl : u = Value.ref a := rx
  exact getattr_ok I1 ea c n l fun u' s2 I2 ru => ⟨v, H1, I2, ru, q⟩
theorem ps_fld (ha : PE X o ta) (hv : PE X value tv) (hs : swapsWith value (some (.Attribute o f pos')) pos.line X.env = pure false) : PS X (.Assign [.Attribute o f pos'] value pos) (sFld X.K ta tv f) := by
  intro pins s σ H D I h
  refine plainObj_wpAny_Assign_Attribute (thn (hv pins s σ H _ I h) fun u s1 ⟨y, H1, I1, ry, q⟩ => thn (ha pins s1 σ H1 _ I1 q) fun ov s2 ⟨x, H2, I2, rx, a, C, dx, fs, ex, ea, c, n, l, q2⟩ => ?_) hs
  subst ex
  obtain rfl : ov = Value.ref a := rx
  exact setattr_ok I2 ea c n l ry fun s3 I3 => ⟨σ, _, I3, q2⟩
theorem methcall_of {pl : Sem Bool} {m : Str} {apos : Pos} {args : List Expr} {pins : List (Addr × Obj)} {s : Shared} {σ : St} {H : Hp} {Q : Value → Shared → Prop} {te : TE} (he : PE X e te) (I : Inv X pins σ H s)
    (h : te σ H fun x H1 => ∃ a C dx fs g, x = .ref a ∧ H1 a = some (.ins C dx fs) ∧ Cls X.K C ∧ Meth X.K C m g ∧ fs.lookup m = none ∧
      ∀ s1, Inv X pins σ H1 s1 → wpAny (model X.prog X.w) X.A (callWith pos (.ref g) [.ref a] (backTo pos (starEach args X.env)) (backToKw pos (keywordEach [] X.env))) Q X.xe s1)
    (ht : eval (.Call (.Attribute e m apos) args [] pos) X.env = (do
      let ov ← eval e X.env
      standAt apos.atName
      let (f, first) ← holding [ov] (getMethod ov m pl)
      callWith pos f first (backTo pos (starEach args X.env)) (backToKw pos (keywordEach [] X.env)))) :
    wpAny (model X.prog X.w) X.A (eval (.Call (.Attribute e m apos) args [] pos) X.env) Q X.xe s := by
  refine PySem.W.methodCall_KW (pl := pl) (thn (he pins s σ H _ I h) fun u s1 ⟨x, H1, I1, rx, a, C, dx, fs, g, ex, ea, c, k, l, q⟩ => ?_) ht
  subst ex
  obtain rfl : u = Value.ref a := rx
  exact getmeth_ok I1 ea c k l (q s1 I1)
end
section
variable {X : Cx} {pins : List (Addr × Obj)} {σ : St} {H : Hp} {s : Shared} {A : Around} {E : Value → Shared → Prop} {Q : Value → Shared → Prop} {c : Value} {b : Bool}
inductive TyOf (K : PySem.W.Frag) (H : Hp) : V → Value → Prop where
  | non : TyOf K H .non (.type "NoneType")
  | bl (x : Bool) : TyOf K H (.bl x) (.type "bool")
  | int (i : Int) : TyOf K H (.int i) (.type "int")
  | str (x : Str) : TyOf K H (.str x) (.type "str")
  | flt (x : UInt64) : TyOf K H (.flt x) (.type "float")
  | lst {a : Addr} {xs : List V} (e : H a = some (.lst xs)) : TyOf K H (.ref a) (.type "list")
  | frz {a : Addr} {o : Obj} {xs : List V} (e : H a = some (.frz o (.lst xs))) : TyOf K H (.ref a) (.type "list")
  | tup {a : Addr} {xs : List V} (e : H a = some (.tup xs)) : TyOf K H (.ref a) (.type "tuple")
  | dK {a : Addr} {kvs : List (Key × V)} (e : H a = some (.dK kvs)) : TyOf K H (.ref a) (.type "dict")
  | dT {a : Addr} {kvs : List (List Key × V)} (e : H a = some (.dT kvs)) : TyOf K H (.ref a) (.type "dict")
  | ins {a C dx : Addr} {fs : List (Str × V)} (e : H a = some (.ins C dx fs)) (cl : Cls K C) (ha : PySem.W.findIn K (.ref C) "__class__" = some (some (.builtin "object.__class__")))
      (hn : PySem.W.specialIn K (.builtin "object.__class__") "__get__" = some (some (.builtin "getset_descriptor.__get__"))) (htk : PySem.W.takesIn K (.builtin "object.__class__") = some true)
      (hm : PySem.W.mroIn K C (.type "object") = some true) : TyOf K H (.ref a) (.ref C)
theorem isinst_ok {x : V} {u t : Value} (I : Inv X pins σ H s) (rx : RelV x u) (ty : TyOf X.K H x t) (e : PySem.W.kitOne X.K t c = some b) (h : ∀ tk, Q (.bool b) { s with toks := tk }) :
    wpAny (model X.prog X.w) A (call (.builtin "isinstance") [u, c]) Q E s := by
  cases ty with
  | non => cases (show u = Value.none from rx); exact PySem.W.kia_one PySem.W.kitx_none I.kIn True.intro e (fun z => nomatch z) h
  | bl y => cases (show u = Value.bool y from rx); exact PySem.W.kia_one PySem.W.kitx_bool I.kIn True.intro e (fun z => nomatch z) h
  | int i => obtain ⟨t, q⟩ := (show ∃ t, u = Value.int i t from rx); cases q; exact PySem.W.kia_one PySem.W.kitx_int I.kIn True.intro e (fun z => nomatch z) h
  | str y => obtain ⟨t, q⟩ := (show ∃ t, u = Value.str y t from rx); cases q; exact PySem.W.kia_one PySem.W.kitx_str I.kIn True.intro e (fun z => nomatch z) h
  | flt y => obtain ⟨t, q⟩ := (show ∃ t, u = Value.float y t from rx); cases q; exact PySem.W.kia_one PySem.W.kitx_float I.kIn True.intro e (fun z => nomatch z) h
  | @lst a xs ea =>
    cases (show u = Value.ref a from rx)
    obtain ⟨_, _, n, _, h1⟩ := (show ObjOk X.prog X.w H s.heap a (.lst xs) from I.hok a _ ea)
    exact PySem.W.kia_one PySem.W.kitx_list I.kIn ⟨_, h1, rfl⟩ e (fun z => nomatch z) h
  | @frz a ob xs ea =>
    cases (show u = Value.ref a from rx)
    obtain ⟨_, _, _, n, _, h1⟩ := (show ObjOk X.prog X.w H s.heap a (.frz ob (.lst xs)) from I.hok a _ ea)
    exact PySem.W.kia_one PySem.W.kitx_list I.kIn ⟨_, h1, rfl⟩ e (fun z => nomatch z) h
  | @tup a xs ea =>
    cases (show u = Value.ref a from rx)
    obtain ⟨_, _, _, p⟩ := (show ObjOk X.prog X.w H s.heap a (.tup xs) from I.hok a _ ea)
    obtain ⟨o, h1, h2, _⟩ := p
    exact PySem.W.kia_one PySem.W.kitx_tuple I.kIn ⟨o, h1, h2⟩ e (fun z => nomatch z) h
  | @dK a kvs ea =>
    cases (show u = Value.ref a from rx)
    obtain ⟨_, _, vs, _, p⟩ := (show ObjOk X.prog X.w H s.heap a (.dK kvs) from I.hok a _ ea)
    obtain ⟨o, es, ep, h1, h2, _⟩ := p
    exact PySem.W.kia_one PySem.W.kitx_dict I.kIn ⟨o, h1, h2.1⟩ e (fun z => nomatch z) h
  | @dT a kvs ea =>
    cases (show u = Value.ref a from rx)
    obtain ⟨_, _, xs, _, o, es, ep, h1, h2, _⟩ := (show ObjOk X.prog X.w H s.heap a (.dT kvs) from I.hok a _ ea)
    exact PySem.W.kia_one PySem.W.kitx_dict I.kIn ⟨o, h1, h2.1⟩ e (fun z => nomatch z) h
  | @ins a C dx fs ea cl ha hn htk hm =>
    cases (show u = Value.ref a from rx)
    obtain ⟨mA, O, _⟩ := ins_get I.hok ea
    obtain ⟨od, J, _⟩ := O.look
    exact PySem.W.kia_one (PySem.W.kitx_own (cl.get _) cl.hd ha hn htk hm) I.kIn J e (fun z => nomatch z) h
end
end L2
namespace L2
open PySem PySem.Spec PyProof.Rows
structure Room (k : Nat) (A : Around) : Prop where
  hd : A.handled = none
  dp : A.depth + 3 * k + 5 < recursionLimit
  un : A.units + 16 * k + 200 < cLine
theorem Room.mono {j k : Nat} {A : Around} (r : Room k A) (h : j ≤ k) : Room j A := ⟨r.hd, by have := r.dp; omega, by have := r.un; omega⟩
theorem Room.deeper {k : Nat} {A : Around} (r : Room (k + 1) A) (env : Env) : Room k (A.deeper env) :=
  ⟨r.hd, by have := r.dp; show A.depth + 1 + 3 * k + 5 < _; omega, by have := r.un; show A.units + 3 + 16 * k + 200 < _; omega⟩
theorem make_depth {A : Around} {C : Addr} {us : List Value} {kw : List (Str × Value)} : (A.under (.builtin "type.__call__" ⟨.ref C :: us, kw⟩)).depth = A.depth + 1 := by
  first | rfl | simp [Around.under, Code.weight, Code.isCreation, Code.isGuard, Code.isCaller, Code.frames, Code.isFrame, guardIds]
theorem make_units {A : Around} {C : Addr} {us : List Value} {kw : List (Str × Value)} : (A.under (.builtin "type.__call__" ⟨.ref C :: us, kw⟩)).units = A.units + 1 := by
  first | rfl | simp [Around.under, Code.cUnits, Code.frames, Code.isFrame]
theorem Room.make {k : Nat} {A : Around} (r : Room (k + 1) A) (C : Addr) (us : List Value) (kw : List (Str × Value)) : Room k (A.under (.builtin "type.__call__" ⟨.ref C :: us, kw⟩)) :=
  ⟨r.hd, by have := r.dp; rw [make_depth]; omega, by have := r.un; rw [make_units]; omega⟩
theorem Room.depth {k : Nat} {A : Around} (r : Room k A) : A.depth < recursionLimit := by have := r.dp; omega
theorem Room.units {k : Nat} {A : Around} (r : Room k A) : A.units + 64 < cLine := by have := r.un; omega
def tNil : TA := fun _ H Q => Q [] H
def tCons (ta : TE) (tr : TA) : TA := fun σ H Q => ta σ H fun x H1 => tr σ H1 fun xs H2 => Q (x :: xs) H2
section
variable {X : Cx} {e : Expr} {es : List Expr} {te : TE} {t : TA} {pos : Pos}
theorem pa_nil : PA X [] tNil := fun _ _ _ _ H Q I h => Calls.spliced_nil ⟨[], H, I, .nil, h⟩
theorem pa_cons (ha : PE X e te) (hr : PA X es t) (hs : starEach (e :: es) X.env = (false, eval e X.env) :: starEach es X.env := by rfl) : PA X (e :: es) (tCons te t) := by
  intro pos pins s σ H Q I h
  rw [hs]
  show wpAny _ _ (spliced ((false, eval e X.env) :: backTo pos (starEach es X.env))) _ _ s
  refine Calls.spliced_cons (thn (ha pins s σ H _ I h) fun u s1 ⟨x, H1, I1, r1, q1⟩ => ?_)
  exact thn (hr pos pins s1 σ H1 _ I1 q1) fun us s2 ⟨xs, H2, I2, r2, q2⟩ => ⟨x :: xs, H2, I2, .cons r1 r2, q2⟩
def tTup (t : TA) : TE := fun σ H Q => t σ H fun xs H1 => xs.length ≤ sizeLine ∧ ∀ p, H1 p = none → Q (.ref p) (upd H1 p (.tup xs))
def tLst (t : TA) : TE := fun σ H Q => t σ H fun xs H1 => xs.length ≤ sizeLine ∧ ∀ p, H1 p = none → Q (.ref p) (upd H1 p (.lst xs))
theorem pe_tup {x1} (h : PA X es t) : PE X (.Tuple es x1 pos) (tTup t) := by
  intro pins s σ H Q I hq
  refine wpAny_Tuple_spliced (thn (h pos pins s σ H _ I hq) fun us s1 ⟨xs, H1, I1, r, z, q⟩ => ⟨by rw [← r.length]; exact z, ?_⟩)
  have hf : H1 s1.heap.objs.size = none := I1.hok.fresh (Nat.le_refl _)
  refine ⟨.ref s1.heap.objs.size, upd H1 s1.heap.objs.size (.tup xs), I1.laid (t' := s1.toks) (fun b u e => Heap.get?_push_of_some _ e) (Nat.le_refl _) ?_, rfl, q _ hf⟩
  exact ⟨z, us, r, ⟨_, Heap.get?_push_size _ rfl, rfl, _, rfl⟩⟩
theorem pe_lst (h : PA X es t) : PE X (.List es pos) (tLst t) := by
  intro pins s σ H Q I hq
  refine wpAny_List_spliced (thn (h pos pins s σ H _ I hq) fun us s1 ⟨xs, H1, I1, r, z, q⟩ => ⟨by rw [← r.length]; exact z, ?_⟩)
  have hf : H1 s1.heap.objs.size = none := I1.hok.fresh (Nat.le_refl _)
  refine ⟨.ref s1.heap.objs.size, upd H1 s1.heap.objs.size (.lst xs), I1.laid (t' := s1.toks) (fun b u e => Heap.get?_push_of_some _ e) (Nat.le_refl _) ?_, rfl, q _ hf⟩
  exact ⟨z, us, 0, r, Heap.get?_push_size _ rfl⟩
end
abbrev Sp := List V → Hp → VK → XK → Prop
abbrev CXT := List Env → Hp → Shared → XK → Value → Shared → Prop
structure Env0 (P : Program) (w : World) (K : PySem.W.Frag) (mg : Str → Option Value) (base : Heap) (A : Around) (outer : List Env) (s : Shared) (H : Hp) : Prop where
  frames : A.frames = some outer
  mod : Mod K mg base
  bs : ∀ b o, base.get? b = some o → s.heap.get? b = some o ∧ H b = none
  bsz : base.objs.size ≤ s.heap.objs.size
  funs : s.heap.FunFrames base outer
  frf : ∀ b ∈ frs outer, H b = none
  hok : HOk P w H s.heap
  bare : AllBare s.gens
def CE (outer : List Env) (P : Program) (w : World) (H : Hp) (s : Shared) (Q : VK) (u : Value) (s' : Shared) : Prop :=
  ∃ v H', s'.os = s.os ∧ AllBare s'.gens ∧ Un (frs outer) [] H H' s.heap s'.heap ∧ HOk P w H' s'.heap ∧ RelV v u ∧ Q v H'
def CR (CX : CXT) (outer : List Env) (P : Program) (w : World) (H : Hp) (s : Shared) (Q : VK) (E : XK) (r : Result) (s' : Shared) : Prop :=
  match r with
  | .ok (.ret u) => CE outer P w H s Q u s'
  | .ok _ => False
  | .error e => CX outer H s E e s'
structure FnOk (P : Program) (w : World) (K : PySem.W.Frag) (mg : Str → Option Value) (base : Heap) (CX : CXT) (k : Nat) (f : Addr) (fd : FuncData) (ps : List Str) (sp : Sp) : Prop where
  len : ∀ vs H Q E, sp vs H Q E → vs.length = ps.length
  run : ∀ (A : Around) (outer : List Env) (s : Shared) (H : Hp) (args : Args) (us : List Value) (vs : List V) (Q : VK) (E : XK), Room k A → Env0 P w K mg base A outer s H → BindsTo s fd args (ps.zip us) → Vals vs us → sp vs H Q E →
    codeAny (model P w) A (.call (.ref f) args) (CR CX outer P w H s Q E) s
theorem FnOk.mono {P : Program} {w : World} {K : PySem.W.Frag} {mg : Str → Option Value} {base : Heap} {CX : CXT} {j k : Nat} {f : Addr} {fd : FuncData} {ps : List Str} {sp : Sp} (F : FnOk P w K mg base CX j f fd ps sp) (h : j ≤ k) :
    FnOk P w K mg base CX k f fd ps sp := ⟨F.len, fun A outer s H args us vs Q E hr => F.run A outer s H args us vs Q E (hr.mono h)⟩
theorem FnOk.imp {P : Program} {w : World} {K : PySem.W.Frag} {mg : Str → Option Value} {base : Heap} {CX : CXT} {k : Nat} {f : Addr} {fd : FuncData} {ps : List Str} {sp sp' : Sp} (F : FnOk P w K mg base CX k f fd ps sp)
    (h : ∀ vs H Q E, sp' vs H Q E → sp vs H Q E) : FnOk P w K mg base CX k f fd ps sp' :=
  ⟨fun vs H Q E q => F.len vs H Q E (h _ _ _ _ q), fun A outer s H args us vs Q E hr he hb hv hs => F.run A outer s H args us vs Q E hr he hb hv (h _ _ _ _ hs)⟩
theorem Env0.make {P : Program} {w : World} {K : PySem.W.Frag} {mg : Str → Option Value} {base : Heap} {A : Around} {outer : List Env} {s : Shared} {H : Hp} (e : Env0 P w K mg base A outer s H) (C : Addr) (us : List Value) (kw : List (Str × Value)) :
    Env0 P w K mg base (A.under (.builtin "type.__call__" ⟨.ref C :: us, kw⟩)) outer s H := ⟨by first | exact e.frames | (simpa [Around.under, Code.envs, Code.isFrame, pushEnvs] using e.frames), e.mod, e.bs, e.bsz, e.funs, e.frf, e.hok, e.bare⟩
section
variable {X : Cx} {pins : List (Addr × Obj)} {σ : St} {H : Hp} {s s' : Shared}
theorem Inv.env0 (I : Inv X pins σ H s) : Env0 X.prog X.w X.K X.mg X.base X.A X.stack s H :=
  ⟨I.ok.frames, I.ok.mod, I.bs, Nat.le_trans I.ok.bsz I.sz, I.stack, I.stkFree, I.hok, I.bare⟩
theorem Inv.after {Q : VK} {u : Value} (I : Inv X pins σ H s) (h : CE X.stack X.prog X.w H s Q u s') : EP X pins σ Q u s' := by
  obtain ⟨v, H', os, bare, un, hok, r, q⟩ := h
  obtain ⟨hh, g, d, t, os'⟩ := s'
  obtain rfl : os' = s.os := os
  exact ⟨v, H', I.call (h' := hh) (g' := g) (d' := d) (t' := t) (ch := []) un hok bare (fun b z => absurd z (by simp)), r, q⟩
end
def tCall (sp : Sp) (dvs : List V) (E : XK) (t : TA) : TE := fun σ H Q => t σ H fun vs H1 => sp (vs ++ dvs) H1 Q E
def tMeth (C : Addr) (m : Str) (sp : Sp) (dvs : List V) (E : XK) (ta : TE) (t : TA) : TE := fun σ H Q => ta σ H fun x H1 => ∃ a dx fs, x = .ref a ∧ H1 a = some (.ins C dx fs) ∧ fs.lookup m = none ∧
  t σ H1 fun vs H2 => sp (x :: (vs ++ dvs)) H2 Q E
def tMake (C : Addr) (sp : Sp) (dvs : List V) (E : XK) (t : TA) : TE := fun σ H Q => t σ H fun vs H1 => ∀ x dx, H1 x = none → H1 dx = none → dx ≠ x →
  sp (.ref x :: (vs ++ dvs)) (upd (upd H1 dx (.own x)) x (.ins C dx [])) (fun v H2 => v = .non ∧ Q (.ref x) H2) E
def Binds (K : PySem.W.Frag) (fd : FuncData) (ps : List Str) (ds : List Value) : Prop :=
  ∀ (s : Shared) (us : List Value), K.In s.heap → (us ++ ds).length = ps.length → BindsTo s fd ⟨us, []⟩ (ps.zip (us ++ ds))
theorem Binds.all {K : PySem.W.Frag} {fd : FuncData} {ps : List Str} (h : ∀ us : List Value, us.length = ps.length → bindArgs fd ⟨us, []⟩ = pure (ps.zip us)) : Binds K fd ps [] := fun s us _ hl => by
  rw [List.append_nil] at hl ⊢
  exact .of_eq (h us hl)
def Passes (CX : CXT) (X : Cx) (E : XK) : Prop := ∀ (pins : List (Addr × Obj)) (σ : St) (H : Hp) (s : Shared) (e : Value) (s' : Shared), Inv X pins σ H s → CX X.stack H s E e s' → X.xe e s'
section
variable {X : Cx} {CX : CXT} {k : Nat} {f C : Addr} {fd : FuncData} {ps : List Str} {sp : Sp} {dvs : List V} {ds : List Value} {E : XK} {x m : Str} {p pos apos : Pos} {e o : Expr} {es : List Expr} {ta : TE} {t : TA}
theorem run_fn {pins : List (Addr × Obj)} {σ : St} {H : Hp} {s : Shared} {Q : VK} {us : List Value} {vs : List V} (F : FnOk X.prog X.w X.K X.mg X.base CX k f fd ps sp) (hr : Room k X.A) (hb : Binds X.K fd ps ds) (hd : Vals dvs ds) (hx : Passes CX X E)
    (I : Inv X pins σ H s) (r : Vals vs us) (h : sp (vs ++ dvs) H Q E) : wpAny (model X.prog X.w) X.A (call (.ref f) us) (EP X pins σ Q) X.xe s := by
  have r2 : Vals (vs ++ dvs) (us ++ ds) := r.append hd
  have hl : (us ++ ds).length = ps.length := by rw [← r2.length]; exact F.len _ _ _ _ h
  refine wpAny_call (codeAny_mono (F.run X.A X.stack s H ⟨us, []⟩ (us ++ ds) (vs ++ dvs) Q E hr I.env0 (hb s us I.kIn hl) r2 h) fun r s' hq => ?_)
  cases r with
  | error e => exact hx pins σ H s e s' I hq
  | ok fl =>
    cases fl with
    | ret u => exact I.after hq
    | next => exact False.elim hq
    | brk => exact False.elim hq
    | cont => exact False.elim hq
theorem pe_call (F : FnOk X.prog X.w X.K X.mg X.base CX k f fd ps sp) (hr : Room k X.A) (hg : Gl X x) (hm : X.mg x = some (.ref f)) (hk : PySem.W.keepIn X.K (.ref f) = true) (hb : Binds X.K fd ps ds) (hd : Vals dvs ds) (hx : Passes CX X E)
    (ha : PA X (e :: es) t) (hdb : (x == ("__debug__" : Str)) = false := by decide) (he : starEach (e :: es) X.env = (false, eval e X.env) :: starEach es X.env := by rfl) (hpl : (backTo pos (starEach es X.env)).any (·.1) = false := by rfl) :
    PE X (.Call (.Name x p) (e :: es) [] pos) (tCall sp dvs E t) := by
  intro pins s σ H Q I h
  refine wpAny_Call_Name_kw (ld_glob I hg hm ?_ hdb)
  refine PySem.W.callWith_K (h₀ := X.base) I.ok.mod.kin hk (thn (ha pos pins s σ H _ I h) fun us s1 ⟨vs, H1, I1, r, q⟩ => ⟨I1.kIn, ?_⟩) he hpl
  exact run_fn F hr hb hd hx I1 r q
theorem pe_meth {pl : Sem Bool} (he : PE X o ta) (c : Cls X.K C) (hm : Meth X.K C m f) (F : FnOk X.prog X.w X.K X.mg X.base CX k f fd ps sp) (hr : Room k X.A) (hb : Binds X.K fd ps ds) (hd : Vals dvs ds) (hx : Passes CX X E) (ha : PA X (e :: es) t)
    (hst : starEach (e :: es) X.env = (false, eval e X.env) :: starEach es X.env := by rfl) (hpl : (backTo pos (starEach es X.env)).any (·.1) = false := by rfl)
    (ht : eval (.Call (.Attribute o m apos) (e :: es) [] pos) X.env = (do
      let ov ← eval o X.env
      standAt apos.atName
      let (f, first) ← holding [ov] (getMethod ov m pl)
      callWith pos f first (backTo pos (starEach (e :: es) X.env)) (backToKw pos (keywordEach [] X.env))) := by rfl) :
    PE X (.Call (.Attribute o m apos) (e :: es) [] pos) (tMeth C m sp dvs E ta t) := by
  intro pins s σ H Q I h
  refine PySem.W.methodCall_KW (pl := pl) (thn (he pins s σ H _ I h) fun u s1 ⟨x, H1, I1, rx, a, dx, fs, ex, ea, l, q⟩ => ?_) ht
  subst ex
  obtain rfl : u = Value.ref a := rx
  refine getmeth_ok I1 ea c hm l ?_
  refine PySem.W.callWith_K (first := [.ref a]) (h₀ := X.base) I.ok.mod.kin hm.kp (thn (ha pos pins s1 σ H1 _ I1 q) fun us s2 ⟨vs, H2, I2, r, q2⟩ => ⟨I2.kIn, ?_⟩) hst hpl
  exact run_fn (us := .ref a :: us) (vs := .ref a :: vs) F hr hb hd hx I2 (.cons rfl r) q2
structure Mk (K : PySem.W.Frag) (C f : Addr) : Prop where
  makes : PySem.W.makesIn K C = true
  init : PySem.W.findIn K (.ref C) "__init__" = some (some (.ref f))
  fn : PySem.W.isFn K (.ref f) = true
  kp : PySem.W.keepIn K (.ref C) = true
theorem run_make {pins : List (Addr × Obj)} {σ : St} {H : Hp} {s : Shared} {Q : VK} {us : List Value} {vs : List V} (M : Mk X.K C f) (F : FnOk X.prog X.w X.K X.mg X.base CX k f fd ps sp) (hr : Room (k + 1) X.A) (hb : Binds X.K fd ps ds) (hd : Vals dvs ds)
    (hx : Passes CX X E) (I : Inv X pins σ H s) (r : Vals vs us)
    (h : ∀ x dx, H x = none → H dx = none → dx ≠ x → sp (.ref x :: (vs ++ dvs)) (upd (upd H dx (.own x)) x (.ins C dx [])) (fun v H2 => v = .non ∧ Q (.ref x) H2) E) :
    wpAny (model X.prog X.w) X.A (call (.ref C) us) (EP X pins σ Q) X.xe s := by
  have hq := h (s.heap.objs.size + 1) s.heap.objs.size (I.hok.fresh (Nat.le_succ _)) (I.hok.fresh (Nat.le_refl _)) (Nat.ne_of_lt (Nat.lt_succ_self _))
  have I2 := Inv.made (C := C) I
  have r2 : Vals (V.ref (s.heap.objs.size + 1) :: (vs ++ dvs)) (Value.ref (s.heap.objs.size + 1) :: (us ++ ds)) := .cons rfl (r.append hd)
  have hl : (Value.ref (s.heap.objs.size + 1) :: us ++ ds).length = ps.length := by
    have e := r2.length
    rw [F.len _ _ _ _ hq] at e
    exact e.symm
  refine wpAny_call (make_map (f := f) I.kIn M.makes M.init (beq_iff_eq.mp M.fn) (codeAny_mono (F.run _ X.stack _ _ ⟨Value.ref (s.heap.objs.size + 1) :: us, []⟩ (Value.ref (s.heap.objs.size + 1) :: (us ++ ds)) _ _ E (hr.make C us [])
    (I2.env0.make C us []) (hb _ (Value.ref (s.heap.objs.size + 1) :: us) I2.kIn hl) r2 hq) fun r s' hq' => ?_))
  cases r with
  | error e => exact hx pins σ _ _ e s' I2 hq'
  | ok fl =>
    cases fl with
    | ret u =>
      obtain ⟨v, H', I3, rv, ev, q3⟩ := I2.after hq'
      subst ev
      exact ⟨rv, ⟨V.ref (s.heap.objs.size + 1), H', I3, rfl, q3⟩⟩
    | next => exact False.elim hq'
    | brk => exact False.elim hq'
    | cont => exact False.elim hq'
theorem pe_make (M : Mk X.K C f) (F : FnOk X.prog X.w X.K X.mg X.base CX k f fd ps sp) (hr : Room (k + 1) X.A) (hg : Gl X x) (hm : X.mg x = some (.ref C)) (hb : Binds X.K fd ps ds) (hd : Vals dvs ds) (hx : Passes CX X E)
    (ha : PA X (e :: es) t) (hdb : (x == ("__debug__" : Str)) = false := by decide) (he : starEach (e :: es) X.env = (false, eval e X.env) :: starEach es X.env := by rfl) (hpl : (backTo pos (starEach es X.env)).any (·.1) = false := by rfl) :
    PE X (.Call (.Name x p) (e :: es) [] pos) (tMake C sp dvs E t) := by
  intro pins s σ H Q I h
  refine wpAny_Call_Name_kw (ld_glob I hg hm ?_ hdb)
  refine PySem.W.callWith_K (h₀ := X.base) I.ok.mod.kin M.kp (thn (ha pos pins s σ H _ I h) fun us s1 ⟨vs, H1, I1, r, q⟩ => ⟨I1.kIn, ?_⟩) he hpl
  exact run_make M F hr hb hd hx I1 r q
end
section
variable {X : Cx} {CX : CXT} {k : Nat} {f C : Addr} {fd : FuncData} {ps ks : List Str} {sp : Sp} {E : XK} {x m : Str} {p pos apos kpos : Pos} {e o : Expr} {es : List Expr} {kws : List Keyword} {te ta : TE} {t tk : TA} {nm : Option Str}
variable {g : List Value → List Value → List Value} {gV : List V → List V → List V}
end
structure FnScope (N P : List Str) (sc : Scope) : Prop where
  kind : sc.kind = .function
  co : sc.isCoroutine = false
  gen : sc.isGenerator = false
  nd : N.Nodup
  pre : N.take P.length = P
  par : ∀ x ∈ P, sc.names.lookup x = some .local ∨ sc.names.lookup x = some .cell
  nofree : ∀ y ∈ sc.names, y.2 ≠ .free
theorem bindL_out {kindOf : Str → Option NameKind} {x : Str} : ∀ {binds : List (Str × Value)} {m : Str → Option Value}, (∀ v, (x, v) ∉ binds) → bindL kindOf binds m x = m x
  | [], _, _ => rfl
  | (n, v) :: r, m, h => by
    unfold bindL
    rw [bindL_out fun w hw => h w (List.mem_cons_of_mem _ hw)]
    split
    · have : x ≠ n := by rintro rfl; exact h v List.mem_cons_self
      simp [this]
    · rfl
theorem bindC_out {kindOf : Str → Option NameKind} {x : Str} : ∀ {binds : List (Str × Value)} {m : Str → Option Value}, (∀ v, (x, v) ∉ binds) → bindC kindOf binds m x = m x
  | [], _, _ => rfl
  | (n, v) :: r, m, h => by
    unfold bindC
    rw [bindC_out fun w hw => h w (List.mem_cons_of_mem _ hw)]
    split
    · rfl
    · have : x ≠ n := by rintro rfl; exact h v List.mem_cons_self
      simp [this]
theorem bindL_get {kindOf : Str → Option NameKind} {x : Str} {v : Value} : ∀ {P : List Str} {vs : List Value} {i : Nat} {m : Str → Option Value}, P.Nodup → P[i]? = some x → vs[i]? = some v → kindOf x = some .local →
    bindL kindOf (P.zip vs) m x = some v
  | [], _, _, _, _, h, _, _ => by simp at h
  | _ :: _, [], _, _, _, _, h, _ => by simp at h
  | p :: P, w :: vs, 0, m, nd, h1, h2, hk => by
    simp at h1 h2; subst h1; subst h2
    show bindL kindOf ((p, w) :: P.zip vs) m p = _
    unfold bindL
    rw [bindL_out fun v hv => (List.nodup_cons.mp nd).1 (List.of_mem_zip hv).1, if_pos hk]
    simp
  | p :: P, w :: vs, i + 1, m, nd, h1, h2, hk => by
    show bindL kindOf ((p, w) :: P.zip vs) m x = _
    unfold bindL
    exact bindL_get (i := i) (List.nodup_cons.mp nd).2 (by simpa using h1) (by simpa using h2) hk
theorem bindC_get {kindOf : Str → Option NameKind} {x : Str} {v : Value} : ∀ {P : List Str} {vs : List Value} {i : Nat} {m : Str → Option Value}, P.Nodup → P[i]? = some x → vs[i]? = some v → kindOf x ≠ some .local →
    bindC kindOf (P.zip vs) m x = some v
  | [], _, _, _, _, h, _, _ => by simp at h
  | _ :: _, [], _, _, _, _, h, _ => by simp at h
  | p :: P, w :: vs, 0, m, nd, h1, h2, hk => by
    simp at h1 h2; subst h1; subst h2
    show bindC kindOf ((p, w) :: P.zip vs) m p = _
    unfold bindC
    rw [bindC_out fun v hv => (List.nodup_cons.mp nd).1 (List.of_mem_zip hv).1, if_neg hk]
    simp
  | p :: P, w :: vs, i + 1, m, nd, h1, h2, hk => by
    show bindC kindOf ((p, w) :: P.zip vs) m x = _
    unfold bindC
    exact bindC_get (i := i) (List.nodup_cons.mp nd).2 (by simpa using h1) (by simpa using h2) hk
def start (N : List Str) (vs : List V) : St := vs.map some ++ List.replicate (N.length - vs.length) none
def cxOf (CX : CXT) (P : Program) (w : World) (K : PySem.W.Frag) (mg : Str → Option Value) (base : Heap) (N : List Str) (qual : Str) (scope : Scope) (f : Addr) (cd : Value) (A : Around) (outer : List Env) (s : Shared) (H : Hp) (E : XK) : Cx where
  prog := P
  w := w
  K := K
  mg := mg
  base := base
  A := A.deeper (envOfC qual scope s.heap.objs.size f cd)
  N := N
  s₀ := s
  H₀ := H
  env := envOfC qual scope s.heap.objs.size f cd
  outer := outer
  stack := envOfC qual scope s.heap.objs.size f cd :: outer
  ex := []
  calm := true
  fn := fun _ => true
  pn := []
  xe := fun e s' => wpAny (model P w) (A.deeper (envOfC qual scope s.heap.objs.size f cd)) (leaving (envOfC qual scope s.heap.objs.size f cd) e) (fun _ s'' => CX outer H s E e s'') (fun e' s'' => CX outer H s E e' s'') s'
theorem cell_has {sc : Scope} {n : Nat} {x : Str} (h : sc.names.lookup x = some .cell) : ∃ c, (cellsFrom n sc.names []).lookup x = some c := by
  have q := PySem.W.cellsFrom_some sc.names n [] (.inl h)
  exact Option.isSome_iff_exists.mp q
theorem inv_start {CX : CXT} {P : Program} {w : World} {K : PySem.W.Frag} {mg : Str → Option Value} {base : Heap} {N ps : List Str} {qual : Str} {scope : Scope} {f : Addr} {cd : Value} {A : Around} {outer : List Env} {s s1 : Shared} {H : Hp} {E : XK} {us : List Value} {vs : List V}
    (S : FnScope N ps scope) (hd : A.handled = none) (e0 : Env0 P w K mg base A outer s H) (hl : vs.length = ps.length) (r : Vals vs us)
    (x : InCallC s s.heap.objs.size (bindL (envOfC qual scope s.heap.objs.size f cd).kindOf (ps.zip us) fun _ => none) (cellsFrom (s.heap.objs.size + 1) scope.names []) (bindC (envOfC qual scope s.heap.objs.size f cd).kindOf (ps.zip us) fun _ => none) s1) :
    Inv (cxOf CX P w K mg base N qual scope f cd A outer s H E) [] (start N vs) H s1 := by
  have hpl : ps.length ≤ N.length := by have := congrArg List.length S.pre; rw [List.length_take] at this; omega
  obtain ⟨h1, tk, rfl, hk⟩ := x.done
  have noA : ∀ b : Addr, b ∉ (cxOf CX P w K mg base N qual scope f cd A outer s H E).ex := fun b z => absurd (show b ∈ ([] : List Addr) from z) (by simp)
  refine ⟨⟨e0.mod, S.kind, rfl, rfl, Nat.le_refl _, fun y z c h1 h2 => ?_, fun y hy => ?_, fun y c _ h => ?_, fun _ => hd, Around.frames_deeper e0.frames, .inr ⟨rfl, rfl⟩, fun b z => absurd z (noA b), e0.bs, e0.bsz, fun b _ _ => noA b, fun b z => absurd z (noA b), e0.funs, e0.frf⟩,
    rfl, e0.bare, Un.kept hk, ⟨_, x.toInCall.ns, fun i y v h1 h2 h3 => ?_⟩, fun y c h => ⟨_, x.cell y c h⟩, e0.hok.fresh (Nat.le_refl _), fun y c h => ?_, fun p hp => absurd (show p ∈ ([] : List (Addr × Obj)) from hp) (by simp), e0.hok.kept hk, ?_⟩
  · exact name_of_addr x.apart (PySem.mem_of_lookup h1) (PySem.mem_of_lookup h2)
  · have hy : scope.names.lookup y = some .cell ∨ scope.names.lookup y = some .free := hy
    rcases hy with hy | hy
    · exact cell_has hy
    · exact absurd rfl (S.nofree _ (PySem.mem_of_lookup hy))
  · exact Nat.le_of_lt (x.above y c (PySem.mem_of_lookup h))
  · have hi : i < vs.length := by
      unfold start at h2
      by_cases hi : i < vs.length
      · exact hi
      · rw [List.getElem?_append_right (by simpa using hi)] at h2
        rw [List.getElem?_replicate] at h2
        split at h2 <;> cases h2
    have ha : vs[i]? = some v := by
      unfold start at h2
      rw [List.getElem?_append_left (by simpa using hi), List.getElem?_map] at h2
      cases e : vs[i]? with
      | none => rw [e] at h2; cases h2
      | some a => rw [e] at h2; cases h2; rfl
    obtain ⟨u, hu, rv⟩ := r.get ha
    have hp : ps[i]? = some y := by
      rw [← S.pre, List.getElem?_take_of_lt (by omega)]; exact h1
    have ndP : ps.Nodup := by rw [← S.pre]; exact S.nd.sublist (List.take_sublist _ _)
    refine ⟨u, rv, ?_⟩
    rcases S.par y (List.mem_of_getElem? hp) with k | k
    · exact .inl ⟨k, bindL_get ndP hp hu k⟩
    · obtain ⟨c, e⟩ := cell_has (n := s.heap.objs.size + 1) k
      refine .inr ⟨.inl k, c, e, ?_⟩
      have q := x.cell y c e
      rw [bindC_get ndP hp hu (by show scope.names.lookup y ≠ _; rw [k]; decide)] at q
      exact q
  · exact e0.hok.fresh (Nat.le_of_lt (x.above y c (PySem.mem_of_lookup h)))
  · unfold start
    show _ = N.length
    rw [List.length_append, List.length_map, List.length_replicate]
    omega
theorem fn_of {CX : CXT} {P : Program} {w : World} {K : PySem.W.Frag} {mg : Str → Option Value} {base : Heap} {k : Nat} {f : Addr} {name qual : Str} {params : Arguments} {body : List Stmt} {scope : Scope} {dV kV doc pm cdv ct oc : Value} {an od : Option Addr}
    {osl : Array (Option Value)} {N ps : List Str} {sp : Sp} (lk : K.lookup f = some ⟨oc, od, .func (PySem.W.fnOf name qual params body scope dV kV doc pm an cdv ct), osl⟩) (hcd : PySem.W.codeIn K cdv qual = true) (S : FnScope N ps scope)
    (len : ∀ vs H Q E, sp vs H Q E → vs.length = ps.length)
    (hbody : ∀ (A : Around) (outer : List Env) (s : Shared) (H : Hp) (vs : List V) (Q : VK) (E : XK), Room k (A.deeper (envOfC qual scope s.heap.objs.size f cdv)) → sp vs H Q E →
      ∃ t, PSs (cxOf CX P w K mg base N qual scope f cdv A outer s H E) body t ∧ t { nx := fun _ H' => Q .non H', rt := Q } (start N vs) H) :
    FnOk P w K mg base CX (k + 1) f (PySem.W.fnOf name qual params body scope dV kV doc pm an cdv ct) ps sp := by
  refine ⟨len, fun A outer s H args us vs Q E hr e0 hb r hsp => ?_⟩
  have hl := len _ _ _ _ hsp
  have KX : K.In s.heap := e0.mod.kin.keeps fun b o e => (e0.bs b o e).1
  have lim : s.heap.NoLimit := e0.mod.nolimit.keeps fun b o e => (e0.bs b o e).1
  have hkind : ∀ y ∈ ps.zip us, scope.names.lookup y.1 = some .local ∨ (scope.names.lookup y.1 = some .cell ∧ ((cellsFrom (s.heap.objs.size + 1) scope.names []).lookup y.1).isSome = true) := fun ⟨n, v⟩ hy => by
    rcases S.par n (List.of_mem_zip hy).1 with q | q
    · exact .inl q
    · exact .inr ⟨q, PySem.W.cellsFrom_some _ _ _ (.inl q)⟩
  refine codeAny_call_function hr.depth (KX _ _ lk) rfl S.co S.gen rfl (PySem.W.codeRec_of KX hcd) (hb _ _ _ _ ?_)
  refine wpAny_newFunctionEnv_cells S.kind hkind fun env he s1 x => ?_
  subst he
  refine ⟨lim.keeps x.toInCall.keep, codeAny_func ?_⟩
  obtain ⟨t, ht, hq⟩ := hbody A outer s H vs Q E (hr.deeper _) hsp
  have I : Inv (cxOf CX P w K mg base N qual scope f cdv A outer s H E) [] (start N vs) H s1 := inv_start S hr.hd e0 hl r x
  refine wpAny_mono (ht [] s1 (start N vs) H _ I hq) (fun fl s' hs => ?_) fun e s' hs => hs
  have fin : ∀ {σ' : St} {H' : Hp} {v : V} {u : Value}, Inv (cxOf CX P w K mg base N qual scope f cdv A outer s H E) [] σ' H' s' → RelV v u → Q v H' → CE outer P w H s Q u s' :=
    fun {σ' H' v u} J rv q => ⟨v, H', J.os, J.bare, J.base, J.hok, rv, q⟩
  cases fl with
  | ret u =>
    obtain ⟨v, σ', H', J, rv, q⟩ := hs
    exact fin J rv q
  | next =>
    obtain ⟨σ', H', J, q⟩ := hs
    exact fin (v := V.non) (u := Value.none) J rfl q
  | brk =>
    obtain ⟨_, _, _, q⟩ := hs
    exact False.elim q
  | cont =>
    obtain ⟨_, _, _, q⟩ := hs
    exact False.elim q
end L2
namespace L2
open PySem PySem.Spec PyProof.Rows
section
variable {X : Cx} {x : Str} {p pos : Pos} {e : Expr} {es : List Expr} {t : TA} {id T : String} {r : List V → Hp → VK → Prop}
def tCB (r : List V → Hp → VK → Prop) (t : TA) : TE := fun σ H Q => t σ H fun vs H1 => r vs H1 Q
theorem pe_callB (hc : CallR X (.builtin id) r) (hg : Gl X x) (hm : X.mg x = none) (hv : bootBuiltins x = some (.builtin id)) (ha : PA X (e :: es) t) (hn : x ≠ "__name__" := by decide) (hdb : (x == ("__debug__" : Str)) = false := by decide)
    (he : starEach (e :: es) X.env = (false, eval e X.env) :: starEach es X.env := by rfl) (hpl : (backTo pos (starEach es X.env)).any (·.1) = false := by rfl) : PE X (.Call (.Name x p) (e :: es) [] pos) (tCB r t) := by
  intro pins s σ H Q I h
  refine wpAny_Call_Name_kw (ld_blt I hg hm hv ?_ hn hdb)
  exact PyProof.Rows.callWith_builtin1 (thn (ha pos pins s σ H _ I h) fun us s1 ⟨vs, H1, I1, r1, q1⟩ => hc pins s1 σ H1 vs us Q I1 r1 q1) he hpl
theorem pe_callTy (hc : CallR X (.type T) r) (hg : Gl X x) (hm : X.mg x = none) (hv : bootBuiltins x = some (.type T)) (ha : PA X (e :: es) t) (hn : x ≠ "__name__" := by decide) (hdb : (x == ("__debug__" : Str)) = false := by decide)
    (he : starEach (e :: es) X.env = (false, eval e X.env) :: starEach es X.env := by rfl) (hpl : (backTo pos (starEach es X.env)).any (·.1) = false := by rfl) : PE X (.Call (.Name x p) (e :: es) [] pos) (tCB r t) := by
  intro pins s σ H Q I h
  refine wpAny_Call_Name_kw (ld_blt I hg hm hv ?_ hn hdb)
  exact PyProof.Rows.callWith_type1 (thn (ha pos pins s σ H _ I h) fun us s1 ⟨vs, H1, I1, r1, q1⟩ => hc pins s1 σ H1 vs us Q I1 r1 q1) he hpl
end
end L2
namespace HT
open PySem PyProof.Rows
theorem rcLt_int (A : Around) (s : Shared) (a : Int) (t : Tok) (c : Int) (u : Tok) (prog : Program) (w : World) (E : Value → Shared → Prop) (Q : Value → Shared → Prop) (h : Q (.bool (decide (a < c))) s) :
    wpAny (model prog w) A (richCompare .Lt (.int a t) (.int c u)) Q E s :=
  (PyProof.Rows.lt_int h : wpAny (model prog w) A (compareOp .Lt (.int a t) (.int c u)) Q E s)
section
open PySem.SeqAt
open PySem.AutoSeq1 (wpAny_loadPart')
open PySem.MeetsSeq PySem.MeetsSeq2 PySem.MeetsSeq3
end
section
variable {prog : Program} {w : World} {A : Around} {E : Value → Shared → Prop} {s : Shared}
def sIx (n d : Nat) : Option Int → Nat
  | none => d
  | some v => if v < 0 then (v + (n : Int)).toNat else min v.toNat n
theorem sIx_none (n d : Nat) : sIx n d none = d := rfl
theorem sIx_nat (n d k : Nat) : sIx n d (some (k : Int)) = min k n := by
  show (if (k : Int) < 0 then ((k : Int) + (n : Int)).toNat else min (k : Int).toNat n) = min k n
  rw [if_neg (by omega), Int.toNat_natCast]
end
end HT
namespace L2
open PySem PySem.Spec PyProof.Rows
abbrev TO := St → Hp → (Option Int → Hp → Prop) → Prop
def PO (X : Cx) (e : Option Expr) (t : TO) : Prop :=
  ∀ (pins : List (Addr × Obj)) (s : Shared) (σ : St) (H : Hp) (Q : Option Int → Hp → Prop), Inv X pins σ H s → t σ H Q →
    wpAny (model X.prog X.w) X.A (evalPart e X.env) (fun u s' => ∃ o H', Inv X pins σ H' s' ∧ IsPart u o ∧ Q o H') X.xe s
def tNoPart : TO := fun _ H Q => Q none H
def tPart (t : TE) : TO := fun σ H Q => t σ H fun x H1 => ∃ i, x = .int i ∧ Q (some i) H1
section
variable {X : Cx} {e : Expr} {te : TE} {lo hi : Option Expr} {tl th : TO} {pos p2 : Pos}
theorem po_none : PO X none tNoPart := by
  intro pins s σ H Q I h
  rw [evalPart_none]
  exact wpAny_pure ⟨none, H, I, .none, h⟩
theorem po_some (h : PE X e te) : PO X (some e) (tPart te) := by
  intro pins s σ H Q I hw
  rw [evalPart_some]
  refine thn (h pins s σ H _ I hw) fun u s1 ⟨x, H1, I1, r1, q1⟩ => ?_
  obtain ⟨i, rfl, q⟩ := q1
  obtain ⟨t, rfl⟩ := r1
  exact ⟨some i, H1, I1, .int i t, q⟩
def SlR (X : Cx) (r : V → Option Int → Option Int → Hp → VK → Prop) : Prop :=
  ∀ (pins : List (Addr × Obj)) (s : Shared) (σ : St) (H : Hp) (x : V) (v vl vu : Value) (lo hi : Option Int) (sl : Addr) (Q : VK), Inv X pins σ H s → RelV x v → s.heap.IsSliceOf sl vl vu .none → IsPart vl lo → IsPart vu hi → r x lo hi H Q →
    ∃ T id, typeLookup (.type T) "__getitem__" = pure (some (.builtin id)) ∧ s.TypeIs v T ∧ wpAny (model X.prog X.w) X.A (getItem v (.ref sl)) (EP X pins σ Q) X.xe s
def tSl (r : V → Option Int → Option Int → Hp → VK → Prop) (te : TE) (tl th : TO) : TE := fun σ H Q => te σ H fun x H1 => tl σ H1 fun l H2 => th σ H2 fun u H3 => r x l u H3 Q
theorem pe_slice {r : V → Option Int → Option Int → Hp → VK → Prop} (hr : SlR X r) (he : PE X e te) (hl : PO X lo tl) (hu : PO X hi th) : PE X (.Subscript e (.Slice lo hi none p2) pos) (tSl r te tl th) := by
  intro pins s σ H Q I h
  refine Subscript_ (thn (he pins s σ H _ I h) fun v s1 ⟨x, H1, I1, r1, q1⟩ => ?_)
  refine wpAny_Slice (thn (hl pins s1 σ H1 _ I1 q1) fun vl s2 ⟨l, H2, I2, pl, q2⟩ => thn (hu pins s2 σ H2 _ I2 q2) fun vu s3 ⟨u, H3, I3, pu, q3⟩ => ?_)
  rw [evalPart_none]
  refine wpAny_pure ?_
  have I4 : Inv X pins σ H3 { s3 with heap := s3.heap.push { cls := .type "slice", data := .fields #[vl, vu, .none] } } := I3.kept (t' := s3.toks) fun b ob q => Heap.get?_push_of_some _ q
  obtain ⟨T, id, hT, ht, hg⟩ := hr pins { s3 with heap := s3.heap.push { cls := .type "slice", data := .fields #[vl, vu, .none] } } σ H3 x v vl vu l u s3.heap.objs.size Q I4 r1 (Heap.IsSliceOf.new ..) pl pu q3
  show wpAny (model X.prog X.w) X.A (subscriptTail e (.Slice lo hi none p2) v (.ref s3.heap.objs.size)) (EP X pins σ Q) X.xe { s3 with heap := s3.heap.push { cls := .type "slice", data := .fields #[vl, vu, .none] } }
  exact tail_any (ops := [.ref s3.heap.objs.size, v]) ht hT hg (by with_unfolding_all rfl)
def cutV (xs : List V) (lo hi : Option Int) : List V := (xs.drop (HT.sIx xs.length 0 lo)).take (HT.sIx xs.length xs.length hi - HT.sIx xs.length 0 lo)
theorem cutV_length (xs : List V) (lo hi : Option Int) : (cutV xs lo hi).length ≤ xs.length := by
  unfold cutV
  rw [List.length_take, List.length_drop]
  omega
end
end L2
namespace L2
open PySem PySem.Spec PyProof.Rows
def ixN (n : Nat) (i : Int) : Option Nat := if 0 ≤ i then (if i < n then some i.toNat else none) else if -(n : Int) ≤ i then some (i + n).toNat else none
def atI {α : Type} (xs : List α) (i : Int) : Option α := (ixN xs.length i).bind fun j => xs[j]?
theorem ixN_seq {n : Nat} {i : Int} {j : Nat} (h : ixN n i = some j) : seqIndex? i n = some j ∧ j < n ∧ -(n : Int) ≤ i ∧ i < n := by
  unfold ixN at h
  by_cases h0 : 0 ≤ i
  · rw [if_pos h0] at h
    by_cases h1 : i < n
    · rw [if_pos h1] at h
      have e : i.toNat = j := Option.some.inj h
      exact ⟨by rw [seqIndex_of h0 h1, e], by omega, by omega, h1⟩
    · rw [if_neg h1] at h; cases h
  · rw [if_neg h0] at h
    by_cases h1 : -(n : Int) ≤ i
    · rw [if_pos h1] at h
      have e : (i + n).toNat = j := Option.some.inj h
      exact ⟨by rw [seqIndex_neg (by omega) h1, e], by omega, h1, by omega⟩
    · rw [if_neg h1] at h; cases h
theorem atI_get {α : Type} {xs : List α} {i : Int} {v : α} (h : atI xs i = some v) : ∃ j, seqIndex? i xs.length = some j ∧ xs[j]? = some v ∧ j < xs.length ∧ -(xs.length : Int) ≤ i ∧ i < xs.length := by
  unfold atI at h
  cases e : ixN xs.length i with
  | none => rw [e] at h; cases h
  | some j =>
    rw [e] at h
    obtain ⟨h1, h2, h3, h4⟩ := ixN_seq e
    exact ⟨j, h1, h, h2, h3, h4⟩
def PlainIx (b : Expr) : Prop := ∀ o i, subscripted b false o i = operate [o, i] (getItem o i)
def IxR (X : Cx) (r : R2) : Prop :=
  ∀ (value slice : Expr) (pins : List (Addr × Obj)) (s : Shared) (σ : St) (H : Hp) (x y : V) (v u : Value) (Q : VK), Inv X pins σ H s → RelV x v → RelV y u → r x y H Q →
    subscripted slice false v u = operate [v, u] (getItem v u) → wpAny (model X.prog X.w) X.A (subscriptTail value slice v u) (EP X pins σ Q) X.xe s
def MtR (X : Cx) (id : String) (r : V → List V → Hp → VK → Prop) : Prop :=
  ∀ (pins : List (Addr × Obj)) (s : Shared) (σ : St) (H : Hp) (x : V) (xs : List V) (v : Value) (us : List Value) (Q : VK), Inv X pins σ H s → RelV x v → Vals xs us → r x xs H Q →
    wpAny (model X.prog X.w) X.A (call (.builtin id) (v :: us)) (EP X pins σ Q) X.xe s
section
variable {X : Cx} {a b : Expr} {ta tb : TE} {pos : Pos}
theorem pe_ix {r : R2} (hr : IxR X r) (ha : PE X a ta) (hb : PE X b tb) (hs : PlainIx b) : PE X (.Subscript a b pos) (tOp r ta tb) := by
  intro pins s σ H Q I h
  exact Subscript_ (binT ha hb I h fun v u s2 x y H2 I2 rx ry q => hr a b pins s2 σ H2 x y v u Q I2 rx ry q (hs _ _))
def rIxL (K : PySem.W.Frag) : R2 := fun x y H Q => ∃ p xs i v, x = .ref p ∧ y = .int i ∧ SqL K H p xs ∧ atI xs i = some v ∧ Q v H
theorem ix_list : IxR X (rIxL X.K) := by
  intro value slice pins s σ H x y v u Q I rx ry h hs
  obtain ⟨p, xs, i, z, rfl, rfl, hq, he, q⟩ := h
  cases rx
  obtain ⟨t, rfl⟩ := ry
  obtain ⟨its, r, pl, hz⟩ := I.list hq
  obtain ⟨j, h1, h2, h3, h4, h5⟩ := atI_get he
  obtain ⟨w, ew, rw'⟩ := r.get h2
  have hl := r.length
  have hn := line63
  have fin : EP X pins σ Q w s := ⟨z, H, I, rw', q⟩
  by_cases h0 : 0 ≤ i
  · have hj : i.toNat = j := by
      rw [seqIndex_of h0 h5] at h1
      exact Option.some.inj h1
    exact item_listR pl.isList h0 (by omega) (by rw [hj]; simpa using ew) fin hs
  · have hj : (i + (its.toArray.size : Int)).toNat = j := by
      rw [seqIndex_neg (by omega) h4] at h1
      rw [List.size_toArray, ← hl]
      exact Option.some.inj h1
    exact subscriptTail_builtinR (x := w) pl.isList.typeIs slot_list_getitem.lookup
      (wpAny_getItem_list_neg (Q := fun r s' => r = w ∧ EP X pins σ Q r s') pl.isList (by omega) (by rw [List.size_toArray] <;> omega) (by omega) (by rw [hj]; simpa using ew) ⟨rfl, fin⟩) hs
theorem mapSeq_set (its : List Value) (n j : Nat) (u : Value) : Obj.mapSeq (·.setIfInBounds j u) { cls := .type "list", data := .seq its.toArray n } = { cls := .type "list", data := .seq (its.set j u).toArray n } := by
  simp [Obj.mapSeq]
theorem Inv.lst {pins : List (Addr × Obj)} {σ : St} {H : Hp} {s : Shared} {p : Addr} {xs : List V} (I : Inv X pins σ H s) (h : H p = some (.lst xs)) :
    ∃ (its : List Value) (n : Nat), Vals xs its ∧ s.heap.get? p = some { cls := .type "list", data := .seq its.toArray n } ∧ xs.length ≤ sizeLine := by
  obtain ⟨z, its, n, r, e⟩ := I.hok p _ h
  exact ⟨its, n, r, e, z⟩
theorem Inv.lstUpd {pins : List (Addr × Obj)} {σ : St} {H : Hp} {s : Shared} {p : Addr} {xs ys : List V} {its its' : List Value} {n n' : Nat} {f : Obj → Obj} (I : Inv X pins σ H s) (h : H p = some (.lst xs))
    (ho : s.heap.get? p = some { cls := .type "list", data := .seq its.toArray n }) (hf : f { cls := .type "list", data := .seq its.toArray n } = { cls := .type "list", data := .seq its'.toArray n' }) (r : Vals ys its') (hz : ys.length ≤ sizeLine) (t : Nat) :
    Inv X pins σ (upd H p (.lst ys)) { s with heap := s.heap.update p f, toks := t } := by
  have e : (s.heap.update p f).get? p = some { cls := .type "list", data := .seq its'.toArray n' } := by
    rw [Heap.get?_update_self f ho (by rw [hf] <;> rfl), hf]
  refine I.write (x := p) (e := p) (by rw [h]; trivial) (.inl rfl) (fun b u hb q => (Heap.get?_update_other _ _ (Ne.symm hb)).trans q) ⟨_, e⟩ ?_
  exact ⟨hz, its', n', r, e⟩
def rSetL : V → V → V → Hp → (Hp → Prop) → Prop := fun o i v H Q => ∃ p xs k j, o = .ref p ∧ i = .int k ∧ H p = some (.lst xs) ∧ ixN xs.length k = some j ∧ Q (upd H p (.lst (xs.set j v)))
theorem set_list : PSet X rSetL := by
  intro pins s σ H o i v ov iv u Q I ro ri rv h
  obtain ⟨p, xs, k, j, rfl, rfl, hp, hj, q⟩ := h
  cases ro
  obtain ⟨t, rfl⟩ := ri
  obtain ⟨its, n, r, ho, hz⟩ := I.lst hp
  obtain ⟨h1, h2, h3, h4⟩ := ixN_seq hj
  have hl := r.length
  have hn := line63
  have I' : Inv X pins σ (upd H p (.lst (xs.set j v))) { s with heap := s.heap.update p (Obj.mapSeq (·.setIfInBounds j u)) } :=
    I.lstUpd hp ho (mapSeq_set its n j u) (r.set rv j) (by rw [List.length_set]; exact hz) s.toks
  by_cases h0 : 0 ≤ k
  · have hk : k.toNat = j := by
      rw [seqIndex_of h0 h4] at h1
      exact Option.some.inj h1
    exact PySem.W.ki_setAt ho h0 (by omega) (by rw [List.size_toArray, ← hl]; exact h4) (by rw [hk]; exact ⟨_, I', q⟩)
  · have hk : (k + (its.toArray.size : Int)).toNat = j := by
      rw [seqIndex_neg (by omega) h3] at h1
      rw [List.size_toArray, ← hl]
      exact Option.some.inj h1
    exact PySem.W.ki_setBack ho (by omega) (by rw [List.size_toArray, ← hl]; exact h3) (by omega) (by rw [hk]; exact ⟨_, I', q⟩)
theorem slice_bounds (lo hi : Option Int) (n : Nat) : (sliceBounds lo hi none n).1 = ((HT.sIx n 0 lo : Nat) : Int) ∧ (sliceBounds lo hi none n).2.1 = ((HT.sIx n n hi : Nat) : Int) ∧ (sliceBounds lo hi none n).2.2 = 1 := by
  refine ⟨?_, ?_, rfl⟩
  · cases lo with
    | none => simp [sliceBounds, HT.sIx]
    | some i =>
      simp only [sliceBounds, HT.sIx, Option.getD_none, show (1 : Int) > 0 by decide, if_true]
      by_cases h : i < 0
      · simp only [h, if_true] <;> omega
      · simp only [h, if_false] <;> omega
  · cases hi with
    | none => simp [sliceBounds, HT.sIx]
    | some i =>
      simp only [sliceBounds, HT.sIx, Option.getD_none, show (1 : Int) > 0 by decide, if_true]
      by_cases h : i < 0
      · simp only [h, if_true] <;> omega
      · simp only [h, if_false] <;> omega
theorem slicePick_cut (its : List Value) (lo hi : Option Int) : slicePick its.toArray lo hi none = ((its.drop (HT.sIx its.length 0 lo)).take (HT.sIx its.length its.length hi - HT.sIx its.length 0 lo)).toArray := by
  obtain ⟨h1, h2, h3⟩ := slice_bounds lo hi its.toArray.size
  unfold slicePick
  rw [h1, h2, h3]
  simp only [sliceRange_one, pick_run, List.size_toArray] <;> rfl
def rSlL (K : PySem.W.Frag) : V → Option Int → Option Int → Hp → VK → Prop := fun x lo hi H Q => ∃ a xs, x = .ref a ∧ SqL K H a xs ∧ ∀ p, H p = none → Q (.ref p) (upd H p (.lst (cutV xs lo hi)))
theorem sl_list : SlR X (rSlL X.K) := by
  intro pins s σ H x v vl vu lo hi sl Q I rx hs pl pu h
  obtain ⟨a, xs, rfl, hx, q⟩ := h
  cases rx
  obtain ⟨its, r, ht, hz⟩ := I.list hx
  have hlen := r.length
  refine ⟨"list", _, slot_list_getitem.lookup, ht.isList.typeIs, ?_⟩
  refine wpAny_getItem_list_slice ht.isList hs pl pu .none (by simp) ?_ (by rw [List.size_toArray] <;> omega)
  rw [slicePick_cut, ← hlen]
  refine ⟨.ref s.heap.objs.size, _, I.laid (t' := s.toks) (o := .lst (cutV xs lo hi)) (fun b ob q => Heap.get?_push_of_some _ q) (Nat.le_refl _) ?_, rfl, q _ (I.hok.fresh (Nat.le_refl _))⟩
  exact ⟨Nat.le_trans (cutV_length xs lo hi) hz, _, 0, (r.drop (HT.sIx xs.length 0 lo)).take (HT.sIx xs.length xs.length hi - HT.sIx xs.length 0 lo), Heap.get?_push_size _ rfl⟩
def flatV : V → Bool
  | .non => true
  | .bl _ => true
  | .int _ => true
  | .str _ => true
  | _ => false
def eqV : V → V → Bool
  | .non, .non => true
  | .bl a, .bl b => a == b
  | .bl a, .int b => (if a then 1 else 0) == b
  | .int a, .bl b => a == (if b then 1 else 0)
  | .int a, .int b => a == b
  | .str a, .str b => a == b
  | _, _ => false
theorem call_len_seq : CallR X (.builtin "len") (fun xs H Q => ∃ p ys, xs = [.ref p] ∧ (SqL X.K H p ys ∨ SqT X.K H p ys) ∧ Q (.int ys.length) H) := by
  intro pins s σ H xs us Q I r h
  obtain ⟨p, ys, rfl, hq, q⟩ := h
  obtain ⟨u, rfl, rx⟩ := vals1 r
  cases rx
  have hn := line63
  rcases hq with hq | hq
  · obtain ⟨its, r', pl, hz⟩ := I.list hq
    have hlen := r'.length
    exact Calls.call_len_list pl.isList (by simp only [List.size_toArray] <;> omega) ⟨.int ys.length, H, I.tok _, ⟨s.toks + 1, by rw [List.size_toArray, hlen]⟩, q⟩
  · obtain ⟨its, r', pl, hz⟩ := I.tuple hq
    have hlen := r'.length
    exact len_tuple pl (by simp only [List.size_toArray] <;> omega) ⟨.int ys.length, H, I.tok _, ⟨s.toks + 1, by rw [List.size_toArray, hlen]⟩, q⟩
theorem call_list_of : CallR X (.type "list") (fun xs H Q => ∃ p ys, xs = [.ref p] ∧ (SqL X.K H p ys ∨ SqT X.K H p ys) ∧ ∀ l, H l = none → Q (.ref l) (upd H l (.lst ys))) := by
  intro pins s σ H xs us Q I r h
  obtain ⟨p, ys, rfl, hq, q⟩ := h
  obtain ⟨u, rfl, rx⟩ := vals1 r
  cases rx
  have fin : ∀ (its : List Value), Vals ys its → ys.length ≤ sizeLine → ∀ (h' : Heap) (c' : Nat), (∀ b o', s.heap.get? b = some o' → h'.get? b = some o') →
      h'.get? s.heap.objs.size = some { cls := .type "list", dict := none, data := .seq its.toArray c', slots := #[] } → EP X pins σ Q (.ref s.heap.objs.size) { s with heap := h' } := fun its r' hz h' c' kp e =>
    ⟨.ref s.heap.objs.size, _, I.laid (t' := s.toks) kp (Nat.le_refl _) (show ObjOk X.prog X.w _ h' _ (.lst ys) from ⟨hz, its, c', r', e⟩), rfl, q _ (I.hok.fresh (Nat.le_refl _))⟩
  rcases hq with hq | hq
  · obtain ⟨its, r', pl, hz⟩ := I.list hq
    have hlen := r'.length
    obtain ⟨o, ho, hc, n, hd⟩ := pl.isList
    exact call_list_seq p (.inl rfl) ho hc hd (fun h' c' kp e => fin its r' hz h' c' kp e) (by simp only [List.size_toArray] <;> omega)
  · obtain ⟨its, r', pl, hz⟩ := I.tuple hq
    have hlen := r'.length
    obtain ⟨o, ho, hc, n, hd⟩ := pl
    exact call_list_seq p (.inr rfl) ho hc hd (fun h' c' kp e => fin its r' hz h' c' kp e) (by simp only [List.size_toArray] <;> omega)
theorem call_tuple_of : CallR X (.type "tuple") (fun xs H Q => ∃ p ys, xs = [.ref p] ∧ ((SqL X.K H p ys ∧ ∀ l, H l = none → Q (.ref l) (upd H l (.tup ys))) ∨ (SqT X.K H p ys ∧ Q (.ref p) H))) := by
  intro pins s σ H xs us Q I r h
  obtain ⟨p, ys, rfl, h⟩ := h
  obtain ⟨u, rfl, rx⟩ := vals1 r
  cases rx
  rcases h with ⟨hq, q⟩ | ⟨hq, q⟩
  · obtain ⟨its, r', pl, hz⟩ := I.list hq
    have hlen := r'.length
    refine call_tuple_list pl.isList (fun h' kp => ?_) (by simp only [List.size_toArray] <;> omega)
    have I1 : Inv X pins σ H { s with heap := h' } := I.kept (t' := s.toks) kp
    have I2 : Inv X pins σ (upd H h'.objs.size (.tup ys)) { s with heap := h'.push { cls := .type "tuple", data := .seq its.toArray } } :=
      I1.laid (t' := s.toks) (fun b o e => Heap.get?_push_of_some _ e) (Nat.le_refl _) (show ObjOk X.prog X.w _ _ _ (.tup ys) from ⟨hz, its, r', IsTup.new _ _⟩)
    exact ⟨.ref h'.objs.size, _, I2, rfl, q _ (I1.hok.fresh (Nat.le_refl _))⟩
  · obtain ⟨its, r', pl, hz⟩ := I.tuple hq
    exact call_tuple_same pl ⟨.ref p, H, I, rfl, q⟩
def tyV (K : PySem.W.Frag) (T : String) (x : V) (H : Hp) : Prop := match x with
  | .str _ => T = "str"
  | .int _ => T = "int"
  | .ref p => (T = "list" ∧ ∃ xs, SqL K H p xs) ∨ (T = "tuple" ∧ ∃ o, K.lookup p = some o ∧ o.cls = .type "tuple" ∧ o.dict = none) ∨
      (T = "dict" ∧ ((∃ kvs, H p = some (.dK kvs)) ∨ ∃ kvs, H p = some (.dT kvs))) ∨ (T = "set" ∧ ∃ S n, H p = some (.set S n))
  | _ => False
theorem tyV_is {pins : List (Addr × Obj)} {σ : St} {H : Hp} {s : Shared} {T : String} {x : V} {v : Value} (I : Inv X pins σ H s) (r : RelV x v) (ty : tyV X.K T x H) :
    s.TypeIs v T ∧ ∀ a, v = .ref a → ∃ ob, s.heap.get? a = some ob ∧ ob.dict = none := by
  cases x with
  | str z =>
    obtain ⟨t, rfl⟩ := r
    cases (show T = "str" from ty)
    exact ⟨typeIs_str s z t, fun _ e => nomatch e⟩
  | int i =>
    obtain ⟨t, rfl⟩ := r
    cases (show T = "int" from ty)
    exact ⟨typeIs_int s i t, fun _ e => nomatch e⟩
  | ref p =>
    cases r
    rcases ty with ⟨rfl, xs, hq⟩ | ⟨rfl, o, hk, hc, hd⟩ | ⟨rfl, hk⟩ | ⟨rfl, S, n, hk⟩
    · obtain ⟨its, _, pl, _⟩ := I.list hq
      refine ⟨pl.isList.typeIs, fun a e => ?_⟩
      cases e
      obtain ⟨o, n, e, c, hd, _⟩ := pl
      exact ⟨o, e, hd⟩
    · refine ⟨⟨o, I.kIn p o hk, hc⟩, fun a e => ?_⟩
      cases e
      exact ⟨o, I.kIn _ o hk, hd⟩
    · have z : ∃ o, s.heap.get? p = some o ∧ o.ExactDict := by
        rcases hk with ⟨kvs, hk⟩ | ⟨kvs, hk⟩
        · obtain ⟨_, _, _, _, o, _, _, e, ex, _⟩ := I.hok p _ hk
          exact ⟨o, e, ex⟩
        · obtain ⟨_, _, _, _, o, _, _, e, ex, _⟩ := I.hok p _ hk
          exact ⟨o, e, ex⟩
      obtain ⟨o, e, ex⟩ := z
      refine ⟨⟨o, e, ex.1⟩, fun a e2 => ?_⟩
      cases e2
      exact ⟨o, e, ex.2.1⟩
    · obtain ⟨o, _, _, _, e, ex, _⟩ := I.hok p _ hk
      refine ⟨⟨o, e, ex.1⟩, fun a e2 => ?_⟩
      cases e2
      exact ⟨o, e, ex.2.1⟩
  | _ => exact False.elim ty
def tBM0 (K : PySem.W.Frag) (T : String) (r : V → List V → Hp → VK → Prop) (to : TE) : TE := fun σ H Q => to σ H fun x H1 => tyV K T x H1 ∧ r x [] H1 Q
def tBM (K : PySem.W.Frag) (T : String) (r : V → List V → Hp → VK → Prop) (to : TE) (t : TA) : TE := fun σ H Q => to σ H fun x H1 => tyV K T x H1 ∧ t σ H1 fun xs H2 => r x xs H2 Q
variable {o e : Expr} {es : List Expr} {to : TE} {t : TA} {name : Str} {apos cpos : Pos} {T id : String} {r : V → List V → Hp → VK → Prop}
theorem pe_bm0 (pa : PlainAttrs T) (slot : Slot T name id) (hty : typeOf (.builtin id) = pure (.type "method_descriptor")) (hm : MtR X id r) (ho : PE X o to)
    (hbase : attributeBase o name X.env (eval o X.env) = eval o X.env := by rfl) (hline : (apos.endLine == cpos.line) = true := by rfl) : PE X (.Call (.Attribute o name apos) [] [] cpos) (tBM0 X.K T r to) := by
  intro pins s σ H Q I h
  refine wpAny_Call_method0_late hbase hline (thn (ho pins s σ H _ I h) fun v s1 ⟨x, H1, I1, r1, ty, q1⟩ => ?_)
  obtain ⟨h1, h2⟩ := tyV_is I1 r1 ty
  exact ⟨T, id, pa, slot, hty, h1, h2, Calls.callWith_builtin rfl (PySem.evalArgs_none (hm pins s1 σ H1 x [] v [] Q I1 r1 .nil q1))⟩
theorem pe_bm (pa : PlainAttrs T) (slot : Slot T name id) (hty : typeOf (.builtin id) = pure (.type "method_descriptor")) (hm : MtR X id r) (ho : PE X o to) (ha : PA X (e :: es) t)
    (hbase : attributeBase o name X.env (eval o X.env) = eval o X.env := by rfl)
    (hfew : ((backTo cpos (starEach (e :: es) X.env)).all (fun x => !x.1) && (backToKw cpos (keywordEach [] X.env)).all (fun x => x.1.isSome)
      && decide ((e :: es).length + ([] : List Keyword).length + (if ([] : List Keyword).isEmpty then 0 else 1) < 30)) = true := by rfl)
    (hline : (apos.endLine == cpos.line) = true := by rfl) (hs : starEach (e :: es) X.env = (false, eval e X.env) :: starEach es X.env := by rfl) (hplain : (backTo cpos (starEach es X.env)).any (·.1) = false := by rfl) :
    PE X (.Call (.Attribute o name apos) (e :: es) [] cpos) (tBM X.K T r to t) := by
  intro pins s σ H Q I h
  refine wpAny_Call_method_late hbase hfew hline rfl (thn (ho pins s σ H _ I h) fun v s1 ⟨x, H1, I1, r1, ty, q1⟩ => ?_)
  obtain ⟨h1, h2⟩ := tyV_is I1 r1 ty
  refine ⟨T, id, pa, slot, hty, h1, h2, ?_⟩
  have hA := ha cpos pins s1 σ H1 _ I1 q1
  rw [hs] at hA ⊢
  refine Calls.callWith_builtin (by show (false || (backTo cpos (starEach es X.env)).any (·.1)) = false; rw [hplain] <;> rfl) (Calls.evalArgs_plain ?_)
  exact thn hA fun us s2 ⟨vs, H2, I2, r2, q2⟩ => hm pins s2 σ H2 x vs v us Q I2 r1 r2 q2
/- xs.append(e), list.index on a module's tuple .. are MtR facts of 06m -/
end
end L2
namespace L2
open PySem PySem.Spec PyProof.Rows
def MtM (X : Cx) (id : String) (r : V → List V → Hp → VK → Prop) : Prop :=
  ∀ (pins : List (Addr × Obj)) (s : Shared) (σ : St) (H : Hp) (x : V) (xs : List V) (v : Value) (us : List Value) (Q : VK), Inv X pins σ H s → RelV x v → Vals xs us → r x xs H Q →
    wpAny (model X.prog X.w) X.A (call (.builtin id) (v :: us)) (EP X pins σ Q) X.xe s
theorem Vals.one : ∀ {x : V} {us : List Value}, Vals [x] us → ∃ u, us = [u] ∧ RelV x u
  | _, _, .cons r .nil => ⟨_, rfl, r⟩
theorem Vals.zero : ∀ {us : List Value}, Vals [] us → us = []
  | _, .nil => rfl
theorem Vals.dropLast {xs : List V} {us : List Value} (h : Vals xs us) : Vals xs.dropLast us.dropLast := by
  induction h with
  | nil => exact .nil
  | cons r t ih =>
    cases t with
    | nil => exact .nil
    | cons q t' => exact .cons r ih
theorem Vals.eraseIdx : ∀ {xs : List V} {us : List Value} (i : Nat), Vals xs us → Vals (xs.eraseIdx i) (us.eraseIdx i)
  | _, _, _, .nil => .nil
  | _, _, 0, .cons _ t => t
  | _, _, i + 1, .cons r t => .cons r (Vals.eraseIdx i t)
theorem Vals.reverse {xs : List V} {us : List Value} (h : Vals xs us) : Vals xs.reverse us.reverse := by
  induction h with
  | nil => exact .nil
  | cons r t ih => rw [List.reverse_cons, List.reverse_cons]; exact Vals.append ih (.cons r .nil)
theorem erase_last {α : Type} (l : List α) : l.eraseIdx (l.length - 1) = l.dropLast := by
  induction l with
  | nil => rfl
  | cons a r ih =>
    cases r with
    | nil => rfl
    | cons b r =>
      have e : (a :: b :: r).length - 1 = ((b :: r).length - 1) + 1 := by
        have h1 : (a :: b :: r).length = r.length + 2 := rfl
        have h2 : (b :: r).length = r.length + 1 := rfl
        omega
      rw [e, List.eraseIdx_cons_succ, ih]
      all_goals rfl
section
variable {X : Cx} {pins : List (Addr × Obj)} {σ : St} {H : Hp} {s : Shared} {l b : Addr} {xs ys zs : List V}
theorem Inv.lset {its its' : List Value} {n : Nat} {f : Array Value → Array Value} {t' : Nat} (I : Inv X pins σ H s) (hH : H l = some (.lst xs))
    (e : s.heap.get? l = some { cls := .type "list", data := .seq its.toArray n }) (hf : f its.toArray = its'.toArray) (hv : Vals ys its') (hz : ys.length ≤ sizeLine) :
    Inv X pins σ (upd H l (.lst ys)) { s with heap := s.heap.update l (Obj.mapSeq f), toks := t' } := by
  have q := PySem.IsL.update e f
  rw [hf] at q
  refine I.write (x := l) (e := l) (by rw [hH]; exact trivial) (.inl rfl) (fun b' u hb hu => (Heap.get?_update_other s.heap (Obj.mapSeq f) (Ne.symm hb)).trans hu) ⟨_, q⟩ ?_
  exact ⟨hz, its', _, hv, q⟩
theorem Inv.lnew {its : List Value} {t' : Nat} (I : Inv X pins σ H s) (hv : Vals ys its) (hz : ys.length ≤ sizeLine) :
    Inv X pins σ (upd H s.heap.objs.size (.lst ys)) { s with heap := s.heap.push { cls := .type "list", data := .seq its.toArray }, toks := t' } :=
  I.laid (fun _ _ q => Heap.get?_push_of_some _ q) (Nat.le_refl _) ⟨hz, its, 0, hv, Heap.get?_push_size _ rfl⟩
theorem Inv.fresh (I : Inv X pins σ H s) : H s.heap.objs.size = none := I.hok.fresh (Nat.le_refl _)
theorem Inv.lstM (I : Inv X pins σ H s) (hH : H l = some (.lst xs)) : xs.length ≤ sizeLine ∧ ∃ (its : List Value) (n : Nat), Vals xs its ∧ xs.length = its.length ∧ s.heap.get? l = some { cls := .type "list", data := .seq its.toArray n } := by
  obtain ⟨z, its, n, r, e⟩ := I.hok l _ hH
  exact ⟨z, its, n, r, r.length, e⟩
theorem notLongL {n : Nat} (h : n ≤ sizeLine) : Builtin.List.listTooLong n = false := by
  unfold Builtin.List.listTooLong
  exact decide_eq_false (by omega)
end
section
variable {X : Cx}
def rAppend : V → List V → Hp → VK → Prop := fun x vs H Q => ∃ l xs y, x = .ref l ∧ vs = [y] ∧ H l = some (.lst xs) ∧ xs.length < sizeLine ∧ Q .non (upd H l (.lst (xs ++ [y])))
theorem mt_append : MtM X "list.append" rAppend := by
  intro pins s σ H x vs v us Q I rx rv h
  obtain ⟨l, xs, y, rfl, rfl, hH, hz, q⟩ := h
  cases rx
  obtain ⟨u, rfl, ru⟩ := rv.one
  obtain ⟨z, its, n, r, hl, e⟩ := I.lstM hH
  refine call_meets F.slot_list_append ⟨_, e, rfl⟩ F.entry_list_append (F.args_list_append_2 _ _) (PySem.list_append l its.toArray n u (by rw [List.size_toArray]; omega)) ⟨e, ?_⟩
  refine ⟨.non, _, I.lset (its' := its ++ [u]) hH e (by simp) (r.append (.cons ru .nil)) ?_, rfl, q⟩
  rw [List.length_append, List.length_singleton]
  omega
def rExtend : V → List V → Hp → VK → Prop := fun x vs H Q => ∃ l b xs zs, x = .ref l ∧ vs = [.ref b] ∧ H l = some (.lst xs) ∧ H b = some (.lst zs) ∧ xs.length + zs.length ≤ sizeLine ∧ Q .non (upd H l (.lst (xs ++ zs)))
theorem mt_extend : MtM X "list.extend" rExtend := by
  intro pins s σ H x vs v us Q I rx rv h
  obtain ⟨l, b, xs, zs, rfl, rfl, hH, hB, hz, q⟩ := h
  cases rx
  obtain ⟨u, rfl, ru⟩ := rv.one
  cases ru
  obtain ⟨z, its, n, r, hl, e⟩ := I.lstM hH
  obtain ⟨z2, its2, n2, r2, hl2, e2⟩ := I.lstM hB
  have hsz : its.toArray.size + its2.toArray.size ≤ sizeLine := by rw [List.size_toArray, List.size_toArray]; omega
  have hlong : ¬ (!its.toArray.isEmpty && Builtin.List.listTooLong (its.toArray.size + its2.toArray.size)) = true := by
    rw [notLongL hsz, Bool.and_false]
    exact Bool.false_ne_true
  refine call_meets F.slot_list_extend ⟨_, e, rfl⟩ F.entry_list_extend (F.args_list_extend_2 _ _)
    (AutoSeq1.list_extend_list_list_0 l its.toArray n b its2.toArray n2 hlong (by rw [List.size_toArray]; omega) (by omega)) ⟨e, e2, ?_⟩
  refine ⟨.non, _, I.lset (its' := its ++ its2) hH e (by simp) (r.append r2) ?_, rfl, q⟩
  rw [List.length_append]
  omega
def rPop : V → List V → Hp → VK → Prop := fun x vs H Q => ∃ l xs y, x = .ref l ∧ vs = [] ∧ H l = some (.lst xs) ∧ xs[xs.length - 1]? = some y ∧ Q y (upd H l (.lst xs.dropLast))
theorem mt_pop : MtM X "list.pop" rPop := by
  intro pins s σ H x vs v us Q I rx rv h
  obtain ⟨l, xs, y, rfl, rfl, hH, hy, q⟩ := h
  cases rx
  have hus := rv.zero
  subst hus
  obtain ⟨z, its, n, r, hl, e⟩ := I.lstM hH
  obtain ⟨u, hu, ru⟩ := r.get hy
  have hy' : its.toArray[its.toArray.size - 1]? = some u := by
    show its.toArray[its.length - 1]? = some u
    rw [← Array.getElem?_toList, ← hl]
    exact hu
  refine call_meets F.slot_list_pop ⟨_, e, rfl⟩ F.entry_list_pop (F.args_list_pop_1 _) (MeetsSeq.list_pop_last l its.toArray n u hy' (by rw [List.size_toArray]; omega)) ⟨e, ?_⟩
  refine ⟨y, _, I.lset (its' := its.dropLast) hH e ?_ r.dropLast ?_, ru, q⟩
  · show its.toArray.eraseIdxIfInBounds (its.toArray.size - 1) = its.dropLast.toArray
    rw [List.size_toArray, List.eraseIdxIfInBounds_toArray, erase_last]
  · rw [List.length_dropLast]
    omega
def rClear : V → List V → Hp → VK → Prop := fun x vs H Q => ∃ l xs, x = .ref l ∧ vs = [] ∧ H l = some (.lst xs) ∧ Q .non (upd H l (.lst []))
theorem mt_clear : MtM X "list.clear" rClear := by
  intro pins s σ H x vs v us Q I rx rv h
  obtain ⟨l, xs, rfl, rfl, hH, q⟩ := h
  cases rx
  have hus := rv.zero
  subst hus
  obtain ⟨z, its, n, r, hl, e⟩ := I.lstM hH
  refine call_meets F.slot_list_clear ⟨_, e, rfl⟩ F.entry_list_clear (F.args_list_clear_1 _) (AutoSeq1.list_clear_list_0 l its.toArray n (by rw [List.size_toArray]; omega)) ⟨e, ?_⟩
  exact ⟨.non, _, I.lset (its' := []) (ys := []) hH e rfl .nil (Nat.zero_le _), rfl, q⟩
def rCat : R2 := fun x y H Q => ∃ l b xs zs, x = .ref l ∧ y = .ref b ∧ H l = some (.lst xs) ∧ H b = some (.lst zs) ∧ xs.length + zs.length ≤ sizeLine ∧ ∀ p, H p = none → Q (.ref p) (upd H p (.lst (xs ++ zs)))
theorem op_cat : OpR X (binaryOp .Add) rCat := by
  intro pins s σ H x y v u Q I rx ry h
  obtain ⟨l, b, xs, zs, rfl, rfl, hH, hB, hz, q⟩ := h
  cases rx
  cases ry
  obtain ⟨z, its, n, r, hl, e⟩ := I.lstM hH
  obtain ⟨z2, its2, n2, r2, hl2, e2⟩ := I.lstM hB
  refine PySem.P.add_list e e2 ?_ (by rw [List.size_toArray, List.size_toArray]; omega)
  have ea : its.toArray ++ its2.toArray = (its ++ its2).toArray := by simp
  rw [ea]
  exact ⟨.ref _, _, I.lnew (t' := s.toks) (r.append r2) (by rw [List.length_append]; omega), rfl, q _ I.fresh⟩
end
section
variable {prog : Program} {w : World} {A : Around} {E : Value → Shared → Prop} {s : Shared}
end
section
variable {X : Cx}
end
end L2
namespace Att
open PySem PySem.W PySem.Calls PyProof.Rows
theorem ints_of_wellAll {P : Params} {h : Heap} : ∀ (ns : List Int) (vs : List Value), WellAll P h vs (ns.map WData.int) → IntsAre vs ns := by
  intro ns
  induction ns with
  | nil =>
    intro vs w
    rw [List.map_nil] at w
    cases w
    exact .nil
  | cons n ns ih =>
    intro vs w
    rw [List.map_cons] at w
    cases w with
    | cons a b =>
      cases a
      exact .cons _ _ (ih _ b)
theorem script_of {l : OpenLaw} {n : Nat} (hn : l.most = some n) {P : Params} {h : Heap} {args : List WData} {vals : List Value}
    (hpre : l.row.toRowW.claim.pre args = true) (hwl : WellAll P h vals args) :
    ∃ a vs ns, vals = [Value.ref a] ∧ args = [WData.list (ns.map WData.int)] ∧ h.get? a = some { cls := .type "list", data := .seq vs.toArray } ∧ IntsAre vs ns ∧ ns.length ≤ n := by
  have hsh : WShape.hasAll [] args [.list .int] = true := (pre_splitW hpre).1
  have hc : l.pre.holds [] { args := args } = true := (pre_splitW hpre).2
  obtain ⟨d, r, rfl, h1, h2⟩ := hasAllW_cons hsh
  obtain rfl := hasAllW_nil h2
  obtain ⟨xs, rfl, h3⟩ := hasW_list h1
  obtain ⟨ns, rfl⟩ := items_int h3
  have hlen : ns.length ≤ n := by
    unfold OpenLaw.pre at hc
    have h4 : (WTm.not (.lt (.lit (.int (n : Int))) (.len (.arg 0)))).holds [] { args := [.list (ns.map .int)] } = true := by
      have h4 := (holds_andW hc).1
      rw [hn] at h4
      exact h4
    have h5 := condW_of h4 (w_not (w_lt w_lit (w_len_list (w_arg rfl))))
    rw [List.length_map] at h5
    refine Nat.le_of_not_lt fun q => ?_
    have q' : (n : Int) < ((ns.length : Nat) : Int) := by omega
    first
      | (rw [decide_eq_true q'] at h5; exact absurd h5 (by decide))
      | (simp at h5; omega)
  cases hwl with
  | cons w1 w2 =>
    cases w2
    cases w1 with
    | list ho hall => exact ⟨_, _, ns, rfl, rfl, ho, ints_of_wellAll ns _ hall, hlen⟩
theorem post_true (l : OpenLaw) (args : List WData) : l.row.toRowW.claim.post args (.bool true) args = true :=
  postW_of (r := l.row.toRowW) (X := (true == true))
    (show WShape.has [] (.bool true) .bool = true by first | rfl | decide | simp [WShape.has, WShape.arms, WShape.armsAll])
    (show (WTm.eq .res (.lit (.bool true))).value [] { args := args, res := some (.bool true), after := args } = some (.bool (true == true)) from w_eq_bool (w_res rfl) w_lit) rfl
theorem attach_call {l : OpenLaw} {n : Nat} {q : Program} {loose : List Str} {XP : (Str → Option Value) → Heap → Prop} {YP : World → Heap → Prop} {d : DefRec}
    (hn : l.most = some n) (hdf : d.params.defaults = [])
    (call : ∀ (w : World) (s₀ s₁ : Shared) (mg mb : Str → Option Value) (fa : Addr) (o : Obj) (pm cd doc : Value) (a : Addr) (vs : List Value) (ns : List Int),
      Ground q loose [] XP w s₀ mg mb s₁.heap → YP w s₁.heap →
      s₁.heap.get? fa = some o → o.data = .func (docDef d.name d.params d.body d.scope pm cd doc) → s₁.heap.CodeRec cd d.name → mg d.name = some (.ref fa) →
      s₁.heap.get? a = some { cls := .type "list", data := .seq vs.toArray } → IntsAre vs ns → ns.length ≤ n → s₁.gens = #[] →
      codeAny (model l.prog w) callerA (.call (.ref fa) ⟨[.ref a], []⟩) (fun r s' => r = .ok (.ret (.bool true)) ∧ OldK s₁.heap s'.heap ∧ s'.os = s₁.os ∧ AllBare s'.gens) s₁) :
    WalkO q loose XP YP l.row.toRowW d [] (fun f vs => PySem.call f vs) := by
  intro w s₀ s₁ mg mb G Y fa o pm cd doc dV kV ho hd hcd hD hmg hg args vals as hpre hlay hrd hwl hlo
  obtain rfl : dV = .none := Dflts.none hD hdf
  obtain rfl : kV = .none := Dflts.noKw hD
  obtain ⟨a, vs, ns, rfl, rfl, hobj, hints, hlen⟩ := script_of hn hpre hwl
  refine enter_call (codeAny_mono (call w s₀ s₁ mg mb fa o pm cd doc a vs ns G Y ho (fd_plain hd) hcd hmg hobj hints hlen hg) fun r s' hq => ?_)
  obtain ⟨rfl, h2, h3, h4⟩ := hq
  exact ⟨.inl ⟨.bool true, .bool true, [], rfl, fun _ => rfl, .bool true, post_true l _, fun _ => ⟨List.Pairwise.nil, fun _ hm => (nomatch hm)⟩⟩, h2, h3, h4⟩
section
variable {prog : Program} {w : World} {A : Around} {E : Value → Shared → Prop} {s : Shared} {K : Frag}
def ledger (h : Heap) (L d : Addr) : List (Addr × Obj) := (List.range h.objs.size).filterMap fun a => if a = L ∨ a = d then none else (h.get? a).map fun o => (a, o)
end
end Att
namespace L2
open PySem PySem.Spec PyProof.Rows
theorem vals_ints : ∀ {vs : List Value} {ns : List Int}, IntsAre vs ns → Vals (ns.map V.int) vs
  | _, _, .nil => .nil
  | _, _, .cons n t h => .cons ⟨t, rfl⟩ (vals_ints h)
def Only (H : Hp) : Prop := ∀ b, H b = none ∨ ∃ o xs, H b = some (.frz o (.lst xs))
theorem law_call {P : Program} {w : World} {K : PySem.W.Frag} {mg mb : Str → Option Value} {CX : CXT} {k : Nat} {fa a : Addr} {fd : FuncData} {x : Str} {sp : Sp} {s₁ : Shared} {vs : List Value} {ns : List Int}
    (KX : K.In s₁.heap) (hns : s₁.heap.Ns mainGlobals mg) (hb : s₁.heap.Ns builtinsNs mb) (hbb : ∀ x : Str, x ≠ "__name__" → mb x = bootBuiltins x) (hlim : s₁.heap.NoLimit) (hg : s₁.gens = #[])
    (ha : s₁.heap.get? a = some { cls := .type "list", data := .seq vs.toArray }) (hi : IntsAre vs ns) (hl : ns.length ≤ sizeLine) (hr : Room k callerA)
    (F : ∀ base : Heap, K.In base → base.Ns mainGlobals mg → FnOk P w K mg base CX k fa fd [x] sp) (hbind : ∀ (s : Shared) (u : Value), BindsTo s fd ⟨[u], []⟩ [(x, u)])
    (hsp : ∀ H : Hp, Only H → SqL K H a (ns.map V.int) → sp [.ref a] H (fun v _ => v = .bl true) fun _ _ _ => False)
    (hCX : ∀ H e s', CX [] H s₁ (fun _ _ _ => False) e s' → False) :
    codeAny (model P w) callerA (.call (.ref fa) ⟨[.ref a], []⟩) (fun r s' => r = .ok (.ret (.bool true)) ∧ OldK s₁.heap s'.heap ∧ s'.os = s₁.os ∧ AllBare s'.gens) s₁ := by
  have rv := vals_ints hi
  have lenV := hi.length
  have core : ∀ H : Hp, Only H → SqL K H a (ns.map V.int) → HOk P w H s₁.heap → (∀ b, H b ≠ none → b = a) → (H a ≠ none → K.lookup a = none) →
      codeAny (model P w) callerA (.call (.ref fa) ⟨[.ref a], []⟩) (fun r s' => r = .ok (.ret (.bool true)) ∧ OldK s₁.heap s'.heap ∧ s'.os = s₁.os ∧ AllBare s'.gens) s₁ := by
    intro H hO hS hok hA hK
    have base_of : ∀ {b : Addr} {o : Obj}, s₁.heap.get? b = some o → H b = none → (hidT s₁.heap H).get? b = some o := fun e n => hidT_get e n
    have noA : ∀ {b : Addr} {o : Obj} {es : Array DictEntry} {ep : Nat}, s₁.heap.get? b = some o → o.data = .dict es ep → H b = none := fun {b o es ep} e d => by
      cases q : H b with
      | none => rfl
      | some u =>
        have e' : b = a := hA b (by rw [q]; simp)
        subst e'
        rw [ha] at e; cases e
        have d' : Data.seq vs.toArray _ = Data.dict es ep := d
        cases d'
    have nsK : ∀ {b : Addr} {m : Str → Option Value}, s₁.heap.Ns b m → (hidT s₁.heap H).Ns b m := fun {b m} ⟨o, es, ep, e, d, r⟩ => ⟨o, es, ep, base_of e (noA e d), d, r⟩
    have hKb : K.In (hidT s₁.heap H) := fun b o e => base_of (KX b o e) (by
      cases q : H b with
      | none => rfl
      | some u =>
        have e' : b = a := hA b (by rw [q]; simp)
        subst e'
        rw [hK (by rw [q]; simp)] at e; cases e)
    have hM : Mod K mg (hidT s₁.heap H) := ⟨hKb, nsK hns, ⟨mb, nsK hb, hbb⟩, let ⟨mc, h1, h2⟩ := hlim; ⟨mc, nsK h1, h2⟩⟩
    have e0 : Env0 P w K mg (hidT s₁.heap H) callerA [] s₁ H := ⟨rfl, hM, fun b o e => of_hidT e, Nat.le_of_eq (hidT_size _ _), trivial, fun b hb => absurd (show b ∈ ([] : List Addr) from hb) (by simp), hok, .of_eq hg⟩
    refine codeAny_mono ((F _ hKb (nsK hns)).run callerA [] s₁ H ⟨[.ref a], []⟩ [.ref a] [.ref a] _ _ hr e0 (hbind s₁ (.ref a)) (.cons rfl .nil) (hsp H hO hS)) fun r s' h => ?_
    cases r with
    | error e => exact (hCX H e s' h).elim
    | ok fl =>
      cases fl with
      | next => exact False.elim h
      | brk => exact False.elim h
      | cont => exact False.elim h
      | ret u =>
        obtain ⟨v, H', os, bare, un, hok', r', q⟩ := h
        have q' : v = .bl true := q
        subst q'
        obtain rfl : u = Value.bool true := r'
        refine ⟨rfl, OldK.of_keep fun b o e => ?_, os, bare⟩
        cases q : H b with
        | none => exact un.keep b o e q (by intro z; exact absurd (show b ∈ ([] : List Addr) from z) (by simp)) (by simp)
        | some u =>
          rcases hO b with z | ⟨ob, xs, z⟩
          · rw [q] at z; cases z
          · have z2 := un.frzs b ob _ z
            obtain ⟨e1, _⟩ := hok b _ z
            obtain ⟨e2, _⟩ := hok' b _ z2
            rw [e] at e1; cases e1
            exact e2
  cases hk : K.lookup a with
  | some o =>
    have e := KX a o hk
    rw [ha] at e
    cases e
    refine core (fun _ => none) (fun _ => .inl rfl) (.inr ⟨_, vs.toArray, _, hk, rfl, rfl, rfl, by rw [List.size_toArray, lenV]; exact hl, by simpa using rv⟩) (fun b u z => by have z' : (none : Option HO) = some u := z; cases z') (fun b z => absurd rfl z) fun z => absurd rfl z
  | none =>
    refine core (fun b => if b = a then some (.frz { cls := .type "list", data := .seq vs.toArray } (.lst (ns.map V.int))) else none) (fun b => ?_) (.inl (.inr ⟨{ cls := .type "list", data := .seq vs.toArray }, if_pos rfl⟩)) (fun b u z => ?_) (fun b z => ?_) fun _ => hk
    · by_cases hb : b = a
      · exact .inr ⟨_, _, if_pos hb⟩
      · exact .inl (if_neg hb)
    · by_cases hb : b = a
      · have z' := (if_pos hb).symm.trans z
        cases z'
        subst hb
        exact ⟨ha, by rw [List.length_map]; exact hl, vs, _, rv, ha⟩
      · have z' := (if_neg hb).symm.trans z
        cases z'
    · by_cases hb : b = a
      · exact hb
      · exact absurd (if_neg hb) z
end L2
namespace L2
open PySem PySem.Spec PyProof.Rows
theorem walk_of {l : PySem.W.OpenLaw} {n k : Nat} {q : Program} {loose : List Str} {XP : (Str → Option Value) → Heap → Prop} {YP : World → Heap → Prop} {d : DefRec} {K : Params → PySem.W.Frag} {CX : World → CXT} {sp : World → Sp} {x : Str}
    (hn : l.most = some n) (hn2 : n ≤ sizeLine) (hdf : d.params.defaults = []) (hr : Room k callerA)
    (hY : ∀ (w : World) (h : Heap), YP w h → (K w.params).In h)
    (F : ∀ (w : World) (mg : Str → Option Value) (fa : Addr) (h : Heap), (K w.params).In h → h.Ns mainGlobals mg → mg d.name = some (.ref fa) →
      ∃ fd : FuncData, (∀ (s : Shared) (u : Value), BindsTo s fd ⟨[u], []⟩ [(x, u)]) ∧
        ∀ base : Heap, (K w.params).In base → base.Ns mainGlobals mg → FnOk l.prog w (K w.params) mg base (CX w) k fa fd [x] (sp w))
    (hsp : ∀ (w : World) (H : Hp) (a : Addr) (ns : List Int), ns.length ≤ n → Only H → SqL (K w.params) H a (ns.map V.int) → sp w [.ref a] H (fun v _ => v = .bl true) fun _ _ _ => False)
    (hCX : ∀ (w : World) (H : Hp) (s : Shared) (e : Value) (s' : Shared), CX w [] H s (fun _ _ _ => False) e s' → False) :
    PySem.W.WalkO q loose XP YP l.row.toRowW d [] (fun f vs => PySem.call f vs) := by
  refine Att.attach_call hn hdf fun w s₀ s₁ mg mb fa o pm cd doc a vs ns G Y ho hd hcd hmg hobj hints hlen hg => ?_
  have KX := hY w _ Y
  obtain ⟨fd, hb, hF⟩ := F w mg fa _ KX G.T.g hmg
  exact law_call KX G.T.g G.T.b G.T.builtins G.T.nolimit hg hobj hints (Nat.le_trans hlen hn2) hr hF hb (fun H hO hS => hsp w H a ns hlen hO hS) fun H e s' => hCX w H s₁ e s'
end L2
/- THE LAST THEOREM (shape; LID, My.* are yours):
   My.Adr: a structure of the addresses that your layer names (classes, functions); My.Txt K t: a structure (Prop) of the equations over K;
   My.txt_mk : {K} {implicit addresses ..} (e1 : nsIn K mainGlobals "law" = some (some (.ref f))) (e2 : K.lookup f = some ⟨oc, od, .func (fnOf "law" "law" params body scope dV kV doc pm an cdv ct), sl⟩) (e3 : codeIn K cdv "law" = true) .. : ∃ t, My.Txt K t
set_option maxRecDepth 100000 in
set_option maxHeartbeats 0 in
theorem PySem.Challenge.cw_LID_holds : PySem.Challenge.rw_LID.Holds := by
  w_on; o_law; k_head; (case hw => w_witness2)
  k_fill
  refine L2.walk_of (l := PySem.Challenge.rw_LID) (n := 63) (k := 40) (x := "script") (CX := fun w => ..) (sp := fun _ => My.sp_law) rfl (by decide) rfl ⟨rfl, by decide, by decide⟩ (fun w h Y => PySem.W.kIn_of Y) ?F ?S ?C
  case F =>
    intro w mg fa h KX G hmg
    have T : ∃ t, My.Txt (L2.KOf KX) t := by
      dsimp only [L2.KOf]                          -- K must stand as «<heap const> w.params» for k_is
      refine' My.txt_mk ?e1 ?e2 ?e3 ..
      (case e1 => PySem.W.k_is)                    -- in the order: a name -> its address -> its object -> its parts
      (case e2 => PySem.W.k_is)
      ..
    obtain ⟨t, T⟩ := T
    have e0 := hmg.symm.trans (PySem.W.mg_of KX G T.law)
    cases e0                                       -- fa is the law's own address
    exact ⟨_, fun s u => .of_eq rfl, fun base kb nb => My.law_fn T kb nb⟩     -- if «.of_eq rfl» comes too early: refine' ⟨_, ?b, fun base kb nb => My.law_fn T kb nb⟩; exact fun s u => .of_eq rfl
  case S => exact fun w H a ns hl hO hS => ..
  case C => exact ..
(the tactic k_is has no namespace: write k_is) -/
namespace L2
open PySem PySem.Spec PyProof.Rows
def defArgs (s : Stmt) : Arguments := match s with
  | .FunctionDef _ a _ _ _ _ _ _ _ _ => a
  | _ => { posonlyargs := [], args := [], vararg := none, kwonlyargs := [], kw_defaults := [], kwarg := none, defaults := [] }
def defBody (s : Stmt) : List Stmt := match s with
  | .FunctionDef _ _ b _ _ _ _ _ _ _ => b
  | _ => []
def defScope (s : Stmt) : Scope := match s with
  | .FunctionDef _ _ _ _ _ _ sc _ _ _ => sc
  | _ => { kind := .function, names := [], isGenerator := false, isCoroutine := false }
abbrev CX0 : CXT := fun _ _ _ _ _ _ => False
abbrev E0 : XK := fun _ _ _ => False
theorem pass0 {X : Cx} : Passes CX0 X E0 := fun _ _ _ _ _ _ _ h => h.elim
structure Fun (K : PySem.W.Frag) (x qual : Str) (st : Stmt) (f : Addr) (fd : FuncData) : Prop where
  ex : ∃ (oc : Value) (od : Option Addr) (kV doc pm : Value) (an : Option Addr) (cdv ct : Value) (osl : Array (Option Value)),
    fd = PySem.W.fnOf x qual (defArgs st) (defBody st) (defScope st) .none kV doc pm an cdv ct ∧ K.lookup f = some ⟨oc, od, .func fd, osl⟩ ∧ PySem.W.codeIn K cdv qual = true
  kp : PySem.W.keepIn K (.ref f) = true
section
variable {P : Program} {w : World} {K : PySem.W.Frag} {mg : Str → Option Value} {base : Heap}
theorem Fun.ok {x qual : Str} {st : Stmt} {f : Addr} {fd : FuncData} {N ps : List Str} {k : Nat} {sp : Sp} (F : Fun K x qual st f fd) (S : FnScope N ps (defScope st)) (len : ∀ vs H Q E, sp vs H Q E → vs.length = ps.length)
    (hbody : ∀ (cdv : Value) (A : Around) (outer : List Env) (s : Shared) (H : Hp) (vs : List V) (Q : VK) (E : XK), Room k (A.deeper (envOfC qual (defScope st) s.heap.objs.size f cdv)) → sp vs H Q E →
      ∃ t, PSs (cxOf CX0 P w K mg base N qual (defScope st) f cdv A outer s H E).nox (defBody st) t ∧ t { nx := fun _ H' => Q .non H', rt := Q } (start N vs) H) : FnOk P w K mg base CX0 (k + 1) f fd ps sp := by
  obtain ⟨oc, od, kV, doc, pm, an, cdv, ct, osl, rfl, lk, hcd⟩ := F.ex
  refine fn_of lk hcd S len fun A outer s H vs Q E hr hsp => ?_
  obtain ⟨t, h, q⟩ := hbody cdv A outer s H vs Q E hr hsp
  exact ⟨t, h.nox, q⟩
theorem Fun.binds {x qual : Str} {st : Stmt} {f : Addr} {fd : FuncData} {ps : List Str} (F : Fun K x qual st f fd)
    (h : ∀ (kV doc pm : Value) (an : Option Addr) (cdv ct : Value) (us : List Value), us.length = ps.length → bindArgs (PySem.W.fnOf x qual (defArgs st) (defBody st) (defScope st) .none kV doc pm an cdv ct) ⟨us, []⟩ = pure (ps.zip us)) : Binds K fd ps [] := by
  obtain ⟨oc, od, kV, doc, pm, an, cdv, ct, osl, rfl, lk, hcd⟩ := F.ex
  exact .all (h kV doc pm an cdv ct)
theorem fun_mk {x qual : Str} {st : Stmt} {f : Addr} {oc : Value} {od an : Option Addr} {osl : Array (Option Value)} {kV doc pm cdv ct : Value} (l : K.lookup f = some ⟨oc, od, .func (PySem.W.fnOf x qual (defArgs st) (defBody st) (defScope st) .none kV doc pm an cdv ct), osl⟩)
    (c : PySem.W.codeIn K cdv qual = true) (k : PySem.W.keepIn K (.ref f) = true) : Fun K x qual st f (PySem.W.fnOf x qual (defArgs st) (defBody st) (defScope st) .none kV doc pm an cdv ct) := ⟨⟨oc, od, kV, doc, pm, an, cdv, ct, osl, rfl, l, c⟩, k⟩
end
theorem small1000 {n : Nat} (h : n ≤ 1000) : n < sizeLine := Nat.lt_of_le_of_lt h (by decide)
section
variable {X : Cx}
theorem pv (i : Nat) {x : Str} {pos : Pos} (hN : X.N[i]? = some x := by rfl) (hv : Vis X.env.scope x := by first | exact Or.inl rfl | exact Or.inr (Or.inl rfl) | exact Or.inr (Or.inr rfl)) (hd : (x == ("__debug__" : Str)) = false := by decide)
    (hcd : (x == ("__classdict__" : Str)) = false := by decide) : PE X (.Name x pos) (tVar i) := pe_var hN hv hd hcd
end
def Same (H H' : Hp) : Prop := ∀ b o, H b = some o → H' b = some o
theorem Same.refl (H : Hp) : Same H H := fun _ _ h => h
theorem Same.trans {H H1 H2 : Hp} (a : Same H H1) (b : Same H1 H2) : Same H H2 := fun c o h => b c o (a c o h)
theorem Same.free {H H' : Hp} (e : Same H H') {l : Addr} (h : H' l = Option.none) : H l = Option.none := by
  cases q : H l with
  | none => rfl
  | some o =>
    rw [e l o q] at h
    cases h
theorem Same.seq {K : PySem.W.Frag} {H H' : Hp} {a : Addr} {xs : List V} (e : Same H H') (h : SqL K H a xs) : SqL K H' a xs := by
  rcases h with (h | ⟨o, h⟩) | h
  · exact .inl (.inl (e _ _ h))
  · exact .inl (.inr ⟨o, e _ _ h⟩)
  · exact .inr h
end L2
set_option Elab.async false
set_option linter.all false
set_option maxRecDepth 100000
set_option maxHeartbeats 4000000
namespace L2
open PySem PySem.Spec PyProof.Rows
def clFrom (env : Env) : List (Str × NameKind) → List (Str × Addr) → List (Str × Addr)
  | [], acc => acc
  | (n, k) :: r, acc => clFrom env r (if k == .free then (n, (env.cells.lookup n).getD 0) :: acc else acc)
theorem closureFor_eq {scope : Scope} {env : Env} (h : ∀ n, (n, NameKind.free) ∈ scope.names → ∃ c, env.cells.lookup n = some c) : closureFor scope env = pure (clFrom env scope.names []) := by
  have go : ∀ (names : List (Str × NameKind)) (acc : List (Str × Addr)), (∀ n, (n, NameKind.free) ∈ names → ∃ c, env.cells.lookup n = some c) →
      (forIn names acc (fun (x : Str × NameKind) (cs : List (Str × Addr)) => match x with
        | (name, kind) => if (kind == .free) = true then (do let c ← cellOf env name; pure (ForInStep.yield ((name, c) :: cs))) else pure (ForInStep.yield cs)) : Sem (List (Str × Addr))) = pure (clFrom env names acc) := by
    intro names
    induction names with
    | nil => intro acc _; rfl
    | cons x r ih =>
      intro acc hn
      obtain ⟨n, k⟩ := x
      rw [List.forIn_cons]
      have hr : ∀ m, (m, NameKind.free) ∈ r → ∃ c, env.cells.lookup m = some c := fun m hm => hn m (List.mem_cons_of_mem _ hm)
      by_cases hk : k = .free
      · subst hk
        obtain ⟨c, hc⟩ := hn n List.mem_cons_self
        have e : cellOf env n = pure c := by unfold cellOf; rw [hc]
        have e2 : clFrom env ((n, NameKind.free) :: r) acc = clFrom env r ((n, c) :: acc) := by
          show clFrom env r (if (NameKind.free == NameKind.free) = true then (n, (env.cells.lookup n).getD 0) :: acc else acc) = _
          rw [if_pos (by decide), hc]; rfl
        rw [e2, ← ih _ hr]
        show (do let __do_lift ← (if (NameKind.free == NameKind.free) = true then (do let c ← cellOf env n; pure (ForInStep.yield ((n, c) :: acc))) else pure (ForInStep.yield acc) : Sem (ForInStep (List (Str × Addr)))); _) = _
        rw [if_pos (by decide), e]
        rfl
      · have hb : (k == NameKind.free) = false := by simpa using hk
        have e2 : clFrom env ((n, k) :: r) acc = clFrom env r acc := by
          show clFrom env r (if (k == NameKind.free) = true then (n, (env.cells.lookup n).getD 0) :: acc else acc) = _
          rw [hb]; rfl
        rw [e2, ← ih _ hr]
        show (do let __do_lift ← (if (k == NameKind.free) = true then (do let c ← cellOf env n; pure (ForInStep.yield ((n, c) :: acc))) else pure (ForInStep.yield acc) : Sem (ForInStep (List (Str × Addr)))); _) = _
        rw [hb]
        rfl
  have e := go scope.names [] h
  unfold closureFor
  exact congrArg (fun (m : Sem (List (Str × Addr))) => m >>= fun r => pure r) e
theorem clFrom_mem {env : Env} : ∀ {names : List (Str × NameKind)} {acc : List (Str × Addr)} {n : Str} {c : Addr}, (n, c) ∈ clFrom env names acc → (n, c) ∈ acc ∨ ((n, NameKind.free) ∈ names ∧ c = (env.cells.lookup n).getD 0)
  | [], acc, n, c, h => .inl h
  | (m, k) :: r, acc, n, c, h => by
    rcases clFrom_mem (names := r) h with h | ⟨h, e⟩
    · by_cases hk : k = .free
      · subst hk
        rw [if_pos (by decide)] at h
        rcases List.mem_cons.mp h with e | h
        · cases e; exact .inr ⟨List.mem_cons_self, rfl⟩
        · exact .inl h
      · have hb : (k == NameKind.free) = false := by simpa using hk
        rw [hb] at h
        exact .inl h
    · exact .inr ⟨List.mem_cons_of_mem _ h, e⟩
theorem lookup_of_mem {α : Type} : ∀ {l : List (Str × α)} {n : Str} {c : α}, (n, c) ∈ l → ∃ d, l.lookup n = some d
  | [], _, _, h => nomatch h
  | (k, v) :: r, n, c, h => by
    rw [List.lookup_cons]
    cases hb : n == k with
    | true => exact ⟨v, rfl⟩
    | false =>
      rcases List.mem_cons.mp h with e | h
      · cases e; simp at hb
      · exact lookup_of_mem h
theorem clFrom_acc {env : Env} : ∀ {names : List (Str × NameKind)} {acc : List (Str × Addr)} {n : Str} {c : Addr}, (n, c) ∈ acc → (n, c) ∈ clFrom env names acc
  | [], acc, n, c, h => h
  | (m, k) :: r, acc, n, c, h => by
    refine clFrom_acc (names := r) ?_
    split
    · exact List.mem_cons_of_mem _ h
    · exact h
theorem clFrom_has {env : Env} : ∀ {names : List (Str × NameKind)} {acc : List (Str × Addr)} {n : Str}, (n, NameKind.free) ∈ names → (n, (env.cells.lookup n).getD 0) ∈ clFrom env names acc
  | [], acc, n, h => nomatch h
  | (m, k) :: r, acc, n, h => by
    rcases List.mem_cons.mp h with e | h
    · cases e
      refine clFrom_acc (names := r) ?_
      rw [if_pos (by decide)]
      exact List.mem_cons_self
    · exact clFrom_has (names := r) h
theorem cellsFrom_mem : ∀ {names : List (Str × NameKind)} {n : Nat} {acc : List (Str × Addr)} {x : Str} {c : Addr}, (x, c) ∈ cellsFrom n names acc → (x, c) ∈ acc ∨ ((x, NameKind.cell) ∈ names ∧ n ≤ c)
  | [], n, acc, x, c, h => .inl h
  | (m, k) :: r, n, acc, x, c, h => by
    unfold cellsFrom at h
    by_cases hk : k = .cell
    · subst hk
      rw [if_pos (by decide)] at h
      rcases cellsFrom_mem (names := r) h with h | ⟨h, e⟩
      · rcases List.mem_cons.mp h with e | h
        · cases e; exact .inr ⟨List.mem_cons_self, Nat.le_refl _⟩
        · exact .inl h
      · exact .inr ⟨List.mem_cons_of_mem _ h, by omega⟩
    · have hb : (k == NameKind.cell) = false := by simpa using hk
      rw [hb] at h
      rcases cellsFrom_mem (names := r) h with h | ⟨h, e⟩
      · exact .inl h
      · exact .inr ⟨List.mem_cons_of_mem _ h, e⟩
theorem cellsFrom_acc : ∀ {names : List (Str × NameKind)} {n : Nat} {acc : List (Str × Addr)} {x : Str} {c : Addr}, (x, c) ∈ acc → (x, c) ∈ cellsFrom n names acc
  | [], n, acc, x, c, h => h
  | (m, k) :: r, n, acc, x, c, h => by
    unfold cellsFrom
    split
    · exact cellsFrom_acc (names := r) (List.mem_cons_of_mem _ h)
    · exact cellsFrom_acc (names := r) h
theorem cellsFrom_has : ∀ {names : List (Str × NameKind)} {n : Nat} {acc : List (Str × Addr)} {x : Str}, (x, NameKind.cell) ∈ names → ∃ c, (x, c) ∈ cellsFrom n names acc
  | [], n, acc, x, h => nomatch h
  | (m, k) :: r, n, acc, x, h => by
    unfold cellsFrom
    rcases List.mem_cons.mp h with e | h
    · cases e
      rw [if_pos (by decide)]
      exact ⟨n, cellsFrom_acc (names := r) List.mem_cons_self⟩
    · split
      · exact cellsFrom_has (names := r) h
      · exact cellsFrom_has (names := r) h
theorem pushCells_cell : ∀ {names : List (Str × NameKind)} {h : Heap} {acc : List (Str × Addr)} {x : Str} {c : Addr}, (x, c) ∈ cellsFrom h.objs.size names acc → (x, c) ∈ acc ∨ (pushCells h names).IsCell c none
  | [], h, acc, x, c, m => .inl m
  | (n, k) :: r, h, acc, x, c, m => by
    unfold cellsFrom at m
    unfold pushCells
    split at m
    · rename_i hk
      rw [if_pos hk]
      have m' : (x, c) ∈ cellsFrom (h.push { cls := .type "cell", data := .cell none }).objs.size r ((n, h.objs.size) :: acc) := by rw [Heap.size_push]; exact m
      rcases pushCells_cell (names := r) m' with z | z
      · rcases List.mem_cons.mp z with e | z
        · cases e
          exact .inr ⟨_, pushCells_keeps _ _ _ _ (Heap.get?_push_size _ rfl), rfl⟩
        · exact .inl z
      · exact .inr z
    · rename_i hk
      rw [if_neg hk]
      exact pushCells_cell (names := r) m
theorem cellsFrom_inj : ∀ {names : List (Str × NameKind)} {n : Nat} {acc : List (Str × Addr)}, (∀ x c, (x, c) ∈ acc → c < n) → (∀ x y c, (x, c) ∈ acc → (y, c) ∈ acc → x = y) →
    ∀ x y c, (x, c) ∈ cellsFrom n names acc → (y, c) ∈ cellsFrom n names acc → x = y
  | [], n, acc, lt, inj, x, y, c, h, h' => inj x y c h h'
  | (m, k) :: r, n, acc, lt, inj, x, y, c, h, h' => by
    unfold cellsFrom at h h'
    split at h
    · rename_i hk
      rw [if_pos hk] at h'
      refine cellsFrom_inj (names := r) (n := n + 1) (acc := (m, n) :: acc) (fun x c hm => ?_) (fun x y c hm hm' => ?_) x y c h h'
      · rcases List.mem_cons.mp hm with e | hm
        · cases e; exact Nat.lt_succ_self _
        · exact Nat.lt_succ_of_lt (lt _ _ hm)
      · rcases List.mem_cons.mp hm with e | hm <;> rcases List.mem_cons.mp hm' with e' | hm'
        · cases e; cases e'; rfl
        · cases e; exact absurd (lt _ _ hm') (Nat.lt_irrefl _)
        · cases e'; exact absurd (lt _ _ hm) (Nat.lt_irrefl _)
        · exact inj _ _ _ hm hm'
    · rename_i hk
      rw [if_neg hk] at h'
      exact cellsFrom_inj (names := r) lt inj x y c h h'
theorem lookup_relabel {env : Env} : ∀ {names : List (Str × NameKind)} {x : Str},
    (names.map fun (n, k) => if (k == NameKind.free && env.scope.kind == .function && env.kindOf n == some .cell) then (n, NameKind.cell) else (n, k)).lookup x =
      (names.lookup x).map fun k => if (k == NameKind.free && env.scope.kind == .function && env.kindOf x == some .cell) = true then NameKind.cell else k
  | [], x => rfl
  | (n, k) :: r, x => by
    have ih := @lookup_relabel env r x
    show List.lookup x ((if (k == NameKind.free && env.scope.kind == .function && env.kindOf n == some .cell) = true then (n, NameKind.cell) else (n, k)) :: _) = _
    have e : (if (k == NameKind.free && env.scope.kind == .function && env.kindOf n == some .cell) = true then (n, NameKind.cell) else (n, k)) = (n, if (k == NameKind.free && env.scope.kind == .function && env.kindOf n == some .cell) = true then NameKind.cell else k) := by split <;> rfl
    rw [e, List.lookup_cons, List.lookup_cons]
    cases hx : x == n with
    | true =>
      have hx' := beq_iff_eq.mp hx
      subst hx'
      rfl
    | false => exact ih
structure CompScope (X : Cx) (scope : Scope) (tn cap : List Str) (idx : List Nat) : Prop where
  kind : scope.kind = .function
  nd : (scope.names.map (·.1)).Nodup
  tnd : (tn ++ cap).Nodup
  ct : ∀ y ∈ cap, scope.names.lookup y = some .free
  ci : idx.map (fun i => X.N[i]?) = cap.map some
  fr : ∀ y ∈ scope.names, y.2 = .free → X.env.scope.names.lookup y.1 = some .cell ∨ X.env.scope.names.lookup y.1 = some .free
theorem lookup_nd {α : Type} : ∀ {l : List (Str × α)} {n : Str} {c : α}, (l.map (·.1)).Nodup → (n, c) ∈ l → l.lookup n = some c
  | [], _, _, _, h => nomatch h
  | (k, v) :: r, n, c, nd, h => by
    obtain ⟨h1, h2⟩ := List.nodup_cons.mp nd
    rw [List.lookup_cons]
    rcases List.mem_cons.mp h with e | hm
    · cases e; simp
    · have hne : n ≠ k := fun e => h1 (List.mem_map.mpr ⟨_, hm, e⟩)
      have hb : (n == k) = false := beq_eq_false_iff_ne.mpr hne
      rw [hb]
      exact lookup_nd h2 hm
def caps (σ : St) (idx : List Nat) : St := idx.map fun i => (σ[i]?).getD none
def cbase (k : Nat) (idx : List Nat) (σ : St) : St := List.replicate k none ++ caps σ idx
def cxC (X : Cx) (N' : List Str) (scope : Scope) (cs : List (Str × Addr)) (C : Addr) (fp : List Addr) (s₀ : Shared) (H₀ : Hp) : Cx where
  prog := X.prog
  w := X.w
  K := X.K
  mg := X.mg
  base := X.base
  A := X.A
  N := N'
  s₀ := s₀
  H₀ := H₀
  env := compEnvC scope cs C X.env
  outer := X.stack
  stack := X.stack
  ex := fp
  fn := fun x => scope.names.lookup x == some .local || scope.names.lookup x == some .cell
  calm := X.calm
  pn := []
  xe := fun _ _ => False
theorem wpAny_newEnv_comp {M : Model} {A : Around} {E : Value → Shared → Prop} {s : Shared} {scope : Scope} {globals : Addr} {cl : List (Str × Addr)} {qual : Str} {env0 : Env} {Q : Env → Shared → Prop}
    (hQ : Q { scope := scope, locals := s.heap.objs.size, globals := globals, cells := cellsFrom (s.heap.objs.size + 1) scope.names cl, qual := qual, func := none, code := env0.code, frame := env0.frame, builtins := env0.builtins }
      { s with heap := pushCells (s.heap.push { cls := .type "dict", data := .dict #[] }) scope.names }) :
    wpAny M A (newFunctionEnv scope globals cl [] qual none .none (some env0)) Q E s := by
  simp only [newFunctionEnv, Option.isSome_some, if_true]
  refine wpAny_bind (wpAny_alloc ?_)
  refine wpAny_bind (wpAny_layCells _ (fun name kind cells => by cases hkc : kind == NameKind.cell <;> simp [hkc]) _ _ _ _ ?_)
  rw [show ({ s with heap := s.heap.push { cls := .type "dict", data := .dict #[] } } : Shared).heap.objs.size = s.heap.objs.size + 1 from Heap.size_push ..]
  exact wpAny_bind (wpAny_pure (wpAny_pure hQ))
section
variable {prog : Program} {w : World} {A : Around} {R : Result → Shared → Prop} {s : Shared}
theorem compLoop_any {elt target iter : Expr} {ifs : List Expr} {scope : Scope} {pos : Pos} {it acc : Value} {env : Env} (I : Nat → Shared → Prop)
    (turn : ∀ n s, I n s → wpAny (model prog w) A (pyNext it) (fun r s₁ => match r with
      | none => R (.ok .next) s₁
      | some v => wpAny (model prog w) A (letOwnedTupleGo target it v) (fun _ s₁' => wpAny (model prog w) A (assign target env v) (fun _ s₂ =>
          wpAny (model prog w) A (forIn ifs true fun c r => if r = true then do let ok ← isTrue c env (eval c env); pure (ForInStep.yield ok) else pure (ForInStep.yield r)) (fun ok s₃ =>
            if ok = true then wpAny (model prog w) A (eval elt env) (fun x s₄ =>
              wpAny (model prog w) A (call (.builtin "list.append") [acc, x]) (fun _ s₅ => ∃ m, m < n ∧ I m s₅) (fun _ _ => False) s₄) (fun _ _ => False) s₃
            else ∃ m, m < n ∧ I m s₃) (fun _ _ => False) s₂) (fun _ _ => False) s₁') (fun _ _ => False) s₁) (fun _ _ => False) s)
    (n : Nat) (h : I n s) :
    codeAny (model prog w) A (.compLoop (.ListComp elt [⟨target, iter, ifs, 0⟩] scope pos) 0 it acc env) R s := by
  refine codeAny_loop rfl I (fun n s hI => ?_) n h
  show wpAny _ A ((compTurn (.ListComp elt [⟨target, iter, ifs, 0⟩] scope pos) 0 it acc env).onRaise (fun x => do noteFrame x env; theTreesLotGoes x)) _ _ s
  refine wpAny_noted ?_
  rw [compTurn_list]
  refine wpAny_bind (wpAny_standAt (wpAny_bind (wpAny_mono (turn n s hI) (fun r s₁ h₁ => ?_) fun _ _ h' => h'.elim)))
  cases r with
  | none => exact wpAny_pure h₁
  | some v =>
    refine wpAny_bind (wpAny_mono h₁ (fun _ s₁' h₁' => ?_) fun _ _ h' => h'.elim)
    refine wpAny_bind (wpAny_mono h₁' (fun _ s₂ h₂ => wpAny_bind (wpAny_mono h₂ (fun ok s₃ h₃ => ?_) fun _ _ h' => h'.elim)) fun _ _ h' => h'.elim)
    cases ok with
    | false => exact wpAny_pure ⟨rfl, h₃⟩
    | true =>
      exact wpAny_bind (wpAny_bind (wpAny_mono h₃ (fun x s₄ h₄ => wpAny_bind (wpAny_mono h₄ (fun _ s₅ h₅ => wpAny_pure (wpAny_pure ⟨rfl, h₅⟩)) fun _ _ h' => h'.elim)) fun _ _ h' => h'.elim))
end
section
variable {X : Cx} {pins : List (Addr × Obj)} {σ : St} {H : Hp} {s2 : Shared} {scope : Scope} {tn cap : List Str} {idx : List Nat} {fp : List Addr}
abbrev cObjL : Obj := { cls := .type "list", data := .seq ([] : List Value).toArray }
abbrev cObjF : Obj := { cls := .type "dict", data := .dict #[] }
abbrev cHeap (h : Heap) (scope : Scope) : Heap := pushCells ((h.push cObjL).push cObjF) scope.names
abbrev cCells (X : Cx) (h : Heap) (scope : Scope) : List (Str × Addr) := cellsFrom (h.objs.size + 1 + 1) scope.names (clFrom X.env scope.names [])
theorem caps_get {σ : St} {idx : List Nat} {j : Nat} {v : V} (h : (caps σ idx)[j]? = some (some v)) : ∃ i, idx[j]? = some i ∧ σ[i]? = some (some v) := by
  unfold caps at h
  rw [List.getElem?_map] at h
  cases e : idx[j]? with
  | none => rw [e] at h; cases h
  | some i =>
    rw [e] at h
    have h' : (σ[i]?).getD none = some v := Option.some.inj h
    refine ⟨i, rfl, ?_⟩
    cases q : σ[i]? with
    | none => rw [q] at h'; cases h'
    | some o => rw [q] at h'; have h'' : o = some v := h'; rw [h'']
theorem comp_start (I : Inv X pins σ H s2) (S : CompScope X scope tn cap idx) (hf : ∀ b ∈ fp, FpOk X pins H b) (hfl : ∀ b ∈ fp, b < s2.heap.objs.size) :
    Inv (cxC X (tn ++ cap) scope (cCells X s2.heap scope) (s2.heap.objs.size + 1) fp s2 H) [(s2.heap.objs.size, cObjL)] (cbase tn.length idx σ) H { s2 with heap := cHeap s2.heap scope } := by
  have old : ∀ b o, s2.heap.get? b = some o → (cHeap s2.heap scope).get? b = some o := fun b o e => pushCells_keeps _ _ _ _ (Heap.get?_push_of_some _ (Heap.get?_push_of_some _ e))
  have hsz : ((s2.heap.push cObjL).push cObjF).objs.size = s2.heap.objs.size + 1 + 1 := by rw [Heap.size_push, Heap.size_push]
  have hacc : (cHeap s2.heap scope).get? s2.heap.objs.size = some cObjL := pushCells_keeps _ _ _ _ (Heap.get?_push_of_some _ (Heap.get?_push_size _ rfl))
  have hns : (cHeap s2.heap scope).Ns (s2.heap.objs.size + 1) (fun _ => none) := by
    have e := (Heap.Ns.new (s2.heap.push cObjL) (.type "dict")).keeps (pushCells_keeps scope.names _)
    rw [Heap.size_push] at e
    exact e
  have clm : ∀ x c, (x, c) ∈ clFrom X.env scope.names [] → X.env.cells.lookup x = some c ∧ (x, NameKind.free) ∈ scope.names := fun x c h => by
    rcases clFrom_mem h with z | ⟨z, e⟩
    · nomatch z
    · obtain ⟨d, hd⟩ := I.ok.has x (S.fr _ z rfl)
      rw [hd] at e
      have e' : c = d := e
      subst e'
      exact ⟨hd, z⟩
  have csm : ∀ x c, (x, c) ∈ cCells X s2.heap scope → (X.env.cells.lookup x = some c ∧ (x, NameKind.free) ∈ scope.names) ∨ ((x, NameKind.cell) ∈ scope.names ∧ s2.heap.objs.size + 1 + 1 ≤ c) := fun x c h => by
    rcases cellsFrom_mem h with z | z
    · exact .inl (clm x c z)
    · exact .inr z
  have clt : ∀ x c, X.env.cells.lookup x = some c → c < s2.heap.objs.size := fun x c h => by
    obtain ⟨v, q⟩ := I.cell x c h
    exact q.lt
  have freeK : ∀ x, (x, NameKind.free) ∈ scope.names → scope.names.lookup x = some .free := fun x h => lookup_nd S.nd h
  have cellK : ∀ x, (x, NameKind.cell) ∈ scope.names → scope.names.lookup x = some .cell := fun x h => lookup_nd S.nd h
  refine ⟨⟨I.ok.mod, S.kind, I.ok.glob, I.ok.blt, Nat.le_succ _, fun x y c h1 h2 => ?_, fun x hx => ?_, fun x c hfn h => ?_, I.ok.hd, I.ok.frames, .inl rfl, fun b hb => ⟨?_, fun x c h => ?_⟩, I.bs, Nat.le_trans I.ok.bsz I.sz, fun b o e hb => ?_, fun b hb z => ?_, I.stack, I.stkFree⟩,
    rfl, I.bare, Un.kept old, ⟨_, hns, fun i x v e1 e2 e3 => ?_⟩, fun x c h => ?_, I.hok.fresh (Nat.le_succ _), fun x c h => ?_, fun p hp => ?_, I.hok.kept old, ?_⟩
  · exact cellsFrom_inj (fun x c h => Nat.lt_succ_of_lt (Nat.lt_succ_of_lt (clt x c (clm x c h).1))) (fun x y c h h' => I.ok.inj x y c (clm x c h).1 (clm y c h').1) x y c (PySem.mem_of_lookup h1) (PySem.mem_of_lookup h2)
  · have hx : (relabel scope X.env).names.lookup x = some .cell ∨ (relabel scope X.env).names.lookup x = some .free := hx
    have e := @lookup_relabel X.env scope.names x
    have hk : ∃ k, scope.names.lookup x = some k ∧ (k = .cell ∨ k = .free) := by
      cases q : scope.names.lookup x with
      | none =>
        rw [q] at e
        rcases hx with z | z
        · have z' := e.symm.trans z; cases z'
        · have z' := e.symm.trans z; cases z'
      | some k =>
        rw [q] at e
        refine ⟨k, rfl, ?_⟩
        cases k with
        | cell => exact .inl rfl
        | free => exact .inr rfl
        | _ =>
          exfalso
          rcases hx with z | z
          · have z' := e.symm.trans z; cases z'
          · have z' := e.symm.trans z; cases z'
    obtain ⟨k, hk, hk2⟩ := hk
    have hm := PySem.mem_of_lookup hk
    rcases hk2 with rfl | rfl
    · obtain ⟨c, hc⟩ := cellsFrom_has (n := s2.heap.objs.size + 1 + 1) (acc := clFrom X.env scope.names []) hm
      exact lookup_of_mem hc
    · exact lookup_of_mem (cellsFrom_acc (clFrom_has (env := X.env) (acc := []) hm))
  · rcases csm x c (PySem.mem_of_lookup h) with ⟨_, z⟩ | ⟨_, z⟩
    · have hfn : (scope.names.lookup x == some .local || scope.names.lookup x == some .cell) = true := hfn
      rw [freeK x z] at hfn
      exact absurd hfn (by decide)
    · show s2.heap.objs.size ≤ c
      omega
  · -- b is not the block's frame
    intro z
    have z' : b = s2.heap.objs.size + 1 := z
    exact absurd (hfl b hb) (by rw [z']; exact Nat.not_lt.mpr (Nat.le_succ _))
  · rcases csm x c (PySem.mem_of_lookup h) with ⟨z, _⟩ | ⟨_, z⟩
    · exact (hf b hb).2.2.2.2.1 x c z
    · intro e
      exact absurd (hfl b hb) (by rw [← e]; exact Nat.not_lt.mpr (Nat.le_trans (Nat.le_trans (Nat.le_succ _) (Nat.le_succ _)) z))
  · rcases (hf b hb).2.2.2.1 with z | z
    · exact I.ok.noex b o e z
    · exact absurd (Nat.lt_of_lt_of_le (Heap.lt_size e) (Nat.le_trans I.ok.bsz z)) (Nat.lt_irrefl _)
  · obtain ⟨_, f1, f2, _⟩ := hf b hb
    rcases List.mem_cons.mp (I.stkSub b z) with e | e
    · exact f1 e
    · exact f2 e
  · -- the names
    have e1 : (tn ++ cap)[i]? = some x := e1
    have e2 : (cbase tn.length idx σ)[i]? = some (some v) := e2
    unfold cbase at e2
    by_cases hi : i < tn.length
    · rw [List.getElem?_append_left (by rw [List.length_replicate]; exact hi), List.getElem?_replicate, if_pos hi] at e2
      cases e2
    · rw [List.getElem?_append_right (by rw [List.length_replicate]; omega), List.length_replicate] at e2
      rw [List.getElem?_append_right (by omega)] at e1
      obtain ⟨i0, h1, h2⟩ := caps_get e2
      have hN : X.N[i0]? = some x := by
        have q := congrArg (fun l => l[i - tn.length]?) S.ci
        simp only [List.getElem?_map, h1, e1, Option.map_some] at q
        exact Option.some.inj q
      have hfr := S.ct x (List.mem_of_getElem? e1)
      have hmem := PySem.mem_of_lookup hfr
      have hk := S.fr _ hmem rfl
      obtain ⟨m, hn, hl⟩ := I.loc
      obtain ⟨u, r, l⟩ := hl i0 x v hN h2 (hk.elim (fun z => .inr (.inl z)) fun z => .inr (.inr z))
      refine ⟨u, r, .inr ⟨?_, ?_⟩⟩
      · show (relabel scope X.env).names.lookup x = some .cell ∨ (relabel scope X.env).names.lookup x = some .free
        have e := @lookup_relabel X.env scope.names x
        rw [hfr] at e
        have e' : (relabel scope X.env).names.lookup x = some (if (NameKind.free == NameKind.free && X.env.scope.kind == .function && X.env.kindOf x == some .cell) = true then NameKind.cell else NameKind.free) := e
        rw [e']
        split
        · exact .inl rfl
        · exact .inr rfl
      · rcases l with ⟨hk', _⟩ | ⟨_, c, hc, z⟩
        · exfalso
          have hk' : X.env.scope.names.lookup x = some .local := hk'
          rcases hk with q | q
          · have q : X.env.scope.names.lookup x = some .cell := q
            rw [q] at hk'; cases hk'
          · have q : X.env.scope.names.lookup x = some .free := q
            rw [q] at hk'; cases hk'
        · obtain ⟨d, hd⟩ := lookup_of_mem (cellsFrom_acc (names := scope.names) (n := s2.heap.objs.size + 1 + 1) (clFrom_has (env := X.env) (acc := []) hmem))
          refine ⟨c, ?_, z.keeps old⟩
          rcases csm x d (PySem.mem_of_lookup hd) with ⟨q, _⟩ | ⟨q, _⟩
          · rw [hc] at q; cases q; exact hd
          · have := cellK x q; rw [hfr] at this; cases this
  · have hm : (x, c) ∈ cellsFrom ((s2.heap.push cObjL).push cObjF).objs.size scope.names (clFrom X.env scope.names []) := by rw [hsz]; exact PySem.mem_of_lookup h
    rcases pushCells_cell hm with z | z
    · obtain ⟨v, q⟩ := I.cell x c (clm x c z).1
      exact ⟨v, q.keeps old⟩
    · exact ⟨_, z⟩
  · rcases csm x c (PySem.mem_of_lookup h) with ⟨z, _⟩ | ⟨_, z⟩
    · exact I.freeC x c z
    · exact I.hok.fresh (by omega)
  · have hp' : p ∈ [(s2.heap.objs.size, cObjL)] := hp
    obtain rfl := List.mem_singleton.mp hp'
    refine ⟨hacc, I.hok.fresh (Nat.le_refl _), Nat.ne_of_lt (Nat.lt_succ_self _), fun z => ?_, fun v z => ?_⟩
    · rcases List.mem_cons.mp (I.stkSub _ z) with e | e
      · exact absurd I.lt (by rw [← e]; exact Nat.lt_irrefl _)
      · exact I.nofs (Nat.le_refl _) e
    · have z' : Data.seq _ _ = Data.cell v := z
      cases z'
  · show (cbase tn.length idx σ).length = (tn ++ cap).length
    have := congrArg List.length S.ci
    unfold cbase caps
    simp only [List.length_append, List.length_replicate, List.length_map] at this ⊢
    omega
theorem comp_back {N' : List Str} {cs : List (Str × Addr)} {C D : Addr} {pins' : List (Addr × Obj)} {σ' : St} {H8 : Hp} {s8 : Shared} {vs : List V} {its : List Value} {n : Nat} (I : Inv X pins σ H s2) (hf : ∀ b ∈ fp, FpOk X pins H b)
    (J : Inv (cxC X N' scope cs C fp s2 H) pins' σ' H8 s8) (hD : s2.heap.objs.size ≤ D) (hD8 : H8 D = none) (hget : s8.heap.get? D = some { cls := .type "list", data := .seq its.toArray n }) (r : Vals vs its) (hz : vs.length ≤ sizeLine) :
    Inv X pins σ (upd H8 D (.lst vs)) s8 := by
  have u := J.base
  have hb : ∀ b o, s2.heap.get? b = some o → b ≠ D := fun b o e => Nat.ne_of_lt (Nat.lt_of_lt_of_le (Heap.lt_size e) hD)
  refine I.call' (ch := fp) J.os ⟨u.keep, u.slot, fun b o e n hx => ?_, u.there, fun b xs e => ?_, fun b o xs e => ?_, fun b ps e => ?_⟩ (fun b o e => ?_) J.bare fun b hbf => ?_
  · rw [upd_ne (hb b o e)]; exact u.free b o e n hx
  · have q := u.tups b xs e
    rw [upd_ne (ne_of_none q hD8)]; exact q
  · have q := u.frzs b o xs e
    rw [upd_ne (ne_of_none q hD8)]; exact q
  · obtain ⟨m, q⟩ := u.tbls b ps e
    exact ⟨m, by rw [upd_ne (ne_of_none q hD8)]; exact q⟩
  · by_cases e1 : b = D
    · subst e1
      rw [upd_same] at e
      cases e
      exact ⟨hz, its, n, r, hget⟩
    · rw [upd_ne e1] at e
      exact (J.hok b o e).stay (fun _ _ _ q => q) (fun c q => by rw [upd_ne (ne_of_none q hD8)]; exact q) fun c xs q => by rw [upd_ne (ne_of_none q hD8)]; exact q
  · obtain ⟨_, f1, _, f3, f4, f5⟩ := hf b hbf
    exact ⟨f3, f1, f4, f5⟩
def PTs (X : Cx) (ifs : List Expr) (tt : TT) : Prop :=
  ∀ (pins : List (Addr × Obj)) (s : Shared) (σ : St) (H : Hp) (Q : Bool → Hp → Prop), Inv X pins σ H s → tt σ H Q →
    wpAny (model X.prog X.w) X.A (forIn ifs true fun c r => if r = true then do let ok ← isTrue c X.env (eval c X.env); pure (ForInStep.yield ok) else pure (ForInStep.yield r)) (TP X pins σ Q) X.xe s
def tYes : TT := fun _ H Q => Q true H
theorem pts_nil : PTs X [] tYes := fun _ _ _ H _ I h => wpAny_tests_nil ⟨H, I, h⟩
theorem pts_one {c : Expr} {tc : TT} (h : PT X c tc) : PTs X [c] tc := fun pins s σ H Q I q => wpAny_tests_one (h pins s σ H Q I q)
def tComp (wi : TI) (g : TG) (tt : TT) (te : TE) (k : Nat) (idx : List Nat) : TE := fun σ H Q => wi σ H fun J H1 =>
  ∃ W : Nat → Nat → List V → Hp → Prop, (∃ m, W 0 m [] H1) ∧ ∀ i m vs H, W i m vs H →
    (J.stop i H ∧ vs.length ≤ sizeLine ∧ ∀ p, H p = none → Q (.ref p) (upd H p (.lst vs))) ∨
    (J.go i H ∧ vs.length ≤ sizeLine ∧ ∃ N : List V → Hp → Prop, (∀ vs' H', N vs' H' → ∃ m', m' < m ∧ W (i + 1) m' vs' H') ∧ ∀ x H', J.yld i H x H' → g x (cbase k idx σ) H' fun σ2 H2 => tt σ2 H2 fun b H3 =>
      if b = true then te σ2 H3 fun v H4 => N (vs ++ [v]) H4 else N vs H3)
def GSet (k : Nat) (g : TG) : Prop := ∀ x σ H Q, g x σ H Q → g x σ H fun σ2 H2 => Q σ2 H2 ∧ σ2.length = σ.length ∧ ∀ j, k ≤ j → σ2[j]? = σ[j]?
theorem GSet.name {i k : Nat} (h : i < k) : GSet k (gName i) := fun x σ H Q q => ⟨q, by simp, fun j hj => by rw [List.getElem?_set_ne (by omega)]⟩
theorem cbase_low {k j : Nat} {idx : List Nat} {σ : St} {v : V} (h : (cbase k idx σ)[j]? = some (some v)) : k ≤ j := by
  by_cases hj : j < k
  · unfold cbase at h
    rw [List.getElem?_append_left (by rw [List.length_replicate]; exact hj), List.getElem?_replicate, if_pos hj] at h
    cases h
  · omega
theorem comp_block {elt target iter : Expr} {ifs : List Expr} {pos : Pos} {g : TG} {tt : TT} {te : TE} {E : Value → Shared → Prop} {it : Addr} {tnn : Nat → Heap → Prop} {J : It} {Q : VK} {RR : Value → Addr → Result → Shared → Prop}
    (hcalm : X.calm = true) (S : CompScope X scope tn cap idx) (hgs : GSet tn.length g)
    (hg : ∀ cs C fp s₀ H₀, PG (cxC X (tn ++ cap) scope cs C fp s₀ H₀) target g) (ht : ∀ cs C fp s₀ H₀, PTs (cxC X (tn ++ cap) scope cs C fp s₀ H₀) ifs tt)
    (he : ∀ cs C fp s₀ H₀, PE (cxC X (tn ++ cap) scope cs C fp s₀ H₀) elt te)
    (I : Inv X pins σ H s2) (T : Turn X.prog X.w X.K target J fp it tnn) (st2 : tnn 0 s2.heap) (f2 : ∀ b ∈ fp, FpOk X pins H b)
    (hW : ∃ W : Nat → Nat → List V → Hp → Prop, (∃ m, W 0 m [] H) ∧ ∀ i m vs H, W i m vs H →
      (J.stop i H ∧ vs.length ≤ sizeLine ∧ ∀ p, H p = none → Q (.ref p) (upd H p (.lst vs))) ∨
      (J.go i H ∧ vs.length ≤ sizeLine ∧ ∃ N : List V → Hp → Prop, (∀ vs' H', N vs' H' → ∃ m', m' < m ∧ W (i + 1) m' vs' H') ∧ ∀ x H', J.yld i H x H' → g x (cbase tn.length idx σ) H' fun σ2 H2 => tt σ2 H2 fun b H3 =>
        if b = true then te σ2 H3 fun v H4 => N (vs ++ [v]) H4 else N vs H3))
    (hRR : ∀ (s8 : Shared) (H8 : Hp) (C D : Addr) (m : Str → Option Value), Inv X pins σ H8 s8 → s8.heap.Ns C m → H8 C = none → s2.heap.objs.size ≤ C → Q (.ref D) H8 → RR (.ref D) C (.ok .next) s8) :
    wpAny (model X.prog X.w) X.A (newList []) (fun acc s₃ => wpAny (model X.prog X.w) X.A (newFunctionEnv scope X.env.globals (clFrom X.env scope.names []) [] X.env.qual none .none (some X.env)) (fun cenv s₄ =>
      codeAny (model X.prog X.w) X.A (.compStart (.ListComp elt [⟨target, iter, ifs, 0⟩] scope pos) 0 (.ref it) acc { cenv with scope := relabel scope X.env }) (RR acc cenv.locals) s₄) E s₃) E s2 := by
  obtain ⟨W, ⟨m0, w0⟩, turn⟩ := hW
  have hfl : ∀ b ∈ fp, b < s2.heap.objs.size := fun b hb => by
    obtain ⟨o, e, _⟩ := T.obj _ _ st2 b hb
    exact Heap.lt_size e
  have I4 := comp_start I S f2 hfl
  refine wpAny_newObj_type (wpAny_newEnv_comp ?_)
  have e1 : ({ s2 with heap := s2.heap.push cObjL } : Shared).heap.objs.size = s2.heap.objs.size + 1 := Heap.size_push ..
  rw [e1]
  generalize hX' : cxC X (tn ++ cap) scope (cCells X s2.heap scope) (s2.heap.objs.size + 1) fp s2 H = X' at I4
  have hA : X'.A = X.A := by subst hX'; rfl
  have hprog : X'.prog = X.prog := by subst hX'; rfl
  have hw : X'.w = X.w := by subst hX'; rfl
  have hK : X'.K = X.K := by subst hX'; rfl
  have hcal : X'.calm = true := by subst hX'; exact hcalm
  have hxe : X'.xe = fun _ _ => False := by subst hX'; rfl
  have hloc : X'.env.locals = s2.heap.objs.size + 1 := by subst hX'; rfl
  have hpn : X'.pn = [] := by subst hX'; rfl
  have hex : X'.ex = fp := by subst hX'; rfl
  have hs0 : X'.s₀ = s2 := by subst hX'; rfl
  have hg' : PG X' target g := by subst hX'; exact hg _ _ _ _ _
  have ht' : PTs X' ifs tt := by subst hX'; exact ht _ _ _ _ _
  have he' : PE X' elt te := by subst hX'; exact he _ _ _ _ _
  have henv : X'.env = { scope := relabel scope X.env, locals := s2.heap.objs.size + 1, globals := X.env.globals, cells := cCells X s2.heap scope, qual := X.env.qual, func := none, code := X.env.code, frame := X.env.frame, builtins := X.env.builtins } := by subst hX'; rfl
  let lo : List Value → Nat → Obj := fun its n => { cls := .type "list", data := .seq its.toArray n }
  have stat : ∀ {H' : Hp} {pl : List (Addr × Obj)}, (∀ b ∈ fp, H' b = none) → (∀ p ∈ pl, p.1 ∉ fp) → ∀ b ∈ fp, FpOk X' pl H' b := fun {H' pl} hn hp b hb => by
    have q := I4.ok.exf b (by rw [hex]; exact hb)
    have q2 := I4.ok.exfs b (by rw [hex]; exact hb)
    refine ⟨hn b hb, q.1, q2, .inl (by rw [hex]; exact hb), q.2, fun p hp' z => ?_⟩
    rw [hpn] at hp'
    exact hp p hp' (by rw [z]; exact hb)
  have Dfp : s2.heap.objs.size ∉ fp := fun z => Nat.lt_irrefl _ (hfl _ z)
  have D1 : ∀ (o : Obj), ∀ p ∈ [((s2.heap.objs.size : Addr), o)], p.1 ∉ fp := fun o p hp => by
    obtain rfl := List.mem_singleton.mp hp
    exact Dfp
  have loop : ∀ s3 : Shared, s3 = { s2 with heap := cHeap s2.heap scope } →
      codeAny (model X.prog X.w) X.A (.compLoop (.ListComp elt [⟨target, iter, ifs, 0⟩] scope pos) 0 (.ref it) (.ref s2.heap.objs.size) X'.env) (RR (.ref s2.heap.objs.size) (s2.heap.objs.size + 1)) s3 := by
    intro s3 hs3
    subst hs3
    refine compLoop_any (fun n s' => ∃ i vs its nn σ' H', Inv X' [(s2.heap.objs.size, lo its nn)] σ' H' s' ∧ (∀ (j : Nat) v, (cbase tn.length idx σ)[j]? = some (some v) → σ'[j]? = some (some v)) ∧ σ'.length = (cbase tn.length idx σ).length ∧ tnn i s'.heap ∧ (∀ b ∈ fp, H' b = none) ∧ Vals vs its ∧ W i n vs H') ?_ m0
      ⟨0, [], [], 0, _, H, I4, fun _ _ z => z, rfl, T.keep _ _ _ st2 (fun b hb o e => pushCells_keeps _ _ _ _ (Heap.get?_push_of_some _ (Heap.get?_push_of_some _ e))), fun b hb => (f2 b hb).1, .nil, w0⟩
    rintro n s' ⟨i, vs, its, nn, σ', H', I', hσ, hσl, st', fr', rv, w'⟩
    have I5 : Inv X' [(s2.heap.objs.size, lo its nn)] (cbase tn.length idx σ) H' s' := I'.weak hσl.symm hσ
    rcases turn i n vs H' w' with ⟨stop, hz, q⟩ | ⟨go, hz, N, hN, step⟩
    · -- it ends
      have td := T.done X' hprog hw hK hcal i _ s' _ H' (fun _ _ => False) I5 (stat fr' (D1 _)) st' stop
      rw [hA] at td
      refine thn td fun r s8 ⟨hr, I8⟩ => ?_
      subst hr
      obtain ⟨hp1, hp2, _⟩ := I8.pin (s2.heap.objs.size, lo its nn) (by rw [hpn]; exact List.mem_singleton.mpr rfl)
      have J8 : Inv X pins σ (upd H' s2.heap.objs.size (.lst vs)) s8 := by
        subst hX'
        exact comp_back I f2 I8 (Nat.le_refl _) hp2 hp1 rv hz
      obtain ⟨m, hm, _⟩ := I8.loc
      rw [hloc] at hm
      have hCf : H' (s2.heap.objs.size + 1) = none := by have := I8.free; rw [hloc] at this; exact this
      refine hRR s8 _ _ _ m J8 hm ?_ (Nat.le_succ _) (q _ hp2)
      rw [upd_ne (Nat.ne_of_gt (Nat.lt_succ_self _))]
      exact hCf
    · -- a turn
      have ti := T.item X' hprog hw hK hcal i _ s' _ H' (fun _ _ => False) I5 (stat fr' (D1 _)) st' go
      rw [hA] at ti
      refine thn ti fun r s5 ⟨u, hr, h5⟩ => ?_
      subst hr
      refine thn h5 fun _ s6 ⟨x, H6, I6, r6, y6, st6, fr6⟩ => ?_
      have I6' := I6.pinned (stat fr6 (D1 _)) (T.obj _ _ st6)
      have ag := hg' _ s6 _ H6 x u _ I6' r6 (hgs _ _ _ _ (step x H6 y6))
      rw [hprog, hw, hA, hxe] at ag
      refine thn ag fun _ s7 ⟨σ7, H7, I7, q7, hl7, hj7⟩ => ?_
      have at7 := ht' _ s7 σ7 H7 _ I7 q7
      rw [hprog, hw, hA, hxe] at at7
      refine thn at7 fun b s8 ⟨H8, I8, q8⟩ => ?_
      have again : ∀ {s9 : Shared} {H9 : Hp} {vs9 : List V} {its9 : List Value} {n9 : Nat}, Inv X' ([(s2.heap.objs.size, lo its9 n9)] ++ pinsAt fp s6.heap) σ7 H9 s9 → Vals vs9 its9 → N vs9 H9 →
          ∃ m, m < n ∧ ∃ i vs its nn σ' H', Inv X' [(s2.heap.objs.size, lo its nn)] σ' H' s9 ∧ (∀ (j : Nat) v, (cbase tn.length idx σ)[j]? = some (some v) → σ'[j]? = some (some v)) ∧ σ'.length = (cbase tn.length idx σ).length ∧ tnn i s9.heap ∧ (∀ b ∈ fp, H' b = none) ∧ Vals vs its ∧ W i m vs H' := by
        intro s9 H9 vs9 its9 n9 I9 r9 n9'
        obtain ⟨m', hm', w9⟩ := hN _ _ n9'
        refine ⟨m', hm', i + 1, vs9, its9, n9, σ7, H9, I9.unpinned, fun j v e => by rw [hj7 j (cbase_low e)]; exact e, hl7, T.keep _ _ _ st6 fun b hb o e => (I9.pin (b, o) (List.mem_append_right _ (List.mem_append_right _ (mem_pinsAt hb e)))).1, fun b hb => ?_, r9, w9⟩
        obtain ⟨o, e, d⟩ := T.obj _ _ st6 b hb
        exact (I9.pin (b, o) (List.mem_append_right _ (List.mem_append_right _ (mem_pinsAt hb e)))).2.1
      cases b with
      | false =>
        exact again I8 rv q8
      | true =>
        have ae := he' _ s8 σ7 H8 _ I8 q8
        rw [hprog, hw, hA, hxe] at ae
        refine thn ae fun xv s9 ⟨v9, H9, I9, r9, q9⟩ => ?_
        obtain ⟨hp1, hp2, hp3, hp4, _⟩ := I9.pin (s2.heap.objs.size, lo its nn) (List.mem_append_right _ (List.mem_append_left _ (List.mem_singleton.mpr rfl)))
        have rvl := rv.length
        refine append_at (hsz := by rw [List.size_toArray]; omega) hp1 fun h' hs' ho' => ?_
        have nfp : ∀ p ∈ pinsAt fp s6.heap, p.1 ≠ s2.heap.objs.size := fun p hp z => Dfp (by rw [← z]; exact (of_pinsAt hp).1)
        have I10 : Inv X' (pinsAt fp s6.heap) σ7 H9 s9 := I9.pins_of fun p hp => I9.pin p (List.mem_append_right _ (List.mem_append_right _ hp))
        have I11 : Inv X' (pinsAt fp s6.heap) σ7 H9 { s9 with heap := h' } := I10.turned (t' := s9.toks) (it := s2.heap.objs.size) (fun b o hb e => hs'.extBut b o hb e) hp2 hp3 (.inr (by rw [hs0]; exact Nat.le_refl _))
          (fun x c e z => by
            obtain ⟨v, o, q1, q2⟩ := I9.cell x c e
            rw [z, hp1] at q1
            cases q1
            cases q2) (fun p hp => by rw [hpn] at hp; exact nfp p hp)
        have eo : ({ cls := .type "list", data := .seq (its.toArray.push xv) (nn + 1) } : Obj) = lo (its ++ [xv]) (nn + 1) := by
          show ({ cls := .type "list", data := .seq (its.toArray.push xv) (nn + 1) } : Obj) = { cls := .type "list", data := .seq (its ++ [xv]).toArray (nn + 1) }
          rw [List.push_toArray]
        refine again (vs9 := vs ++ [v9]) (its9 := its ++ [xv]) (n9 := nn + 1) (I11.pins_of fun p hp => ?_) (rv.append (.cons r9 .nil)) q9
        rcases List.mem_append.mp hp with hp | hp
        · obtain rfl := List.mem_singleton.mp hp
          refine ⟨ho'.trans (congrArg some eo), hp2, hp3, hp4, fun v z => ?_⟩
          have z' : Data.seq _ _ = Data.cell v := z
          cases z'
        · exact I11.pin p (List.mem_append_right _ hp)
  refine codeAny_compStart_list ?_ ?_
  · have := loop _ rfl
    rw [henv] at this
    exact this
  · refine T.self _ 0 _ _ _ (T.keep _ _ _ st2 (fun b hb o e => pushCells_keeps _ _ _ _ (Heap.get?_push_of_some _ (Heap.get?_push_of_some _ e)))) ?_
    have := loop _ rfl
    rw [henv] at this
    exact this
theorem clos_eq (I : Inv X pins σ H s2) (S : CompScope X scope tn cap idx) : closureFor scope X.env = pure (clFrom X.env scope.names []) :=
  closureFor_eq fun n hm => I.ok.has n (S.fr _ hm rfl)
theorem names_ok (S : CompScope X scope tn cap idx) : ∀ x ∈ scope.names, x.2 = .local → scope.names.lookup x.1 = some .local := fun x hx e => by
  obtain ⟨n, k⟩ := x
  have e' : k = NameKind.local := e
  subst e'
  exact lookup_nd S.nd hx
theorem pe_comp {elt target iter : Expr} {ifs : List Expr} {pos : Pos} {wi : TI} {g : TG} {tt : TT} {te : TE} (hcalm : X.calm = true) (S : CompScope X scope tn cap idx) (hi : PI X target iter wi) (hgs : GSet tn.length g)
    (hg : ∀ cs C fp s₀ H₀, PG (cxC X (tn ++ cap) scope cs C fp s₀ H₀) target g) (ht : ∀ cs C fp s₀ H₀, PTs (cxC X (tn ++ cap) scope cs C fp s₀ H₀) ifs tt)
    (he : ∀ cs C fp s₀ H₀, PE (cxC X (tn ++ cap) scope cs C fp s₀ H₀) elt te) (hs : ∀ x, foldedSetIterable iter X.env x = pure x := by intro _; rfl) :
    PE X (.ListComp elt [⟨target, iter, ifs, 0⟩] scope pos) (tComp wi g tt te tn.length idx) := by
  intro pins s σ H Q I h
  rw [eval_ListComp]
  refine wpAny_comprehension_free (use := none) rfl hs (clos_eq I S) S.kind (names_ok S) (thn (hi pins s σ H _ I h) fun v s1 h1 => thn h1 fun itv s2 h2 => ?_)
  obtain ⟨it, fp, tnn, J, H2, e, I2, T, st2, f2, hW⟩ := h2
  subst e
  refine comp_block hcalm S hgs hg ht he I2 T st2 f2 hW fun s8 H8 C D m I8 hm hC hsz q => ?_
  refine ⟨m, hm, fun h' hs' => ⟨.ref D, H8, ?_, rfl, q⟩⟩
  exact I8.turned (t' := s8.toks) (it := C) (fun b o hb e => hs'.extBut b o hb e) hC (fun z => absurd I2.lt (by rw [← z]; exact Nat.not_lt.mpr hsz)) (.inr (Nat.le_trans I2.sz hsz))
    (fun x c e z => by
      obtain ⟨v, q⟩ := I2.cell x c e
      exact absurd q.lt (by rw [z]; exact Nat.not_lt.mpr hsz)) (fun p hp z => absurd (Heap.lt_size (I2.pin p hp).1) (by rw [z]; exact Nat.not_lt.mpr hsz))
theorem ps_setC {elt target iter : Expr} {ifs : List Expr} {pos spos py : Pos} {wi : TI} {g : TG} {tt : TT} {te : TE} {i : Nat} {y : Str} (hcalm : X.calm = true) (S : CompScope X scope tn cap idx) (hN : X.N.Nodup) (hy : X.N[i]? = some y) (hx : Loc X.env.scope y)
    (hi : PI X target iter wi) (hgs : GSet tn.length g)
    (hg : ∀ cs C fp s₀ H₀, PG (cxC X (tn ++ cap) scope cs C fp s₀ H₀) target g) (ht : ∀ cs C fp s₀ H₀, PTs (cxC X (tn ++ cap) scope cs C fp s₀ H₀) ifs tt)
    (he : ∀ cs C fp s₀ H₀, PE (cxC X (tn ++ cap) scope cs C fp s₀ H₀) elt te)
    (hsw : swapsWith (.ListComp elt [⟨target, iter, ifs, 0⟩] scope pos) (some (.Name y py)) spos.line X.env = pure true := by rfl) (hs : ∀ x, foldedSetIterable iter X.env x = pure x := by intro _; rfl)
    (hf : X.fn y = true ∨ X.env.scope.names.lookup y = some .local := by first | exact .inl rfl | exact .inr rfl | assumption) :
    PS X (.Assign [.Name y py] (.ListComp elt [⟨target, iter, ifs, 0⟩] scope pos) spos) (tAsg (tComp wi g tt te tn.length idx) (gName i)) := by
  intro pins s σ H D I h
  rw [exec_Assign_Name_used _ _ _ _ hsw]
  refine wpAny_bind (wpAny_standAt (wpAny_bind ?_))
  show wpAny _ X.A (do let _ ← comprehension (.ListComp elt [⟨target, iter, ifs, 0⟩] scope pos) scope X.env _ (newList []) false (eval iter X.env) (some (assign (.Name y py) X.env))) _ _ s
  refine wpAny_bind (wpAny_mono (wpAny_comprehension_free (use := some (assign (.Name y py) X.env)) (Q := fun _ s' => SP X pins D .next s') rfl hs (clos_eq I S) S.kind (names_ok S)
    (thn (hi pins s σ H _ I h) fun v s1 h1 => thn h1 fun itv s2 h2 => ?_)) (fun _ s' hq => wpAny_pure (wpAny_pure hq)) fun _ _ e => e)
  obtain ⟨it, fp, tnn, J, H2, e, I2, T, st2, f2, hW⟩ := h2
  subst e
  refine comp_block (Q := fun x H1 => gName i x σ H1 D.nx) hcalm S hgs hg ht he I2 T st2 f2 hW fun s8 H8 C DD m I8 hm hC hsz q => ?_
  show wpAny _ X.A (assign (.Name y py) X.env (.ref DD)) _ _ _
  have CL : C ≠ X.env.locals := fun z => absurd I2.lt (by rw [← z]; exact Nat.not_lt.mpr hsz)
  have CC : ∀ x c, X.env.cells.lookup x = some c → c ≠ C := fun x c e z => by
    obtain ⟨v, q⟩ := I2.cell x c e
    exact absurd q.lt (by rw [z]; exact Nat.not_lt.mpr hsz)
  refine wpAny_assign_Name (store_ok2 (v := .ref DD) I8 hN hy hx rfl (fun s9 I9 ⟨a, hsb, ha⟩ => ?_) hf)
  have aC : C ≠ a := fun z => by
    rcases ha with e | e
    · exact CL (z.trans e)
    · exact CC _ _ e z.symm
  refine ⟨m, hm.sameBut hsb aC, fun h' hs' => ⟨_, H8, ?_, q⟩⟩
  exact I9.turned (t' := s9.toks) (it := C) (fun b o hb e => hs'.extBut b o hb e) hC CL (.inr (Nat.le_trans I2.sz hsz)) CC (fun p hp z => absurd (Heap.lt_size (I2.pin p hp).1) (by rw [z]; exact Nat.not_lt.mpr hsz))
end
theorem PE.imp {X : Cx} {e : Expr} {t t' : TE} (h : PE X e t) (q : ∀ σ H Q, t' σ H Q → t σ H Q) : PE X e t' := fun pins s σ H Q I z => h pins s σ H Q I (q σ H Q z)
theorem PS.imp {X : Cx} {e : Stmt} {t t' : TS} (h : PS X e t) (q : ∀ D σ H, t' D σ H → t D σ H) : PS X e t' := fun pins s σ H D I z => h pins s σ H D I (q D σ H z)
def CompGo (J : It) (g : TG) (te : TE) (k : Nat) (idx : List Nat) (σ : St) (H1 : Hp) (Q : VK) : Prop :=
  ∃ W : Nat → Nat → List V → Hp → Prop, (∃ m, W 0 m [] H1) ∧ ∀ i m vs H, W i m vs H →
    (J.stop i H ∧ vs.length ≤ sizeLine ∧ ∀ p, H p = none → Q (.ref p) (upd H p (.lst vs))) ∨
    (J.go i H ∧ vs.length ≤ sizeLine ∧ ∃ N : List V → Hp → Prop, (∀ vs' H', N vs' H' → ∃ m', m' < m ∧ W (i + 1) m' vs' H') ∧ ∀ x H', J.yld i H x H' → g x (cbase k idx σ) H' fun σ2 H2 => te σ2 H2 fun v H4 => N (vs ++ [v]) H4)
def tComp0 (wi : TI) (g : TG) (te : TE) (k : Nat) (idx : List Nat) : TE := fun σ H Q => wi σ H fun J H1 => CompGo J g te k idx σ H1 Q
theorem tComp0_eq {wi : TI} {g : TG} {te : TE} {k : Nat} {idx : List Nat} : tComp0 wi g te k idx = tComp wi g tYes te k idx := by
  have e : ∀ (A B : Prop), (if true = true then A else B) = A := fun A B => if_pos rfl
  unfold tComp0 CompGo tComp tYes
  simp only [if_true]
section
variable {X : Cx} {scope : Scope} {tn cap : List Str} {idx : List Nat}
theorem pe_comp0 {elt target iter : Expr} {pos : Pos} {wi : TI} {g : TG} {te : TE} (S : CompScope X scope tn cap idx) (hi : PI X target iter wi) (hgs : GSet tn.length g)
    (hg : ∀ cs C fp s₀ H₀, PG (cxC X (tn ++ cap) scope cs C fp s₀ H₀) target g)
    (he : ∀ cs C fp s₀ H₀, PE (cxC X (tn ++ cap) scope cs C fp s₀ H₀) elt te) (hcalm : X.calm = true := by rfl) (hs : ∀ x, foldedSetIterable iter X.env x = pure x := by intro _; rfl) :
    PE X (.ListComp elt [⟨target, iter, [], 0⟩] scope pos) (tComp0 wi g te tn.length idx) := by
  rw [tComp0_eq]
  exact pe_comp hcalm S hi hgs hg (fun _ _ _ _ _ => pts_nil) he hs
theorem ps_setC0 {elt target iter : Expr} {pos spos py : Pos} {wi : TI} {g : TG} {te : TE} {i : Nat} {y : Str} (S : CompScope X scope tn cap idx) (hN : X.N.Nodup) (hy : X.N[i]? = some y) (hx : Loc X.env.scope y)
    (hi : PI X target iter wi) (hgs : GSet tn.length g)
    (hg : ∀ cs C fp s₀ H₀, PG (cxC X (tn ++ cap) scope cs C fp s₀ H₀) target g)
    (he : ∀ cs C fp s₀ H₀, PE (cxC X (tn ++ cap) scope cs C fp s₀ H₀) elt te) (hcalm : X.calm = true := by rfl)
    (hsw : swapsWith (.ListComp elt [⟨target, iter, [], 0⟩] scope pos) (some (.Name y py)) spos.line X.env = pure true := by rfl) (hs : ∀ x, foldedSetIterable iter X.env x = pure x := by intro _; rfl)
    (hf : X.fn y = true ∨ X.env.scope.names.lookup y = some .local := by first | exact .inl rfl | exact .inr rfl | assumption) :
    PS X (.Assign [.Name y py] (.ListComp elt [⟨target, iter, [], 0⟩] scope pos) spos) (tAsg (tComp0 wi g te tn.length idx) (gName i)) := by
  rw [tComp0_eq]
  exact ps_setC hcalm S hN hy hx hi hgs hg (fun _ _ _ _ _ => pts_nil) he hsw hs hf
end
end L2
set_option Elab.async false
set_option linter.all false
set_option maxRecDepth 100000
set_option maxHeartbeats 4000000
namespace L2
open PySem PySem.Spec PyProof.Rows
inductive D where
  | non | bl (b : Bool) | int (i : Int) | str (x : Str) | lst (ds : List D) | tup (ds : List D)
mutual
def Rf (H : Hp) : D → V → List Addr → Prop
  | .non, v, fp => v = .non ∧ fp = []
  | .bl b, v, fp => v = .bl b ∧ fp = []
  | .int i, v, fp => v = .int i ∧ fp = []
  | .str x, v, fp => v = .str x ∧ fp = []
  | .lst ds, v, fp => ∃ a xs fq, v = .ref a ∧ H a = some (.lst xs) ∧ fp = a :: fq ∧ Rfs H ds xs fq
  | .tup ds, v, fp => ∃ a xs, v = .ref a ∧ H a = some (.tup xs) ∧ Rfs H ds xs fp
def Rfs (H : Hp) : List D → List V → List Addr → Prop
  | [], xs, fp => xs = [] ∧ fp = []
  | d :: ds, xs, fp => ∃ x r f1 f2, xs = x :: r ∧ fp = f1 ++ f2 ∧ Rf H d x f1 ∧ Rfs H ds r f2
end
def Rp (H : Hp) (d : D) (v : V) : Prop := ∃ fp, Rf H d v fp
mutual
theorem Rf.mono {H H' : Hp} : ∀ {d : D} {v : V} {fp : List Addr}, Rf H d v fp → (∀ a ∈ fp, ∀ o, H a = some o → H' a = some o) → (∀ a xs, H a = some (.tup xs) → H' a = some (.tup xs)) → Rf H' d v fp
  | .non, _, _, h, _, _ => h
  | .bl _, _, _, h, _, _ => h
  | .int _, _, _, h, _, _ => h
  | .str _, _, _, h, _, _ => h
  | .lst ds, v, fp, h, k, t => by
    obtain ⟨a, xs, fq, e1, e2, e3, h⟩ := h
    subst e3
    exact ⟨a, xs, fq, e1, k a List.mem_cons_self _ e2, rfl, Rfs.mono h (fun b hb => k b (List.mem_cons_of_mem _ hb)) t⟩
  | .tup ds, v, fp, h, k, t => by
    obtain ⟨a, xs, e1, e2, h⟩ := h
    exact ⟨a, xs, e1, t a xs e2, Rfs.mono h k t⟩
theorem Rfs.mono {H H' : Hp} : ∀ {ds : List D} {vs : List V} {fp : List Addr}, Rfs H ds vs fp → (∀ a ∈ fp, ∀ o, H a = some o → H' a = some o) → (∀ a xs, H a = some (.tup xs) → H' a = some (.tup xs)) → Rfs H' ds vs fp
  | [], _, _, h, _, _ => h
  | d :: ds, vs, fp, h, k, t => by
    obtain ⟨x, r, f1, f2, e1, e2, h1, h2⟩ := h
    subst e2
    exact ⟨x, r, f1, f2, e1, rfl, Rf.mono h1 (fun b hb => k b (List.mem_append_left _ hb)) t, Rfs.mono h2 (fun b hb => k b (List.mem_append_right _ hb)) t⟩
end
mutual
theorem Rf.dom {H : Hp} : ∀ {d : D} {v : V} {fp : List Addr}, Rf H d v fp → ∀ a ∈ fp, ∃ xs, H a = some (.lst xs)
  | .non, _, _, h, a, ha => by obtain ⟨_, rfl⟩ := h; nomatch ha
  | .bl _, _, _, h, a, ha => by obtain ⟨_, rfl⟩ := h; nomatch ha
  | .int _, _, _, h, a, ha => by obtain ⟨_, rfl⟩ := h; nomatch ha
  | .str _, _, _, h, a, ha => by obtain ⟨_, rfl⟩ := h; nomatch ha
  | .lst ds, v, fp, h, b, hb => by
    obtain ⟨a, xs, fq, e1, e2, e3, h⟩ := h
    subst e3
    rcases List.mem_cons.mp hb with e | hb
    · subst e; exact ⟨xs, e2⟩
    · exact Rfs.dom h b hb
  | .tup ds, v, fp, h, b, hb => by
    obtain ⟨a, xs, e1, e2, h⟩ := h
    exact Rfs.dom h b hb
theorem Rfs.dom {H : Hp} : ∀ {ds : List D} {vs : List V} {fp : List Addr}, Rfs H ds vs fp → ∀ a ∈ fp, ∃ xs, H a = some (.lst xs)
  | [], _, _, h, a, ha => by obtain ⟨_, rfl⟩ := h; nomatch ha
  | d :: ds, vs, fp, h, b, hb => by
    obtain ⟨x, r, f1, f2, e1, e2, h1, h2⟩ := h
    subst e2
    rcases List.mem_append.mp hb with hb | hb
    · exact Rf.dom h1 b hb
    · exact Rfs.dom h2 b hb
end
theorem Rfs.length {H : Hp} : ∀ {ds : List D} {vs : List V} {fp : List Addr}, Rfs H ds vs fp → vs.length = ds.length
  | [], _, _, h => by obtain ⟨rfl, _⟩ := h; rfl
  | d :: ds, vs, fp, h => by
    obtain ⟨x, r, f1, f2, e1, e2, h1, h2⟩ := h
    subst e1
    rw [List.length_cons, List.length_cons, Rfs.length h2]
theorem Rfs.append {H : Hp} : ∀ {ds es : List D} {vs ws : List V} {fp fq : List Addr}, Rfs H ds vs fp → Rfs H es ws fq → Rfs H (ds ++ es) (vs ++ ws) (fp ++ fq)
  | [], es, vs, ws, fp, fq, h, h' => by obtain ⟨rfl, rfl⟩ := h; exact h'
  | d :: ds, es, vs, ws, fp, fq, h, h' => by
    obtain ⟨x, r, f1, f2, rfl, rfl, h1, h2⟩ := h
    exact ⟨x, r ++ ws, f1, f2 ++ fq, rfl, List.append_assoc .., h1, Rfs.append h2 h'⟩
theorem Rfs.get {H : Hp} : ∀ {ds : List D} {vs : List V} {fp : List Addr} {i : Nat} {d : D}, Rfs H ds vs fp → ds[i]? = some d → ∃ v f, vs[i]? = some v ∧ Rf H d v f ∧ (∀ a ∈ f, a ∈ fp)
  | [], _, _, _, _, _, e => by simp at e
  | d :: ds, vs, fp, 0, d', h, e => by
    obtain ⟨x, r, f1, f2, rfl, rfl, h1, h2⟩ := h
    simp at e; subst e
    exact ⟨x, f1, rfl, h1, fun a ha => List.mem_append_left _ ha⟩
  | d :: ds, vs, fp, i + 1, d', h, e => by
    obtain ⟨x, r, f1, f2, rfl, rfl, h1, h2⟩ := h
    obtain ⟨v, f, e1, h3, k⟩ := Rfs.get (i := i) h2 (by simpa using e)
    exact ⟨v, f, by simpa using e1, h3, fun a ha => List.mem_append_right _ (k a ha)⟩
abbrev dI (xs : List Int) : D := .lst (xs.map D.int)
abbrev dT (t : List (List Int)) : D := .lst (t.map dI)
theorem Rfs.ints {H : Hp} : ∀ {xs : List Int} {vs : List V} {fp : List Addr}, Rfs H (xs.map D.int) vs fp ↔ vs = xs.map V.int ∧ fp = []
  | [], vs, fp => Iff.rfl
  | x :: xs, vs, fp => by
    constructor
    · rintro ⟨y, r, f1, f2, rfl, rfl, ⟨rfl, rfl⟩, h⟩
      obtain ⟨rfl, rfl⟩ := Rfs.ints.mp h
      exact ⟨rfl, rfl⟩
    · rintro ⟨rfl, rfl⟩
      exact ⟨_, _, [], [], rfl, rfl, ⟨rfl, rfl⟩, Rfs.ints.mpr ⟨rfl, rfl⟩⟩
theorem Rf.row {H : Hp} {xs : List Int} {v : V} {fp : List Addr} : Rf H (dI xs) v fp ↔ ∃ a, v = .ref a ∧ H a = some (.lst (xs.map V.int)) ∧ fp = [a] := by
  constructor
  · rintro ⟨a, ys, fq, rfl, e, rfl, h⟩
    obtain ⟨rfl, rfl⟩ := Rfs.ints.mp h
    exact ⟨a, rfl, e, rfl⟩
  · rintro ⟨a, rfl, e, rfl⟩
    exact ⟨a, _, [], rfl, e, rfl, Rfs.ints.mpr ⟨rfl, rfl⟩⟩
theorem Rp.row {H : Hp} {xs : List Int} {v : V} : Rp H (dI xs) v ↔ ∃ a, v = .ref a ∧ H a = some (.lst (xs.map V.int)) := by
  constructor
  · rintro ⟨fp, h⟩
    obtain ⟨a, h1, h2, _⟩ := Rf.row.mp h
    exact ⟨a, h1, h2⟩
  · rintro ⟨a, h1, h2⟩
    exact ⟨[a], Rf.row.mpr ⟨a, h1, h2, rfl⟩⟩
inductive Rows (H : Hp) : List (List Int) → List Addr → Prop where
  | nil : Rows H [] []
  | cons {xs : List Int} {t : List (List Int)} {a : Addr} {as : List Addr} : H a = some (.lst (xs.map V.int)) → Rows H t as → Rows H (xs :: t) (a :: as)
theorem Rows.length {H : Hp} {t : List (List Int)} {as : List Addr} (h : Rows H t as) : as.length = t.length := by
  induction h with
  | nil => rfl
  | cons _ _ ih => rw [List.length_cons, List.length_cons, ih]
theorem Rows.mono {H H' : Hp} {t : List (List Int)} {as : List Addr} (h : Rows H t as) (k : ∀ a ∈ as, ∀ o, H a = some o → H' a = some o) : Rows H' t as := by
  induction h with
  | nil => exact .nil
  | cons e _ ih => exact .cons (k _ List.mem_cons_self _ e) (ih fun a ha => k a (List.mem_cons_of_mem _ ha))
end L2
set_option Elab.async false
set_option linter.all false
set_option maxRecDepth 100000
set_option maxHeartbeats 4000000
namespace L2
open PySem PySem.Spec PyProof.Rows
section
variable {X : Cx}
theorem call_isinst : CallR X (.builtin "isinstance") (fun xs H Q => ∃ x n t b, xs = [x, .ty n] ∧ TyOf X.K H x t ∧ PySem.W.kitOne X.K t (.type n) = some b ∧ Q (.bl b) H) := by
  intro pins s σ H xs us Q I r h
  obtain ⟨x, n, t, b, rfl, ty, e, q⟩ := h
  obtain ⟨u, w', rfl, rx, rn⟩ := vals2 r
  obtain rfl : w' = Value.type n := rn
  exact isinst_ok I rx ty e fun tk => ⟨.bl b, H, I.tok _, rfl, q⟩
theorem ints_are : ∀ {xs : List Int} {us : List Value}, Vals (xs.map V.int) us → IntsAre us xs
  | [], us, r => by cases r; exact .nil
  | x :: xs, us, r => by
    cases r with
    | cons r rr =>
      obtain ⟨t, rfl⟩ := r
      exact .cons _ _ (ints_are rr)
theorem call_sum (hc : X.calm = true) : CallR X (.builtin "sum") (fun xs H Q => ∃ (a : Addr) (ns : List Int), xs = [.ref a] ∧ SqL X.K H a (ns.map V.int) ∧ Q (.int ns.sum) H) := by
  intro pins s σ H xs us Q I r h
  obtain ⟨a, ns, rfl, hS, q⟩ := h
  obtain ⟨u, rfl, ru⟩ := vals1 r
  obtain rfl : u = Value.ref a := ru
  obtain ⟨its, rv, pl, hz⟩ := I.list hS
  have hi := ints_are rv
  obtain ⟨xs', e⟩ := hi.allInts.items
  have hl : s.heap.IsList a (intItems xs') := by rw [← e]; exact pl.isList
  refine sum_intListG (I.ok.hd hc) hl fun h' tk t' hk => ⟨.int ns.sum, H, I.kept hk, ⟨t', ?_⟩, q⟩
  have e2 : numsOf its.toArray.toList = ns := hi.numsOf
  rw [e, nums_intItems] at e2
  rw [preSum_eq, List.take_of_length_le (by simp), e2]
end
def Itz (K : PySem.W.Frag) (a b : Addr) : It :=
  ⟨fun i H => ∃ xs ys x y, SqL K H a xs ∧ SqL K H b ys ∧ xs[i]? = some x ∧ ys[i]? = some y,
   fun i H v H' => ∃ p x y, v = .ref p ∧ H p = none ∧ H' = upd H p (.tup [x, y]) ∧ (∀ xs, SqL K H a xs → xs[i]? = some x) ∧ ∀ ys, SqL K H b ys → ys[i]? = some y,
   fun i H => ∃ xs ys, SqL K H a xs ∧ SqL K H b ys ∧ (xs.length ≤ i ∨ ys.length ≤ i)⟩
def ZipSt (a b z TI TO i1 i2 : Addr) (i : Nat) (h : Heap) : Prop :=
  IsZip h z TI TO .none ∧ IsPair h TI (.ref i1) (.ref i2) ∧ (∃ u v, IsPair h TO u v) ∧ h.IsListIter i1 a i ∧ h.IsListIter i2 b i
theorem cls_ne {h : Heap} {a b : Addr} {o u : Obj} {c d : String} (e1 : h.get? a = some o) (e2 : h.get? b = some u) (c1 : o.cls = .type c) (c2 : u.cls = .type d) (n : c ≠ d) : a ≠ b := fun z => by
  subst z; rw [e1] at e2; cases e2; rw [c1] at c2; cases c2; exact n rfl
theorem zip_apart {h : Heap} {a b z TI TO i1 i2 : Addr} {i : Nat} {xs ys : Array Value} (st : ZipSt a b z TI TO i1 i2 i h) (h1 : h.IsList a xs) (h2 : h.IsList b ys) (d1 : TI ≠ TO) (d2 : i1 ≠ i2) : ZipApart z TI TO i1 i2 a b := by
  obtain ⟨sz, sI, ⟨u, v, sO⟩, ⟨o1, e1, c1, _⟩, ⟨o2, e2, c2, _⟩⟩ := st
  obtain ⟨oa, ea, ca, _⟩ := h1
  obtain ⟨ob, eb, cb, _⟩ := h2
  exact ⟨cls_ne sI sz rfl rfl (by decide), cls_ne sO sz rfl rfl (by decide), cls_ne e1 sz c1 rfl (by decide), cls_ne e2 sz c2 rfl (by decide), d1, cls_ne sI e1 rfl c1 (by decide), cls_ne sI e2 rfl c2 (by decide), cls_ne sO e1 rfl c1 (by decide), cls_ne sO e2 rfl c2 (by decide), d2,
    cls_ne ea sz ca rfl (by decide), cls_ne ea sO ca rfl (by decide), cls_ne ea e1 ca c1 (by decide), cls_ne ea e2 ca c2 (by decide), cls_ne eb sz cb rfl (by decide), cls_ne eb sO cb rfl (by decide), cls_ne eb e1 cb c1 (by decide), cls_ne eb e2 cb c2 (by decide)⟩
theorem Inv.turnedL {X : Cx} {pins : List (Addr × Obj)} {σ : St} {H H' : Hp} {s : Shared} {h' : Heap} {fp : List Addr} {t' : Nat} (I : Inv X pins σ H s) (hf : ∀ b ∈ fp, FpOk X pins H b) (k : ∀ b o, b ∉ fp → s.heap.get? b = some o → h'.get? b = some o)
    (free : ∀ b o, s.heap.get? b = some o → H b = none → H' b = none) (sm : Same H H') (hok : HOk X.prog X.w H' h') : Inv X pins σ H' { s with heap := h', toks := t' } := by
  have nL : X.env.locals ∉ fp := fun z => (hf _ z).2.1 rfl
  refine I.step (g' := s.gens) (d' := s.drawn) (ch := fp) (fun b hb => ?_) (fun b o _ _ hc e _ => k b o hc e) (fun b o _ _ hc e _ => ⟨o.slots, k b o hc e⟩) (fun b o _ e n => free b o e n) (fun b o hc e => ⟨o, k b o hc e⟩)
    (fun b xs e => sm b _ e) (fun b o u e => sm b _ e) (fun b ps e => ⟨#[], by rw [sm b _ e]; simp⟩) (fun m hm => ?_) hok I.bare
  · obtain ⟨_, f1, _, f3, f4, f5⟩ := hf b hb
    exact ⟨f3, f1, f4, f5⟩
  · obtain ⟨o, es, ep, ho, r⟩ := hm
    exact ⟨o, es, ep, k _ o nL ho, r⟩
theorem turn_zip {P : Program} {w : World} {K : PySem.W.Frag} {elts : List Expr} {x1 : Nat} {pos : Pos} (a b z TI TO i1 i2 : Addr) (d1 : TI ≠ TO) (d2 : i1 ≠ i2) : Turn P w K (.Tuple elts x1 pos) (Itz K a b) [z, TI, TO, i1, i2] z (ZipSt a b z TI TO i1 i2) where
  mem := by simp
  obj := fun i h st c hc => by
    obtain ⟨sz, sI, ⟨u, v, sO⟩, ⟨o1, e1, c1, q1⟩, ⟨o2, e2, c2, q2⟩⟩ := st
    simp only [List.mem_cons, List.not_mem_nil, or_false] at hc
    rcases hc with rfl | rfl | rfl | rfl | rfl
    · exact ⟨_, sz, fun v z => by cases z⟩
    · exact ⟨_, sI, fun v z => by cases z⟩
    · exact ⟨_, sO, fun v z => by cases z⟩
    · exact ⟨_, e1, fun v z => by rw [q1] at z; cases z⟩
    · exact ⟨_, e2, fun v z => by rw [q2] at z; cases z⟩
  keep := fun i h h' st k => by
    obtain ⟨sz, sI, ⟨u, v, sO⟩, s1, s2⟩ := st
    exact ⟨k _ (by simp) _ sz, k _ (by simp) _ sI, ⟨u, v, k _ (by simp) _ sO⟩, s1.at fun o e => k _ (by simp) o e, s2.at fun o e => k _ (by simp) o e⟩
  item := by
    intro X hP hw hK hc i pins s σ H E I hf st hg
    subst hP hw hK
    obtain ⟨xs, ys, x, y, hq1, hq2, hx, hy⟩ := hg
    obtain ⟨its1, rv1, p1, hz1⟩ := I.list hq1
    obtain ⟨its2, rv2, p2, hz2⟩ := I.list hq2
    obtain ⟨u, hu, ru⟩ := rv1.get hx
    obtain ⟨v, hv, rv⟩ := rv2.get hy
    have Dp := zip_apart st p1.isList p2.isList d1 d2
    obtain ⟨sz, sI, ⟨ua, ub, sO⟩, s1, s2⟩ := st
    refine wpAny_pyNext_zip_item Dp sz sI sO s1 s2 p1.isList p2.isList (x := u) (y := v) (by simpa using hu) (by simpa using hv) fun h1 z1 O1 t1 t2 pr hsz kk => ?_
    refine ⟨.ref s.heap.objs.size, rfl, wpAny_letOwnedTupleGo_zip z1 fun h2 z2 sb => ?_⟩
    have zlt : z < s.heap.objs.size := Heap.lt_size sz
    have pz : s.heap.objs.size ≠ z := Nat.ne_of_gt zlt
    have hn : H s.heap.objs.size = none := I.hok.fresh (Nat.le_refl _)
    have k2 : ∀ c o, c ∉ [z, TI, TO, i1, i2] → s.heap.get? c = some o → h2.get? c = some o := fun c o hc e => by
      simp only [List.mem_cons, List.not_mem_nil, or_false, not_or] at hc
      exact sb.extBut c o hc.1 (kk c o hc.1 hc.2.2.1 hc.2.2.2.1 hc.2.2.2.2 e)
    have sm : Same H (upd H s.heap.objs.size (.tup [x, y])) := fun c o e => by rw [upd_ne (ne_of_none e hn)]; exact e
    refine ⟨.ref s.heap.objs.size, upd H s.heap.objs.size (.tup [x, y]), ?_, rfl, ⟨s.heap.objs.size, x, y, rfl, hn, rfl, fun zs hz => by rw [I.list_inj hz hq1]; exact hx, fun zs hz => by rw [I.list_inj hz hq2]; exact hy⟩,
      ⟨z2, sb.extBut _ _ Dp.TIz (kk _ _ Dp.TIz Dp.TITO Dp.TIi1 Dp.TIi2 sI), ⟨u, v, sb.extBut _ _ Dp.TOz O1⟩, t1.at fun o e => sb.extBut _ _ Dp.i1z e, t2.at fun o e => sb.extBut _ _ Dp.i2z e⟩, fun c hc => ?_⟩
    · refine I.turnedL (t' := s.toks) hf k2 (fun c o e n => by rw [upd_ne (Nat.ne_of_lt (Heap.lt_size e))]; exact n) sm fun c o e => ?_
      by_cases ec : c = s.heap.objs.size
      · subst ec
        rw [upd_same] at e
        cases e
        exact ⟨by simp only [List.length_cons, List.length_nil]; rw [sizeLine_eq]; decide, [u, v], .cons ru (.cons rv .nil), ⟨_, sb.extBut _ _ pz pr, rfl, 0, rfl⟩⟩
      · rw [upd_ne ec] at e
        refine (I.hok c o e).stay (fun d w' hd q => k2 d w' (fun hm => ?_) q) (fun d q => sm d _ q) fun d ds q => sm d _ q
        have hdn := (hf d hm).1
        rcases hd with rfl | hd
        · rw [hdn] at e; cases e
        · rw [hdn] at hd; cases hd
    · have := (hf c hc).1
      by_cases ec : c = s.heap.objs.size
      · exfalso
        subst ec
        obtain ⟨_, e1, _⟩ := s1
        obtain ⟨_, e2, _⟩ := s2
        simp only [List.mem_cons, List.not_mem_nil, or_false] at hc
        rcases hc with q | q | q | q | q
        · exact pz q
        · exact absurd (Heap.lt_size sI) (by rw [← q]; exact Nat.lt_irrefl _)
        · exact absurd (Heap.lt_size sO) (by rw [← q]; exact Nat.lt_irrefl _)
        · exact absurd (Heap.lt_size e1) (by rw [← q]; exact Nat.lt_irrefl _)
        · exact absurd (Heap.lt_size e2) (by rw [← q]; exact Nat.lt_irrefl _)
      · rw [upd_ne ec]; exact this
  done := by
    intro X hP hw hK hc i pins s σ H E I hf st hg
    subst hP hw hK
    obtain ⟨xs, ys, hq1, hq2, hle⟩ := hg
    obtain ⟨its1, rv1, p1, hz1⟩ := I.list hq1
    obtain ⟨its2, rv2, p2, hz2⟩ := I.list hq2
    have l1 := rv1.length
    have l2 := rv2.length
    have Dp := zip_apart st p1.isList p2.isList d1 d2
    obtain ⟨sz, sI, ⟨ua, ub, sO⟩, s1, s2⟩ := st
    refine wpAny_pyNext_zip_end (I.ok.hd hc) Dp sz sI sO s1 s2 p1.isList p2.isList (hle.elim (fun q => .inl (by simp; omega)) fun q => .inr (by simp; omega)) fun h1 kk => ⟨rfl, ?_⟩
    have k2 : ∀ c o, c ∉ [z, TI, TO, i1, i2] → s.heap.get? c = some o → h1.get? c = some o := fun c o hc e => by
      simp only [List.mem_cons, List.not_mem_nil, or_false, not_or] at hc
      exact kk c o hc.1 hc.2.2.1 hc.2.2.2.1 hc.2.2.2.2 e
    refine I.turnedL (t' := s.toks) hf k2 (fun _ _ _ n => n) (Same.refl H) fun c o e => ?_
    refine (I.hok c o e).stay (fun d w' hd q => k2 d w' (fun hm => ?_) q) (fun d q => q) fun d ds q => q
    have hdn := (hf d hm).1
    rcases hd with rfl | hd
    · rw [hdn] at e; cases e
    · rw [hdn] at hd; cases hd
  self := fun _ _ _ _ _ st h => wpAny_pyIter_zip st.1 h
section
variable {X : Cx}
def iZip (K : PySem.W.Frag) (ta : TA) : TI := fun σ H R => ta σ H fun vs H1 => ∃ a b, vs = [.ref a, .ref b] ∧ (∃ xs, SqL K H1 a xs) ∧ (∃ ys, SqL K H1 b ys) ∧ R (Itz K a b) H1
theorem pi_zip {elts : List Expr} {x1 : Nat} {tp : Pos} {a b : Expr} {ta : TA} {p pos : Pos} (hg : Gl X "zip") (hm : X.mg "zip" = none) (ha : PA X [a, b] ta) (hs : starEach [a, b] X.env = [(false, eval a X.env), (false, eval b X.env)] := by rfl) (hs2 : starEach [b] X.env = [(false, eval b X.env)] := by rfl) :
    PI X (.Tuple elts x1 tp) (.Call (.Name "zip" p) [a, b] [] pos) (iZip X.K ta) := by
  intro pins s σ H R I h
  refine Call_ (ld_blt I hg hm boot_zip (PyProof.Rows.callWith_type1 (thn (ha pos pins s σ H _ I h) fun us s1 ⟨vs, H1, I1, r1, q1⟩ => ?_) (by rw [hs, hs2]) (by rw [hs2]; rfl)))
  obtain ⟨l1, l2, rfl, ⟨xs, hx⟩, ⟨ys, hy⟩, q⟩ := q1
  obtain ⟨u1, u2, rfl, r2, r3⟩ := vals2 r1
  obtain rfl : u1 = Value.ref l1 := r2
  obtain rfl : u2 = Value.ref l2 := r3
  obtain ⟨its1, rv1, p1, hz1⟩ := I1.list hx
  obtain ⟨its2, rv2, p2, hz2⟩ := I1.list hy
  refine call_zip_2 p1.isList p2.isList fun h' sz sI sO t1 t2 hsz kk => ?_
  have I2 : Inv X pins σ H1 { s1 with heap := h' } := I1.kept (t' := s1.toks) kk
  refine wpAny_pyIter_zip sz ⟨_, _, ZipSt l1 l2 (s1.heap.objs.size + 4) (s1.heap.objs.size + 2) (s1.heap.objs.size + 3) s1.heap.objs.size (s1.heap.objs.size + 1), Itz X.K l1 l2, H1, rfl, I2, turn_zip _ _ _ _ _ _ _ (Nat.ne_of_lt (Nat.lt_succ_self _)) (Nat.ne_of_lt (Nat.lt_succ_self _)), ⟨sz, sI, ⟨_, _, sO⟩, t1, t2⟩, fun c hc => ?_, q⟩
  simp only [List.mem_cons, List.not_mem_nil, or_false] at hc
  have hge : s1.heap.objs.size ≤ c := by rcases hc with rfl | rfl | rfl | rfl | rfl <;> first | exact Nat.le_add_right _ _ | exact Nat.le_refl _
  obtain ⟨g0, g1, g2, g3, g4, g5⟩ := I1.fpOk (H' := H1) hge (I1.hok.fresh hge)
  exact ⟨g0, g1, g2, g3, g4, g5⟩
end
mutual
def D.plain : D → Bool
  | .non => true | .bl _ => false | .int _ => true | .str _ => true
  | .lst ds => D.plains ds | .tup ds => D.plains ds
def D.plains : List D → Bool
  | [] => true
  | d :: ds => D.plain d && D.plains ds
end
mutual
def D.depth : D → Nat
  | .lst ds => D.depths ds + 1 | .tup ds => D.depths ds + 1
  | _ => 0
def D.depths : List D → Nat
  | [] => 0
  | d :: ds => max (D.depth d) (D.depths ds)
end
mutual
def D.eqb : D → D → Bool
  | .non, .non => true
  | .int i, .int j => i == j
  | .str i, .str j => i == j
  | .lst a, .lst b => D.eqbs a b
  | .tup a, .tup b => D.eqbs a b
  | _, _ => false
def D.eqbs : List D → List D → Bool
  | [], [] => true
  | a :: as, b :: bs => D.eqb a b && D.eqbs as bs
  | _, _ => false
end
theorem D.eqbs_iff : ∀ {a b : List D}, D.eqbs a b = (decide (a.length = b.length) && (List.range a.length).all fun i => match a[i]?, b[i]? with | some x, some y => D.eqb x y | _, _ => false)
  | [], [] => rfl
  | [], b :: bs => by simp [D.eqbs]
  | a :: as, [] => by simp [D.eqbs]
  | a :: as, b :: bs => by
    rw [D.eqbs, D.eqbs_iff (a := as) (b := bs), List.length_cons, List.range_succ_eq_map, List.all_cons, List.all_map]
    by_cases h : as.length = bs.length
    · simp [h, Function.comp_def]
    · simp [h]
end L2
set_option Elab.async false
set_option linter.all false
set_option maxRecDepth 100000
set_option maxHeartbeats 4000000
namespace L2
open PySem PySem.Spec PyProof.Rows
open PySem.SeqAt
theorem D.plains_get : ∀ {ds : List D} {i : Nat} {d : D}, D.plains ds = true → ds[i]? = some d → d.plain = true
  | [], i, d, _, e => by simp at e
  | c :: ds, 0, d, h, e => by
    simp at e; subst e
    rw [D.plains, Bool.and_eq_true] at h
    exact h.1
  | c :: ds, i + 1, d, h, e => by
    rw [D.plains, Bool.and_eq_true] at h
    exact D.plains_get (i := i) h.2 (by simpa using e)
theorem D.depths_get : ∀ {ds : List D} {i : Nat} {d : D}, ds[i]? = some d → d.depth ≤ D.depths ds
  | [], i, d, e => by simp at e
  | c :: ds, 0, d, e => by
    simp at e; subst e
    rw [D.depths]
    exact Nat.le_max_left _ _
  | c :: ds, i + 1, d, e => by
    rw [D.depths]
    exact Nat.le_trans (D.depths_get (i := i) (by simpa using e)) (Nat.le_max_right _ _)
theorem D.eqbs_all {a b : List D} (hl : a.length = b.length) (f : Nat → Bool) (h : ∀ i x y, a[i]? = some x → b[i]? = some y → f i = D.eqb x y) : D.eqbs a b = (List.range a.length).all f := by
  rw [D.eqbs_iff, decide_eq_true hl, Bool.true_and, Bool.eq_iff_iff]
  simp only [List.all_eq_true, List.mem_range]
  constructor
  · intro q i hi
    have := q i hi
    rw [List.getElem?_eq_getElem hi, List.getElem?_eq_getElem (show i < b.length by omega)] at this
    rw [h i _ _ (List.getElem?_eq_getElem hi) (List.getElem?_eq_getElem (show i < b.length by omega))]
    exact this
  · intro q i hi
    have := q i hi
    rw [h i _ _ (List.getElem?_eq_getElem hi) (List.getElem?_eq_getElem (show i < b.length by omega))] at this
    rw [List.getElem?_eq_getElem hi, List.getElem?_eq_getElem (show i < b.length by omega)]
    exact this
theorem D.eqbs_len {a b : List D} (hl : a.length ≠ b.length) : D.eqbs a b = false := by
  rw [D.eqbs_iff, decide_eq_false hl, Bool.false_and]
theorem eqb_one {H : Hp} : ∀ (n : Nat) (d e : D) (v : V), d.depth ≤ n → Rp H d v → Rp H e v → d.plain = true → D.eqb d e = true := by
  intro n
  induction n with
  | zero =>
    intro d e v hn hd he hp
    obtain ⟨f, hd⟩ := hd
    obtain ⟨g, he⟩ := he
    cases d with
    | non => obtain ⟨rfl, _⟩ := hd; cases e with
      | non => rfl
      | lst ds => obtain ⟨_, _, _, z, _⟩ := he; cases z
      | tup ds => obtain ⟨_, _, z, _⟩ := he; cases z
      | _ => obtain ⟨z, _⟩ := he; cases z
    | bl b => cases hp
    | int i => obtain ⟨rfl, _⟩ := hd; cases e with
      | int j => obtain ⟨z, _⟩ := he; cases z; simp [D.eqb]
      | lst ds => obtain ⟨_, _, _, z, _⟩ := he; cases z
      | tup ds => obtain ⟨_, _, z, _⟩ := he; cases z
      | _ => obtain ⟨z, _⟩ := he; cases z
    | str i => obtain ⟨rfl, _⟩ := hd; cases e with
      | str j => obtain ⟨z, _⟩ := he; cases z; simp [D.eqb]
      | lst ds => obtain ⟨_, _, _, z, _⟩ := he; cases z
      | tup ds => obtain ⟨_, _, z, _⟩ := he; cases z
      | _ => obtain ⟨z, _⟩ := he; cases z
    | lst ds => rw [D.depth] at hn; omega
    | tup ds => rw [D.depth] at hn; omega
  | succ n ih =>
    intro d e v hn hd he hp
    have go : ∀ (ds es : List D) (xs : List V) (f g : List Addr), D.depths ds ≤ n → Rfs H ds xs f → Rfs H es xs g → D.plains ds = true → D.eqbs ds es = true := by
      intro ds es xs f g hn h1 h2 hp
      have l1 := h1.length
      have l2 := h2.length
      rw [D.eqbs_all (by omega) (fun _ => true) (fun i x y e1 e2 => ?_)]
      · simp
      · obtain ⟨v1, f1, q1, r1, _⟩ := h1.get e1
        obtain ⟨v2, f2, q2, r2, _⟩ := h2.get e2
        rw [q1] at q2; cases q2
        exact (ih x y v1 (Nat.le_trans (D.depths_get e1) hn) ⟨_, r1⟩ ⟨_, r2⟩ (D.plains_get hp e1)).symm
    obtain ⟨f, hd⟩ := hd
    obtain ⟨g, he⟩ := he
    cases d with
    | non => obtain ⟨rfl, _⟩ := hd; cases e with
      | non => rfl
      | lst ds => obtain ⟨_, _, _, z, _⟩ := he; cases z
      | tup ds => obtain ⟨_, _, z, _⟩ := he; cases z
      | _ => obtain ⟨z, _⟩ := he; cases z
    | bl b => cases hp
    | int i => obtain ⟨rfl, _⟩ := hd; cases e with
      | int j => obtain ⟨z, _⟩ := he; cases z; simp [D.eqb]
      | lst ds => obtain ⟨_, _, _, z, _⟩ := he; cases z
      | tup ds => obtain ⟨_, _, z, _⟩ := he; cases z
      | _ => obtain ⟨z, _⟩ := he; cases z
    | str i => obtain ⟨rfl, _⟩ := hd; cases e with
      | str j => obtain ⟨z, _⟩ := he; cases z; simp [D.eqb]
      | lst ds => obtain ⟨_, _, _, z, _⟩ := he; cases z
      | tup ds => obtain ⟨_, _, z, _⟩ := he; cases z
      | _ => obtain ⟨z, _⟩ := he; cases z
    | lst ds =>
      obtain ⟨a, xs, fq, rfl, e1, rfl, hd⟩ := hd
      cases e with
      | lst es =>
        obtain ⟨b, ys, gq, z, e2, rfl, he⟩ := he
        cases z
        rw [e1] at e2; cases e2
        rw [D.eqb]
        exact go ds es xs fq gq (by rw [D.depth] at hn; omega) hd he hp
      | tup es =>
        obtain ⟨b, ys, z, e2, he⟩ := he
        cases z
        rw [e1] at e2; cases e2
      | _ => obtain ⟨z, _⟩ := he; cases z
    | tup ds =>
      obtain ⟨a, xs, rfl, e1, hd⟩ := hd
      cases e with
      | tup es =>
        obtain ⟨b, ys, z, e2, he⟩ := he
        cases z
        rw [e1] at e2; cases e2
        rw [D.eqb]
        exact go ds es xs f g (by rw [D.depth] at hn; omega) hd he hp
      | lst es =>
        obtain ⟨b, ys, gq, z, e2, rfl, he⟩ := he
        cases z
        rw [e1] at e2; cases e2
      | _ => obtain ⟨z, _⟩ := he; cases z
theorem eqAt_D {X : Cx} {pins : List (Addr × Obj)} {σ : St} {H : Hp} {s : Shared} (I : Inv X pins σ H s) : ∀ (n : Nat) (d e : D) (x y : V) (u w : Value) (A : Around), d.depth ≤ n → Rp H d x → Rp H e y → RelV x u → RelV y w → d.plain = true → e.plain = true → A.units + n < cLine →
    EqAt A s u w (D.eqb d e) := by
  intro n
  induction n with
  | zero =>
    intro d e x y u w A hn hd he rx ry pd pe hu
    obtain ⟨f, hd⟩ := hd
    obtain ⟨g, he⟩ := he
    have hu' : A.units < cLine := by omega
    cases d with
    | non =>
      obtain ⟨rfl, _⟩ := hd; obtain rfl : u = .none := rx
      cases e with
      | non => obtain ⟨rfl, _⟩ := he; obtain rfl : w = .none := ry; exact EqAt.same _
      | bl b => cases pe
      | int j => obtain ⟨rfl, _⟩ := he; obtain ⟨t, rfl⟩ := ry; exact EqAt.none_int _ _
      | str j => obtain ⟨rfl, _⟩ := he; obtain ⟨t, rfl⟩ := ry; exact EqAt.none_str _ _
      | lst es => obtain ⟨b, ys, gq, rfl, e2, _, he⟩ := he; obtain rfl : w = .ref b := ry; obtain ⟨_, _, pl, _⟩ := I.list (SqL.of e2); exact EqAt.none_list pl.isList hu'
      | tup es => obtain ⟨b, ys, rfl, e2, he⟩ := he; obtain rfl : w = .ref b := ry; obtain ⟨_, _, pl, _⟩ := I.tuple (SqT.of e2); exact EqAt.none_tuple pl hu'
    | bl b => cases pd
    | int i =>
      obtain ⟨rfl, _⟩ := hd; obtain ⟨t0, rfl⟩ := rx
      cases e with
      | non => obtain ⟨rfl, _⟩ := he; obtain rfl : w = .none := ry; exact EqAt.int_none _ _
      | bl b => cases pe
      | int j => obtain ⟨rfl, _⟩ := he; obtain ⟨t, rfl⟩ := ry; exact EqAt.int_int _ _ _ _
      | str j => obtain ⟨rfl, _⟩ := he; obtain ⟨t, rfl⟩ := ry; exact EqAt.int_str _ _ _ _
      | lst es => obtain ⟨b, ys, gq, rfl, e2, _, he⟩ := he; obtain rfl : w = .ref b := ry; obtain ⟨_, _, pl, _⟩ := I.list (SqL.of e2); exact EqAt.int_list _ _ pl.isList hu'
      | tup es => obtain ⟨b, ys, rfl, e2, he⟩ := he; obtain rfl : w = .ref b := ry; obtain ⟨_, _, pl, _⟩ := I.tuple (SqT.of e2); exact EqAt.int_tuple _ _ pl hu'
    | str i =>
      obtain ⟨rfl, _⟩ := hd; obtain ⟨t0, rfl⟩ := rx
      cases e with
      | non => obtain ⟨rfl, _⟩ := he; obtain rfl : w = .none := ry; exact EqAt.str_none _ _
      | bl b => cases pe
      | int j => obtain ⟨rfl, _⟩ := he; obtain ⟨t, rfl⟩ := ry; exact EqAt.str_int _ _ _ _
      | str j => obtain ⟨rfl, _⟩ := he; obtain ⟨t, rfl⟩ := ry; exact EqAt.str_str _ _ _ _
      | lst es => obtain ⟨b, ys, gq, rfl, e2, _, he⟩ := he; obtain rfl : w = .ref b := ry; obtain ⟨_, _, pl, _⟩ := I.list (SqL.of e2); exact EqAt.str_list _ _ pl.isList hu'
      | tup es => obtain ⟨b, ys, rfl, e2, he⟩ := he; obtain rfl : w = .ref b := ry; obtain ⟨_, _, pl, _⟩ := I.tuple (SqT.of e2); exact EqAt.str_tuple _ _ pl hu'
    | lst ds => rw [D.depth] at hn; omega
    | tup ds => rw [D.depth] at hn; omega
  | succ n ih =>
    intro d e x y u w A hn hd he rx ry pd pe hu
    have hu' : A.units < cLine := by omega
    have ud : A.in1.units + n < cLine := by show A.units + 1 + n < cLine; omega
    cases d with
    | non => exact ih _ _ x y u w A (by simp [D.depth]) hd he rx ry pd pe (by omega)
    | bl b => cases pd
    | int i => exact ih _ _ x y u w A (by simp [D.depth]) hd he rx ry pd pe (by omega)
    | str i => exact ih _ _ x y u w A (by simp [D.depth]) hd he rx ry pd pe (by omega)
    | lst ds =>
      have hd0 := hd
      have he0 := he
      obtain ⟨f, a, xs, fq, rfl, e1, rfl, hd⟩ := hd
      obtain rfl : u = .ref a := rx
      obtain ⟨its, rv, pl, hz⟩ := I.list (SqL.of e1)
      obtain ⟨g, he⟩ := he
      cases e with
      | non => obtain ⟨rfl, _⟩ := he; obtain rfl : w = .none := ry; exact EqAt.list_none pl.isList hu'
      | bl b => cases pe
      | int j => obtain ⟨rfl, _⟩ := he; obtain ⟨t, rfl⟩ := ry; exact EqAt.list_int _ _ pl.isList hu'
      | str j => obtain ⟨rfl, _⟩ := he; obtain ⟨t, rfl⟩ := ry; exact EqAt.list_str _ _ pl.isList hu'
      | tup es => obtain ⟨b, ys, rfl, e2, he⟩ := he; obtain rfl : w = .ref b := ry; obtain ⟨_, _, pl2, _⟩ := I.tuple (SqT.of e2); exact EqAt.list_tuple pl.isList pl2 hu'
      | lst es =>
        obtain ⟨b, ys, gq, rfl, e2, rfl, he⟩ := he
        obtain rfl : w = .ref b := ry
        by_cases hab : a = b
        · subst hab
          rw [eqb_one _ _ _ _ (Nat.le_refl _) hd0 he0 pd]
          exact EqAt.same _
        · obtain ⟨its2, rv2, pl2, hz2⟩ := I.list (SqL.of e2)
          refine EqAt.of_refs hab ?_
          have l1 := rv.length
          have l2 := rv2.length
          have m1 := hd.length
          have m2 := he.length
          by_cases hl : ds.length = es.length
          · have key := RcAt.lists (A := A) (e := fun i => match ds[i]?, es[i]? with | some x, some y => D.eqb x y | _, _ => false) pl.isList pl2.isList (by simp; omega) hu' (fun j h1 h2 => by
              have j1 : j < ds.length := by simp at h1; omega
              have j2 : j < es.length := by omega
              simp only [List.getElem?_eq_getElem j1, List.getElem?_eq_getElem j2]
              obtain ⟨v1, f1, q1, r1, _⟩ := hd.get (List.getElem?_eq_getElem j1)
              obtain ⟨v2, f2, q2, r2, _⟩ := he.get (List.getElem?_eq_getElem j2)
              obtain ⟨u1, p1, t1⟩ := rv.get q1
              obtain ⟨u2, p2, t2⟩ := rv2.get q2
              have i1 : its.toArray[j] = u1 := by
                have := List.getElem?_eq_some_iff.mp p1
                obtain ⟨_, z⟩ := this
                simpa using z
              have i2 : its2.toArray[j] = u2 := by
                have := List.getElem?_eq_some_iff.mp p2
                obtain ⟨_, z⟩ := this
                simpa using z
              rw [i1, i2]
              exact ih _ _ v1 v2 u1 u2 A.in1 (by have := D.depths_get (List.getElem?_eq_getElem j1); rw [D.depth] at hn; omega) ⟨_, r1⟩ ⟨_, r2⟩ t1 t2 (D.plains_get pd (List.getElem?_eq_getElem j1)) (D.plains_get pe (List.getElem?_eq_getElem j2)) ud)
            have e3 : D.eqb (.lst ds) (.lst es) = (List.range its.toArray.size).all fun i => match ds[i]?, es[i]? with | some x, some y => D.eqb x y | _, _ => false := by
              rw [D.eqb, D.eqbs_iff, decide_eq_true hl, Bool.true_and]
              rw [show its.toArray.size = ds.length by simp; omega]
              all_goals rfl
            rw [e3]
            exact key
          · rw [D.eqb, D.eqbs_len hl]
            exact RcAt.lists_lengths pl.isList pl2.isList (by simp; omega) hu'
    | tup ds =>
      have hd0 := hd
      have he0 := he
      obtain ⟨f, a, xs, rfl, e1, hd⟩ := hd
      obtain rfl : u = .ref a := rx
      obtain ⟨its, rv, pl, hz⟩ := I.tuple (SqT.of e1)
      obtain ⟨g, he⟩ := he
      cases e with
      | non => obtain ⟨rfl, _⟩ := he; obtain rfl : w = .none := ry; exact EqAt.tuple_none pl hu'
      | bl b => cases pe
      | int j => obtain ⟨rfl, _⟩ := he; obtain ⟨t, rfl⟩ := ry; exact EqAt.tuple_int _ _ pl hu'
      | str j => obtain ⟨rfl, _⟩ := he; obtain ⟨t, rfl⟩ := ry; exact EqAt.tuple_str _ _ pl hu'
      | lst es => obtain ⟨b, ys, gq, rfl, e2, _, he⟩ := he; obtain rfl : w = .ref b := ry; obtain ⟨_, _, pl2, _⟩ := I.list (SqL.of e2); exact EqAt.tuple_list pl pl2.isList hu'
      | tup es =>
        obtain ⟨b, ys, rfl, e2, he⟩ := he
        obtain rfl : w = .ref b := ry
        by_cases hab : a = b
        · subst hab
          rw [eqb_one _ _ _ _ (Nat.le_refl _) hd0 he0 pd]
          exact EqAt.same _
        · obtain ⟨its2, rv2, pl2, hz2⟩ := I.tuple (SqT.of e2)
          refine EqAt.of_refs hab ?_
          have l1 := rv.length
          have l2 := rv2.length
          have m1 := hd.length
          have m2 := he.length
          have key := RcAt.tuples (A := A) (e := fun i => match ds[i]?, es[i]? with | some x, some y => D.eqb x y | _, _ => false) pl pl2 hu' (fun j h1 h2 => by
              have j1 : j < ds.length := by simp at h1; omega
              have j2 : j < es.length := by simp at h2; omega
              simp only [List.getElem?_eq_getElem j1, List.getElem?_eq_getElem j2]
              obtain ⟨v1, f1, q1, r1, _⟩ := hd.get (List.getElem?_eq_getElem j1)
              obtain ⟨v2, f2, q2, r2, _⟩ := he.get (List.getElem?_eq_getElem j2)
              obtain ⟨u1, p1, t1⟩ := rv.get q1
              obtain ⟨u2, p2, t2⟩ := rv2.get q2
              have i1 : its.toArray[j] = u1 := by
                have := List.getElem?_eq_some_iff.mp p1
                obtain ⟨_, z⟩ := this
                simpa using z
              have i2 : its2.toArray[j] = u2 := by
                have := List.getElem?_eq_some_iff.mp p2
                obtain ⟨_, z⟩ := this
                simpa using z
              rw [i1, i2]
              exact ih _ _ v1 v2 u1 u2 A.in1 (by have := D.depths_get (List.getElem?_eq_getElem j1); rw [D.depth] at hn; omega) ⟨_, r1⟩ ⟨_, r2⟩ t1 t2 (D.plains_get pd (List.getElem?_eq_getElem j1)) (D.plains_get pe (List.getElem?_eq_getElem j2)) ud)
          have e3 : D.eqb (.tup ds) (.tup es) = ((List.range (min its.toArray.size its2.toArray.size)).all (fun i => match ds[i]?, es[i]? with | some x, some y => D.eqb x y | _, _ => false) && its.toArray.size == its2.toArray.size) := by
            rw [D.eqb]
            have z1 : its.toArray.size = ds.length := by simp; omega
            have z2 : its2.toArray.size = es.length := by simp; omega
            rw [z1, z2]
            by_cases hl : ds.length = es.length
            · rw [D.eqbs_iff, decide_eq_true hl, Bool.true_and, hl, Nat.min_self, beq_self_eq_true, Bool.and_true]
              all_goals rfl
            · rw [D.eqbs_len hl]
              have : (ds.length == es.length) = false := beq_eq_false_iff_ne.mpr hl
              rw [this, Bool.and_false]
          rw [e3]
          exact key
def eqAtI (ds es : List D) (i : Nat) : Bool := match ds[i]?, es[i]? with | some x, some y => D.eqb x y | _, _ => false
theorem items_eq {X : Cx} {pins : List (Addr × Obj)} {σ : St} {H : Hp} {s : Shared} (I : Inv X pins σ H s) {A : Around} {ds es : List D} {xs ys : List V} {f g : List Addr} {its its2 : List Value} (hd : Rfs H ds xs f) (he : Rfs H es ys g) (rv : Vals xs its) (rv2 : Vals ys its2)
    (pd : D.plains ds = true) (pe : D.plains es = true) (hu : A.units + 1 + D.depths ds < cLine) : ∀ j (h1 : j < its.toArray.size) (h2 : j < its2.toArray.size), EqAt A.in1 s its.toArray[j] its2.toArray[j] (eqAtI ds es j) := by
  intro j h1 h2
  have l1 := rv.length
  have l2 := rv2.length
  have m1 := hd.length
  have m2 := he.length
  have j1 : j < ds.length := by simp at h1; omega
  have j2 : j < es.length := by simp at h2; omega
  unfold eqAtI
  simp only [List.getElem?_eq_getElem j1, List.getElem?_eq_getElem j2]
  obtain ⟨v1, f1, q1, r1, _⟩ := hd.get (List.getElem?_eq_getElem j1)
  obtain ⟨v2, f2, q2, r2, _⟩ := he.get (List.getElem?_eq_getElem j2)
  obtain ⟨u1, p1, t1⟩ := rv.get q1
  obtain ⟨u2, p2, t2⟩ := rv2.get q2
  have i1 : its.toArray[j] = u1 := by
    obtain ⟨_, z⟩ := List.getElem?_eq_some_iff.mp p1
    simpa using z
  have i2 : its2.toArray[j] = u2 := by
    obtain ⟨_, z⟩ := List.getElem?_eq_some_iff.mp p2
    simpa using z
  rw [i1, i2]
  exact eqAt_D I _ _ _ v1 v2 u1 u2 A.in1 (D.depths_get (List.getElem?_eq_getElem j1)) ⟨_, r1⟩ ⟨_, r2⟩ t1 t2 (D.plains_get pd (List.getElem?_eq_getElem j1)) (D.plains_get pe (List.getElem?_eq_getElem j2)) hu
theorem eqbs_range {ds es : List D} (hl : ds.length = es.length) : D.eqbs ds es = (List.range ds.length).all (eqAtI ds es) := by
  rw [D.eqbs_iff, decide_eq_true hl, Bool.true_and]
  rfl
section
variable {X : Cx}
def rEqD (neg : Bool) : R2 := fun x y H Q => ∃ ds es, Rp H (.lst ds) x ∧ Rp H (.lst es) y ∧ D.plains ds = true ∧ D.plains es = true ∧ D.depths ds ≤ 60 ∧ Q (.bl (if neg then !D.eqbs ds es else D.eqbs ds es)) H
theorem op_eqL (hu : X.A.units + 64 < cLine) : OpR X (compareOp .Eq) (rEqD false) := by
  intro pins s σ H x y v u Q I rx ry h
  obtain ⟨ds, es, ⟨f, a, xs, fq, rfl, e1, rfl, hd⟩, ⟨g, b, ys, gq, rfl, e2, rfl, he⟩, pd, pe, hdp, q⟩ := h
  obtain rfl : v = .ref a := rx
  obtain rfl : u = .ref b := ry
  obtain ⟨its, rv, pl, hz⟩ := I.list (SqL.of e1)
  obtain ⟨its2, rv2, pl2, hz2⟩ := I.list (SqL.of e2)
  have l1 := rv.length
  have l2 := rv2.length
  have m1 := hd.length
  have m2 := he.length
  by_cases hl : ds.length = es.length
  · refine eq_listAt pl.isList pl2.isList (by simp; omega) (by omega) (items_eq I hd he rv rv2 pd pe (by omega)) (fin_bl I q ?_)
    rw [eqbs_range hl, show its.toArray.size = ds.length by simp; omega]
    all_goals rfl
  · refine eq_list_lengthsAt pl.isList pl2.isList (by simp; omega) (by omega) (fin_bl I q ?_)
    rw [D.eqbs_len hl]
    all_goals rfl
theorem op_neL (hu : X.A.units + 64 < cLine) : OpR X (compareOp .NotEq) (rEqD true) := by
  intro pins s σ H x y v u Q I rx ry h
  obtain ⟨ds, es, ⟨f, a, xs, fq, rfl, e1, rfl, hd⟩, ⟨g, b, ys, gq, rfl, e2, rfl, he⟩, pd, pe, hdp, q⟩ := h
  obtain rfl : v = .ref a := rx
  obtain rfl : u = .ref b := ry
  obtain ⟨its, rv, pl, hz⟩ := I.list (SqL.of e1)
  obtain ⟨its2, rv2, pl2, hz2⟩ := I.list (SqL.of e2)
  have l1 := rv.length
  have l2 := rv2.length
  have m1 := hd.length
  have m2 := he.length
  by_cases hl : ds.length = es.length
  · refine RcNeAt.lists pl.isList pl2.isList (by simp; omega) (by omega) (items_eq I hd he rv rv2 pd pe (by omega)) _ _ _ _ (fin_bl I q ?_)
    rw [eqbs_range hl, show its.toArray.size = ds.length by simp; omega]
    all_goals rfl
  · refine RcNeAt.lists_lengths pl.isList pl2.isList (by simp; omega) (by omega) _ _ _ _ (fin_bl I q ?_)
    rw [D.eqbs_len hl]
    all_goals rfl
end
theorem D.plains_ints : ∀ (xs : List Int), D.plains (xs.map D.int) = true
  | [] => rfl
  | x :: xs => by rw [List.map_cons, D.plains, D.plains_ints xs]; rfl
theorem D.plains_rows : ∀ (t : List (List Int)), D.plains (t.map dI) = true
  | [] => rfl
  | x :: xs => by rw [List.map_cons, D.plains, D.plains_rows xs, D.plain, D.plains_ints]; rfl
theorem D.depths_ints : ∀ (xs : List Int), D.depths (xs.map D.int) = 0
  | [] => rfl
  | x :: xs => by rw [List.map_cons, D.depths, D.depths_ints xs]; rfl
theorem D.depths_rows : ∀ (t : List (List Int)), D.depths (t.map dI) ≤ 1
  | [] => by rw [List.map_nil, D.depths]; omega
  | x :: xs => by
    have := D.depths_rows xs
    rw [List.map_cons, D.depths, D.depth, D.depths_ints]
    exact Nat.max_le.mpr ⟨Nat.le_refl _, this⟩
theorem D.eqbs_ints : ∀ (xs ys : List Int), D.eqbs (xs.map D.int) (ys.map D.int) = decide (xs = ys)
  | [], [] => rfl
  | [], y :: ys => rfl
  | x :: xs, [] => rfl
  | x :: xs, y :: ys => by
    rw [List.map_cons, List.map_cons, D.eqbs, D.eqbs_ints xs ys, D.eqb]
    by_cases h : x = y
    · subst h; simp
    · have : (x == y) = false := beq_eq_false_iff_ne.mpr h
      simp [this, h]
theorem D.eqbs_rows : ∀ (xs ys : List (List Int)), D.eqbs (xs.map dI) (ys.map dI) = decide (xs = ys)
  | [], [] => rfl
  | [], y :: ys => rfl
  | x :: xs, [] => rfl
  | x :: xs, y :: ys => by
    rw [List.map_cons, List.map_cons, D.eqbs, D.eqbs_rows xs ys, D.eqb, D.eqbs_ints]
    by_cases h : x = y
    · subst h; simp
    · simp [h]
def CMulB (i j : Int) : Prop := ∃ m n : Nat, i.natAbs < 2 ^ m ∧ j.natAbs < 2 ^ n ∧ m + n ≤ 100000000
def CDivB (i j : Int) : Prop := 0 < j ∧ ∃ m : Nat, j.natAbs < 2 ^ m ∧ m ≤ 9000
section
variable {X : Cx}
theorem op_mulB : OpR X (binaryOp .Mult) (rI CMulB fun i j => .int (i * j)) := opI fun i j _ _ _ _ _ hc q => by
  obtain ⟨m, n, h1, h2, h3⟩ := hc
  exact mul_int q (mulOk_of_bits (intBits_le h1) (intBits_le h2) (by omega))
theorem op_fdivB : OpR X (binaryOp .FloorDiv) (rI CDivB fun i j => .int (i / j)) := opI fun i j _ _ _ _ _ hc q => by
  obtain ⟨h0, m, h1, h2⟩ := hc
  have hj : j.natAbs ≠ 0 := by omega
  refine floordiv_int (by omega) ?_ (.inl (PyProof.noPylong_of_log2 (Nat.lt_of_lt_of_le ((Nat.log2_lt hj).mpr h1) h2)))
  rw [Int.fdiv_eq_ediv_of_nonneg i (by omega)]
  exact q
end
def relabelS (scope sc0 : Scope) : Scope := { scope with names := scope.names.map fun (n, k) => if (k == .free && sc0.kind == .function && sc0.names.lookup n == some .cell) then (n, .cell) else (n, k) }
def nodupB : List Str → Bool
  | [] => true
  | x :: xs => !xs.contains x && nodupB xs
theorem nodupB_iff : ∀ {l : List Str}, nodupB l = true → l.Nodup
  | [], _ => List.nodup_nil
  | x :: xs, h => by
    rw [nodupB, Bool.and_eq_true, Bool.not_eq_true'] at h
    refine List.nodup_cons.mpr ⟨fun z => ?_, nodupB_iff h.2⟩
    have := List.contains_iff_mem.mpr z
    rw [this] at h
    exact absurd h.1 (by decide)
def compOk (sc0 scope : Scope) (tn cap : List Str) : Bool :=
  decide (scope.kind = .function) && nodupB (scope.names.map (·.1)) && nodupB (tn ++ cap) && cap.all (fun y => decide (scope.names.lookup y = some .free)) &&
    scope.names.all fun y => !decide (y.2 = .free) || (decide (sc0.names.lookup y.1 = some .cell) || decide (sc0.names.lookup y.1 = some .free))
theorem CompScope.of {X : Cx} {sc0 scope : Scope} {tn cap : List Str} {idx : List Nat} (h : compOk sc0 scope tn cap = true) (e : X.env.scope = sc0) (ci : idx.map (fun i => X.N[i]?) = cap.map some) : CompScope X scope tn cap idx := by
  unfold compOk at h
  simp only [Bool.and_eq_true, decide_eq_true_eq, List.all_eq_true, Bool.or_eq_true, Bool.not_eq_true', decide_eq_false_iff_not] at h
  obtain ⟨⟨⟨⟨h1, h2⟩, h3⟩, h4⟩, h5⟩ := h
  refine ⟨h1, nodupB_iff h2, nodupB_iff h3, h4, ci, fun y hy hf => ?_⟩
  rw [e]
  rcases h5 y hy with z | z
  · exact absurd hf z
  · exact z
structure FnAt (K : PySem.W.Frag) (mg : Str → Option Value) (x : Str) (st : Stmt) (ps : List Str) (f : Addr) (fd : FuncData) : Prop where
  fn : Fun K x x st f fd
  mg : mg x = some (.ref f)
  bd : Binds K fd ps []
theorem Same.new {H : Hp} {p : Addr} {o : HO} (h : H p = none) : Same H (upd H p o) := fun b u e => by rw [upd_ne (ne_of_none e h)]; exact e
end L2
set_option Elab.async false
set_option linter.all false
set_option maxRecDepth 100000
set_option maxHeartbeats 4000000
namespace L2
open PySem PySem.Spec PyProof.Rows
theorem small {n : Nat} (h : n ≤ 100000) : n ≤ sizeLine := Nat.le_trans h (by rw [sizeLine_eq]; decide)
def dot (xs ys : List Int) : Int := ((List.range xs.length).map fun k => xs.getD k 0 * ys.getD k 0).sum
section
variable {X : Cx} {K : PySem.W.Frag}
theorem ix_listK (h : X.K = K) : IxR X (rIxL K) := by subst h; exact ix_list
theorem pi_listK {tg l : Expr} {tl : TE} (h : X.K = K) (hl : PE X l tl) : PI X tg l (iList K tl) := by subst h; exact pi_list hl
theorem pi_zipK {elts : List Expr} {x1 : Nat} {tp : Pos} {a b : Expr} {ta : TA} {p pos : Pos} (h : X.K = K) (hg : Gl X "zip") (hm : X.mg "zip" = none) (ha : PA X [a, b] ta) (hs : starEach [a, b] X.env = [(false, eval a X.env), (false, eval b X.env)] := by rfl) (hs2 : starEach [b] X.env = [(false, eval b X.env)] := by rfl) :
    PI X (.Tuple elts x1 tp) (.Call (.Name "zip" p) [a, b] [] pos) (iZip K ta) := by subst h; exact pi_zip hg hm ha hs hs2
theorem call_lenK (h : X.K = K) : CallR X (.builtin "len") (fun xs H Q => ∃ p ys, xs = [.ref p] ∧ (SqL K H p ys ∨ SqT K H p ys) ∧ Q (.int ys.length) H) := by subst h; exact call_len_seq
theorem call_isinstK (h : X.K = K) : CallR X (.builtin "isinstance") (fun xs H Q => ∃ x n t b, xs = [x, .ty n] ∧ TyOf K H x t ∧ PySem.W.kitOne K t (.type n) = some b ∧ Q (.bl b) H) := by subst h; exact call_isinst
theorem call_sumK (h : X.K = K) (hc : X.calm = true) : CallR X (.builtin "sum") (fun xs H Q => ∃ (a : Addr) (ns : List Int), xs = [.ref a] ∧ SqL K H a (ns.map V.int) ∧ Q (.int ns.sum) H) := by subst h; exact call_sum hc
theorem call_listK (h : X.K = K) : CallR X (.type "list") (fun xs H Q => ∃ p ys, xs = [.ref p] ∧ (SqL K H p ys ∨ SqT K H p ys) ∧ ∀ l, H l = none → Q (.ref l) (upd H l (.lst ys))) := by subst h; exact call_list_of
theorem sl_listK (h : X.K = K) : SlR X (rSlL K) := by subst h; exact sl_list
theorem pg_tupK {es : List Expr} {k : Nat} {t : TGs} {n : Nat} {pos : Pos} (h : X.K = K) (hc : X.calm = true) (ht : PGs X es t)
    (hn : (assignEach es X.env).length = n := by rfl) (hst : (assignEach es X.env).findIdx? (·.1) = none := by rfl) : PG X (.Tuple es k pos) (gTup K n t) := by subst h; exact pg_tup hc ht hn hst
end
theorem Rows.take {H : Hp} {t : List (List Int)} {as : List Addr} (h : Rows H t as) : ∀ n : Nat, Rows H (t.take n) (as.take n) := by
  induction h with
  | nil => intro n; rw [List.take_nil, List.take_nil]; exact .nil
  | cons e _ ih =>
    intro n
    cases n with
    | zero => exact .nil
    | succ n => exact .cons e (ih n)
theorem kit_same {K : PySem.W.Frag} {n : String} : PySem.W.kitOne K (.type n) (.type n) = some true := by unfold PySem.W.kitOne; rw [if_pos (beq_self_eq_true _)]
end L2
set_option Elab.async false
set_option linter.all false
set_option maxRecDepth 100000
set_option maxHeartbeats 4000000
namespace L2
open PySem PySem.Spec PyProof.Rows
section
variable {X : Cx} {x : Str} {p pos : Pos} {e : Expr} {es : List Expr} {kws : List Keyword} {t tk : TA} {id : String} {ks : List Str} {r : List V → List V → Hp → VK → Prop}
end
section
variable {X : Cx} {K : PySem.W.Frag}
theorem vals_of_ints : ∀ {us : List Value} {ns : List Int}, IntsAre us ns → Vals (ns.map V.int) us
  | _, _, .nil => .nil
  | _, _, .cons n t h => .cons ⟨t, rfl⟩ (vals_of_ints h)
end
section
variable {prog : Program} {w : World} {A : Around} {E : Value → Shared → Prop} {s : Shared}
end
section
variable {X : Cx} {K : PySem.W.Frag} {e : Expr} {te : TE} {p p2 pos pos2 : Pos}
end
end L2
namespace L2
open PySem PySem.Spec PyProof.Rows
def fall (ns : List Int) : List Int := ns.mergeSort fun a b => decide (b ≤ a)
theorem fall_perm (ns : List Int) : (fall ns).Perm ns := List.mergeSort_perm ns _
theorem fall_desc (ns : List Int) : (fall ns).Pairwise (· ≥ ·) := by
  have h := List.pairwise_mergeSort (le := fun a b : Int => decide (b ≤ a)) (fun a b c h1 h2 => by simp only [decide_eq_true_eq] at *; omega) (fun a b => by simp only [Bool.or_eq_true, decide_eq_true_eq]; omega) ns
  exact h.imp fun h => by simpa using h
theorem fall_length (ns : List Int) : (fall ns).length = ns.length := (fall_perm ns).length_eq
end L2
set_option Elab.async false
set_option linter.all false
set_option maxRecDepth 100000
set_option maxHeartbeats 4000000
namespace L3
open PySem L2
inductive D where
  | non | bl (b : Bool) | int (i : Int) | str (x : Str) | lst (ds : List D) | tup (ds : List D) | dic (kvs : List (Key × V)) | dit (kvs : List (List Key × V)) | scr (ns : List Int) | pin (a : Addr) (d : D) | mem (φ : Int → List Int → Int → Prop) | raw (w : V) | ins (C : Addr) (ns : List Str) (ds : List D)
def Kc (K : PySem.W.Frag) (a : Addr) (xs : List V) : Prop :=
  ∃ (o : Obj) (its : Array Value) (n : Nat), K.lookup a = some o ∧ o.cls = .type "list" ∧ o.dict = none ∧ o.data = .seq its n ∧ its.size ≤ sizeLine ∧ Vals xs its.toList
def Sc (K : PySem.W.Frag) (H : Hp) (a : Addr) (xs : List V) : Prop := (∃ o, H a = some (.frz o (.lst xs))) ∨ Kc K a xs
theorem Sc.seq {K : PySem.W.Frag} {H : Hp} {a : Addr} {xs : List V} (h : Sc K H a xs) : SqL K H a xs := h.elim (fun ⟨o, h⟩ => .inl (.inr ⟨o, h⟩)) .inr
def Im (o : HO) : Prop := (∃ xs, o = .tup xs) ∨ (∃ o' u, o = .frz o' u) ∨ ∃ φ ks, o = .memo φ ks
section
variable {K : PySem.W.Frag}
mutual
def Rf (K : PySem.W.Frag) (H : Hp) : D → V → List Addr → Prop
  | .non, v, fp => v = .non ∧ fp = []
  | .bl b, v, fp => v = .bl b ∧ fp = []
  | .int i, v, fp => v = .int i ∧ fp = []
  | .str x, v, fp => v = .str x ∧ fp = []
  | .lst ds, v, fp => ∃ a xs fq, v = .ref a ∧ H a = some (.lst xs) ∧ fp = a :: fq ∧ Rfs K H ds xs fq
  | .tup ds, v, fp => ∃ a xs, v = .ref a ∧ H a = some (.tup xs) ∧ Rfs K H ds xs fp
  | .dic kvs, v, fp => ∃ a, v = .ref a ∧ H a = some (.dK kvs) ∧ (∀ p ∈ kvs, flatV p.2 = true) ∧ fp = [a]
  | .dit kvs, v, fp => ∃ a, v = .ref a ∧ H a = some (.dT kvs) ∧ (∀ p ∈ kvs, flatV p.2 = true) ∧ fp = [a]
  | .scr ns, v, fp => ∃ a, v = .ref a ∧ Sc K H a (ns.map V.int) ∧ fp = []
  | .pin a d, v, fp => v = .ref a ∧ Rf K H d v fp
  | .mem φ, v, fp => ∃ a, v = .ref a ∧ H a = some (.memo φ []) ∧ fp = []
  | .raw w, v, fp => v = w ∧ fp = []
  | .ins C ns ds, v, fp => ∃ a dx xs fq, v = .ref a ∧ H a = some (.ins C dx (ns.zip xs)) ∧ fp = a :: fq ∧ Rfs K H ds xs fq
def Rfs (K : PySem.W.Frag) (H : Hp) : List D → List V → List Addr → Prop
  | [], xs, fp => xs = [] ∧ fp = []
  | d :: ds, xs, fp => ∃ x r f1 f2, xs = x :: r ∧ fp = f1 ++ f2 ∧ Rf K H d x f1 ∧ Rfs K H ds r f2
end
def Rp (K : PySem.W.Frag) (H : Hp) (d : D) (v : V) : Prop := ∃ fp, Rf K H d v fp
def Rps (K : PySem.W.Frag) (H : Hp) (ds : List D) (vs : List V) : Prop := ∃ fp, Rfs K H ds vs fp
mutual
theorem Rf.mono {H H' : Hp} : ∀ {d : D} {v : V} {fp : List Addr}, Rf K H d v fp → (∀ a ∈ fp, ∀ o, H a = some o → H' a = some o) → (∀ a o, H a = some o → Im o → H' a = some o) → Rf K H' d v fp
  | .non, _, _, h, _, _ => h
  | .bl _, _, _, h, _, _ => h
  | .int _, _, _, h, _, _ => h
  | .str _, _, _, h, _, _ => h
  | .lst ds, v, fp, h, k, t => by
    obtain ⟨a, xs, fq, e1, e2, e3, h⟩ := h
    subst e3
    exact ⟨a, xs, fq, e1, k a List.mem_cons_self _ e2, rfl, Rfs.mono h (fun b hb => k b (List.mem_cons_of_mem _ hb)) t⟩
  | .tup ds, v, fp, h, k, t => by
    obtain ⟨a, xs, e1, e2, h⟩ := h
    exact ⟨a, xs, e1, t a _ e2 (.inl ⟨_, rfl⟩), Rfs.mono h k t⟩
  | .dic kvs, v, fp, h, k, t => by
    obtain ⟨a, e1, e2, e3, e4⟩ := h
    subst e4
    exact ⟨a, e1, k a List.mem_cons_self _ e2, e3, rfl⟩
  | .dit kvs, v, fp, h, k, t => by
    obtain ⟨a, e1, e2, e3, e4⟩ := h
    subst e4
    exact ⟨a, e1, k a List.mem_cons_self _ e2, e3, rfl⟩
  | .scr ns, v, fp, h, k, t => by
    obtain ⟨a, e1, e2, e3⟩ := h
    refine ⟨a, e1, ?_, e3⟩
    rcases e2 with ⟨o, e2⟩ | e2
    · exact .inl ⟨o, t a _ e2 (.inr (.inl ⟨_, _, rfl⟩))⟩
    · exact .inr e2
  | .pin a d, v, fp, h, k, t => ⟨h.1, Rf.mono h.2 k t⟩
  | .mem φ, v, fp, h, k, t => by
    obtain ⟨a, e1, e2, e3⟩ := h
    exact ⟨a, e1, t a _ e2 (.inr (.inr ⟨_, _, rfl⟩)), e3⟩
  | .raw _, _, _, h, _, _ => h
  | .ins C ns ds, v, fp, h, k, t => by
    obtain ⟨a, dx, xs, fq, e1, e2, e3, h⟩ := h
    subst e3
    exact ⟨a, dx, xs, fq, e1, k a List.mem_cons_self _ e2, rfl, Rfs.mono h (fun b hb => k b (List.mem_cons_of_mem _ hb)) t⟩
theorem Rfs.mono {H H' : Hp} : ∀ {ds : List D} {vs : List V} {fp : List Addr}, Rfs K H ds vs fp → (∀ a ∈ fp, ∀ o, H a = some o → H' a = some o) → (∀ a o, H a = some o → Im o → H' a = some o) → Rfs K H' ds vs fp
  | [], _, _, h, _, _ => h
  | d :: ds, vs, fp, h, k, t => by
    obtain ⟨x, r, f1, f2, e1, e2, h1, h2⟩ := h
    subst e2
    exact ⟨x, r, f1, f2, e1, rfl, Rf.mono h1 (fun b hb => k b (List.mem_append_left _ hb)) t, Rfs.mono h2 (fun b hb => k b (List.mem_append_right _ hb)) t⟩
end
theorem Rf.same {H H' : Hp} {d : D} {v : V} {fp : List Addr} (h : Rf K H d v fp) (s : Same H H') : Rf K H' d v fp := h.mono (fun a _ o e => s a o e) fun a o e _ => s a o e
theorem Rfs.same {H H' : Hp} {d : List D} {v : List V} {fp : List Addr} (h : Rfs K H d v fp) (s : Same H H') : Rfs K H' d v fp := h.mono (fun a _ o e => s a o e) fun a o e _ => s a o e
theorem Rp.same {H H' : Hp} {d : D} {v : V} (h : Rp K H d v) (s : Same H H') : Rp K H' d v := let ⟨fp, h⟩ := h; ⟨fp, h.same s⟩
theorem Rps.same {H H' : Hp} {d : List D} {v : List V} (h : Rps K H d v) (s : Same H H') : Rps K H' d v := let ⟨fp, h⟩ := h; ⟨fp, h.same s⟩
mutual
theorem Rf.dom {H : Hp} : ∀ {d : D} {v : V} {fp : List Addr}, Rf K H d v fp → ∀ a ∈ fp, ∃ o, H a = some o ∧ ¬ Im o
  | .non, _, _, h, a, ha => by obtain ⟨_, rfl⟩ := h; nomatch ha
  | .bl _, _, _, h, a, ha => by obtain ⟨_, rfl⟩ := h; nomatch ha
  | .int _, _, _, h, a, ha => by obtain ⟨_, rfl⟩ := h; nomatch ha
  | .str _, _, _, h, a, ha => by obtain ⟨_, rfl⟩ := h; nomatch ha
  | .lst ds, v, fp, h, b, hb => by
    obtain ⟨a, xs, fq, e1, e2, e3, h⟩ := h
    subst e3
    rcases List.mem_cons.mp hb with e | hb
    · subst e; exact ⟨_, e2, fun z => by rcases z with ⟨_, z⟩ | ⟨_, _, z⟩ | ⟨_, _, z⟩ <;> cases z⟩
    · exact Rfs.dom h b hb
  | .tup ds, v, fp, h, b, hb => by
    obtain ⟨a, xs, e1, e2, h⟩ := h
    exact Rfs.dom h b hb
  | .dic kvs, v, fp, h, b, hb => by
    obtain ⟨a, e1, e2, e3, e4⟩ := h
    subst e4
    cases List.mem_singleton.mp hb
    exact ⟨_, e2, fun z => by rcases z with ⟨_, z⟩ | ⟨_, _, z⟩ | ⟨_, _, z⟩ <;> cases z⟩
  | .dit kvs, v, fp, h, b, hb => by
    obtain ⟨a, e1, e2, e3, e4⟩ := h
    subst e4
    cases List.mem_singleton.mp hb
    exact ⟨_, e2, fun z => by rcases z with ⟨_, z⟩ | ⟨_, _, z⟩ | ⟨_, _, z⟩ <;> cases z⟩
  | .scr ns, v, fp, h, b, hb => by
    obtain ⟨a, e1, e2, e3⟩ := h
    subst e3; nomatch hb
  | .pin a d, v, fp, h, b, hb => Rf.dom h.2 b hb
  | .mem φ, v, fp, h, b, hb => by
    obtain ⟨a, e1, e2, e3⟩ := h
    subst e3; nomatch hb
  | .raw _, _, _, h, a, ha => by obtain ⟨_, rfl⟩ := h; nomatch ha
  | .ins C ns ds, v, fp, h, b, hb => by
    obtain ⟨a, dx, xs, fq, e1, e2, e3, h⟩ := h
    subst e3
    rcases List.mem_cons.mp hb with e | hb
    · subst e; exact ⟨_, e2, fun z => by rcases z with ⟨_, z⟩ | ⟨_, _, z⟩ | ⟨_, _, z⟩ <;> cases z⟩
    · exact Rfs.dom h b hb
theorem Rfs.dom {H : Hp} : ∀ {ds : List D} {vs : List V} {fp : List Addr}, Rfs K H ds vs fp → ∀ a ∈ fp, ∃ o, H a = some o ∧ ¬ Im o
  | [], _, _, h, a, ha => by obtain ⟨_, rfl⟩ := h; nomatch ha
  | d :: ds, vs, fp, h, b, hb => by
    obtain ⟨x, r, f1, f2, e1, e2, h1, h2⟩ := h
    subst e2
    rcases List.mem_append.mp hb with hb | hb
    · exact Rf.dom h1 b hb
    · exact Rfs.dom h2 b hb
end
theorem Rfs.upd {H : Hp} {d : List D} {v : List V} {fp : List Addr} {l : Addr} {o : HO} (h : Rfs K H d v fp) (hl : l ∉ fp) (hm : ∀ o, H l = some o → ¬ Im o) : Rfs K (upd H l o) d v fp :=
  h.mono (fun a ha u e => by rw [upd_ne (fun z => hl (by rw [← z]; exact ha))]; exact e) fun a o e i => by rw [upd_ne (fun z => hm o (by rw [← z]; exact e) i)]; exact e
theorem Rfs.length {H : Hp} : ∀ {ds : List D} {vs : List V} {fp : List Addr}, Rfs K H ds vs fp → vs.length = ds.length
  | [], _, _, h => by obtain ⟨rfl, _⟩ := h; rfl
  | d :: ds, vs, fp, h => by
    obtain ⟨x, r, f1, f2, e1, e2, h1, h2⟩ := h
    subst e1
    rw [List.length_cons, List.length_cons, Rfs.length h2]
theorem Rfs.append {H : Hp} : ∀ {ds es : List D} {vs ws : List V} {fp fq : List Addr}, Rfs K H ds vs fp → Rfs K H es ws fq → Rfs K H (ds ++ es) (vs ++ ws) (fp ++ fq)
  | [], es, vs, ws, fp, fq, h, h' => by obtain ⟨rfl, rfl⟩ := h; exact h'
  | d :: ds, es, vs, ws, fp, fq, h, h' => by
    obtain ⟨x, r, f1, f2, rfl, rfl, h1, h2⟩ := h
    exact ⟨x, r ++ ws, f1, f2 ++ fq, rfl, List.append_assoc .., h1, Rfs.append h2 h'⟩
theorem Rfs.one {H : Hp} {d : D} {v : V} {fp : List Addr} (h : Rf K H d v fp) : Rfs K H [d] [v] fp := ⟨v, [], fp, [], rfl, (List.append_nil _).symm, h, rfl, rfl⟩
theorem Rfs.get {H : Hp} : ∀ {ds : List D} {vs : List V} {fp : List Addr} {i : Nat} {d : D}, Rfs K H ds vs fp → ds[i]? = some d → ∃ v f, vs[i]? = some v ∧ Rf K H d v f ∧ (∀ a ∈ f, a ∈ fp)
  | [], _, _, _, _, _, e => by simp at e
  | d :: ds, vs, fp, 0, d', h, e => by
    obtain ⟨x, r, f1, f2, rfl, rfl, h1, h2⟩ := h
    simp at e; subst e
    exact ⟨x, f1, rfl, h1, fun a ha => List.mem_append_left _ ha⟩
  | d :: ds, vs, fp, i + 1, d', h, e => by
    obtain ⟨x, r, f1, f2, rfl, rfl, h1, h2⟩ := h
    obtain ⟨v, f, e1, h3, k⟩ := Rfs.get (i := i) h2 (by simpa using e)
    exact ⟨v, f, by simpa using e1, h3, fun a ha => List.mem_append_right _ (k a ha)⟩
theorem Rfs.get' {H : Hp} {ds : List D} {vs : List V} {fp : List Addr} {i : Nat} {v : V} (h : Rfs K H ds vs fp) (e : vs[i]? = some v) : ∃ d f, ds[i]? = some d ∧ Rf K H d v f ∧ (∀ a ∈ f, a ∈ fp) := by
  have hl := h.length
  obtain ⟨hi, _⟩ := List.getElem?_eq_some_iff.mp e
  have hi' : i < ds.length := by omega
  obtain ⟨v', f, e1, h1, k⟩ := h.get (d := ds[i]) (List.getElem?_eq_getElem hi')
  rw [e] at e1; cases e1
  exact ⟨ds[i], f, List.getElem?_eq_getElem hi', h1, k⟩
def D.scal : D → Bool
  | .non => true | .bl _ => true | .int _ => true | .str _ => true | _ => false
def D.toV : D → V
  | .non => .non | .bl b => .bl b | .int i => .int i | .str x => .str x | _ => .non
theorem Rf.scal {H : Hp} {d : D} {v : V} {fp : List Addr} (h : Rf K H d v fp) (s : d.scal = true) : v = d.toV ∧ fp = [] := by
  cases d <;> first | exact h | cases s
theorem Rf.ofScal {H : Hp} {d : D} (s : d.scal = true) : Rf K H d d.toV [] := by
  cases d <;> first | exact ⟨rfl, rfl⟩ | cases s
theorem Rp.int {H : Hp} {i : Int} {v : V} (h : Rp K H (.int i) v) : v = .int i := h.choose_spec.1
theorem Rp.bl {H : Hp} {i : Bool} {v : V} (h : Rp K H (.bl i) v) : v = .bl i := h.choose_spec.1
theorem Rfs.scals {H : Hp} : ∀ {ds : List D} {vs : List V} {fp : List Addr}, Rfs K H ds vs fp → ds.all D.scal = true → vs = ds.map D.toV ∧ fp = []
  | [], vs, fp, h, _ => h
  | d :: ds, vs, fp, h, s => by
    obtain ⟨x, r, f1, f2, rfl, rfl, h1, h2⟩ := h
    simp only [List.all_cons, Bool.and_eq_true] at s
    obtain ⟨rfl, rfl⟩ := h1.scal s.1
    obtain ⟨rfl, rfl⟩ := Rfs.scals h2 s.2
    exact ⟨rfl, rfl⟩
theorem Rfs.ofScals {H : Hp} : ∀ {ds : List D}, ds.all D.scal = true → Rfs K H ds (ds.map D.toV) []
  | [], _ => ⟨rfl, rfl⟩
  | d :: ds, s => by
    simp only [List.all_cons, Bool.and_eq_true] at s
    exact ⟨_, _, [], [], rfl, rfl, Rf.ofScal s.1, Rfs.ofScals s.2⟩
def D.items : D → Option (List D)
  | .lst ds => some ds | .scr ns => some (ns.map D.int) | _ => none
theorem Rfs.ofInts {H : Hp} : ∀ {ns : List Int}, Rfs K H (ns.map D.int) (ns.map V.int) []
  | [] => ⟨rfl, rfl⟩
  | n :: ns => ⟨_, _, [], [], rfl, rfl, ⟨rfl, rfl⟩, Rfs.ofInts⟩
theorem Rf.seq {H : Hp} {d : D} {ds : List D} {v : V} {fp : List Addr} (h : Rf K H d v fp) (e : d.items = some ds) : ∃ a xs fq, v = .ref a ∧ SqL K H a xs ∧ Rfs K H ds xs fq ∧ ∀ b ∈ fq, b ∈ fp := by
  cases d with
  | lst es =>
    cases e
    obtain ⟨a, xs, fq, e1, e2, rfl, h⟩ := h
    exact ⟨a, xs, fq, e1, .inl (.inl e2), h, fun b hb => List.mem_cons_of_mem _ hb⟩
  | scr ns =>
    cases e
    obtain ⟨a, e1, e2, e3⟩ := h
    exact ⟨a, _, [], e1, e2.seq, Rfs.ofInts, fun b hb => nomatch hb⟩
  | _ => cases e
theorem Rp.seq {H : Hp} {d : D} {ds : List D} {v : V} (h : Rp K H d v) (e : d.items = some ds) : ∃ a xs fq, v = .ref a ∧ SqL K H a xs ∧ Rfs K H ds xs fq :=
  let ⟨_, h⟩ := h; let ⟨a, xs, fq, h1, h2, h3, _⟩ := h.seq e; ⟨a, xs, fq, h1, h2, h3⟩
theorem Rp.tup {H : Hp} {ds : List D} {v : V} (h : Rp K H (.tup ds) v) : ∃ a xs fq, v = .ref a ∧ SqT K H a xs ∧ Rfs K H ds xs fq := by
  obtain ⟨fp, a, xs, e1, e2, h⟩ := h
  exact ⟨a, xs, fp, e1, .inl (.inl e2), h⟩
def Mu (H : Hp) (a : Addr) : Prop := (∃ xs, H a = some (.lst xs)) ∨ (∃ kvs, H a = some (.dK kvs)) ∨ (∃ kvs, H a = some (.dT kvs)) ∨ ∃ C dx fs, H a = some (.ins C dx fs)
theorem Mu.same {H H' : Hp} {a : Addr} (h : Mu H a) (s : Same H H') : Mu H' a := by
  rcases h with ⟨x, h⟩ | ⟨x, h⟩ | ⟨x, h⟩ | ⟨C, dx, fs, h⟩
  · exact .inl ⟨x, s _ _ h⟩
  · exact .inr (.inl ⟨x, s _ _ h⟩)
  · exact .inr (.inr (.inl ⟨x, s _ _ h⟩))
  · exact .inr (.inr (.inr ⟨C, dx, fs, s _ _ h⟩))
theorem Mu.some {H : Hp} {a : Addr} (h : Mu H a) : H a ≠ none := by
  rcases h with ⟨x, h⟩ | ⟨x, h⟩ | ⟨x, h⟩ | ⟨C, dx, fs, h⟩ <;> rw [h] <;> intro z <;> cases z
theorem Mu.notup {H : Hp} {a : Addr} (h : Mu H a) : ∀ o, H a = Option.some o → ¬ Im o := by
  rcases h with ⟨x, h⟩ | ⟨x, h⟩ | ⟨x, h⟩ | ⟨C, dx, fs, h⟩ <;> rw [h] <;> intro o e z <;> cases e <;> rcases z with ⟨_, z⟩ | ⟨_, _, z⟩ | ⟨_, _, z⟩ <;> cases z
theorem Mu.upd {H : Hp} {a l : Addr} {o : HO} (h : Mu H a) (ho : (∃ xs, o = .lst xs) ∨ (∃ xs, o = .dK xs) ∨ (∃ xs, o = .dT xs) ∨ ∃ C dx fs, o = .ins C dx fs) : Mu (upd H l o) a := by
  by_cases e : a = l
  · subst e
    rcases ho with ⟨xs, rfl⟩ | ⟨xs, rfl⟩ | ⟨xs, rfl⟩ | ⟨C, dx, fs, rfl⟩
    · exact .inl ⟨xs, upd_same⟩
    · exact .inr (.inl ⟨xs, upd_same⟩)
    · exact .inr (.inr (.inl ⟨xs, upd_same⟩))
    · exact .inr (.inr (.inr ⟨C, dx, fs, upd_same⟩))
  · unfold Mu
    rw [upd_ne e]
    exact h
abbrev Dl := List (Option D)
structure Ok (K : PySem.W.Frag) (B0 : Hp) (Γ : List Nat) (fps : Nat → List Addr) (δ : Dl) (σ : St) (H : Hp) : Prop where
  len : σ.length = δ.length
  b0 : Same B0 H
  val : ∀ i d, δ[i]? = some (some d) → ∃ v, σ[i]? = some (some v) ∧ Rf K H d v (fps i)
  non : ∀ i, (∀ d, δ[i]? ≠ some (some d)) → fps i = []
  own : ∀ i ∈ Γ, (fps i).Nodup ∧ ∀ a ∈ fps i, B0 a = none ∧ Mu H a
  dj : ∀ i ∈ Γ, ∀ j, j ≠ i → ∀ a ∈ fps i, a ∉ fps j
variable {B0 : Hp} {Γ : List Nat} {fps : Nat → List Addr} {δ : Dl} {σ : St} {H H' : Hp}
theorem Ok.same (o : Ok K B0 Γ fps δ σ H) (s : Same H H') : Ok K B0 Γ fps δ σ H' :=
  ⟨o.len, o.b0.trans s, fun i d e => let ⟨v, h1, h2⟩ := o.val i d e; ⟨v, h1, h2.same s⟩, o.non, fun i hi => ⟨(o.own i hi).1, fun a ha => ⟨((o.own i hi).2 a ha).1, ((o.own i hi).2 a ha).2.same s⟩⟩, o.dj⟩
theorem Ok.sub {Γ' : List Nat} (o : Ok K B0 Γ fps δ σ H) (h : ∀ i ∈ Γ', i ∈ Γ) : Ok K B0 Γ' fps δ σ H :=
  ⟨o.len, o.b0, o.val, o.non, fun i hi => o.own i (h i hi), fun i hi => o.dj i (h i hi)⟩
theorem Ok.dom (o : Ok K B0 Γ fps δ σ H) {i : Nat} {a : Addr} (h : a ∈ fps i) : H a ≠ none := by
  by_cases e : ∃ d, δ[i]? = some (some d)
  · obtain ⟨d, e⟩ := e
    obtain ⟨v, _, r⟩ := o.val i d e
    obtain ⟨u, hu, _⟩ := r.dom a h
    rw [hu]; intro z; cases z
  · rw [o.non i (fun d z => e ⟨d, z⟩)] at h
    nomatch h
structure Nw (H H' : Hp) (fps : Nat → List Addr) (M : List Nat) (fp : List Addr) : Prop where
  nd : fp.Nodup
  mu : ∀ a ∈ fp, Mu H' a
  src : ∀ a ∈ fp, H a = none ∨ ∃ j ∈ M, a ∈ fps j
theorem Nw.nil {M : List Nat} : Nw H H' fps M [] := ⟨List.nodup_nil, fun _ h => (nomatch h), fun _ h => (nomatch h)⟩
theorem Nw.later {H1 : Hp} {M : List Nat} {fp : List Addr} (n : Nw H1 H' fps M fp) (s : Same H H1) : Nw H H' fps M fp :=
  ⟨n.nd, n.mu, fun a ha => (n.src a ha).elim (fun z => .inl (s.free z)) .inr⟩
theorem Nw.same {H1 : Hp} {M : List Nat} {fp : List Addr} (n : Nw H H' fps M fp) (s : Same H' H1) : Nw H H1 fps M fp := ⟨n.nd, fun a ha => (n.mu a ha).same s, n.src⟩
theorem Nw.any {fps' : Nat → List Addr} {fp : List Addr} (n : Nw H H' fps [] fp) : Nw H H' fps' [] fp := ⟨n.nd, n.mu, fun a ha => (n.src a ha).elim .inl fun ⟨_, h, _⟩ => nomatch h⟩
theorem Nw.fresh {fp : List Addr} (n : Nw H H' fps [] fp) : ∀ a ∈ fp, H a = none := fun a ha => (n.src a ha).elim id fun ⟨_, h, _⟩ => nomatch h
def kill (M : List Nat) (δ : Dl) : Dl := M.foldl (fun δ j => δ.set j none) δ
theorem kill_length : ∀ {M : List Nat} {δ : Dl}, (kill M δ).length = δ.length
  | [], _ => rfl
  | j :: M, δ => by rw [kill, List.foldl_cons]; exact (kill_length (M := M)).trans (by simp)
theorem kill_get : ∀ {M : List Nat} {δ : Dl} {i : Nat} {d : D}, (kill M δ)[i]? = some (some d) ↔ i ∉ M ∧ δ[i]? = some (some d)
  | [], _, _, _ => by simp [kill]
  | j :: M, δ, i, d => by
    rw [kill, List.foldl_cons]
    have := kill_get (M := M) (δ := δ.set j none) (i := i) (d := d)
    rw [kill] at this
    rw [this, List.mem_cons]
    by_cases e : i = j
    · subst e
      simp [List.getElem?_set]
    · rw [List.getElem?_set_ne (Ne.symm e)]
      simp [e]
def minus (Γ M : List Nat) : List Nat := Γ.filter fun i => !M.contains i
theorem mem_minus {Γ M : List Nat} {i : Nat} : i ∈ minus Γ M ↔ i ∈ Γ ∧ i ∉ M := by
  unfold minus
  rw [List.mem_filter]
  simp
theorem Ok.kill (o : Ok K B0 Γ fps δ σ H) (M : List Nat) : Ok K B0 (minus Γ M) (fun i => if i ∈ M then [] else fps i) (kill M δ) σ H := by
  refine ⟨by rw [kill_length]; exact o.len, o.b0, fun i d e => ?_, fun i e => ?_, fun i hi => ?_, fun i hi j hj a ha => ?_⟩
  · obtain ⟨h1, h2⟩ := kill_get.mp e
    rw [if_neg h1]
    exact o.val i d h2
  · by_cases h : i ∈ M
    · rw [if_pos h]
    · rw [if_neg h]
      exact o.non i fun d z => e d (kill_get.mpr ⟨h, z⟩)
  · obtain ⟨h1, h2⟩ := mem_minus.mp hi
    rw [if_neg h2]
    exact o.own i h1
  · obtain ⟨h1, h2⟩ := mem_minus.mp hi
    rw [if_neg h2] at ha
    by_cases h : j ∈ M
    · rw [if_pos h]; exact List.not_mem_nil
    · rw [if_neg h]; exact o.dj i h1 j hj a ha
theorem Ok.setMv {M : List Nat} {x : D} {v : V} {fp : List Addr} (o : Ok K B0 Γ fps δ σ H) (i : Nat) (hM : ∀ j ∈ M, j ∈ Γ) (s : Same H H') (r : Rf K H' x v fp) (n : Nw H H' fps M fp) :
    Ok K B0 (i :: minus (minus Γ M) [i]) (fun j => if j = i then (if i < δ.length then fp else []) else if j ∈ M then [] else fps j) ((L3.kill M δ).set i (some x)) (σ.set i (some v)) H' := by
  have ok := (o.kill M).same s
  have sep : ∀ a ∈ fp, ∀ j, j ∉ M → a ∉ fps j := fun a ha j hj z => by
    rcases n.src a ha with e | ⟨k, hk, e⟩
    · exact o.dom z e
    · exact o.dj k (hM k hk) j (fun q => hj (by rw [q]; exact hk)) a e z
  refine ⟨by simp [kill_length, o.len], ok.b0, fun j d e => ?_, fun j e => ?_, fun j hj => ?_, fun j hj k hk a ha => ?_⟩
  · by_cases h : j = i
    · subst h
      rw [List.getElem?_set] at e
      simp only [kill_length] at e
      by_cases hl : j < δ.length
      · simp [hl] at e
        subst e
        refine ⟨v, ?_, ?_⟩
        · rw [List.getElem?_set]; simp [o.len, hl]
        · rw [if_pos rfl, if_pos hl]; exact r
      · simp [hl] at e
    · rw [List.getElem?_set_ne (Ne.symm h)] at e
      rw [List.getElem?_set_ne (Ne.symm h), if_neg h]
      exact ok.val j d e
  · by_cases h : j = i
    · subst h
      rw [if_pos rfl]
      by_cases hl : j < δ.length
      · exact absurd (by rw [List.getElem?_set]; simp [kill_length, hl]) (e x)
      · rw [if_neg hl]
    · rw [if_neg h]
      exact ok.non j fun d z => e d (by rw [List.getElem?_set_ne (Ne.symm h)]; exact z)
  · by_cases h : j = i
    · subst h
      rw [if_pos rfl]
      split
      · refine ⟨n.nd, fun a ha => ⟨?_, n.mu a ha⟩⟩
        rcases n.src a ha with e | ⟨k, hk, e⟩
        · exact o.b0.free e
        · exact ((o.own k (hM k hk)).2 a e).1
      · exact ⟨List.nodup_nil, fun _ z => nomatch z⟩
    · rw [if_neg h]
      rcases List.mem_cons.mp hj with z | hj
      · exact absurd z h
      · exact ok.own j (mem_minus.mp hj).1
  · by_cases h : j = i
    · subst h
      rw [if_pos rfl] at ha
      rw [if_neg hk]
      split at ha
      · by_cases hm : k ∈ M
        · rw [if_pos hm]; exact List.not_mem_nil
        · rw [if_neg hm]; exact sep a ha k hm
      · nomatch ha
    · rcases List.mem_cons.mp hj with z | hj
      · exact absurd z h
      rw [if_neg h] at ha
      have hj' := mem_minus.mp (mem_minus.mp hj).1
      rw [if_neg hj'.2] at ha
      by_cases hki : k = i
      · rw [if_pos hki]
        split
        · exact fun z => sep a z j hj'.2 ha
        · exact List.not_mem_nil
      · rw [if_neg hki]
        split
        · exact List.not_mem_nil
        · exact o.dj j hj'.1 k hk a ha
theorem Ok.setSh {x : D} {v : V} {fp : List Addr} (o : Ok K B0 Γ fps δ σ H) (i : Nat) (s : Same H H') (r : Rf K H' x v fp) (n : ∀ j ∈ Γ, ∀ a ∈ fp, a ∉ fps j) :
    Ok K B0 (minus Γ [i]) (fun j => if j = i then (if i < δ.length then fp else []) else fps j) (δ.set i (some x)) (σ.set i (some v)) H' := by
  have ok := o.same s
  refine ⟨by simp [o.len], ok.b0, fun j d e => ?_, fun j e => ?_, fun j hj => ?_, fun j hj k hk a ha => ?_⟩
  · by_cases h : j = i
    · subst h
      rw [List.getElem?_set] at e
      by_cases hl : j < δ.length
      · simp [hl] at e
        subst e
        refine ⟨v, ?_, ?_⟩
        · rw [List.getElem?_set]; simp [o.len, hl]
        · rw [if_pos rfl, if_pos hl]; exact r
      · simp [hl] at e
    · rw [List.getElem?_set_ne (Ne.symm h)] at e
      rw [List.getElem?_set_ne (Ne.symm h), if_neg h]
      exact ok.val j d e
  · by_cases h : j = i
    · subst h
      rw [if_pos rfl]
      by_cases hl : j < δ.length
      · exact absurd (by rw [List.getElem?_set]; simp [hl]) (e x)
      · rw [if_neg hl]
    · rw [if_neg h]
      exact ok.non j fun d z => e d (by rw [List.getElem?_set_ne (Ne.symm h)]; exact z)
  · obtain ⟨h1, h2⟩ := mem_minus.mp hj
    rw [if_neg (fun z => h2 (by rw [z]; exact List.mem_singleton.mpr rfl))]
    exact ok.own j h1
  · obtain ⟨h1, h2⟩ := mem_minus.mp hj
    rw [if_neg (fun z => h2 (by rw [z]; exact List.mem_singleton.mpr rfl))] at ha
    by_cases hki : k = i
    · rw [if_pos hki]
      split
      · exact fun z => n j h1 a z ha
      · exact List.not_mem_nil
    · rw [if_neg hki]
      exact o.dj j h1 k hk a ha
theorem Ok.rebase (o : Ok K B0 Γ fps δ σ H) : ∃ B1, Same B0 B1 ∧ Ok K B1 Γ fps δ σ H ∧ (∀ a, (∀ j ∈ Γ, a ∉ fps j) → B1 a = H a) := by
  refine ⟨fun a => if (∃ j ∈ Γ, a ∈ fps j) then none else H a, fun b u e => ?_, ⟨o.len, fun b u e => ?_, o.val, o.non, fun i hi => ⟨(o.own i hi).1, fun a ha => ⟨?_, ((o.own i hi).2 a ha).2⟩⟩, o.dj⟩, fun a h => ?_⟩
  · have : ¬ ∃ j ∈ Γ, b ∈ fps j := fun ⟨j, hj, hb⟩ => by
      have := ((o.own j hj).2 b hb).1
      rw [e] at this; cases this
    show (if _ then _ else _) = _
    rw [if_neg this]
    exact o.b0 b u e
  · by_cases z : ∃ j ∈ Γ, b ∈ fps j
    · simp only [if_pos z] at e; cases e
    · simp only [if_neg z] at e; exact e
  · show (if _ then _ else _) = _
    rw [if_pos ⟨i, hi, ha⟩]
  · show (if _ then _ else _) = _
    rw [if_neg (fun ⟨j, hj, z⟩ => h j hj z)]
theorem Ok.base {B1 : Hp} (o : Ok K B1 Γ fps δ σ H) (s : Same B0 B1) : Ok K B0 Γ fps δ σ H :=
  ⟨o.len, s.trans o.b0, o.val, o.non, fun i hi => ⟨(o.own i hi).1, fun a ha => ⟨s.free ((o.own i hi).2 a ha).1, ((o.own i hi).2 a ha).2⟩⟩, o.dj⟩
end
end L3
set_option Elab.async false
set_option linter.all false
set_option maxRecDepth 100000
set_option maxHeartbeats 4000000
namespace L3
open PySem L2
abbrev DK := D → Prop
abbrev DE := Dl → DK → Prop
abbrev DT := Dl → (Bool → Prop) → Prop
abbrev DA := Dl → (List D → Prop) → Prop
structure ER (K : PySem.W.Frag) (Γ : List Nat) (t : TE) (d : DE) : Prop where
  mono : ∀ δ (P P' : DK), (∀ x, P x → P' x) → d δ P → d δ P'
  run : ∀ {B0 fps δ σ H Q}, Ok K B0 Γ fps δ σ H → d δ (fun x => ∀ v H', Same H H' → Rp K H' x v → Q v H') → t σ H Q
structure ES (K : PySem.W.Frag) (Γ : List Nat) (t : TE) (d : DE) : Prop where
  mono : ∀ δ (P P' : DK), (∀ x, P x → P' x) → d δ P → d δ P'
  run : ∀ {B0 fps δ σ H Q}, Ok K B0 Γ fps δ σ H → d δ (fun x => ∀ v H' fp, Same H H' → Rf K H' x v fp → (∀ j ∈ Γ, ∀ a ∈ fp, a ∉ fps j) → Q v H') → t σ H Q
structure EM (K : PySem.W.Frag) (Γ M : List Nat) (t : TE) (d : DE) : Prop where
  mono : ∀ δ (P P' : DK), (∀ x, P x → P' x) → d δ P → d δ P'
  run : ∀ {B0 fps δ σ H Q}, Ok K B0 Γ fps δ σ H → d δ (fun x => ∀ v H' fp, Same H H' → Rf K H' x v fp → Nw H H' fps M fp → Q v H') → t σ H Q
structure TR (K : PySem.W.Frag) (Γ : List Nat) (t : TT) (d : DT) : Prop where
  mono : ∀ δ (P P' : Bool → Prop), (∀ x, P x → P' x) → d δ P → d δ P'
  run : ∀ {B0 fps δ σ H Q}, Ok K B0 Γ fps δ σ H → d δ (fun b => ∀ H', Same H H' → Q b H') → t σ H Q
structure AR (K : PySem.W.Frag) (Γ : List Nat) (t : TA) (d : DA) : Prop where
  mono : ∀ δ (P P' : List D → Prop), (∀ x, P x → P' x) → d δ P → d δ P'
  run : ∀ {B0 fps δ σ H Q}, Ok K B0 Γ fps δ σ H → d δ (fun xs => ∀ vs H', Same H H' → Rps K H' xs vs → Q vs H') → t σ H Q
structure AM (K : PySem.W.Frag) (Γ M : List Nat) (t : TA) (d : DA) : Prop where
  mono : ∀ δ (P P' : List D → Prop), (∀ x, P x → P' x) → d δ P → d δ P'
  run : ∀ {B0 fps δ σ H Q}, Ok K B0 Γ fps δ σ H → d δ (fun xs => ∀ vs H' fp, Same H H' → Rfs K H' xs vs fp → Nw H H' fps M fp → Q vs H') → t σ H Q
section
variable {K : PySem.W.Frag} {Γ M : List Nat} {t ta tb tc : TE} {d da db dc : DE}
theorem EM.es (h : EM K Γ [] t d) : ES K Γ t d := ⟨h.mono, fun o q => h.run o (h.mono _ _ _ (fun x z v H' fp s r n => z v H' fp s r fun j _ a ha y => o.dom y (n.fresh a ha)) q)⟩
theorem ES.er (h : ES K Γ t d) : ER K Γ t d := ⟨h.mono, fun o q => h.run o (h.mono _ _ _ (fun x z v H' fp s r n => z v H' s ⟨fp, r⟩) q)⟩
theorem EM.er (h : EM K Γ M t d) : ER K Γ t d := ⟨h.mono, fun o q => h.run o (h.mono _ _ _ (fun x z v H' fp s r n => z v H' s ⟨fp, r⟩) q)⟩
def vScal (d : DE) (δ : Dl) (P : DK) : Prop := d δ fun x => x.scal = true ∧ P x
theorem ER.scal (h : ER K Γ t d) : EM K Γ [] t (vScal d) := ⟨fun δ P P' k q => h.mono _ _ _ (fun x z => ⟨z.1, k x z.2⟩) q, fun o q => h.run o (h.mono _ _ _ (fun x z v H' s r => by
  obtain ⟨fp, r⟩ := r
  obtain ⟨_, rfl⟩ := r.scal z.1
  exact z.2 v H' [] s r Nw.nil) q)⟩
def vVar (i : Nat) (δ : Dl) (P : DK) : Prop := match δ[i]? with | some (some d) => P d | _ => False
theorem vVar_out {i : Nat} {δ : Dl} {P : DK} (h : vVar i δ P) : ∃ d, δ[i]? = some (some d) ∧ P d := by
  unfold vVar at h
  split at h
  · exact ⟨_, by assumption, h⟩
  · exact h.elim
theorem vVar_mono {i : Nat} : ∀ δ (P P' : DK), (∀ x, P x → P' x) → vVar i δ P → vVar i δ P' := fun δ P P' k h => by
  unfold vVar at h ⊢
  split
  · rename_i e; rw [e] at h; exact k _ h
  · rename_i e; revert h; split
    · rename_i e'; exact absurd e' (e _)
    · exact id
theorem er_var (i : Nat) : ER K Γ (tVar i) (vVar i) := ⟨vVar_mono, fun {B0 fps δ σ H Q} o q => by
  obtain ⟨d, e, q⟩ := vVar_out q
  obtain ⟨v, e1, r⟩ := o.val i d e
  exact ⟨v, e1, q v H (Same.refl H) ⟨_, r⟩⟩⟩
theorem es_var (i : Nat) (h : i ∉ Γ := by decide) : ES K Γ (tVar i) (vVar i) := ⟨vVar_mono, fun {B0 fps δ σ H Q} o q => by
  obtain ⟨d, e, q⟩ := vVar_out q
  obtain ⟨v, e1, r⟩ := o.val i d e
  exact ⟨v, e1, q v H _ (Same.refl H) r fun j hj a ha z => o.dj j hj i (fun y => h (by rw [y]; exact hj)) a z ha⟩⟩
theorem em_var (i : Nat) (h : i ∈ Γ := by decide) : EM K Γ [i] (tVar i) (vVar i) := ⟨vVar_mono, fun {B0 fps δ σ H Q} o q => by
  obtain ⟨d, e, q⟩ := vVar_out q
  obtain ⟨v, e1, r⟩ := o.val i d e
  exact ⟨v, e1, q v H _ (Same.refl H) r ⟨(o.own i h).1, fun a ha => ((o.own i h).2 a ha).2, fun a ha => .inr ⟨i, List.mem_singleton.mpr rfl, ha⟩⟩⟩⟩
def vC (d : D) (_u0 : Dl) (P : DK) : Prop := P d
theorem em_int {i : Int} : EM K Γ [] (tC (.int i)) (vC (.int i)) := ⟨fun _ _ _ k h => k _ h, fun {_ _ _ _ H _} _ q => q _ H [] (Same.refl H) ⟨rfl, rfl⟩ Nw.nil⟩
theorem em_bl {i : Bool} : EM K Γ [] (tC (.bl i)) (vC (.bl i)) := ⟨fun _ _ _ k h => k _ h, fun {_ _ _ _ H _} _ q => q _ H [] (Same.refl H) ⟨rfl, rfl⟩ Nw.nil⟩
theorem em_str {i : Str} : EM K Γ [] (tC (.str i)) (vC (.str i)) := ⟨fun _ _ _ k h => k _ h, fun {_ _ _ _ H _} _ q => q _ H [] (Same.refl H) ⟨rfl, rfl⟩ Nw.nil⟩
theorem em_non : EM K Γ [] (tC .non) (vC .non) := ⟨fun _ _ _ k h => k _ h, fun {_ _ _ _ H _} _ q => q _ H [] (Same.refl H) ⟨rfl, rfl⟩ Nw.nil⟩
abbrev D2 := D → D → DK → Prop
abbrev nf : Nat → List Addr := fun _ => []
structure OpV (K : PySem.W.Frag) (r : R2) (rv : D2) : Prop where
  mono : ∀ x y (P P' : DK), (∀ z, P z → P' z) → rv x y P → rv x y P'
  run : ∀ {H x y v w Q}, Rp K H x v → Rp K H y w → rv x y (fun z => ∀ u H' fp, Same H H' → Rf K H' z u fp → Nw H H' nf [] fp → Q u H') → r v w H Q
def vOp (rv : D2) (da db : DE) (δ : Dl) (P : DK) : Prop := da δ fun x => db δ fun y => rv x y P
theorem em_op {r : R2} {rv : D2} (ho : OpV K r rv) (ha : ER K Γ ta da) (hb : ER K Γ tb db) : EM K Γ [] (tOp r ta tb) (vOp rv da db) :=
  ⟨fun δ P P' k h => ha.mono _ _ _ (fun x z => hb.mono _ _ _ (fun y z => ho.mono x y _ _ k z) z) h,
   fun o q => ha.run o (ha.mono _ _ _ (fun x z v H1 s1 r1 => hb.run (o.same s1) (hb.mono _ _ _ (fun y z w H2 s2 r2 => ho.run (r1.same s2) r2 (ho.mono _ _ _ _ (fun u z u' H' fp s r n => z u' H' fp ((s1.trans s2).trans s) r (n.any.later (s1.trans s2))) z)) z)) q)⟩
abbrev D1 := D → DK → Prop
structure UnV (K : PySem.W.Frag) (r : V → Hp → VK → Prop) (rv : D1) : Prop where
  mono : ∀ x (P P' : DK), (∀ z, P z → P' z) → rv x P → rv x P'
  run : ∀ {H x v Q}, Rp K H x v → rv x (fun z => ∀ u H' fp, Same H H' → Rf K H' z u fp → Nw H H' nf [] fp → Q u H') → r v H Q
def vUn (rv : D1) (da : DE) (δ : Dl) (P : DK) : Prop := da δ fun x => rv x P
theorem em_un {r : V → Hp → VK → Prop} {rv : D1} (ho : UnV K r rv) (ha : ER K Γ ta da) : EM K Γ [] (tUn r ta) (vUn rv da) :=
  ⟨fun δ P P' k h => ha.mono _ _ _ (fun x z => ho.mono x _ _ k z) h,
   fun o q => ha.run o (ha.mono _ _ _ (fun x z v H1 s1 r1 => ho.run r1 (ho.mono _ _ _ (fun u z u' H' fp s r n => z u' H' fp (s1.trans s) r (n.any.later s1)) z)) q)⟩
def vI0 (g : Int → Int → D) (x : D) (y : D) (P : DK) : Prop := match x, y with | .int i, .int j => P (g i j) | _, _ => False
def vI (C : Int → Int → Prop) (g : Int → Int → D) (x : D) (y : D) (P : DK) : Prop := match x, y with | .int i, .int j => C i j ∧ P (g i j) | _, _ => False
def vU (g : Int → D) (x : D) (P : DK) : Prop := match x with | .int i => P (g i) | _ => False
theorem vI0_mono {g : Int → Int → D} : ∀ x y (P P' : DK), (∀ z, P z → P' z) → vI0 g x y P → vI0 g x y P' := fun x y P P' k h => by
  unfold vI0 at h ⊢; revert h; split <;> first | exact k _ | exact id
theorem vI_mono {C : Int → Int → Prop} {g : Int → Int → D} : ∀ x y (P P' : DK), (∀ z, P z → P' z) → vI C g x y P → vI C g x y P' := fun x y P P' k h => by
  unfold vI at h ⊢; revert h; split <;> first | exact fun h => ⟨h.1, k _ h.2⟩ | exact id
theorem vI0_run {f : Int → Int → V} {g : Int → Int → D} (hs : ∀ i j, (g i j).scal = true ∧ (g i j).toV = f i j) : OpV K (rI0 f) (vI0 g) := ⟨vI0_mono, fun {H x y v w Q} r1 r2 h => by
  unfold vI0 at h
  split at h
  · rename_i i j
    refine ⟨i, j, r1.int, r2.int, ?_⟩
    rw [← (hs i j).2]
    exact h _ H [] (Same.refl H) (Rf.ofScal (hs i j).1) Nw.nil
  · exact h.elim⟩
theorem vI_run {C : Int → Int → Prop} {f : Int → Int → V} {g : Int → Int → D} (hs : ∀ i j, (g i j).scal = true ∧ (g i j).toV = f i j) : OpV K (rI C f) (vI C g) := ⟨vI_mono, fun {H x y v w Q} r1 r2 h => by
  unfold vI at h
  split at h
  · rename_i i j
    refine ⟨i, j, r1.int, r2.int, h.1, ?_⟩
    rw [← (hs i j).2]
    exact h.2 _ H [] (Same.refl H) (Rf.ofScal (hs i j).1) Nw.nil
  · exact h.elim⟩
theorem o_int {f : Int → Int → Int} : OpV K (rI0 fun i j => .int (f i j)) (vI0 fun i j => .int (f i j)) := vI0_run fun _ _ => ⟨rfl, rfl⟩
theorem o_bl {f : Int → Int → Bool} : OpV K (rI0 fun i j => .bl (f i j)) (vI0 fun i j => .bl (f i j)) := vI0_run fun _ _ => ⟨rfl, rfl⟩
theorem o_intC {C : Int → Int → Prop} {f : Int → Int → Int} : OpV K (rI C fun i j => .int (f i j)) (vI C fun i j => .int (f i j)) := vI_run fun _ _ => ⟨rfl, rfl⟩
theorem u_int {f : Int → Int} : UnV K (rU fun i => .int (f i)) (vU fun i => .int (f i)) := ⟨fun x P P' k h => by unfold vU at h ⊢; revert h; split <;> first | exact k _ | exact id, fun {H x v Q} r1 h => by
  unfold vU at h
  split at h
  · rename_i i
    exact ⟨i, r1.int, h _ H [] (Same.refl H) ⟨rfl, rfl⟩ Nw.nil⟩
  · exact h.elim⟩
def vEqS (neg : Bool) (x : D) (y : D) (P : DK) : Prop := x.scal = true ∧ y.scal = true ∧ scal x.toV y.toV = true ∧ P (.bl (if neg then !decide (x.toV = y.toV) else decide (x.toV = y.toV)))
theorem vEqS_mono {neg : Bool} : ∀ x y (P P' : DK), (∀ z, P z → P' z) → vEqS neg x y P → vEqS neg x y P' := fun x y P P' k h => ⟨h.1, h.2.1, h.2.2.1, k _ h.2.2.2⟩
theorem o_eq : OpV K rEq (vEqS false) := ⟨vEqS_mono, fun {H x y v w Q} ⟨f1, r1⟩ ⟨f2, r2⟩ h => by
  rw [(r1.scal h.1).1, (r2.scal h.2.1).1]
  exact ⟨h.2.2.1, h.2.2.2 _ H [] (Same.refl H) ⟨rfl, rfl⟩ Nw.nil⟩⟩
theorem o_ne : OpV K rNe (vEqS true) := ⟨vEqS_mono, fun {H x y v w Q} ⟨f1, r1⟩ ⟨f2, r2⟩ h => by
  rw [(r1.scal h.1).1, (r2.scal h.2.1).1]
  exact ⟨h.2.2.1, h.2.2.2 _ H [] (Same.refl H) ⟨rfl, rfl⟩ Nw.nil⟩⟩
theorem vEqS_int {neg : Bool} {i j : Int} {P : DK} : vEqS neg (.int i) (.int j) P ↔ P (.bl (if neg then !decide (i = j) else decide (i = j))) := by
  unfold vEqS
  simp only [D.scal, D.toV, scal, true_and, V.int.injEq]
def vIxL (x : D) (y : D) (P : DK) : Prop := match x.items, y with | some ds, .int i => (match atI ds i with | some d => P d | none => False) | _, _ => False
def vIxT (x : D) (y : D) (P : DK) : Prop := match x, y with | .tup ds, .int i => (match atI ds i with | some d => P d | none => False) | _, _ => False
theorem vIxL_out {x y : D} {P : DK} (h : vIxL x y P) : ∃ ds i d, x.items = some ds ∧ y = .int i ∧ atI ds i = some d ∧ P d := by
  unfold vIxL at h
  split at h
  · split at h
    · exact ⟨_, _, _, by assumption, rfl, by assumption, h⟩
    · exact h.elim
  · exact h.elim
theorem vIxL_in {x : D} {ds : List D} {i : Int} {d : D} {P : DK} (ex : x.items = some ds) (e : atI ds i = some d) (h : P d) : vIxL x (.int i) P := by unfold vIxL; simp only [ex, e]; exact h
theorem vIxL_mono : ∀ x y (P P' : DK), (∀ z, P z → P' z) → vIxL x y P → vIxL x y P' := fun x y P P' k h => by
  obtain ⟨ds, i, d, ex, rfl, e, h⟩ := vIxL_out h; exact vIxL_in ex e (k _ h)
theorem Rfs.at {H : Hp} {ds : List D} {xs : List V} {fq : List Addr} {i : Int} {d : D} (h : Rfs K H ds xs fq) (e : atI ds i = some d) : ∃ v f, atI xs i = some v ∧ Rf K H d v f ∧ ∀ a ∈ f, a ∈ fq := by
  unfold atI at e ⊢
  rw [h.length]
  cases hj : ixN ds.length i with
  | none => rw [hj] at e; cases e
  | some j => rw [hj] at e; exact h.get e
theorem er_ixL (ha : ER K Γ ta da) (hb : ER K Γ tb db) : ER K Γ (tOp (rIxL K) ta tb) (vOp vIxL da db) :=
  ⟨fun δ P P' k h => ha.mono _ _ _ (fun x z => hb.mono _ _ _ (fun y z => vIxL_mono x y _ _ k z) z) h,
   fun o q => ha.run o (ha.mono _ _ _ (fun x z v H1 s1 r1 => hb.run (o.same s1) (hb.mono _ _ _ (fun y z w H2 s2 r2 => by
    obtain ⟨ds, i, d, ex, rfl, e, z⟩ := vIxL_out z
    obtain ⟨a, xs, fq, rfl, hs, hr⟩ := (r1.same s2).seq ex
    obtain ⟨v, f, e1, r3, _⟩ := hr.at e
    exact ⟨a, xs, i, v, rfl, r2.int, hs, e1, z v H2 (s1.trans s2) ⟨f, r3⟩⟩) z)) q)⟩
theorem es_ixL (ha : ES K Γ ta da) (hb : ER K Γ tb db) : ES K Γ (tOp (rIxL K) ta tb) (vOp vIxL da db) :=
  ⟨fun δ P P' k h => ha.mono _ _ _ (fun x z => hb.mono _ _ _ (fun y z => vIxL_mono x y _ _ k z) z) h,
   fun o q => ha.run o (ha.mono _ _ _ (fun x z v H1 fp s1 r1 n => hb.run (o.same s1) (hb.mono _ _ _ (fun y z w H2 s2 r2 => by
    obtain ⟨ds, i, d, ex, rfl, e, z⟩ := vIxL_out z
    obtain ⟨a, xs, fq, rfl, hs, hr, hin⟩ := (r1.same s2).seq ex
    obtain ⟨v, f, e1, r3, k⟩ := hr.at e
    exact ⟨a, xs, i, v, rfl, r2.int, hs, e1, z v H2 f (s1.trans s2) r3 fun j hj b hb => n j hj b (hin b (k b hb))⟩) z)) q)⟩
def asB (x : D) (P : Bool → Prop) : Prop := match x with | .bl k => P k | _ => False
def vTest (d : DE) (δ : Dl) (P : Bool → Prop) : Prop := d δ fun x => asB x P
theorem vb_out {x : D} {P : Bool → Prop} (h : asB x P) : ∃ k, x = .bl k ∧ P k := by
  unfold asB at h
  split at h
  · exact ⟨_, rfl, h⟩
  · exact h.elim
theorem vb_in {x : D} {P P' : Bool → Prop} (k : ∀ b, P b → P' b) (h : asB x P) : asB x P' := by
  obtain ⟨b, rfl, h⟩ := vb_out h; exact k b h
theorem tr_test (h : ER K Γ t d) : TR K Γ (tTest t) (vTest d) := ⟨fun δ P P' k q => h.mono _ _ _ (fun x z => vb_in k z) q, fun o q => h.run o (h.mono _ _ _ (fun x z v H' s r => by
  obtain ⟨b, rfl, z⟩ := vb_out z; exact ⟨b, r.bl, z H' s⟩) q)⟩
theorem tr_b (h : ER K Γ t d) : TR K Γ (tB t) (vTest d) := ⟨fun δ P P' k q => h.mono _ _ _ (fun x z => vb_in k z) q, fun o q => h.run o (h.mono _ _ _ (fun x z v H' s r => by
  obtain ⟨b, rfl, z⟩ := vb_out z; exact ⟨b, r.bl, z H' s⟩) q)⟩
def vAnd (c e : DT) (δ : Dl) (P : Bool → Prop) : Prop := c δ fun k => if k = true then e δ P else P false
def vOr (c e : DT) (δ : Dl) (P : Bool → Prop) : Prop := c δ fun k => if k = true then P true else e δ P
def vNot (c : DT) (δ : Dl) (P : Bool → Prop) : Prop := c δ fun k => P (!k)
theorem ite_imp {b : Bool} {A B A' B' : Prop} (h1 : A → A') (h2 : B → B') (h : if b = true then A else B) : if b = true then A' else B' := by
  cases b
  · exact h2 h
  · exact h1 h
theorem tr_and {u1 u2 : TT} {c e : DT} (h1 : TR K Γ u1 c) (h2 : TR K Γ u2 e) : TR K Γ (tAnd u1 u2) (vAnd c e) :=
  ⟨fun δ P P' k q => h1.mono _ _ _ (fun b z => ite_imp (h2.mono _ _ _ k) (k _) z) q,
   fun o q => h1.run o (h1.mono _ _ _ (fun b z H' s => ite_imp (fun z => h2.run (o.same s) (h2.mono _ _ _ (fun b z H2 s2 => z H2 (s.trans s2)) z)) (fun z => z H' s) z) q)⟩
theorem tr_or {u1 u2 : TT} {c e : DT} (h1 : TR K Γ u1 c) (h2 : TR K Γ u2 e) : TR K Γ (tOr u1 u2) (vOr c e) :=
  ⟨fun δ P P' k q => h1.mono _ _ _ (fun b z => ite_imp (k _) (h2.mono _ _ _ k) z) q,
   fun o q => h1.run o (h1.mono _ _ _ (fun b z H' s => ite_imp (fun z => z H' s) (fun z => h2.run (o.same s) (h2.mono _ _ _ (fun b z H2 s2 => z H2 (s.trans s2)) z)) z) q)⟩
theorem tr_not {u1 : TT} {c : DT} (h1 : TR K Γ u1 c) : TR K Γ (tNot u1) (vNot c) :=
  ⟨fun δ P P' k q => h1.mono _ _ _ (fun b z => k _ z) q, fun o q => h1.run o (h1.mono _ _ _ (fun b z H' s => z H' s) q)⟩
def vAndV (da db : DE) (δ : Dl) (P : DK) : Prop := vTest da δ fun k => if k = true then db δ P else P (.bl false)
def vOrV (da db : DE) (δ : Dl) (P : DK) : Prop := vTest da δ fun k => if k = true then P (.bl true) else db δ P
def vNotV (da : DE) (δ : Dl) (P : DK) : Prop := vTest da δ fun k => P (.bl (!k))
theorem em_andV (ha : ER K Γ ta da) (hb : EM K Γ [] tb db) : EM K Γ [] (tAndV ta tb) (vAndV da db) :=
  ⟨fun δ P P' k q => (tr_test ha).mono _ _ _ (fun b z => ite_imp (hb.mono _ _ _ k) (k _) z) q,
   fun o q => ha.run o (ha.mono _ _ _ (fun x z v H' s r => by
    obtain ⟨b, rfl, z⟩ := vb_out z
    exact ⟨b, r.bl, ite_imp (fun z => hb.run (o.same s) (hb.mono _ _ _ (fun y z u H2 fp s2 r2 n2 => z u H2 fp (s.trans s2) r2 (n2.later s)) z)) (fun z => z _ H' [] s ⟨rfl, rfl⟩ Nw.nil) z⟩) q)⟩
theorem em_orV (ha : ER K Γ ta da) (hb : EM K Γ [] tb db) : EM K Γ [] (tOrV ta tb) (vOrV da db) :=
  ⟨fun δ P P' k q => (tr_test ha).mono _ _ _ (fun b z => ite_imp (k _) (hb.mono _ _ _ k) z) q,
   fun o q => ha.run o (ha.mono _ _ _ (fun x z v H' s r => by
    obtain ⟨b, rfl, z⟩ := vb_out z
    exact ⟨b, r.bl, ite_imp (fun z => z _ H' [] s ⟨rfl, rfl⟩ Nw.nil) (fun z => hb.run (o.same s) (hb.mono _ _ _ (fun y z u H2 fp s2 r2 n2 => z u H2 fp (s.trans s2) r2 (n2.later s)) z)) z⟩) q)⟩
theorem em_notV (ha : ER K Γ ta da) : EM K Γ [] (tNotV ta) (vNotV da) :=
  ⟨fun δ P P' k q => (tr_test ha).mono _ _ _ (fun b z => k _ z) q,
   fun o q => ha.run o (ha.mono _ _ _ (fun x z v H' s r => by
    obtain ⟨b, rfl, z⟩ := vb_out z
    exact ⟨b, r.bl, z _ H' [] s ⟨rfl, rfl⟩ Nw.nil⟩) q)⟩
def vIf (c : DT) (da db : DE) (δ : Dl) (P : DK) : Prop := c δ fun k => if k = true then da δ P else db δ P
def vChain (r r' : D2) (da db dc : DE) (δ : Dl) (P : DK) : Prop := da δ fun x => db δ fun y => r x y fun z => asB z fun k => if k = true then dc δ fun w => r' y w P else P (.bl false)
theorem em_chain {r r' : R2} {rv rv' : D2} (ho : OpV K r rv) (ho' : OpV K r' rv') (ha : ER K Γ ta da) (hb : ER K Γ tb db) (hc : ER K Γ tc dc) : EM K Γ [] (tChain r r' ta tb tc) (vChain rv rv' da db dc) :=
  ⟨fun δ P P' k h => ha.mono _ _ _ (fun x z => hb.mono _ _ _ (fun y z => ho.mono x y _ _ (fun u z => vb_in (fun b z => ite_imp (hc.mono _ _ _ fun w z => ho'.mono _ _ _ _ k z) (k _) z) z) z) z) h,
   fun o q => ha.run o (ha.mono _ _ _ (fun x z v H1 s1 r1 => hb.run (o.same s1) (hb.mono _ _ _ (fun y z w H2 s2 r2 => ho.run (r1.same s2) r2 (ho.mono _ _ _ _ (fun u z u' H3 fp s3 r3 n3 => by
    obtain ⟨b, rfl, z⟩ := vb_out z
    have s13 := (s1.trans s2).trans s3
    refine ⟨b, r3.1, ite_imp (fun z => ?_) (fun z => z _ H3 [] s13 ⟨rfl, rfl⟩ Nw.nil) z⟩
    exact hc.run (o.same s13) (hc.mono _ _ _ (fun w z w' H4 s4 r4 => ho'.run (r2.same (s3.trans s4)) r4 (ho'.mono _ _ _ _ (fun u z u' H' fp s r n => z u' H' fp ((s13.trans s4).trans s) r (n.any.later (s13.trans s4))) z)) z)) z)) z)) q)⟩
def vNil (_u0 : Dl) (P : List D → Prop) : Prop := P []
def vCons (da : DE) (dr : DA) (δ : Dl) (P : List D → Prop) : Prop := da δ fun x => dr δ fun xs => P (x :: xs)
theorem ar_nil : AR K Γ tNil vNil := ⟨fun _ _ _ k h => k _ h, fun {_ _ _ _ H _} o q => q [] H (Same.refl H) ⟨[], rfl, rfl⟩⟩
theorem am_nil : AM K Γ [] tNil vNil := ⟨fun _ _ _ k h => k _ h, fun {_ _ _ _ H _} o q => q [] H [] (Same.refl H) ⟨rfl, rfl⟩ Nw.nil⟩
theorem ar_cons {tr : TA} {dr : DA} (ha : ER K Γ ta da) (hr : AR K Γ tr dr) : AR K Γ (tCons ta tr) (vCons da dr) :=
  ⟨fun δ P P' k h => ha.mono _ _ _ (fun x z => hr.mono _ _ _ (fun y z => k _ z) z) h,
   fun o q => ha.run o (ha.mono _ _ _ (fun x z v H1 s1 r1 => hr.run (o.same s1) (hr.mono _ _ _ (fun xs z vs H2 s2 r2 => by
    obtain ⟨f1, r1⟩ := r1.same s2
    obtain ⟨f2, r2⟩ := r2
    exact z _ H2 (s1.trans s2) ⟨f1 ++ f2, _, _, f1, f2, rfl, rfl, r1, r2⟩) z)) q)⟩
theorem am_cons {M' : List Nat} {tr : TA} {dr : DA} (ha : EM K Γ M ta da) (hr : AM K Γ M' tr dr) (hM : ∀ i ∈ M, i ∈ Γ ∧ i ∉ M' := by decide) (hM' : ∀ i ∈ M', i ∈ Γ := by decide) : AM K Γ (M ++ M') (tCons ta tr) (vCons da dr) :=
  ⟨fun δ P P' k h => ha.mono _ _ _ (fun x z => hr.mono _ _ _ (fun y z => k _ z) z) h,
   fun {B0 fps δ σ H Q} o q => ha.run o (ha.mono _ _ _ (fun x z v H1 f1 s1 r1 n1 => hr.run (o.same s1) (hr.mono _ _ _ (fun xs z vs H2 f2 s2 r2 n2 => by
    refine z _ H2 (f1 ++ f2) (s1.trans s2) ⟨_, _, f1, f2, rfl, rfl, r1.same s2, r2⟩ ⟨?_, fun a ha => (List.mem_append.mp ha).elim (fun h => (n1.mu a h).same s2) (n2.mu a), fun a ha => ?_⟩
    · refine List.nodup_append.mpr ⟨n1.nd, n2.nd, fun a h1 b h2 e => ?_⟩
      subst e
      rcases n2.src a h2 with e | ⟨j, hj, e⟩
      · exact (n1.mu a h1).some e
      · rcases n1.src a h1 with e' | ⟨i, hi, e'⟩
        · exact o.dom e e'
        · exact o.dj i (hM i hi).1 j (fun y => (hM i hi).2 (by rw [← y]; exact hj)) a e' e
    · rcases List.mem_append.mp ha with h | h
      · exact (n1.src a h).imp id fun ⟨j, h1, h2⟩ => ⟨j, List.mem_append_left _ h1, h2⟩
      · exact (n2.src a h).elim (fun e => .inl (s1.free e)) fun ⟨j, h1, h2⟩ => .inr ⟨j, List.mem_append_right _ h1, h2⟩) z)) q)⟩
theorem le1000 {n : Nat} (h : n ≤ 1000) : n ≤ sizeLine := Nat.le_trans h (by rw [sizeLine_eq]; decide)
def vLst (da : DA) (δ : Dl) (P : DK) : Prop := da δ fun xs => xs.length ≤ 1000 ∧ P (.lst xs)
def vTup (da : DA) (δ : Dl) (P : DK) : Prop := da δ fun xs => xs.length ≤ 1000 ∧ P (.tup xs)
theorem Same.new' {H : Hp} {p : Addr} {o : HO} (h : H p = none) : Same H (upd H p o) := fun b u e => by rw [upd_ne (ne_of_none e h)]; exact e
theorem em_lst {u : TA} {dr : DA} (hr : AM K Γ M u dr) (hM : ∀ i ∈ M, i ∈ Γ := by decide) : EM K Γ M (tLst u) (vLst dr) :=
  ⟨fun δ P P' k h => hr.mono _ _ _ (fun y z => ⟨z.1, k _ z.2⟩) h,
   fun {B0 fps δ σ H Q} o q => hr.run o (hr.mono _ _ _ (fun xs z vs H1 fp s1 r1 n1 => by
    refine ⟨by rw [r1.length]; exact le1000 z.1, fun p hp => ?_⟩
    have hs : Same H1 (upd H1 p (.lst vs)) := Same.new' hp
    refine z.2 _ _ (p :: fp) (s1.trans hs) ⟨p, vs, fp, rfl, upd_same, rfl, r1.same hs⟩ ⟨List.nodup_cons.mpr ⟨fun h => (n1.mu p h).some hp, n1.nd⟩, fun a ha => ?_, fun a ha => ?_⟩
    · rcases List.mem_cons.mp ha with e | h
      · subst e; exact .inl ⟨vs, upd_same⟩
      · exact (n1.mu a h).same hs
    · rcases List.mem_cons.mp ha with e | h
      · subst e; exact .inl (s1.free hp)
      · exact n1.src a h) q)⟩
theorem em_tup {u : TA} {dr : DA} (hr : AM K Γ M u dr) : EM K Γ M (tTup u) (vTup dr) :=
  ⟨fun δ P P' k h => hr.mono _ _ _ (fun y z => ⟨z.1, k _ z.2⟩) h,
   fun {B0 fps δ σ H Q} o q => hr.run o (hr.mono _ _ _ (fun xs z vs H1 fp s1 r1 n1 => by
    refine ⟨by rw [r1.length]; exact le1000 z.1, fun p hp => ?_⟩
    have hs : Same H1 (upd H1 p (.tup vs)) := Same.new' hp
    exact z.2 _ _ fp (s1.trans hs) ⟨p, vs, rfl, upd_same, r1.same hs⟩ (n1.same hs)) q)⟩
theorem er_lst {u : TA} {dr : DA} (hr : AR K Γ u dr) : ER K Γ (tLst u) (vLst dr) :=
  ⟨fun δ P P' k h => hr.mono _ _ _ (fun y z => ⟨z.1, k _ z.2⟩) h,
   fun {B0 fps δ σ H Q} o q => hr.run o (hr.mono _ _ _ (fun xs z vs H1 s1 r1 => by
    obtain ⟨fp, r1⟩ := r1
    refine ⟨by rw [r1.length]; exact le1000 z.1, fun p hp => ?_⟩
    have hs : Same H1 (upd H1 p (.lst vs)) := Same.new' hp
    exact z.2 _ _ (s1.trans hs) ⟨p :: fp, p, vs, fp, rfl, upd_same, rfl, r1.same hs⟩) q)⟩
abbrev DSp := List D → DK → Prop
def DMono (S : DSp) : Prop := ∀ xs (P P' : DK), (∀ z, P z → P' z) → S xs P → S xs P'
def spP (K : PySem.W.Frag) (S : DSp) : Sp := fun vs H Q _ => ∃ ds, Rps K H ds vs ∧ S ds fun x => ∀ v H' fp, Same H H' → Rf K H' x v fp → Nw H H' nf [] fp → Q v H'
structure CallV (K : PySem.W.Frag) (r : List V → Hp → VK → Prop) (S : DSp) : Prop where
  mono : DMono S
  run : ∀ {H xs vs Q}, Rps K H xs vs → S xs (fun z => ∀ u H' fp, Same H H' → Rf K H' z u fp → Nw H H' nf [] fp → Q u H') → r vs H Q
def vCall (S : DSp) (dr : DA) (δ : Dl) (P : DK) : Prop := dr δ fun xs => S xs P
theorem em_cb {r : List V → Hp → VK → Prop} {S : DSp} {u : TA} {dr : DA} (hc : CallV K r S) (hr : AR K Γ u dr) : EM K Γ [] (tCB r u) (vCall S dr) :=
  ⟨fun δ P P' k h => hr.mono _ _ _ (fun y z => hc.mono _ _ _ k z) h,
   fun {B0 fps δ σ H Q} o q => hr.run o (hr.mono _ _ _ (fun xs z vs H1 s1 r1 => hc.run r1 (hc.mono _ _ _ (fun u z u' H' fp s r n => z u' H' fp (s1.trans s) r (n.any.later s1)) z)) q)⟩
theorem em_call {S : DSp} {E : XK} {u : TA} {dr : DA} (hS : DMono S) (hr : AR K Γ u dr) : EM K Γ [] (tCall (spP K S) [] E u) (vCall S dr) :=
  ⟨fun δ P P' k h => hr.mono _ _ _ (fun y z => hS _ _ _ k z) h,
   fun {B0 fps δ σ H Q} o q => hr.run o (hr.mono _ _ _ (fun xs z vs H1 s1 r1 => ⟨xs, by rw [List.append_nil]; exact r1, hS _ _ _ (fun u z u' H' fp s r n => z u' H' fp (s1.trans s) r (n.any.later s1)) z⟩) q)⟩
end
end L3
set_option Elab.async false
set_option linter.all false
set_option maxRecDepth 100000
set_option maxHeartbeats 4000000
namespace L3
open PySem L2
structure DEnds where
  nx : Dl → Prop
  rt : D → Dl → Prop
  bk : Dl → Prop
  ct : Dl → Prop
abbrev DS := DEnds → Dl → Prop
structure RtI (B0 : Hp) (Γr : List Nat) (fps : Nat → List Addr) (H : Hp) (fp : List Addr) : Prop where
  nd : fp.Nodup
  mu : ∀ a ∈ fp, Mu H a
  nw : ∀ a ∈ fp, B0 a = none
  dj : ∀ j ∈ Γr, ∀ a ∈ fp, a ∉ fps j
structure EOk (K : PySem.W.Frag) (ρ : Bool) (Γr Γl Γn : List Nat) (B0 : Hp) (Dn : Ends) (E : DEnds) : Prop where
  nx : ∀ {fps δ σ H}, Ok K B0 Γn fps δ σ H → E.nx δ → Dn.nx σ H
  bk : ∀ {fps δ σ H}, Ok K B0 Γl fps δ σ H → E.bk δ → Dn.bk σ H
  ct : ∀ {fps δ σ H}, Ok K B0 Γl fps δ σ H → E.ct δ → Dn.ct σ H
  rt : ∀ {fps δ σ H x v fp}, Ok K B0 Γr fps δ σ H → Rf K H x v fp → (ρ = true → RtI B0 Γr fps H fp) → E.rt x δ → Dn.rt v H
def ST (K : PySem.W.Frag) (ρ : Bool) (Γr Γl : List Nat) (t : TS) (Γ Γn : List Nat) (d : DS) : Prop :=
  ∀ ⦃B0 : Hp⦄ ⦃Dn : Ends⦄ ⦃E : DEnds⦄ ⦃fps : Nat → List Addr⦄ ⦃δ : Dl⦄ ⦃σ : St⦄ ⦃H : Hp⦄, EOk K ρ Γr Γl Γn B0 Dn E → Ok K B0 Γ fps δ σ H → d E δ → t Dn σ H
section
variable {K : PySem.W.Frag} {ρ : Bool} {Γr Γl Γ Γ1 Γ2 Γn M : List Nat} {t u : TS} {te ta tb : TE} {de da db : DE} {d e : DS}
def vNext (E : DEnds) (δ : Dl) : Prop := E.nx δ
def vSeq (d e : DS) (E : DEnds) (δ : Dl) : Prop := d { E with nx := e E } δ
theorem st_next : ST K ρ Γr Γl tNext Γ Γ vNext := fun _ _ _ _ _ _ _ k o h => k.nx o h
theorem st_seq (h1 : ST K ρ Γr Γl t Γ Γ1 d) (h2 : ST K ρ Γr Γl u Γ1 Γ2 e) : ST K ρ Γr Γl (tSeq t u) Γ Γ2 (vSeq d e) :=
  fun {B0 Dn E fps δ σ H} k o h => h1 (Dn := { Dn with nx := u Dn }) (E := { E with nx := e E }) ⟨fun o h => h2 k o h, k.bk, k.ct, k.rt⟩ o h
theorem ST.post (h : ST K ρ Γr Γl t Γ Γ1 d) (s : ∀ i ∈ Γn, i ∈ Γ1 := by decide) : ST K ρ Γr Γl t Γ Γn d := fun _ _ _ _ _ _ _ k o q => h ⟨fun o h => k.nx (o.sub s) h, k.bk, k.ct, k.rt⟩ o q
def vSetM (M : List Nat) (i : Nat) (de : DE) (E : DEnds) (δ : Dl) : Prop := de δ fun x => E.nx ((kill M δ).set i (some x))
theorem st_setM (i : Nat) (he : EM K Γ M te de) (hM : ∀ j ∈ M, j ∈ Γ := by decide) : ST K ρ Γr Γl (tAsg te (gName i)) Γ (i :: minus (minus Γ M) [i]) (vSetM M i de) :=
  fun _ _ _ _ _ _ _ k o h => he.run o (he.mono _ _ _ (fun x z v H' fp s r n => k.nx (o.setMv i hM s r n) z) h)
def vSet (i : Nat) (de : DE) (E : DEnds) (δ : Dl) : Prop := de δ fun x => E.nx (δ.set i (some x))
theorem st_setS (i : Nat) (he : ES K Γ te de) : ST K ρ Γr Γl (tAsg te (gName i)) Γ (minus Γ [i]) (vSet i de) :=
  fun _ _ _ _ _ _ _ k o h => he.run o (he.mono _ _ _ (fun x z v H' fp s r n => k.nx (o.setSh i s r n) z) h)
def vDrop (de : DE) (E : DEnds) (δ : Dl) : Prop := de δ fun _ => E.nx δ
def vRet (M : List Nat) (de : DE) (E : DEnds) (δ : Dl) : Prop := de δ fun x => E.rt x (kill M δ)
theorem st_ret (he : EM K Γ M te de) (hM : ∀ j ∈ M, j ∈ Γ := by decide) (hr : ∀ j ∈ Γr, j ∈ Γ ∧ j ∉ M := by decide) : ST K ρ Γr Γl (tRet te) Γ Γn (vRet M de) :=
  fun {B0 Dn E fps δ σ H} k o h => he.run o (he.mono _ _ _ (fun x z v H' fp s r n => by
    have ok := ((o.kill M).same s).sub (Γ' := Γr) fun i hi => mem_minus.mpr (hr i hi)
    refine k.rt ok r (fun _ => ⟨n.nd, n.mu, fun a ha => ?_, fun j hj a ha => ?_⟩) z
    · rcases n.src a ha with e | ⟨i, hi, e⟩
      · exact o.b0.free e
      · exact ((o.own i (hM i hi)).2 a e).1
    · show a ∉ if j ∈ M then [] else fps j
      rw [if_neg (hr j hj).2]
      intro z
      rcases n.src a ha with e | ⟨i, hi, e⟩
      · exact o.dom z e
      · exact o.dj i (hM i hi) j (fun y => (hr j hj).2 (by rw [y]; exact hi)) a e z) h)
def vRetN (E : DEnds) (δ : Dl) : Prop := E.rt .non δ
theorem st_retN (hr : ∀ j ∈ Γr, j ∈ Γ := by decide) : ST K ρ Γr Γl tRetN Γ Γn vRetN :=
  fun {B0 Dn E fps δ σ H} k o h => k.rt (o.sub hr) (Rf.ofScal (d := .non) rfl) (fun _ => ⟨List.nodup_nil, fun _ h => (nomatch h), fun _ h => (nomatch h), fun _ _ _ h => (nomatch h)⟩) h
def vIfS (c : DT) (d e : DS) (E : DEnds) (δ : Dl) : Prop := c δ fun b => if b = true then d E δ else e E δ
theorem st_if {c : TT} {dc : DT} (hc : TR K Γ c dc) (h1 : ST K ρ Γr Γl t Γ Γn d) (h2 : ST K ρ Γr Γl u Γ Γn e) : ST K ρ Γr Γl (tIfS c t u) Γ Γn (vIfS dc d e) :=
  fun _ _ _ _ _ _ _ k o h => hc.run o (hc.mono _ _ _ (fun b z H' s => ite_imp (fun z => h1 k (o.same s) z) (fun z => h2 k (o.same s) z) z) h)
structure GT (K : PySem.W.Frag) (Γ : List Nat) (g : TG) (dg : D → Dl → (Dl → Prop) → Prop) : Prop where
  mono : ∀ x δ (P P' : Dl → Prop), (∀ z, P z → P' z) → dg x δ P → dg x δ P'
  run : ∀ {B0 fps δ σ H x v fp Q}, Ok K B0 Γ fps δ σ H → Rf K H x v fp → (∀ j ∈ Γ, ∀ a ∈ fp, a ∉ fps j) → dg x δ (fun δ' => ∀ fps' σ', Ok K B0 Γ fps' δ' σ' H → (∀ j ∈ Γ, fps' j = fps j) → Q σ' H) → g v σ H Q
structure GTs (K : PySem.W.Frag) (Γ : List Nat) (g : TGs) (dg : List D → Dl → (Dl → Prop) → Prop) : Prop where
  mono : ∀ x δ (P P' : Dl → Prop), (∀ z, P z → P' z) → dg x δ P → dg x δ P'
  run : ∀ {B0 fps δ σ H x v fp Q}, Ok K B0 Γ fps δ σ H → Rfs K H x v fp → (∀ j ∈ Γ, ∀ a ∈ fp, a ∉ fps j) → dg x δ (fun δ' => ∀ fps' σ', Ok K B0 Γ fps' δ' σ' H → (∀ j ∈ Γ, fps' j = fps j) → Q σ' H) → g v σ H Q
def vgName (i : Nat) (x : D) (δ : Dl) (P : Dl → Prop) : Prop := P (δ.set i (some x))
theorem gt_name (i : Nat) (h : i ∉ Γ := by decide) : GT K Γ (gName i) (vgName i) := ⟨fun _ _ _ _ k h => k _ h, fun {B0 fps δ σ H x v fp Q} o r n q => by
  have ok := (o.setSh i (Same.refl H) r n).sub (Γ' := Γ) fun j hj => mem_minus.mpr ⟨hj, fun z => h (by rw [← List.mem_singleton.mp z]; exact hj)⟩
  exact q _ _ ok fun j hj => by rw [if_neg (fun z => h (by rw [← z]; exact hj))]⟩
def vgNil (xs : List D) (δ : Dl) (P : Dl → Prop) : Prop := match xs with | [] => P δ | _ => False
def vgCons (dg : D → Dl → (Dl → Prop) → Prop) (dr : List D → Dl → (Dl → Prop) → Prop) (xs : List D) (δ : Dl) (P : Dl → Prop) : Prop := match xs with | x :: r => dg x δ fun δ' => dr r δ' P | [] => False
theorem gts_nil : GTs K Γ gNil vgNil := ⟨fun x _ _ _ k h => by cases x with | nil => exact k _ h | cons _ _ => exact h, fun {B0 fps δ σ H x v fp Q} o r n q => by
  cases x with
  | nil => obtain ⟨rfl, _⟩ := r; exact ⟨rfl, q _ _ o fun _ _ => rfl⟩
  | cons _ _ => exact q.elim⟩
theorem gts_cons {g : TG} {gs : TGs} {dg : D → Dl → (Dl → Prop) → Prop} {dr : List D → Dl → (Dl → Prop) → Prop} (h1 : GT K Γ g dg) (h2 : GTs K Γ gs dr) : GTs K Γ (gCons g gs) (vgCons dg dr) :=
  ⟨fun x _ _ _ k h => by
    cases x with
    | nil => exact h
    | cons x r => exact h1.mono _ _ _ _ (fun z h => h2.mono _ _ _ _ k h) h,
   fun {B0 fps δ σ H x v fp Q} o r n q => by
    cases x with
    | nil => exact q.elim
    | cons x xs =>
      obtain ⟨y, ys, f1, f2, rfl, rfl, r1, r2⟩ := r
      refine ⟨y, ys, rfl, h1.run o r1 (fun j hj a ha => n j hj a (List.mem_append_left _ ha)) (h1.mono _ _ _ _ (fun δ' z fps' σ' o' e => ?_) q)⟩
      exact h2.run o' r2 (fun j hj a ha => by rw [e j hj]; exact n j hj a (List.mem_append_right _ ha)) (h2.mono _ _ _ _ (fun δ2 z fps2 σ2 o2 e2 => z fps2 σ2 o2 fun j hj => (e2 j hj).trans (e j hj)) z)⟩
def vgTup (n : Nat) (dg : List D → Dl → (Dl → Prop) → Prop) (x : D) (δ : Dl) (P : Dl → Prop) : Prop := match x with | .tup ds => ds.length = n ∧ dg ds δ P | _ => False
theorem gt_tup {n : Nat} {g : TGs} {dg : List D → Dl → (Dl → Prop) → Prop} (h : GTs K Γ g dg) : GT K Γ (gTup K n g) (vgTup n dg) :=
  ⟨fun x δ P P' k h' => by unfold vgTup at h' ⊢; revert h'; split <;> first | exact fun h' => ⟨h'.1, h.mono _ _ _ _ k h'.2⟩ | exact id,
   fun {B0 fps δ σ H x v fp Q} o r nn q => by
    unfold vgTup at q
    split at q
    · obtain ⟨a, xs, e1, e2, r⟩ := r
      exact ⟨a, xs, e1, .inl (.inl e2), r.length.trans q.1, h.run o r nn q.2⟩
    · exact q.elim⟩
def vAsg (de : DE) (dg : D → Dl → (Dl → Prop) → Prop) (E : DEnds) (δ : Dl) : Prop := de δ fun x => dg x δ E.nx
theorem st_asgS {g : TG} {dg : D → Dl → (Dl → Prop) → Prop} (he : ES K Γ te de) (hg : GT K Γ g dg) : ST K ρ Γr Γl (tAsg te g) Γ Γ (vAsg de dg) :=
  fun _ _ _ _ _ _ _ k o h => he.run o (he.mono _ _ _ (fun x z v H' fp s r n => hg.run (o.same s) r n (hg.mono _ _ _ _ (fun δ' z fps' σ' o' _ => k.nx o' z) z)) h)
structure ItOk (K : PySem.W.Frag) (J : It) (B : Hp) (ds : List D) : Prop where
  go : ∀ {i H}, Same B H → i < ds.length → J.go i H
  yld : ∀ {i H x H' d}, Same B H → J.yld i H x H' → ds[i]? = some d → Same H H' ∧ ∃ fp, Rf K H' d x fp ∧ ∀ a ∈ fp, B a ≠ none
  stop : ∀ {i H}, Same B H → ds.length ≤ i → J.stop i H
abbrev DI := Dl → (List D → Prop) → Prop
structure IT (K : PySem.W.Frag) (Γ : List Nat) (wi : TI) (di : DI) : Prop where
  mono : ∀ δ (P P' : List D → Prop), (∀ x, P x → P' x) → di δ P → di δ P'
  run : ∀ {B0 fps δ σ H R}, Ok K B0 Γ fps δ σ H → di δ (fun ds => ∀ (J : It) (H' : Hp) (fq : List Addr), Same H H' → (∀ j ∈ Γ, ∀ a ∈ fq, a ∉ fps j) →
    (∀ B, Same B H' → (∀ a ∈ fq, B a = H' a) → (∀ a o, H' a = some o → Im o → B a = some o) → ItOk K J B ds) → R J H') → wi σ H R
def asL (x : D) (P : List D → Prop) : Prop := match x.items with | some ds => P ds | none => False
theorem asL_out {x : D} {P : List D → Prop} (h : asL x P) : ∃ ds, x.items = some ds ∧ P ds := by
  unfold asL at h; split at h
  · exact ⟨_, by assumption, h⟩
  · exact h.elim
theorem asL_in {x : D} {ds : List D} {P : List D → Prop} (e : x.items = some ds) (h : P ds) : asL x P := by unfold asL; rw [e]; exact h
def vItL (de : DE) (δ : Dl) (P : List D → Prop) : Prop := de δ fun x => asL x P
theorem it_list (he : ES K Γ te de) : IT K Γ (iList K te) (vItL de) :=
  ⟨fun δ P P' k h => he.mono _ _ _ (fun x z => by obtain ⟨ds, e, z⟩ := asL_out z; exact asL_in e (k _ z)) h,
   fun {B0 fps δ σ H R} o h => he.run o (he.mono _ _ _ (fun x z v H' fp s r n => by
    obtain ⟨ds, ex, z⟩ := asL_out z
    obtain ⟨a, xs, fq, rfl, hs, hr, hin⟩ := r.seq ex
    refine ⟨a, rfl, ⟨xs, hs⟩, z (Itl K a) H' fp s n fun B sB ag im => ?_⟩
    have rB : Rf K B x (.ref a) fp := r.mono (fun b hb u e => by rw [ag b hb]; exact e) im
    obtain ⟨a', xs', fq', e1, hs', hr', hin'⟩ := rB.seq ex
    cases e1
    have sq : ∀ {H2 : Hp}, Same B H2 → SqL K H2 a xs' := fun s2 => by
      rcases hs' with (h | ⟨o', h⟩) | h
      · exact .inl (.inl (s2 _ _ h))
      · exact .inl (.inr ⟨o', s2 _ _ h⟩)
      · exact .inr h
    have hl := hr'.length
    refine ⟨fun {i H2} s2 hi => ⟨xs', xs'[i]'(by omega), sq s2, by simp [hl, hi]⟩, fun {i H2 y H3 d} s2 hy hd => ?_, fun {i H2} s2 hi => ⟨xs', sq s2, by omega⟩⟩
    obtain ⟨rfl, hy⟩ := hy
    have e2 := hy xs' (sq s2)
    obtain ⟨d', f, e3, r3, k3⟩ := hr'.get' e2
    rw [hd] at e3; cases e3
    exact ⟨Same.refl _, f, r3.same s2, fun b hb => by
      obtain ⟨u, hu, _⟩ := r3.dom b hb
      rw [hu]; intro z; cases z⟩) h)⟩
def asI (xs : List D) (P : Int → Prop) : Prop := match xs with | [.int j] => P j | _ => False
def asII (xs : List D) (P : Int → Int → Prop) : Prop := match xs with | [.int i, .int j] => P i j | _ => False
theorem asI_out {xs : List D} {P : Int → Prop} (h : asI xs P) : ∃ j, xs = [.int j] ∧ P j := by
  unfold asI at h; split at h
  · exact ⟨_, rfl, h⟩
  · exact h.elim
def intsD (lo : Int) (n : Nat) : List D := (List.range n).map fun (k : Nat) => .int (lo + (k : Int))
theorem itr_ok {lo : Int} {n : Nat} {B : Hp} : ItOk K (Itr lo n) B (intsD lo n) := ⟨fun {i H2} s2 hi => by unfold Itr; simpa [intsD] using hi, fun {i H2 y H3 d} s2 hy hd => by
  obtain ⟨rfl, rfl⟩ := hy
  unfold intsD at hd
  rw [List.getElem?_map] at hd
  cases e : (List.range n)[i]? with
  | none => rw [e] at hd; cases hd
  | some k =>
    rw [e] at hd
    obtain ⟨h1, h2⟩ := List.getElem?_eq_some_iff.mp e
    rw [List.getElem_range] at h2
    subst h2
    cases hd
    exact ⟨Same.refl _, [], ⟨rfl, rfl⟩, fun _ h => nomatch h⟩, fun {i H2} s2 hi => by unfold Itr; simpa [intsD] using hi⟩
def vRng1 (da : DA) (δ : Dl) (P : List D → Prop) : Prop := da δ fun xs => asI xs fun j => (-(2 ^ 62) ≤ j ∧ j < 2 ^ 62) ∧ P (intsD 0 j.toNat)
def vRng2 (da : DA) (δ : Dl) (P : List D → Prop) : Prop := da δ fun xs => asII xs fun i j => (-(2 ^ 62) ≤ i ∧ i < 2 ^ 62 ∧ -(2 ^ 62) ≤ j ∧ j < 2 ^ 62) ∧ P (intsD i (j - i).toNat)
theorem Rps.ints1 {H : Hp} {j : Int} {vs : List V} (h : Rps K H [.int j] vs) : vs = [.int j] := by
  obtain ⟨fp, x, r, f1, f2, rfl, _, ⟨rfl, _⟩, ⟨rfl, _⟩⟩ := h; rfl
theorem it_rng1 {u : TA} {da : DA} (ha : AR K Γ u da) : IT K Γ (iRng1 u) (vRng1 da) :=
  ⟨fun δ P P' k h => ha.mono _ _ _ (fun x z => by obtain ⟨j, rfl, z⟩ := asI_out z; exact ⟨z.1, k _ z.2⟩) h,
   fun {B0 fps δ σ H R} o h => ha.run o (ha.mono _ _ _ (fun xs z vs H' s r => by
    obtain ⟨j, rfl, z⟩ := asI_out z
    exact ⟨j, r.ints1, z.1.1, z.1.2, z.2 _ H' [] s (fun _ _ _ h => (nomatch h)) fun B _ _ _ => itr_ok⟩) h)⟩
def vLoop (dg : D → Dl → (Dl → Prop) → Prop) (db : DS) (E : DEnds) : List D → Dl → Prop
  | [], δ => E.nx δ
  | x :: xs, δ => dg x δ fun δ' => db { nx := vLoop dg db E xs, ct := vLoop dg db E xs, bk := E.nx, rt := E.rt } δ'
def vFor (di : DI) (dg : D → Dl → (Dl → Prop) → Prop) (db : DS) (E : DEnds) (δ : Dl) : Prop := di δ fun ds => vLoop dg db E ds δ
theorem RtI.base {B1 B0 : Hp} {fps : Nat → List Addr} {H : Hp} {fp : List Addr} (r : RtI B1 Γr fps H fp) (s : Same B0 B1) : RtI B0 Γr fps H fp := ⟨r.nd, r.mu, fun a ha => s.free (r.nw a ha), r.dj⟩
theorem st_for {wi : TI} {di : DI} {g : TG} {dg : D → Dl → (Dl → Prop) → Prop} {tb : TS} {db : DS} (hi : IT K Γ wi di) (hg : GT K Γ g dg) (hb : ST K ρ Γr Γ tb Γ Γ db) : ST K ρ Γr Γl (tFor wi g tb) Γ Γ (vFor di dg db) := by
  intro B0 Dn E fps δ σ H k o h
  refine hi.run o (hi.mono _ _ _ (fun ds z J H1 fq s1 n1 hit => ?_) h)
  obtain ⟨B1, sB, o1, ag⟩ := (o.same s1).rebase
  have hJ : ItOk K J B1 ds := hit B1 o1.b0 (fun a ha => ag a fun j hj => n1 j hj a ha) fun a u e im => by
    rw [ag a fun j hj ha => ((o1.own j hj).2 a ha).2.notup u e im]; exact e
  refine ⟨fun i m σ H => m = ds.length - i ∧ i ≤ ds.length ∧ ∃ fps δ, Ok K B1 Γ fps δ σ H ∧ vLoop dg db E (ds.drop i) δ, ⟨ds.length, by omega, Nat.zero_le _, fps, δ, o1, by rw [List.drop_zero]; exact z⟩, ?_⟩
  rintro i m σ2 H2 ⟨rfl, hi2, fps2, δ2, o2, z2⟩
  by_cases hlt : i < ds.length
  · refine .inr ⟨hJ.go o2.b0 hlt, _, fun σ' H' q => q, fun x H3 hy => ?_⟩
    obtain ⟨s3, fp, r3, n3⟩ := hJ.yld o2.b0 hy (List.getElem?_eq_getElem hlt)
    rw [List.drop_eq_getElem_cons hlt] at z2
    refine hg.run (o2.same s3) r3 (fun j hj a ha hz => n3 a ha ((o2.own j hj).2 a hz).1) (hg.mono _ _ _ _ (fun δ' z' fps' σ' o' e' => ?_) z2)
    refine hb (E := { nx := vLoop dg db E (ds.drop (i + 1)), ct := vLoop dg db E (ds.drop (i + 1)), bk := E.nx, rt := E.rt }) ⟨fun o4 z4 => ⟨ds.length - (i + 1), by omega, rfl, hlt, _, _, o4, z4⟩, fun o4 z4 => k.nx (o4.base sB) z4, fun o4 z4 => ⟨ds.length - (i + 1), by omega, rfl, hlt, _, _, o4, z4⟩, fun o4 r4 i4 z4 => k.rt (o4.base sB) r4 (fun y => (i4 y).base sB) z4⟩ o' z'
  · have e : i = ds.length := by omega
    subst e
    rw [List.drop_length] at z2
    exact .inl ⟨hJ.stop o2.b0 (Nat.le_refl _), k.nx (o2.base sB) z2⟩
def vEach (f : D → (List D → Prop) → Prop) : List D → List D → (List D → Prop) → Prop
  | [], acc, P => P acc
  | x :: xs, acc, P => f x fun ys => vEach f xs (acc ++ ys) P
theorem vEach_mono {f : D → (List D → Prop) → Prop} (hf : ∀ x P P', (∀ z, P z → P' z) → f x P → f x P') : ∀ xs acc (P P' : List D → Prop), (∀ z, P z → P' z) → vEach f xs acc P → vEach f xs acc P'
  | [], acc, P, P', k, h => k _ h
  | x :: xs, acc, P, P', k, h => hf x _ _ (fun z h => vEach_mono hf xs _ P P' k h) h
def cbaseD (k : Nat) (idx : List Nat) (δ : Dl) : Dl := List.replicate k none ++ idx.map fun i => (δ[i]?).getD none
theorem cb_ok {k : Nat} {idx : List Nat} {B0 : Hp} {fps : Nat → List Addr} {δ : Dl} {σ : St} {H : Hp} (o : Ok K B0 Γ fps δ σ H) : Ok K H [] (fun j => match (cbaseD k idx δ)[j]? with | some (some _) => fps (idx.getD (j - k) 0) | _ => []) (cbaseD k idx δ) (cbase k idx σ) H := by
  refine ⟨by simp [cbaseD, cbase, caps], Same.refl H, fun i d e => ?_, fun i h => ?_, fun _ h => (nomatch h), fun _ h => (nomatch h)⟩
  · rw [e]
    unfold cbaseD at e
    unfold cbase caps
    by_cases hi : i < k
    · rw [List.getElem?_append_left (by simpa using hi)] at e
      simp [hi] at e
    · rw [List.getElem?_append_right (by simpa using hi), List.length_replicate, List.getElem?_map] at e
      cases ej : idx[i - k]? with
      | none => rw [ej] at e; simp at e
      | some j =>
        rw [ej] at e
        simp only [Option.map_some, Option.some.injEq] at e
        have e' : δ[j]? = some (some d) := by
          cases q : δ[j]? with
          | none => rw [q] at e; cases e
          | some x => rw [q] at e; simp at e; rw [e]
        obtain ⟨v, h1, h2⟩ := o.val j d e'
        refine ⟨v, ?_, ?_⟩
        · rw [List.getElem?_append_right (by simpa using hi), List.length_replicate, List.getElem?_map, ej]
          simp [h1]
        · show Rf K H d v (fps (idx.getD (i - k) 0))
          rw [List.getD_eq_getElem?_getD, ej]
          exact h2
  · show (match (cbaseD k idx δ)[i]? with | some (some _) => _ | _ => _) = _
    split
    · exact absurd (by assumption) (h _)
    · rfl
def vBody (dg : D → Dl → (Dl → Prop) → Prop) (dt : DT) (de : DE) (δ : Dl) (x : D) (R : List D → Prop) : Prop := dg x δ fun δ2 => dt δ2 fun b => if b = true then de δ2 fun y => R [y] else R []
def vComp (di : DI) (dg : D → Dl → (Dl → Prop) → Prop) (dt : DT) (de : DE) (k : Nat) (idx : List Nat) (δ : Dl) (P : DK) : Prop := di δ fun ds => ds.length ≤ 1000 ∧ vEach (vBody dg dt de (cbaseD k idx δ)) ds [] fun ys => P (.lst ys)
theorem vBody_mono {Γ' : List Nat} {g : TG} {dg : D → Dl → (Dl → Prop) → Prop} {tt : TT} {dt : DT} (hg : GT K Γ' g dg) (ht : TR K Γ' tt dt) (hm : ∀ δ (P P' : DK), (∀ x, P x → P' x) → de δ P → de δ P') (δ : Dl) : ∀ x P P', (∀ z, P z → P' z) → vBody dg dt de δ x P → vBody dg dt de δ x P' :=
  fun x P P' k h => hg.mono _ _ _ _ (fun δ2 h => ht.mono _ _ _ (fun b h => ite_imp (hm _ _ _ fun y h => k _ h) (k _) h) h) h
theorem em_comp {wi : TI} {di : DI} {g : TG} {dg : D → Dl → (Dl → Prop) → Prop} {tt : TT} {dt : DT} {k : Nat} {idx : List Nat} (hi : IT K [] wi di) (hg : GT K [] g dg) (ht : TR K [] tt dt) (he : EM K [] [] te de) :
    EM K Γ [] (tComp wi g tt te k idx) (vComp di dg dt de k idx) := by
  have hm := vBody_mono hg ht he.mono
  refine ⟨fun δ P P' k h => hi.mono _ _ _ (fun ds z => ⟨z.1, vEach_mono (hm _) _ _ _ _ (fun ys h => k _ h) z.2⟩) h, fun {B0 fps δ σ H Q} o h => hi.run (o.sub (Γ' := []) fun _ h => (nomatch h)) (hi.mono _ _ _ (fun ds z J H1 fq s1 n1 hit => ?_) h)⟩
  have hJ : ItOk K J H1 ds := hit H1 (Same.refl _) (fun _ _ => rfl) fun a u e im => e
  obtain ⟨hz, z⟩ := z
  refine ⟨fun i m vs H2 => m = ds.length - i ∧ i ≤ ds.length ∧ Same H1 H2 ∧ vs.length ≤ i ∧ ∃ ys fp, Rfs K H2 ys vs fp ∧ Nw H1 H2 nf [] fp ∧ vEach (vBody dg dt de (cbaseD k idx δ)) (ds.drop i) ys fun ys => ∀ v H' fp, Same H H' → Rf K H' (.lst ys) v fp → Nw H H' fps [] fp → Q v H',
    ⟨ds.length, by omega, Nat.zero_le _, Same.refl _, Nat.zero_le _, [], [], ⟨rfl, rfl⟩, Nw.nil, by rw [List.drop_zero]; exact z⟩, ?_⟩
  rintro i m vs H2 ⟨rfl, hi2, s2, hvs, ys, fp, r2, n2, z2⟩
  by_cases hlt : i < ds.length
  · refine .inr ⟨hJ.go s2 hlt, le1000 (by omega), _, fun vs' H' q => q, fun x H3 hy => ?_⟩
    obtain ⟨s3, fx, r3, n3⟩ := hJ.yld s2 hy (List.getElem?_eq_getElem hlt)
    rw [List.drop_eq_getElem_cons hlt] at z2
    have oi := (cb_ok (k := k) (idx := idx) ((o.same s1).same (s2.trans s3)))
    refine hg.run oi r3 (fun _ h => (nomatch h)) (hg.mono _ _ _ _ (fun δ' z' fps' σ' o' e' => ?_) z2)
    refine ht.run o' (ht.mono _ _ _ (fun b z' H4 s4 => ite_imp (fun z' => he.run (o'.same s4) (he.mono _ _ _ (fun y z' v H5 f5 s5 r5 n5 => ?_) z')) (fun z' => ?_) z') z')
    · have s25 := s3.trans (s4.trans s5)
      refine ⟨ds.length - (i + 1), by omega, rfl, hlt, s2.trans s25, by simp; omega, ys ++ [y], fp ++ f5, (r2.same s25).append (Rfs.one r5), ⟨?_, fun a ha => ?_, fun a ha => ?_⟩, z'⟩
      · refine List.nodup_append.mpr ⟨n2.nd, n5.nd, fun a h1 b h2 e => ?_⟩
        subst e
        exact ((n2.mu a h1).same (s3.trans s4)).some (n5.fresh a h2)
      · rcases List.mem_append.mp ha with h | h
        · exact (n2.mu a h).same s25
        · exact n5.mu a h
      · rcases List.mem_append.mp ha with h | h
        · exact n2.src a h
        · exact .inl ((s2.trans (s3.trans s4)).free (n5.fresh a h))
    · have s24 := s3.trans s4
      dsimp only at z'
      rw [List.append_nil] at z'
      exact ⟨ds.length - (i + 1), by omega, rfl, hlt, s2.trans s24, by omega, ys, fp, r2.same s24, n2.same s24, z'⟩
  · have e : i = ds.length := by omega
    subst e
    rw [List.drop_length] at z2
    refine .inl ⟨hJ.stop s2 (Nat.le_refl _), le1000 (by omega), fun p hp => ?_⟩
    have hs : Same H2 (upd H2 p (.lst vs)) := Same.new' hp
    refine z2 _ _ (p :: fp) ((s1.trans s2).trans hs) ⟨p, vs, fp, rfl, upd_same, rfl, r2.same hs⟩ ⟨List.nodup_cons.mpr ⟨fun h => (n2.mu p h).some hp, n2.nd⟩, fun a ha => ?_, fun a ha => ?_⟩
    · rcases List.mem_cons.mp ha with e | h
      · subst e; exact .inl ⟨vs, upd_same⟩
      · exact (n2.mu a h).same hs
    · rcases List.mem_cons.mp ha with e | h
      · subst e; exact .inl ((s1.trans s2).free hp)
      · exact .inl (s1.free (n2.fresh a h))
theorem er_comp {wi : TI} {di : DI} {g : TG} {dg : D → Dl → (Dl → Prop) → Prop} {tt : TT} {dt : DT} {k : Nat} {idx : List Nat} (hi : IT K [] wi di) (hg : GT K [] g dg) (ht : TR K [] tt dt) (he : ER K [] te de) :
    ER K Γ (tComp wi g tt te k idx) (vComp di dg dt de k idx) := by
  have hm := vBody_mono hg ht he.mono
  refine ⟨fun δ P P' k h => hi.mono _ _ _ (fun ds z => ⟨z.1, vEach_mono (hm _) _ _ _ _ (fun ys h => k _ h) z.2⟩) h, fun {B0 fps δ σ H Q} o h => hi.run (o.sub (Γ' := []) fun _ h => (nomatch h)) (hi.mono _ _ _ (fun ds z J H1 fq s1 n1 hit => ?_) h)⟩
  have hJ : ItOk K J H1 ds := hit H1 (Same.refl _) (fun _ _ => rfl) fun a u e im => e
  obtain ⟨hz, z⟩ := z
  refine ⟨fun i m vs H2 => m = ds.length - i ∧ i ≤ ds.length ∧ Same H1 H2 ∧ vs.length ≤ i ∧ ∃ ys fp, Rfs K H2 ys vs fp ∧ vEach (vBody dg dt de (cbaseD k idx δ)) (ds.drop i) ys fun ys => ∀ v H', Same H H' → Rp K H' (.lst ys) v → Q v H',
    ⟨ds.length, by omega, Nat.zero_le _, Same.refl _, Nat.zero_le _, [], [], ⟨rfl, rfl⟩, by rw [List.drop_zero]; exact z⟩, ?_⟩
  rintro i m vs H2 ⟨rfl, hi2, s2, hvs, ys, fp, r2, z2⟩
  by_cases hlt : i < ds.length
  · refine .inr ⟨hJ.go s2 hlt, le1000 (by omega), _, fun vs' H' q => q, fun x H3 hy => ?_⟩
    obtain ⟨s3, fx, r3, n3⟩ := hJ.yld s2 hy (List.getElem?_eq_getElem hlt)
    rw [List.drop_eq_getElem_cons hlt] at z2
    have oi := (cb_ok (k := k) (idx := idx) ((o.same s1).same (s2.trans s3)))
    refine hg.run oi r3 (fun _ h => (nomatch h)) (hg.mono _ _ _ _ (fun δ' z' fps' σ' o' e' => ?_) z2)
    refine ht.run o' (ht.mono _ _ _ (fun b z' H4 s4 => ite_imp (fun z' => he.run (o'.same s4) (he.mono _ _ _ (fun y z' v H5 s5 r5 => ?_) z')) (fun z' => ?_) z') z')
    · have s25 := s3.trans (s4.trans s5)
      obtain ⟨f5, r5⟩ := r5
      exact ⟨ds.length - (i + 1), by omega, rfl, hlt, s2.trans s25, by simp; omega, ys ++ [y], fp ++ f5, (r2.same s25).append (Rfs.one r5), z'⟩
    · have s24 := s3.trans s4
      dsimp only at z'
      rw [List.append_nil] at z'
      exact ⟨ds.length - (i + 1), by omega, rfl, hlt, s2.trans s24, by omega, ys, fp, r2.same s24, z'⟩
  · have e : i = ds.length := by omega
    subst e
    rw [List.drop_length] at z2
    refine .inl ⟨hJ.stop s2 (Nat.le_refl _), le1000 (by omega), fun p hp => ?_⟩
    have hs : Same H2 (upd H2 p (.lst vs)) := Same.new' hp
    exact z2 _ _ ((s1.trans s2).trans hs) ⟨p :: fp, p, vs, fp, rfl, upd_same, rfl, r2.same hs⟩
def vYes (_u0 : Dl) (P : Bool → Prop) : Prop := P true
theorem tr_yes : TR K Γ tYes vYes := ⟨fun _ _ _ k h => k _ h, fun {_ _ _ _ H _} o q => q H (Same.refl H)⟩
def startD (N : List Str) (ds : List D) : Dl := ds.map some ++ List.replicate (N.length - ds.length) none
theorem Rfs.split {H : Hp} : ∀ {ds : List D} {vs : List V} {fp : List Addr}, Rfs K H ds vs fp → ∃ fps : Nat → List Addr, (∀ i d, ds[i]? = some d → ∃ v, vs[i]? = some v ∧ Rf K H d v (fps i)) ∧ ∀ i, ds.length ≤ i → fps i = []
  | [], vs, fp, h => ⟨fun _ => [], fun i d e => by simp at e, fun _ _ => rfl⟩
  | d :: ds, vs, fp, h => by
    obtain ⟨x, r, f1, f2, rfl, rfl, h1, h2⟩ := h
    obtain ⟨fps, k1, k2⟩ := Rfs.split h2
    refine ⟨fun i => match i with | 0 => f1 | j + 1 => fps j, fun i d' e => ?_, fun i hi => ?_⟩
    · cases i with
      | zero => simp at e; subst e; exact ⟨x, rfl, h1⟩
      | succ j => simpa using k1 j d' (by simpa using e)
    · cases i with
      | zero => simp at hi
      | succ j => exact k2 j (by simpa using hi)
theorem start_ok {N : List Str} {ds : List D} {vs : List V} {H : Hp} (h : Rps K H ds vs) : ∃ fps, Ok K H [] fps (startD N ds) (L2.start N vs) H := by
  obtain ⟨fp, h⟩ := h
  have hl := h.length
  obtain ⟨fps, k1, k2⟩ := h.split
  refine ⟨fps, by simp [startD, L2.start, hl], Same.refl H, fun i d e => ?_, fun i e => ?_, fun _ h => (nomatch h), fun _ h => (nomatch h)⟩
  · unfold startD at e
    unfold L2.start
    by_cases hi : i < ds.length
    · rw [List.getElem?_append_left (by simpa using hi), List.getElem?_map, List.getElem?_eq_getElem hi] at e
      simp at e
      obtain ⟨v, h1, h2⟩ := k1 i d (by rw [List.getElem?_eq_getElem hi, e])
      exact ⟨v, by rw [List.getElem?_append_left (by simpa [hl] using hi), List.getElem?_map, h1]; rfl, h2⟩
    · rw [List.getElem?_append_right (by simpa using hi), List.getElem?_replicate] at e
      split at e <;> cases e
  · by_cases hi : i < ds.length
    · refine absurd ?_ (e ds[i])
      unfold startD
      rw [List.getElem?_append_left (by simpa using hi), List.getElem?_map, List.getElem?_eq_getElem hi]
      rfl
    · exact k2 i (by omega)
abbrev endsD (P : DK) : DEnds := ⟨fun _ => P .non, fun x _ => P x, fun _ => False, fun _ => False⟩
theorem fn_val {N : List Str} {S : DSp} (hs : ST K true [] [] t [] Γn d) (hd : ∀ ds P, S ds P → d (endsD P) (startD N ds)) :
    ∀ {vs H Q E}, spP K S vs H Q E → t { nx := fun _ H' => Q .non H', rt := Q } (L2.start N vs) H := by
  rintro vs H Q E ⟨ds, r, h⟩
  obtain ⟨fps, o⟩ := start_ok (N := N) r
  refine hs (E := endsD _) ⟨fun {fps δ σ H'} o z => ?_, fun o (z : False) => z.elim, fun o (z : False) => z.elim, fun o r i z => ?_⟩ o (hd ds _ h)
  · exact z _ H' [] o.b0 ⟨rfl, rfl⟩ Nw.nil
  · exact z _ _ _ o.b0 r ⟨(i rfl).nd, (i rfl).mu, fun a ha => .inl ((i rfl).nw a ha)⟩
end
end L3
set_option Elab.async false
set_option linter.all false
set_option maxRecDepth 100000
set_option maxHeartbeats 4000000
namespace L3
open PySem L2
section
variable {K : PySem.W.Frag} {ρ : Bool} {Γr Γl Γ Γ1 Γ2 Γn M : List Nat} {t u : TS} {te ta tb tx t1 t2 : TE} {de da db dx d1 d2 : DE} {d e : DS}
variable {B0 : Hp} {fps : Nat → List Addr} {δ : Dl} {σ : St} {H H' : Hp}
theorem Ok.write (o : Ok K B0 Γ fps δ σ H) {i : Nat} (hi : i ∈ Γ) {d' : D} {v : V} {fp' : List Addr} (hv : σ[i]? = some (some v)) (r : Rf K H' d' v fp') (nd : fp'.Nodup) (mu : ∀ a ∈ fp', Mu H' a)
    (src : ∀ a ∈ fp', a ∈ fps i ∨ (B0 a = none ∧ ∀ j, a ∉ fps j)) (keep : ∀ b u, b ∉ fps i → H b = some u → H' b = some u) :
    Ok K B0 Γ (fun j => if j = i then fp' else fps j) (δ.set i (some d')) σ H' := by
  have hlt : i < δ.length := by rw [← o.len]; exact (List.getElem?_eq_some_iff.mp hv).1
  refine ⟨by simp [o.len], fun b u e => ?_, fun j d e => ?_, fun j h => ?_, fun j hj => ?_, fun j hj k hk a ha => ?_⟩
  · refine keep b u (fun z => ?_) (o.b0 b u e)
    have := ((o.own i hi).2 b z).1
    rw [e] at this; cases this
  · by_cases h : j = i
    · subst h
      rw [List.getElem?_set] at e
      simp [hlt] at e
      subst e
      exact ⟨v, hv, by rw [if_pos rfl]; exact r⟩
    · rw [List.getElem?_set_ne (Ne.symm h)] at e
      obtain ⟨w, h1, h2⟩ := o.val j d e
      refine ⟨w, h1, ?_⟩
      rw [if_neg h]
      exact h2.mono (fun a ha u e => keep a u (fun z => o.dj i hi j h a z ha) e) fun a u e im => keep a u (fun z => ((o.own i hi).2 a z).2.notup u e im) e
  · by_cases h' : j = i
    · subst h'
      exact absurd (by rw [List.getElem?_set]; simp [hlt]) (h d')
    · rw [if_neg h']
      exact o.non j fun d z => h d (by rw [List.getElem?_set_ne (Ne.symm h')]; exact z)
  · by_cases h : j = i
    · subst h
      rw [if_pos rfl]
      refine ⟨nd, fun a ha => ⟨?_, mu a ha⟩⟩
      rcases src a ha with z | z
      · exact ((o.own j hi).2 a z).1
      · exact z.1
    · rw [if_neg h]
      refine ⟨(o.own j hj).1, fun a ha => ⟨((o.own j hj).2 a ha).1, ?_⟩⟩
      have hn : a ∉ fps i := fun z => o.dj i hi j h a z ha
      rcases ((o.own j hj).2 a ha).2 with ⟨x, z⟩ | ⟨x, z⟩ | ⟨x, z⟩ | ⟨C, dx, fs, z⟩
      · exact .inl ⟨x, keep a _ hn z⟩
      · exact .inr (.inl ⟨x, keep a _ hn z⟩)
      · exact .inr (.inr (.inl ⟨x, keep a _ hn z⟩))
      · exact .inr (.inr (.inr ⟨C, dx, fs, keep a _ hn z⟩))
  · by_cases h : j = i
    · subst h
      rw [if_pos rfl] at ha
      rw [if_neg hk]
      rcases src a ha with z | z
      · exact o.dj j hi k hk a z
      · exact z.2 k
    · rw [if_neg h] at ha
      by_cases hki : k = i
      · rw [if_pos hki]
        intro z
        rcases src a z with y | y
        · exact o.dj j hj i (Ne.symm h) a ha y
        · exact y.2 j ha
      · rw [if_neg hki]
        exact o.dj j hj k hk a ha
def slotL (δ : Dl) (i : Nat) (P : List D → Prop) : Prop := match δ[i]? with | some (some (.lst ds)) => P ds | _ => False
theorem slotL_out {δ : Dl} {i : Nat} {P : List D → Prop} (h : slotL δ i P) : ∃ ds, δ[i]? = some (some (.lst ds)) ∧ P ds := by
  unfold slotL at h; split at h
  · exact ⟨_, by assumption, h⟩
  · exact h.elim
theorem Ok.ownL (o : Ok K B0 Γ fps δ σ H) {i : Nat} {ds : List D} (e : δ[i]? = some (some (.lst ds))) : ∃ a xs fq, σ[i]? = some (some (.ref a)) ∧ H a = some (.lst xs) ∧ fps i = a :: fq ∧ Rfs K H ds xs fq := by
  obtain ⟨v, h1, a, xs, fq, rfl, h2, h3, h4⟩ := o.val i _ e
  exact ⟨a, xs, fq, h1, h2, h3, h4⟩
theorem updKeep {a : Addr} {w : HO} {fp : List Addr} (ha : a ∈ fp) : ∀ b u, b ∉ fp → H b = some u → upd H a w b = some u := fun b u hb e => by
  rw [upd_ne (fun z => hb (by rw [z]; exact ha))]; exact e
def vAppend (M : List Nat) (i : Nat) (de : DE) (E : DEnds) (δ : Dl) : Prop := slotL δ i fun ds => de δ fun x => ds.length < 1000 ∧ E.nx ((kill M δ).set i (some (.lst (ds ++ [x]))))
theorem Rfs.set {H : Hp} {x : D} {v : V} {fp : List Addr} (r : Rf K H x v fp) (nd : fp.Nodup) : ∀ {ds : List D} {xs : List V} {fq : List Addr} {j : Nat}, Rfs K H ds xs fq → fq.Nodup → (∀ a ∈ fp, a ∉ fq) → j < ds.length →
    ∃ fq', Rfs K H (ds.set j x) (xs.set j v) fq' ∧ fq'.Nodup ∧ ∀ a ∈ fq', a ∈ fq ∨ a ∈ fp
  | [], xs, fq, j, h, _, _, hj => by simp at hj
  | d :: ds, xs, fq, j, h, hn, hd, hj => by
    obtain ⟨y, ys, f1, f2, rfl, rfl, h1, h2⟩ := h
    obtain ⟨n1, n2, n3⟩ := List.nodup_append.mp hn
    cases j with
    | zero =>
      refine ⟨fp ++ f2, ⟨v, ys, fp, f2, rfl, rfl, r, h2⟩, List.nodup_append.mpr ⟨nd, n2, fun a ha b hb z => ?_⟩, fun a ha => ?_⟩
      · subst z; exact hd a ha (List.mem_append_right _ hb)
      · exact (List.mem_append.mp ha).elim .inr fun z => .inl (List.mem_append_right _ z)
    | succ j =>
      obtain ⟨fq', r', nd', k'⟩ := Rfs.set r nd (j := j) h2 n2 (fun a ha z => hd a ha (List.mem_append_right _ z)) (by simpa using hj)
      refine ⟨f1 ++ fq', ⟨y, ys.set j v, f1, fq', rfl, rfl, h1, r'⟩, List.nodup_append.mpr ⟨n1, nd', fun a ha b hb z => ?_⟩, fun a ha => ?_⟩
      · subst z
        rcases k' a hb with w | w
        · exact n3 a ha a w rfl
        · exact hd a w (List.mem_append_left _ ha)
      · rcases List.mem_append.mp ha with w | w
        · exact .inl (List.mem_append_left _ w)
        · exact (k' a w).imp (List.mem_append_right _) id
def vSetItem (i : Nat) (de dx : DE) (E : DEnds) (δ : Dl) : Prop := de δ fun x => slotL δ i fun ds => dx δ fun k => asI [k] fun n => match ixN ds.length n with | some j => E.nx (δ.set i (some (.lst (ds.set j x)))) | none => False
theorem ixN_lt {n : Nat} {i : Int} {j : Nat} (h : ixN n i = some j) : j < n := by
  unfold ixN at h
  split at h
  · split at h
    · cases h; omega
    · cases h
  · split at h
    · cases h; omega
    · cases h
theorem setItem_ok (o : Ok K B0 Γ fps δ σ H) {i j : Nat} (hi : i ∈ Γ) {ds : List D} {x : D} {v : V} {fp : List Addr} (e : δ[i]? = some (some (.lst ds))) (r : Rf K H x v fp) (nd : fp.Nodup) (mu : ∀ a ∈ fp, Mu H a) (src : ∀ a ∈ fp, B0 a = none ∧ ∀ j, a ∉ fps j) (hj : j < ds.length) :
    ∃ a xs, σ[i]? = some (some (.ref a)) ∧ H a = some (.lst xs) ∧ xs.length = ds.length ∧ ∃ fps', Ok K B0 Γ fps' (δ.set i (some (.lst (ds.set j x)))) σ (upd H a (.lst (xs.set j v))) := by
  obtain ⟨a, xs, fq, h1, h2, h3, h4⟩ := o.ownL e
  have hown := o.own i hi
  rw [h3] at hown
  obtain ⟨nd0, hmu⟩ := hown
  obtain ⟨na, ndq⟩ := List.nodup_cons.mp nd0
  have nt := (hmu a List.mem_cons_self).2.notup
  have hfq : ∀ b ∈ fp, b ∉ fps i := fun b hb => (src b hb).2 i
  rw [h3] at hfq
  obtain ⟨fq', r', nd', k'⟩ := Rfs.set r nd h4 ndq (fun b hb z => hfq b hb (List.mem_cons_of_mem _ z)) hj
  have naq : a ∉ fq' := fun z => (k' a z).elim na fun w => hfq a w List.mem_cons_self
  refine ⟨a, xs, h1, h2, h4.length, _, o.write hi (fp' := a :: fq') h1 ⟨a, xs.set j v, fq', rfl, upd_same, rfl, r'.upd naq nt⟩ (List.nodup_cons.mpr ⟨naq, nd'⟩) (fun b hb => Mu.upd ?_ (.inl ⟨_, rfl⟩)) (fun b hb => ?_) ?_⟩
  · rcases List.mem_cons.mp hb with w | w
    · subst w; exact .inl ⟨xs, h2⟩
    · rcases k' b w with w | w
      · exact (hmu b (List.mem_cons_of_mem _ w)).2
      · exact mu b w
  · rw [h3]
    rcases List.mem_cons.mp hb with w | w
    · subst w; exact .inl List.mem_cons_self
    · rcases k' b w with w | w
      · exact .inl (List.mem_cons_of_mem _ w)
      · exact .inr (src b w)
  · rw [h3]; exact updKeep List.mem_cons_self
theorem asI1_out {x : D} {P : Int → Prop} (h : asI [x] P) : ∃ j, x = .int j ∧ P j := by
  obtain ⟨j, e, h⟩ := asI_out h; cases e; exact ⟨j, rfl, h⟩
theorem st_setItem (i : Nat) (he : EM K Γ [] te de) (hx : ER K Γ tx dx) (hi : i ∈ Γ := by decide) : ST K ρ Γr Γl (tAsg te (gSub (tVar i) tx rSetL)) Γ Γ (vSetItem i de dx) := by
  intro B0 Dn E fps δ σ H k o h
  refine he.run o (he.mono _ _ _ (fun x z v H1 fp s r n => ?_) h)
  obtain ⟨ds, e, z⟩ := slotL_out z
  obtain ⟨a0, _, _, h1, _⟩ := (o.same s).ownL e
  refine ⟨.ref a0, h1, hx.run (o.same s) (hx.mono _ _ _ (fun y z w H2 s2 r2 => ?_) z)⟩
  obtain ⟨m, em, z9⟩ := asI1_out z
  subst em
  cases ej : ixN ds.length m with
  | none => rw [ej] at z9; exact z9.elim
  | some j =>
    rw [ej] at z9
    obtain ⟨a, xs, e1, e2, e3, fps', o'⟩ := setItem_ok ((o.same s).same s2) hi e (r.same s2) n.nd (fun a ha => (n.mu a ha).same s2) (fun a ha => ⟨o.b0.free (n.fresh a ha), fun j z => o.dom z (n.fresh a ha)⟩) (ixN_lt ej)
    rw [h1] at e1; cases e1
    exact ⟨a0, xs, m, j, rfl, r2.int, e2, by rw [e3]; exact ej, k.nx o' z9⟩
theorem Rfs.inner {H : Hp} : ∀ {ds : List D} {xs : List V} {fq : List Addr} {j : Nat} {es : List D}, Rfs K H ds xs fq → fq.Nodup → ds[j]? = some (.lst es) →
    ∃ b ys fe, xs[j]? = some (.ref b) ∧ H b = some (.lst ys) ∧ Rfs K H es ys fe ∧ b ∈ fq ∧ (∀ a ∈ fe, a ∈ fq) ∧ b ∉ fe ∧ fe.Nodup ∧
      ∀ {H' : Hp} {es' : List D} {ys' : List V} {fe' : List Addr}, (∀ c u, c ≠ b → H c = some u → H' c = some u) → H' b = some (.lst ys') → (∀ u, H b = some u → ¬ Im u) → Rfs K H' es' ys' fe' → fe'.Nodup → b ∉ fe' → (∀ a ∈ fe', a ∈ fe ∨ a ∉ fq) →
        ∃ fq', Rfs K H' (ds.set j (.lst es')) xs fq' ∧ fq'.Nodup ∧ ∀ a ∈ fq', a ∈ fq ∨ a ∈ fe'
  | [], xs, fq, j, es, h, _, e => by simp at e
  | d :: ds, xs, fq, j, es, h, hn, e => by
    obtain ⟨y, ys, f1, f2, rfl, rfl, h1, h2⟩ := h
    obtain ⟨n1, n2, n3⟩ := List.nodup_append.mp hn
    cases j with
    | zero =>
      simp at e; subst e
      obtain ⟨b, zs, fe, rfl, hb, rfl, h3⟩ := h1
      obtain ⟨m1, m2⟩ := List.nodup_cons.mp n1
      refine ⟨b, zs, fe, rfl, hb, h3, List.mem_append_left _ List.mem_cons_self, fun a ha => List.mem_append_left _ (List.mem_cons_of_mem _ ha), m1, m2, fun {H' es' ys' fe'} k1 k2 k3 k4 k5 k6 k7 => ?_⟩
      refine ⟨(b :: fe') ++ f2, ⟨_, ys, b :: fe', f2, rfl, rfl, ⟨b, ys', fe', rfl, k2, rfl, k4⟩, ?_⟩, List.nodup_append.mpr ⟨List.nodup_cons.mpr ⟨k6, k5⟩, n2, fun a ha c hc z => ?_⟩, fun a ha => ?_⟩
      · exact h2.mono (fun c hc u e => k1 c u (fun z => n3 b List.mem_cons_self c hc z.symm) e) fun c u e im => k1 c u (fun z => k3 u (by rw [← z]; exact e) im) e
      · subst z
        rcases List.mem_cons.mp ha with w | w
        · exact n3 a (by rw [w]; exact List.mem_cons_self) a hc rfl
        · rcases k7 a w with w | w
          · exact n3 a (List.mem_cons_of_mem _ w) a hc rfl
          · exact w (List.mem_append_right _ hc)
      · rcases List.mem_append.mp ha with w | w
        · rcases List.mem_cons.mp w with w | w
          · exact .inl (List.mem_append_left _ (by rw [w]; exact List.mem_cons_self))
          · exact .inr w
        · exact .inl (List.mem_append_right _ w)
    | succ j =>
      obtain ⟨b, zs, fe, e1, hb, h3, hbq, hfe, hbe, hnd, K'⟩ := Rfs.inner (j := j) h2 n2 (by simpa using e)
      refine ⟨b, zs, fe, by simpa using e1, hb, h3, List.mem_append_right _ hbq, fun a ha => List.mem_append_right _ (hfe a ha), hbe, hnd, fun {H' es' ys' fe'} k1 k2 k3 k4 k5 k6 k7 => ?_⟩
      obtain ⟨fq', r', nd', s'⟩ := K' k1 k2 k3 k4 k5 k6 fun a ha => (k7 a ha).imp id fun w z => w (List.mem_append_right _ z)
      have hy : Rf K H' d y f1 := h1.mono (fun c hc u e => k1 c u (fun z => n3 c hc b hbq z) e) fun c u e im => k1 c u (fun z => k3 u (by rw [← z]; exact e) im) e
      refine ⟨f1 ++ fq', ⟨y, ys, f1, fq', rfl, rfl, hy, r'⟩, List.nodup_append.mpr ⟨n1, nd', fun a ha c hc z => ?_⟩, fun a ha => ?_⟩
      · subst z
        rcases s' a hc with w | w
        · exact n3 a ha a w rfl
        · rcases k7 a w with w | w
          · exact n3 a ha a (hfe a w) rfl
          · exact w (List.mem_append_left _ ha)
      · rcases List.mem_append.mp ha with w | w
        · exact .inl (List.mem_append_left _ w)
        · exact (s' a w).imp (List.mem_append_right _) id
theorem inner_ok (o : Ok K B0 Γ fps δ σ H) {i j : Nat} (hi : i ∈ Γ) {ds es es' : List D} (e : δ[i]? = some (some (.lst ds))) (ej : ds[j]? = some (.lst es)) :
    ∃ a xs b ys fe, σ[i]? = some (some (.ref a)) ∧ H a = some (.lst xs) ∧ xs.length = ds.length ∧ xs[j]? = some (.ref b) ∧ H b = some (.lst ys) ∧ Rfs K H es ys fe ∧ fe.Nodup ∧ b ∉ fe ∧ (∀ a ∈ fe, a ∈ fps i) ∧ b ∈ fps i ∧
      ∀ {ys' : List V} {fe' : List Addr}, Rfs K H es' ys' fe' → fe'.Nodup → b ∉ fe' → (∀ c ∈ fe', Mu H c) → (∀ c ∈ fe', c ∈ fe ∨ (B0 c = none ∧ ∀ j, c ∉ fps j)) → ∃ fps', Ok K B0 Γ fps' (δ.set i (some (.lst (ds.set j (.lst es'))))) σ (upd H b (.lst ys')) := by
  obtain ⟨a, xs, fq, h1, h2, h3, h4⟩ := o.ownL e
  have hown := o.own i hi
  rw [h3] at hown
  obtain ⟨nd0, hmu⟩ := hown
  obtain ⟨na, ndq⟩ := List.nodup_cons.mp nd0
  obtain ⟨b, ys, fe, e1, hb, h5, hbq, hfe, hbe, hnd, K'⟩ := h4.inner ndq ej
  refine ⟨a, xs, b, ys, fe, h1, h2, h4.length, e1, hb, h5, hnd, hbe, fun c hc => by rw [h3]; exact List.mem_cons_of_mem _ (hfe c hc), by rw [h3]; exact List.mem_cons_of_mem _ hbq, fun {ys' fe'} r nd nb mu src => ?_⟩
  have nt := (hmu b (List.mem_cons_of_mem _ hbq)).2.notup
  have hab : a ≠ b := fun z => na (by rw [z]; exact hbq)
  obtain ⟨fq', r', nd', k'⟩ := K' (H' := upd H b (.lst ys')) (fun c u hc e => by rw [upd_ne hc]; exact e) upd_same nt (r.upd nb nt) nd nb fun c hc => (src c hc).imp id fun w z => w.2 i (by rw [h3]; exact List.mem_cons_of_mem _ z)
  have naq : a ∉ fq' := fun z => by
    rcases k' a z with w | w
    · exact na w
    · rcases src a w with w | w
      · exact na (hfe a w)
      · exact w.2 i (by rw [h3]; exact List.mem_cons_self)
  refine ⟨_, o.write hi (fp' := a :: fq') h1 ⟨a, xs, fq', rfl, by rw [upd_ne hab]; exact h2, rfl, r'⟩ (List.nodup_cons.mpr ⟨naq, nd'⟩) (fun c hc => Mu.upd ?_ (.inl ⟨_, rfl⟩)) (fun c hc => ?_) ?_⟩
  · rcases List.mem_cons.mp hc with w | w
    · subst w; exact .inl ⟨xs, h2⟩
    · rcases k' c w with w | w
      · exact (hmu c (List.mem_cons_of_mem _ w)).2
      · exact mu c w
  · rw [h3]
    rcases List.mem_cons.mp hc with w | w
    · subst w; exact .inl List.mem_cons_self
    · rcases k' c w with w | w
      · exact .inl (List.mem_cons_of_mem _ w)
      · rcases src c w with w | w
        · exact .inl (List.mem_cons_of_mem _ (hfe c w))
        · exact .inr w
  · rw [h3]; exact updKeep (List.mem_cons_of_mem _ hbq)
def asLst (o : Option D) (P : List D → Prop) : Prop := match o with | some (.lst es) => P es | _ => False
theorem asLst_out {o : Option D} {P : List D → Prop} (h : asLst o P) : ∃ es, o = some (.lst es) ∧ P es := by
  unfold asLst at h; split at h
  · exact ⟨_, rfl, h⟩
  · exact h.elim
def vClear (i : Nat) (E : DEnds) (δ : Dl) : Prop := slotL δ i fun _ => E.nx (δ.set i (some (.lst [])))
theorem st_clear (i : Nat) (hi : i ∈ Γ := by decide) : ST K ρ Γr Γl (tDrop (tBM0 K "list" rClear (tVar i))) Γ Γ (vClear i) := by
  intro B0 Dn E fps δ σ H k o h
  obtain ⟨ds, e, h⟩ := slotL_out h
  obtain ⟨a, xs, fq, h1, h2, h3, h4⟩ := o.ownL e
  refine ⟨.ref a, h1, .inl ⟨rfl, xs, .inl (.inl h2)⟩, a, xs, rfl, rfl, h2, k.nx (o.write hi (d' := .lst []) (fp' := [a]) h1 ⟨a, [], [], rfl, upd_same, rfl, rfl, rfl⟩ (by simp) (fun b hb => ?_) (fun b hb => ?_) ?_) h⟩
  · cases List.mem_singleton.mp hb; exact .inl ⟨[], upd_same⟩
  · cases List.mem_singleton.mp hb; rw [h3]; exact .inl List.mem_cons_self
  · rw [h3]; exact updKeep List.mem_cons_self
def cutD (ds : List D) (lo hi : Option Int) : List D := (ds.drop (HT.sIx ds.length 0 lo)).take (HT.sIx ds.length ds.length hi - HT.sIx ds.length 0 lo)
abbrev DO := Dl → (Option Int → Prop) → Prop
structure OR (K : PySem.W.Frag) (Γ : List Nat) (t : TO) (d : DO) : Prop where
  mono : ∀ δ (P P' : Option Int → Prop), (∀ x, P x → P' x) → d δ P → d δ P'
  run : ∀ {B0 fps δ σ H Q}, Ok K B0 Γ fps δ σ H → d δ (fun x => ∀ H', Same H H' → Q x H') → t σ H Q
def vNoPart (_u0 : Dl) (P : Option Int → Prop) : Prop := P none
def vPart (d : DE) (δ : Dl) (P : Option Int → Prop) : Prop := d δ fun x => asI [x] fun i => P (some i)
theorem or_none : OR K Γ tNoPart vNoPart := ⟨fun _ _ _ k h => k _ h, fun {_ _ _ _ H _} o q => q H (Same.refl H)⟩
theorem or_some (h : ER K Γ te de) : OR K Γ (tPart te) (vPart de) := ⟨fun δ P P' k q => h.mono _ _ _ (fun x z => by obtain ⟨j, rfl, z⟩ := asI1_out z; exact k _ z) q,
  fun o q => h.run o (h.mono _ _ _ (fun x z v H' s r => by obtain ⟨j, rfl, z⟩ := asI1_out z; exact ⟨j, r.int, z H' s⟩) q)⟩
def vSl (de : DE) (dl dh : DO) (δ : Dl) (P : DK) : Prop := de δ fun x => dl δ fun l => dh δ fun u => asL x fun ds => ds.all D.scal = true ∧ P (.lst (cutD ds l u))
def vCat (x : D) (y : D) (P : DK) : Prop := match x, y with | .lst a, .lst b => (a.all D.scal = true ∧ b.all D.scal = true ∧ a.length + b.length ≤ 1000) ∧ P (.lst (a ++ b)) | _, _ => False
theorem new1 {H : Hp} {p : Addr} {ds : List D} (h : ds.all D.scal = true) (hp : H p = none) : Same H (upd H p (.lst (ds.map D.toV))) ∧ Rf K (upd H p (.lst (ds.map D.toV))) (.lst ds) (.ref p) [p] ∧ Nw H (upd H p (.lst (ds.map D.toV))) nf [] [p] :=
  ⟨Same.new' hp, ⟨p, _, [], rfl, upd_same, rfl, Rfs.ofScals h⟩, ⟨by simp, fun b hb => by cases List.mem_singleton.mp hb; exact .inl ⟨_, upd_same⟩, fun b hb => by cases List.mem_singleton.mp hb; exact .inl hp⟩⟩
theorem o_cat : OpV K rCat vCat := ⟨fun x y P P' k h => by unfold vCat at h ⊢; revert h; split <;> first | exact fun h => ⟨h.1, k _ h.2⟩ | exact id, fun {H x y v w Q} r1 r2 h => by
  unfold vCat at h
  split at h
  · rename_i a b
    obtain ⟨⟨s1, s2, hl⟩, h⟩ := h
    obtain ⟨f1, l1, xs, q1, rfl, e1, _, hr1⟩ := r1
    obtain ⟨f2, l2, ys, q2, rfl, e2, _, hr2⟩ := r2
    obtain ⟨rfl, _⟩ := hr1.scals s1
    obtain ⟨rfl, _⟩ := hr2.scals s2
    refine ⟨l1, l2, _, _, rfl, rfl, e1, e2, by rw [List.length_map, List.length_map]; exact le1000 hl, fun p hp => ?_⟩
    rw [← List.map_append]
    obtain ⟨n1, n2, n3⟩ := new1 (K := K) (ds := a ++ b) (by rw [List.all_append, s1, s2]; rfl) hp
    exact h _ _ _ n1 n2 n3
  · exact h.elim⟩
def repD (xs : List D) (k : Nat) : List D := (List.replicate k xs).flatten
def vRep (x : D) (y : D) (P : DK) : Prop := match x, y with | .lst a, .int k => (a.all D.scal = true ∧ (-(2 ^ 63) ≤ k ∧ k < 2 ^ 63) ∧ a.length * k.toNat ≤ 1000) ∧ P (.lst (repD a k.toNat)) | _, _ => False
def vLen (xs : List D) (P : DK) : Prop := match xs with | [x] => (match x with | .tup ds => P (.int ds.length) | x => asL x fun ds => P (.int ds.length)) | _ => False
theorem Rps.one {H : Hp} {x : D} {vs : List V} (h : Rps K H [x] vs) : ∃ v, vs = [v] ∧ Rp K H x v := by
  obtain ⟨fp, y, r, f1, f2, rfl, _, h1, ⟨rfl, _⟩⟩ := h
  exact ⟨y, rfl, f1, h1⟩
theorem c_len : CallV K (fun xs H Q => ∃ p ys, xs = [.ref p] ∧ (SqL K H p ys ∨ SqT K H p ys) ∧ Q (.int ys.length) H) vLen := ⟨fun xs P P' k h => by
    unfold vLen at h ⊢
    revert h
    split
    · split
      · exact fun h => k _ h
      · exact fun h => by obtain ⟨ds, e, z⟩ := asL_out h; exact asL_in e (k _ z)
    · exact id,
  fun {H xs vs Q} r h => by
    unfold vLen at h
    split at h
    · obtain ⟨v, rfl, r0⟩ := r.one
      split at h
      · obtain ⟨a, ys, fq, rfl, hs, hr⟩ := r0.tup
        refine ⟨a, ys, rfl, .inr hs, ?_⟩
        rw [hr.length]
        exact h _ H [] (Same.refl H) ⟨rfl, rfl⟩ Nw.nil
      · obtain ⟨ds, e, h⟩ := asL_out h
        obtain ⟨a, ys, fq, rfl, hs, hr⟩ := r0.seq e
        refine ⟨a, ys, rfl, .inl hs, ?_⟩
        rw [hr.length]
        exact h _ H [] (Same.refl H) ⟨rfl, rfl⟩ Nw.nil
    · exact h.elim⟩
theorem vLen_lst {ds : List D} {P : DK} : vLen [.lst ds] P ↔ P (.int ds.length) := Iff.rfl
theorem vLen_scr {ds : List Int} {P : DK} : vLen [.scr ds] P ↔ P (.int ds.length) := by
  show P (.int ((ds.map D.int).length : Nat)) ↔ _
  rw [List.length_map]
def toInts : List D → Option (List Int)
  | [] => some []
  | .int i :: ds => (toInts ds).map (i :: ·)
  | _ => none
theorem toInts_map : ∀ {ns : List Int}, toInts (ns.map D.int) = some ns
  | [] => rfl
  | n :: ns => by rw [List.map_cons, toInts, toInts_map]; rfl
theorem toInts_eq : ∀ {ds : List D} {ns : List Int}, toInts ds = some ns → ds = ns.map D.int
  | [], ns, h => by cases h; rfl
  | .int i :: ds, ns, h => by
    rw [toInts] at h
    cases e : toInts ds with
    | none => rw [e] at h; cases h
    | some ms => rw [e] at h; cases h; rw [toInts_eq e]; rfl
  | .non :: _, _, h => by cases h
  | .bl _ :: _, _, h => by cases h
  | .str _ :: _, _, h => by cases h
  | .lst _ :: _, _, h => by cases h
  | .tup _ :: _, _, h => by cases h
  | .dic _ :: _, _, h => by cases h
  | .dit _ :: _, _, h => by cases h
  | .scr _ :: _, _, h => by cases h
theorem Rfs.intsV {H : Hp} {ns : List Int} {vs : List V} {fp : List Addr} (h : Rfs K H (ns.map D.int) vs fp) : vs = ns.map V.int := by
  have hs : (ns.map D.int).all D.scal = true := by rw [List.all_map, List.all_eq_true]; exact fun _ _ => rfl
  rw [(h.scals hs).1, List.map_map]
  rfl
def asNs (x : D) (P : List Int → Prop) : Prop := asL x fun ds => match toInts ds with | some ns => P ns | none => False
theorem asNs_out {x : D} {P : List Int → Prop} (h : asNs x P) : ∃ ns, x.items = some (ns.map D.int) ∧ P ns := by
  obtain ⟨ds, e, h⟩ := asL_out h
  cases q : toInts ds with
  | none => rw [q] at h; exact h.elim
  | some ns => rw [q] at h; rw [toInts_eq q] at e; exact ⟨ns, e, h⟩
theorem asNs_in {x : D} {ns : List Int} {P : List Int → Prop} (e : x.items = some (ns.map D.int)) (h : P ns) : asNs x P := by
  refine asL_in e ?_
  rw [toInts_map]; exact h
def vSum (xs : List D) (P : DK) : Prop := match xs with | [x] => asNs x fun ns => P (.int ns.sum) | _ => False
theorem c_sum : CallV K (fun xs H Q => ∃ (a : Addr) (ns : List Int), xs = [.ref a] ∧ SqL K H a (ns.map V.int) ∧ Q (.int ns.sum) H) vSum := ⟨fun xs P P' k h => by
    unfold vSum at h ⊢
    revert h
    split
    · exact fun h => by obtain ⟨ns, e, z⟩ := asNs_out h; exact asNs_in e (k _ z)
    · exact id,
  fun {H xs vs Q} r h => by
    unfold vSum at h
    split at h
    · obtain ⟨v, rfl, r0⟩ := r.one
      obtain ⟨ns, e, h⟩ := asNs_out h
      obtain ⟨a, ys, fq, rfl, hs, hr⟩ := r0.seq e
      rw [hr.intsV] at hs
      exact ⟨a, ns, rfl, hs, h _ H [] (Same.refl H) ⟨rfl, rfl⟩ Nw.nil⟩
    · exact h.elim⟩
def vList (xs : List D) (P : DK) : Prop := match xs with | [x] => asL x fun ds => ds.all D.scal = true ∧ P (.lst ds) | _ => False
theorem c_list : CallV K (fun xs H Q => ∃ p ys, xs = [.ref p] ∧ (SqL K H p ys ∨ SqT K H p ys) ∧ ∀ l, H l = none → Q (.ref l) (upd H l (.lst ys))) vList := ⟨fun xs P P' k h => by
    unfold vList at h ⊢
    revert h
    split
    · exact fun h => by obtain ⟨ds, e, z⟩ := asL_out h; exact asL_in e ⟨z.1, k _ z.2⟩
    · exact id,
  fun {H xs vs Q} r h => by
    unfold vList at h
    split at h
    · obtain ⟨v, rfl, r0⟩ := r.one
      obtain ⟨ds, e, hsc, h⟩ := asL_out h
      obtain ⟨a, ys, fq, rfl, hs, hr⟩ := r0.seq e
      obtain ⟨rfl, _⟩ := hr.scals hsc
      refine ⟨a, _, rfl, .inl hs, fun l hl => ?_⟩
      obtain ⟨n1, n2, n3⟩ := new1 (K := K) hsc hl
      exact h _ _ _ n1 n2 n3
    · exact h.elim⟩
end
end L3
set_option Elab.async false
set_option linter.all false
set_option maxRecDepth 100000
set_option maxHeartbeats 4000000
namespace L3
open PySem L2
open PyProof.Rows (Ordered)
section
variable {K : PySem.W.Frag} {Γ M : List Nat} {te ta tb : TE} {de da db : DE}
theorem em_comp0 {wi : TI} {di : DI} {g : TG} {dg : D → Dl → (Dl → Prop) → Prop} {k : Nat} {idx : List Nat} (hi : IT K [] wi di) (hg : GT K [] g dg) (he : EM K [] [] te de) : EM K Γ [] (tComp0 wi g te k idx) (vComp di dg vYes de k idx) := by
  rw [tComp0_eq]; exact em_comp hi hg tr_yes he
def D.tyn : D → Option String
  | .non => some "NoneType" | .bl _ => some "bool" | .int _ => some "int" | .str _ => some "str" | .lst _ => some "list" | .tup _ => some "tuple" | .dic _ => some "dict" | .dit _ => some "dict" | .scr _ => none | .pin _ _ => none | .mem _ => none | .raw _ => none | .ins _ _ _ => none
theorem Rp.ty {H : Hp} {d : D} {v : V} {n : String} (h : Rp K H d v) (e : d.tyn = some n) : TyOf K H v (.type n) := by
  obtain ⟨fp, h⟩ := h
  cases d with
  | non => cases e; obtain ⟨rfl, _⟩ := h; exact .non
  | bl b => cases e; obtain ⟨rfl, _⟩ := h; exact .bl _
  | int b => cases e; obtain ⟨rfl, _⟩ := h; exact .int _
  | str b => cases e; obtain ⟨rfl, _⟩ := h; exact .str _
  | lst ds => cases e; obtain ⟨a, xs, fq, rfl, h2, _⟩ := h; exact .lst h2
  | tup ds => cases e; obtain ⟨a, xs, rfl, h2, _⟩ := h; exact .tup h2
  | dic ds => cases e; obtain ⟨a, rfl, h2, _⟩ := h; exact .dK h2
  | dit ds => cases e; obtain ⟨a, rfl, h2, _⟩ := h; exact .dT h2
  | scr ns => cases e
  | pin a d => cases e
  | mem φ => cases e
  | raw w => cases e
  | ins C ns ds => cases e
def isB (m n : String) : Bool := m == n || (m == "bool" && n == "int")
def KitOk (n : String) : Prop := ∀ (K : PySem.W.Frag) (d : D) (m : String), d.tyn = some m → PySem.W.kitOne K (.type m) (.type n) = some (isB m n)
theorem kit_int : KitOk "int" := fun K d m e => by cases d <;> cases e <;> first | exact kit_same | with_unfolding_all rfl
theorem kit_bool : KitOk "bool" := fun K d m e => by cases d <;> cases e <;> first | exact kit_same | with_unfolding_all rfl
theorem kit_list : KitOk "list" := fun K d m e => by cases d <;> cases e <;> first | exact kit_same | with_unfolding_all rfl
def vIs (n : String) (da : DE) (δ : Dl) (P : DK) : Prop := da δ fun x => match x.tyn with | some m => P (.bl (isB m n)) | none => False
theorem em_isinst {n : String} (hk : KitOk n) (ha : ER K Γ ta da) : EM K Γ [] (tCB (fun xs H Q => ∃ x n t b, xs = [x, .ty n] ∧ TyOf K H x t ∧ PySem.W.kitOne K t (.type n) = some b ∧ Q (.bl b) H) (tCons ta (tCons (tC (.ty n)) tNil))) (vIs n da) :=
  ⟨fun δ P P' k h => ha.mono _ _ _ (fun x z => by
      revert z; split
      · exact fun z => k _ z
      · exact id) h,
   fun {B0 fps δ σ H Q} o h => ha.run o (ha.mono _ _ _ (fun x z v H1 s1 r1 => by
      split at z
      · rename_i m e
        exact ⟨v, n, _, _, rfl, r1.ty e, hk K x m e, z _ H1 [] s1 ⟨rfl, rfl⟩ Nw.nil⟩
      · exact z.elim) h)⟩
mutual
def D.old : D → Option L2.D
  | .non => some .non | .bl b => some (.bl b) | .int i => some (.int i) | .str x => some (.str x)
  | .lst ds => (D.olds ds).map L2.D.lst | .tup ds => (D.olds ds).map L2.D.tup
  | .dic _ => none | .dit _ => none | .scr _ => none | .pin _ _ => none | .mem _ => none | .raw _ => none | .ins _ _ _ => none
def D.olds : List D → Option (List L2.D)
  | [] => some []
  | d :: ds => match D.old d, D.olds ds with | some x, some xs => some (x :: xs) | _, _ => none
end
mutual
theorem Rf.old {H : Hp} : ∀ {d : D} {d' : L2.D} {v : V} {fp : List Addr}, Rf K H d v fp → d.old = some d' → L2.Rf H d' v fp
  | .non, d', v, fp, h, e => by rw [D.old] at e; cases e; rw [L2.Rf]; exact h
  | .bl _, d', v, fp, h, e => by rw [D.old] at e; cases e; rw [L2.Rf]; exact h
  | .int _, d', v, fp, h, e => by rw [D.old] at e; cases e; rw [L2.Rf]; exact h
  | .str _, d', v, fp, h, e => by rw [D.old] at e; cases e; rw [L2.Rf]; exact h
  | .lst ds, d', v, fp, h, e => by
    rw [D.old] at e
    cases q : D.olds ds with
    | none => rw [q] at e; cases e
    | some es =>
      rw [q] at e; cases e
      obtain ⟨a, xs, fq, e1, e2, e3, h⟩ := h
      rw [L2.Rf]
      exact ⟨a, xs, fq, e1, e2, e3, Rfs.old h q⟩
  | .tup ds, d', v, fp, h, e => by
    rw [D.old] at e
    cases q : D.olds ds with
    | none => rw [q] at e; cases e
    | some es =>
      rw [q] at e; cases e
      obtain ⟨a, xs, e1, e2, h⟩ := h
      rw [L2.Rf]
      exact ⟨a, xs, e1, e2, Rfs.old h q⟩
  | .dic _, d', v, fp, h, e => by rw [D.old] at e; cases e
  | .dit _, d', v, fp, h, e => by rw [D.old] at e; cases e
  | .scr _, d', v, fp, h, e => by rw [D.old] at e; cases e
  | .pin _ _, d', v, fp, h, e => by rw [D.old] at e; cases e
  | .mem _, d', v, fp, h, e => by rw [D.old] at e; cases e
  | .raw _, d', v, fp, h, e => by rw [D.old] at e; cases e
  | .ins _ _ _, d', v, fp, h, e => by rw [D.old] at e; cases e
theorem Rfs.old {H : Hp} : ∀ {ds : List D} {ds' : List L2.D} {vs : List V} {fp : List Addr}, Rfs K H ds vs fp → D.olds ds = some ds' → L2.Rfs H ds' vs fp
  | [], ds', vs, fp, h, e => by rw [D.olds] at e; cases e; rw [L2.Rfs]; exact h
  | d :: ds, ds', vs, fp, h, e => by
    rw [D.olds] at e
    obtain ⟨x, r, f1, f2, e1, e2, h1, h2⟩ := h
    cases q1 : d.old with
    | none => rw [q1] at e; simp at e
    | some x' =>
      cases q2 : D.olds ds with
      | none => rw [q1, q2] at e; simp at e
      | some xs' =>
        rw [q1, q2] at e
        cases e
        rw [L2.Rfs]
        exact ⟨x, r, f1, f2, e1, e2, Rf.old h1 q1, Rfs.old h2 q2⟩
end
abbrev dI (xs : List Int) : D := .lst (xs.map D.int)
abbrev dT (t : List (List Int)) : D := .lst (t.map dI)
def vEqL (neg : Bool) (x : D) (y : D) (P : DK) : Prop := ∃ a b, x.old = some (.lst a) ∧ y.old = some (.lst b) ∧ L2.D.plains a = true ∧ L2.D.plains b = true ∧ L2.D.depths a ≤ 60 ∧ P (.bl (if neg then !L2.D.eqbs a b else L2.D.eqbs a b))
theorem vEqL_run {neg : Bool} : OpV K (rEqD neg) (vEqL neg) := ⟨fun x y P P' k h => by
    obtain ⟨a, b, h1, h2, h3, h4, h5, h⟩ := h
    exact ⟨a, b, h1, h2, h3, h4, h5, k _ h⟩,
  fun {H x y v w Q} ⟨f1, r1⟩ ⟨f2, r2⟩ h => by
    obtain ⟨a, b, h1, h2, h3, h4, h5, h⟩ := h
    exact ⟨a, b, ⟨f1, r1.old h1⟩, ⟨f2, r2.old h2⟩, h3, h4, h5, h _ H [] (Same.refl H) ⟨rfl, rfl⟩ Nw.nil⟩⟩
theorem o_eqL : OpV K (rEqD false) (vEqL false) := vEqL_run
theorem o_neL : OpV K (rEqD true) (vEqL true) := vEqL_run
theorem olds_ints : ∀ {ns : List Int}, D.olds (ns.map D.int) = some (ns.map L2.D.int)
  | [] => by rw [List.map_nil, D.olds]; rfl
  | n :: ns => by rw [List.map_cons, D.olds, olds_ints, D.old]; rfl
theorem old_dI {ns : List Int} : (dI ns).old = some (L2.dI ns) := by rw [D.old, olds_ints]; rfl
theorem olds_rows : ∀ {t : List (List Int)}, D.olds (t.map dI) = some (t.map L2.dI)
  | [] => by rw [List.map_nil, D.olds]; rfl
  | n :: ns => by rw [List.map_cons, D.olds, olds_rows, old_dI]; rfl
theorem old_dT {t : List (List Int)} : (dT t).old = some (L2.dT t) := by rw [D.old, olds_rows]; rfl
theorem vEqL_ints {neg : Bool} {xs ys : List Int} {P : DK} (h : P (.bl (if neg then !decide (xs = ys) else decide (xs = ys)))) : vEqL neg (dI xs) (dI ys) P :=
  ⟨_, _, old_dI, old_dI, D.plains_ints _, D.plains_ints _, by rw [D.depths_ints]; omega, by rw [D.eqbs_ints]; exact h⟩
theorem vEqL_rows {neg : Bool} {xs ys : List (List Int)} {P : DK} (h : P (.bl (if neg then !decide (xs = ys) else decide (xs = ys)))) : vEqL neg (dT xs) (dT ys) P :=
  ⟨_, _, old_dT, old_dT, D.plains_rows _, D.plains_rows _, Nat.le_trans (D.depths_rows _) (by omega), by rw [D.eqbs_rows]; exact h⟩
def vSorted (b : Bool) (xs : List D) (P : DK) : Prop := match xs with | [x] => asNs x fun ns => ns.length < 64 ∧ ∀ ms : List Int, ms.Perm ns → Ordered b ms → P (dI ms) | _ => False
theorem Rf.ofInts {H : Hp} {p : Addr} {ms : List Int} (e : H p = some (.lst (ms.map V.int))) : Rf K H (dI ms) (.ref p) [p] := ⟨p, _, [], rfl, e, rfl, Rfs.ofInts⟩
theorem Nw.one {H H' : Hp} {p : Addr} {xs : List V} (h : H p = none) (e : H' p = some (.lst xs)) : Nw H H' nf [] [p] := ⟨by simp, fun b hb => by cases List.mem_singleton.mp hb; exact .inl ⟨_, e⟩, fun b hb => by cases List.mem_singleton.mp hb; exact .inl h⟩
def vRev (da : DE) (δ : Dl) (P : DK) : Prop := da δ fun x => asL x fun ds => ds.all D.scal = true ∧ P (.lst ds.reverse)
def vAbs (xs : List D) (P : DK) : Prop := asI xs fun i => P (.int (if i < 0 then -i else i))
def vMax2 (xs : List D) (P : DK) : Prop := asII xs fun i j => P (.int (if j > i then j else i))
def vMin2 (xs : List D) (P : DK) : Prop := asII xs fun i j => P (.int (if j < i then j else i))
def D.isNon : D → Bool | .non => true | .raw w => decide (w = .non) | _ => false
def vIsN (neg : Bool) (x : D) (y : D) (P : DK) : Prop := match y with | .non => P (.bl (if neg then !x.isNon else x.isNon)) | _ => False
def vZip (da db : DE) (δ : Dl) (P : List D → Prop) : Prop := da δ fun x => db δ fun y => asL x fun xs => asL y fun ys => xs.length = ys.length ∧ P ((xs.zip ys).map fun p => .tup [p.1, p.2])
theorem it_zip (ha : ES K Γ ta da) (hb : ES K Γ tb db) : IT K Γ (iZip K (tCons ta (tCons tb tNil))) (vZip da db) :=
  ⟨fun δ P P' k h => ha.mono _ _ _ (fun x z => hb.mono _ _ _ (fun y z => by
      obtain ⟨xs, e1, z⟩ := asL_out z; obtain ⟨ys, e2, z⟩ := asL_out z; exact asL_in e1 (asL_in e2 ⟨z.1, k _ z.2⟩)) z) h,
   fun {B0 fps δ σ H R} o h => ha.run o (ha.mono _ _ _ (fun x z v H1 f1 s1 r1 n1 => hb.run (o.same s1) (hb.mono _ _ _ (fun y z w H2 f2 s2 r2 n2 => by
    obtain ⟨xs, ex, z⟩ := asL_out z
    obtain ⟨ys, ey, z⟩ := asL_out z
    have r1' := r1.same s2
    obtain ⟨a, as, fa, rfl, hsa, hra, hina⟩ := r1'.seq ex
    obtain ⟨b, bs, fb, rfl, hsb, hrb, hinb⟩ := r2.seq ey
    refine ⟨a, b, rfl, ⟨as, hsa⟩, ⟨bs, hsb⟩, z.2 (Itz K a b) H2 (f1 ++ f2) (s1.trans s2) (fun j hj c hc => (List.mem_append.mp hc).elim (n1 j hj c) (n2 j hj c)) fun B sB ag im => ?_⟩
    have rBa : Rf K B x (.ref a) f1 := r1'.mono (fun c hc u e => by rw [ag c (List.mem_append_left _ hc)]; exact e) im
    have rBb : Rf K B y (.ref b) f2 := r2.mono (fun c hc u e => by rw [ag c (List.mem_append_right _ hc)]; exact e) im
    obtain ⟨a', as', fa', e1, hsa', hra', _⟩ := rBa.seq ex
    obtain ⟨b', bs', fb', e2, hsb', hrb', _⟩ := rBb.seq ey
    cases e1; cases e2
    have sq : ∀ {c : Addr} {zs : List V} {H3 : Hp}, SqL K B c zs → Same B H3 → SqL K H3 c zs := fun h s3 => s3.seq h
    have la := hra'.length
    have lb := hrb'.length
    have hl := z.1
    have hlen : ((xs.zip ys).map fun p => D.tup [p.1, p.2]).length = xs.length := by simp [hl]
    refine ⟨fun {i H3} s3 hi => ?_, fun {i H3 u H4 d} s3 hy hd => ?_, fun {i H3} s3 hi => ?_⟩
    · rw [hlen] at hi
      exact ⟨as', bs', as'[i]'(by omega), bs'[i]'(by omega), sq hsa' s3, sq hsb' s3, by simp [la, hi], by simp [lb, ← hl, hi]⟩
    · obtain ⟨p, u1, u2, rfl, hp, rfl, h1, h2⟩ := hy
      have q1 := h1 as' (sq hsa' s3)
      have q2 := h2 bs' (sq hsb' s3)
      obtain ⟨d1, g1, e1, t1, _⟩ := hra'.get' q1
      obtain ⟨d2, g2, e2, t2, _⟩ := hrb'.get' q2
      have ez : (xs.zip ys)[i]? = some (d1, d2) := List.getElem?_zip_eq_some.mpr ⟨e1, e2⟩
      rw [List.getElem?_map, ez] at hd
      cases hd
      have s4 : Same H3 (upd H3 p (.tup [u1, u2])) := Same.new' hp
      refine ⟨s4, g1 ++ g2, ⟨p, _, rfl, upd_same, u1, [u2], g1, g2, rfl, rfl, (t1.same s3).same s4, u2, [], g2, [], rfl, (List.append_nil _).symm, (t2.same s3).same s4, rfl, rfl⟩, fun c hc => ?_⟩
      rcases List.mem_append.mp hc with w | w
      · obtain ⟨u, hu, _⟩ := t1.dom c w; rw [hu]; intro z; cases z
      · obtain ⟨u, hu, _⟩ := t2.dom c w; rw [hu]; intro z; cases z
    · rw [hlen] at hi
      exact ⟨as', bs', sq hsa' s3, sq hsb' s3, .inl (by omega)⟩) z)) h)⟩
end
theorem spP_len {K : PySem.W.Frag} {S : DSp} {n : Nat} (hS : ∀ ds P, S ds P → ds.length = n) {vs : List V} {H : Hp} {Q : VK} {E : XK} (h : spP K S vs H Q E) : vs.length = n := by
  obtain ⟨ds, ⟨fp, r⟩, h⟩ := h
  rw [r.length]; exact hS _ _ h
theorem loop_inv {dg : D → Dl → (Dl → Prop) → Prop} {db : DS} {E : DEnds} (I : Nat → Dl → Prop) {ds : List D} {δ : Dl} (h0 : I 0 δ)
    (hs : ∀ i d δ (N : Dl → Prop), ds[i]? = some d → I i δ → (∀ δ', I (i + 1) δ' → N δ') → dg d δ fun δ' => db { nx := N, ct := N, bk := E.nx, rt := E.rt } δ')
    (hd : ∀ δ, I ds.length δ → E.nx δ) : vLoop dg db E ds δ := by
  have key : ∀ (n : Nat) (i : Nat) (δ : Dl), ds.length - i = n → i ≤ ds.length → I i δ → vLoop dg db E (ds.drop i) δ := by
    intro n
    induction n with
    | zero =>
      intro i δ h1 h2 hI
      have : i = ds.length := by omega
      subst this
      rw [List.drop_length]
      exact hd δ hI
    | succ n ih =>
      intro i δ h1 h2 hI
      have hlt : i < ds.length := by omega
      rw [List.drop_eq_getElem_cons hlt]
      exact hs i _ δ _ (List.getElem?_eq_getElem hlt) hI fun δ' h' => ih (i + 1) δ' (by omega) hlt h'
  have := key ds.length 0 δ (by omega) (Nat.zero_le _) h0
  rwa [List.drop_zero] at this
end L3
namespace L3
open PySem L2
theorem sc_of {K : PySem.W.Frag} {H : Hp} {a : Addr} {xs : List V} (hO : Only H) (h : SqL K H a xs) : Sc K H a xs := by
  rcases h with (h | h) | h
  · rcases hO a with z | ⟨o, ys, z⟩
    · rw [z] at h; cases h
    · rw [z] at h; cases h
  · exact .inl h
  · exact .inr h
end L3
set_option Elab.async false
set_option linter.all false
set_option maxRecDepth 100000
set_option maxHeartbeats 4000000
namespace L3
open PySem
open L2 hiding D Rf Rfs Rp dI dT
section
variable {di : DI} {dg : D → Dl → (Dl → Prop) → Prop} {dt : DT} {de : DE} {k : Nat} {idx : List Nat} {δ : Dl} {P : DK}
theorem comp_any {α : Type} {as : List α} {f : α → D} {p : α → Bool} {g : α → D} (hdi : ∀ R : List D → Prop, R (as.map f) → di δ R) (hl : as.length ≤ 1000)
    (hb : ∀ a ∈ as, ∀ R : List D → Prop, R (if p a then [g a] else []) → vBody dg dt de (cbaseD k idx δ) (f a) R) (h : P (.lst ((as.filter p).map g))) : vComp di dg dt de k idx δ P := by
  refine hdi _ ⟨by rw [List.length_map]; exact hl, ?_⟩
  have key : ∀ (as : List α) (acc : List D), (∀ a ∈ as, ∀ R : List D → Prop, R (if p a then [g a] else []) → vBody dg dt de (cbaseD k idx δ) (f a) R) → P (.lst (acc ++ (as.filter p).map g)) → vEach (vBody dg dt de (cbaseD k idx δ)) (as.map f) acc fun ys => P (.lst ys) := by
    intro as
    induction as with
    | nil => intro acc _ h; rw [List.filter_nil, List.map_nil, List.append_nil] at h; exact h
    | cons a as ih =>
      intro acc hb h
      refine hb a List.mem_cons_self _ (ih _ (fun x hx => hb x (List.mem_cons_of_mem _ hx)) ?_)
      by_cases hp : p a = true
      · rw [if_pos hp, List.append_assoc]; rwa [List.filter_cons_of_pos hp] at h
      · rw [if_neg hp, List.append_nil]; rwa [List.filter_cons_of_neg hp] at h
  exact key as [] hb h
theorem comp_all {α : Type} {as : List α} {f : α → D} {g : α → D} (hdi : ∀ R : List D → Prop, R (as.map f) → di δ R) (hl : as.length ≤ 1000)
    (hb : ∀ a ∈ as, ∀ R : List D → Prop, R [g a] → vBody dg dt de (cbaseD k idx δ) (f a) R) (h : P (.lst (as.map g))) : vComp di dg dt de k idx δ P := by
  refine comp_any (p := fun _ => true) hdi hl (fun a ha R h => hb a ha R h) ?_
  rw [List.filter_eq_self.mpr (fun _ _ => rfl)]
  exact h
theorem comp_rng {lo : Int} {n : Nat} {g : Nat → D} (hdi : ∀ R : List D → Prop, R (intsD lo n) → di δ R) (hl : n ≤ 1000)
    (hb : ∀ i, i < n → ∀ R : List D → Prop, R [g i] → vBody dg dt de (cbaseD k idx δ) (.int (lo + (i : Int))) R) (h : P (.lst ((List.range n).map g))) : vComp di dg dt de k idx δ P :=
  comp_all (as := List.range n) (f := fun (k : Nat) => D.int (lo + (k : Int))) hdi (by rw [List.length_range]; exact hl) (fun a ha => hb a (List.mem_range.mp ha)) h
theorem comp_rows {t : List (List Int)} {g : List Int → D} (hdi : ∀ R : List D → Prop, R (t.map dI) → di δ R) (hl : t.length ≤ 1000)
    (hb : ∀ r ∈ t, ∀ R : List D → Prop, R [g r] → vBody dg dt de (cbaseD k idx δ) (dI r) R) (h : P (.lst (t.map g))) : vComp di dg dt de k idx δ P := comp_all hdi hl hb h
variable {db : DS} {E : DEnds}
theorem loop_any {α : Type} {as : List α} {f : α → D} (I : Nat → Dl → Prop) (h0 : I 0 δ)
    (hs : ∀ i a δ (N : Dl → Prop), as[i]? = some a → I i δ → (∀ δ', I (i + 1) δ' → N δ') → dg (f a) δ fun δ' => db { nx := N, ct := N, bk := E.nx, rt := E.rt } δ')
    (hd : ∀ δ, I as.length δ → E.nx δ) : vLoop dg db E (as.map f) δ := by
  refine loop_inv I h0 (fun i d δ N e hI hN => ?_) (fun δ hI => hd δ (by rwa [List.length_map] at hI))
  rw [List.getElem?_map] at e
  cases q : as[i]? with
  | none => rw [q] at e; cases e
  | some a => rw [q] at e; cases e; exact hs i a δ N q hI hN
theorem loop_rng {lo : Int} {n : Nat} (I : Nat → Dl → Prop) (h0 : I 0 δ)
    (hs : ∀ i δ (N : Dl → Prop), i < n → I i δ → (∀ δ', I (i + 1) δ' → N δ') → dg (.int (lo + (i : Int))) δ fun δ' => db { nx := N, ct := N, bk := E.nx, rt := E.rt } δ')
    (hd : ∀ δ, I n δ → E.nx δ) : vLoop dg db E (intsD lo n) δ := by
  refine loop_any (as := List.range n) (f := fun (k : Nat) => D.int (lo + (k : Int))) I h0 (fun i a δ N e hI hN => ?_) (fun δ hI => hd δ (by rwa [List.length_range] at hI))
  obtain ⟨h1, h2⟩ := List.getElem?_eq_some_iff.mp e
  rw [List.getElem_range] at h2
  subst h2
  exact hs i δ N (by simpa using h1) hI hN
end
theorem at_dI {ns : List Int} {i : Int} (h0 : 0 ≤ i) (h : i < ns.length) : atI (ns.map D.int) i = some (.int (ns.getD i.toNat 0)) := by
  unfold atI ixN
  rw [if_pos h0, List.length_map, if_pos h]
  show (ns.map D.int)[i.toNat]? = _
  rw [List.getElem?_map, List.getD_eq_getElem?_getD]
  have : i.toNat < ns.length := by omega
  rw [List.getElem?_eq_getElem this]
  rfl
theorem scal_ints {ns : List Int} : (ns.map D.int).all D.scal = true := by rw [List.all_map, List.all_eq_true]; exact fun _ _ => rfl
theorem ixN_nat {n : Nat} {i : Int} (h0 : 0 ≤ i) (h : i < n) : ixN n i = some i.toNat := by unfold ixN; rw [if_pos h0, if_pos h]
theorem set_dI {ns : List Int} {j : Nat} {v : Int} : (ns.map D.int).set j (.int v) = (ns.set j v).map D.int := (List.map_set ..).symm
theorem snoc_dI {ns : List Int} {v : Int} : ns.map D.int ++ [.int v] = (ns ++ [v]).map D.int := by simp
theorem emod_lt {x n : Int} (h : 0 < n) : 0 ≤ x % n ∧ x % n < n := ⟨Int.emod_nonneg x (by omega), Int.emod_lt_of_pos x h⟩
section
variable {P : DK}
def asO (o : Option D) (P : DK) : Prop := match o with | some d => P d | none => False
theorem asO_some {d : D} : asO (some d) P ↔ P d := Iff.rfl
theorem asO_at {o : Option D} {d : D} (h : o = some d) : asO o P ↔ P d := by rw [h]; rfl
theorem asB_bl {k : Bool} {Q : Bool → Prop} : asB (.bl k) Q ↔ Q k := Iff.rfl
theorem vI0_int {g : Int → Int → D} {i j : Int} : vI0 g (.int i) (.int j) P ↔ P (g i j) := Iff.rfl
theorem vI_int {C : Int → Int → Prop} {g : Int → Int → D} {i j : Int} : vI C g (.int i) (.int j) P ↔ C i j ∧ P (g i j) := Iff.rfl
theorem vU_int {g : Int → D} {i : Int} : vU g (.int i) P ↔ P (g i) := Iff.rfl
theorem asI_int {i : Int} {Q : Int → Prop} : asI [.int i] Q ↔ Q i := Iff.rfl
theorem asII_int {i j : Int} {Q : Int → Int → Prop} : asII [.int i, .int j] Q ↔ Q i j := Iff.rfl
theorem asL_lst {ds : List D} {Q : List D → Prop} : asL (.lst ds) Q ↔ Q ds := Iff.rfl
theorem asL_scr {ns : List Int} {Q : List D → Prop} : asL (.scr ns) Q ↔ Q (ns.map D.int) := Iff.rfl
theorem vIxL_lst {ds : List D} {i : Int} : vIxL (.lst ds) (.int i) P ↔ asO (atI ds i) P := Iff.rfl
theorem vIxL_scr {ns : List Int} {i : Int} : vIxL (.scr ns) (.int i) P ↔ asO (atI (ns.map D.int) i) P := Iff.rfl
theorem vIxT_tup {ds : List D} {i : Int} : vIxT (.tup ds) (.int i) P ↔ asO (atI ds i) P := Iff.rfl
theorem vLen_tup {ds : List D} : vLen [.tup ds] P ↔ P (.int ds.length) := Iff.rfl
theorem vIsN_non {neg : Bool} {x : D} : vIsN neg x .non P ↔ P (.bl (if neg then !x.isNon else x.isNon)) := Iff.rfl
theorem vCat_lst {a b : List D} : vCat (.lst a) (.lst b) P ↔ (a.all D.scal = true ∧ b.all D.scal = true ∧ a.length + b.length ≤ 1000) ∧ P (.lst (a ++ b)) := Iff.rfl
theorem vRep_lst {a : List D} {k : Int} : vRep (.lst a) (.int k) P ↔ (a.all D.scal = true ∧ (-(2 ^ 63) ≤ k ∧ k < 2 ^ 63) ∧ a.length * k.toNat ≤ 1000) ∧ P (.lst (repD a k.toNat)) := Iff.rfl
theorem vList_lst {ds : List D} : vList [.lst ds] P ↔ ds.all D.scal = true ∧ P (.lst ds) := Iff.rfl
theorem vList_scr {ns : List Int} : vList [.scr ns] P ↔ P (dI ns) := by
  show ((ns.map D.int).all D.scal = true ∧ P _) ↔ _
  rw [scal_ints]; exact ⟨fun h => h.2, fun h => ⟨rfl, h⟩⟩
theorem vSum_ints {ns : List Int} : vSum [dI ns] P ↔ P (.int ns.sum) := by
  show (match toInts (ns.map D.int) with | some ns => P (.int ns.sum) | none => False) ↔ _
  rw [toInts_map]
theorem asNs_ints {ns : List Int} {Q : List Int → Prop} : asNs (dI ns) Q ↔ Q ns := by
  show (match toInts (ns.map D.int) with | some ns => Q ns | none => False) ↔ _
  rw [toInts_map]
theorem vgTup2 {g : List D → Dl → (Dl → Prop) → Prop} {n : Nat} {ds : List D} {δ : Dl} {Q : Dl → Prop} : vgTup n g (.tup ds) δ Q ↔ ds.length = n ∧ g ds δ Q := Iff.rfl
theorem vgCons_c {g : D → Dl → (Dl → Prop) → Prop} {gs : List D → Dl → (Dl → Prop) → Prop} {x : D} {xs : List D} {δ : Dl} {Q : Dl → Prop} : vgCons g gs (x :: xs) δ Q ↔ g x δ fun δ' => gs xs δ' Q := Iff.rfl
theorem vgNil_n {δ : Dl} {Q : Dl → Prop} : vgNil [] δ Q ↔ Q δ := Iff.rfl
theorem slotL_s {i : Nat} {δ : Dl} {ds : List D} {Q : List D → Prop} (h : δ[i]? = some (some (.lst ds))) : slotL δ i Q ↔ Q ds := by unfold slotL; rw [h]
theorem tyn_int {i : Int} : (D.int i).tyn = some "int" := rfl
theorem tyn_bl {i : Bool} : (D.bl i).tyn = some "bool" := rfl
theorem tyn_lst {i : List D} : (D.lst i).tyn = some "list" := rfl
theorem tyn_tup {i : List D} : (D.tup i).tyn = some "tuple" := rfl
theorem tyn_str {i : Str} : (D.str i).tyn = some "str" := rfl
theorem tyn_non : D.non.tyn = some "NoneType" := rfl
theorem isB_ii : isB "int" "int" = true := rfl
theorem isB_ib : isB "int" "bool" = false := rfl
theorem isB_ll : isB "list" "list" = true := rfl
theorem isB_tt : isB "tuple" "tuple" = true := rfl
theorem isB_ss : isB "str" "str" = true := rfl
theorem isB_bb : isB "bool" "bool" = true := rfl
theorem isB_bi : isB "bool" "int" = true := rfl
theorem isB_il : isB "int" "list" = false := rfl
theorem isB_nl : isB "NoneType" "list" = false := rfl
end
end L3
set_option Elab.async false
set_option linter.all false
set_option maxRecDepth 100000
set_option maxHeartbeats 4000000
namespace L2
open PySem PySem.Spec PyProof.Rows
section
variable {X : Cx} {K : PySem.W.Frag}
theorem call_minL (hK : X.K = K) (hc : X.calm = true) : CallR X (.builtin "min") (fun xs H Q => ∃ (a : Addr) (ns : List Int), xs = [.ref a] ∧ SqL K H a (ns.map V.int) ∧ 0 < ns.length ∧ ∀ M, M ∈ ns → (∀ x ∈ ns, M ≤ x) → Q (.int M) H) := by
  subst hK
  intro pins s σ H xs us Q I r h
  obtain ⟨a, ns, rfl, hS, hne, q⟩ := h
  obtain ⟨u, rfl, ru⟩ := vals1 r
  obtain rfl : u = Value.ref a := ru
  obtain ⟨its, rv, pl, hz⟩ := I.list hS
  have hi := ints_are rv
  obtain ⟨xs', e⟩ := hi.allInts.items
  have hl : s.heap.IsList a (intItems xs') := by rw [← e]; exact pl.isList
  have hns : ns = xs'.toList.map (·.1) := by rw [← hi.numsOf, ← nums_intItems, ← e]
  have hsz : 0 < xs'.size := by
    have h3 := hne; rw [hns, List.length_map, Array.length_toList] at h3; exact h3
  refine min_intList (I.ok.hd hc) hl hsz fun v h' tk hv hk => ?_
  obtain ⟨t, rfl⟩ := intItems_at hv
  obtain ⟨h1, h2⟩ := argBest_lt (numAt xs') (xs'.size - 1)
  refine ⟨.int _, H, I.kept hk, ⟨t, rfl⟩, q _ ?_ fun b hb => ?_⟩
  · rw [hns, numAt_eq]; exact getD_mem (by rw [List.length_map, Array.length_toList]; omega)
  · rw [hns] at hb
    obtain ⟨j, hj, rfl⟩ := mem_getD hb
    rw [List.length_map, Array.length_toList] at hj
    rw [← numAt_eq]; exact h2 j (by omega)
theorem call_maxL (hK : X.K = K) (hc : X.calm = true) : CallR X (.builtin "max") (fun xs H Q => ∃ (a : Addr) (ns : List Int), xs = [.ref a] ∧ SqL K H a (ns.map V.int) ∧ 0 < ns.length ∧ ∀ M, M ∈ ns → (∀ x ∈ ns, x ≤ M) → Q (.int M) H) := by
  subst hK
  intro pins s σ H xs us Q I r h
  obtain ⟨a, ns, rfl, hS, hne, q⟩ := h
  obtain ⟨u, rfl, ru⟩ := vals1 r
  obtain rfl : u = Value.ref a := ru
  obtain ⟨its, rv, pl, hz⟩ := I.list hS
  have hi := ints_are rv
  obtain ⟨xs', e⟩ := hi.allInts.items
  have hl : s.heap.IsList a (intItems xs') := by rw [← e]; exact pl.isList
  have hns : ns = xs'.toList.map (·.1) := by rw [← hi.numsOf, ← nums_intItems, ← e]
  have hsz : 0 < xs'.size := by
    have h3 := hne; rw [hns, List.length_map, Array.length_toList] at h3; exact h3
  refine max_intList (I.ok.hd hc) hl hsz fun v h' tk hv hk => ?_
  obtain ⟨t, rfl⟩ := intItems_at hv
  obtain ⟨h1, h2⟩ := argBest_gt (numAt xs') (xs'.size - 1)
  refine ⟨.int _, H, I.kept hk, ⟨t, rfl⟩, q _ ?_ fun b hb => ?_⟩
  · rw [hns, numAt_eq]; exact getD_mem (by rw [List.length_map, Array.length_toList]; omega)
  · rw [hns] at hb
    obtain ⟨j, hj, rfl⟩ := mem_getD hb
    rw [List.length_map, Array.length_toList] at hj
    rw [← numAt_eq]; exact h2 j (by omega)
end
end L2
namespace L2
open PySem PySem.Spec PyProof.Rows
section
variable {X : Cx} {K : PySem.W.Frag}
end
end L2
namespace L2
open PySem PySem.Spec PyProof.Rows
section
variable {X : Cx}
end
end L2
set_option Elab.async false
set_option linter.all false
set_option maxRecDepth 100000
set_option maxHeartbeats 4000000
namespace L3
open PySem
open L2 hiding D Rf Rfs Rp dI dT
section
variable {K : PySem.W.Frag} {ρ : Bool} {Γr Γl Γ Γ1 Γ2 Γn M : List Nat} {t u : TS} {te ta tb tx t1 t2 : TE} {de da db dx d1 d2 : DE} {d e : DS}
variable {B0 : Hp} {fps : Nat → List Addr} {δ : Dl} {σ : St} {H H' : Hp}
def vMinL (xs : List D) (P : DK) : Prop := match xs with | [x] => asNs x fun ns => 0 < ns.length ∧ ∀ M, M ∈ ns → (∀ x ∈ ns, M ≤ x) → P (.int M) | _ => False
def vMaxL (xs : List D) (P : DK) : Prop := match xs with | [x] => asNs x fun ns => 0 < ns.length ∧ ∀ M, M ∈ ns → (∀ x ∈ ns, x ≤ M) → P (.int M) | _ => False
theorem c_minL : CallV K (fun xs H Q => ∃ (a : Addr) (ns : List Int), xs = [.ref a] ∧ SqL K H a (ns.map V.int) ∧ 0 < ns.length ∧ ∀ M, M ∈ ns → (∀ x ∈ ns, M ≤ x) → Q (.int M) H) vMinL := ⟨fun xs P P' k h => by
    unfold vMinL at h ⊢
    revert h
    split
    · exact fun h => by obtain ⟨ns, e, z⟩ := asNs_out h; exact asNs_in e ⟨z.1, fun M a b => k _ (z.2 M a b)⟩
    · exact id,
  fun {H xs vs Q} r h => by
    unfold vMinL at h
    split at h
    · obtain ⟨v, rfl, r0⟩ := r.one
      obtain ⟨ns, e, h⟩ := asNs_out h
      obtain ⟨a, ys, fq, rfl, hs, hr⟩ := r0.seq e
      rw [hr.intsV] at hs
      exact ⟨a, ns, rfl, hs, h.1, fun M h1 h2 => h.2 M h1 h2 _ H [] (Same.refl H) ⟨rfl, rfl⟩ Nw.nil⟩
    · exact h.elim⟩
theorem c_maxL : CallV K (fun xs H Q => ∃ (a : Addr) (ns : List Int), xs = [.ref a] ∧ SqL K H a (ns.map V.int) ∧ 0 < ns.length ∧ ∀ M, M ∈ ns → (∀ x ∈ ns, x ≤ M) → Q (.int M) H) vMaxL := ⟨fun xs P P' k h => by
    unfold vMaxL at h ⊢
    revert h
    split
    · exact fun h => by obtain ⟨ns, e, z⟩ := asNs_out h; exact asNs_in e ⟨z.1, fun M a b => k _ (z.2 M a b)⟩
    · exact id,
  fun {H xs vs Q} r h => by
    unfold vMaxL at h
    split at h
    · obtain ⟨v, rfl, r0⟩ := r.one
      obtain ⟨ns, e, h⟩ := asNs_out h
      obtain ⟨a, ys, fq, rfl, hs, hr⟩ := r0.seq e
      rw [hr.intsV] at hs
      exact ⟨a, ns, rfl, hs, h.1, fun M h1 h2 => h.2 M h1 h2 _ H [] (Same.refl H) ⟨rfl, rfl⟩ Nw.nil⟩
    · exact h.elim⟩
def toBools : List D → Option (List Bool)
  | [] => some []
  | .bl i :: ds => (toBools ds).map (i :: ·)
  | _ => none
theorem toBools_map : ∀ {ns : List Bool}, toBools (ns.map D.bl) = some ns
  | [] => rfl
  | n :: ns => by rw [List.map_cons, toBools, toBools_map]; rfl
def asBs (x : D) (P : List Bool → Prop) : Prop := asL x fun ds => match toBools ds with | some ns => P ns | none => False
def vAll (xs : List D) (P : DK) : Prop := match xs with | [x] => asBs x fun ns => P (.bl (ns.all id)) | _ => False
def vAny (xs : List D) (P : DK) : Prop := match xs with | [x] => asBs x fun ns => P (.bl (ns.any id)) | _ => False
theorem vAll_bools {ns : List Bool} {P : DK} : vAll [.lst (ns.map D.bl)] P ↔ P (.bl (ns.all id)) := by
  show (match toBools (ns.map D.bl) with | some ns => P (.bl (ns.all id)) | none => False) ↔ _
  rw [toBools_map]
theorem vAny_bools {ns : List Bool} {P : DK} : vAny [.lst (ns.map D.bl)] P ↔ P (.bl (ns.any id)) := by
  show (match toBools (ns.map D.bl) with | some ns => P (.bl (ns.any id)) | none => False) ↔ _
  rw [toBools_map]
theorem vMinL_ints {ns : List Int} {P : DK} : vMinL [dI ns] P ↔ 0 < ns.length ∧ ∀ M, M ∈ ns → (∀ x ∈ ns, M ≤ x) → P (.int M) := asNs_ints
theorem vMaxL_ints {ns : List Int} {P : DK} : vMaxL [dI ns] P ↔ 0 < ns.length ∧ ∀ M, M ∈ ns → (∀ x ∈ ns, x ≤ M) → P (.int M) := asNs_ints
def rngI (n : Nat) : List Int := (List.range n).map fun (k : Nat) => (k : Int)
def vListRng (de : DE) (δ : Dl) (P : DK) : Prop := de δ fun x => asI [x] fun j => (j ≤ 100000 ∧ -(2 ^ 62) ≤ j) ∧ P (dI (rngI j.toNat))
theorem Ok.dead (o : Ok K B0 Γ fps δ σ H) (j : Nat) (v : V) (hj : j ∉ Γ) : Ok K B0 Γ (fun i => if i = j then [] else fps i) (δ.set j none) (σ.set j (some v)) H := by
  refine ⟨by simp [o.len], o.b0, fun i d e => ?_, fun i h => ?_, fun i hi => ?_, fun i hi k hk a ha => ?_⟩
  · by_cases h : i = j
    · subst h
      rw [List.getElem?_set] at e
      by_cases hl : i < δ.length
      · simp [hl] at e
      · simp [hl] at e
    · rw [List.getElem?_set_ne (Ne.symm h)] at e
      rw [List.getElem?_set_ne (Ne.symm h), if_neg h]
      exact o.val i d e
  · by_cases h' : i = j
    · rw [if_pos h']
    · rw [if_neg h']; exact o.non i fun d z => h d (by rw [List.getElem?_set_ne (Ne.symm h')]; exact z)
  · have h : i ≠ j := fun z => hj (by rw [← z]; exact hi)
    rw [if_neg h]; exact o.own i hi
  · have h : i ≠ j := fun z => hj (by rw [← z]; exact hi)
    rw [if_neg h] at ha
    split
    · exact List.not_mem_nil
    · exact o.dj i hi k hk a ha
theorem asO_out {o : Option D} {P : DK} (h : asO o P) : ∃ d, o = some d ∧ P d := by
  unfold asO at h; split at h
  · exact ⟨_, rfl, h⟩
  · exact h.elim
theorem asLst_in {o : Option D} {es : List D} {Q : List D → Prop} (e : o = some (.lst es)) (h : Q es) : asLst o Q := by rw [e]; exact h
theorem Rfs.drop : ∀ {ds : List D} {xs : List V} {fq : List Addr} (n : Nat), Rfs K H ds xs fq → ∃ fq', Rfs K H (ds.drop n) (xs.drop n) fq'
  | ds, xs, fq, 0, h => ⟨fq, h⟩
  | [], xs, fq, n + 1, h => by obtain ⟨rfl, rfl⟩ := h; exact ⟨[], rfl, rfl⟩
  | d :: ds, xs, fq, n + 1, h => by
    obtain ⟨x, r, f1, f2, rfl, rfl, h1, h2⟩ := h
    exact Rfs.drop n h2
theorem Rfs.take : ∀ {ds : List D} {xs : List V} {fq : List Addr} (n : Nat), Rfs K H ds xs fq → ∃ fq', Rfs K H (ds.take n) (xs.take n) fq'
  | ds, xs, fq, 0, h => ⟨[], rfl, rfl⟩
  | [], xs, fq, n + 1, h => by obtain ⟨rfl, rfl⟩ := h; exact ⟨[], rfl, rfl⟩
  | d :: ds, xs, fq, n + 1, h => by
    obtain ⟨x, r, f1, f2, rfl, rfl, h1, h2⟩ := h
    obtain ⟨fq', h3⟩ := Rfs.take n h2
    exact ⟨f1 ++ fq', x, r.take n, f1, fq', rfl, rfl, h1, h3⟩
theorem Rfs.cut {ds : List D} {xs : List V} {fq : List Addr} (lo hi : Option Int) (h : Rfs K H ds xs fq) : ∃ fq', Rfs K H (cutD ds lo hi) (cutV xs lo hi) fq' := by
  unfold cutD cutV
  rw [h.length]
  obtain ⟨f1, h1⟩ := h.drop (HT.sIx ds.length 0 lo)
  exact h1.take _
theorem rd_new {ds : List D} {xs : List V} {fq : List Addr} {p : Addr} (h : Rfs K H ds xs fq) (hp : H p = none) : Same H (upd H p (.lst xs)) ∧ Rp K (upd H p (.lst xs)) (.lst ds) (.ref p) :=
  have s : Same H (upd H p (.lst xs)) := Same.new' hp
  ⟨s, p :: fq, p, xs, fq, rfl, upd_same, rfl, h.same s⟩
def vSlR (de : DE) (dl dh : DO) (δ : Dl) (P : DK) : Prop := de δ fun x => dl δ fun l => dh δ fun u => asL x fun ds => P (.lst (cutD ds l u))
theorem er_sl {tl th : TO} {dl dh : DO} (he : ER K Γ te de) (hl : OR K Γ tl dl) (hh : OR K Γ th dh) : ER K Γ (tSl (rSlL K) te tl th) (vSlR de dl dh) :=
  ⟨fun δ P P' k h => he.mono _ _ _ (fun x z => hl.mono _ _ _ (fun l z => hh.mono _ _ _ (fun u z => by obtain ⟨ds, e, z⟩ := asL_out z; exact asL_in e (k _ z)) z) z) h,
   fun {B0 fps δ σ H Q} o h => he.run o (he.mono _ _ _ (fun x z v H1 s1 r1 => hl.run (o.same s1) (hl.mono _ _ _ (fun l z H2 s2 => hh.run ((o.same s1).same s2) (hh.mono _ _ _ (fun u z H3 s3 => by
    obtain ⟨ds, e, z⟩ := asL_out z
    obtain ⟨a, xs, fq, rfl, hs, hr⟩ := (r1.same (s2.trans s3)).seq e
    obtain ⟨fq', hr'⟩ := hr.cut l u
    refine ⟨a, _, rfl, hs, fun p hp => ?_⟩
    obtain ⟨n1, n2⟩ := rd_new hr' hp
    exact z _ _ (((s1.trans s2).trans s3).trans n1) n2) z)) z)) h)⟩
def vCatR (x y : D) (P : DK) : Prop := match x, y with | .lst a, .lst b => a.length + b.length ≤ 1000 ∧ P (.lst (a ++ b)) | _, _ => False
theorem vCatR_lst {a b : List D} {P : DK} : vCatR (.lst a) (.lst b) P ↔ a.length + b.length ≤ 1000 ∧ P (.lst (a ++ b)) := Iff.rfl
def vRepR (x y : D) (P : DK) : Prop := match x, y with | .lst a, .int k => ((-(2 ^ 63) ≤ k ∧ k < 2 ^ 63) ∧ a.length * k.toNat ≤ 1000) ∧ P (.lst (repD a k.toNat)) | _, _ => False
theorem vRepR_lst {a : List D} {k : Int} {P : DK} : vRepR (.lst a) (.int k) P ↔ ((-(2 ^ 63) ≤ k ∧ k < 2 ^ 63) ∧ a.length * k.toNat ≤ 1000) ∧ P (.lst (repD a k.toNat)) := Iff.rfl
def vListR (xs : List D) (P : DK) : Prop := match xs with | [x] => asL x fun ds => P (.lst ds) | _ => False
theorem vListR_lst {ds : List D} {P : DK} : vListR [.lst ds] P ↔ P (.lst ds) := Iff.rfl
def vRevR (da : DE) (δ : Dl) (P : DK) : Prop := da δ fun x => asL x fun ds => P (.lst ds.reverse)
def vAppPop (i k : Nat) (dn : DE) (E : DEnds) (δ : Dl) : Prop := slotL δ i fun ds => slotL δ k fun es => dn δ fun x => asI [x] fun n => (ds.length < 1000 ∧ es.all D.scal = true ∧ 0 ≤ n ∧ n < 2 ^ 63) ∧ asO (es[n.toNat]?) fun y => E.nx ((δ.set k (some (.lst (es.eraseIdx n.toNat)))).set i (some (.lst (ds ++ [y]))))
theorem vEqS_bl {neg : Bool} {i j : Bool} {P : DK} : vEqS neg (.bl i) (.bl j) P ↔ P (.bl (if neg then !decide (i = j) else decide (i = j))) := by
  unfold vEqS
  simp only [D.scal, D.toV, scal, true_and, V.bl.injEq]
theorem vEqS_str {neg : Bool} {i j : Str} {P : DK} : vEqS neg (.str i) (.str j) P ↔ P (.bl (if neg then !decide (i = j) else decide (i = j))) := by
  unfold vEqS
  simp only [D.scal, D.toV, scal, true_and, V.str.injEq]
end
end L3
set_option Elab.async false
set_option linter.all false
set_option maxRecDepth 100000
set_option maxHeartbeats 4000000
namespace L3
open PySem
open L2 hiding D Rf Rfs Rp dI dT
def Rect (n m : Nat) (t : List (List Int)) : Prop := t.length = n ∧ ∀ r ∈ t, r.length = m
abbrev rowAt (t : List (List Int)) (i : Nat) : List Int := t.getD i []
abbrev cellAt (t : List (List Int)) (i j : Nat) : Int := (t.getD i []).getD j 0
abbrev setCell (t : List (List Int)) (i j : Nat) (v : Int) : List (List Int) := t.set i ((t.getD i []).set j v)
theorem rowAt_mem {t : List (List Int)} {i : Nat} (h : i < t.length) : rowAt t i ∈ t := by
  unfold rowAt
  rw [List.getD_eq_getElem?_getD, List.getElem?_eq_getElem h]
  exact List.getElem_mem h
theorem Rect.row {n m : Nat} {t : List (List Int)} (h : Rect n m t) {i : Nat} (hi : i < n) : (rowAt t i).length = m := h.2 _ (rowAt_mem (by rw [h.1]; exact hi))
theorem Rect.set {n m : Nat} {t : List (List Int)} (h : Rect n m t) {i : Nat} {r : List Int} (hr : r.length = m) : Rect n m (t.set i r) := by
  refine ⟨by rw [List.length_set]; exact h.1, fun x hx => ?_⟩
  rcases List.mem_or_eq_of_mem_set hx with z | z
  · exact h.2 x z
  · rw [z]; exact hr
theorem Rect.setCell {n m : Nat} {t : List (List Int)} (h : Rect n m t) {i j : Nat} {v : Int} (hi : i < n) : Rect n m (setCell t i j v) := h.set (by rw [List.length_set]; exact h.row hi)
theorem get_dT {t : List (List Int)} {i : Nat} (h : i < t.length) : (t.map dI)[i]? = some (dI (rowAt t i)) := by
  unfold rowAt
  rw [List.getElem?_map, List.getD_eq_getElem?_getD, List.getElem?_eq_getElem h]
  rfl
theorem at_dT {t : List (List Int)} {i : Int} (h0 : 0 ≤ i) (h : i < t.length) : atI (t.map dI) i = some (dI (rowAt t i.toNat)) := by
  unfold atI
  rw [ixN_nat h0 (by rw [List.length_map]; exact h)]
  exact get_dT (by omega)
section
variable {i j : Nat} {δ : Dl} {de d1 d2 dx : DE} {E : DEnds} {t : List (List Int)} {r : List Int} {a b v : Int}
theorem setItem_ints (hs : δ[i]? = some (some (dI r))) (hde : ∀ R : DK, R (.int v) → de δ R) (hdx : ∀ R : DK, R (.int a) → dx δ R) (ha : 0 ≤ a ∧ a < r.length) (h : E.nx (δ.set i (some (dI (r.set a.toNat v))))) : vSetItem i de dx E δ := by
  unfold vSetItem
  refine hde _ ((slotL_s hs).mpr (hdx _ ?_))
  show match ixN (r.map D.int).length a with | some j => E.nx (δ.set i (some (.lst ((r.map D.int).set j (.int v))))) | none => False
  rw [ixN_nat ha.1 (by rw [List.length_map]; exact ha.2)]
  show E.nx (δ.set i (some (.lst ((r.map D.int).set a.toNat (.int v)))))
  rw [set_dI]; exact h
end
theorem asO_ints {r : List Int} {a : Int} {P : DK} (ha : 0 ≤ a ∧ a < r.length) (h : P (.int (r.getD a.toNat 0))) : asO (atI (r.map D.int) a) P := (asO_at (at_dI ha.1 ha.2)).mpr h
theorem asO_rows {t : List (List Int)} {a : Int} {P : DK} (ha : 0 ≤ a ∧ a < t.length) (h : P (dI (rowAt t a.toNat))) : asO (atI (t.map dI) a) P := (asO_at (at_dT ha.1 ha.2)).mpr h
theorem map_dI {α : Type} {as : List α} {f : α → List Int} : as.map (fun a => dI (f a)) = (as.map f).map dI := by rw [List.map_map]; rfl
theorem map_int {α : Type} {as : List α} {f : α → Int} : as.map (fun a => D.int (f a)) = (as.map f).map D.int := by rw [List.map_map]; rfl
theorem am_cons0 {K : PySem.W.Frag} {Γ : List Nat} {ta : TE} {da : DE} {tr : TA} {dr : DA} (ha : EM K Γ [] ta da) (hr : AM K Γ [] tr dr) : AM K Γ [] (tCons ta tr) (vCons da dr) := am_cons ha hr (fun _ h => (nomatch h)) (fun _ h => (nomatch h))
theorem asO_idx {ds : List D} {a : Int} {P : DK} (h0 : 0 ≤ a) (h : a < ds.length) (k : asO (ds[a.toNat]?) P) : asO (atI ds a) P := by
  unfold atI; rw [ixN_nat h0 h]; exact k
theorem comp_copy {di : DI} {dg : D → Dl → (Dl → Prop) → Prop} {dt : DT} {de : DE} {k : Nat} {idx : List Nat} {δ : Dl} {P : DK} {t : List (List Int)} (hdi : ∀ R : List D → Prop, R (t.map dI) → di δ R) (hl : t.length ≤ 1000)
    (hb : ∀ r ∈ t, ∀ R : List D → Prop, R [dI r] → vBody dg dt de (cbaseD k idx δ) (dI r) R) (h : P (dT t)) : vComp di dg dt de k idx δ P := comp_rows (g := dI) hdi hl hb h
def colOf (t : List (List Int)) (j : Nat) : List Int := t.map fun r => r.getD j 0
end L3
namespace L3
open PySem
open L2 hiding D Rf Rfs Rp dI dT
def vInts (ns : List Int) (δ : Dl) (P : List D → Prop) : Prop := P (ns.map D.int)
end L3
namespace L3
open PySem
open L2 hiding D Rf Rfs Rp dI dT
theorem atI_c0 {a : D} {ds : List D} : atI (a :: ds) 0 = some a := by
  unfold atI; rw [ixN_nat (by omega) (by rw [List.length_cons]; omega)]; rfl
theorem atI_c1 {a b : D} {ds : List D} : atI (a :: b :: ds) 1 = some b := by
  unfold atI; rw [ixN_nat (by omega) (by rw [List.length_cons, List.length_cons]; omega)]; rfl
theorem atI_c2 {a b c : D} {ds : List D} : atI (a :: b :: c :: ds) 2 = some c := by
  unfold atI; rw [ixN_nat (by omega) (by rw [List.length_cons, List.length_cons, List.length_cons]; omega)]; rfl
theorem atI_c3 {a b c d : D} {ds : List D} : atI (a :: b :: c :: d :: ds) 3 = some d := by
  unfold atI; rw [ixN_nat (by omega) (by rw [List.length_cons, List.length_cons, List.length_cons, List.length_cons]; omega)]; rfl
end L3
set_option Elab.async false
set_option linter.all false
set_option maxRecDepth 100000
set_option maxHeartbeats 4000000
namespace L2
open PySem PySem.Spec PyProof.Rows
section
variable {prog : Program} {w : World} {A : Around} {E : Value → Shared → Prop} {s : Shared}
theorem draw_list {it t : Addr} {items : Array Value} (hne : t ≠ it) : ∀ (n i : Nat) (s : Shared) (Q : List Value → Shared → Prop), s.heap.IsListIter it t i → s.heap.IsList t items → i + n ≤ items.size →
    (∀ h', h'.IsListIter it t (i + n) → Heap.SameBut it s.heap h' → Q ((items.toList.drop i).take n) { s with heap := h' }) → wpAny (model prog w) A (draw (.ref it) n) Q E s
  | 0, i, s, Q, hit, _, _, hQ => by
    show wpAny _ _ (pure []) Q E s
    exact wpAny_pure (by simpa using hQ s.heap hit (Heap.SameBut.refl ..))
  | n + 1, i, s, Q, hit, ht, hle, hQ => by
    have hlt : i < items.size := by omega
    show wpAny _ _ (pyNext (.ref it) >>= _) Q E s
    refine wpAny_bind (wpAny_pyNext_list_item hit ht (x := items[i]) (by simp [hlt]) fun h₁ hit₁ hs₁ => ?_)
    have ht₁ : h₁.IsList t items := ht.at fun o e => (hs₁.2 t hne).trans e
    refine wpAny_bind (wpAny_holding (draw_list hne n (i + 1) _ _ hit₁ ht₁ (by omega) fun h₂ hit₂ hs₂ => wpAny_pure ?_))
    have hd : items.toList.drop i = items[i] :: items.toList.drop (i + 1) := by simp [List.drop_eq_getElem_cons, hlt]
    have := hQ h₂ (by rw [show i + (n + 1) = i + 1 + n by omega]; exact hit₂) (hs₁.trans hs₂)
    rw [hd, List.take_succ_cons] at this
    exact this
theorem unpackItems_list {t : Addr} {items : Array Value} {Q : List Value → Shared → Prop} (hh : A.handled = none) (ht : s.heap.IsList t items)
    (hQ : ∀ h', Heap.ExtBut s.heap.objs.size s.heap h' → Q items.toList { s with heap := h' }) : wpAny (model prog w) A (unpackItems (.ref t) items.size none) Q E s := by
  have hlt : t ≠ s.heap.objs.size := by obtain ⟨o, ho, _⟩ := ht; exact Nat.ne_of_lt (Heap.lt_size ho)
  unfold unpackItems
  refine wpAny_bind ?_
  · unfold notIterableAtAll
    refine wpAny_bind (wpAny_specialOf ht.typeIs PySem.F.slot_list_iter.lookup ?_)
    refine wpAny_pure ?_
    simp only [Bool.false_eq_true, if_false]
    refine wpAny_bind (wpAny_holding (wpAny_pyIter_list ht ?_))
    refine wpAny_bind (wpAny_holding (draw_list hlt items.size 0 _ _ ⟨_, Heap.get?_push_size _ rfl, rfl, rfl⟩ (ht.push _) (by omega) fun h₁ hit₁ hs₁ => ?_))
    have hall : List.take items.size (List.drop 0 items.toList) = items.toList := by
      rw [List.drop_zero]; exact List.take_of_length_le (by simp)
    rw [hall]
    rw [if_neg (by simp)]
    have ht₁ : h₁.IsList t items := (ht.push _).at fun o e => (hs₁.2 t hlt).trans e
    refine wpAny_bind (wpAny_holding (wpAny_pyNext_list_end hh hit₁ ht₁ (by simp) fun h₂ he₂ => ?_))
    simp only [Option.isSome_none, Bool.false_eq_true, if_false]
    refine wpAny_pure (hQ h₂ fun b o hb e => he₂ b o hb ((hs₁.2 b hb).trans (Heap.get?_push_of_some _ e)))
theorem assign_Tuple_list {env : Env} {elts : List Expr} {x1} {pos : Pos} {t : Addr} {items : Array Value} {Q : Unit → Shared → Prop} (hh : A.handled = none) (ht : s.heap.IsList t items)
    (hn : (assignEach elts env).length = items.size) (hstar : (assignEach elts env).findIdx? (·.1) = none)
    (h : ∀ h', Heap.ExtBut s.heap.objs.size s.heap h' → wpAny (model prog w) A (assignInOrder ((assignEach elts env).map (·.2)) items.toList) Q E { s with heap := h' }) :
    wpAny (model prog w) A (assign (.Tuple elts x1 pos) env (.ref t)) Q E s := by
  rw [assign_Tuple]
  refine wpAny_bind (wpAny_standAt ?_)
  unfold unpack
  rw [hn, hstar]
  exact wpAny_bind (wpAny_holding (unpackItems_list hh ht h))
end
section
variable {X : Cx} {K : PySem.W.Frag}
def gLst (K : PySem.W.Frag) (n : Nat) (t : TGs) : TG := fun v σ H Q => ∃ a xs, v = .ref a ∧ SqL K H a xs ∧ xs.length = n ∧ t xs σ H Q
theorem pg_lstK {es : List Expr} {k : Nat} {t : TGs} {n : Nat} {pos : Pos} (hK : X.K = K) (hc : X.calm = true) (h : PGs X es t)
    (hn : (assignEach es X.env).length = n := by rfl) (hst : (assignEach es X.env).findIdx? (·.1) = none := by rfl) : PG X (.Tuple es k pos) (gLst K n t) := by
  subst hK
  intro pins s σ H v u Q I r hw
  obtain ⟨a, xs, e1, hq, hl, hw⟩ := hw
  subst e1
  cases r
  obtain ⟨its, rv, ht, hz⟩ := I.list hq
  refine assign_Tuple_list (I.ok.hd hc) ht.isList (by simp [hn, ← hl, rv.length]) hst fun h' hx => ?_
  have I1 : Inv X pins σ H { s with heap := h' } := I.kept (t' := s.toks) fun b o e => hx b o (Nat.ne_of_lt (Heap.lt_size e)) e
  exact h pins _ σ H xs _ Q I1 (by simpa using rv) hw
def GSets (k : Nat) (g : TGs) : Prop := ∀ x σ H Q, g x σ H Q → g x σ H fun σ2 H2 => Q σ2 H2 ∧ σ2.length = σ.length ∧ ∀ j, k ≤ j → σ2[j]? = σ[j]?
theorem GSets.nil {k : Nat} : GSets k gNil := fun x σ H Q q => ⟨q.1, q.2, rfl, fun _ _ => rfl⟩
end
end L2
set_option Elab.async false
set_option linter.all false
set_option maxRecDepth 100000
set_option maxHeartbeats 4000000
namespace Maj
open L2 (fall fall_perm fall_desc fall_length)
def topk (xs : List Int) (k : Nat) : Int := ((fall xs).take k).sum
def Le (xs ys : List Int) : Prop := ∀ k, k ≤ xs.length → topk xs k ≤ topk ys k
theorem Le.trans {xs ys zs : List Int} (a : Le xs ys) (b : Le ys zs) (h : xs.length = ys.length) : Le xs zs := fun k hk => Int.le_trans (a k hk) (b k (by omega))
def above (one other : List Int) : List Nat := (List.range one.length).filter fun p => decide (topk other (p + 1) < topk one (p + 1))
end Maj
namespace L3
open PySem
open L2 hiding D Rf Rfs Rp dI dT
section
variable {K : PySem.W.Frag} {ρ : Bool} {Γr Γl Γ Γn : List Nat} {te : TE} {de : DE}
def vgLst (n : Nat) (dg : List D → Dl → (Dl → Prop) → Prop) (x : D) (δ : Dl) (P : Dl → Prop) : Prop := asL x fun ds => ds.length = n ∧ dg ds δ P
theorem gt_lst {n : Nat} {g : TGs} {dg : List D → Dl → (Dl → Prop) → Prop} (h : GTs K Γ g dg) : GT K Γ (gLst K n g) (vgLst n dg) :=
  ⟨fun x δ P P' k q => by obtain ⟨ds, e, z⟩ := asL_out q; exact asL_in e ⟨z.1, h.mono _ _ _ _ k z.2⟩,
   fun {B0 fps δ σ H x v fp Q} o r nn q => by
    obtain ⟨ds, e, z⟩ := asL_out q
    obtain ⟨a, xs, fq, rfl, hs, hr, hin⟩ := r.seq e
    exact ⟨a, xs, rfl, hs, hr.length.trans z.1, h.run o hr (fun j hj b hb => nn j hj b (hin b hb)) z.2⟩⟩
theorem ER.es0 (h : ER K [] te de) : ES K [] te de := ⟨h.mono, fun o q => h.run o (h.mono _ _ _ (fun x z v H' s r => let ⟨fp, r⟩ := r; z v H' fp s r fun j hj => (nomatch hj)) q)⟩
def vPar (i j : Nat) (da : DA) (E : DEnds) (δ : Dl) : Prop := da δ fun xs => match xs with | [x, y] => E.nx ((δ.set i (some x)).set j (some y)) | _ => False
end
end L3
set_option Elab.async false
set_option linter.all false
set_option maxRecDepth 100000
set_option maxHeartbeats 4000000
namespace L3
open PySem L2
section
variable {K : PySem.W.Frag}
def asIB (xs : List D) (P : Int → Prop) : Prop := match xs with | [.int j] => P j | [.bl b] => P (if b then 1 else 0) | _ => False
theorem asIB_int {i : Int} {P : Int → Prop} : asIB [.int i] P ↔ P i := Iff.rfl
theorem asIB_bl {b : Bool} {P : Int → Prop} : asIB [.bl b] P ↔ P (if b then 1 else 0) := Iff.rfl
theorem asIB_out {xs : List D} {P : Int → Prop} (h : asIB xs P) : (∃ i, xs = [.int i] ∧ P i) ∨ ∃ b, xs = [.bl b] ∧ P (if b then 1 else 0) := by
  unfold asIB at h; split at h
  · exact .inl ⟨_, rfl, h⟩
  · exact .inr ⟨_, rfl, h⟩
  · exact h.elim
def vIntB (xs : List D) (P : DK) : Prop := asIB xs fun i => P (.int i)
theorem c_int : CallV K (fun xs H Q => (∃ i, xs = [.int i] ∧ Q (.int i) H) ∨ ∃ k, xs = [.bl k] ∧ Q (.int (if k then 1 else 0)) H) vIntB :=
  ⟨fun xs P P' k h => by
    rcases asIB_out h with ⟨i, rfl, z⟩ | ⟨b, rfl, z⟩
    · exact k _ z
    · exact k _ z,
   fun {H xs vs Q} r h => by
    rcases asIB_out h with ⟨i, rfl, z⟩ | ⟨b, rfl, z⟩
    · exact .inl ⟨i, r.ints1, z _ H [] (Same.refl H) ⟨rfl, rfl⟩ Nw.nil⟩
    · refine .inr ⟨b, ?_, z _ H [] (Same.refl H) ⟨rfl, rfl⟩ Nw.nil⟩
      obtain ⟨fp, x, r, f1, f2, rfl, _, ⟨rfl, _⟩, ⟨rfl, _⟩⟩ := r
      rfl⟩
end
end L3
namespace L3
open PySem
open L2 hiding D Rf Rfs Rp dI dT
theorem at_last {ns : List Int} (h : 1 ≤ ns.length) : atI (ns.map D.int) (-1) = some (.int (ns.getD (ns.length - 1) 0)) := by
  unfold atI
  have : ixN (ns.map D.int).length (-1) = some (ns.length - 1) := by
    unfold ixN
    rw [List.length_map, if_neg (by omega), if_pos (by omega)]
    congr 1; omega
  rw [this]
  show (ns.map D.int)[ns.length - 1]? = _
  rw [List.getElem?_map, List.getD_eq_getElem?_getD, List.getElem?_eq_getElem (by omega)]; rfl
theorem asO_lastI {ns : List Int} {P : DK} (h : 1 ≤ ns.length) (k : P (.int (ns.getD (ns.length - 1) 0))) : asO (atI (ns.map D.int) (-1)) P := (asO_at (at_last h)).mpr k
end L3
set_option Elab.async false
set_option linter.all false
set_option maxRecDepth 100000
set_option maxHeartbeats 4000000
namespace L3
open PySem L2
structure AOk (K : PySem.W.Frag) (B0 : Hp) (Γ : List Nat) (i j m : Nat) (a0 : Addr) (fps : Nat → List Addr) (δ : Dl) (σ : St) (H : Hp) : Prop where
  ok : Ok K B0 Γ fps (δ.set j none) σ H
  hi : i ∈ Γ
  hj : j ∉ Γ
  al : ∃ ds es xs b, δ[i]? = some (some (.lst ds)) ∧ ds[m]? = some (.lst es) ∧ δ[j]? = some (some (.lst es)) ∧ σ[i]? = some (some (.ref a0)) ∧ H a0 = some (.lst xs) ∧ xs[m]? = some (.ref b) ∧ σ[j]? = some (some (.ref b))
section
variable {K : PySem.W.Frag} {ρ : Bool} {Γr Γl Γ : List Nat} {B0 : Hp} {i j m : Nat} {a0 : Addr} {fps : Nat → List Addr} {δ : Dl} {σ : St} {H H' : Hp} {t u : TS} {d e : Nat → DS} {te tx t1 : TE} {de dx d1 : DE}
theorem AOk.ne (o : AOk K B0 Γ i j m a0 fps δ σ H) : i ≠ j := fun z => o.hj (z ▸ o.hi)
theorem AOk.write (o : AOk K B0 Γ i j m a0 fps δ σ H) {ds es : List D} (h1 : δ[i]? = some (some (.lst ds))) (h2 : ds[m]? = some (.lst es)) {es' : List D} :
    ∃ b ys fe, σ[j]? = some (some (.ref b)) ∧ H b = some (.lst ys) ∧ Rfs K H es ys fe ∧ fe.Nodup ∧ b ∉ fe ∧ (∀ c ∈ fe, Mu H c) ∧ ∀ {ys' : List V} {fe' : List Addr}, Rfs K H es' ys' fe' → fe'.Nodup → (∀ c ∈ fe', c ∈ fe) →
      ∃ fps', AOk K B0 Γ i j m a0 fps' ((δ.set i (some (.lst (ds.set m (.lst es'))))).set j (some (.lst es'))) σ (upd H b (.lst ys')) := by
  obtain ⟨ds0, es0, xs, b, g1, g2, g3, g4, g5, g6, g7⟩ := o.al
  rw [h1] at g1; cases g1
  rw [h2] at g2; cases g2
  have e1 : (δ.set j none)[i]? = some (some (.lst ds)) := by rw [List.getElem?_set_ne (Ne.symm o.ne)]; exact h1
  obtain ⟨a, xs1, b1, ys, fe, q1, q2, q3, q4, q5, q6, q7, q8, q9, q10, KK⟩ := inner_ok (es' := es') o.ok o.hi e1 h2
  rw [g4] at q1; cases q1
  rw [g5] at q2; cases q2
  rw [g6] at q4; cases q4
  have hab : a0 ≠ b := fun z => by
    obtain ⟨a3, xs3, fq3, u1, u2, u3, u4⟩ := o.ok.ownL e1
    rw [g4] at u1; cases u1
    have nd3 := (o.ok.own i o.hi).1
    rw [u3] at nd3
    obtain ⟨b3, _, _, w1, _, _, w4, _⟩ := u4.inner (List.nodup_cons.mp nd3).2 h2
    rw [g5] at u2; cases u2
    rw [g6] at w1; cases w1
    exact (List.nodup_cons.mp nd3).1 (by rw [z]; exact w4)
  refine ⟨b, ys, fe, g7, q5, q6, q7, q8, fun c hc => ((o.ok.own i o.hi).2 c (q9 c hc)).2, fun {ys' fe'} r nd sub => ?_⟩
  obtain ⟨fps', ok'⟩ := KK r nd (fun z => q8 (sub b z)) (fun c hc => ((o.ok.own i o.hi).2 c (q9 c (sub c hc))).2) (fun c hc => .inl (sub c hc))
  have hli : i < δ.length := (List.getElem?_eq_some_iff.mp h1).1
  have hlj : j < δ.length := (List.getElem?_eq_some_iff.mp g3).1
  have hlm : m < ds.length := (List.getElem?_eq_some_iff.mp h2).1
  refine ⟨fps', ?_, o.hi, o.hj, ds.set m (.lst es'), es', xs, b, ?_, ?_, ?_, g4, by rw [upd_ne hab]; exact g5, g6, g7⟩
  · rw [List.set_set, List.set_comm _ _ o.ne]; exact ok'
  · rw [List.getElem?_set_ne (Ne.symm o.ne), List.getElem?_set_self hli]
  · rw [List.getElem?_set_self hlm]
  · rw [List.getElem?_set_self (by rw [List.length_set]; exact hlj)]
def STA (K : PySem.W.Frag) (i j : Nat) (t : TS) (Γ : List Nat) (d : Nat → DS) : Prop :=
  ∀ ⦃B0 : Hp⦄ ⦃Dn : Ends⦄ ⦃E : DEnds⦄ ⦃m : Nat⦄ ⦃a0 : Addr⦄ ⦃fps : Nat → List Addr⦄ ⦃δ : Dl⦄ ⦃σ : St⦄ ⦃H : Hp⦄, (∀ {fps δ σ H}, AOk K B0 Γ i j m a0 fps δ σ H → E.nx δ → Dn.nx σ H) → AOk K B0 Γ i j m a0 fps δ σ H → d m E δ → t Dn σ H
def vPutClear (i j m : Nat) (E : DEnds) (δ : Dl) : Prop := slotL δ i fun ds => E.nx ((δ.set i (some (.lst (ds.set m (.lst []))))).set j (some (.lst [])))
theorem sta_clear : STA K i j (tDrop (tBM0 K "list" rClear (tVar j))) Γ (fun m => vPutClear i j m) :=
  fun {B0 Dn E m a0 fps δ σ H} k o h => by
    obtain ⟨ds0, es0, xs, b, g1, g2, g3, g4, g5, g6, g7⟩ := o.al
    obtain ⟨ds, e1, h⟩ := slotL_out h
    rw [g1] at e1; cases e1
    obtain ⟨b', ys, fe, w1, w2, w3, w4, w5, w6, KK⟩ := o.write (es' := []) g1 g2
    rw [g7] at w1; cases w1
    obtain ⟨fps3, o3⟩ := KK (ys' := []) (fe' := []) ⟨rfl, rfl⟩ List.nodup_nil fun c hc => (nomatch hc)
    exact ⟨.ref b, g7, .inl ⟨rfl, ys, .inl (.inl w2)⟩, b, ys, rfl, rfl, w2, k o3 h⟩
def vForA (i j : Nat) (d : Nat → DS) (E : DEnds) (δ : Dl) : Prop := ∃ (L : Nat) (W : Nat → Dl → Prop), W 0 δ ∧ ∀ m δ, W m δ → slotL δ i fun ds => (ds.length = L ∧ j < δ.length) ∧
  if m < L then asLst (ds[m]?) fun es => d m { E with nx := fun δ' => W (m + 1) (δ'.set j none) } (δ.set j (some (.lst es))) else E.nx δ
theorem st_forA (i j : Nat) (hb : STA K i j t Γ d) (hi : i ∈ Γ := by decide) (hj : j ∉ Γ := by decide) (hij : i ≠ j := by decide) :
    ST K ρ Γr Γl (tFor (iList K (tVar i)) (gName j) t) Γ Γ (vForA i j d) := by
  intro B0 Dn E fps δ σ H k o h
  obtain ⟨L, W, w0, turn⟩ := h
  obtain ⟨ds, e, _⟩ := slotL_out (turn 0 δ w0)
  obtain ⟨a0, xs0, fq0, g1, g2, _⟩ := o.ownL e
  refine ⟨.ref a0, g1, a0, rfl, ⟨xs0, .inl (.inl g2)⟩, fun n m σ H => m = L - n ∧ ∃ fps δ, Ok K B0 Γ fps δ σ H ∧ W n δ ∧ σ[i]? = some (some (.ref a0)), ⟨L, rfl, fps, δ, o, w0, g1⟩, ?_⟩
  rintro n m σ2 H2 ⟨rfl, fps2, δ2, o2, w2, gi⟩
  obtain ⟨ds2, e2, ⟨hL, hjl⟩, z⟩ := slotL_out (turn n δ2 w2)
  obtain ⟨a1, xs, fq, q1, q2, q3, q4⟩ := o2.ownL e2
  rw [gi] at q1; cases q1
  have hxl := q4.length
  by_cases hlt : n < L
  · rw [if_pos hlt] at z
    obtain ⟨es, ej, z⟩ := asLst_out z
    obtain ⟨a, xs1, b, ys, fe, r1, r2, r3, r4, r5, _⟩ := inner_ok (es' := []) o2 hi e2 ej
    rw [gi] at r1; cases r1
    rw [q2] at r2; cases r2
    refine .inr ⟨⟨xs, .ref b, .inl (.inl q2), r4⟩, fun σ H => ∃ m', m' < L - n ∧ m' = L - (n + 1) ∧ ∃ fps δ, Ok K B0 Γ fps δ σ H ∧ W (n + 1) δ ∧ σ[i]? = some (some (.ref a0)), fun σ' H' q => q, fun x H3 hy => ?_⟩
    obtain ⟨rfl, hy⟩ := hy
    have ex := hy xs (.inl (.inl q2))
    rw [r4] at ex; cases ex
    refine hb (E := { E with nx := fun δ' => W (n + 1) (δ'.set j none) }) (m := n) (fun {fps δ σ H} ao z => ?_) ⟨by rw [List.set_set]; exact o2.dead j (.ref b) hj, hi, hj, ds2, es, xs, b, ?_, ej, ?_, ?_, q2, r4, ?_⟩ z
    · obtain ⟨ds3, es3, xs3, b3, k1, k2, k3, k4, k5, k6, k7⟩ := ao.al
      refine ⟨L - (n + 1), by omega, rfl, _, _, ao.ok, z, ?_⟩
      exact k4
    · rw [List.getElem?_set_ne (Ne.symm hij)]; exact e2
    · rw [List.getElem?_set_self hjl]
    · rw [List.getElem?_set_ne (Ne.symm hij)]; exact gi
    · rw [List.getElem?_set_self (by rw [o2.len]; exact hjl)]
  · rw [if_neg hlt] at z
    exact .inl ⟨⟨xs, .inl (.inl q2), by omega⟩, k.nx o2 z⟩
end
end L3
namespace L3
open PySem
open L2 hiding D Rf Rfs Rp dI dT
section
variable {δ : Dl} {i j : Nat} {t : List (List Int)} {a b v : Int} {d1 de dx : DE} {d : Nat → DS} {E : DEnds}
theorem forA_clear (hs : δ[i]? = some (some (dT t))) (hj : j < δ.length) (hij : i ≠ j) (h1 : 1 ≤ t.length) (h : E.nx ((δ.set i (some (dT (t.map fun _ => [])))).set j none)) : vForA i j (fun m => vPutClear i j m) E δ := by
  have hil : i < δ.length := (List.getElem?_eq_some_iff.mp hs).1
  refine ⟨t.length, fun m δ' => (m = 0 ∧ δ' = δ) ∨ (1 ≤ m ∧ m ≤ t.length ∧ δ' = (δ.set i (some (dT ((t.take m).map (fun _ => []) ++ t.drop m)))).set j none), .inl ⟨rfl, rfl⟩, ?_⟩
  have step : ∀ m (δ' : Dl), m < t.length → δ'[i]? = some (some (dT ((t.take m).map (fun _ => []) ++ t.drop m))) → j < δ'.length → (δ'.set i (some (dT ((t.take (m + 1)).map (fun _ => []) ++ t.drop (m + 1))))).set j none = (δ.set i (some (dT ((t.take (m + 1)).map (fun _ => []) ++ t.drop (m + 1))))).set j none →
      asLst (((t.take m).map (fun _ => ([] : List Int)) ++ t.drop m).map dI)[m]? fun es => vPutClear i j m { E with nx := fun δ'' => ((m + 1 = 0 ∧ δ''.set j none = δ) ∨ (1 ≤ m + 1 ∧ m + 1 ≤ t.length ∧ δ''.set j none = (δ.set i (some (dT ((t.take (m + 1)).map (fun _ => []) ++ t.drop (m + 1))))).set j none)) } (δ'.set j (some (.lst es))) := by
    intro m δ' hm e hj' hq
    have hget : (((t.take m).map (fun _ => ([] : List Int)) ++ t.drop m).map dI)[m]? = some (dI (t.getD m [])) := by
      rw [List.getElem?_map, List.getElem?_append_right (by rw [List.length_map, List.length_take]; omega), List.length_map, List.length_take, List.getElem?_drop]
      have : m + (m - min m t.length) = m := by omega
      rw [this, List.getD_eq_getElem?_getD, List.getElem?_eq_getElem hm]
      rfl
    refine asLst_in hget ?_
    unfold vPutClear
    refine (slotL_s (ds := (((t.take m).map (fun _ => ([] : List Int)) ++ t.drop m).map dI)) (by rw [List.getElem?_set_ne (Ne.symm hij)]; exact e)).mpr (.inr ⟨by omega, hm, ?_⟩)
    have hset : (((t.take m).map (fun _ => ([] : List Int)) ++ t.drop m).map dI).set m (.lst []) = (((t.take (m + 1)).map (fun _ => ([] : List Int)) ++ t.drop (m + 1))).map dI := by
      show (((t.take m).map (fun _ => ([] : List Int)) ++ t.drop m).map dI).set m (dI []) = _
      rw [← List.map_set]
      congr 1
      rw [List.set_append_right _ _ (by rw [List.length_map, List.length_take]; omega), List.length_map, List.length_take, Nat.min_eq_left (by omega), Nat.sub_self, List.drop_eq_getElem_cons hm, List.set_cons_zero, List.take_add_one, List.getElem?_eq_getElem hm, List.map_append]
      simp only [Option.toList, List.map_cons, List.map_nil, List.append_assoc, List.singleton_append]
    rw [hset, List.set_set]
    rw [List.set_comm _ _ (Ne.symm hij), List.set_set]
    exact hq
  rintro m δ' (⟨rfl, rfl⟩ | ⟨m1, m2, rfl⟩)
  · refine (slotL_s hs).mpr ⟨⟨by rw [List.length_map], hj⟩, ?_⟩
    rw [if_pos (by omega)]
    exact step 0 δ' (by omega) (by simpa using hs) hj rfl
  · have e2 : ((δ.set i (some (dT ((t.take m).map (fun _ => []) ++ t.drop m)))).set j none)[i]? = some (some (dT ((t.take m).map (fun _ => []) ++ t.drop m))) := by
      rw [List.getElem?_set_ne (Ne.symm hij), List.getElem?_set_self hil]
    refine (slotL_s e2).mpr ⟨⟨by rw [List.length_map, List.length_append, List.length_map, List.length_take, List.length_drop]; omega, by simpa using hj⟩, ?_⟩
    by_cases hm : m < t.length
    · rw [if_pos hm]
      refine step m _ hm e2 (by simpa using hj) ?_
      rw [show ∀ A B : Option D, ((δ.set i A).set j none).set i B = (δ.set i B).set j none from fun A B => by rw [List.set_comm _ _ (Ne.symm hij), List.set_set], List.set_set]
    · rw [if_neg hm]
      have : m = t.length := by omega
      subst this
      rw [List.take_length, List.drop_length, List.append_nil]
      exact h
end
end L3
set_option Elab.async false
set_option linter.all false
set_option maxRecDepth 100000
set_option maxHeartbeats 4000000
namespace L3
open PySem L2
def D.flat : D → Bool
  | .tup ds => ds.all D.scal
  | d => d.scal
theorem Rf.flat {K : PySem.W.Frag} {H : Hp} {d : D} {v : V} {fp : List Addr} (h : Rf K H d v fp) (s : d.flat = true) : fp = [] := by
  cases d with
  | tup ds =>
    obtain ⟨a, xs, rfl, h2, h3⟩ := h
    exact (h3.scals s).2
  | _ => first | exact (h.scal s).2 | cases s
theorem flat_int {i : Int} : (D.int i).flat = true := rfl
theorem flat_bl {b : Bool} : (D.bl b).flat = true := rfl
theorem flat_tup4 {a b c d : Int} : (D.tup [.int a, .int b, .int c, .int d]).flat = true := rfl
theorem flat_tup3 {a b c : Int} : (D.tup [.int a, .int b, .int c]).flat = true := rfl
theorem flat_tup2 {a b : Int} : (D.tup [.int a, .int b]).flat = true := rfl
def vFlat (d : DE) (δ : Dl) (P : DK) : Prop := d δ fun x => x.flat = true ∧ P x
theorem ER.flat {K : PySem.W.Frag} {Γ : List Nat} {t : TE} {d : DE} (h : ER K Γ t d) : EM K Γ [] t (vFlat d) := ⟨fun δ P P' k q => h.mono _ _ _ (fun x z => ⟨z.1, k x z.2⟩) q, fun o q => h.run o (h.mono _ _ _ (fun x z v H' s r => by
  obtain ⟨fp, r⟩ := r
  have e := r.flat z.1
  subst e
  exact z.2 v H' [] s r Nw.nil) q)⟩
end L3
namespace L3
open PySem
open L2 hiding D Rf Rfs Rp dI dT
def Ones (n m : Nat) (t : List (List Int)) : Prop := Rect n m t ∧ ∀ r ∈ t, ∀ x ∈ r, x = 0 ∨ x = 1
theorem Ones.set {n m a b : Nat} {t : List (List Int)} {v : Int} (h : Ones n m t) (ha : a < n) (hv : v = 0 ∨ v = 1) : Ones n m (setCell t a b v) := by
  refine ⟨h.1.setCell ha, fun r hr x hx => ?_⟩
  have hl := h.1.1
  rcases List.mem_or_eq_of_mem_set hr with z | z
  · exact h.2 r z x hx
  · rw [z] at hx
    rcases List.mem_or_eq_of_mem_set hx with w | w
    · exact h.2 _ (rowAt_mem (by omega)) x w
    · rw [w]; exact hv
def CanSwap (n m : Nat) (t : List (List Int)) (i j k l : Int) : Prop := (0 ≤ i ∧ i < n) ∧ (0 ≤ k ∧ k < n) ∧ (0 ≤ j ∧ j < m) ∧ (0 ≤ l ∧ l < m) ∧ cellAt t i.toNat j.toNat = 1 ∧ cellAt t i.toNat l.toNat = 0 ∧ cellAt t k.toNat j.toNat = 0 ∧ cellAt t k.toNat l.toNat = 1
instance {n m : Nat} {t : List (List Int)} {i j k l : Int} : Decidable (CanSwap n m t i j k l) := by unfold CanSwap; infer_instance
end L3
set_option linter.all false
set_option maxRecDepth 100000
namespace L2
open PySem PySem.Spec PyProof.Rows
section
variable {κ : Type} [DecidableEq κ]
def valV (kvs : List (κ × V)) (k : κ) : Option V := (kvs.find? fun kv => decide (kv.1 = k)).map (·.2)
def putK (kvs : List (κ × V)) (k : κ) (v : V) : List (κ × V) :=
  if (kvs.any fun kv => decide (kv.1 = k)) = true then kvs.map (fun kv => if kv.1 = k then (kv.1, v) else kv) else kvs ++ [(k, v)]
theorem RelO.getD {o : Option V} {u : Option Value} {d : V} {d' : Value} (r : RelO o u) (rd : RelV d d') : RelV (o.getD d) (u.getD d') := by
  cases o with
  | none => cases u with
    | none => exact rd
    | some _ => exact (show False from r).elim
  | some _ => cases u with
    | none => exact (show False from r).elim
    | some _ => exact r
theorem KV.any {kvs : List (κ × V)} {vs : List (κ × Value)} (r : KV kvs vs) (k : κ) : (kvs.any fun kv => decide (kv.1 = k)) = vs.any fun kv => decide (kv.1 = k) := by
  unfold KV at r
  induction r with
  | nil => rfl
  | cons h t ih => rw [List.any_cons, List.any_cons, ih, h.1]
theorem KV.length {kvs : List (κ × V)} {vs : List (κ × Value)} (r : KV kvs vs) : kvs.length = vs.length := Paired.length r
end
section
variable {P : Program} {w : World} {H : Hp} {h : Heap} {a : Addr}
end
section
variable {X : Cx} {pins : List (Addr × Obj)} {σ : St} {H : Hp} {s : Shared} {a : Addr} {y v : V} {u r : Value} {o : Option V} {A : Around} {E : Value → Shared → Prop}
theorem Inv.big (I : Inv X pins σ H s) : sysModules < s.heap.objs.size := by
  have h : mainGlobals < s.heap.objs.size := (I.mod.glob.keeps I.bk).lt
  exact Nat.lt_trans (by decide) h
theorem d_write {h' : Heap} {t' : Nat} {ob : HO} (I : Inv X pins σ H s) (mu : Mut (H a)) (hs : Heap.SameBut a s.heap h') (he : ∃ q, h'.get? a = some q) (new : ObjOk X.prog X.w (upd H a ob) h' a ob) :
    Inv X pins σ (upd H a ob) { s with heap := h', toks := t' } :=
  I.write (x := a) (e := a) mu (.inl rfl) (fun b q hb z => (hs.2 b hb).trans z) he new
end
section
variable {X : Cx} {pins : List (Addr × Obj)} {σ : St} {H : Hp} {s : Shared} {a : Addr} {kvs : List (Key × V)} {k : Key} {u : Value} {A : Around} {E : Value → Shared → Prop}
end
section
variable {X : Cx} {o i e value : Expr} {pos pos' tpos : Pos} {td ty tv : TE}
end
section
variable {X : Cx} {pos : Pos}
end
structure M2 (X : Cx) (o : Expr) (m : Str) (apos : Pos) (e f : Expr) (cpos : Pos) : Prop where
  base : attributeBase o m X.env (eval o X.env) = eval o X.env
  few : ((backTo cpos (starEach [e, f] X.env)).all (fun x => !x.1) && (backToKw cpos (keywordEach [] X.env)).all (fun x => x.1.isSome)
    && decide (([e, f] : List Expr).length + ([] : List Keyword).length + (if ([] : List Keyword).isEmpty then 0 else 1) < 30)) = true
  line : (apos.endLine == cpos.line) = true
  trees : backTo cpos (starEach [e, f] X.env) = [(false, eval e X.env), (false, eval f X.env)]
section
variable {X : Cx} {pins : List (Addr × Obj)} {σ : St} {H : Hp} {s : Shared} {a : Addr} {y d : V} {u r : Value} {o : Option V} {A : Around} {E : Value → Shared → Prop}
end
section
variable {X : Cx} {o e f : Expr} {apos cpos : Pos} {td ty tx : TE}
end
section
variable {X : Cx} {pins : List (Addr × Obj)} {σ : St} {H : Hp} {s : Shared} {a : Addr} {kvs : List (Key × V)} {A : Around} {E : Value → Shared → Prop}
end
section
variable {X : Cx} {pins : List (Addr × Obj)} {σ : St} {H : Hp} {s : Shared} {a : Addr} {y : V} {u : Value} {A : Around} {E : Value → Shared → Prop}
end
end L2
set_option Elab.async false
set_option linter.all false
set_option maxRecDepth 100000
set_option maxHeartbeats 4000000
namespace L3
open PySem L2
section
variable {K : PySem.W.Frag} {ρ : Bool} {Γr Γl Γ Γ1 Γ2 Γn M : List Nat} {t u : TS} {te ta tb tx t1 t2 : TE} {de da db dx d1 d2 : DE} {d e : DS}
variable {B0 : Hp} {fps : Nat → List Addr} {δ : Dl} {σ : St} {H H' : Hp}
def slotP (δ : Dl) (i : Nat) (P : Addr → D → Prop) : Prop := match δ[i]? with | some (some (.pin a d)) => P a d | _ => False
theorem Ok.redata (o : Ok K B0 Γ fps δ σ H) {i : Nat} {x y : D} (e : δ[i]? = some (some x)) (h : ∀ v, σ[i]? = some (some v) → Rf K H x v (fps i) → Rf K H y v (fps i)) : Ok K B0 Γ fps (δ.set i (some y)) σ H := by
  have hl : i < δ.length := (List.getElem?_eq_some_iff.mp e).1
  refine ⟨by rw [List.length_set]; exact o.len, o.b0, fun j d q => ?_, fun j q => ?_, o.own, o.dj⟩
  · by_cases hj : j = i
    · subst hj
      rw [List.getElem?_set_self hl] at q; cases q
      obtain ⟨v, h1, h2⟩ := o.val j x e
      exact ⟨v, h1, h v h1 h2⟩
    · rw [List.getElem?_set_ne (Ne.symm hj)] at q
      exact o.val j d q
  · by_cases hj : j = i
    · subst hj
      exact absurd (List.getElem?_set_self hl) (q y)
    · exact o.non j fun d z => q d (by rw [List.getElem?_set_ne (Ne.symm hj)]; exact z)
def vPin (i : Nat) (d : DS) (E : DEnds) (δ : Dl) : Prop := slotP δ i fun a x => d { E with nx := fun δ' => vVar i δ' fun x' => E.nx (δ'.set i (some (.pin a x'))) } (δ.set i (some x))
def vVarP (i : Nat) (δ : Dl) (P : DK) : Prop := slotP δ i fun _ x => P x
def D.isRef : D → Bool | .lst _ => true | .dic _ => true | .pin _ _ => true | .ins _ _ _ => true | _ => false
theorem Rf.isRef {x : D} {v : V} {fp : List Addr} (h : Rf K H x v fp) (e : x.isRef = true) : ∃ a, v = .ref a := by
  cases x with
  | lst ds => obtain ⟨a, xs, fq, rfl, _⟩ := h; exact ⟨a, rfl⟩
  | dic ds => obtain ⟨a, rfl, _⟩ := h; exact ⟨a, rfl⟩
  | pin a d => exact ⟨a, h.1⟩
  | ins C ns ds => obtain ⟨a, dx, xs, fq, rfl, _⟩ := h; exact ⟨a, rfl⟩
  | _ => cases e
abbrev DSI := List D → (D → D → Prop) → Prop
def vCallI (i p : Nat) (S : DSI) (da : DA) (E : DEnds) (δ : Dl) : Prop := da δ fun xs => (∀ x, xs[p]? = some x → x.isRef = true) ∧ S xs fun _ x' => E.nx (δ.set i (some x'))
def vSetI (i p j : Nat) (S : DSI) (da : DA) (E : DEnds) (δ : Dl) : Prop := da δ fun xs => (∀ x, xs[p]? = some x → x.isRef = true) ∧ S xs fun r x' => E.nx ((δ.set i (some x')).set j (some r))
end
end L3
set_option Elab.async false
set_option linter.all false
set_option maxRecDepth 100000
set_option maxHeartbeats 4000000
namespace L2
open PySem PySem.Spec PyProof.Rows
section
variable {X : Cx}
end
end L2
namespace L2
open PySem PySem.Spec PyProof.Rows
section
variable {X : Cx} {K : PySem.W.Frag}
theorem call_sortedK (hK : X.K = K) : CallR X (.builtin "sorted") (fun xs H Q => ∃ (a : Addr) (ns : List Int), xs = [.ref a] ∧ SqL K H a (ns.map V.int) ∧ ns.length < 64 ∧
    ∀ (l : Addr) (ms : List Int), H l = none → ms.Perm ns → ms.Pairwise (· ≤ ·) → Q (.ref l) (upd H l (.lst (ms.map V.int)))) := by
  subst hK
  intro pins s σ H xs us Q I r h
  obtain ⟨a, ns, rfl, hS, hz, q⟩ := h
  obtain ⟨u, rfl, ru⟩ := vals1 r
  obtain rfl : u = Value.ref a := ru
  obtain ⟨its, rv, pl, _⟩ := I.list hS
  have hl := rv.length
  rw [List.length_map] at hl
  refine sorted_ints pl.isList (ints_are rv) (by omega) fun out ms a1 a2 a3 => ?_
  obtain ⟨n, he⟩ := sortedAll_at s.heap its out
  have hn : H (s.heap.objs.size + 1) = none := I.hok.fresh (Nat.le_succ _)
  have hlm := a2.length_eq
  refine ⟨.ref (s.heap.objs.size + 1), _, I.laid (t' := s.toks) (o := .lst (ms.map V.int)) (fun b o e => sortedAll_old e) (Nat.le_succ _) ⟨?_, out.toList, n, vals_of_ints a1, ?_⟩, rfl, q _ ms hn a2 a3⟩
  · rw [List.length_map]; exact small (by omega)
  · exact he
end
end L2
set_option Elab.async false
set_option linter.all false
set_option maxRecDepth 100000
set_option maxHeartbeats 4000000
namespace L2
open PySem PySem.Spec PyProof.Rows
end L2
namespace L3
open PySem L2
section
variable {K : PySem.W.Frag} {ρ : Bool} {Γr Γl Γ Γ1 Γ2 Γn M : List Nat} {t u : TS} {te ta tb td ty tv : TE} {de da db dd dk dv : DE} {d e : DS}
def ofV : V → D | .non => .non | .bl b => .bl b | .int i => .int i | .str x => .str x | _ => .non
def asDic (x : D) (P : List (Key × V) → Prop) : Prop := match x with | .dic kvs => P kvs | _ => False
theorem asDic_dic {kvs : List (Key × V)} {P : List (Key × V) → Prop} : asDic (.dic kvs) P ↔ P kvs := Iff.rfl
def asV (o : Option V) (P : V → Prop) : Prop := match o with | some v => P v | none => False
def vDGet (dd dk : DE) (δ : Dl) (P : DK) : Prop := dd δ fun x => dk δ fun y => asI [y] fun n => asDic x fun kvs => asV (valV kvs (.inl n)) fun v => P (ofV v)
def vDIn (neg : Bool) (dk dd : DE) (δ : Dl) (P : DK) : Prop := dk δ fun y => dd δ fun x => asI [y] fun n => asDic x fun kvs => P (.bl (if neg then !(valV kvs (.inl n)).isSome else (valV kvs (.inl n)).isSome))
def slotD (δ : Dl) (i : Nat) (P : List (Key × V) → Prop) : Prop := vVar i δ fun x => asDic x P
def vDPut (i : Nat) (dk dv : DE) (E : DEnds) (δ : Dl) : Prop := dv δ fun x => x.scal = true ∧ slotD δ i fun kvs => dk δ fun y => asI [y] fun n => kvs.length < 1000 ∧ E.nx (δ.set i (some (.dic (putK kvs (.inl n) x.toV))))
def vIndex (da dk : DE) (δ : Dl) (P : DK) : Prop := da δ fun x => asLst (some x) fun ds => ds.all D.scal = true ∧ dk δ fun y => y.scal = true ∧ ∃ j : Nat, (∃ z, ds[j]? = some z ∧ eqV z.toV y.toV = true) ∧ (∀ m z, m < j → ds[m]? = some z → eqV z.toV y.toV = false) ∧ P (.int j)
def vSort (xs : List D) (P : DK) : Prop := match xs with | [x] => asNs x fun ns => ns.length < 64 ∧ ∀ ms : List Int, ms.Perm ns → ms.Pairwise (· ≤ ·) → P (dI ms) | _ => False
theorem vSort_ints {ns : List Int} {P : DK} : vSort [dI ns] P ↔ ns.length < 64 ∧ ∀ ms : List Int, ms.Perm ns → ms.Pairwise (· ≤ ·) → P (dI ms) := asNs_ints
theorem c_sort : CallV K (fun xs H Q => ∃ (a : Addr) (ns : List Int), xs = [.ref a] ∧ SqL K H a (ns.map V.int) ∧ ns.length < 64 ∧ ∀ (l : Addr) (ms : List Int), H l = none → ms.Perm ns → ms.Pairwise (· ≤ ·) → Q (.ref l) (upd H l (.lst (ms.map V.int)))) vSort :=
  ⟨fun xs P P' k h => by
    unfold vSort at h ⊢
    revert h
    split
    · exact fun h => by obtain ⟨ns, e, z⟩ := asNs_out h; exact asNs_in e ⟨z.1, fun ms a b => k _ (z.2 ms a b)⟩
    · exact id,
   fun {H xs vs Q} r h => by
    unfold vSort at h
    split at h
    · obtain ⟨v, rfl, r0⟩ := r.one
      obtain ⟨ns, e, z⟩ := asNs_out h
      obtain ⟨a, ys, fq, rfl, hs, hr⟩ := r0.seq e
      rw [hr.intsV] at hs
      exact ⟨a, ns, rfl, hs, z.1, fun l ms hl hp ho => z.2 ms hp ho _ _ [l] (Same.new' hl) (Rf.ofInts upd_same) (Nw.one hl upd_same).any⟩
    · exact h.elim⟩
def slotT (δ : Dl) (i : Nat) (P : List D → Prop) : Prop := match δ[i]? with | some (some (.tup ds)) => P ds | _ => False
def vClearT (i : Nat) (dk : DE) (E : DEnds) (δ : Dl) : Prop := slotT δ i fun ds => dk δ fun y => asI [y] fun m => 0 ≤ m ∧ asLst (ds[m.toNat]?) fun _ => E.nx (δ.set i none)
theorem isRef_lst {ds : List D} : (D.lst ds).isRef = true := rfl
theorem isRef_dic {ds : List (Key × V)} : (D.dic ds).isRef = true := rfl
theorem ofV_int {i : Int} : ofV (.int i) = .int i := rfl
theorem ofV_bl {b : Bool} : ofV (.bl b) = .bl b := rfl
theorem ofV_non : ofV .non = .non := rfl
def vLenD (xs : List D) (P : DK) : Prop := match xs with | [.dic kvs] => P (.int kvs.length) | _ => False
theorem vLenD_dic {kvs : List (Key × V)} {P : DK} : vLenD [.dic kvs] P ↔ P (.int kvs.length) := Iff.rfl
end
end L3
set_option Elab.async false
set_option linter.all false
set_option maxRecDepth 100000
set_option maxHeartbeats 4000000
namespace Mat
theorem nodup_sub : ∀ {l l' : List Nat}, l.Nodup → (∀ x ∈ l, x ∈ l') → l.length ≤ l'.length
  | [], _, _, _ => Nat.zero_le _
  | x :: l, l', h, s => by
    obtain ⟨h1, h2⟩ := List.nodup_cons.mp h
    have hx := s x List.mem_cons_self
    have := nodup_sub (l' := l'.erase x) h2 fun y hy => (List.mem_erase_of_ne (fun z => h1 (by rw [← z]; exact hy))).mpr (s y (List.mem_cons_of_mem _ hy))
    rw [List.length_erase_of_mem hx] at this
    have : 0 < l'.length := List.length_pos_of_mem hx
    rw [List.length_cons]; omega
theorem nodup_lt {l : List Nat} {n : Nat} (h : l.Nodup) (hl : ∀ x ∈ l, x < n) : l.length ≤ n := by
  have := nodup_sub h (l' := List.range n) fun x hx => List.mem_range.mpr (hl x hx)
  rwa [List.length_range] at this
def put (src : Nat → Option Nat) (c s : Nat) : Nat → Option Nat := fun d => if d = c then some s else src d
end Mat
namespace Mat
end Mat
namespace Mat
end Mat
set_option Elab.async false
set_option linter.all false
set_option maxRecDepth 100000
set_option maxHeartbeats 4000000
namespace L2
open PySem PySem.Spec PyProof.Rows
theorem GSets.cons {i k : Nat} {u : TGs} (h : i < k) (hu : GSets k u) : GSets k (gCons (gName i) u) := fun x σ H Q ⟨v, r, e, q⟩ => ⟨v, r, e, by
  have q2 := hu r (σ.set i (some v)) H Q q
  have e1 : (fun (σ2 : St) (H2 : Hp) => Q σ2 H2 ∧ σ2.length = (σ.set i (some v)).length ∧ ∀ j, k ≤ j → σ2[j]? = (σ.set i (some v))[j]?) = fun σ2 H2 => Q σ2 H2 ∧ σ2.length = σ.length ∧ ∀ j, k ≤ j → σ2[j]? = σ[j]? := by
    funext σ2 H2
    refine propext ⟨fun z => ⟨z.1, by rw [z.2.1, List.length_set], fun j hj => by rw [z.2.2 j hj, List.getElem?_set_ne (by omega)]⟩, fun z => ⟨z.1, by rw [z.2.1, List.length_set], fun j hj => by rw [z.2.2 j hj, List.getElem?_set_ne (by omega)]⟩⟩
  rw [e1] at q2
  exact q2⟩
theorem GSet.tup {K : PySem.W.Frag} {k n : Nat} {u : TGs} (hu : GSets k u) : GSet k (gTup K n u) := fun x σ H Q ⟨a, xs, e, hs, hl, q⟩ => ⟨a, xs, e, hs, hl, hu xs σ H Q q⟩
end L2
set_option Elab.async false
set_option linter.all false
set_option maxRecDepth 100000
set_option maxHeartbeats 4000000
namespace L3
open PySem L2
section
variable {K : PySem.W.Frag} {ρ : Bool} {Γr Γl Γ Γ1 Γ2 Γn M : List Nat} {t u : TS} {te ta tb : TE} {de da db : DE} {d e : DS}
theorem Ok.deadS {B0 : Hp} {fps : Nat → List Addr} {δ : Dl} {σ σ' : St} {H : Hp} (o : Ok K B0 Γ fps δ σ H) (j : Nat) (hj : j ∉ Γ) (hl : σ'.length = σ.length) (hs : ∀ l, l ≠ j → σ'[l]? = σ[l]?) : Ok K B0 Γ (fun i => if i = j then [] else fps i) (δ.set j none) σ' H := by
  refine ⟨by simp [o.len, hl], o.b0, fun i d e => ?_, fun i h => ?_, fun i hi => ?_, fun i hi k hk a ha => ?_⟩
  · by_cases h : i = j
    · subst h
      rw [List.getElem?_set] at e
      by_cases hl : i < δ.length
      · simp [hl] at e
      · simp [hl] at e
    · rw [List.getElem?_set_ne (Ne.symm h)] at e
      rw [hs i h, if_neg h]
      exact o.val i d e
  · by_cases h' : i = j
    · rw [if_pos h']
    · rw [if_neg h']; exact o.non i fun d z => h d (by rw [List.getElem?_set_ne (Ne.symm h')]; exact z)
  · have h : i ≠ j := fun z => hj (by rw [← z]; exact hi)
    rw [if_neg h]; exact o.own i hi
  · have h : i ≠ j := fun z => hj (by rw [← z]; exact hi)
    rw [if_neg h] at ha
    split
    · exact List.not_mem_nil
    · exact o.dj i hi k hk a ha
def vClearTs (i j : Nat) (k : Nat) (E : DEnds) (δ : Dl) : Prop := slotL δ i fun ds => j < δ.length ∧ (∀ (m : Nat) (d : D), ds[m]? = some d → ∃ (es e : List D), d = D.tup es ∧ es[k]? = some (D.lst e)) ∧ E.nx ((δ.set j none).set i (some (.lst [])))
end
end L3
namespace L3
open PySem L2
end L3
set_option Elab.async false
set_option linter.all false
set_option maxRecDepth 100000
set_option maxHeartbeats 4000000
namespace Bir
section
variable {κ : Type} [DecidableEq κ]
def dot (ks : List κ) (f v : κ → Int) : Int := (ks.map fun k => f k * v k).sum
theorem dot_zero {f v : κ → Int} : ∀ {ks : List κ}, (∀ k ∈ ks, f k = 0) → dot ks f v = 0
  | [], _ => rfl
  | k :: ks, h => by
    unfold dot
    rw [List.map_cons, List.sum_cons, h k List.mem_cons_self]
    have := dot_zero (v := v) (ks := ks) fun x hx => h x (List.mem_cons_of_mem _ hx)
    unfold dot at this
    rw [this]; omega
theorem dot_lin {f g v : κ → Int} {a b : Int} : ∀ {ks : List κ}, dot ks (fun x => a * g x - b * f x) v = a * dot ks g v - b * dot ks f v
  | [] => by simp [dot]
  | k :: ks => by
    have := dot_lin (f := f) (g := g) (v := v) (a := a) (b := b) (ks := ks)
    unfold dot at this ⊢
    rw [List.map_cons, List.map_cons, List.map_cons, List.sum_cons, List.sum_cons, List.sum_cons, this, Int.mul_add, Int.mul_add, Int.sub_mul, Int.mul_assoc, Int.mul_assoc]
    omega
theorem dot_erase {f v : κ → Int} {k : κ} : ∀ {ks : List κ}, f k = 0 → dot (ks.erase k) f v = dot ks f v
  | [], _ => rfl
  | x :: ks, h => by
    by_cases e : x = k
    · subst e
      rw [List.erase_cons_head]
      unfold dot
      rw [List.map_cons, List.sum_cons, h]; omega
    · rw [List.erase_cons_tail (by simpa using e)]
      have := dot_erase (f := f) (v := v) (ks := ks) h
      unfold dot at this ⊢
      rw [List.map_cons, List.map_cons, List.sum_cons, List.sum_cons, this]
theorem tri_le : ∀ (m : Nat) (l : List ((κ → Int) × (κ → Int))) (ks : List κ), l.length = m → (∀ p ∈ l, dot ks p.1 p.2 ≠ 0) → l.Pairwise (fun p q => dot ks p.1 q.2 = 0) → l.length ≤ ks.length
  | 0, l, ks, hm, _, _ => by omega
  | m + 1, [], ks, hm, _, _ => by simp
  | m + 1, (f, v) :: l, ks, hm, h1, h2 => by
    obtain ⟨h3, h4⟩ := List.pairwise_cons.mp h2
    have hne := h1 (f, v) List.mem_cons_self
    obtain ⟨k, hk, hf⟩ : ∃ k ∈ ks, f k ≠ 0 := by
      by_cases z : ∃ k ∈ ks, f k ≠ 0
      · exact z
      · refine absurd (dot_zero fun k hk => ?_) hne
        by_cases y : f k = 0
        · exact y
        · exact absurd ⟨k, hk, y⟩ z
    have key : ∀ (g w : κ → Int), dot ks f w = 0 → dot (ks.erase k) (fun x => f k * g x - g k * f x) w = f k * dot ks g w := fun g w hw => by
      rw [dot_erase (by rw [Int.mul_comm]; omega), dot_lin, hw]; omega
    have ih := tri_le m (l.map fun p => (fun x => f k * p.1 x - p.1 k * f x, p.2)) (ks.erase k) (by rw [List.length_map]; simpa using hm) (fun p hp => ?_) ?_
    · rw [List.length_map, List.length_erase_of_mem hk] at ih
      have : 0 < ks.length := List.length_pos_of_mem hk
      rw [List.length_cons]; omega
    · obtain ⟨q, hq, rfl⟩ := List.mem_map.mp hp
      show dot (ks.erase k) (fun x => f k * q.1 x - q.1 k * f x) q.2 ≠ 0
      rw [key q.1 q.2 (h3 q hq)]
      exact Int.mul_ne_zero hf (h1 q (List.mem_cons_of_mem _ hq))
    · rw [List.pairwise_map]
      refine List.Pairwise.imp_of_mem (fun {p q} hp hq h => ?_) h4
      show dot (ks.erase k) (fun x => f k * p.1 x - p.1 k * f x) q.2 = 0
      rw [key p.1 q.2 (h3 q hq), h]; omega
end
def S (m : Nat) (f : Nat → Int) : Int := ((List.range m).map f).sum
theorem S_succ {m : Nat} {f : Nat → Int} : S (m + 1) f = S m f + f m := by
  unfold S; rw [List.range_succ, List.map_append, List.sum_append]; simp
theorem S_zero {f : Nat → Int} : S 0 f = 0 := rfl
theorem S_congr {f g : Nat → Int} : ∀ {m : Nat}, (∀ i, i < m → f i = g i) → S m f = S m g
  | 0, _ => rfl
  | m + 1, h => by rw [S_succ, S_succ, S_congr fun i hi => h i (by omega), h m (by omega)]
theorem S_const {a : Int} : ∀ {m : Nat}, S m (fun _ => a) = (m : Int) * a
  | 0 => by rw [S_zero]; simp
  | m + 1 => by rw [S_succ, S_const, show ((m + 1 : Nat) : Int) = (m : Int) + 1 by omega, Int.add_mul]; omega
theorem S_sub {f g : Nat → Int} : ∀ {m : Nat}, S m (fun i => f i - g i) = S m f - S m g
  | 0 => by simp [S_zero]
  | m + 1 => by rw [S_succ, S_succ, S_succ, S_sub]; omega
theorem S_neg {f : Nat → Int} : ∀ {m : Nat}, S m (fun i => - f i) = - S m f
  | 0 => by simp [S_zero]
  | m + 1 => by rw [S_succ, S_succ, S_neg]; omega
theorem S_one {f : Nat → Int} {c : Nat} : ∀ {m : Nat}, (∀ i, i < m → i ≠ c → f i = 0) → S m f = if c < m then f c else 0
  | 0, _ => by simp [S_zero]
  | m + 1, h => by
    rw [S_succ, S_one (m := m) fun i hi hn => h i (by omega) hn]
    by_cases h1 : c < m
    · rw [if_pos h1, if_pos (by omega), h m (by omega) (by omega)]; omega
    · rw [if_neg h1]
      by_cases h2 : c = m
      · subst h2; rw [if_pos (by omega)]; omega
      · rw [if_neg (by omega), h m (by omega) (Ne.symm h2)]; omega
abbrev Cd := Option (Nat × Nat)
def cds (m : Nat) : List Cd := none :: (List.range m).flatMap fun i => (List.range m).map fun j => some (i, j)
theorem cds_len {m : Nat} : (cds m).length = m * m + 1 := by
  unfold cds
  rw [List.length_cons, List.length_flatMap]
  congr 1
  have : ∀ k, ((List.range k).map fun i => ((List.range m).map fun j => (some (i, j) : Cd)).length).sum = k * m := by
    intro k
    induction k with
    | zero => simp
    | succ k ih => rw [List.range_succ, List.map_append, List.sum_append_nat, ih]; simp; rw [Nat.add_mul]; omega
  exact this m
theorem dot_cds {m : Nat} {f v : Cd → Int} : dot (cds m) f v = f none * v none + S m fun i => S m fun j => f (some (i, j)) * v (some (i, j)) := by
  unfold dot cds
  rw [List.map_cons, List.sum_cons]
  congr 1
  have : ∀ k, (((List.range k).flatMap fun i => (List.range m).map fun j => (some (i, j) : Cd)).map fun x => f x * v x).sum = S k fun i => S m fun j => f (some (i, j)) * v (some (i, j)) := by
    intro k
    induction k with
    | zero => rfl
    | succ k ih =>
      rw [List.range_succ, List.flatMap_append, List.map_append, List.sum_append, ih, S_succ]
      congr 1
      rw [List.flatMap_cons, List.flatMap_nil, List.append_nil, List.map_map]
      rfl
  exact this m
def e (p : List Nat) (i j : Nat) : Int := if p[i]? = some j then 1 else 0
def vec (p : List Nat) : Cd → Int | none => 1 | some (i, j) => e p i j
def fn (m r c : Nat) : Cd → Int
  | none => if r = m then (if c = m then 1 - (m : Int) else 1) else (if c = m then 1 else 0)
  | some (i, j) => if r = m then (if c = m then 1 else if j = c then -1 else 0) else (if c = m then (if i = r then -1 else 0) else if i = r ∧ j = c then 1 else 0)
structure Pm (n : Nat) (p : List Nat) : Prop where
  len : p.length = n
  lt : ∀ (i c : Nat), p[i]? = some c → c < n
  nd : p.Nodup
theorem Pm.row {n : Nat} {p : List Nat} (h : Pm n p) {i : Nat} (hi : i < n) : S n (e p i) = 1 := by
  obtain ⟨c, hc⟩ : ∃ c, p[i]? = some c := ⟨_, List.getElem?_eq_getElem (by rw [h.len]; exact hi)⟩
  rw [S_one (c := c) fun j hj hn => by unfold e; rw [if_neg (fun z => hn (by rw [hc] at z; exact (Option.some.inj z).symm))], if_pos (h.lt i c hc)]
  unfold e; rw [if_pos hc]
theorem Pm.sur {n : Nat} {p : List Nat} (h : Pm n p) {c : Nat} (hc : c < n) : ∃ i, i < n ∧ p[i]? = some c := by
  have hpl := h.len
  by_cases z : c ∈ p
  · obtain ⟨i, hi⟩ := List.getElem?_of_mem z
    exact ⟨i, by have := (List.getElem?_eq_some_iff.mp hi).1; omega, hi⟩
  · exfalso
    have hlt : ∀ x ∈ p, x < n := fun x hx => by
      obtain ⟨i, hi⟩ := List.getElem?_of_mem hx
      exact h.lt i x hi
    have := Mat.nodup_lt (l := c :: p) (n := n) (List.nodup_cons.mpr ⟨z, h.nd⟩) fun x hx => by
      rcases List.mem_cons.mp hx with rfl | hx
      · exact hc
      · exact hlt x hx
    rw [List.length_cons] at this
    omega
theorem Pm.col {n : Nat} {p : List Nat} (h : Pm n p) {c : Nat} (hc : c < n) : S n (fun i => e p i c) = 1 := by
  obtain ⟨i, hi, hp⟩ := h.sur hc
  rw [S_one (c := i) fun k hk hn => ?_, if_pos hi]
  · unfold e; rw [if_pos hp]
  · unfold e
    rw [if_neg fun z => hn ?_]
    have h1 := List.getElem?_eq_some_iff.mp z
    have h2 := List.getElem?_eq_some_iff.mp hp
    exact (List.getElem_inj h.nd).mp (h1.2.trans h2.2.symm)
theorem dot_cell {m r c : Nat} {p : List Nat} (h : Pm (m + 1) p) (hr : r ≤ m) (hc : c ≤ m) : dot (cds m) (fn m r c) (vec p) = e p r c := by
  rw [dot_cds]
  by_cases h1 : r = m
  · subst h1
    by_cases h2 : c = r
    · subst h2
      have : ∀ i, i < c → S c (fun j => fn c c c (some (i, j)) * vec p (some (i, j))) = 1 - e p i c := fun i hi => by
        have h3 := h.row (i := i) (by omega)
        rw [S_succ] at h3
        rw [S_congr (g := e p i) fun j _ => by simp [fn, vec]]
        omega
      rw [S_congr this, S_sub, S_const]
      have h4 := h.col (c := c) (by omega)
      rw [S_succ] at h4
      simp only [fn, vec, if_true]
      omega
    · have : ∀ i, i < r → S r (fun j => fn r r c (some (i, j)) * vec p (some (i, j))) = - e p i c := fun i hi => by
        rw [S_one (c := c) fun j _ hn => by simp [fn, h2, hn], if_pos (by omega)]
        simp [fn, h2, vec]
      rw [S_congr this, S_neg]
      have h4 := h.col (c := c) (by omega)
      rw [S_succ] at h4
      simp only [fn, vec, if_true, if_neg h2]
      omega
  · by_cases h2 : c = m
    · subst h2
      rw [S_one (c := r) (fun i _ hn => by
        rw [S_congr (g := fun _ => 0) fun j _ => by simp [fn, h1, hn], S_const]; omega), if_pos (by omega)]
      have h3 := h.row (i := r) (by omega)
      rw [S_succ] at h3
      rw [S_congr (g := fun j => - e p r j) fun j _ => by simp [fn, h1, vec], S_neg]
      simp only [fn, vec, if_true, if_neg h1]
      omega
    · rw [S_one (c := r) (fun i _ hn => by
        rw [S_congr (g := fun _ => 0) fun j _ => by simp [fn, h1, h2, hn], S_const]; omega), if_pos (by omega)]
      rw [S_one (c := c) (fun j _ hn => by simp [fn, h1, h2, hn]), if_pos (by omega)]
      simp [fn, h1, h2, vec]
theorem few {n : Nat} (hn : 1 ≤ n) (l : List (List Nat × Nat × Nat)) (hp : ∀ q ∈ l, Pm n q.1 ∧ q.2.1 < n ∧ q.1[q.2.1]? = some q.2.2) (ht : l.Pairwise fun q q' => q'.1[q.2.1]? ≠ some q.2.2) : l.length ≤ (n - 1) * (n - 1) + 1 := by
  obtain ⟨m, rfl⟩ : ∃ m, n = m + 1 := ⟨n - 1, by omega⟩
  have := tri_le l.length (l.map fun q => (fn m q.2.1 q.2.2, vec q.1)) (cds m) (by rw [List.length_map]) (fun p hm => ?_) ?_
  · rw [List.length_map, cds_len] at this
    simpa using this
  · obtain ⟨q, hq, rfl⟩ := List.mem_map.mp hm
    obtain ⟨h1, h2, h3⟩ := hp q hq
    have h4 := h1.lt _ _ h3
    show dot (cds m) (fn m q.2.1 q.2.2) (vec q.1) ≠ 0
    rw [dot_cell h1 (by omega) (by omega)]
    unfold e
    rw [if_pos h3]; decide
  · rw [List.pairwise_map]
    refine List.Pairwise.imp_of_mem (fun {p q} hp' hq' h => ?_) ht
    obtain ⟨h1, h2, h3⟩ := hp p hp'
    have h4 := h1.lt _ _ h3
    show dot (cds m) (fn m p.2.1 p.2.2) (vec q.1) = 0
    rw [dot_cell (hp q hq').1 (by omega) (by omega)]
    unfold e
    rw [if_neg h]
end Bir
set_option Elab.async false
set_option linter.all false
set_option maxRecDepth 100000
set_option maxHeartbeats 4000000
namespace Bir
open L3
end Bir
set_option Elab.async false
set_option linter.all false
set_option maxRecDepth 100000
set_option maxHeartbeats 4000000
namespace L2
open PySem
theorem call_tupleK {X : Cx} {K : PySem.W.Frag} (hK : X.K = K) : CallR X (.type "tuple") (fun xs H Q => ∃ p ys, xs = [.ref p] ∧ ((SqL K H p ys ∧ ∀ l, H l = none → Q (.ref l) (upd H l (.tup ys))) ∨ (SqT K H p ys ∧ Q (.ref p) H))) := by subst hK; exact call_tuple_of
end L2
namespace L3
open PySem L2
section
variable {K : PySem.W.Frag} {ρ : Bool} {Γr Γl Γ Γ1 Γ2 Γn M : List Nat} {t u : TS} {te ta tb td ty tv ti : TE} {de da db dd dk dv di : DE} {d e : DS}
theorem Rfs.getN {H : Hp} : ∀ {ds : List D} {vs : List V} {fp : List Addr} {i : Nat} {d : D}, Rfs K H ds vs fp → fp.Nodup → ds[i]? = some d → ∃ v f, vs[i]? = some v ∧ Rf K H d v f ∧ (∀ a ∈ f, a ∈ fp) ∧ f.Nodup
  | [], _, _, _, _, _, _, e => by simp at e
  | d :: ds, vs, fp, 0, d', h, n, e => by
    obtain ⟨x, r, f1, f2, rfl, rfl, h1, h2⟩ := h
    simp at e; subst e
    exact ⟨x, f1, rfl, h1, fun a ha => List.mem_append_left _ ha, (List.nodup_append.mp n).1⟩
  | d :: ds, vs, fp, i + 1, d', h, n, e => by
    obtain ⟨x, r, f1, f2, rfl, rfl, h1, h2⟩ := h
    obtain ⟨v, f, e1, h3, k, n'⟩ := Rfs.getN (i := i) h2 (List.nodup_append.mp n).2.1 (by simpa using e)
    exact ⟨v, f, by simpa using e1, h3, fun a ha => List.mem_append_right _ (k a ha), n'⟩
def vTupOf (xs : List D) (P : DK) : Prop := match xs with | [x] => asL x fun ds => ds.all D.scal = true ∧ P (.tup ds) | _ => False
theorem vTupOf_lst {ds : List D} {P : DK} : vTupOf [.lst ds] P ↔ ds.all D.scal = true ∧ P (.tup ds) := Iff.rfl
theorem c_tuple : CallV K (fun xs H Q => ∃ p ys, xs = [.ref p] ∧ ((SqL K H p ys ∧ ∀ l, H l = none → Q (.ref l) (upd H l (.tup ys))) ∨ (SqT K H p ys ∧ Q (.ref p) H))) vTupOf :=
  ⟨fun xs P P' k h => by
    unfold vTupOf at h ⊢
    revert h
    split
    · exact fun h => by obtain ⟨ds, e, z⟩ := asL_out h; exact asL_in e ⟨z.1, k _ z.2⟩
    · exact id,
   fun {H xs vs Q} r h => by
    unfold vTupOf at h
    split at h
    · obtain ⟨v, rfl, r0⟩ := r.one
      obtain ⟨ds, e, z1, z⟩ := asL_out h
      obtain ⟨a, ys, fq, rfl, hs, hr⟩ := r0.seq e
      obtain ⟨rfl, rfl⟩ := hr.scals z1
      exact ⟨a, _, rfl, .inl ⟨hs, fun l hl => z _ _ [] (Same.new' hl) ⟨l, _, rfl, upd_same, hr.same (Same.new' hl)⟩ Nw.nil⟩⟩
    · exact h.elim⟩
def keyT (ns : List Int) : List Key := ns.map fun n => .inl n
def asTI (x : D) (P : List Int → Prop) : Prop := match x with | .tup ds => (match toInts ds with | some ns => P ns | none => False) | _ => False
theorem asTI_in {ns : List Int} {P : List Int → Prop} : asTI (.tup (ns.map D.int)) P ↔ P ns := by
  unfold asTI
  show (match toInts (ns.map D.int) with | some ns => P ns | none => False) ↔ P ns
  rw [toInts_map]
def asDit (x : D) (P : List (List Key × V) → Prop) : Prop := match x with | .dit kvs => P kvs | _ => False
theorem asDit_dit {kvs : List (List Key × V)} {P : List (List Key × V) → Prop} : asDit (.dit kvs) P ↔ P kvs := Iff.rfl
def vDInT (dk dd : DE) (δ : Dl) (P : DK) : Prop := dk δ fun y => dd δ fun x => asTI y fun ns => asDit x fun kvs => P (.bl (valV kvs (keyT ns)).isSome)
def vDPutT (i : Nat) (dk dv : DE) (E : DEnds) (δ : Dl) : Prop := dv δ fun x => x.scal = true ∧ vVar i δ fun d => asDit d fun kvs => dk δ fun y => asTI y fun ns => kvs.length < 1000 ∧ E.nx (δ.set i (some (.dit (putK kvs (keyT ns) x.toV))))
end
end L3
set_option Elab.async false
set_option linter.all false
set_option maxRecDepth 100000
set_option maxHeartbeats 4000000
namespace L3
open PySem L2
section
variable {K : PySem.W.Frag} {Γ : List Nat}
def vTupR (xs : List D) (P : DK) : Prop := match xs with | [x] => asL x fun ds => P (.tup ds) | _ => False
theorem vTupR_lst {ds : List D} {P : DK} : vTupR [.lst ds] P ↔ P (.tup ds) := Iff.rfl
end
def isNum : D → Bool | .int _ => true | _ => false
def kn (d : D) : Bool := d.tyn.isSome
end L3
set_option Elab.async false
set_option linter.all false
set_option maxRecDepth 100000
set_option maxHeartbeats 4000000
namespace L3
open PySem L2
section
variable {K : PySem.W.Frag} {ρ : Bool} {Γr Γl Γ : List Nat}
def vClearTL (i j k : Nat) (E : DEnds) (δ : Dl) : Prop := slotT δ i fun es => j < δ.length ∧ asLst (es[k]?) fun ds => (∀ d ∈ ds, ∃ e, d = D.lst e) ∧ E.nx ((δ.set j none).set i none)
end
end L3
set_option Elab.async false
set_option linter.all false
set_option maxRecDepth 100000
set_option maxHeartbeats 4000000
namespace L2
open PySem PySem.Spec PyProof.Rows
theorem pe_fldK {X : Cx} {K : PySem.W.Frag} {e : Expr} {f : Str} {pos : Pos} {ta : TE} (hK : X.K = K) (he : PE X e ta) (hb : attributeBase e f X.env (eval e X.env) = eval e X.env) : PE X (.Attribute e f pos) (tFld K ta f) := hK ▸ pe_fld he hb
theorem ps_fldK {X : Cx} {K : PySem.W.Frag} {o value : Expr} {f : Str} {pos pos' : Pos} {ta tv : TE} (hK : X.K = K) (ha : PE X o ta) (hv : PE X value tv) (hs : swapsWith value (some (.Attribute o f pos')) pos.line X.env = pure false) : PS X (.Assign [.Attribute o f pos'] value pos) (sFld K ta tv f) := hK ▸ ps_fld ha hv hs
structure MtAt (K : PySem.W.Frag) (C : Addr) (x qual : Str) (st : Stmt) (ps : List Str) (f : Addr) (fd : FuncData) : Prop where
  fn : Fun K x qual st f fd
  mt : Meth K C x f
  bd : Binds K fd ps []
structure MkAt (K : PySem.W.Frag) (mg : Str → Option Value) (n : Str) (C : Addr) (qual : Str) (st : Stmt) (ps : List Str) (f : Addr) (fd : FuncData) : Prop where
  fn : Fun K "__init__" qual st f fd
  mkk : Mk K C f
  bd : Binds K fd ps []
  mg : mg n = some (.ref C)
structure ICls (K : PySem.W.Frag) (C : Addr) : Prop where
  cl : Cls K C
  ha : PySem.W.findIn K (.ref C) "__class__" = some (some (.builtin "object.__class__"))
  hn : PySem.W.specialIn K (.builtin "object.__class__") "__get__" = some (some (.builtin "getset_descriptor.__get__"))
  ht : PySem.W.takesIn K (.builtin "object.__class__") = some true
  hm : PySem.W.mroIn K C (.type "object") = some true
theorem lookup_zip {f : Str} {v : V} : ∀ {ns : List Str} {xs : List V} {i : Nat}, ns.Nodup → ns[i]? = some f → xs[i]? = some v → (ns.zip xs).lookup f = some v
  | [], _, i, _, e, _ => by simp at e
  | _ :: _, [], i, _, _, e => by simp at e
  | n :: ns, x :: xs, 0, _, e1, e2 => by
    simp at e1 e2
    subst e1; subst e2
    simp
  | n :: ns, x :: xs, i + 1, hd, e1, e2 => by
    obtain ⟨h1, h2⟩ := List.nodup_cons.mp hd
    simp only [List.getElem?_cons_succ] at e1 e2
    have hne : f ≠ n := fun z => h1 (z ▸ List.mem_of_getElem? e1)
    rw [List.zip_cons_cons, List.lookup_cons, beq_eq_false_iff_ne.mpr hne]
    exact lookup_zip h2 e1 e2
theorem lookup_zip_none {f : Str} : ∀ {ns : List Str} {xs : List V}, f ∉ ns → (ns.zip xs).lookup f = none
  | [], _, _ => by simp
  | _ :: _, [], _ => by simp
  | n :: ns, x :: xs, h => by
    have hne : f ≠ n := fun z => h (z ▸ List.mem_cons_self)
    rw [List.zip_cons_cons, List.lookup_cons, beq_eq_false_iff_ne.mpr hne]
    exact lookup_zip_none fun z => h (List.mem_cons_of_mem _ z)
theorem putF_zip {f : Str} {v : V} : ∀ {ns : List Str} {xs : List V}, f ∉ ns → ns.length = xs.length → putF f v (ns.zip xs) = (ns ++ [f]).zip (xs ++ [v])
  | [], [], _, _ => rfl
  | [], _ :: _, _, h => by simp at h
  | _ :: _, [], _, h => by simp at h
  | n :: ns, x :: xs, h, hl => by
    have hne : n ≠ f := fun z => h (z ▸ List.mem_cons_self)
    rw [List.zip_cons_cons, putF, if_neg hne, putF_zip (fun z => h (List.mem_cons_of_mem _ z)) (by simpa using hl)]
    rfl
end L2
namespace L3
open PySem L2
section
variable {K : PySem.W.Frag} {Γ M : List Nat} {t u ta tb : TE} {d e da db : DE} {C : Addr} {ns : List Str} {f : Str}
def asF (C : Addr) (ns : List Str) (i : Nat) (x : D) (P : DK) : Prop := match x with | .ins C' ns' ds => (C' = C ∧ ns' = ns) ∧ asO (ds[i]?) P | _ => False
theorem asF_ins {ds : List D} {i : Nat} {P : DK} : asF C ns i (.ins C ns ds) P = asO (ds[i]?) P := by
  unfold asF
  simp
theorem asF_out {x : D} {i : Nat} {P : DK} (h : asF C ns i x P) : ∃ ds y, x = .ins C ns ds ∧ ds[i]? = some y ∧ P y := by
  cases x with
  | ins C' ns' ds =>
    obtain ⟨⟨rfl, rfl⟩, h⟩ := h
    obtain ⟨y, e, h⟩ := asO_out h
    exact ⟨ds, y, rfl, e, h⟩
  | _ => exact h.elim
theorem asF_mono {x : D} {i : Nat} {P P' : DK} (k : ∀ z, P z → P' z) (h : asF C ns i x P) : asF C ns i x P' := by
  obtain ⟨ds, y, rfl, e, h⟩ := asF_out h
  rw [asF_ins, e]
  exact k _ h
def vFld (C : Addr) (ns : List Str) (i : Nat) (da : DE) (δ : Dl) (P : DK) : Prop := da δ fun x => asF C ns i x P
theorem es_fld (ns : List Str) (i : Nat) (hc : Cls K C) (hn : NoAttr K C f) (ha : ES K Γ ta da) (hi : ns[i]? = some f := by rfl) (hd : ns.Nodup := by decide +kernel) : ES K Γ (tFld K ta f) (vFld C ns i da) :=
  ⟨fun δ P P' k h => ha.mono _ _ _ (fun x z => asF_mono k z) h,
   fun o q => ha.run o (ha.mono _ _ _ (fun x z v H1 fp s1 r1 n1 => by
    obtain ⟨ds, y, rfl, e, z⟩ := asF_out z
    obtain ⟨a, dx, xs, fq, rfl, hH, rfl, hr⟩ := r1
    obtain ⟨w, f', e1, r3, k⟩ := hr.get e
    exact ⟨a, C, dx, _, w, rfl, hH, hc, hn, lookup_zip hd hi e1, z w H1 f' s1 r3 fun j hj b hb => n1 j hj b (List.mem_cons_of_mem _ (k b hb))⟩) q)⟩
def isI (C : Addr) (ns : List Str) (x : D) : Prop := match x with | .ins C' ns' _ => C' = C ∧ ns' = ns | _ => False
theorem isI_ins {ds : List D} : isI C ns (.ins C ns ds) = True := by
  unfold isI
  simp
theorem isI_out {x : D} (h : isI C ns x) : ∃ ds, x = .ins C ns ds := by
  cases x with
  | ins C' ns' ds => obtain ⟨rfl, rfl⟩ := h; exact ⟨ds, rfl⟩
  | _ => exact h.elim
def vMeth (C : Addr) (ns : List Str) (S : DSp) (da : DE) (dr : DA) (δ : Dl) (P : DK) : Prop := da δ fun x => isI C ns x ∧ dr δ fun xs => S (x :: xs) P
theorem em_meth {m : Str} {S : DSp} {E : XK} {w : TA} {dr : DA} (ns : List Str) (hS : DMono S) (ha : ER K Γ ta da) (hr : AR K Γ w dr) (hm : m ∉ ns := by decide +kernel) : EM K Γ [] (tMeth C m (spP K S) [] E ta w) (vMeth C ns S da dr) :=
  ⟨fun δ P P' k h => ha.mono _ _ _ (fun x z => ⟨z.1, hr.mono _ _ _ (fun y z => hS _ _ _ k z) z.2⟩) h,
   fun {B0 fps δ σ H Q} o q => ha.run o (ha.mono _ _ _ (fun x z v H1 s1 r1 => by
    obtain ⟨z1, z2⟩ := z
    obtain ⟨ds, rfl⟩ := isI_out z1
    obtain ⟨fp, a, dx, xs, fq, rfl, hH, e, hq⟩ := id r1
    refine ⟨a, dx, _, rfl, hH, lookup_zip_none hm, hr.run (o.same s1) (hr.mono _ _ _ (fun ys z vs H2 s2 r2 => ?_) z2)⟩
    obtain ⟨f1, r1'⟩ := r1.same s2
    obtain ⟨f2, r2'⟩ := r2
    exact ⟨.ins C ns ds :: ys, ⟨f1 ++ f2, _, _, f1, f2, by rw [List.append_nil], rfl, r1', r2'⟩, hS _ _ _ (fun u z u' H' fp s r n => z u' H' fp ((s1.trans s2).trans s) r (n.any.later (s1.trans s2))) z⟩) q)⟩
def vOrE (d e : DE) (δ : Dl) (P : DK) : Prop := d δ P ∨ e δ P
def vIsC (L : List Addr) (da : DE) (δ : Dl) (P : DK) : Prop := da δ fun x => (∃ C ns ds, x = .ins C ns ds ∧ C ∈ L) ∧ P (.bl true)
def vRevM (i : Nat) (E : DEnds) (δ : Dl) : Prop := slotL δ i fun ds => ds.all D.scal = true ∧ E.nx (δ.set i (some (.lst ds.reverse)))
def spN (K : PySem.W.Frag) (C : Addr) (S : DSp) : Sp := fun vs H Q _ => ∃ (x dx : Addr) (ws : List V) (ds : List D) (B0 : Hp), vs = .ref x :: ws ∧ B0 x = none ∧ H = upd B0 x (.ins C dx []) ∧ Rps K B0 ds ws ∧
  S ds fun d => ∀ ns xs dd fq H', d = .ins C ns dd → Same B0 H' → H' x = some (.ins C dx (ns.zip xs)) → Rfs K H' dd xs fq → fq.Nodup → (∀ a ∈ fq, B0 a = none ∧ a ≠ x ∧ Mu H' a) → Q .non H'
theorem spN_len {S : DSp} {n : Nat} (h : ∀ ds P, S ds P → ds.length = n) {vs : List V} {H : Hp} {Q : VK} {E : XK} (k : spN K C S vs H Q E) : vs.length = n + 1 := by
  obtain ⟨x, dx, ws, ds, B0, rfl, _, _, r, hS⟩ := k
  obtain ⟨fp, r⟩ := r
  rw [List.length_cons, r.length, h _ _ hS]
theorem em_make {S : DSp} {E : XK} {w : TA} {dr : DA} (hS : DMono S) (hi : ∀ ds P, S ds P → S ds fun d => (∃ ns dd, d = .ins C ns dd) ∧ P d) (hr : AR K Γ w dr) : EM K Γ [] (tMake C (spN K C S) [] E w) (vCall S dr) :=
  ⟨fun δ P P' k h => hr.mono _ _ _ (fun y z => hS _ _ _ k z) h,
   fun {B0 fps δ σ H Q} o q => hr.run o (hr.mono _ _ _ (fun ys z vs H1 s1 r1 => by
    intro x dx hx hdx hne
    have sx : Same H1 (upd H1 dx (.own x)) := Same.new' hdx
    refine ⟨x, dx, vs, ys, upd H1 dx (.own x), by rw [List.append_nil], by rw [upd_ne (Ne.symm hne)]; exact hx, rfl, r1.same sx, hS _ _ _ ?_ (hi _ _ z)⟩
    rintro d ⟨⟨ns, dd, rfl⟩, z⟩ ns' xs dd' fq H' e sH hH hq hnd hfq
    cases e
    refine ⟨rfl, z (.ref x) H' (x :: fq) (s1.trans (sx.trans sH)) ⟨x, dx, xs, fq, rfl, hH, rfl, hq⟩ ⟨List.nodup_cons.mpr ⟨fun h => (hfq x h).2.1 rfl, hnd⟩, fun a ha => ?_, fun a ha => ?_⟩⟩
    · rcases List.mem_cons.mp ha with e | h
      · rw [e]; exact .inr (.inr (.inr ⟨_, _, _, hH⟩))
      · exact (hfq a h).2.2
    · rcases List.mem_cons.mp ha with e | h
      · rw [e]; exact .inl (s1.free hx)
      · exact .inl (s1.free (sx.free (hfq a h).1))) q)⟩
structure INI (K : PySem.W.Frag) (C : Addr) (t : TS) (ns : List Str) (d : DA) : Prop where
  mono : ∀ δ (P P' : List D → Prop), (∀ x, P x → P' x) → d δ P → d δ P'
  run : ∀ {B0 fps δ σ H x dx ns0 xs0 ds0 fq0 Dn}, Ok K B0 [] fps δ σ H → σ[0]? = some (some (.ref x)) → H x = some (.ins C dx (ns0.zip xs0)) → B0 x = none → ns0.length = xs0.length → Rfs K H ds0 xs0 fq0 → fq0.Nodup →
    (∀ a ∈ fq0, B0 a = none ∧ a ≠ x ∧ Mu H a) → (∀ i, x ∉ fps i) → (∀ n ∈ ns, n ∉ ns0) → (ns0 ++ ns).Nodup → (ns0 ++ ns).length ≤ 100 →
    d δ (fun ds => ∀ H' xs fq, Same B0 H' → H' x = some (.ins C dx ((ns0 ++ ns).zip xs)) → Rfs K H' (ds0 ++ ds) xs fq → fq.Nodup → (∀ a ∈ fq, B0 a = none ∧ a ≠ x ∧ Mu H' a) → Dn.nx σ H') → t Dn σ H
theorem Rfs.snoc {H : Hp} : ∀ {ds : List D} {xs : List V} {fq : List Addr} {d : D} {v : V} {fp : List Addr}, Rfs K H ds xs fq → Rf K H d v fp → Rfs K H (ds ++ [d]) (xs ++ [v]) (fq ++ fp)
  | [], xs, fq, d, v, fp, h, r => by
    obtain ⟨rfl, rfl⟩ := h
    exact ⟨v, [], fp, [], rfl, by simp, r, rfl, rfl⟩
  | d0 :: ds, xs, fq, d, v, fp, h, r => by
    obtain ⟨x, rr, f1, f2, rfl, rfl, h1, h2⟩ := h
    exact ⟨x, rr ++ [v], f1, f2 ++ fp, rfl, by simp, h1, h2.snoc r⟩
theorem ini_step {f : Str} (hc : Cls K C) (hn : NoAttr K C f) (he : EM K [] [] ta da) {B0 : Hp} {fps : Nat → List Addr} {δ : Dl} {σ : St} {H : Hp} {x dx : Addr} {ns0 : List Str} {xs0 : List V} {ds0 : List D} {fq0 : List Addr} {Dn : Ends}
    (o : Ok K B0 [] fps δ σ H) (h0 : σ[0]? = some (some (.ref x))) (hx : H x = some (.ins C dx (ns0.zip xs0))) (hb : B0 x = none) (hl : ns0.length = xs0.length) (hr : Rfs K H ds0 xs0 fq0) (hnd : fq0.Nodup)
    (hq : ∀ a ∈ fq0, B0 a = none ∧ a ≠ x ∧ Mu H a) (hfp : ∀ i, x ∉ fps i) (hf : f ∉ ns0) (h100 : ns0.length < 100)
    (q : da δ fun y => ∀ H' v fq, Ok K B0 [] fps δ σ H' → H' x = some (.ins C dx ((ns0 ++ [f]).zip (xs0 ++ [v]))) → Rfs K H' (ds0 ++ [y]) (xs0 ++ [v]) fq → fq.Nodup → (∀ a ∈ fq, B0 a = none ∧ a ≠ x ∧ Mu H' a) → Dn.nx σ H') : sFld K (tVar 0) ta f Dn σ H := by
  refine he.run o (he.mono _ _ _ (fun y z v H1 fp s1 r1 n1 => ?_) q)
  have hx1 := s1 _ _ hx
  refine ⟨.ref x, h0, x, C, dx, _, rfl, hx1, hc, hn, by rw [List.length_zip]; omega, ?_⟩
  rw [putF_zip hf hl]
  have hxp : x ∉ fp := fun h => by have := n1.fresh x h; rw [hx] at this; cases this
  have keep : ∀ a, a ≠ x → upd H1 x (.ins C dx ((ns0 ++ [f]).zip (xs0 ++ [v]))) a = H1 a := fun a ha => upd_ne ha
  have imm : ∀ a w, H1 a = some w → Im w → upd H1 x (.ins C dx ((ns0 ++ [f]).zip (xs0 ++ [v]))) a = some w := fun a w e hi => by
    have : a ≠ x := fun z => by
      subst z
      rw [hx1] at e
      cases e
      rcases hi with ⟨_, z⟩ | ⟨_, _, z⟩ | ⟨_, _, z⟩ <;> cases z
    rw [keep a this]; exact e
  have muk : ∀ a, a ≠ x → Mu H1 a → Mu (upd H1 x (.ins C dx ((ns0 ++ [f]).zip (xs0 ++ [v])))) a := fun a ha m => m.upd (.inr (.inr (.inr ⟨_, _, _, rfl⟩)))
  have o1 := o.same s1
  refine z _ v (fq0 ++ fp) ⟨o1.len, fun a w e => ?_, fun i dd e => ?_, o1.non, fun _ h => (nomatch h), fun _ h => (nomatch h)⟩ upd_same (Rfs.snoc ((hr.same s1).mono (fun a ha w e => by rw [keep a (hq a ha).2.1]; exact e) imm) (r1.mono (fun a ha w e => by rw [keep a (fun z => hxp (z ▸ ha))]; exact e) imm)) ?_ fun a ha => ?_
  · rw [keep a (fun z => by subst z; rw [hb] at e; cases e)]
    exact o1.b0 a w e
  · obtain ⟨v', h1, h2⟩ := o1.val i dd e
    exact ⟨v', h1, h2.mono (fun a ha w e => by rw [keep a (fun z => hfp i (z ▸ ha))]; exact e) imm⟩
  · refine List.nodup_append.mpr ⟨hnd, n1.nd, fun a h1 b h2 e => ?_⟩
    subst e
    exact (hq a h1).2.2.some (n1.fresh a h2)
  · rcases List.mem_append.mp ha with h | h
    · exact ⟨(hq a h).1, (hq a h).2.1, muk a (hq a h).2.1 ((hq a h).2.2.same s1)⟩
    · exact ⟨o.b0.free (n1.fresh a h), fun z => hxp (z ▸ h), muk a (fun z => hxp (z ▸ h)) (n1.mu a h)⟩
theorem ini_one {f : Str} (hc : Cls K C) (hn : NoAttr K C f) (he : EM K [] [] ta da) : INI K C (sFld K (tVar 0) ta f) [f] (vCons da vNil) :=
  ⟨fun δ P P' k h => he.mono _ _ _ (fun x z => k _ z) h, fun {B0 fps δ σ H x dx ns0 xs0 ds0 fq0 Dn} o h0 hx hb hl hr hnd hq hfp hf hns h100 q =>
    ini_step hc hn he o h0 hx hb hl hr hnd hq hfp (hf f List.mem_cons_self) (by simp at h100; omega) (he.mono _ _ _ (fun y z H' v fq o' g1 g2 g3 g4 => z H' _ fq o'.b0 g1 g2 g3 g4) q)⟩
theorem ini_cons {f : Str} {t : TS} {ns : List Str} {dr : DA} (hc : Cls K C) (hn : NoAttr K C f) (he : EM K [] [] ta da) (hr : INI K C t ns dr) : INI K C (tSeq (sFld K (tVar 0) ta f) t) (f :: ns) (vCons da dr) :=
  ⟨fun δ P P' k h => he.mono _ _ _ (fun x z => hr.mono _ _ _ (fun y z => k _ z) z) h, fun {B0 fps δ σ H x dx ns0 xs0 ds0 fq0 Dn} o h0 hx hb hl hR hnd hq hfp hf hns h100 q =>
    ini_step hc hn he o h0 hx hb hl hR hnd hq hfp (hf f List.mem_cons_self) (by simp at h100; omega) (he.mono _ _ _ (fun y z H' v fq o' g1 g2 g3 g4 => by
      have e1 : ns0 ++ f :: ns = (ns0 ++ [f]) ++ ns := by simp
      refine hr.run o' h0 g1 hb (by simp [hl]) g2 g3 g4 hfp (fun n hn' z' => ?_) (by rw [← e1]; exact hns) (by rw [← e1]; exact h100) (hr.mono _ _ _ (fun ds z H2 xs fq s2 k1 k2 k3 k4 => ?_) z)
      · rw [e1] at hns
        exact (List.nodup_append.mp hns).2.2 n z' n hn' rfl
      · refine z H2 xs fq s2 (by rw [e1]; exact k1) ?_ k3 k4
        rw [List.append_assoc] at k2
        exact k2) q)⟩
theorem fn_ini {N : List Str} {S : DSp} {t : TS} {ns : List Str} {d : DA} (hs : INI K C t ns d) (hd : ∀ ds P, S ds P → d (none :: (startD (N.drop 1) ds)) fun dd => P (.ins C ns dd)) (hN : 1 ≤ N.length) (hns : ns.Nodup := by decide +kernel) (h100 : ns.length ≤ 100 := by decide) :
    ∀ {vs H Q E}, spN K C S vs H Q E → t { nx := fun _ H' => Q .non H', rt := Q } (L2.start N vs) H := by
  rintro vs H Q E ⟨x, dx, ws, ds, B0, rfl, hb, rfl, r, h⟩
  obtain ⟨fps, o⟩ := start_ok (N := N.drop 1) r
  have sx : Same B0 (upd B0 x (.ins C dx [])) := Same.new' hb
  have o2 := o.same sx
  have est : L2.start N (.ref x :: ws) = some (.ref x) :: L2.start (N.drop 1) ws := by
    unfold L2.start
    rw [List.map_cons, List.cons_append, List.length_cons, List.length_drop, show N.length - (ws.length + 1) = N.length - 1 - ws.length by omega]
  rw [est]
  refine hs.run (B0 := B0) (fps := fun i => match i with | 0 => [] | j + 1 => fps j) (δ := none :: startD (N.drop 1) ds) (x := x) (dx := dx) (ns0 := []) (xs0 := []) (ds0 := []) (fq0 := []) ⟨by rw [List.length_cons, List.length_cons, o2.len], sx, fun i dd e => ?_, fun i e => ?_, fun _ h => (nomatch h), fun _ h => (nomatch h)⟩ rfl upd_same hb rfl ⟨rfl, rfl⟩ List.nodup_nil (fun _ h => (nomatch h)) (fun i => ?_) (fun _ _ h => (nomatch h)) hns h100 (hs.mono _ _ _ (fun dd z H' xs fq s1 k1 k2 k3 k4 => ?_) (hd ds _ h))
  · cases i with
    | zero => simp at e
    | succ j => exact o2.val j dd (by simpa using e)
  · cases i with
    | zero => rfl
    | succ j => exact o2.non j fun dd z => e dd (by simpa using z)
  · cases i with
    | zero => exact fun h => (nomatch h)
    | succ j => exact fun h => o.dom h hb
  · exact z ns xs dd fq H' rfl s1 k1 k2 k3 k4
end
end L3
set_option linter.all false
set_option maxRecDepth 100000
namespace L2
open PySem PySem.Spec PyProof.Rows
section
variable {P : Program} {w : World} {H : Hp} {h : Heap} {a : Addr}
theorem flat_are : ∀ {ks : List Int} {us : List Value}, Vals (ks.map V.int) us → ItemsAre (intKind P w) ks us
  | [], _, .nil => .nil
  | k :: ks, _, .cons r t => by
    obtain ⟨n, rfl⟩ := r
    exact .cons (by simp [intKind, Value.isInt]) (flat_are t)
theorem pair_of {d : Int} {b : Addr} {ks : List Int} (ok : HOk P w H h) (e : H a = some (.tup [.int d, .ref b])) (e2 : H b = some (.tup (ks.map V.int))) : (pairKind P w).is h (d, ks) a := by
  obtain ⟨_, its, r, o, h1, h2, n, h3⟩ := (show ObjOk P w H h a (.tup [.int d, .ref b]) from ok a _ e)
  obtain ⟨_, jts, q, o', g1, g2, m, g3⟩ := (show ObjOk P w H h b (.tup (ks.map V.int)) from ok b _ e2)
  cases r with
  | cons r1 r' =>
    cases r' with
    | cons r2 r'' =>
      cases r''
      obtain ⟨t, rfl⟩ := r1
      cases (show _ = Value.ref b from r2)
      exact ⟨o, n, t, b, h1, h2, h3, o', jts.toArray, m, g1, g2, g3, by simpa using flat_are (P := P) (w := w) q⟩
theorem memo_of {φ : Int → List Int → Int → Prop} {ks : List PKey} (ok : HOk P w H h) (e : H a = some (.memo φ ks)) : (a == sysModules) = false ∧ ∃ xs, (∀ x ∈ xs, MemoAt H φ x) ∧ (∀ k ∈ ks, k ∈ xs.map (·.1)) ∧ h.DictOfH (pairKind P w) a xs := by
  obtain ⟨y, xs, hx, hk, o, es, ep, h1, h2, h3, h4, h5⟩ := (show ObjOk P w H h a (.memo φ ks) from ok a _ e)
  refine ⟨y, xs, hx, hk, o, es, ep, h1, h2, h3, h4, fun x hx2 => ?_, h5⟩
  obtain ⟨b, n, t, q1, q2, _⟩ := hx x hx2
  exact pair_of ok q1 q2
theorem memo_new {φ : Int → List Int → Int → Prop} {ks : List PKey} {xs : List (PKey × Addr × Value)} {H' : Hp} {h' : Heap} (y : (a == sysModules) = false) (hx : ∀ x ∈ xs, MemoAt H' φ x) (hk : ∀ k ∈ ks, k ∈ xs.map (·.1)) (dd : h'.DictOfH (pairKind P w) a xs) : ObjOk P w H' h' a (.memo φ ks) := by
  obtain ⟨o, es, ep, h1, h2, h3, h4, _, h5⟩ := dd
  exact ⟨y, xs, hx, hk, o, es, ep, h1, h2, h3, h4, h5⟩
theorem MemoAt.upd {φ : Int → List Int → Int → Prop} {x : PKey × Addr × Value} {o u : HO} (m : MemoAt H φ x) (e : H a = some u) (ne : ∀ ys, u ≠ .tup ys) : MemoAt (upd H a o) φ x := by
  obtain ⟨b, n, t, q1, q2, q3⟩ := m
  exact ⟨b, n, t, by rw [upd_ne (fun z => by rw [z, e] at q1; exact ne _ (Option.some.inj q1))]; exact q1, by rw [upd_ne (fun z => by rw [z, e] at q2; exact ne _ (Option.some.inj q2))]; exact q2, q3⟩
def encL (l : List Int) : Nat := l.foldl (fun n e => n * 8 + (e.toNat + 1)) 0
def encK (k : PKey) : Nat := encL k.2 * 8 + k.1.toNat
theorem encL_snoc (l : List Int) (e : Int) : encL (l ++ [e]) = encL l * 8 + (e.toNat + 1) := by unfold encL; rw [List.foldl_append]; rfl
theorem encL_lt : ∀ (n : Nat) (l : List Int), l.length ≤ n → (∀ e ∈ l, 0 ≤ e ∧ e < 7) → encL l < 8 ^ n
  | 0, l, h, _ => by rw [List.eq_nil_of_length_eq_zero (Nat.le_zero.mp h)]; exact Nat.one_pos
  | n + 1, l, h, hb => by
    rcases Classical.em (l = []) with z | z
    · rw [z]; exact Nat.pow_pos (by decide)
    · rw [← List.dropLast_concat_getLast z, encL_snoc]
      have h1 := encL_lt n l.dropLast (by rw [List.length_dropLast]; omega) (fun e he => hb e (List.dropLast_subset _ he))
      have h2 := hb (l.getLast z) (List.getLast_mem z)
      rw [Nat.pow_succ]
      omega
theorem encL_inj : ∀ (n : Nat) (l m : List Int), l.length ≤ n → (∀ e ∈ l, 0 ≤ e ∧ e < 7) → (∀ e ∈ m, 0 ≤ e ∧ e < 7) → encL l = encL m → l = m := by
  intro n
  induction n with
  | zero =>
    intro l m h _ hm e
    have : l = [] := List.eq_nil_of_length_eq_zero (Nat.le_zero.mp h)
    subst this
    rcases Classical.em (m = []) with z | z
    · exact z.symm
    · rw [← List.dropLast_concat_getLast z, encL_snoc] at e
      have : encL [] = 0 := rfl
      omega
  | succ n ih =>
    intro l m h hl hm e
    rcases Classical.em (l = []) with z | z
    · subst z
      rcases Classical.em (m = []) with y | y
      · exact y.symm
      · rw [← List.dropLast_concat_getLast y, encL_snoc] at e
        have : encL [] = 0 := rfl
        omega
    · rcases Classical.em (m = []) with y | y
      · subst y
        rw [← List.dropLast_concat_getLast z, encL_snoc] at e
        have : encL [] = 0 := rfl
        omega
      · have a1 := hl (l.getLast z) (List.getLast_mem z)
        have a2 := hm (m.getLast y) (List.getLast_mem y)
        rw [← List.dropLast_concat_getLast z, ← List.dropLast_concat_getLast y, encL_snoc, encL_snoc] at e
        have i := ih l.dropLast m.dropLast (by rw [List.length_dropLast]; omega) (fun e he => hl e (List.dropLast_subset _ he)) (fun e he => hm e (List.dropLast_subset _ he)) (by omega)
        have j : l.getLast z = m.getLast y := by omega
        rw [← List.dropLast_concat_getLast z, ← List.dropLast_concat_getLast y, i, j]
theorem box_out {k : PKey} (h : boxK k = true) : (0 ≤ k.1 ∧ k.1 < 8) ∧ k.2.length ≤ 5 ∧ ∀ e ∈ k.2, 0 ≤ e ∧ e < 7 := by
  unfold boxK at h
  simp only [Bool.and_eq_true, decide_eq_true_eq, List.all_eq_true] at h
  exact ⟨h.1.1, h.1.2, h.2⟩
theorem nodup_few : ∀ (n : Nat) (l : List Nat), l.Nodup → (∀ x ∈ l, x < n) → l.length ≤ n
  | 0, l, _, h => by
    cases l with
    | nil => exact Nat.le_refl _
    | cons x r => exact absurd (h x List.mem_cons_self) (Nat.not_lt_zero _)
  | n + 1, l, nd, h => by
    have h1 := nodup_few n (l.filter (· ≠ n)) (nd.sublist List.filter_sublist) (fun x hx => by
      have := List.mem_filter.mp hx
      have q := h x this.1
      have : x ≠ n := by simpa using this.2
      omega)
    have h2 : l.length ≤ (l.filter (· ≠ n)).length + 1 := by
      clear h h1
      induction l with
      | nil => simp
      | cons x r ih =>
        rw [List.nodup_cons] at nd
        have := ih nd.2
        by_cases hx : x = n
        · subst hx
          rw [List.filter_cons_of_neg (by simp), List.filter_eq_self.mpr (fun y hy => by simp; exact fun z => nd.1 (z ▸ hy)), List.length_cons]
          omega
        · rw [List.filter_cons_of_pos (by simpa using hx), List.length_cons, List.length_cons]
          omega
    omega
theorem keys_few {ks : List PKey} (nd : ks.Nodup) (hb : ∀ k ∈ ks, boxK k = true) : ks.length ≤ 262144 := by
  have inj : (ks.map encK).Nodup := by
    refine List.pairwise_map.mpr (List.Pairwise.imp_of_mem (fun {x y} hx hy ne e => ne ?_) nd)
    obtain ⟨⟨x1, x2⟩, x3, x4⟩ := box_out (hb x hx)
    obtain ⟨⟨y1, y2⟩, y3, y4⟩ := box_out (hb y hy)
    unfold encK at e
    exact Prod.ext (by omega) (encL_inj 5 x.2 y.2 x3 x4 y4 (by omega))
  have := nodup_few 262144 (ks.map encK) inj (fun x hx => by
    obtain ⟨k, hk, rfl⟩ := List.mem_map.mp hx
    obtain ⟨⟨x1, x2⟩, x3, x4⟩ := box_out (hb k hk)
    have := encL_lt 5 k.2 x3 x4
    unfold encK
    omega)
  rwa [List.length_map] at this
theorem memo_few {φ : Int → List Int → Int → Prop} {xs : List (PKey × Addr × Value)} (hx : ∀ x ∈ xs, MemoAt H φ x) (nd : (xs.map (·.1)).Nodup) : xs.length ≤ 262144 := by
  have := keys_few nd (fun k hk => by
    obtain ⟨x, hm, rfl⟩ := List.mem_map.mp hk
    obtain ⟨b, n, t, _, _, _, _, q⟩ := hx x hm
    exact q)
  rwa [List.length_map] at this
end
section
variable {X : Cx}
def rMemoN : R2 := fun x y H Q => ∃ kt kb a φ d ks, x = .ref kt ∧ H kt = some (.tup [.int d, .ref kb]) ∧ H kb = some (.tup (ks.map V.int)) ∧ y = .ref a ∧ H a = some (.memo φ []) ∧ Q (.bl true) H ∧ Q (.bl false) (upd H a (.memo φ [(d, ks)]))
theorem op_memoN (hu : X.A.units + 64 < cLine) : OpR X (compareOp .NotIn) rMemoN := by
  intro pins s σ H x y v u Q I rx ry h
  obtain ⟨kt, kb, a, φ, d, ks, rfl, e1, e2, rfl, ea, q1, q2⟩ := h
  cases (show v = Value.ref kt from rx)
  cases (show u = Value.ref a from ry)
  obtain ⟨hd, xs, hx, _, dd⟩ := memo_of I.hok ea
  refine wpAny_notIn_heap (knd := pairKind X.prog X.w) (k := (d, ks)) (by show X.A.units + 1 + 2 < cLine; omega) (pair_of I.hok e1 e2) hd dd ?_
  cases hf : atKey xs (d, ks) with
  | none => exact ⟨.bl true, H, I.tok _, rfl, q1⟩
  | some p =>
    refine ⟨.bl false, _, ?_, rfl, q2⟩
    have there : (d, ks) ∈ xs.map (·.1) := by
      unfold atKey at hf
      obtain ⟨z, hz, _⟩ := Option.map_eq_some_iff.mp hf
      have := List.find?_some hz
      exact List.mem_map.mpr ⟨z, List.mem_of_find?_eq_some hz, by simpa using this⟩
    refine I.write (x := a) (e := a) (h' := s.heap) (by rw [ea]; exact True.intro) (.inl rfl) (fun _ _ _ z => z) (let ⟨o, _, _, g, _⟩ := dd; ⟨o, g⟩) ?_
    exact memo_new hd (fun z hz => (hx z hz).upd ea (fun ys z => by cases z)) (fun k hk => by rw [List.mem_singleton.mp hk]; exact there) dd
end
end L2
namespace L2
open PySem PySem.Spec PyProof.Rows
section
variable {X : Cx}
theorem at_some {xs : List (PKey × Addr × Value)} {k : PKey} (h : k ∈ xs.map (·.1)) : ∃ p, atKey xs k = some p ∧ (k, p) ∈ xs := by
  cases hf : xs.find? (fun x => decide (x.1 = k)) with
  | none =>
    obtain ⟨z, hz, e⟩ := List.mem_map.mp h
    have := List.find?_eq_none.mp hf z hz
    simp at this
    exact absurd e this
  | some z =>
    have h1 := List.find?_some hf
    have h2 := List.mem_of_find?_eq_some hf
    have h1 : z.1 = k := by simpa using h1
    refine ⟨z.2, by unfold atKey; rw [hf]; rfl, ?_⟩
    rw [← h1]
    exact h2
def rMemoG : R2 := fun x y H Q => ∃ kt kb a φ d ks ps, x = .ref a ∧ y = .ref kt ∧ H kt = some (.tup [.int d, .ref kb]) ∧ H kb = some (.tup (ks.map V.int)) ∧ H a = some (.memo φ ps) ∧ (d, ks) ∈ ps ∧ ∀ n, φ d ks n → Q (.int n) (upd H a (.memo φ []))
theorem ix_memo (hu : X.A.units + 64 < cLine) : IxR X rMemoG := by
  intro value slice pins s σ H x y v u Q I rx ry h hs
  obtain ⟨kt, kb, a, φ, d, ks, ps, rfl, rfl, e1, e2, ea, hp, q⟩ := h
  cases (show v = Value.ref a from rx)
  cases (show u = Value.ref kt from ry)
  obtain ⟨hd, xs, hx, hk, dd⟩ := memo_of I.hok ea
  obtain ⟨p, hf, hm⟩ := at_some (hk _ hp)
  obtain ⟨b, n, t, _, _, q3, q4, _⟩ := hx _ hm
  refine tail_any dd.typeIs PySem.F.slot_dict_getitem.lookup (wpAny_getItem_heap (knd := pairKind X.prog X.w) (k := (d, ks)) (by show X.A.units + 1 + 2 < cLine; omega) (pair_of I.hok e1 e2) dd hf ?_) hs
  refine ⟨.int n, _, ?_, ⟨t, q3⟩, q n q4⟩
  exact I.write (x := a) (e := a) (h' := s.heap) (by rw [ea]; exact True.intro) (.inl rfl) (fun _ _ _ z => z) (let ⟨o, _, _, g, _⟩ := dd; ⟨o, g⟩) (memo_new hd (fun z hz => (hx z hz).upd ea (fun ys z => by cases z)) (fun k hk => absurd hk List.not_mem_nil) dd)
def rMemoS : TSet := fun o i v H Q => ∃ kt kb a φ d ks ps n, o = .ref a ∧ i = .ref kt ∧ v = .int n ∧ H kt = some (.tup [.int d, .ref kb]) ∧ H kb = some (.tup (ks.map V.int)) ∧ H a = some (.memo φ ps) ∧ boxK (d, ks) = true ∧ φ d ks n ∧ Q (upd H a (.memo φ [(d, ks)]))
theorem set_memo (hu : X.A.units + 64 < cLine) : PSet X rMemoS := by
  intro pins s σ H o i v ov iv u Q I ro ri rv h
  obtain ⟨kt, kb, a, φ, d, ks, ps, n, rfl, rfl, rfl, e1, e2, ea, hb, hn, q⟩ := h
  cases (show ov = Value.ref a from ro)
  cases (show iv = Value.ref kt from ri)
  obtain ⟨t, rfl⟩ := (show ∃ t, u = Value.int n t from rv)
  obtain ⟨hd, xs, hx, hk, dd⟩ := memo_of I.hok ea
  have nd : (xs.map (·.1)).Nodup := let ⟨_, _, _, _, _, _, _, _, z⟩ := dd; z
  have few := memo_few hx nd
  refine wpAny_setItem_heap (knd := pairKind X.prog X.w) (k := (d, ks)) (hsz := Nat.le_trans few (by decide)) (by show X.A.units + 1 + 2 < cLine; omega) (pair_of I.hok e1 e2) dd fun h' dd' hs' => ⟨_, ?_, q⟩
  have he : ∃ z, h'.get? a = some z := let ⟨z, _, _, g, _⟩ := dd'; ⟨z, g⟩
  have new : MemoAt (upd H a (.memo φ [(d, ks)])) φ ((d, ks), kt, Value.int n t) := MemoAt.upd ⟨kb, n, t, e1, e2, rfl, hn, hb⟩ ea (fun ys z => by cases z)
  refine d_write I (by rw [ea]; exact True.intro) hs' he (memo_new hd (fun z hz => ?_) (fun k hk2 => ?_) dd')
  · unfold storedH at hz
    split at hz
    · obtain ⟨y, hy, rfl⟩ := List.mem_map.mp hz
      have my := (hx y hy).upd (o := .memo φ [(d, ks)]) ea (fun ys z => by cases z)
      unfold putAt
      split
      · rename_i ey
        obtain ⟨b, n', t', g1, g2, g3, g4, g5⟩ := my
        refine ⟨b, n, t, g1, g2, rfl, ?_, g5⟩
        rw [ey]; exact hn
      · exact my
    · rcases List.mem_append.mp hz with z | z
      · exact (hx _ z).upd ea (fun ys z => by cases z)
      · rw [List.mem_singleton.mp z]; exact new
  · rw [List.mem_singleton.mp hk2]
    unfold storedH
    split
    · rename_i hsome
      rw [keys_map_putAt]
      obtain ⟨p, hp⟩ := Option.isSome_iff_exists.mp hsome
      unfold atKey at hp
      obtain ⟨z, hz, _⟩ := Option.map_eq_some_iff.mp hp
      exact List.mem_map.mpr ⟨z, List.mem_of_find?_eq_some hz, by simpa using List.find?_some hz⟩
    · rw [List.map_append]
      exact List.mem_append_right _ (List.mem_singleton.mpr rfl)
def tDNewM : TE := fun _ H Q => ∃ φ, ∀ p, H p = none → Q (.ref p) (upd H p (.memo φ []))
theorem pe_dnewM {pos : Pos} : PE X (.Dict [] [] pos) tDNewM := by
  intro pins s σ H Q I ⟨φ, h⟩
  have hf : H s.heap.objs.size = none := I.hok.fresh (Nat.le_refl _)
  refine wpAny_Dict_empty ⟨.ref s.heap.objs.size, _, I.laid (a := s.heap.objs.size) (o := .memo φ []) (t' := s.toks) (fun _ _ q => Heap.get?_push_of_some _ q) (Nat.le_refl _) ?_, rfl, h _ hf⟩
  refine memo_new (xs := []) ?_ (fun z hz => absurd hz List.not_mem_nil) (fun z hz => absurd hz List.not_mem_nil) (Heap.DictOfH.new s.heap)
  have := I.big
  exact beq_eq_false_iff_ne.mpr (fun z => by rw [z] at this; exact absurd this (Nat.lt_irrefl _))
end
end L2
set_option Elab.async false
set_option linter.all false
set_option maxRecDepth 100000
namespace L3
open PySem L2
section
variable {K : PySem.W.Frag} {Γ : List Nat} {te : TE} {de : DE}
def vMemoNew (δ : Dl) (P : DK) : Prop := ∃ φ, P (.mem φ)
theorem em_memo : EM K Γ [] tDNewM vMemoNew := ⟨fun _ _ _ k ⟨φ, h⟩ => ⟨φ, k _ h⟩, fun {B0 fps δ σ H Q} o ⟨φ, q⟩ => ⟨φ, fun p hp => q (.ref p) _ [] (Same.new' hp) ⟨p, rfl, upd_same, rfl⟩ Nw.nil⟩⟩
theorem upd_self {H : Hp} {a : Addr} {o : HO} (h : H a = some o) : L2.upd H a o = H := by
  funext b
  unfold L2.upd
  split
  · rename_i e; rw [e, h]
  · rfl
theorem Rfs.ints_of {H : Hp} : ∀ {ks : List Int} {xs : List V} {fp : List Addr}, Rfs K H (ks.map D.int) xs fp → xs = ks.map V.int
  | [], xs, fp, h => by obtain ⟨rfl, _⟩ : xs = [] ∧ _ := h; rfl
  | k :: ks, xs, fp, h => by
    obtain ⟨x, r, f1, f2, rfl, _, ⟨rfl, _⟩, h2⟩ := h
    rw [Rfs.ints_of h2]; rfl
def vMemo (C : Addr) (ns : List Str) (i iw : Nat) (de : DE) (E : DEnds) (δ : Dl) : Prop :=
  ∃ ds φ d ks, δ[0]? = some (some (.ins C ns ds)) ∧ ds[i]? = some (.mem φ) ∧ δ[iw]? = some (some (.tup [.int d, .tup (ks.map D.int)])) ∧ boxK (d, ks) = true ∧ de δ (fun x => ∃ n, x = .int n ∧ φ d ks n) ∧ ∀ n, φ d ks n → E.rt (.int n) δ
theorem st_memo {C : Addr} {f : Str} (ns : List Str) (i iw : Nat) (hc : Cls K C) (hn : NoAttr K C f) (he : ER K Γ te de) (hi : ns[i]? = some f := by rfl) (hd : ns.Nodup := by decide +kernel) {ρ : Bool} {Γr Γl Γn : List Nat} (hr : ∀ j ∈ Γr, j ∈ Γ := by decide) :
    ST K ρ Γr Γl (tSeq (tIfS (tTest (tOp rMemoN (tVar iw) (tFld K (tVar 0) f))) (tAsg te (gSub (tFld K (tVar 0) f) (tVar iw) rMemoS)) tNext) (tRet (tOp rMemoG (tFld K (tVar 0) f) (tVar iw)))) Γ Γn (vMemo C ns i iw de) := by
  intro B0 Dn E fps δ σ H k o h
  obtain ⟨ds, φ, d, ks, e0, ei, ew, hb, h1, h2⟩ := h
  have r0 := o.val 0 _ e0
  have rw1 := o.val iw _ ew
  obtain ⟨v0, s0, p, dx, xs, fq, rfl, hp, _, hxs⟩ := r0
  obtain ⟨wv, fw, gx, ⟨a, rfl, ha, _⟩, _⟩ := hxs.get ei
  obtain ⟨vw, sw, kt, ys, rfl, hk, hys⟩ := rw1
  obtain ⟨y1, r1, f1, f2, rfl, _, ⟨rfl, _⟩, hys2⟩ := hys
  obtain ⟨y2, r2, f3, f4, rfl, _, ⟨kb, zs, rfl, hkb, hzs⟩, hnil⟩ := hys2
  obtain ⟨rfl, _⟩ : r2 = [] ∧ _ := hnil
  have ez := hzs.ints_of
  subst ez
  have hl := lookup_zip (v := V.ref a) hd hi gx
  have fin : ∀ H1, Same H H1 → tRet (tOp rMemoG (tFld K (tVar 0) f) (tVar iw)) Dn σ (L2.upd H1 a (.memo φ [(d, ks)])) := fun H1 s1 => by
    have hp1 := s1 _ _ hp
    have ha1 := s1 _ _ ha
    have hk1 := s1 _ _ hk
    have hb1 := s1 _ _ hkb
    have ne1 : p ≠ a := fun z => by rw [z, ha1] at hp1; cases hp1
    have ne2 : kt ≠ a := fun z => by rw [z, ha1] at hk1; cases hk1
    have ne3 : kb ≠ a := fun z => by rw [z, ha1] at hb1; cases hb1
    refine ⟨.ref p, s0, p, C, dx, _, .ref a, rfl, by rw [upd_ne ne1]; exact hp1, hc, hn, hl, .ref kt, sw, kt, kb, a, φ, d, ks, [(d, ks)], rfl, rfl, by rw [upd_ne ne2]; exact hk1, by rw [upd_ne ne3]; exact hb1, upd_same, List.mem_singleton.mpr rfl, fun n hn => ?_⟩
    rw [upd_upd, upd_self ha1]
    exact k.rt ((o.same s1).sub hr) (Rf.ofScal (d := .int n) rfl) (fun _ => ⟨List.nodup_nil, fun _ h => (nomatch h), fun _ h => (nomatch h), fun _ _ _ h => (nomatch h)⟩) (h2 n hn)
  refine ⟨.ref kt, sw, .ref p, s0, p, C, dx, _, .ref a, rfl, hp, hc, hn, hl, kt, kb, a, φ, d, ks, rfl, hk, hkb, rfl, ha, ⟨true, rfl, ?_⟩, ⟨false, rfl, ?_⟩⟩
  · show tAsg te (gSub (tFld K (tVar 0) f) (tVar iw) rMemoS) _ σ H
    refine he.run o (he.mono _ _ _ (fun x z v H1 s1 r1 => ?_) h1)
    obtain ⟨n, rfl, hφ⟩ := z
    have hv : v = .int n := r1.int
    subst hv
    exact ⟨.ref p, s0, p, C, dx, _, .ref a, rfl, s1 _ _ hp, hc, hn, hl, .ref kt, sw, kt, kb, a, φ, d, ks, [], n, rfl, rfl, rfl, s1 _ _ hk, s1 _ _ hkb, s1 _ _ ha, hb, hφ, fin H1 s1⟩
  · exact fin H (Same.refl H)
end
end L3
set_option linter.all false
set_option maxRecDepth 100000
namespace L2
open PySem PySem.Spec PyProof.Rows
theorem ObjOk.there {P : Program} {w : World} {H : Hp} {h : Heap} {a : Addr} {o : HO} (x : ObjOk P w H h a o) : ∃ ob, h.get? a = some ob := by
  cases o with
  | lst xs => obtain ⟨_, _, _, _, e⟩ := x; exact ⟨_, e⟩
  | tup xs => obtain ⟨_, _, _, ob, e, _⟩ := x; exact ⟨_, e⟩
  | dK kvs => obtain ⟨_, _, _, _, o, _, _, e, _⟩ := x; exact ⟨_, e⟩
  | dT kvs => obtain ⟨_, _, _, _, o, _, _, e, _⟩ := x; exact ⟨_, e⟩
  | set S n => obtain ⟨o, _, _, _, e, _⟩ := x; exact ⟨_, e⟩
  | ins C dx fs => obtain ⟨_, _, _, e, _⟩ := x; exact ⟨_, e⟩
  | own y => exact x
  | xd fs => obtain ⟨_, ⟨_, _, _, e, _⟩, _⟩ := x; exact ⟨_, e⟩
  | rng lo hi => obtain ⟨_, _, _, e⟩ := x; exact ⟨_, e⟩
  | frz ob u => obtain ⟨e, _⟩ := x; exact ⟨_, e⟩
  | tbl ps => exact ⟨_, (show h.get? a = some _ from x)⟩
  | met f y => exact ⟨_, (show h.get? a = some _ from x)⟩
  | ext φ => obtain ⟨_, e, _⟩ := x; exact e
  | memo φ ks => obtain ⟨_, _, _, _, _, _, _, e, _⟩ := x; exact ⟨_, e⟩
def Fly (h : Heap) (H : Hp) (lo : Heap) (a : Addr) (C : Value) : Prop :=
  (H a = none ∧ lo.get? a = none) ∧ ∃ oe vs a0 T oT ts, h.get? a = some oe ∧ (oe.cls = C ∧ vs[0]? = some a0) ∧ oe.data = .fields vs ∧ vs[1]? = some (.ref T) ∧ T ≠ a ∧ h.get? T = some oT ∧ oT.data = .fields ts ∧ ts[3]? = some .none ∧ H T = none ∧ lo.get? T = none
def FlyN (h : Heap) (H : Hp) (lo : Heap) (a : Addr) (C : Value) : Prop :=
  (H a = none ∧ lo.get? a = none) ∧ ∃ oe vs a0, h.get? a = some oe ∧ (oe.cls = C ∧ vs[0]? = some a0) ∧ oe.data = .fields vs ∧ vs[1]? = some .none
def CXR (P : Program) (w : World) : CXT := fun outer H s E e s' => ∃ (a C : Addr) (H' : Hp), e = .ref a ∧ s'.os = s.os ∧ AllBare s'.gens ∧ Un (frs outer) [] H H' s.heap s'.heap ∧ HOk P w H' s'.heap ∧
  Fly s'.heap H' s.heap a (.ref C) ∧ E (.ref C) none H'
section
variable {P : Program} {w : World} {K : PySem.W.Frag} {mg : Str → Option Value} {base : Heap} {N : List Str} {qual : Str} {scope : Scope} {f : Addr} {cd : Value} {A : Around} {outer : List Env} {s0 : Shared} {H0 : Hp} {E : XK}
variable {pins : List (Addr × Obj)} {σ : St} {H' : Hp} {s' : Shared} {a C : Addr} {h2 : Heap}
theorem left_done {as : List Addr} {a0 : Value} (J : Inv (cxOf (CXR P w) P w K mg base N qual scope f cd A outer s0 H0 E) pins σ H' s')
    (has : ∀ b ∈ as, b ∈ frs (envOfC qual scope s0.heap.objs.size f cd :: outer) ∨ (H' b = none ∧ s0.heap.get? b = none))
    (L : Heap.LeftW (PySem.W.hideAll s'.heap as) (envOfC qual scope s0.heap.objs.size f cd :: outer) a (.ref C) a0 s'.heap h2) (ha : H' a = none ∧ s0.heap.get? a = none) (q : E (.ref C) none H') :
    CXR P w outer H0 s0 E (.ref a) { s' with heap := h2 } := by
  obtain ⟨k1, k2, k3, k4⟩ := L
  have bs : Un (frs outer) [] H0 H' s0.heap s'.heap := J.base
  have keepB : ∀ b o, s'.heap.get? b = some o → b ∉ as → h2.get? b = some o := fun b o e n => k1 b o (PySem.W.hideAll_get _ e n)
  have stf : ∀ b ∈ frs (envOfC qual scope s0.heap.objs.size f cd :: outer), H' b = none := J.stkFree
  have sts : ∀ b ∈ frs (envOfC qual scope s0.heap.objs.size f cd :: outer), b ∈ s0.heap.objs.size :: frs outer := J.stkSub
  have trk : ∀ b u, H' b = some u → b ∉ as := fun b u e z => by
    rcases has b z with z | ⟨z, _⟩
    · rw [stf b z] at e; cases e
    · rw [z] at e; cases e
  have nofld : ∀ b ∈ frs (envOfC qual scope s0.heap.objs.size f cd :: outer), ∃ o, s'.heap.get? b = some o ∧ ∀ vs, o.data ≠ .fields vs := fun b hb => (J.stack.mem hb).2
  refine ⟨a, C, H', rfl, J.os, J.bare, ⟨fun b o e n hb hx => ?_, fun b o e n hb hx => ?_, bs.free, fun b o e hx => ?_, bs.tups, bs.frzs, bs.tbls⟩, fun c o e => ?_, ⟨ha, ?_⟩, q⟩
  · refine keepB b o (bs.keep b o e n hb hx) fun z => ?_
    rcases has b z with z | ⟨_, z⟩
    · rcases List.mem_cons.mp (sts b z) with z | z
      · rw [z] at e; exact absurd (Heap.lt_size e) (Nat.lt_irrefl _)
      · exact hb z
    · rw [z] at e; cases e
  · obtain ⟨sl, e1⟩ := bs.slot b o e n hb hx
    obtain ⟨_, o', e', nf⟩ := J.ok.funs.mem hb
    have e' : s0.heap.get? b = some o' := e'
    rw [e] at e'; cases e'
    obtain ⟨sl2, e2⟩ := k4 b { o with slots := sl } e1 nf
    exact ⟨sl2, e2⟩
  · obtain ⟨o', e1⟩ := bs.there b o e hx
    by_cases z : b ∈ as
    · rcases has b z with z | ⟨_, z⟩
      · obtain ⟨o2, e2, nf⟩ := nofld b z
        obtain ⟨sl, e3⟩ := k4 b o2 e2 nf
        exact ⟨_, e3⟩
      · rw [z] at e; cases e
    · exact ⟨o', keepB b o' e1 z⟩
  · refine (J.hok c o e).stay (fun b u hb q => keepB b u q ?_) (fun _ q => q) fun _ _ q => q
    rcases hb with rfl | hb
    · exact trk _ _ e
    · exact trk _ _ hb
  · obtain ⟨oe, vs, T, oT, ts, g1, g2, g3, g4, g5, g6, g7, g8, g9⟩ := k3
    refine ⟨oe, vs, a0, T, oT, ts, g1, g2, g3, g4, g6, g7, g8, g9, ?_, ?_⟩
    · cases r : H' T with
      | none => rfl
      | some u =>
        obtain ⟨ob, e⟩ := (J.hok T u r).there
        rw [PySem.W.hideAll_get as e (trk T u r)] at g5
        cases g5
    · cases r : s0.heap.get? T with
      | none => rfl
      | some u =>
        obtain ⟨o', e1⟩ := bs.there T u r (fun z => (nomatch z))
        by_cases z : T ∈ as
        · rcases has T z with z | ⟨_, z⟩
          · obtain ⟨_, o2, e2, nf⟩ := k2.mem z
            rw [g7] at e2; cases e2
            exact absurd g8 (nf ts)
          · rw [z] at r; cases r
        · rw [PySem.W.hideAll_get as e1 z] at g5; cases g5
theorem leave_x {H : Hp} {s : Shared} (I : Inv (cxOf (CXR P w) P w K mg base N qual scope f cd A outer s0 H0 E) pins σ H s) (os : s'.os = s.os) (bare : AllBare s'.gens)
    (U : Un (frs (envOfC qual scope s0.heap.objs.size f cd :: outer)) [] H H' s.heap s'.heap) (ok : HOk P w H' s'.heap) (fl : FlyN s'.heap H' s.heap a (.ref C) ∨ Fly s'.heap H' s.heap a (.ref C)) (q : E (.ref C) none H') :
    (cxOf (CXR P w) P w K mg base N qual scope f cd A outer s0 H0 E).xe (.ref a) s' := by
  have J : Inv (cxOf (CXR P w) P w K mg base N qual scope f cd A outer s0 H0 E) pins σ H' s' := I.call' os U ok bare fun b hb => (nomatch hb)
  have up : ∀ b, s.heap.get? b = none → s0.heap.get? b = none := fun b n => by
    cases r : s0.heap.get? b with
    | none => rfl
    | some u =>
      obtain ⟨o', e1⟩ := I.base.there b u r (fun z => (nomatch z))
      rw [n] at e1; cases e1
  have hfr : (A.deeper (envOfC qual scope s0.heap.objs.size f cd)).frames = some (envOfC qual scope s0.heap.objs.size f cd :: outer) := J.ok.frames
  have hst : s'.heap.FunFrames base (envOfC qual scope s0.heap.objs.size f cd :: outer) := J.stack
  have hin : ∀ env ∈ (envOfC qual scope s0.heap.objs.size f cd :: outer), ∀ b, env.frame = some b → b ∈ frs (envOfC qual scope s0.heap.objs.size f cd :: outer) := fun env he b hb => List.mem_filterMap.mpr ⟨env, he, hb⟩
  show wpAny _ _ _ _ _ _
  rcases fl with ⟨⟨na, fa⟩, oe, vs, a0, ge, ⟨gc, g0⟩, gd, g1⟩ | ⟨⟨na, fa⟩, oe, vs, a0, T, oT, ts, ge, gc, gd, g1, g2, g3, g4, g5, nT, fT⟩
  · refine wpAny_leaving_firstW (base := PySem.W.hideAll s'.heap (a :: frs (envOfC qual scope s0.heap.objs.size f cd :: outer))) hfr
      (PySem.W.funFrames_hide hst fun env he b hb => List.mem_cons_of_mem _ (hin env he b hb)) rfl ge (fun b o e => PySem.W.of_hideAll _ e) (PySem.W.hideAll_none _ (List.mem_cons_self ..)) gd g1 g0 fun h2 L => ?_
    rw [gc] at L
    refine left_done J (fun b hb => ?_) L ⟨na, up a fa⟩ q
    rcases List.mem_cons.mp hb with rfl | hb
    · exact .inr ⟨na, up _ fa⟩
    · exact .inl hb
  · refine wpAny_leaving_nextW (a0 := a0) (base := PySem.W.hideAll s'.heap (a :: T :: frs (envOfC qual scope s0.heap.objs.size f cd :: outer))) (cls := .ref C) hfr
      (PySem.W.funFrames_hide hst fun env he b hb => List.mem_cons_of_mem _ (List.mem_cons_of_mem _ (hin env he b hb))) rfl
      ⟨oe, vs, T, oT, ts, ge, gc, gd, g1, PySem.W.hideAll_none _ (List.mem_cons_of_mem _ (List.mem_cons_self ..)), g2, g3, g4, g5⟩ (fun b o e => PySem.W.of_hideAll _ e) (PySem.W.hideAll_none _ (List.mem_cons_self ..)) fun h2 L => ?_
    refine left_done J (fun b hb => ?_) L ⟨na, up a fa⟩ q
    rcases List.mem_cons.mp hb with rfl | hb
    · exact .inr ⟨na, up _ fa⟩
    · rcases List.mem_cons.mp hb with rfl | hb
      · exact .inr ⟨nT, up _ fT⟩
      · exact .inl hb
theorem pass_x : Passes (CXR P w) (cxOf (CXR P w) P w K mg base N qual scope f cd A outer s0 H0 E) E := fun pins σ H s e s' I h => by
  obtain ⟨a, C, H', rfl, os, bare, U, ok, fl, q⟩ := h
  exact leave_x I os bare U ok (.inr fl) q
end
def tRaise (C : Addr) (E : XK) (ta : TA) : TS := fun _ σ H => ta σ H fun vs H1 => vs.length ≤ 1000 ∧ E (.ref C) none H1
def Raises (X : Cx) (C : Addr) (E : XK) : Prop := ∀ (pins : List (Addr × Obj)) (σ : St) (H : Hp) (s : Shared) (h' : Heap) (a : Addr) (us : List Value), Inv X pins σ H s → Heap.MadeExcOf s.heap h' a (.ref C) us → E (.ref C) none H → X.xe (.ref a) { s with heap := h' }
theorem raise_x {P : Program} {w : World} {K : PySem.W.Frag} {mg : Str → Option Value} {base : Heap} {N : List Str} {qual : Str} {scope : Scope} {f : Addr} {cd : Value} {A : Around} {outer : List Env} {s0 : Shared} {H0 : Hp} {E : XK} {C : Addr} :
    Raises (cxOf (CXR P w) P w K mg base N qual scope f cd A outer s0 H0 E) C E := fun pins σ H s h' a us I hx q => by
  obtain ⟨t, ht, _, _⟩ := hx.there
  refine leave_x (s' := { s with heap := h' }) I rfl I.bare (Un.kept hx.keeps) (I.hok.kept hx.keeps) (.inl ⟨⟨?_, hx.new⟩, _, _, _, ht, ⟨rfl, rfl⟩, rfl, rfl⟩) q
  cases r : H a with
  | none => rfl
  | some u =>
    obtain ⟨ob, e⟩ := (I.hok a u r).there
    rw [hx.new] at e; cases e
section
variable {X : Cx} {x : Str} {C : Addr} {bmB : List Value} {B newId initId : String} {E : XK} {e : Expr} {es : List Expr} {ta : TA} {np cpos pos : Pos}
theorem ps_raise (O : OwnCls x C bmB newId X.mg X.base) (FB : ExcBaseFacts B newId initId bmB) (hc : X.calm = true) (hg : Gl X x) (hxe : Raises X C E) (ha : PA X (e :: es) ta) (hdb : (x == ("__debug__" : Str)) = false := by decide)
    (he : starEach (e :: es) X.env = (false, eval e X.env) :: starEach es X.env := by rfl) (hpl : (backTo cpos (starEach es X.env)).any (·.1) = false := by rfl) :
    PS X (.Raise (some (.Call (.Name x np) (e :: es) [] cpos)) none pos) (tRaise C E ta) := by
  intro pins s σ H D I h
  obtain ⟨tl, N, nm, q, bs, hdct, sn, sub, ab, col, dd, k0, k1, k2, k3, k5, mN, hC, hN, hni, T⟩ := O.obj
  refine wpAny_Raise_call_subT (C := C) (nm := nm) (q := q) (N := N) (bs := bs) (bm := tl) (hdct := hdct) (sn := sn) (sub := sub) (ab := ab) (col := col) (dd := dd) (k0 := k0) (k1 := k1) (k2 := k2) (k3 := k3) (k5 := k5)
    FB (mN := mN) (T.hasType FB.hasBase) (I.ok.hd hc) (by rw [he]; show (false || (backTo cpos (starEach es X.env)).any (·.1)) = false; rw [hpl]; rfl) hni (ld_glob I hg O.bound ⟨rfl, ?_⟩ hdb)
  have h1 := ha cpos pins s σ H _ I h
  rw [he] at h1 ⊢
  refine Calls.evalArgs_plain (thn h1 fun us s1 ⟨vs, H1, I1, r, q1, q2⟩ => ?_)
  exact ⟨rfl, by show us.length ≤ _; rw [← r.length]; exact Nat.le_of_lt (small1000 q1), I1.bk _ _ hC, hN.keeps I1.bk, T.keeps I1.bk, fun h' a hx => hxe pins σ H1 s1 h' a us I1 hx q2⟩
end
end L2
set_option linter.all false
set_option maxRecDepth 100000
namespace L2
open PySem PySem.Spec PyProof.Rows
abbrev VB : List Value := [.type "ValueError", .type "Exception", .type "BaseException", .type "object"]
def ExcObj (h : Heap) (C : Addr) (ups : List Addr) : Prop := ∃ N nm q bs hdct sn sub ab col dd k0 k1 k2 k3 k5 mN,
  h.get? C = some (excClassObj nm q C N bs (ups.map Value.ref ++ VB) hdct sn sub ab col dd k0 k1 k2 k3 k5 "ValueError.__new__") ∧ h.Ns N mN ∧ mN "__init__" = none ∧ OwnTail h VB (ups.map Value.ref ++ VB)
theorem ExcObj.keeps {h h' : Heap} {C : Addr} {ups : List Addr} (O : ExcObj h C ups) (hk : ∀ b o, h.get? b = some o → h'.get? b = some o) : ExcObj h' C ups :=
  let ⟨N, nm, q, bs, hdct, sn, sub, ab, col, dd, k0, k1, k2, k3, k5, mN, hC, hN, hni, T⟩ := O
  ⟨N, nm, q, bs, hdct, sn, sub, ab, col, dd, k0, k1, k2, k3, k5, mN, hk _ _ hC, hN.keeps hk, hni, T.keeps hk⟩
theorem ExcObj.own {h : Heap} {C : Addr} {ups : List Addr} {mg : Str → Option Value} {x : Str} (O : ExcObj h C ups) (hm : mg x = some (.ref C)) : OwnCls x C VB "ValueError.__new__" mg h :=
  let ⟨N, nm, q, bs, hdct, sn, sub, ab, col, dd, k0, k1, k2, k3, k5, mN, hC, hN, hni, T⟩ := O
  ⟨hm, _, N, nm, q, bs, hdct, sn, sub, ab, col, dd, k0, k1, k2, k3, k5, mN, hC, hN, hni, T⟩
theorem excMatches_own {M : Model} {A : Around} {E : Value → Shared → Prop} {s : Shared} {C D e : Addr} {ups upD : List Addr} {oe : Obj} {Q : Bool → Shared → Prop} (OC : ExcObj s.heap C ups) (OD : ExcObj s.heap D upD)
    (he : s.heap.get? e = some oe) (hcls : oe.cls = .ref C) (hb : (C :: ups).contains D = true) (hq : Q true s) : wpAny M A (excMatches (.ref e) (.ref D)) Q E s := by
  obtain ⟨h, g, d, t, os⟩ := s
  obtain ⟨N, nm, q, bs, hdct, sn, sub, ab, col, dd, k0, k1, k2, k3, k5, mN, hC, hN, hni, T⟩ := OC
  obtain ⟨N', nm', q', bs', hdct', sn', sub', ab', col', dd', l0, l1, l2, l3, l5, mN', hD, hN', hni', T'⟩ := OD
  have hcB : (Value.ref D :: (upD.map Value.ref ++ VB)).contains (.type "BaseException") = true := by
    rw [List.contains_cons, T'.hasType (b := true) rfl, Bool.or_true]
  have hcC : (Value.ref C :: (ups.map Value.ref ++ VB)).contains (.ref D) = true := by
    rw [List.contains_iff_mem] at hb ⊢
    rcases List.mem_cons.mp hb with rfl | hb
    · exact List.mem_cons_self ..
    · exact List.mem_cons_of_mem _ (List.mem_append_left _ (List.mem_map_of_mem hb))
  have f := tc_notTuple
  unfold excMatches
  repeat (first | (with_reducible refine wpAny_loadPart_at he ?_; rw [hcls]) | with_reducible refine wpAny_loadPart_at hD ?_ | (with_reducible refine wpAny_isSubtype_exc hD ?_; rw [hcB]) | (with_reducible refine wpAny_isSubtype_exc hC ?_; rw [hcC]) | wp_step)
  exact hq
section
variable {X : Cx} {pins : List (Addr × Obj)} {σ : St} {H H' : Hp} {s s' : Shared} {a C : Addr} {a0 : Value} {h : Heap}
theorem inv_flying {T : Addr} (I : Inv X pins σ H s) (os : s'.os = s.os) (bare : AllBare s'.gens) (U : Un (frs X.stack) [] H H' s.heap s'.heap) (ok : HOk X.prog X.w H' s'.heap)
    (na : H' a = none) (fa : s.heap.get? a = none) (nT : H' T = none) (fT : s.heap.get? T = none)
    (hfl : Heap.FlyingW (PySem.W.hideAll s'.heap (a :: T :: frs X.stack)) X.stack a (.ref C) a0 h) (hup : s'.heap.UpToSlots h) :
    ∃ oe, Inv X ((a, oe) :: pins) σ H' { s' with heap := h } ∧ oe.cls = .ref C ∧ h.get? a = some oe := by
  obtain ⟨k1, k2, k3, oe, vs, T', oT, ts, g1, ⟨g2, _⟩, g3, _⟩ := hfl
  have keepB : ∀ b o, s'.heap.get? b = some o → b ≠ a → b ≠ T → b ∉ frs X.stack → h.get? b = some o := fun b o e n1 n2 n3 => k1 b o (PySem.W.hideAll_get _ e fun z => by
    rcases List.mem_cons.mp z with z | z
    · exact n1 z
    · rcases List.mem_cons.mp z with z | z
      · exact n2 z
      · exact n3 z)
  have old : ∀ b o, s.heap.get? b = some o → b ≠ a ∧ b ≠ T := fun b o e => ⟨fun z => (by rw [z, fa] at e; cases e), fun z => (by rw [z, fT] at e; cases e)⟩
  have J : Inv X pins σ H' s' := I.call' os U ok bare fun b hb => (nomatch hb)
  have un : Un (frs X.stack) [] H H' s.heap h := by
    refine ⟨fun b o e n hb hx => keepB b o (U.keep b o e n hb hx) (old b o e).1 (old b o e).2 hb, fun b o e n hb hx => ?_, U.free, fun b o e hx => ?_, U.tups, U.frzs, U.tbls⟩
    · obtain ⟨sl, e1⟩ := U.slot b o e n hb hx
      obtain ⟨_, o', e', nf⟩ := I.stack.mem hb
      rw [e] at e'; cases e'
      obtain ⟨sl2, e2⟩ := hup b { o with slots := sl } e1 nf
      exact ⟨sl2, e2⟩
    · obtain ⟨o', e1⟩ := U.there b o e hx
      by_cases z : b ∈ frs X.stack
      · obtain ⟨_, o2, e2, nf⟩ := J.stack.mem z
        obtain ⟨sl, e3⟩ := hup b o2 e2 nf
        exact ⟨_, e3⟩
      · exact ⟨o', keepB b o' e1 (old b o e).1 (old b o e).2 z⟩
  have trk : ∀ b u, H' b = some u → b ≠ a ∧ b ≠ T ∧ b ∉ frs X.stack := fun b u e => ⟨fun z => (by rw [z, na] at e; cases e), fun z => (by rw [z, nT] at e; cases e), fun z => (by rw [J.stkFree b z] at e; cases e)⟩
  have ok' : HOk X.prog X.w H' h := fun c o e => (ok c o e).stay (fun b u hb q => by
    have t : b ≠ a ∧ b ≠ T ∧ b ∉ frs X.stack := by
      rcases hb with rfl | hb
      · exact trk _ _ e
      · exact trk _ _ hb
    exact keepB b u q t.1 t.2.1 t.2.2) (fun _ q => q) fun _ _ q => q
  have J6 : Inv X pins σ H' { s' with heap := h } := I.call' (s' := { s' with heap := h }) os un ok' bare fun b hb => (nomatch hb)
  refine ⟨oe, J6.pins_of fun p hp => ?_, g2, g1⟩
  rcases List.mem_cons.mp hp with rfl | hp
  · refine ⟨g1, na, fun z => ?_, fun z => ?_, fun v z => by rw [g3] at z; cases z⟩
    · obtain ⟨m, ⟨o, _, _, e, _⟩, _⟩ := I.loc
      have z : a = X.env.locals := z
      rw [← z, fa] at e; cases e
    · have z : a ∈ frs X.stack := by
        rcases I.ok.stk with e | ⟨e, _⟩
        · rw [e]; exact z
        · rw [e]; unfold frs; rw [List.filterMap_cons]
          split
          · exact z
          · exact List.mem_cons_of_mem _ z
      obtain ⟨_, o, e, _⟩ := I.stack.mem z
      rw [fa] at e; cases e
  · exact J6.pin p (List.mem_append_right _ hp)
end
end L2
set_option linter.all false
set_option maxRecDepth 100000
namespace L2
open PySem PySem.Spec PyProof.Rows
abbrev Cx.held (X : Cx) (a : Addr) (oe : Obj) : Cx := { X with A := X.A.mark (some (.ref a)), calm := false, pn := (a, oe) :: X.pn, xe := fun _ _ => False }
section
variable {X : Cx} {pins : List (Addr × Obj)} {σ : St} {H : Hp} {s : Shared} {a : Addr} {oe : Obj}
theorem mark_frames {A : Around} {u : Option Value} : (A.mark u).frames = A.frames := by cases A; rfl
theorem Cx.Ok.held (ok : X.Ok) : (X.held a oe).Ok :=
  ⟨ok.mod, ok.kind, ok.glob, ok.blt, ok.above, ok.inj, ok.has, ok.cab, (fun z => absurd z (by show ¬ (false = true); decide)), mark_frames.trans ok.frames, ok.stk, ok.exf, ok.bs, ok.bsz, ok.noex, ok.exfs, ok.funs, ok.frf⟩
theorem Inv.held (I : Inv X ((a, oe) :: pins) σ H s) : Inv (X.held a oe) pins σ H s :=
  ⟨I.ok.held, I.os, I.bare, I.base, I.loc, I.cell, I.free, I.freeC, fun p hp => I.pin p (by
    have hp : p ∈ ((a, oe) :: X.pn) ++ pins := hp
    simp only [List.cons_append, List.mem_cons, List.mem_append] at hp ⊢
    rcases hp with h | h | h
    · exact .inr (.inl h)
    · exact .inl h
    · exact .inr (.inr h)), I.hok, I.len⟩
theorem Inv.unheld (ok : X.Ok) (I : Inv (X.held a oe) pins σ H s) : Inv X pins σ H s :=
  ⟨ok, I.os, I.bare, I.base, I.loc, I.cell, I.free, I.freeC, fun p hp => I.pin p (List.mem_cons_of_mem _ hp), I.hok, I.len⟩
theorem goes_ok {M : Model} {A : Around} {E : Value → Shared → Prop} {i : Nat} {n : Str} {pos : Pos} {Q : Unit → Shared → Prop} (I : Inv X pins σ H s) (hN : X.N.Nodup) (hi : X.N[i]? = some n) (hk : X.env.scope.names.lookup n = some .local)
    (h : ∀ s', Inv X pins (σ.set i none) H s' → Q () s') : wpAny M A (do bindName X.env n .none; unbindBehindTheSuite X.env n pos) Q E s := by
  obtain ⟨m, hn, hl⟩ := id I.loc
  have hcls : (X.env.scope.kind == .class || (X.env.scope.kind == .module && X.env.locals != X.env.globals)) = false := by rw [I.ok.kind]; rfl
  have hiσ : i < σ.length := by rw [I.len]; exact (List.getElem?_eq_some_iff.mp hi).1
  have cne := I.cne
  have tracked : ∀ {a : Addr} {h' : Heap}, (∃ o, s.heap.get? a = some o ∧ H a = none) → Heap.SameBut a s.heap h' → HOk X.prog X.w H h' := fun {a h'} ha hs b ob e => by
    obtain ⟨_, _, hfree⟩ := ha
    refine (I.hok b ob e).stay (fun c w' hc q => (hs.2 c ?_).trans q) (fun _ q => q) fun _ _ q => q
    rintro rfl
    rcases hc with rfl | hc
    · rw [hfree] at e; cases e
    · rw [hfree] at hc; cases hc
  refine wpAny_nameGoes_keeps hk hn hcls fun h' v hn' hs => ?_
  obtain ⟨oL, _, _, hoL, _⟩ := id hn
  refine h _ ⟨I.ok, I.os, I.bare, ⟨fun b o e n hb hx => ?_, fun b o e n hb hx => ?_, I.base.free, fun b o e hx => ?_, I.base.tups, I.base.frzs, I.base.tbls⟩, ⟨_, hn', fun j y v' e1 e2 e3 => ?_⟩, fun y c e => ?_, I.free, I.freeC, fun p hp => ?_, tracked ⟨oL, hoL, I.free⟩ hs, by simpa using I.len⟩
  · exact (hs.2 b (Nat.ne_of_lt (Nat.lt_of_lt_of_le (Heap.lt_size e) I.ok.above))).trans (I.base.keep b o e n hb hx)
  · obtain ⟨sl, e1⟩ := I.base.slot b o e n hb hx
    exact ⟨sl, (hs.2 b (Nat.ne_of_lt (Nat.lt_of_lt_of_le (Heap.lt_size e) I.ok.above))).trans e1⟩
  · obtain ⟨o', e1⟩ := I.base.there b o e hx
    exact ⟨o', (hs.2 b (Nat.ne_of_lt (Nat.lt_of_lt_of_le (Heap.lt_size e) I.ok.above))).trans e1⟩
  · by_cases hj : j = i
    · subst hj
      rw [List.getElem?_set_self hiσ] at e2
      cases e2
    · rw [List.getElem?_set_ne (Ne.symm hj)] at e2
      obtain ⟨u', r', q⟩ := hl j y v' e1 e2 e3
      refine ⟨u', r', ?_⟩
      rcases q with ⟨k, e⟩ | ⟨k, c, e, z⟩
      · refine .inl ⟨k, ?_⟩
        have : y ≠ n := fun e => hj (nodup_ix hN e1 (e ▸ hi))
        simp [this, e]
      · exact .inr ⟨k, c, e, z.sameBut hs (cne y c e)⟩
  · obtain ⟨w', z⟩ := I.cell y c e
    exact ⟨w', z.sameBut hs (cne y c e)⟩
  · obtain ⟨e, n, ne, nf, d⟩ := I.pin p hp
    exact ⟨(hs.2 p.1 ne).trans e, n, ne, nf, d⟩
end
section
variable {X : Cx} {CX : CXT} {k : Nat} {f C D : Addr} {fd : FuncData} {ps : List Str} {sp : Sp} {E : XK} {x y n : Str} {p np cp ep hp pos : Pos} {e : Expr} {es : List Expr} {ta : TA} {b₀ : Stmt} {suite : List Stmt} {i : Nat} {ups upD : List Addr}
theorem run_fnX {XE : Value → Shared → Prop} {pins : List (Addr × Obj)} {σ : St} {H : Hp} {s : Shared} {Q : VK} {us : List Value} {vs : List V} (F : FnOk X.prog X.w X.K X.mg X.base CX k f fd ps sp) (hr : Room k X.A) (hb : Binds X.K fd ps [])
    (I : Inv X pins σ H s) (r : Vals vs us) (h : sp vs H Q E) (hx : ∀ e s', CX X.stack H s E e s' → XE e s') : wpAny (model X.prog X.w) X.A (call (.ref f) us) (EP X pins σ Q) XE s := by
  have hl : (us ++ []).length = ps.length := by rw [List.append_nil, ← r.length]; exact F.len _ _ _ _ h
  have hb' := hb s us I.kIn hl
  rw [List.append_nil] at hb'
  refine wpAny_call (codeAny_mono (F.run X.A X.stack s H ⟨us, []⟩ us vs Q E hr I.env0 hb' r h) fun r s' hq => ?_)
  cases r with
  | error e => exact hx e s' hq
  | ok fl =>
    cases fl with
    | ret u => exact I.after hq
    | next => exact False.elim hq
    | brk => exact False.elim hq
    | cont => exact False.elim hq
def tTry (i : Nat) (C : Addr) (sp : Sp) (ta : TA) (th : Addr → TS) : TS := fun Dn σ H => ta σ H fun vs H1 => sp vs H1 (fun _ H2 => Dn.nx σ H2) fun cls _ H2 => cls = .ref C ∧ ∀ a, H2 a = none →
  th a { nx := fun σ' H' => Dn.nx (σ'.set i none) H', rt := fun _ _ => False } (σ.set i (some (.ref a))) H2
theorem ps_try {th : Addr → TS} (hst : X.stack = X.env :: X.outer) (hfm : X.env.frame = some X.env.locals) (F : FnOk X.prog X.w X.K X.mg X.base (CXR X.prog X.w) k f fd ps sp) (hr : Room k X.A) (hgf : Gl X y) (hmf : X.mg y = some (.ref f))
    (hkf : PySem.W.keepIn X.K (.ref f) = true) (hb : Binds X.K fd ps []) (ha : PA X.nox (e :: es) ta) (OC : ExcObj X.base C ups) (OD : ExcObj X.base D upD) (hmD : X.mg x = some (.ref D)) (hgx : Gl X x) (hcon : (C :: ups).contains D = true)
    (hN : X.N.Nodup) (hi : X.N[i]? = some n) (hln : X.env.scope.names.lookup n = some .local) (hs : ∀ a oe, oe.cls = .ref C → PSs (X.held a oe) (b₀ :: suite) (th a))
    (hdx : (x == ("__debug__" : Str)) = false := by decide) (hdy : (y == ("__debug__" : Str)) = false := by decide) (he : starEach (e :: es) X.env = (false, eval e X.env) :: starEach es X.env := by rfl) (hpl : (backTo cp (starEach es X.env)).any (·.1) = false := by rfl)
    (hsw : swapsWith (.Call (.Name y p) (e :: es) [] cp) none ep.line X.env = pure false := by rfl) :
    PS X (.Try [.Expr (.Call (.Name y p) (e :: es) [] cp) ep] [.ExceptHandler (some (.Name x np)) (some n) (b₀ :: suite) hp] [] [] pos) (tTry i C sp ta th) := by
  intro pins s σ H Dn I h
  refine wpAny_Try_except (wpAny_execs_cons (wpAny_Expr_any ?_ I.quiet hsw))
  refine wpAny_Call_Name_kw (ld_glob I hgf hmf ?_ hdy)
  refine PySem.W.callWith_K (h₀ := X.base) I.ok.mod.kin hkf (wpAny_mono (ha cp pins s σ H _ (I.wish _) h) (fun us s1 q1 => ?_) fun _ _ z => z.elim) he hpl
  obtain ⟨vs, H1, I1, r, q⟩ := q1
  have I1 : Inv X pins σ H1 s1 := I1.unwish
  refine ⟨I1.kIn, wpAny_mono (run_fnX (XE := fun ev s' => CXR X.prog X.w X.stack H1 s1 _ ev s') F hr hb I1 r q fun _ _ z => z) (fun u s2 z => ?_) fun ev s' z => ?_⟩
  · obtain ⟨v, H2, I2, _, q2⟩ := z
    exact wpAny_execs_nil (wpAny_execs_nil ⟨σ, H2, I2, q2⟩)
  obtain ⟨a, C', H', rfl, os, bare, U, ok, fl, qC, q⟩ := z
  cases qC
  obtain ⟨⟨na, fa⟩, oe, ws, a0, T, oT, ts, ge, gc, gd, g1, g2, g3, g4, g5, nT, fT⟩ := fl
  have J : Inv X pins σ H' s' := I1.call' os U ok bare fun b hb => (nomatch hb)
  have hfl : Heap.FlyingW (PySem.W.hideAll s'.heap (a :: T :: frs X.stack)) (X.env :: X.outer) a (.ref C) a0 s'.heap := by
    refine ⟨fun b o e => PySem.W.of_hideAll _ e, PySem.W.hideAll_none _ (List.mem_cons_self ..), ?_, oe, ws, T, oT, ts, ge, gc, gd, g1, PySem.W.hideAll_none _ (List.mem_cons_of_mem _ (List.mem_cons_self ..)), g2, g3, g4, g5⟩
    rw [← hst]
    exact PySem.W.funFrames_hide J.stack fun env he b hb => List.mem_cons_of_mem _ (List.mem_cons_of_mem _ (List.mem_filterMap.mpr ⟨env, he, hb⟩))
  have hfr : X.A.frames = some (X.env :: X.outer) := by rw [← hst]; exact J.ok.frames
  refine wpAny_looks_onW hfr hfm hfl fun h₄ hheld₄ hsm₄ => ?_
  refine wpAny_landsW hheld₄ fun h₅ hfl₅ hsm₅ => ?_
  obtain ⟨oe5, I5, c5, e5⟩ := inv_flying I1 os bare U ok na fa nT fT (by rw [hst] at hfl₅ ⊢; exact hfl₅) (hsm₄.trans hsm₅)
  have I5' : Inv (X.held a oe5) pins σ H' { s' with heap := h₅ } := I5.held
  refine wpAny_handleBy_cons (codeAny_handlers_test (ld_glob (X := X.held a oe5) I5' hgx hmD ?_ hdx)) (by intro q; cases q)
  refine excMatches_own (OC.keeps I5.bk) (OD.keeps I5.bk) e5 c5 hcon ?_
  refine codeAny_handlers_suite_as ?_
  refine lands_againW hfl₅ fun h₆ hfl₆ hsm₆ => ?_
  obtain ⟨oe6, I6, c6, e6⟩ := inv_flying I1 os bare U ok na fa nT fT (by rw [hst] at hfl₆ ⊢; exact hfl₆) ((hsm₄.trans hsm₅).trans hsm₆)
  have I6' : Inv (X.held a oe6) pins σ H' { s' with heap := h₆ } := I6.held
  refine store_ok (X := X.held a oe6) (v := .ref a) I6' hN hi (.inl hln) rfl (fun s7 I7 => ?_) (.inr hln)
  refine wpAny_mono (hs a oe6 c6 pins s7 _ H' _ I7 (q a na)) (fun fl s8 q8 => ?_) fun _ _ z => z.elim
  cases fl with
  | next =>
    obtain ⟨σ', H8, I8, q8⟩ := q8
    exact goes_ok (I8.unheld J.ok) hN hi hln fun s9 I9 => ⟨_, H8, I9, q8⟩
  | brk => obtain ⟨_, _, _, z⟩ := q8; exact False.elim z
  | cont => obtain ⟨_, _, _, z⟩ := q8; exact False.elim z
  | ret u => obtain ⟨_, _, _, _, _, z⟩ := q8; exact False.elim z
end
end L2
set_option Elab.async false
set_option linter.all false
set_option maxRecDepth 100000
set_option maxHeartbeats 4000000
namespace L3
open PySem L2
abbrev DSX := List D → DK → (Addr → Prop) → Prop
def DMonoX (S : DSX) : Prop := ∀ xs (P P' : DK) (R R' : Addr → Prop), (∀ z, P z → P' z) → (∀ C, R C → R' C) → S xs P R → S xs P' R'
def spX (K : PySem.W.Frag) (S : DSX) : Sp := fun vs H Q E => ∃ ds, Rps K H ds vs ∧ S ds (fun x => ∀ v H' fp, Same H H' → Rf K H' x v fp → Nw H H' nf [] fp → Q v H') (fun C => ∀ H', Same H H' → E (.ref C) none H')
def SX (K : PySem.W.Frag) (ρ : Bool) (Γr Γl : List Nat) (R : Addr → Prop) (t : XK → TS) (Γ Γn : List Nat) (d : DS) : Prop :=
  ∀ ⦃B0 : Hp⦄ ⦃Dn : Ends⦄ ⦃E : DEnds⦄ ⦃Ex : XK⦄ ⦃fps : Nat → List Addr⦄ ⦃δ : Dl⦄ ⦃σ : St⦄ ⦃H : Hp⦄, (∀ C H', Same B0 H' → R C → Ex (.ref C) none H') → EOk K ρ Γr Γl Γn B0 Dn E → Ok K B0 Γ fps δ σ H → d E δ → t Ex Dn σ H
section
variable {K : PySem.W.Frag} {ρ : Bool} {Γr Γl Γ Γ1 Γ2 Γn M : List Nat} {R : Addr → Prop} {t u : XK → TS} {t0 : TS} {d e : DS} {C : Addr} {S : DSX} {ta : TA} {da : DA}
theorem ST.sx (h : ST K ρ Γr Γl t0 Γ Γn d) : SX K ρ Γr Γl R (fun _ => t0) Γ Γn d := fun _ _ _ _ _ _ _ _ _ k o q => h k o q
theorem sx_seq (h1 : SX K ρ Γr Γl R t Γ Γ1 d) (h2 : SX K ρ Γr Γl R u Γ1 Γ2 e) : SX K ρ Γr Γl R (fun Ex => tSeq (t Ex) (u Ex)) Γ Γ2 (vSeq d e) :=
  fun {B0 Dn E Ex fps δ σ H} x k o h => h1 (Dn := { Dn with nx := u Ex Dn }) (E := { E with nx := e E }) x ⟨fun o h => h2 x k o h, k.bk, k.ct, k.rt⟩ o h
theorem sx_if {c : TT} {dc : DT} (hc : TR K Γ c dc) (h1 : SX K ρ Γr Γl R t Γ Γn d) (h2 : SX K ρ Γr Γl R u Γ Γn e) : SX K ρ Γr Γl R (fun Ex => tIfS c (t Ex) (u Ex)) Γ Γn (vIfS dc d e) :=
  fun _ _ _ _ _ _ _ _ x k o h => hc.run o (hc.mono _ _ _ (fun b z H' s => ite_imp (fun z => h1 x k (o.same s) z) (fun z => h2 x k (o.same s) z) z) h)
def vRaise (C : Addr) (R : Addr → Prop) (da : DA) (_ : DEnds) (δ : Dl) : Prop := da δ fun xs => xs.length ≤ 1000 ∧ R C
theorem sx_raise (ha : AR K Γ ta da) : SX K ρ Γr Γl R (fun Ex => tRaise C Ex ta) Γ Γn (vRaise C R da) :=
  fun {B0 Dn E Ex fps δ σ H} x k o h => ha.run o (ha.mono _ _ _ (fun xs z vs H' s r => by
    obtain ⟨fp, r⟩ := r
    exact ⟨by rw [r.length]; exact z.1, x C H' (o.b0.trans s) z.2⟩) h)
def vDropX (S : DSX) (R : Addr → Prop) (da : DA) (E : DEnds) (δ : Dl) : Prop := da δ fun xs => S xs (fun _ => E.nx δ) R
theorem sx_drop (hS : DMonoX S) (ha : AR K Γ ta da) : SX K ρ Γr Γl R (fun Ex => tDrop (tCall (spX K S) [] Ex ta)) Γ Γ (vDropX S R da) :=
  fun {B0 Dn E Ex fps δ σ H} x k o h => ha.run o (ha.mono _ _ _ (fun xs z vs H' s r => ⟨xs, by rw [List.append_nil]; exact r,
    hS _ _ _ _ _ (fun _ z v H2 fp s2 _ _ => k.nx (o.same (s.trans s2)) z) (fun C z H2 s2 => x C H2 (o.b0.trans (s.trans s2)) z) z⟩) h)
def vSetX (S : DSX) (R : Addr → Prop) (i : Nat) (da : DA) (E : DEnds) (δ : Dl) : Prop := da δ fun xs => S xs (fun x => E.nx (δ.set i (some x))) R
theorem em_callX {Ex : XK} {B0 : Hp} {fps : Nat → List Addr} {δ : Dl} {σ : St} {H : Hp} {Q : VK} (hS : DMonoX S) (ha : AR K Γ ta da) (x : ∀ C H', Same B0 H' → R C → Ex (.ref C) none H') (o : Ok K B0 Γ fps δ σ H)
    (h : da δ fun xs => S xs (fun z => ∀ v H' fp, Same H H' → Rf K H' z v fp → Nw H H' fps [] fp → Q v H') R) : tCall (spX K S) [] Ex ta σ H Q :=
  ha.run o (ha.mono _ _ _ (fun xs z vs H1 s1 r1 => ⟨xs, by rw [List.append_nil]; exact r1, hS _ _ _ _ _ (fun u z u' H' fp s r n => z u' H' fp (s1.trans s) r (n.any.later s1)) (fun C z H2 s2 => x C H2 (o.b0.trans (s1.trans s2)) z) z⟩) h)
def vRetX (S : DSX) (R : Addr → Prop) (da : DA) (E : DEnds) (δ : Dl) : Prop := da δ fun xs => S xs (fun x => E.rt x δ) R
theorem fn_valX {N : List Str} {dR : (Addr → Prop) → DS} (hs : ∀ R, SX K true [] [] R t [] Γn (dR R)) (hd : ∀ ds P R, S ds P R → dR R (endsD P) (startD N ds)) :
    ∀ {vs H Q E}, spX K S vs H Q E → t E { nx := fun _ H' => Q .non H', rt := Q } (L2.start N vs) H := by
  rintro vs H Q E ⟨ds, r, h⟩
  obtain ⟨fps, o⟩ := start_ok (N := N) r
  refine hs _ (E := endsD _) (Ex := E) (fun C H' s z => z H' s) ⟨fun {fps δ σ H'} o z => ?_, fun o (z : False) => z.elim, fun o (z : False) => z.elim, fun o r i z => ?_⟩ o (hd ds _ _ h)
  · exact z _ H' [] o.b0 ⟨rfl, rfl⟩ Nw.nil
  · exact z _ _ _ o.b0 r ⟨(i rfl).nd, (i rfl).mu, fun a ha => .inl ((i rfl).nw a ha)⟩
def noX (S : DSX) : DSp := fun ds P => S ds P fun _ => False
theorem noX_mono (hS : DMonoX S) : DMono (noX S) := fun xs P P' k h => hS _ _ _ _ _ k (fun _ z => z) h
theorem em_noX {Ex : XK} (hS : DMonoX S) (ha : AR K Γ ta da) : EM K Γ [] (tCall (spX K S) [] Ex ta) (vCall (noX S) da) :=
  ⟨fun δ P P' k h => ha.mono _ _ _ (fun y z => noX_mono hS _ _ _ k z) h, fun {B0 fps δ σ H Q} o q => em_callX (R := fun _ => False) hS ha (fun _ _ _ z => z.elim) o q⟩
theorem Ok.gone {B0 : Hp} {fps : Nat → List Addr} {δ : Dl} {σ : St} {H : Hp} (o : Ok K B0 Γ fps δ σ H) (j : Nat) (hj : j ∉ Γ) : Ok K B0 Γ (fun i => if i = j then [] else fps i) (δ.set j none) (σ.set j none) H := by
  have o1 := o.dead j .non hj
  refine ⟨by simp [o.len], o.b0, fun i d e => ?_, o1.non, o1.own, o1.dj⟩
  obtain ⟨v, h1, h2⟩ := o1.val i d e
  refine ⟨v, ?_, h2⟩
  by_cases h : i = j
  · subst h
    rw [List.getElem?_set] at e
    by_cases hl : i < δ.length
    · simp [hl] at e
    · simp [hl] at e
  · rw [List.getElem?_set_ne (Ne.symm h)] at h1 ⊢
    exact h1
def vTry (i : Nat) (C : Addr) (S : DSX) (da : DA) (dh : DS) (E : DEnds) (δ : Dl) : Prop :=
  da δ fun xs => S xs (fun _ => E.nx δ) fun C' => C' = C ∧ dh { nx := fun δ' => E.nx (δ'.set i none), rt := fun _ _ => False, bk := fun _ => False, ct := fun _ => False } (δ.set i none)
end
end L3
set_option linter.all false
set_option maxRecDepth 100000
namespace PySem.W
open PySem PySem.Spec PySem.Calls PyProof.Rows
section
variable {prog : Program} {w : World} {A : Around} {E : Value → Shared → Prop} {s : Shared} {K : Frag} {x C : Addr} {ox : Obj}
theorem xc_get {R : Result → Shared → Prop} {tp : Value} (hm : mroIn K C (.type "object") = some true) (X : K.In s.heap) (L0 : Looks (model prog w) s.heap (typeOf (.ref x)) (.ref C)) (h : R (.ok (.ret (.ref C))) s) :
    codeAny (model prog w) A (.call (.builtin "getset_descriptor.__get__") ⟨[.builtin "object.__class__", .ref x, tp], []⟩) R s := by
  obtain ⟨hh, g, dr, t, os⟩ := s
  have hT5 : (⟨hh, g, dr, t, os⟩ : Shared).TypeIs (.builtin "object.__class__") "getset_descriptor" := F.typeOf_object_class
  have L1 : Looks (model prog w) hh (isSubtype (.ref C) (.type (".".intercalate ("object.__class__".cutAt '.').dropLast))) true := by
    rw [F.owner_object_class]; exact looks_mroIn (M := model prog w) X hm
  refine codeAny_call_builtin F.slot_gs_get.plain F.entry_gs_get (F.slot_gs_get.check _ _ _ _ _ _ _ _ hT5 (F.args_gs_get _ _ _) ?_)
  repeat (any_goals (first | assumption | with_reducible refine L0.at ?_ | with_reducible refine L1.at ?_ | wp_step))
  refine ⟨Code.quiet_builtin _ (by decide +kernel), codeAny_builtin F.entry_object_class ?_⟩
  repeat (any_goals (first | assumption | with_reducible refine L0.at ?_ | with_reducible refine L1.at ?_ | wp_step))
theorem xc_entry {tk : Tok} {Q : Fin → Shared → Prop} (hcl : findIn K (.ref C) "__class__" = some (some (.builtin "object.__class__"))) (hm : mroIn K C (.type "object") = some true)
    (X : K.In s.heap) (L0 : Looks (model prog w) s.heap (typeOf (.ref x)) (.ref C)) (h : Q (.done (.ret (.ref C))) s) : wpAny (model prog w) A (Builtin.«object.__getattribute__» ⟨[.ref x, .str "__class__" tk], []⟩) Q E s := by
  obtain ⟨hh, g, d, t, os⟩ := s
  have L1 := looks_findIn (M := model prog w) X hcl
  have hT5 : (⟨hh, g, d, t, os⟩ : Shared).TypeIs (.builtin "object.__class__") "getset_descriptor" := F.typeOf_object_class
  have f5 := F.typeOf_object_class
  have f6 := F.slot_gs_get.lookup
  have f7 := F.slot_gs_set.lookup
  repeat (any_goals (first | assumption | with_reducible refine L0.at ?_ | with_reducible refine L1.at ?_ | wp_step))
  refine xc_get hm X L0 ?_
  repeat (any_goals (first | assumption | wp_step))
theorem xc_check {M : Model} {nameV : Value} {Q : Unit → Shared → Prop} (hmB : mroIn K C (.type "BaseException") = some true) (X : K.In s.heap) (L0 : Looks M s.heap (typeOf (.ref x)) (.ref C)) (h : Q () s) :
    wpAny M A (checkBuiltinCall "BaseException.__getattribute__" ⟨[.ref x, nameV], []⟩) Q E s := by
  obtain ⟨hh, g, d, t, os⟩ := s
  have hk : builtinKind "BaseException.__getattribute__" = some .slot := by decide +kernel
  have hsplit : splitId "BaseException.__getattribute__" = some ("BaseException", "__getattribute__") := by decide +kernel
  have L1 := looks_mroIn (M := M) X hmB
  have ha := F.args_bexc_ga (.ref x) nameV
  simp only [checkBuiltinCall, hk, hsplit]
  refine wpAny_bind ?_
  unfold isInstance
  repeat (first | with_reducible refine L0.at ?_ | with_reducible refine L1.at ?_ | wp_step)
  exact h
theorem xc_class {Q : Option Value → Shared → Prop} (hga : findIn K (.ref C) "__getattribute__" = some (some (.builtin "BaseException.__getattribute__"))) (hge : findIn K (.ref C) "__getattr__" = some none)
    (hcl : findIn K (.ref C) "__class__" = some (some (.builtin "object.__class__"))) (hm : mroIn K C (.type "object") = some true) (hmB : mroIn K C (.type "BaseException") = some true)
    (X : K.In s.heap) (L0 : Looks (model prog w) s.heap (typeOf (.ref x)) (.ref C)) (h : Q (some (.ref C)) { s with toks := s.toks + 1 }) : wpAny (model prog w) A (getAttr? (.ref x) "__class__") Q E s := by
  obtain ⟨hh, g, d, t, os⟩ := s
  have L1 := looks_findIn (M := model prog w) X hga
  have L2 := looks_findIn (M := model prog w) X hge
  have f3 := F.attr_ValueError.ga.bind (.ref x)
  have hx2 : (Value.builtin "BaseException.__getattribute__" == Value.builtin "object.__getattribute__") = false := by decide +kernel
  have hx1 : (onTheHeap (Value.ref C) && Value.builtin "BaseException.__getattribute__" == Value.builtin "object.__getattribute__") = false := by rw [hx2]; rfl
  unfold getAttr? getAttrBy?
  repeat (any_goals (first | assumption | with_reducible refine L0.at ?_ | with_reducible refine L1.at ?_ | with_reducible refine L2.at ?_ | wp_step))
  refine codeAny_call_builtin F.attr_ValueError.ga.plain F.entry_bexc_ga (xc_check hmB X L0 (xc_entry hcl hm X L0 ?_))
  repeat (any_goals (first | assumption | wp_step))
structure ExcK (K : Frag) (C : Addr) : Prop where
  ga : findIn K (.ref C) "__getattribute__" = some (some (.builtin "BaseException.__getattribute__"))
  ge : findIn K (.ref C) "__getattr__" = some none
  cl : findIn K (.ref C) "__class__" = some (some (.builtin "object.__class__"))
  ob : mroIn K C (.type "object") = some true
  be : mroIn K C (.type "BaseException") = some true
  is : (clsIn K C).isSome = true
def ExcAt (x C : Addr) (h : Heap) : Prop := ∃ o, h.get? x = some o ∧ o.cls = .ref C
theorem ExcAt.ty {h : Heap} (M : Model) (p : ExcAt x C h) : Looks M h (typeOf (.ref x)) (.ref C) := by
  obtain ⟨o, h1, h2⟩ := p
  exact h2 ▸ (Looks.ld h1).andThen .now
theorem kitx_exc (k : ExcK K C) : KitX K (.ref x) (.ref C) (ExcAt x C) where
  ty := fun M _ _ p => p.ty M
  it := fun _ _ X _ => by
    have z0 := k.is
    unfold clsIn at z0
    split at z0
    · rename_i c' d' cd' sl' ho
      intro A' Q' E' s' k q
      unfold isType loadHead
      exact wpAny_bind (wpAny_loadPart (k _ _ (X _ _ ho)) (wpAny_pure q))
    · cases z0
  ne := fun h tp dd its n sl X htp => by
    have z0 := k.is
    refine Bool.eq_false_iff.mpr fun q => ?_
    have e : C = tp := Value.ref.inj (beq_iff_eq.mp q)
    subst e
    unfold clsIn at z0
    split at z0
    · rename_i c' d' cd' sl' ho
      have z := (X _ _ ho).symm.trans htp
      cases z
    · cases z0
  ca := fun X p q => xc_class k.ga k.ge k.cl k.ob k.be X (p.ty _) q
end
end PySem.W
namespace L2
open PySem PySem.Spec PyProof.Rows
section
variable {X : Cx} {pins : List (Addr × Obj)} {σ : St} {H : Hp} {s : Shared} {a C : Addr} {oe : Obj} {i : Nat} {n x : Str} {np p cp : Pos} {b : Bool}
theorem Inv.excAt (I : Inv (X.held a oe) pins σ H s) (hc : oe.cls = .ref C) : PySem.W.ExcAt a C s.heap := ⟨oe, (I.pin (a, oe) (List.mem_append_left _ (List.mem_cons_self ..))).1, hc⟩
end
end L2
set_option linter.all false
set_option maxRecDepth 100000
namespace L2
open PySem PySem.Spec PyProof.Rows
section
variable {X : Cx} {a C : Addr} {oe : Obj}
theorem vals_refs : ∀ {cs : List Addr} {us : List Value}, Vals (cs.map V.ref) us → us = cs.map Value.ref
  | [], us, r => by cases r; rfl
  | c :: cs, us, r => by
    cases r with
    | cons r rr =>
      have e := vals_refs rr
      have e1 : _ = Value.ref c := r
      rw [e, e1]; rfl
def isxR (K : PySem.W.Frag) (a C : Addr) : List V → Hp → VK → Prop := fun xs H Q => ∃ b, Q (.bl b) H ∧
    ((∃ (p : Addr) (cs : List Addr), xs = [.ref a, .ref p] ∧ H p = some (.tup (cs.map V.ref)) ∧ PySem.W.kitAny K (.ref C) (cs.map Value.ref) = some b) ∨ ∃ T, xs = [.ref a, .ty T] ∧ PySem.W.kitOne K (.ref C) (.type T) = some b)
theorem call_isx (hc : oe.cls = .ref C) (k : PySem.W.ExcK X.K C) : CallR (X.held a oe) (.builtin "isinstance") (isxR X.K a C) := by
  intro pins s σ H xs us Q I r h
  obtain ⟨b, q, ⟨p, cs, rfl, hp, e⟩ | ⟨T, rfl, e⟩⟩ := h
  · obtain ⟨u, v, rfl, ru, rv⟩ := vals2 r
    obtain rfl : u = Value.ref a := ru
    obtain rfl : v = Value.ref p := rv
    obtain ⟨_, its, rv, ho⟩ := (show ObjOk X.prog X.w H s.heap p (.tup (cs.map V.ref)) from I.hok p _ hp)
    obtain rfl := vals_refs rv
    obtain ⟨o, h1, h2, n, h3⟩ := ho
    obtain ⟨oc, od, oda, osl⟩ := o
    dsimp only at h2 h3
    subst h2 h3
    exact PySem.W.kia_tup (PySem.W.kitx_exc k) I.kIn (I.excAt hc) h1 e (fun z => nomatch z) fun tk => ⟨.bl b, H, I.tok _, rfl, q⟩
  · obtain ⟨u, v, rfl, ru, rv⟩ := vals2 r
    obtain rfl : u = Value.ref a := ru
    obtain rfl : v = Value.type T := rv
    exact PySem.W.kia_one (PySem.W.kitx_exc k) I.kIn (I.excAt hc) e (fun z => nomatch z) fun tk => ⟨.bl b, H, I.tok _, rfl, q⟩
end
section
variable {P : Program} {w : World} {K : PySem.W.Frag} {mg : Str → Option Value} {base : Heap} {CX : CXT}
theorem Fun.okX {x qual : Str} {st : Stmt} {f : Addr} {fd : FuncData} {N ps : List Str} {k : Nat} {sp : Sp} (F : Fun K x qual st f fd) (S : FnScope N ps (defScope st)) (len : ∀ vs H Q E, sp vs H Q E → vs.length = ps.length)
    (hbody : ∀ (cdv : Value) (A : Around) (outer : List Env) (s : Shared) (H : Hp) (vs : List V) (Q : VK) (E : XK), Room k (A.deeper (envOfC qual (defScope st) s.heap.objs.size f cdv)) → sp vs H Q E →
      ∃ t, PSs (cxOf (CXR P w) P w K mg base N qual (defScope st) f cdv A outer s H E) (defBody st) t ∧ t { nx := fun _ H' => Q .non H', rt := Q } (start N vs) H) : FnOk P w K mg base (CXR P w) (k + 1) f fd ps sp := by
  obtain ⟨oc, od, kV, doc, pm, an, cdv, ct, osl, rfl, lk, hcd⟩ := F.ex
  exact fn_of lk hcd S len fun A outer s H vs Q E hr hsp => hbody cdv A outer s H vs Q E hr hsp
end
theorem ExcObj.of_lookup {K : PySem.W.Frag} {h : Heap} {C : Addr} {ups : List Addr} {mro : List Value} {dd : Option Addr} {nm qn : Str} {bs : List Value} {ns : Addr} {hd : Bool} {sn : List Str} {sub : List Value} {ab : Bool} {col : Option Bool} {k0 k1 k2 k3 k5 : Option Value} (X : K.In h)
    (u : K.lookup C = some ⟨.type "type", dd, .cls ⟨nm, bs, mro, ns, qn, hd, sn, sub, ab, col, false⟩, #[k0, k1, k2, k3, some (.builtin "ValueError.__new__"), k5]⟩) (hm : mro = .ref C :: (ups.map Value.ref ++ VB)) (v : PySem.W.excIn K C VB "ValueError.__new__" = true) : ExcObj h C ups := by
  subst hm
  unfold PySem.W.excIn at v
  rw [u] at v
  simp only [Bool.and_eq_true, beq_iff_eq, Bool.not_eq_true'] at v
  obtain ⟨⟨⟨_, ht⟩, hok⟩, hni⟩ := v
  exact ⟨ns, nm, qn, bs, hd, sn, sub, ab, col, dd, k0, k1, k2, k3, k5, _, X _ _ u, .of_isNs (PySem.W.isNs_of_in X hok), PySem.W.nsMap_none_of_in X hok hni, PySem.W.tail_of_in X ht⟩
theorem passN {X : Cx} {P : Program} {w : World} : Passes (CXR P w) X E0 := fun _ _ _ _ _ _ _ h => by
  obtain ⟨_, _, _, _, _, _, _, _, _, q⟩ := h
  exact q.elim
end L2
set_option Elab.async false
set_option linter.all false
set_option maxRecDepth 100000
set_option maxHeartbeats 4000000
namespace L3
open PySem L2
def STi (K : PySem.W.Frag) (i : Nat) (t : Addr → TS) (Γ : List Nat) (d : DS) : Prop :=
  ∀ ⦃a : Addr⦄ ⦃B0 : Hp⦄ ⦃Dn : Ends⦄ ⦃E : DEnds⦄ ⦃fps : Nat → List Addr⦄ ⦃δ : Dl⦄ ⦃σ : St⦄ ⦃H : Hp⦄, (∀ {fps δ σ H}, Ok K B0 Γ fps δ σ H → σ[i]? = some (some (.ref a)) → E.nx δ → Dn.nx σ H) →
    Ok K B0 Γ fps δ σ H → σ[i]? = some (some (.ref a)) → d E δ → t a Dn σ H
section
variable {K : PySem.W.Frag} {ρ : Bool} {Γr Γl Γ : List Nat} {i : Nat} {t u : Addr → TS} {d e : DS} {C : Addr} {S : DSX} {ta : TA} {da : DA}
def vKnow (j : Nat) (n : Int) (E : DEnds) (δ : Dl) : Prop := E.nx (δ.set j (some (.int n)))
theorem sti_know (j : Nat) {te : Addr → TE} {n : Int} (he : ∀ a σ H (Q : VK), σ[i]? = some (some (.ref a)) → (∀ H', Same H H' → Q (.int n) H') → te a σ H Q) (hj : j ∉ Γ := by decide) (hij : j ≠ i := by decide) :
    STi K i (fun a => tAsg (te a) (gName j)) Γ (vKnow j n) :=
  fun {a B0 Dn E fps δ σ H} k o hi h => he a σ H _ hi fun H' s => k ((o.setSh j s (Rf.ofScal (d := .int n) rfl) (fun _ _ _ z => (nomatch z))).sub fun l hl => mem_minus.mpr ⟨hl, fun q => hj (by rw [← List.mem_singleton.mp q]; exact hl)⟩)
    (by rw [List.getElem?_set_ne hij]; exact hi) h
def vWhen (b : Bool) (d e : DS) (E : DEnds) (δ : Dl) : Prop := if b = true then d E δ else e E δ
def vTryI (i : Nat) (C : Addr) (S : DSX) (da : DA) (dh : DS) (E : DEnds) (δ : Dl) : Prop := i < δ.length ∧ vTry i C S da dh E δ
theorem st_tryI {dh : DS} (i : Nat) (hS : DMonoX S) (ha : AR K Γ ta da) (hh : STi K i t Γ dh) (hi : i ∉ Γ := by decide) : ST K ρ Γr Γl (tTry i C (spX K S) ta t) Γ Γ (vTryI i C S da dh) :=
  fun {B0 Dn E fps δ σ H} k o h => ha.run o (ha.mono _ _ _ (fun xs z vs H1 s1 r1 => ⟨xs, r1, hS _ _ _ _ _ (fun _ z v H2 fp s2 _ _ => k.nx (o.same (s1.trans s2)) z)
    (fun C' z H2 s2 => ⟨congrArg Value.ref z.1, fun a _ => hh (E := { nx := fun δ' => E.nx (δ'.set i none), rt := fun _ _ => False, bk := fun _ => False, ct := fun _ => False })
      (fun o3 _ z3 => k.nx (o3.gone i hi) z3) ((o.same (s1.trans s2)).dead i (.ref a) hi) (List.getElem?_set_self (by rw [o.len]; exact h.1)) z.2⟩) z⟩) h.2)
theorem isx_tup {Q : VK} {b : Bool} {a : Addr} {cs : List Addr} {v : TA} {σ : St} {H : Hp} (hv : ∀ σ H (Q : List V → Hp → Prop), Q (cs.map V.ref) H → v σ H Q) (hl : cs.length ≤ 1000) (e : PySem.W.kitAny K (.ref C) (cs.map Value.ref) = some b)
    (hi : σ[i]? = some (some (.ref a))) (q : ∀ H', Same H H' → Q (.bl b) H') : tCB (isxR K a C) (tCons (tVar i) (tCons (tTup v) tNil)) σ H Q :=
  ⟨_, hi, hv _ _ _ ⟨by rw [List.length_map]; exact Nat.le_of_lt (small1000 hl), fun p hp => ⟨b, q _ (Same.new hp), .inl ⟨p, cs, rfl, upd_same, e⟩⟩⟩⟩
theorem isx_one {Q : VK} {b : Bool} {a : Addr} {T : String} {σ : St} {H : Hp} (e : PySem.W.kitOne K (.ref C) (.type T) = some b)
    (hi : σ[i]? = some (some (.ref a))) (q : Q (.bl b) H) : tCB (isxR K a C) (tCons (tVar i) (tCons (tC (.ty T)) tNil)) σ H Q := ⟨_, hi, b, q, .inr ⟨T, rfl, e⟩⟩
end
theorem spX_len {K : PySem.W.Frag} {S : DSX} {n : Nat} (hS : ∀ ds P R, S ds P R → ds.length = n) {vs : List V} {H : Hp} {Q : VK} {E : XK} (h : spX K S vs H Q E) : vs.length = n := by
  obtain ⟨ds, ⟨fp, r⟩, h⟩ := h
  rw [r.length]; exact hS _ _ _ h
end L3
set_option Elab.async false
set_option linter.all false
set_option maxRecDepth 100000
set_option maxHeartbeats 4000000
namespace L2
open PySem
theorem PA.nox {X : Cx} {es : List Expr} {t : TA} (h : PA X.nox es t) : PA X es t := fun pos pins s σ H Q I hw =>
  wpAny_mono (h pos pins s σ H Q (I.wish _) hw) (fun _ _ ⟨v, H', I', r, q⟩ => ⟨v, H', I'.unwish, r, q⟩) fun _ _ z => False.elim z
theorem PS.nox {X : Cx} {st : Stmt} {t : TS} (h : PS X.nox st t) : PS X st t := fun pins s σ H D I hw =>
  wpAny_mono (h pins s σ H D (I.wish _) hw) (fun _ _ q => q.unwish) fun _ _ z => False.elim z
end L2
set_option Elab.async false
set_option linter.all false
set_option maxRecDepth 100000
namespace L2
open PySem PySem.Spec PyProof.Rows
section
variable {P : Program} {w : World} {K : PySem.W.Frag} {mg : Str → Option Value} {base : Heap} {x qual : Str} {st : Stmt} {dv : List Value} {f : Addr} {fd : FuncData} {N ps : List Str} {k : Nat} {sp : Sp}
end
end L2
set_option Elab.async false
set_option linter.all false
set_option maxRecDepth 100000
namespace L3
open PySem L2
section
variable {K : PySem.W.Frag} {Γ : List Nat} {t : TA} {d : DA}
def vDef (d : DA) (z : Int) : DA := fun δ P => d δ fun xs => P (xs ++ [.int z])
end
end L3
set_option Elab.async false
set_option linter.all false
set_option maxRecDepth 100000
namespace L2
open PySem PySem.Spec PyProof.Rows
def XAt (outer : List Env) (s : Shared) (H : Hp) (a C : Addr) : Prop := ∃ oe, s.heap.get? a = some oe ∧ oe.cls = .ref C ∧ H a = none ∧ a ∉ frs outer
def calmed (A : Around) : Around := { A with handled := none }
def cxE (P : Program) (w : World) (K : PySem.W.Frag) (mg : Str → Option Value) (base : Heap) (N : List Str) (qual : Str) (sc : Scope) (f : Addr) (cdv : Value) (A : Around) (outer : List Env) (s : Shared) (H : Hp) : Cx :=
  { cxOf CX0 P w K mg base N qual sc f cdv A outer s H (fun _ _ _ => False) with calm := false, xe := fun _ _ => False }
structure FnE (P : Program) (w : World) (K : PySem.W.Frag) (mg : Str → Option Value) (base : Heap) (k : Nat) (f : Addr) (fd : FuncData) (ps : List Str) (C : Addr) (sp : Addr → Sp) : Prop where
  len : ∀ a vs H Q E, sp a vs H Q E → vs.length = ps.length
  run : ∀ (a : Addr) (A : Around) (outer : List Env) (s : Shared) (H : Hp) (args : Args) (us : List Value) (vs : List V) (Q : VK) (E : XK), Room k (calmed A) → Env0 P w K mg base A outer s H → XAt outer s H a C → BindsTo s fd args (ps.zip us) → Vals vs us → sp a vs H Q E →
    codeAny (model P w) A (.call (.ref f) args) (CR CX0 outer P w H s Q E) s
section
variable {P : Program} {w : World} {K : PySem.W.Frag} {mg : Str → Option Value} {base : Heap}
section
variable {CX : CXT} {N : List Str} {qual : Str} {sc : Scope} {f : Addr} {cdv : Value} {A : Around} {outer : List Env} {s s' : Shared} {H H' : Hp} {E : XK} {σ' : St} {Q : VK} {v : V} {u : Value}
theorem ce_of (J : Inv (cxE P w K mg base N qual sc f cdv A outer s H) [] σ' H' s') (rv : RelV v u) (q : Q v H') : CE outer P w H s Q u s' := ⟨v, H', J.os, J.bare, J.base, J.hok, rv, q⟩
theorem inv_E (J : Inv (cxOf CX0 P w K mg base N qual sc f cdv (calmed A) outer s H E) [] σ' H' s') : Inv (cxE P w K mg base N qual sc f cdv A outer s H) [] σ' H' s' :=
  ⟨⟨J.ok.mod, J.ok.kind, J.ok.glob, J.ok.blt, J.ok.above, J.ok.inj, J.ok.has, J.ok.cab, (fun z => nomatch z), J.ok.frames, J.ok.stk, J.ok.exf, J.ok.bs, J.ok.bsz, J.ok.noex, J.ok.exfs, J.ok.funs, J.ok.frf⟩, J.os, J.bare, J.base, J.loc, J.cell, J.free, J.freeC, J.pin, J.hok, J.len⟩
end
theorem Fun.okE {x qual : Str} {st : Stmt} {f : Addr} {fd : FuncData} {N ps : List Str} {k : Nat} {C : Addr} {sp : Addr → Sp} (F : Fun K x qual st f fd) (S : FnScope N ps (defScope st)) (len : ∀ a vs H Q E, sp a vs H Q E → vs.length = ps.length)
    (hbody : ∀ (a : Addr) (cdv : Value) (A : Around) (outer : List Env) (s : Shared) (H : Hp) (vs : List V) (Q : VK) (E : XK), XAt outer s H a C → sp a vs H Q E →
      ∃ t, PSs (cxE P w K mg base N qual (defScope st) f cdv A outer s H) (defBody st) t ∧ t { nx := fun _ H' => Q .non H', rt := Q } (start N vs) H) : FnE P w K mg base (k + 1) f fd ps C sp := by
  refine ⟨len, fun a A outer s H args us vs Q E hr e0 hx hb r hsp => ?_⟩
  obtain ⟨oc, od, kV, doc, pm, an, cdv, ct, osl, rfl, lk, hcd⟩ := F.ex
  have kp : ∀ b o, base.get? b = some o → s.heap.get? b = some o := fun b o z => (e0.bs b o z).1
  have kin := e0.mod.kin.keeps kp
  obtain ⟨t, ht, hq⟩ := hbody a cdv A outer s H vs Q E hx hsp
  have e1 : Env0 P w K mg base (calmed A) outer s H := ⟨e0.frames, e0.mod, e0.bs, e0.bsz, e0.funs, e0.frf, e0.hok, e0.bare⟩
  refine codeAny_call_function hr.depth (kin _ _ lk) rfl S.co S.gen rfl (PySem.W.codeRec_of kin hcd) (hb _ _ _ _ (wpAny_newFunctionEnv_cells S.kind (fun y hy => ?_) fun env he s1 j => ?_))
  · exact (S.par y.1 (List.of_mem_zip (show (y.1, y.2) ∈ _ from hy)).1).imp id fun q => ⟨q, PySem.W.cellsFrom_some _ _ _ (.inl q)⟩
  · cases he
    refine ⟨(e0.mod.nolimit.keeps kp).keeps j.toInCall.keep, codeAny_func (wpAny_mono (ht [] s1 _ H _ (inv_E (inv_start (E := E) S hr.hd e1 (len _ _ _ _ _ hsp) r j)) hq) (fun fl s' z => ?_) fun _ _ z => z.elim)⟩
    match fl, z with
    | .ret u, ⟨v, σ', H', J, rv, q⟩ => exact ce_of J rv q
    | .next, ⟨σ', H', J, q⟩ => exact ce_of (v := V.non) J rfl q
    | .brk, ⟨_, _, _, q⟩ => exact q.elim
    | .cont, ⟨_, _, _, q⟩ => exact q.elim
end
section
variable {X : Cx} {a C : Addr}
theorem call_isE (hx : XAt X.outer X.s₀ X.H₀ a C) (hex : X.ex = []) (k : PySem.W.ExcK X.K C) : CallR X (.builtin "isinstance") (isxR X.K a C) := by
  intro pins s σ H xs us Q I r h
  have at' : PySem.W.ExcAt a C s.heap := by
    obtain ⟨oe, h1, h2, h3, h4⟩ := hx
    exact ⟨oe, I.base.keep a oe h1 h3 h4 (by rw [hex]; exact List.not_mem_nil), h2⟩
  obtain ⟨b, q, ⟨p, cs, rfl, hp, e⟩ | ⟨T, rfl, e⟩⟩ := h
  · obtain ⟨u, v, rfl, ru, rv⟩ := vals2 r
    obtain rfl : u = Value.ref a := ru
    obtain rfl : v = Value.ref p := rv
    obtain ⟨_, its, rv, ho⟩ := (show ObjOk X.prog X.w H s.heap p (.tup (cs.map V.ref)) from I.hok p _ hp)
    obtain rfl := vals_refs rv
    obtain ⟨o, h1, h2, n, h3⟩ := ho
    obtain ⟨oc, od, oda, osl⟩ := o
    dsimp only at h2 h3
    subst h2 h3
    exact PySem.W.kia_tup (PySem.W.kitx_exc k) I.kIn at' h1 e (fun z => nomatch z) fun tk => ⟨.bl b, H, I.tok _, rfl, q⟩
  · obtain ⟨u, v, rfl, ru, rv⟩ := vals2 r
    obtain rfl : u = Value.ref a := ru
    obtain rfl : v = Value.type T := rv
    exact PySem.W.kia_one (PySem.W.kitx_exc k) I.kIn at' e (fun z => nomatch z) fun tk => ⟨.bl b, H, I.tok _, rfl, q⟩
end
section
variable {X : Cx} {k : Nat} {f a C : Addr} {oe : Obj} {fd : FuncData} {ps : List Str} {sp : Addr → Sp} {E : XK} {x : Str} {p pos : Pos} {e : Expr} {es : List Expr} {t : TA}
theorem Inv.xAt {pins : List (Addr × Obj)} {σ : St} {H : Hp} {s : Shared} (I : Inv (X.held a oe) pins σ H s) (hc : oe.cls = .ref C) : XAt (X.held a oe).stack s H a C := by
  obtain ⟨h1, h2, h3, h4, _⟩ := I.pin (a, oe) (List.mem_append_left _ (List.mem_cons_self ..))
  refine ⟨oe, h1, hc, h2, fun z => ?_⟩
  rcases List.mem_cons.mp (I.stkSub a z) with q | q
  · exact h3 q
  · exact h4 q
theorem pe_callE (F : FnE X.prog X.w X.K X.mg X.base k f fd ps C sp) (hc : oe.cls = .ref C) (hr : Room k X.A) (hg : Gl (X.held a oe) x) (hm : X.mg x = some (.ref f)) (hk : PySem.W.keepIn X.K (.ref f) = true) (hb : Binds X.K fd ps [])
    (ha : PA (X.held a oe) (e :: es) t) (hdb : (x == ("__debug__" : Str)) = false := by decide) (he : starEach (e :: es) (X.held a oe).env = (false, eval e (X.held a oe).env) :: starEach es (X.held a oe).env := by rfl) (hpl : (backTo pos (starEach es (X.held a oe).env)).any (·.1) = false := by rfl) :
    PE (X.held a oe) (.Call (.Name x p) (e :: es) [] pos) (tCall (sp a) [] E t) := by
  intro pins s σ H Q I h
  refine wpAny_Call_Name_kw (ld_glob I hg hm ?_ hdb)
  refine PySem.W.callWith_K (h₀ := X.base) I.ok.mod.kin hk (thn (ha pos pins s σ H _ I h) fun us s1 ⟨vs, H1, I1, r, q⟩ => ⟨I1.kIn, ?_⟩) he hpl
  have q : sp a (vs ++ []) H1 Q E := q
  rw [List.append_nil] at q
  have hl : (us ++ []).length = ps.length := by rw [List.append_nil, ← r.length]; exact F.len _ _ _ _ _ q
  have hb' := hb s1 us I1.kIn hl
  rw [List.append_nil] at hb'
  refine wpAny_call (codeAny_mono (F.run a _ _ s1 H1 ⟨us, []⟩ us vs Q E ⟨rfl, hr.dp, hr.un⟩ I1.env0 (I1.xAt hc) hb' r q) fun res s' z => ?_)
  match res, z with
  | .error _, z => exact False.elim z
  | .ok (.ret u), z => exact I1.after z
end
end L2
set_option Elab.async false
set_option linter.all false
set_option maxRecDepth 100000
namespace L3
open PySem L2
def spE (b : Bool) (a : Addr) : Sp := fun vs H Q _ => vs = [.ref a] ∧ ∀ H', Same H H' → Q (.bl b) H'
theorem spE_len {b : Bool} {a : Addr} {vs : List V} {H : Hp} {Q : VK} {E : XK} (h : spE b a vs H Q E) : vs.length = 1 := by rw [h.1]; rfl
section
variable {K : PySem.W.Frag} {a C : Addr} {cs1 cs2 : List Addr} {v1 v2 : TA} {Q : VK} {H : Hp} {nx : St → Hp → Prop}
theorem alone_b (e1 : PySem.W.kitAny K (.ref C) (cs1.map Value.ref) = some false) (e2 : PySem.W.kitAny K (.ref C) (cs2.map Value.ref) = some false) 
    (hv1 : ∀ σ H (Q : List V → Hp → Prop), Q (cs1.map V.ref) H → v1 σ H Q) (hv2 : ∀ σ H (Q : List V → Hp → Prop), Q (cs2.map V.ref) H → v2 σ H Q) (l1 : cs1.length ≤ 1000) (l2 : cs2.length ≤ 1000) (q : ∀ H', Same H H' → Q (.bl true) H') :
    tSeq (tIfS (tB (tCB (isxR K a C) (tCons (tVar 0) (tCons (tTup v1) tNil)))) (tRet (tC (.bl false))) tNext)
      (tRet (tNotV (tCB (isxR K a C) (tCons (tVar 0) (tCons (tTup v2) tNil))))) { nx := nx, rt := Q } [some (.ref a)] H := by
  refine isx_tup hv1 l1 e1 rfl fun H1 s1 => ⟨_, rfl, ?_⟩
  refine isx_tup (Q := fun v H2 => _) hv2 l2 e2 rfl fun H2 s2 => ?_
  exact ⟨false, rfl, q _ (s1.trans s2)⟩
end
end L3
set_option linter.all false
set_option maxRecDepth 100000
namespace L2
open PySem PySem.Spec PyProof.Rows
section
variable {X : Cx} {CX : CXT} {k : Nat} {f C D : Addr} {fd : FuncData} {ps : List Str} {sp : Sp} {E : XK} {x y n : Str} {p np cp ep hp pos : Pos} {e : Expr} {es : List Expr} {ta : TA} {b₀ : Stmt} {suite : List Stmt} {i : Nat} {ups upD : List Addr}
end
end L2
set_option linter.all false
set_option maxRecDepth 100000
namespace L2
open PySem PySem.Spec PyProof.Rows
section
variable {X : Cx} {CX : CXT} {k : Nat} {f C D : Addr} {fd : FuncData} {ps : List Str} {sp : Sp} {E : XK} {x y n : Str} {p np cp ep hp pos p2 : Pos} {e b : Expr} {es : List Expr} {ta : TA} {tb : TE} {b₀ : Stmt} {suite : List Stmt} {i : Nat} {ups upD : List Addr} {op : CmpOp} {r : R2}
end
end L2
set_option Elab.async false
set_option linter.all false
set_option maxRecDepth 100000
set_option maxHeartbeats 4000000
namespace L3
open PySem L2
section
variable {K : PySem.W.Frag} {ρ : Bool} {Γr Γl Γ Γ1 Γ2 Γn M : List Nat} {R : Addr → Prop} {t u : TS} {te ta tb tx t1 t2 tz : TE} {de da db dx d1 d2 dz : DE} {d e : DS}
variable {B0 : Hp} {fps : Nat → List Addr} {δ : Dl} {σ : St} {H H' : Hp}
end
end L3
set_option linter.all false
set_option maxRecDepth 100000
namespace L2
open PySem PySem.Spec PyProof.Rows
section
variable {X : Cx}
end
end L2
set_option Elab.async false
set_option linter.all false
set_option maxRecDepth 100000
set_option maxHeartbeats 4000000
namespace L3
open PySem L2
section
variable {K : PySem.W.Frag} {ρ : Bool} {Γr Γl Γ Γ1 Γ2 Γn M : List Nat} {R : Addr → Prop} {t u : TS} {te ta tb tx t1 t2 tz : TE} {de da db dx d1 d2 dz : DE} {d e : DS}
variable {B0 : Hp} {fps : Nat → List Addr} {δ : Dl} {σ : St} {H H' : Hp}
end
end L3
set_option Elab.async false
set_option linter.all false
set_option maxRecDepth 100000
set_option maxHeartbeats 4000000
namespace L2
open PySem PySem.Spec PyProof.Rows PySem.Builtin PySem.Builtin.Str
section
variable {X : Cx}
end
end L2
set_option Elab.async false
set_option linter.all false
set_option maxRecDepth 100000
set_option maxHeartbeats 4000000
namespace L2
open PySem PySem.Spec PyProof.Rows PySem.Builtin PySem.Builtin.Str
section
variable {X : Cx}
end
end L2
set_option Elab.async false
set_option linter.all false
set_option maxRecDepth 100000
set_option maxHeartbeats 4000000
namespace L3
open PySem L2 PySem.Builtin PySem.Builtin.Str
section
variable {K : PySem.W.Frag} {ρ : Bool} {Γr Γl Γ Γ1 Γ2 Γn M : List Nat} {te ta tb tx t1 t2 tz : TE} {de da db dx d1 d2 dz : DE} {u : TA} {dr : DA}
variable {B0 : Hp} {fps : Nat → List Addr} {δ : Dl} {σ : St} {H H' : Hp}
def signs (x : Str) : List D := x.cps.toList.map fun c => .str ⟨#[c]⟩
end
end L3
set_option Elab.async false
set_option linter.all false
set_option maxRecDepth 100000
set_option maxHeartbeats 4000000
namespace L3
open PySem PySem.Builtin PySem.Builtin.Str
def dg (n : Nat) : List Nat := (Nat.toDigits 10 n).map Char.toNat
def sI (i : Int) : List Nat := if i < 0 then 45 :: dg i.natAbs else dg i.natAbs
end L3
set_option Elab.async false
set_option linter.all false
set_option maxRecDepth 100000
set_option maxHeartbeats 4000000
namespace L3
open PySem L2 PySem.Builtin PySem.Builtin.Str
end L3
set_option Elab.async false
set_option linter.all false
set_option maxRecDepth 100000
set_option maxHeartbeats 4000000
namespace L3
open PySem L2
section
variable {K : PySem.W.Frag} {ρ : Bool} {Γr Γl Γ : List Nat} {H : Hp}
theorem upd_imm {b : Addr} {ys : List V} {o : HO} (hb : H b = some (.lst ys)) : ∀ a w, H a = some w → Im w → upd H b o a = some w := fun a w e hi => by
  have : a ≠ b := fun z => by
    subst z
    rw [hb] at e; cases e
    rcases hi with ⟨_, z⟩ | ⟨_, _, z⟩ | ⟨_, _, z⟩ <;> cases z
  rw [upd_ne this]; exact e
theorem Rfs.putAt {b : Addr} {ys : List V} {o : HO} {d d' : D} {x : V} (hb : H b = some (.lst ys)) (hd : ∀ f, Rf K H d x f → f.Nodup → b ∈ f → Rf K (L2.upd H b o) d' x f) :
    ∀ {ds : List D} {xs : List V} {fq : List Addr} {m : Nat}, Rfs K H ds xs fq → fq.Nodup → ds[m]? = some d → xs[m]? = some x → (∀ f, Rf K H d x f → b ∈ f) → Rfs K (L2.upd H b o) (ds.set m d') xs fq
  | [], _, _, m, _, _, e, _, _ => by simp at e
  | d0 :: ds, xs, fq, 0, h, nd, e, ex, hm => by
    obtain ⟨x0, r, f1, f2, rfl, rfl, h1, h2⟩ := h
    simp at e ex
    subst e; subst ex
    obtain ⟨n1, n2, n3⟩ := List.nodup_append.mp nd
    have hbf := hm f1 h1
    exact ⟨x0, r, f1, f2, rfl, rfl, hd f1 h1 n1 hbf, h2.mono (fun a ha w e => by rw [upd_ne (fun z => n3 b hbf a ha z.symm)]; exact e) (upd_imm hb)⟩
  | d0 :: ds, xs, fq, m + 1, h, nd, e, ex, hm => by
    obtain ⟨x0, r, f1, f2, rfl, rfl, h1, h2⟩ := h
    simp only [List.getElem?_cons_succ] at e ex
    obtain ⟨n1, n2, n3⟩ := List.nodup_append.mp nd
    obtain ⟨w, f, e1, r1, hf⟩ := h2.get e
    rw [ex] at e1; cases e1
    have hb2 := hf b (hm f r1)
    exact ⟨x0, r, f1, f2, rfl, rfl, h1.mono (fun a ha w e => by rw [upd_ne (fun z => n3 a ha b hb2 z)]; exact e) (upd_imm hb), Rfs.putAt hb hd h2 n2 e ex hm⟩
theorem Rf.putIn {d : List D} {v : V} {fp : List Addr} {m : Nat} {es es' : List D} (h : Rf K H (.lst d) v fp) (nd : fp.Nodup) (em : d[m]? = some (.lst es)) (s : es.all D.scal = true) (s' : es'.all D.scal = true) :
    ∃ a ys c, v = .ref a ∧ H a = some (.lst ys) ∧ ys[m]? = some (.ref c) ∧ H c = some (.lst (es.map D.toV)) ∧ c ∈ fp ∧ (∀ f, Rf K H (.lst d) v f → c ∈ f) ∧ ∀ f, Rf K H (.lst d) v f → f.Nodup → Rf K (L2.upd H c (.lst (es'.map D.toV))) (.lst (d.set m (.lst es'))) v f := by
  obtain ⟨a, ys, fq, rfl, ha, rfl, hr⟩ := h
  obtain ⟨w, f, e1, r, hf⟩ := hr.get em
  obtain ⟨c, zs, fe, rfl, hc, rfl, hes⟩ := r
  obtain ⟨rfl, rfl⟩ := hes.scals s
  have leaf : ∀ f, Rf K H (.lst es) (.ref c) f → f = [c] := fun f r => by
    obtain ⟨b', ys, fe, e1, hb, rfl, hes⟩ := r
    cases e1
    rw [(hes.scals s).2]
  have inn : ∀ f, Rf K H (.lst d) (.ref a) f → c ∈ f := fun f r => by
    obtain ⟨a', ys', fq', e2, ha', rfl, hr'⟩ := r
    cases e2
    rw [ha] at ha'; cases ha'
    obtain ⟨w', f', e3, r', hf'⟩ := hr'.get em
    rw [e1] at e3; cases e3
    rw [leaf f' r'] at hf'
    exact List.mem_cons_of_mem _ (hf' c List.mem_cons_self)
  refine ⟨a, ys, c, rfl, ha, e1, hc, List.mem_cons_of_mem _ (hf c List.mem_cons_self), inn, fun f r nf => ?_⟩
  obtain ⟨a', ys', fq', e2, ha', rfl, hr'⟩ := r
  cases e2
  rw [ha] at ha'; cases ha'
  obtain ⟨na, nq⟩ := List.nodup_cons.mp nf
  have hcq : c ∈ fq' := by
    obtain ⟨w', f', e3, r', hf'⟩ := hr'.get em
    rw [e1] at e3; cases e3
    rw [leaf f' r'] at hf'
    exact hf' c List.mem_cons_self
  have hac : a ≠ c := fun z => na (z ▸ hcq)
  refine ⟨a, ys, fq', rfl, by rw [upd_ne hac]; exact ha, rfl, Rfs.putAt hc (fun f r _ _ => ?_) hr' nq em e1 fun f r => ?_⟩
  · rw [leaf f r]; exact ⟨c, _, [], rfl, upd_same, rfl, Rfs.ofScals s'⟩
  · rw [leaf f r]; exact List.mem_cons_self
end
end L3
set_option Elab.async false
set_option linter.all false
set_option maxRecDepth 100000
set_option maxHeartbeats 4000000
namespace L2
open PySem PySem.Spec PyProof.Rows PySem.Builtin PySem.Builtin.Str
section
variable {X : Cx}
end
section
variable {prog : Program} {w : World} {A : Around} {E : Value → Shared → Prop} {s : Shared}
end
section
variable {X : Cx} {K : PySem.W.Frag} {o e : Expr} {to te : TE} {p2 pos2 apos cpos : Pos}
end
end L2
set_option Elab.async false
set_option linter.all false
set_option maxRecDepth 100000
set_option maxHeartbeats 4000000
namespace L3
open PySem L2 PySem.Builtin PySem.Builtin.Str
section
variable {K : PySem.W.Frag} {Γ : List Nat} {ta tb : TE} {da db : DE}
end
end L3
set_option Elab.async false
set_option linter.all false
set_option maxRecDepth 100000
set_option maxHeartbeats 4000000
namespace L3
open PySem L2 PySem.Builtin PySem.Builtin.Str
end L3
set_option Elab.async false
set_option linter.all false
set_option maxRecDepth 100000
set_option maxHeartbeats 4000000
namespace L2
open PySem PySem.Spec PyProof.Rows PySem.Builtin PySem.Builtin.Str
section
variable {X : Cx}
end
end L2
set_option Elab.async false
set_option linter.all false
set_option maxRecDepth 100000
set_option maxHeartbeats 4000000
namespace L3
open PySem L2 PySem.Builtin PySem.Builtin.Str
section
variable {K : PySem.W.Frag} {Γ : List Nat} {te : TE} {de : DE}
end
end L3
set_option Elab.async false
set_option linter.all false
namespace L3
open PySem L2 PySem.Builtin PySem.Builtin.Str
end L3
set_option Elab.async false
set_option linter.all false
set_option maxRecDepth 100000
namespace L3
open PySem L2 PySem.Builtin PySem.Builtin.Str
end L3
set_option Elab.async false
set_option linter.all false
set_option maxRecDepth 100000
namespace L3
open PySem L2 PySem.Builtin PySem.Builtin.Str
end L3
set_option linter.all false
set_option maxRecDepth 100000
namespace L2
open PySem PySem.Spec PyProof.Rows
section
variable {X : Cx}
end
end L2
set_option Elab.async false
set_option linter.all false
set_option maxRecDepth 100000
namespace L3
open PySem L2
section
variable {K : PySem.W.Frag}
def D.okN : D → Bool | .non => true | .bl _ => true | .int _ => true | .str _ => true | .tup _ => true | _ => false
end
end L3
set_option Elab.async false
set_option linter.all false
set_option maxRecDepth 100000
set_option maxHeartbeats 4000000
namespace L3
open PySem L2
section
variable {K : PySem.W.Frag} {Γ : List Nat} {ta tb : TE} {da db : DE}
def vCatN (da db : DE) (δ : Dl) (P : DK) : Prop := da δ fun x => db δ fun y => ∃ a b, x = .lst a ∧ y = .lst b ∧ a.length + b.length ≤ 1000 ∧ P (.lst (a ++ b))
theorem em_catN (ha : EM K Γ [] ta da) (hb : EM K Γ [] tb db) : EM K Γ [] (tOp rCat ta tb) (vCatN da db) :=
  ⟨fun δ P P' k h => ha.mono _ _ _ (fun x z => hb.mono _ _ _ (fun y ⟨a, b, e1, e2, e3, q⟩ => ⟨a, b, e1, e2, e3, k _ q⟩) z) h,
   fun {B0 fps δ σ H Q} o h => ha.run o (ha.mono _ _ _ (fun x z v H1 f1 s1 r1 n1 => hb.run (o.same s1) (hb.mono _ _ _ (fun y ⟨a, b, e1, e2, e3, q⟩ w H2 f2 s2 r2 n2 => by
    subst e1 e2
    have r1' := r1.same s2
    obtain ⟨l1, xs, q1, rfl, g1, rfl, k1⟩ := r1'
    obtain ⟨l2, ys, q2, rfl, g2, rfl, k2⟩ := r2
    have c1 := k1.length
    have c2 := k2.length
    refine ⟨l1, l2, xs, ys, rfl, rfl, g1, g2, le1000 (by omega), fun p hp => ?_⟩
    have s3 : Same H2 (upd H2 p (.lst (xs ++ ys))) := Same.new' hp
    have dj : ∀ c ∈ q1, c ∉ q2 := fun c h1 h2 => (n1.mu c (List.mem_cons_of_mem _ h1)).some (n2.fresh c (List.mem_cons_of_mem _ h2))
    refine q (.ref p) _ (p :: (q1 ++ q2)) ((s1.trans s2).trans s3) ⟨p, xs ++ ys, q1 ++ q2, rfl, upd_same, rfl, (k1.append k2).same s3⟩ ⟨List.nodup_cons.mpr ⟨fun hm => ?_, List.nodup_append.mpr ⟨(List.nodup_cons.mp n1.nd).2, (List.nodup_cons.mp n2.nd).2, fun c h1 d h2 e => dj c h1 (e ▸ h2)⟩⟩, fun c hc => ?_, fun c hc => ?_⟩
    · rcases List.mem_append.mp hm with h | h
      · exact ((n1.mu p (List.mem_cons_of_mem _ h)).same s2).some hp
      · exact (n2.mu p (List.mem_cons_of_mem _ h)).some hp
    · rcases List.mem_cons.mp hc with e | hc
      · subst e; exact .inl ⟨_, upd_same⟩
      · rcases List.mem_append.mp hc with h | h
        · exact ((n1.mu c (List.mem_cons_of_mem _ h)).same s2).same s3
        · exact (n2.mu c (List.mem_cons_of_mem _ h)).same s3
    · rcases List.mem_cons.mp hc with e | hc
      · subst e; exact .inl ((s1.trans s2).free hp)
      · rcases List.mem_append.mp hc with h | h
        · exact .inl (n1.fresh c (List.mem_cons_of_mem _ h))
        · exact .inl (s1.free (n2.fresh c (List.mem_cons_of_mem _ h)))) z)) h)⟩
def vPick (da : DE) (dt : DT) (k : Nat) (idx : List Nat) (δ : Dl) (P : DK) : Prop := da δ fun x => ∃ ds, x = .lst ds ∧ ds.length ≤ 1000 ∧ ∃ p : D → Bool, (∀ d ∈ ds, ∀ R : Bool → Prop, R (p d) → dt ((cbaseD k idx δ).set 0 (some d)) R) ∧ P (.lst (ds.filter p))
theorem em_pick {tt : TT} {dt : DT} {k : Nat} {idx : List Nat} (ha : EM K Γ [] ta da) (ht : TR K [] tt dt) (hk : 0 < k := by decide) : EM K Γ [] (tComp (iList K ta) (gName 0) tt (tVar 0) k idx) (vPick da dt k idx) := by
  refine ⟨fun δ P P' k h => ha.mono _ _ _ (fun x ⟨ds, e, l, p, q1, q2⟩ => ⟨ds, e, l, p, q1, k _ q2⟩) h, fun {B0 fps δ σ H Q} o h => ha.run o (ha.mono _ _ _ (fun x z v H1 fp s1 r1 n1 => ?_) h)⟩
  obtain ⟨ds, rfl, hl, p, hp, q⟩ := z
  obtain ⟨a, xs, fq, rfl, ga, rfl, hr⟩ := r1
  have c1 := hr.length
  have nd := List.nodup_cons.mp n1.nd
  refine ⟨a, rfl, ⟨xs, .inl (.inl ga)⟩, fun i m vs H2 => ∃ f2 fs, m = ds.length - i ∧ i ≤ ds.length ∧ Same H1 H2 ∧ vs.length ≤ i ∧ Rfs K H1 (ds.drop i) (xs.drop i) f2 ∧ Rfs K H1 ((ds.take i).filter p) vs fs ∧ (fs ++ f2).Nodup ∧ (∀ b ∈ fs ++ f2, b ∈ fq), ⟨ds.length, fq, [], by omega, Nat.zero_le _, Same.refl _, Nat.zero_le _, by rw [List.drop_zero, List.drop_zero]; exact hr, ⟨rfl, rfl⟩, by rw [List.nil_append]; exact nd.2, fun b hb => by simpa using hb⟩, ?_⟩
  rintro i m vs H2 ⟨f2, fs, rfl, hi, s2, hv, k1, k2, nd2, sub⟩
  have sq : ∀ {H3 : Hp}, Same H1 H3 → SqL K H3 a xs := fun s => .inl (.inl (s _ _ ga))
  by_cases hlt : i < ds.length
  · refine .inr ⟨⟨xs, xs[i]'(by omega), sq s2, List.getElem?_eq_getElem (by omega)⟩, le1000 (by omega), _, fun vs' H' q => q, fun x H3 hy => ?_⟩
    obtain ⟨rfl, hy⟩ := hy
    have ex := hy xs (sq s2)
    rw [List.getElem?_eq_getElem (by omega)] at ex
    cases ex
    rw [List.drop_eq_getElem_cons hlt, List.drop_eq_getElem_cons (show i < xs.length by omega)] at k1
    obtain ⟨x', r', g1, g2, e1, e2, d1, d2⟩ := k1
    cases e1
    subst e2
    have oi := (cb_ok (k := k) (idx := idx) (o.same (s1.trans s2)))
    have o' := (oi.setSh 0 (Same.refl _) (d1.same s2) (fun _ h => (nomatch h))).sub (Γ' := []) (fun _ h => (nomatch h))
    have hd := hp ds[i] (List.getElem_mem hlt)
    have hs0 : ((cbase k idx σ).set 0 (some (xs[i]'(by omega))))[0]? = some (some (xs[i]'(by omega))) := by
      rw [List.getElem?_set_self]
      simp [cbase, caps]
      omega
    refine ht.run o' (hd _ fun H4 s4 => ?_)
    by_cases hb : p ds[i] = true
    · rw [if_pos hb]
      refine ⟨_, hs0, ds.length - (i + 1), by omega, g2, fs ++ g1, rfl, hlt, s2.trans s4, by simp; omega, d2, ?_, ?_, ?_⟩
      · rw [List.take_succ_eq_append_getElem hlt, List.filter_append, List.filter_cons_of_pos hb, List.filter_nil]
        exact k2.append (Rfs.one d1)
      · rw [List.append_assoc]; exact nd2
      · rw [List.append_assoc]; exact sub
    · rw [if_neg hb]
      refine ⟨ds.length - (i + 1), by omega, g2, fs, rfl, hlt, s2.trans s4, by omega, d2, ?_, ?_, ?_⟩
      · rw [List.take_succ_eq_append_getElem hlt, List.filter_append, List.filter_cons_of_neg hb, List.filter_nil, List.append_nil]
        exact k2
      · obtain ⟨a1, a2, a3⟩ := List.nodup_append.mp nd2
        exact List.nodup_append.mpr ⟨a1, (List.nodup_append.mp a2).2.1, fun c h1 d h2 => a3 c h1 d (List.mem_append_right _ h2)⟩
      · exact fun b hb' => sub b ((List.mem_append.mp hb').elim (fun z => List.mem_append_left _ z) (fun z => List.mem_append_right _ (List.mem_append_right _ z)))
  · have e : i = ds.length := by omega
    subst e
    rw [List.take_length] at k2
    refine .inl ⟨⟨xs, sq s2, by omega⟩, le1000 (by omega), fun p0 hp0 => ?_⟩
    have s3 : Same H2 (upd H2 p0 (.lst vs)) := Same.new' hp0
    have inq : ∀ b ∈ fs, b ∈ fq := fun b hb => sub b (List.mem_append_left _ hb)
    refine q _ _ (p0 :: fs) ((s1.trans s2).trans s3) ⟨p0, vs, fs, rfl, upd_same, rfl, k2.same (s2.trans s3)⟩ ⟨List.nodup_cons.mpr ⟨fun h => ?_, (List.nodup_append.mp nd2).1⟩, fun c hc => ?_, fun c hc => ?_⟩
    · exact ((n1.mu p0 (List.mem_cons_of_mem _ (inq p0 h))).same s2).some hp0
    · rcases List.mem_cons.mp hc with e | h
      · subst e; exact .inl ⟨vs, upd_same⟩
      · exact ((n1.mu c (List.mem_cons_of_mem _ (inq c h))).same s2).same s3
    · rcases List.mem_cons.mp hc with e | h
      · subst e; exact .inl ((s1.trans s2).free hp0)
      · exact .inl (n1.fresh c (List.mem_cons_of_mem _ (inq c h)))
end
end L3
set_option linter.all false
set_option maxRecDepth 100000
namespace Tal
def lines : Nat → List (List Int)
  | 0 => [[]]
  | w + 1 => (lines w).map (fun l => 0 :: l) ++ (lines w).map (fun l => 1 :: l)
def linesW (x : Int) (w : Nat) : List (List Int) := (lines w).filter fun r => decide (r.sum = x)
def sub : List Int → List Int → List Int
  | a :: as, b :: bs => (a - b) :: sub as bs
  | [], _ => []
  | _ :: _, [] => []
def W : List Int → List Int → Int
  | [], left => if (∀ x ∈ left, x = 0) then 1 else 0
  | r :: rs, left => ((linesW r left.length).map fun l => W rs (sub left l)).sum
theorem sub_len : ∀ {a b : List Int}, b.length = a.length → (sub a b).length = a.length
  | [], _, _ => rfl
  | a :: as, [], h => by simp at h
  | a :: as, b :: bs, h => by show (sub as bs).length + 1 = as.length + 1; rw [sub_len (by simpa using h)]
theorem sub_get : ∀ {a b : List Int} {i : Nat}, b.length = a.length → (sub a b).getD i 0 = a.getD i 0 - b.getD i 0
  | [], [], i, _ => by simp [sub]
  | [], b :: bs, _, h => by simp at h
  | a :: as, [], _, h => by simp at h
  | a :: as, b :: bs, 0, h => by simp [sub]
  | a :: as, b :: bs, i + 1, h => by
    have := sub_get (a := as) (b := bs) (i := i) (by simpa using h)
    simpa [sub] using this
theorem sub_rng {a b : List Int} (h : a.length = b.length) : (List.range a.length).map (fun (i : Nat) => a.getD i 0 - b.getD i 0) = sub a b := by
  have l2 := sub_len (a := a) (b := b) h.symm
  refine List.ext_getElem (by rw [List.length_map, List.length_range, l2]) fun i h1 h2 => ?_
  rw [List.getElem_map, List.getElem_range, ← sub_get h.symm, List.getD_eq_getElem?_getD, List.getElem?_eq_getElem h2]
  rfl
theorem mem_lines : ∀ {w : Nat} {l : List Int}, l ∈ lines w → l.length = w ∧ ∀ z ∈ l, z = 0 ∨ z = 1
  | 0, l, h => by
    rw [lines, List.mem_singleton] at h
    subst h
    exact ⟨rfl, fun z hz => absurd hz List.not_mem_nil⟩
  | w + 1, l, h => by
    rw [lines, List.mem_append, List.mem_map, List.mem_map] at h
    rcases h with ⟨m, hm, rfl⟩ | ⟨m, hm, rfl⟩
    all_goals
      have := mem_lines hm
      refine ⟨by rw [List.length_cons, this.1], fun z hz => ?_⟩
      rcases List.mem_cons.mp hz with e | e
      · subst e; simp
      · exact this.2 z e
theorem lines_length : ∀ w, (lines w).length = 2 ^ w
  | 0 => rfl
  | w + 1 => by rw [lines, List.length_append, List.length_map, List.length_map, lines_length w, Nat.pow_succ]; omega
theorem mem_linesW {x : Int} {w : Nat} {l : List Int} : l ∈ linesW x w ↔ l ∈ lines w ∧ l.sum = x := by
  rw [linesW, List.mem_filter, decide_eq_true_eq]
theorem linesW_len {x : Int} {w : Nat} : (linesW x w).length ≤ 2 ^ w := by
  rw [← lines_length w]; exact List.length_filter_le _ _
def S (w : Nat) (f : List Int → Int) : Int := ((lines w).map f).sum
theorem S_zero {f : List Int → Int} : S 0 f = f [] := by simp [S, lines]
theorem S_succ {w : Nat} {f : List Int → Int} : S (w + 1) f = S w (fun l => f (0 :: l)) + S w (fun l => f (1 :: l)) := by
  rw [S, lines, List.map_append, List.sum_append, List.map_map, List.map_map]; rfl
theorem S_congr {w : Nat} {f g : List Int → Int} (h : ∀ l ∈ lines w, f l = g l) : S w f = S w g := by
  rw [S, S, List.map_congr_left h]
theorem sum_filter_map (p : List Int → Bool) (f : List Int → Int) : ∀ ls : List (List Int), ((ls.filter p).map f).sum = (ls.map fun l => if p l = true then f l else 0).sum
  | [] => rfl
  | l :: ls => by
    rw [List.map_cons, List.sum_cons, ← sum_filter_map p f ls, List.filter_cons]
    split <;> simp
theorem W_cons {r : Int} {rs left : List Int} : W (r :: rs) left = S left.length (fun l => if l.sum = r then W rs (sub left l) else 0) := by
  rw [W, linesW, sum_filter_map, S]
  congr 1
  refine List.map_congr_left fun l _ => ?_
  simp
theorem S_nought {w : Nat} : S w (fun _ => 0) = 0 := by
  unfold S
  induction lines w with
  | nil => rfl
  | cons a l ih => simp only [List.map_cons, List.sum_cons, ih]; omega
theorem S_nonneg {w : Nat} {f : List Int → Int} (h : ∀ l ∈ lines w, 0 ≤ f l) : 0 ≤ S w f := by
  unfold S
  revert h
  induction lines w with
  | nil => intro _; simp
  | cons a l ih =>
    intro h
    have h1 := h a List.mem_cons_self
    have h2 := ih fun m hm => h m (List.mem_cons_of_mem _ hm)
    simp only [List.map_cons, List.sum_cons]; omega
theorem W_nonneg : ∀ {rs left : List Int}, 0 ≤ W rs left
  | [], left => by rw [W]; split <;> decide
  | r :: rs, left => by
    rw [W_cons]
    refine S_nonneg fun l _ => ?_
    split
    · exact W_nonneg
    · decide
theorem S_perm {a b : List Int} (p : a.Perm b) : ∀ (g : Int → List Int → Int), (∀ k m m', m.Perm m' → g k m = g k m') → S a.length (fun l => g l.sum (sub a l)) = S b.length (fun l => g l.sum (sub b l)) := by
  induction p with
  | nil => intro g _; rfl
  | cons x q ih =>
    intro g hg
    rw [List.length_cons, List.length_cons, S_succ, S_succ]
    have one : ∀ e : Int, _ := fun e => ih (fun k m => g (e + k) ((x - e) :: m)) (fun k m m' pm => hg _ _ _ (pm.cons _))
    have h0 := one 0
    have h1 := one 1
    simp only [List.sum_cons, sub]
    rw [h0, h1]
  | swap x y l =>
    intro g hg
    simp only [List.length_cons, S_succ, List.sum_cons, sub]
    have e1 : S l.length (fun m => g (0 + (1 + m.sum)) ((y - 0) :: (x - 1) :: sub l m)) = S l.length (fun m => g (1 + (0 + m.sum)) ((x - 1) :: (y - 0) :: sub l m)) := S_congr fun m _ => by
      rw [hg _ _ _ (List.Perm.swap _ _ _), show (0 + (1 + m.sum) : Int) = 1 + (0 + m.sum) by omega]
    have e2 : S l.length (fun m => g (1 + (0 + m.sum)) ((y - 1) :: (x - 0) :: sub l m)) = S l.length (fun m => g (0 + (1 + m.sum)) ((x - 0) :: (y - 1) :: sub l m)) := S_congr fun m _ => by
      rw [hg _ _ _ (List.Perm.swap _ _ _), show (0 + (1 + m.sum) : Int) = 1 + (0 + m.sum) by omega]
    have e3 : S l.length (fun m => g (0 + (0 + m.sum)) ((y - 0) :: (x - 0) :: sub l m)) = S l.length (fun m => g (0 + (0 + m.sum)) ((x - 0) :: (y - 0) :: sub l m)) := S_congr fun m _ => hg _ _ _ (List.Perm.swap _ _ _)
    have e4 : S l.length (fun m => g (1 + (1 + m.sum)) ((y - 1) :: (x - 1) :: sub l m)) = S l.length (fun m => g (1 + (1 + m.sum)) ((x - 1) :: (y - 1) :: sub l m)) := S_congr fun m _ => hg _ _ _ (List.Perm.swap _ _ _)
    omega
  | trans _ _ ih1 ih2 => intro g hg; rw [ih1 g hg, ih2 g hg]
theorem W_perm : ∀ {rs a b : List Int}, a.Perm b → W rs a = W rs b
  | [], a, b, p => by
    rw [W, W]
    have : (∀ x ∈ a, x = 0) ↔ (∀ x ∈ b, x = 0) := ⟨fun h x hx => h x (p.mem_iff.mpr hx), fun h x hx => h x (p.mem_iff.mp hx)⟩
    by_cases h : ∀ x ∈ a, x = 0
    · rw [if_pos h, if_pos (this.mp h)]
    · rw [if_neg h, if_neg fun z => h (this.mpr z)]
  | r :: rs, a, b, p => by
    rw [W_cons, W_cons]
    exact S_perm p (fun k m => if k = r then W rs m else 0) fun k m m' pm => by rw [W_perm (rs := rs) pm]
theorem W_out : ∀ {rs left : List Int} {i : Nat}, i < left.length → (left.getD i 0 < 0 ∨ (rs.length : Int) < left.getD i 0) → W rs left = 0
  | [], left, i, hi, h => by
    rw [W, if_neg]
    intro z
    have := z (left.getD i 0) (by rw [List.getD_eq_getElem?_getD, List.getElem?_eq_getElem hi]; exact List.getElem_mem hi)
    simp only [List.length_nil] at h
    omega
  | r :: rs, left, i, hi, h => by
    rw [W_cons]
    refine Eq.trans (S_congr fun l hl => ?_) (S_nought (w := left.length))
    have ml := mem_lines hl
    have : l.getD i 0 = 0 ∨ l.getD i 0 = 1 := ml.2 _ (by rw [List.getD_eq_getElem?_getD, List.getElem?_eq_getElem (by rw [ml.1]; exact hi)]; exact List.getElem_mem _)
    split
    · refine W_out (i := i) (by rw [sub_len ml.1]; exact hi) ?_
      rw [sub_get ml.1]
      simp only [List.length_cons] at h
      omega
    · rfl
end Tal
set_option linter.all false
set_option maxRecDepth 100000
namespace Tal
def lx : List Int → List Int → Bool
  | [], [] => false
  | [], _ :: _ => true
  | _ :: _, [] => false
  | x :: xs, y :: ys => if x = y then lx xs ys else decide (x < y)
theorem lx_self : ∀ l : List Int, lx l l = false
  | [] => rfl
  | x :: l => by rw [lx, if_pos rfl]; exact lx_self l
theorem lx_cons {x : Int} {a b : List Int} : lx (x :: a) (x :: b) = lx a b := by rw [lx, if_pos rfl]
theorem lx_trans : ∀ {a b c : List Int}, lx a b = true → lx b c = true → lx a c = true
  | [], [], _, h, _ => by simp [lx] at h
  | [], y :: b, [], _, h => by simp [lx] at h
  | [], y :: b, z :: c, _, _ => rfl
  | x :: a, [], _, h, _ => by simp [lx] at h
  | x :: a, y :: b, [], _, h => by simp [lx] at h
  | x :: a, y :: b, z :: c, h, k => by
    rw [lx] at h k ⊢
    split at h <;> split at k
    · rename_i e1 e2
      subst e1 e2
      rw [if_pos rfl]; exact lx_trans h k
    · rename_i e1 e2
      subst e1
      rw [if_neg e2]; exact k
    · rename_i e1 e2
      subst e2
      rw [if_neg e1]; exact h
    · rename_i e1 e2
      simp only [decide_eq_true_eq] at h k
      rw [if_neg (by omega)]; simp; omega
theorem lx_asymm {a b : List Int} (h : lx a b = true) : lx b a = false := by
  cases e : lx b a
  · rfl
  · have := lx_trans h e
    rw [lx_self] at this; cases this
theorem lx_total : ∀ {a b : List Int}, a.length = b.length → a ≠ b → lx a b = true ∨ lx b a = true
  | [], [], _, h => absurd rfl h
  | [], _ :: _, h, _ => by simp at h
  | _ :: _, [], h, _ => by simp at h
  | x :: a, y :: b, h, n => by
    by_cases e : x = y
    · subst e
      rw [lx_cons, lx_cons]
      exact lx_total (by simpa using h) (fun z => n (by rw [z]))
    · rw [lx, lx, if_neg e, if_neg (fun z => e z.symm)]
      simp only [decide_eq_true_eq]; omega
theorem lines_sorted : ∀ w, (lines w).Pairwise (fun a b => lx a b = true)
  | 0 => by rw [lines]; exact List.pairwise_singleton _ _
  | w + 1 => by
    have ih := lines_sorted w
    rw [lines, List.pairwise_append]
    refine ⟨?_, ?_, ?_⟩
    · rw [List.pairwise_map]; exact ih.imp fun h => by rw [lx_cons]; exact h
    · rw [List.pairwise_map]; exact ih.imp fun h => by rw [lx_cons]; exact h
    · intro a ha b hb
      obtain ⟨x, _, rfl⟩ := List.mem_map.mp ha
      obtain ⟨y, _, rfl⟩ := List.mem_map.mp hb
      rfl
theorem linesW_sorted {x : Int} {w : Nat} : (linesW x w).Pairwise (fun a b => lx a b = true) := (lines_sorted w).filter _
def A (r : Int) (rs left t : List Int) : Int := (((linesW r left.length).filter fun l => lx l t).map fun l => W rs (sub left l)).sum
def N : List Int → List Int → List (List Int) → Int
  | r :: rs, left, t :: ts => A r rs left t + N rs (sub left t) ts
  | _, _, _ => 0
def Ok : List Int → List Int → List (List Int) → Prop
  | [], left, [] => ∀ x ∈ left, x = 0
  | r :: rs, left, t :: ts => t ∈ linesW r left.length ∧ Ok rs (sub left t) ts
  | _, _, _ => False
theorem filter_sum {f : List Int → Int} (hf : ∀ l, 0 ≤ f l) {p q : List Int → Bool} {t : List Int} : ∀ {ls : List (List Int)}, (∀ l ∈ ls, p l = true → q l = true) → ls.Nodup → ((ls.filter p).map f).sum + (if t ∈ ls ∧ p t = false ∧ q t = true then f t else 0) ≤ ((ls.filter q).map f).sum
  | [], _, _ => by simp
  | a :: ls, h, nd => by
    have ih := filter_sum (t := t) hf (ls := ls) (fun l hl => h l (List.mem_cons_of_mem _ hl)) (List.nodup_cons.mp nd).2
    have ha := h a List.mem_cons_self
    have na := (List.nodup_cons.mp nd).1
    have fa := hf a
    have ft := hf t
    rw [List.filter_cons, List.filter_cons]
    by_cases e : t = a
    · subst e
      rw [if_neg (fun z => na z.1)] at ih
      cases hp : p t with
      | true =>
        rw [ha hp]
        simp only [if_true, List.map_cons, List.sum_cons]
        rw [if_neg (by simp)]
        omega
      | false =>
        cases hq : q t with
        | true => simp; omega
        | false => simp; omega
    · have m : (t ∈ a :: ls ∧ p t = false ∧ q t = true) ↔ (t ∈ ls ∧ p t = false ∧ q t = true) := by simp [e]
      have e2 : (if t ∈ a :: ls ∧ p t = false ∧ q t = true then f t else 0) = if t ∈ ls ∧ p t = false ∧ q t = true then f t else 0 := by
        by_cases z : t ∈ ls ∧ p t = false ∧ q t = true
        · rw [if_pos z, if_pos (m.mpr z)]
        · rw [if_neg z, if_neg (fun y => z (m.mp y))]
      rw [e2]
      cases hp : p a with
      | true =>
        rw [ha hp]
        simp only [if_true, List.map_cons, List.sum_cons]
        omega
      | false =>
        cases hq : q a with
        | true => simp only [if_true, List.map_cons, List.sum_cons]; simp only [Bool.false_eq_true, if_false]; omega
        | false => simpa using ih
theorem linesW_nodup {x : Int} {w : Nat} : (linesW x w).Nodup := linesW_sorted.imp fun {a b} h => by
  intro e; subst e
  rw [lx_self] at h; cases h
theorem A_nonneg {r : Int} {rs left t : List Int} : 0 ≤ A r rs left t := by
  have := filter_sum (f := fun l => W rs (sub left l)) (fun _ => W_nonneg) (p := fun _ => false) (q := fun l => lx l t) (t := t) (ls := linesW r left.length) (fun _ _ h => by cases h) linesW_nodup
  rw [lx_self, List.filter_eq_nil_iff.mpr (fun _ _ => by simp)] at this
  simpa [A] using this
theorem A_step {r : Int} {rs left t u : List Int} (ht : t ∈ linesW r left.length) (h : lx t u = true) : A r rs left t + W rs (sub left t) ≤ A r rs left u := by
  have := filter_sum (f := fun l => W rs (sub left l)) (fun _ => W_nonneg) (p := fun l => lx l t) (q := fun l => lx l u) (t := t) (ls := linesW r left.length) (fun _ _ z => lx_trans z h) linesW_nodup
  rw [if_pos ⟨ht, lx_self t, h⟩] at this
  exact this
theorem A_last {r : Int} {rs left t : List Int} (ht : t ∈ linesW r left.length) : A r rs left t + W rs (sub left t) ≤ W (r :: rs) left := by
  have := filter_sum (f := fun l => W rs (sub left l)) (fun _ => W_nonneg) (p := fun l => lx l t) (q := fun _ => true) (t := t) (ls := linesW r left.length) (fun _ _ z => rfl) linesW_nodup
  rw [if_pos ⟨ht, lx_self t, rfl⟩, List.filter_eq_self.mpr (fun _ _ => rfl)] at this
  exact this
theorem N_bound : ∀ {R left : List Int} {T : List (List Int)}, Ok R left T → 0 ≤ N R left T ∧ N R left T < W R left
  | [], left, [], h => by
    show (0 : Int) ≤ 0 ∧ (0 : Int) < W [] left
    rw [W, if_pos (show ∀ x ∈ left, x = 0 from h)]; decide
  | [], left, _ :: _, h => h.elim
  | _ :: _, left, [], h => h.elim
  | r :: rs, left, t :: ts, h => by
    have ih := N_bound h.2
    have := A_last (rs := rs) h.1
    have := A_nonneg (r := r) (rs := rs) (left := left) (t := t)
    rw [N]; omega
def lxT : List (List Int) → List (List Int) → Bool
  | [], [] => false
  | [], _ :: _ => true
  | _ :: _, [] => false
  | x :: xs, y :: ys => if x = y then lxT xs ys else lx x y
theorem N_mono : ∀ {R left : List Int} {T U : List (List Int)}, Ok R left T → Ok R left U → lxT T U = true → N R left T < N R left U
  | [], left, [], [], _, _, h => by simp [lxT] at h
  | [], left, _ :: _, _, h, _, _ => h.elim
  | [], left, [], _ :: _, _, h, _ => h.elim
  | _ :: _, left, [], _, h, _, _ => h.elim
  | _ :: _, left, _ :: _, [], _, h, _ => h.elim
  | r :: rs, left, t :: ts, u :: us, h, k, e => by
    rw [lxT] at e
    rw [N, N]
    split at e
    · rename_i z
      subst z
      have := N_mono h.2 k.2 e
      omega
    · have a := A_step (rs := rs) h.1 e
      have b := (N_bound h.2).2
      have c := (N_bound k.2).1
      omega
theorem Ok_len : ∀ {R left : List Int} {T : List (List Int)}, Ok R left T → T.length = R.length
  | [], left, [], h => rfl
  | [], left, _ :: _, h => h.elim
  | _ :: _, left, [], h => h.elim
  | r :: rs, left, t :: ts, h => by rw [List.length_cons, List.length_cons, Ok_len h.2]
theorem lxT_total : ∀ {R left : List Int} {T U : List (List Int)}, Ok R left T → Ok R left U → T ≠ U → lxT T U = true ∨ lxT U T = true
  | [], left, [], [], _, _, h => absurd rfl h
  | [], left, _ :: _, _, h, _, _ => h.elim
  | [], left, [], _ :: _, _, h, _ => h.elim
  | _ :: _, left, [], _, h, _, _ => h.elim
  | _ :: _, left, _ :: _, [], _, h, _ => h.elim
  | r :: rs, left, t :: ts, u :: us, h, k, n => by
    rw [lxT, lxT]
    by_cases e : t = u
    · subst e
      rw [if_pos rfl, if_pos rfl]
      exact lxT_total h.2 k.2 (fun z => n (by rw [z]))
    · rw [if_neg e, if_neg (fun z => e z.symm)]
      refine lx_total ?_ e
      rw [(mem_lines (mem_linesW.mp h.1).1).1, (mem_lines (mem_linesW.mp k.1).1).1]
theorem N_inj {R left : List Int} {T U : List (List Int)} (h : Ok R left T) (k : Ok R left U) (e : N R left T = N R left U) : T = U := by
  by_cases z : T = U
  · exact z
  · rcases lxT_total h k z with y | y
    · have := N_mono h k y; omega
    · have := N_mono k h y; omega
theorem pick_last {f : List Int → Int} (hf : ∀ l, 0 ≤ f l) {n : Int} : ∀ {ls : List (List Int)} {acc : Int}, ls.Pairwise (fun a b => lx a b = true) → acc ≤ n → n < acc + (ls.map f).sum →
    ∃ pre x, (ls.filter fun l => decide (acc + ((ls.filter fun m => lx m l).map f).sum ≤ n)) = pre ++ [x] ∧ x ∈ ls ∧ acc + ((ls.filter fun m => lx m x).map f).sum ≤ n ∧ n < acc + ((ls.filter fun m => lx m x).map f).sum + f x
  | [], acc, _, h1, h2 => by simp at h2; omega
  | y :: ls, acc, hs, h1, h2 => by
    obtain ⟨hy, hs'⟩ := List.pairwise_cons.mp hs
    have ay : ((y :: ls).filter fun m => lx m y) = [] := by
      rw [List.filter_eq_nil_iff]
      intro a ha
      rcases List.mem_cons.mp ha with e | e
      · rw [e, lx_self]; simp
      · rw [lx_asymm (hy a e)]; simp
    have al : ∀ l ∈ ls, ((y :: ls).filter fun m => lx m l) = y :: ls.filter fun m => lx m l := fun l hl => by
      rw [List.filter_cons, if_pos (hy l hl)]
    have nn : ∀ l, 0 ≤ ((ls.filter fun m => lx m l).map f).sum := fun l => by
      generalize ls.filter (fun m => lx m l) = q
      induction q with
      | nil => simp
      | cons a q ih => have := hf a; simp only [List.map_cons, List.sum_cons]; omega
    rw [List.map_cons, List.sum_cons] at h2
    have fy : decide (acc + (((y :: ls).filter fun m => lx m y).map f).sum ≤ n) = true := by rw [ay]; simp; exact h1
    have fl : (ls.filter fun l => decide (acc + (((y :: ls).filter fun m => lx m l).map f).sum ≤ n)) = ls.filter fun l => decide ((acc + f y) + ((ls.filter fun m => lx m l).map f).sum ≤ n) := by
      refine List.filter_congr fun l hl => ?_
      rw [al l hl, List.map_cons, List.sum_cons, Int.add_assoc]
    rw [List.filter_cons, if_pos fy, fl]
    by_cases c : acc + f y ≤ n
    · obtain ⟨pre, x, e, hx, k1, k2⟩ := pick_last hf (ls := ls) (acc := acc + f y) hs' c (by omega)
      refine ⟨y :: pre, x, by rw [e]; rfl, List.mem_cons_of_mem _ hx, ?_, ?_⟩
      · rw [al x hx, List.map_cons, List.sum_cons]; omega
      · rw [al x hx, List.map_cons, List.sum_cons]; omega
    · refine ⟨[], y, ?_, List.mem_cons_self, ?_, ?_⟩
      · have : (ls.filter fun l => decide ((acc + f y) + ((ls.filter fun m => lx m l).map f).sum ≤ n)) = [] := by
          rw [List.filter_eq_nil_iff]
          intro l _
          have := nn l
          simp; omega
        rw [this]; rfl
      · rw [ay]; simp; exact h1
      · rw [ay]; simp; omega
theorem at_last {r : Int} {rs left : List Int} {n : Int} (h0 : 0 ≤ n) (h1 : n < W (r :: rs) left) :
    ∃ pre x, ((linesW r left.length).filter fun l => decide (A r rs left l ≤ n)) = pre ++ [x] ∧ x ∈ linesW r left.length ∧ A r rs left x ≤ n ∧ n < A r rs left x + W rs (sub left x) := by
  obtain ⟨pre, x, e, hx, k1, k2⟩ := pick_last (f := fun l => W rs (sub left l)) (fun _ => W_nonneg) (ls := linesW r left.length) (acc := 0) linesW_sorted h0 (by rw [Int.zero_add]; exact h1)
  simp only [Int.zero_add] at e k1 k2
  exact ⟨pre, x, e, hx, k1, k2⟩
def cols (w : Nat) (T : List (List Int)) : List Int := (List.range w).map fun k => (T.map fun r => r.getD k 0).sum
theorem cols_len {w : Nat} {T : List (List Int)} : (cols w T).length = w := by rw [cols, List.length_map, List.length_range]
theorem cols_get {w k : Nat} {T : List (List Int)} (h : k < w) : (cols w T).getD k 0 = (T.map fun r => r.getD k 0).sum := by
  rw [cols, List.getD_eq_getElem?_getD, List.getElem?_map, List.getElem?_range h]; rfl
theorem ext_getD {a b : List Int} (h : a.length = b.length) (k : ∀ i, i < a.length → a.getD i 0 = b.getD i 0) : a = b := by
  refine List.ext_getElem h fun i h1 h2 => ?_
  have := k i h1
  rw [List.getD_eq_getElem?_getD, List.getD_eq_getElem?_getD, List.getElem?_eq_getElem h1, List.getElem?_eq_getElem h2] at this
  exact this
theorem cols_sub {w : Nat} {t : List Int} {T : List (List Int)} (ht : t.length = w) : sub (cols w (t :: T)) t = cols w T := by
  refine ext_getD (by rw [sub_len (by rw [cols_len, ht]), cols_len, cols_len]) fun i hi => ?_
  rw [sub_len (by rw [cols_len, ht]), cols_len] at hi
  rw [sub_get (by rw [cols_len, ht]), cols_get hi, cols_get hi, List.map_cons, List.sum_cons]
  omega
theorem own_Ok : ∀ {R left : List Int} {T : List (List Int)}, Ok R left T → R = T.map List.sum ∧ left = cols left.length T ∧ ∀ t ∈ T, t.length = left.length ∧ ∀ z ∈ t, z = 0 ∨ z = 1
  | [], left, [], h => by
    refine ⟨rfl, ?_, fun _ h => absurd h List.not_mem_nil⟩
    refine ext_getD (by rw [cols_len]) fun i hi => ?_
    rw [cols_get hi, h (left.getD i 0) (by rw [List.getD_eq_getElem?_getD, List.getElem?_eq_getElem hi]; exact List.getElem_mem hi)]
    rfl
  | [], left, _ :: _, h => h.elim
  | _ :: _, left, [], h => h.elim
  | r :: rs, left, t :: ts, h => by
    have m := mem_linesW.mp h.1
    have ml := mem_lines m.1
    have ih := own_Ok h.2
    rw [sub_len ml.1] at ih
    refine ⟨by rw [List.map_cons, m.2, ← ih.1], ?_, fun u hu => ?_⟩
    · refine ext_getD (by rw [cols_len]) fun i hi => ?_
      have e := congrArg (fun l => l.getD i 0) ih.2.1
      rw [sub_get ml.1, cols_get hi] at e
      rw [cols_get hi, List.map_cons, List.sum_cons]
      omega
    · rcases List.mem_cons.mp hu with e | e
      · rw [e]; exact ml
      · exact ih.2.2 u e
end Tal
set_option Elab.async false
set_option linter.all false
set_option maxRecDepth 100000
set_option maxHeartbeats 4000000
namespace PySem.SeqAt
open PySem PyProof.Rows
open PySem.AutoSeq1 (wpAny_loadPart')
open MeetsSeq MeetsSeq2 MeetsSeq3
def RcLtAt (A : Around) (s : Shared) (y x : Value) (b : Bool) : Prop :=
  ∀ (prog : Program) (w : World) (E : Value → Shared → Prop) (Q : Value → Shared → Prop), Q (.bool b) s → wpAny (model prog w) A (richCompare .Lt y x) Q E s
theorem ltl_loopAt (l b : Addr) (items items2 : Array Value) (n n2 : Nat) (dd dd2 : Option Addr) (sl sl2 : Array (Option Value)) (hsz : items.size = items2.size) (e g : Nat → Bool) (g0 : ∀ i, items.size ≤ i → g i = false) (g1 : ∀ i, i < items.size → e i = true → g i = g (i + 1)) (k : Nat) :
    ∀ i : Nat, items.size - i = k → Meets (Builtin.«list.__eq__.loop» ⟨[.ref l, .ref b, rawInt i, rawInt 0], []⟩)
      (fun A R s => s.heap.get? l = some { cls := .type "list", dict := dd, data := .seq items n, slots := sl } ∧ s.heap.get? b = some { cls := .type "list", dict := dd2, data := .seq items2 n2, slots := sl2 } ∧
        (∀ j (h1 : j < items.size) (h2 : j < items2.size), EqAt A.in1 s items[j] items2[j] (e j)) ∧
        (∀ j (h1 : j < items.size) (h2 : j < items2.size), e j = false → RcLtAt A.in1 s items[j] items2[j] (g j)) ∧
        R (.ok (.ret (.bool (g i)))) s) := by
  induction k with
  | zero =>
    intro i hk prog w A R s h
    obtain ⟨hp, gg, d, tk, os⟩ := s; obtain ⟨hl, hb, he, hq, h⟩ := h
    wp_walk using wpAny_loadPart' hl, wpAny_loadPart' hb
    have hi1 : items[((i : Nat) : Int).toNat]? = none := by simp; omega
    have hi2 : items2[((i : Nat) : Int).toNat]? = none := by simp; omega
    rw [g0 i (by omega)] at h
    rw [hi1, hi2]
    wp_walk using wpAny_loadPart' hl, wpAny_loadPart' hb
    show R (.ok (.ret (.bool (decide (items.size < items2.size))))) _
    rw [hsz]
    simpa using h
  | succ k ih =>
    intro i hk prog w A R s h
    obtain ⟨hp, gg, d, tk, os⟩ := s; obtain ⟨hl, hb, he, hq, h⟩ := h
    wp_walk using wpAny_loadPart' hl, wpAny_loadPart' hb
    have hlt : i < items.size := by omega
    have hlt2 : i < items2.size := by omega
    have hi1 : items[((i : Nat) : Int).toNat]? = some items[i] := by simp [hlt]
    have hi2 : items2[((i : Nat) : Int).toNat]? = some items2[i] := by simp [hlt2]
    have hc : ((i : Int) + 1) = ((i + 1 : Nat) : Int) := by push_cast; rfl
    rw [hi1, hi2]
    refine wpAny_bind (he i hlt hlt2 prog w _ _ ?_)
    cases hb' : e i with
    | true =>
      rw [g1 i hlt hb'] at h
      wp_walk
      rw [hc]
      exact ⟨plainId_quiet plain_eq_loop _, codeAny_builtin entry_eq_loop (by
        rw [Around.under_plainId plain_eq_loop _]
        exact ih (i + 1) (by omega) prog w A R _ ⟨hl, hb, he, hq, h⟩)⟩
    | false =>
      have hri := hq i hlt hlt2 hb' prog w
      wp_walk using wpAny_loadPart' hl, wpAny_loadPart' hb
      rw [hi1, hi2]
      wp_walk using hri
      exact h
theorem list_ltAt (l b : Addr) (items items2 : Array Value) (n n2 : Nat) (dd dd2 : Option Addr) (sl sl2 : Array (Option Value)) (hsz : items.size = items2.size) (e g : Nat → Bool) (g0 : ∀ i, items.size ≤ i → g i = false) (g1 : ∀ i, i < items.size → e i = true → g i = g (i + 1)) :
    Meets (Builtin.«list.__lt__» ⟨[.ref l, .ref b], []⟩)
      (fun A R s => s.heap.get? l = some { cls := .type "list", dict := dd, data := .seq items n, slots := sl } ∧ s.heap.get? b = some { cls := .type "list", dict := dd2, data := .seq items2 n2, slots := sl2 } ∧
        (∀ j (h1 : j < items.size) (h2 : j < items2.size), EqAt A.in1 s items[j] items2[j] (e j)) ∧
        (∀ j (h1 : j < items.size) (h2 : j < items2.size), e j = false → RcLtAt A.in1 s items[j] items2[j] (g j)) ∧
        R (.ok (.ret (.bool (g 0)))) s) := by
  intro prog w A R s h
  obtain ⟨hp, gg, d, tk, os⟩ := s; obtain ⟨hl, hb, he, hq, h⟩ := h
  have f3 := AutoSeq1.sub_list_list
  wp_walk using wpAny_loadPart' hl, wpAny_loadPart' hb
  exact ⟨plainId_quiet plain_eq_loop _, codeAny_builtin entry_eq_loop (by
    rw [Around.under_plainId plain_eq_loop _]
    exact ltl_loopAt l b items items2 n n2 dd dd2 sl sl2 hsz e g g0 g1 _ 0 rfl prog w A R _ ⟨hl, hb, he, hq, h⟩)⟩
theorem RcLtAt.lists {A : Around} {s : Shared} {l b : Addr} {items items2 : Array Value} {e g : Nat → Bool} (hl : s.heap.IsList l items) (hb : s.heap.IsList b items2) (hsz : items.size = items2.size) (g0 : ∀ i, items.size ≤ i → g i = false) (g1 : ∀ i, i < items.size → e i = true → g i = g (i + 1)) (hu : A.units < cLine)
    (he : ∀ j (h1 : j < items.size) (h2 : j < items2.size), EqAt A.in1 s items[j] items2[j] (e j)) (hq : ∀ j (h1 : j < items.size) (h2 : j < items2.size), e j = false → RcLtAt A.in1 s items[j] items2[j] (g j)) : RcLtAt A s (.ref l) (.ref b) (g 0) := fun prog w E Q h => by
  obtain ⟨⟨cls, dd, data, sl⟩, ho, hc, n, hd⟩ := id hl
  obtain ⟨⟨cls2, dd2, data2, sl2⟩, ho2, hc2, n2, hd2⟩ := id hb
  simp only at hc hd hc2 hd2
  subst hc hd hc2 hd2
  exact richCompare_meets_room (op := .Lt) ⟨_, ho, rfl⟩ ⟨_, ho2, rfl⟩ PySem.F.slot_list_lt PySem.F.entry_list_lt (PySem.F.args_list_lt_2 _ _) (list_ltAt l b items items2 n n2 dd dd2 sl sl2 hsz e g g0 g1)
    ⟨ho, ho2, he, hq, show Value.bool (g 0) ≠ Value.notImplemented ∧ Q (.bool (g 0)) s from ⟨(fun x => nomatch x), h⟩⟩ hu
end PySem.SeqAt
namespace L2
open PySem PySem.Spec PyProof.Rows
open PySem.SeqAt
theorem lx_drop {ns ms : List Int} {i : Nat} (h1 : i < ns.length) (h2 : i < ms.length) : Tal.lx (ns.drop i) (ms.drop i) = if ns[i] = ms[i] then Tal.lx (ns.drop (i + 1)) (ms.drop (i + 1)) else decide (ns[i] < ms[i]) := by
  rw [List.drop_eq_getElem_cons h1, List.drop_eq_getElem_cons h2, Tal.lx]
theorem lxT_drop {t u : List (List Int)} {i : Nat} (h1 : i < t.length) (h2 : i < u.length) : Tal.lxT (t.drop i) (u.drop i) = if t[i] = u[i] then Tal.lxT (t.drop (i + 1)) (u.drop (i + 1)) else Tal.lx t[i] u[i] := by
  rw [List.drop_eq_getElem_cons h1, List.drop_eq_getElem_cons h2, Tal.lxT]
section
variable {X : Cx} {pins : List (Addr × Obj)} {σ : St} {H : Hp} {s : Shared}
theorem lt_ints (I : Inv X pins σ H s) {A : Around} {ns ms : List Int} {x y : V} {u w : Value} (hd : Rp H (dI ns) x) (he : Rp H (dI ms) y) (rx : RelV x u) (ry : RelV y w) (hl : ns.length = ms.length) (hu : A.units + 3 < cLine) : RcLtAt A s u w (Tal.lx ns ms) := by
  obtain ⟨f, a, xs, fq, rfl, e1, rfl, hd⟩ := hd
  obtain ⟨g, b, ys, gq, rfl, e2, rfl, he⟩ := he
  obtain rfl : u = .ref a := rx
  obtain rfl : w = .ref b := ry
  obtain ⟨its, rv, pl, hz⟩ := I.list (SqL.of e1)
  obtain ⟨its2, rv2, pl2, hz2⟩ := I.list (SqL.of e2)
  have l1 := rv.length
  have l2 := rv2.length
  have m1 := hd.length
  have m2 := he.length
  rw [List.length_map] at m1 m2
  have z1 : its.toArray.size = ns.length := by simp; omega
  have ge : ∀ i (h1 : i < ns.length) (h2 : i < ms.length), eqAtI (ns.map D.int) (ms.map D.int) i = decide (ns[i] = ms[i]) := fun i h1 h2 => by
    unfold eqAtI
    rw [List.getElem?_map, List.getElem?_map, List.getElem?_eq_getElem h1, List.getElem?_eq_getElem h2]
    show D.eqb (.int _) (.int _) = _
    rw [D.eqb]
    by_cases z : ns[i] = ms[i] <;> simp [z]
  refine RcLtAt.lists (e := eqAtI (ns.map D.int) (ms.map D.int)) (g := fun i => Tal.lx (ns.drop i) (ms.drop i)) pl.isList pl2.isList (by simp; omega) (fun i hi => ?_) (fun i hi hei => ?_) (by omega) (items_eq I hd he rv rv2 (D.plains_ints _) (D.plains_ints _) (by rw [D.depths_ints]; omega)) (fun j h1 h2 hej => ?_)
  · show Tal.lx _ _ = false
    rw [List.drop_of_length_le (by omega), List.drop_of_length_le (by omega)]; rfl
  · show Tal.lx _ _ = Tal.lx _ _
    rw [ge i (by omega) (by omega)] at hei
    rw [lx_drop (by omega) (by omega), if_pos (of_decide_eq_true hei)]
  · have j1 : j < ns.length := by omega
    have j2 : j < ms.length := by omega
    show RcLtAt _ _ _ _ (Tal.lx _ _)
    rw [ge j j1 j2] at hej
    rw [lx_drop j1 j2, if_neg (of_decide_eq_false hej)]
    obtain ⟨v1, f1, q1, r1, _⟩ := hd.get (i := j) (d := .int ns[j]) (by rw [List.getElem?_map, List.getElem?_eq_getElem j1]; rfl)
    obtain ⟨v2, f2, q2, r2, _⟩ := he.get (i := j) (d := .int ms[j]) (by rw [List.getElem?_map, List.getElem?_eq_getElem j2]; rfl)
    obtain ⟨u1, p1, t1⟩ := rv.get q1
    obtain ⟨u2, p2, t2⟩ := rv2.get q2
    have i1 : its.toArray[j] = u1 := by
      obtain ⟨_, z⟩ := List.getElem?_eq_some_iff.mp p1
      simpa using z
    have i2 : its2.toArray[j] = u2 := by
      obtain ⟨_, z⟩ := List.getElem?_eq_some_iff.mp p2
      simpa using z
    rw [i1, i2]
    obtain ⟨rfl, _⟩ := r1
    obtain ⟨rfl, _⟩ := r2
    obtain ⟨c1, rfl⟩ := t1
    obtain ⟨c2, rfl⟩ := t2
    intro prog w E Q h
    exact HT.rcLt_int _ _ _ _ _ _ prog w E Q h
theorem lt_rows (I : Inv X pins σ H s) {A : Around} {t u : List (List Int)} {x y : V} {p q : Value} (hd : Rp H (dT t) x) (he : Rp H (dT u) y) (rx : RelV x p) (ry : RelV y q) (hl : t.map List.length = u.map List.length) (hu : A.units + 5 < cLine) : RcLtAt A s p q (Tal.lxT t u) := by
  obtain ⟨f, a, xs, fq, rfl, e1, rfl, hd⟩ := hd
  obtain ⟨g, b, ys, gq, rfl, e2, rfl, he⟩ := he
  obtain rfl : p = .ref a := rx
  obtain rfl : q = .ref b := ry
  obtain ⟨its, rv, pl, hz⟩ := I.list (SqL.of e1)
  obtain ⟨its2, rv2, pl2, hz2⟩ := I.list (SqL.of e2)
  have l1 := rv.length
  have l2 := rv2.length
  have m1 := hd.length
  have m2 := he.length
  rw [List.length_map] at m1 m2
  have hl0 : t.length = u.length := by have := congrArg List.length hl; simpa using this
  have z1 : its.toArray.size = t.length := by simp; omega
  have ge : ∀ i (h1 : i < t.length) (h2 : i < u.length), eqAtI (t.map dI) (u.map dI) i = decide (t[i] = u[i]) := fun i h1 h2 => by
    unfold eqAtI
    rw [List.getElem?_map, List.getElem?_map, List.getElem?_eq_getElem h1, List.getElem?_eq_getElem h2]
    show D.eqb (.lst _) (.lst _) = _
    rw [D.eqb, D.eqbs_ints]
  refine RcLtAt.lists (e := eqAtI (t.map dI) (u.map dI)) (g := fun i => Tal.lxT (t.drop i) (u.drop i)) pl.isList pl2.isList (by simp; omega) (fun i hi => ?_) (fun i hi hei => ?_) (by omega) (items_eq I hd he rv rv2 (D.plains_rows _) (D.plains_rows _) (by have := D.depths_rows t; omega)) (fun j h1 h2 hej => ?_)
  · show Tal.lxT _ _ = false
    rw [List.drop_of_length_le (by omega), List.drop_of_length_le (by omega)]; rfl
  · show Tal.lxT _ _ = Tal.lxT _ _
    rw [ge i (by omega) (by omega)] at hei
    rw [lxT_drop (by omega) (by omega), if_pos (of_decide_eq_true hei)]
  · have j1 : j < t.length := by omega
    have j2 : j < u.length := by omega
    show RcLtAt _ _ _ _ (Tal.lxT _ _)
    rw [ge j j1 j2] at hej
    rw [lxT_drop j1 j2, if_neg (of_decide_eq_false hej)]
    obtain ⟨v1, f1, q1, r1, _⟩ := hd.get (i := j) (d := dI t[j]) (by rw [List.getElem?_map, List.getElem?_eq_getElem j1]; rfl)
    obtain ⟨v2, f2, q2, r2, _⟩ := he.get (i := j) (d := dI u[j]) (by rw [List.getElem?_map, List.getElem?_eq_getElem j2]; rfl)
    obtain ⟨u1, p1, t1⟩ := rv.get q1
    obtain ⟨u2, p2, t2⟩ := rv2.get q2
    have i1 : its.toArray[j] = u1 := by
      obtain ⟨_, z⟩ := List.getElem?_eq_some_iff.mp p1
      simpa using z
    have i2 : its2.toArray[j] = u2 := by
      obtain ⟨_, z⟩ := List.getElem?_eq_some_iff.mp p2
      simpa using z
    rw [i1, i2]
    refine lt_ints I ⟨_, r1⟩ ⟨_, r2⟩ t1 t2 ?_ (by show A.units + 1 + 3 < cLine; omega)
    have := congrArg (fun l => l[j]?) hl
    simp only [List.getElem?_map, List.getElem?_eq_getElem j1, List.getElem?_eq_getElem j2, Option.map_some] at this
    exact Option.some.inj this
end
section
variable {X : Cx}
def rLtL : R2 := fun x y H Q => ∃ ns ms : List Int, Rp H (dI ns) x ∧ Rp H (dI ms) y ∧ ns.length = ms.length ∧ Q (.bl (Tal.lx ns ms)) H
theorem op_ltL (hu : X.A.units + 64 < cLine) : OpR X (compareOp .Lt) rLtL := by
  intro pins s σ H x y v u Q I rx ry h
  obtain ⟨ns, ms, hx, hy, hl, q⟩ := h
  exact lt_ints I hx hy rx ry hl (by omega) _ _ _ _ ⟨.bl _, H, I, rfl, q⟩
def rLtTb : R2 := fun x y H Q => ∃ t u : List (List Int), Rp H (dT t) x ∧ Rp H (dT u) y ∧ t.map List.length = u.map List.length ∧ Q (.bl (Tal.lxT t u)) H
theorem op_ltTb (hu : X.A.units + 64 < cLine) : OpR X (compareOp .Lt) rLtTb := by
  intro pins s σ H x y v u Q I rx ry h
  obtain ⟨t, t2, hx, hy, hl, q⟩ := h
  exact lt_rows I hx hy rx ry hl (by omega) _ _ _ _ ⟨.bl _, H, I, rfl, q⟩
end
end L2
set_option Elab.async false
set_option linter.all false
set_option maxRecDepth 100000
namespace L3
open PySem L2
section
variable {K : PySem.W.Frag}
def vLtL (x y : D) (P : DK) : Prop := ∃ ns ms : List Int, x = dI ns ∧ y = dI ms ∧ ns.length = ms.length ∧ P (.bl (Tal.lx ns ms))
theorem o_ltL : OpV K rLtL vLtL := ⟨fun x y P P' k h => by
    obtain ⟨a, b, h1, h2, h3, h⟩ := h
    exact ⟨a, b, h1, h2, h3, k _ h⟩,
  fun {H x y v w Q} ⟨f1, r1⟩ ⟨f2, r2⟩ h => by
    obtain ⟨a, b, rfl, rfl, h3, h⟩ := h
    exact ⟨a, b, ⟨f1, r1.old old_dI⟩, ⟨f2, r2.old old_dI⟩, h3, h _ H [] (Same.refl H) ⟨rfl, rfl⟩ Nw.nil⟩⟩
def vLtTb (x y : D) (P : DK) : Prop := ∃ t u : List (List Int), x = dT t ∧ y = dT u ∧ t.map List.length = u.map List.length ∧ P (.bl (Tal.lxT t u))
theorem o_ltTb : OpV K rLtTb vLtTb := ⟨fun x y P P' k h => by
    obtain ⟨a, b, h1, h2, h3, h⟩ := h
    exact ⟨a, b, h1, h2, h3, k _ h⟩,
  fun {H x y v w Q} ⟨f1, r1⟩ ⟨f2, r2⟩ h => by
    obtain ⟨a, b, rfl, rfl, h3, h⟩ := h
    exact ⟨a, b, ⟨f1, r1.old old_dT⟩, ⟨f2, r2.old old_dT⟩, h3, h _ H [] (Same.refl H) ⟨rfl, rfl⟩ Nw.nil⟩⟩
end
end L3
set_option linter.all false
set_option maxRecDepth 100000
namespace Tal
def bl (w c : Nat) : List Int := (List.range w).map fun (k : Nat) => ((c / 2 ^ k % 2 : Nat) : Int)
end Tal
set_option Elab.async false
set_option linter.all false
set_option maxRecDepth 100000
set_option maxHeartbeats 4000000
namespace L3
open PySem L2
section
variable {K : PySem.W.Frag} {ρ : Bool} {Γr Γl Γ : List Nat} {H : Hp}
def vAppL (i m : Nat) (y : Int) (E : DEnds) (δ : Dl) : Prop := ∃ (ds es : List D), δ[i]? = some (some (.lst ds)) ∧ ds[m]? = some (.lst es) ∧ es.all D.scal = true ∧ es.length < 1000 ∧ E.nx (δ.set i (some (.lst (ds.set m (.lst (es ++ [.int y]))))))
theorem st_appL (i m : Nat) (y : Int) (hi : i ∈ Γ := by decide) : ST K ρ Γr Γl (tDrop (tBM K "list" rAppend (tOp (rIxL K) (tVar i) (tC (.int (m : Int)))) (tCons (tC (.int y)) tNil))) Γ Γ (vAppL i m y) := by
  intro B0 Dn E fps δ σ H kk o h
  obtain ⟨ds, es, e, em, hs, hl, hE⟩ := h
  obtain ⟨v, g1, r⟩ := o.val i _ e
  obtain ⟨nd, hmu⟩ := o.own i hi
  have s' : (es ++ [D.int y]).all D.scal = true := by rw [List.all_append, hs]; rfl
  obtain ⟨a, ys, c, rfl, ha, e1, hc, hcf, hin, hput⟩ := Rf.putIn (es' := es ++ [.int y]) r nd em hs s'
  have hmy : m < ys.length := (List.getElem?_eq_some_iff.mp e1).1
  refine ⟨.ref a, g1, a, ys, (m : Int), .ref c, rfl, rfl, .inl (.inl ha), by unfold atI; rw [ixN_nat (by omega) (by omega), Int.toNat_natCast]; exact e1, .inl ⟨rfl, _, .inl (.inl hc)⟩, c, _, .int y, rfl, rfl, hc, by rw [List.length_map]; exact Nat.lt_of_lt_of_le hl (le1000 (Nat.le_refl _)), ?_⟩
  have eq : es.map D.toV ++ [V.int y] = (es ++ [D.int y]).map D.toV := by rw [List.map_append]; rfl
  rw [eq]
  refine kk.nx (o.write hi (d' := .lst (ds.set m (.lst (es ++ [.int y])))) (fp' := fps i) (v := .ref a) g1 (hput _ r nd) nd (fun b hb => Mu.upd (hmu b hb).2 (.inl ⟨_, rfl⟩)) (fun b hb => .inl hb) fun b u hb hu => ?_) hE
  rw [upd_ne (a := c) (fun z => hb (by rw [z]; exact hcf))]; exact hu
end
end L3
set_option Elab.async false
set_option linter.all false
set_option maxRecDepth 100000
set_option maxHeartbeats 4000000
namespace L3
open PySem L2
section
variable {K : PySem.W.Frag} {ρ : Bool} {Γr Γl Γ Γn : List Nat} {H : Hp}
mutual
def D.strip : D → D
  | .non => .non
  | .bl b => .bl b
  | .int i => .int i
  | .str x => .str x
  | .lst ds => .lst (D.strips ds)
  | .tup ds => .tup (D.strips ds)
  | .dic x => .dic x
  | .dit x => .dit x
  | .scr x => .scr x
  | .pin _ d => d.strip
  | .mem φ => .mem φ
  | .raw w => .raw w
  | .ins C ns ds => .ins C ns (D.strips ds)
def D.strips : List D → List D
  | [] => []
  | d :: ds => d.strip :: D.strips ds
end
mutual
theorem Rf.strip : ∀ {d : D} {v : V} {fp : List Addr}, Rf K H d v fp → Rf K H d.strip v fp
  | .non, _, _, h => by rw [D.strip]; exact h
  | .bl _, _, _, h => by rw [D.strip]; exact h
  | .int _, _, _, h => by rw [D.strip]; exact h
  | .str _, _, _, h => by rw [D.strip]; exact h
  | .lst ds, _, _, h => by
    obtain ⟨a, xs, fq, e1, e2, e3, h⟩ := h
    rw [D.strip]
    exact ⟨a, xs, fq, e1, e2, e3, Rfs.strips h⟩
  | .tup ds, _, _, h => by
    obtain ⟨a, xs, e1, e2, h⟩ := h
    rw [D.strip]
    exact ⟨a, xs, e1, e2, Rfs.strips h⟩
  | .dic _, _, _, h => by rw [D.strip]; exact h
  | .dit _, _, _, h => by rw [D.strip]; exact h
  | .scr _, _, _, h => by rw [D.strip]; exact h
  | .pin _ d, _, _, h => by rw [D.strip]; exact Rf.strip h.2
  | .mem _, _, _, h => by rw [D.strip]; exact h
  | .raw _, _, _, h => by rw [D.strip]; exact h
  | .ins C ns ds, _, _, h => by
    obtain ⟨a, dx, xs, fq, e1, e2, e3, h⟩ := h
    rw [D.strip]
    exact ⟨a, dx, xs, fq, e1, e2, e3, Rfs.strips h⟩
theorem Rfs.strips : ∀ {ds : List D} {vs : List V} {fp : List Addr}, Rfs K H ds vs fp → Rfs K H (D.strips ds) vs fp
  | [], _, _, h => by rw [D.strips]; exact h
  | d :: ds, _, _, h => by
    obtain ⟨x, r, f1, f2, e1, e2, h1, h2⟩ := h
    rw [D.strips]
    exact ⟨x, r, f1, f2, e1, e2, Rf.strip h1, Rfs.strips h2⟩
end
theorem strips_map {ds : List D} : D.strips ds = ds.map D.strip := by
  induction ds with
  | nil => rw [D.strips]; rfl
  | cons d ds ih => rw [D.strips, ih]; rfl
def vStrip (d : DE) (δ : Dl) (P : DK) : Prop := d δ fun x => P x.strip
theorem ER.strip {t : TE} {d : DE} (h : ER K Γ t d) : ER K Γ t (vStrip d) :=
  ⟨fun δ P P' k q => h.mono _ _ _ (fun x z => k _ z) q, fun o q => h.run o (h.mono _ _ _ (fun x z v H1 s1 r1 => z v H1 s1 (let ⟨fp, r⟩ := r1; ⟨fp, Rf.strip r⟩)) q)⟩
theorem strip_dI {r : List Int} : (dI r).strip = dI r := by
  rw [D.strip, strips_map, List.map_map]
  congr 1
def PinL (t : List (List Int)) (ds : List D) : Prop := ds.length = t.length ∧ ∀ (m : Nat) (r : List Int), t[m]? = some r → ∃ a : Addr, ds[m]? = some (D.pin a (dI r))
def PinC (ts : List (List (List Int))) (chs : List D) : Prop := chs.length = ts.length ∧ ∀ (k : Nat) (t : List (List Int)), ts[k]? = some t → ∃ ds : List D, chs[k]? = some (D.lst ds) ∧ PinL t ds
theorem pin_rows : ∀ {t : List (List Int)} {ys : List V} {g : List Addr}, Rfs K H (t.map dI) ys g → ∃ ds, PinL t ds ∧ Rfs K H ds ys g
  | [], ys, g, h => ⟨[], ⟨rfl, fun m r e => by simp at e⟩, h⟩
  | r :: t, ys, g, h => by
    obtain ⟨x, q, f1, f2, e1, e2, h1, h2⟩ := h
    obtain ⟨ds, hp, hr⟩ := pin_rows h2
    obtain ⟨a, ha⟩ : ∃ a, x = .ref a := let ⟨a, _, _, e, _⟩ := h1; ⟨a, e⟩
    refine ⟨.pin a (dI r) :: ds, ⟨by rw [List.length_cons, hp.1, List.length_cons], fun m r' e => ?_⟩, x, q, f1, f2, e1, e2, ⟨ha, h1⟩, hr⟩
    cases m with
    | zero => simp at e; subst e; exact ⟨a, rfl⟩
    | succ m => simp only [List.getElem?_cons_succ] at e ⊢; exact hp.2 m r' e
theorem pin_tabs : ∀ {ts : List (List (List Int))} {ys : List V} {g : List Addr}, Rfs K H (ts.map dT) ys g → ∃ chs, PinC ts chs ∧ Rfs K H chs ys g
  | [], ys, g, h => ⟨[], ⟨rfl, fun m r e => by simp at e⟩, h⟩
  | t :: ts, ys, g, h => by
    obtain ⟨x, q, f1, f2, e1, e2, h1, h2⟩ := h
    obtain ⟨chs, hp, hr⟩ := pin_tabs h2
    obtain ⟨a, zs, fq, e3, e4, e5, h3⟩ := h1
    obtain ⟨ds, hq, hr3⟩ := pin_rows h3
    refine ⟨.lst ds :: chs, ⟨by rw [List.length_cons, hp.1, List.length_cons], fun m t' e => ?_⟩, x, q, f1, f2, e1, e2, ⟨a, zs, fq, e3, e4, e5, hr3⟩, hr⟩
    cases m with
    | zero => simp at e; subst e; exact ⟨ds, rfl, hq⟩
    | succ m => simp only [List.getElem?_cons_succ] at e ⊢; exact hp.2 m t' e
def vPinT (i : Nat) (d : DS) (E : DEnds) (δ : Dl) : Prop := ∃ (C : Addr) (ns : List Str) (ts : List (List (List Int))) (rest : List D), δ[i]? = some (some (.ins C ns (.lst (ts.map dT) :: rest))) ∧ ∀ chs : List D, PinC ts chs → d E (δ.set i (some (.ins C ns (.lst chs :: rest))))
theorem st_pinT (i : Nat) {t : TS} {d : DS} (h : ST K ρ Γr Γl t Γ Γn d) : ST K ρ Γr Γl t Γ Γn (vPinT i d) := by
  intro B0 Dn E fps δ σ H k o q
  obtain ⟨C, ns, ts, rest, e, q⟩ := q
  obtain ⟨v, h1, r⟩ := o.val i _ e
  obtain ⟨s0, dx, xs, fq, e1, e2, e3, hr⟩ := id r
  obtain ⟨x, q1, f1, f2, e4, e5, h3, h4⟩ := hr
  obtain ⟨a, zs, fz, e6, e7, e8, h5⟩ := h3
  obtain ⟨chs, hp, h6⟩ := pin_tabs h5
  refine h k (o.redata (y := .ins C ns (.lst chs :: rest)) e fun v' hv' _ => ?_) (q chs hp)
  rw [h1] at hv'; cases hv'
  exact ⟨s0, dx, xs, fq, e1, e2, e3, x, q1, f1, f2, e4, e5, ⟨a, zs, fz, e6, e7, e8, h6⟩, h4⟩
theorem Rfs.cutOut : ∀ {ds : List D} {xs : List V} {fq : List Addr} {k : Nat} {d : D}, Rfs K H ds xs fq → ds[k]? = some d → ∃ pre f post x, fq = pre ++ (f ++ post) ∧ xs[k]? = some x ∧ Rf K H d x f ∧ Rfs K H (ds.set k (.raw x)) xs (pre ++ post)
  | [], _, _, _, _, _, e => by simp at e
  | d :: ds, xs, fq, 0, d', h, e => by
    obtain ⟨x, r, f1, f2, rfl, rfl, h1, h2⟩ := h
    simp at e; subst e
    exact ⟨[], f1, f2, x, rfl, rfl, h1, x, r, [], f2, rfl, rfl, ⟨rfl, rfl⟩, h2⟩
  | d :: ds, xs, fq, k + 1, d', h, e => by
    obtain ⟨x, r, f1, f2, rfl, rfl, h1, h2⟩ := h
    obtain ⟨pre, f, post, y, rfl, e2, h3, h4⟩ := Rfs.cutOut (k := k) h2 (by simpa using e)
    exact ⟨f1 ++ pre, f, post, y, by rw [List.append_assoc], by simpa using e2, h3, x, r, f1, pre ++ post, rfl, by rw [List.append_assoc], h1, h4⟩
def vRawOf (d : DE) (δ : Dl) (P : DK) : Prop := d δ fun x => ∃ a y, x = .pin a y ∧ P (.raw (.ref a))
theorem ER.rawOf {t : TE} {d : DE} (h : ER K Γ t d) : EM K Γ [] t (vRawOf d) :=
  ⟨fun δ P P' k q => h.mono _ _ _ (fun x ⟨a, y, e, z⟩ => ⟨a, y, e, k _ z⟩) q, fun {B0 fps δ σ H Q} o q => h.run o (h.mono _ _ _ (fun x z v H1 s1 r1 => by
    obtain ⟨a, y, rfl, z⟩ := z
    obtain ⟨fp, e, _⟩ := r1
    exact z v H1 [] s1 ⟨e, rfl⟩ Nw.nil) q)⟩
def vVia (L S : Nat) (δ : Dl) (P : DK) : Prop := ∃ (a C : Addr) (ns : List Str) (chs rest : List D) (k : Nat) (rs : List D) (m : Nat) (d : D), δ[L]? = some (some (.raw (.ref a))) ∧ δ[S]? = some (some (.ins C ns (.lst chs :: rest))) ∧ chs[k]? = some (.lst rs) ∧ rs[m]? = some (.pin a d) ∧ P d
theorem er_via (L S : Nat) : ER K Γ (tVar L) (vVia L S) :=
  ⟨fun δ P P' k ⟨a, C, ns, chs, rest, k', rs, m, d, e1, e2, e3, e4, q⟩ => ⟨a, C, ns, chs, rest, k', rs, m, d, e1, e2, e3, e4, k _ q⟩, fun {B0 fps δ σ H Q} o q => by
    obtain ⟨a, C, ns, chs, rest, k, rs, m, d, eL, eS, ek, em, q⟩ := q
    obtain ⟨vL, hvL, rL⟩ := o.val L _ eL
    obtain rfl : vL = .ref a := rL.1
    obtain ⟨vS, hvS, s0, dx, xs, fq, rfl, e2, fS, hr⟩ := o.val S _ eS
    obtain ⟨x0, xr, f1, f2, rfl, rfl, h3, h4⟩ := hr
    obtain ⟨c0, ys, g, rfl, e7, rfl, h5⟩ := h3
    obtain ⟨y, f, ey, h6, _⟩ := h5.get ek
    obtain ⟨r0, zs, hh, rfl, e8, rfl, h8⟩ := h6
    obtain ⟨z, fm, ez, h9, _⟩ := h8.get em
    obtain ⟨rfl, h10⟩ : z = .ref a ∧ _ := h9
    exact ⟨.ref a, hvL, q _ H (Same.refl H) ⟨fm, h10⟩⟩⟩
def vTake (T L S : Nat) (E : DEnds) (δ : Dl) : Prop := ∃ (ds : List D) (C : Addr) (ns : List Str) (chs rest : List D) (k : Nat) (rs : List D) (m : Nat) (a : Addr) (d : D), δ[T]? = some (some (.lst ds)) ∧ ds.length < 1000 ∧ δ[L]? = some (some (.raw (.ref a))) ∧ δ[S]? = some (some (.ins C ns (.lst chs :: rest))) ∧ chs[k]? = some (.lst rs) ∧ rs[m]? = some (.pin a d) ∧
  ∀ w : V, E.nx (((δ.set L none).set S (some (.ins C ns (.lst (chs.set k (.raw w)) :: rest)))).set T (some (.lst (ds ++ [d]))))
theorem st_take (T L S : Nat) (hT : T ∈ Γ := by decide) (hS : S ∈ Γ := by decide) (hL : L ∉ Γ := by decide) (hTL : T ≠ L := by decide) (hSL : S ≠ L := by decide) (hTS : T ≠ S := by decide) : ST K ρ Γr Γl (tDrop (tBM K "list" rAppend (tVar T) (tCons (tVar L) tNil))) Γ Γ (vTake T L S) := by
  intro B0 Dn E fps δ σ H kk o h
  obtain ⟨ds, C, ns, chs, rest, k, rs, m, a, d, eT, hl, eL, eS, ek, em, hE⟩ := h
  obtain ⟨vL, hvL, rL⟩ := o.val L _ eL
  obtain rfl : vL = .ref a := rL.1
  obtain ⟨p, xt, fqt, hvT, hpT, fT, rT⟩ := o.ownL eT
  obtain ⟨vS, hvS, s0, dx, xs, fq, rfl, e2, fS, hr⟩ := o.val S _ eS
  obtain ⟨x0, xr, f1, f2, rfl, rfl, h3, h4⟩ := hr
  obtain ⟨c0, ys, g, rfl, e7, rfl, h5⟩ := h3
  obtain ⟨pre, f, post, y, rfl, ey, h6, h7⟩ := h5.cutOut ek
  obtain ⟨r0, zs, hh, rfl, e8, rfl, h8⟩ := h6
  have ndS := (o.own S hS).1
  rw [fS] at ndS
  have muS := (o.own S hS).2
  have ndS' := ndS
  simp only [List.cons_append, List.append_assoc] at ndS'
  have nhh : hh.Nodup := by
    have : List.Sublist hh (s0 :: c0 :: (pre ++ (r0 :: (hh ++ (post ++ f2))))) :=
      ((((List.sublist_append_left hh (post ++ f2)).trans (List.sublist_cons_self _ _)).trans (List.sublist_append_right _ _)).trans (List.sublist_cons_self _ _)).trans (List.sublist_cons_self _ _)
    exact this.nodup ndS'
  obtain ⟨z, fm, ez, h9, hfm, nfm⟩ := h8.getN nhh em
  obtain ⟨rfl, h10⟩ : z = .ref a ∧ _ := h9
  have inS : ∀ b ∈ fm, b ∈ fps S := fun b hb => by
    rw [fS]
    have := hfm b hb
    simp [this]
  have fp2 : List.Sublist (s0 :: (c0 :: (pre ++ post) ++ f2)) (s0 :: (c0 :: (pre ++ ((r0 :: hh) ++ post)) ++ f2)) :=
    ((((List.Sublist.refl pre).append (List.sublist_append_right _ _)).cons₂ c0).append (List.Sublist.refl f2)).cons₂ s0
  have out2 : ∀ b ∈ fm, b ∉ s0 :: (c0 :: (pre ++ post) ++ f2) := fun b hb hz => by
    have hbh := hfm b hb
    have nd := ndS'
    simp only [List.nodup_cons, List.nodup_append, List.mem_cons, List.mem_append] at nd
    simp only [List.cons_append, List.append_assoc, List.mem_cons, List.mem_append] at hz
    obtain ⟨n1, n2, n3, ⟨n4, n5, n6, n7⟩, n8⟩ := nd
    rcases hz with z | z | z | z | z
    · subst z; exact n1 (.inr (.inr (.inr (.inl hbh))))
    · subst z; exact n2 (.inr (.inr (.inl hbh)))
    · exact n8 b z b (.inr (.inl hbh)) rfl
    · exact n7 b hbh b (.inl z) rfl
    · exact n7 b hbh b (.inr z) rfl
  have o1 := o.deadS (σ' := σ) L hL rfl (fun _ _ => rfl)
  have eS1 : (if S = L then [] else fps S) = fps S := if_neg hSL
  have o2 := o1.write (H' := H) hS (d' := .ins C ns (.lst (chs.set k (.raw (.ref r0))) :: rest)) (fp' := s0 :: (c0 :: (pre ++ post) ++ f2)) hvS ⟨s0, dx, _, _, rfl, e2, rfl, .ref c0, xr, c0 :: (pre ++ post), f2, rfl, rfl, ⟨c0, ys, pre ++ post, rfl, e7, rfl, h7⟩, h4⟩ (fp2.nodup ndS)
    (fun b hb => (muS b (by rw [fS]; exact fp2.subset hb)).2) (fun b hb => .inl (by show b ∈ (if S = L then [] else fps S); rw [eS1, fS]; exact fp2.subset hb)) (fun b u _ e => e)
  have ownT := o.own T hT
  have fpT : (if T = S then s0 :: (c0 :: (pre ++ post) ++ f2) else if T = L then [] else fps T) = fps T := by
    rw [if_neg hTS, if_neg hTL]
  have ndT := ownT.1
  rw [fT] at ndT
  obtain ⟨np, nq⟩ := List.nodup_cons.mp ndT
  have farT : ∀ b ∈ fm, b ∉ fps T := fun b hb z => o.dj S hS T hTS b (inS b hb) z
  have hpm : p ∉ fm := fun z => farT p z (by rw [fT]; exact List.mem_cons_self)
  have nt := (ownT.2 p (by rw [fT]; exact List.mem_cons_self)).2.notup
  refine ⟨.ref p, hvT, .inl ⟨rfl, xt, .inl (.inl hpT)⟩, .ref a, hvL, p, xt, .ref a, rfl, rfl, hpT, by rw [rT.length]; exact Nat.lt_of_lt_of_le hl (le1000 (Nat.le_refl _)), ?_⟩
  refine kk.nx (o2.write (H' := L2.upd H p (.lst (xt ++ [.ref a]))) hT (d' := .lst (ds ++ [d])) (fp' := p :: (fqt ++ fm)) hvT ⟨p, xt ++ [.ref a], fqt ++ fm, rfl, upd_same, rfl, (rT.upd np nt).append ((Rfs.one h10).upd hpm nt)⟩ ?_ (fun b hb => ?_) (fun b hb => ?_) ?_) (hE (.ref r0))
  · refine List.nodup_cons.mpr ⟨fun z => ?_, List.nodup_append.mpr ⟨nq, nfm, fun b hb c hc e => ?_⟩⟩
    · rcases List.mem_append.mp z with z | z
      · exact np z
      · exact hpm z
    · subst e; exact farT b hc (by rw [fT]; exact List.mem_cons_of_mem _ hb)
  · rcases List.mem_cons.mp hb with e | hb
    · subst e; exact .inl ⟨_, upd_same⟩
    · rcases List.mem_append.mp hb with hb | hb
      · exact Mu.upd (ownT.2 b (by rw [fT]; exact List.mem_cons_of_mem _ hb)).2 (.inl ⟨_, rfl⟩)
      · exact Mu.upd (muS b (inS b hb)).2 (.inl ⟨_, rfl⟩)
  · rcases List.mem_cons.mp hb with e | hb
    · exact .inl (by show b ∈ (if T = S then s0 :: (c0 :: (pre ++ post) ++ f2) else if T = L then [] else fps T); rw [fpT, fT, e]; exact List.mem_cons_self)
    · rcases List.mem_append.mp hb with hb | hb
      · exact .inl (by show b ∈ (if T = S then s0 :: (c0 :: (pre ++ post) ++ f2) else if T = L then [] else fps T); rw [fpT, fT]; exact List.mem_cons_of_mem _ hb)
      · refine .inr ⟨(muS b (inS b hb)).1, fun j => ?_⟩
        show b ∉ (if j = S then s0 :: (c0 :: (pre ++ post) ++ f2) else if j = L then [] else fps j)
        by_cases j1 : j = S
        · rw [if_pos j1]; exact out2 b hb
        · rw [if_neg j1]
          by_cases j2 : j = L
          · rw [if_pos j2]; exact List.not_mem_nil
          · rw [if_neg j2]; exact o.dj S hS j j1 b (inS b hb)
  · intro b u hb hu
    replace hb : b ∉ (if T = S then s0 :: (c0 :: (pre ++ post) ++ f2) else if T = L then [] else fps T) := hb
    rw [fpT] at hb
    rw [upd_ne (fun z => hb (by rw [z, fT]; exact List.mem_cons_self))]; exact hu
end
end L3
set_option linter.all false
set_option maxRecDepth 100000
namespace L2
open PySem PySem.Spec PyProof.Rows
section
variable {X : Cx}
end
end L2
set_option linter.all false
set_option maxRecDepth 100000
namespace L3
open PySem L2
section
variable {K : PySem.W.Frag}
def vNotInN (x : D) (y : D) (P : DK) : Prop := x.isNon = true ∧ asL y fun ds => ds.all D.okN = true ∧ P (.bl (!ds.any D.isNon))
end
end L3
set_option Elab.async false
set_option linter.all false
set_option maxRecDepth 100000
set_option maxHeartbeats 4000000
namespace L3
open PySem
open L2 hiding D Rf Rfs Rp dI dT
end L3
set_option Elab.async false
set_option linter.all false
set_option maxRecDepth 100000
set_option maxHeartbeats 4000000
namespace Mine
open PySem L3
open L2 hiding D Rf Rfs Rp dI dT
open PyProof.Rows hiding St
local macro_rules | `(tactic| walk_at "v1") => `(tactic| simp only [vFld, asF_ins, vMeth, isI_ins, vOrE, vIsC, vRevM, vMemoNew, vCatN, vLtL, vLtTb, vNotInN, vStrip, vRawOf, vNext, vSeq, vSetM, vSet, vDrop, vRet, vRetN, vIfS, vAsg, vgName, vgTup2, vgCons_c, vgNil_n, vFor, vIf, vVar, vC, vOp, vUn, vI0_int, vI_int, vU_int, vTest, asB_bl, vAnd, vOr, vNot, vAndV, vOrV, vNotV, vChain, vNil, vCons, vInts, vLst, vTup, vCall, vItL, vRng1, vRng2, asI_int, asII_int, asL_lst, asL_scr, vIxL_lst, vIxL_scr, vIxT_tup, vNoPart, vPart, vLen_lst, vLen_scr, vLen_tup, slotL, vAppend, vClear, vIs, tyn_int, tyn_bl, tyn_lst, tyn_tup, tyn_str, tyn_non, isB_ii, isB_ib, isB_ll, isB_tt, isB_ss, isB_bb, isB_bi, isB_il, isB_nl, vIsN_non, D.isNon, vScal, D.scal, vFlat, flat_int, flat_bl, flat_tup2, flat_tup3, flat_tup4, vAbs, vIntB, asIB_int, asIB_bl, vMax2, vMin2, vYes, vCat_lst, vRep_lst, vList_lst, vList_scr, vSum_ints, asNs_ints, vSorted, vRev, vSl, vSlR, vCatR_lst, vRepR_lst, vListR_lst, vRevR, vAll_bools, vAny_bools, vMinL_ints, vMaxL_ints, vListRng, vAppPop, vPin, slotP, vVarP, vCallI, vSetI, vDGet, vDIn, vDPut, slotD, asDic_dic, vIndex, vSort_ints, vLenD_dic, vClearTs, vClearTL, vTupOf_lst, vTupR_lst, asTI_in, asDit_dit, vDInT, vDPutT, vClearT, slotT, isRef_lst, isRef_dic, ofV_int, ofV_bl, ofV_non, D.toV, Option.some.injEq, forall_eq', vEqS_bl, vEqS_str, vPar, vgLst, vTryI, vTry, vKnow, vWhen, vRaise, vDropX, vSetX, vRetX, noX, vDef, atI_c0, atI_c1, atI_c2, atI_c3, asO_some, kill, List.foldl_nil, List.foldl_cons, List.set_cons_zero, List.set_cons_succ, List.getElem?_cons_zero, List.getElem?_cons_succ, List.getElem?_nil, endsD, vEqS_int, Bool.false_eq_true, Bool.not_false, Bool.not_true, if_true, if_false, ite_true, ite_false, true_and, and_true, List.length_cons, List.length_nil, decide_eq_true_eq, Bool.not_eq_true', decide_eq_false_iff_not, List.length_map, Bool.true_eq_false, eq_self, not_true_eq_false, not_false_eq_true, Int.reduceToNat, Int.reduceEq, Int.reduceLT, Int.reduceLE, Int.reducePow, Int.reduceAdd, Int.reduceMul, Int.reduceSub, Int.reduceNeg, Int.toNat_natCast])
local macro_rules | `(tactic| walk_at "vb1") => `(tactic| simp only [vFld, asF_ins, vMeth, isI_ins, vOrE, vIsC, vRevM, vMemoNew, vCatN, vLtL, vLtTb, vNotInN, vStrip, vRawOf, vNext, vSeq, vSetM, vSet, vDrop, vRet, vRetN, vIfS, vAsg, vgName, vgTup2, vgCons_c, vgNil_n, vFor, vIf, vVar, vC, vOp, vUn, vI0_int, vI_int, vU_int, vTest, asB_bl, vAnd, vOr, vNot, vAndV, vOrV, vNotV, vChain, vNil, vCons, vInts, vLst, vTup, vCall, vItL, vRng1, vRng2, asI_int, asII_int, asL_lst, asL_scr, vIxL_lst, vIxL_scr, vIxT_tup, vNoPart, vPart, vLen_lst, vLen_scr, vLen_tup, slotL, vAppend, vClear, vIs, tyn_int, tyn_bl, tyn_lst, tyn_tup, tyn_str, tyn_non, isB_ii, isB_ib, isB_ll, isB_tt, isB_ss, isB_bb, isB_bi, isB_il, isB_nl, vIsN_non, D.isNon, vScal, D.scal, vFlat, flat_int, flat_bl, flat_tup2, flat_tup3, flat_tup4, vAbs, vIntB, asIB_int, asIB_bl, vMax2, vMin2, vYes, vCat_lst, vRep_lst, vList_lst, vList_scr, vSum_ints, asNs_ints, vSorted, vRev, vSl, vSlR, vCatR_lst, vRepR_lst, vListR_lst, vRevR, vAll_bools, vAny_bools, vMinL_ints, vMaxL_ints, vListRng, vAppPop, vPin, slotP, vVarP, vCallI, vSetI, vDGet, vDIn, vDPut, slotD, asDic_dic, vIndex, vSort_ints, vLenD_dic, vClearTs, vClearTL, vTupOf_lst, vTupR_lst, asTI_in, asDit_dit, vDInT, vDPutT, vClearT, slotT, isRef_lst, isRef_dic, ofV_int, ofV_bl, ofV_non, D.toV, Option.some.injEq, forall_eq', vEqS_bl, vEqS_str, vPar, vgLst, vTryI, vTry, vKnow, vWhen, vRaise, vDropX, vSetX, vRetX, noX, vDef, atI_c0, atI_c1, atI_c2, atI_c3, asO_some, kill, List.foldl_nil, List.foldl_cons, List.set_cons_zero, List.set_cons_succ, List.getElem?_cons_zero, List.getElem?_cons_succ, List.getElem?_nil, endsD, vEqS_int, Bool.false_eq_true, Bool.not_false, Bool.not_true, if_true, if_false, ite_true, ite_false, true_and, and_true, List.length_cons, List.length_nil, decide_eq_true_eq, Bool.not_eq_true', decide_eq_false_iff_not, List.length_map, Bool.true_eq_false, eq_self, not_true_eq_false, not_false_eq_true, Int.reduceToNat, Int.reduceEq, Int.reduceLT, Int.reduceLE, Int.reducePow, Int.reduceAdd, Int.reduceMul, Int.reduceSub, Int.reduceNeg, Int.toNat_natCast, vBody, cbaseD, List.reduceReplicate, List.replicate_succ, List.replicate_zero, List.map_cons, List.map_nil, Option.getD_some, List.cons_append, List.nil_append, Nat.reduceAdd])
local macro_rules | `(tactic| walk_at "v") => `(tactic| try (walk_at "v1"))
local macro_rules | `(tactic| walk_at "vb") => `(tactic| try (walk_at "vb1"))
local macro_rules | `(tactic| walk_at "cd") => `(tactic| first | exact ⟨by decide, 100, by decide, by decide⟩ | exact ⟨by omega, 100, by omega, by decide⟩ | omega | decide | rfl | exact ⟨by decide, by decide, by decide⟩ | exact ⟨64, 64, by omega, by omega, by decide⟩ | exact ⟨200, 200, by omega, by omega, by decide⟩ | exact scal_ints)
local macro_rules | `(tactic| walk_at "go") => `(tactic| repeat (first | (walk_at "v1") | ((with_reducible refine And.intro ?k1 ?_); (case k1 => walk_at "cd"))))
local macro_rules | `(tactic| walk_at "gb") => `(tactic| repeat (first | (walk_at "vb1") | ((with_reducible refine And.intro ?k1 ?_); (case k1 => walk_at "cd"))))
def top (i : Nat) : Stmt := PySem.Challenge.pw_evenmix_k56_by_number_and_back.main.body.getD i (.Pass ⟨0, 0, 0, 0⟩)
def mtop (i j : Nat) : Stmt := (match top i with | .ClassDef _ _ _ b _ _ _ _ _ _ _ => b | _ => []).getD j (.Pass ⟨0, 0, 0, 0⟩)
abbrev s_less_row : Stmt := top 16
abbrev N_less_row : List Str := ["one", "other"]
abbrev P_less_row : List Str := ["one", "other"]
theorem sc_less_row : FnScope N_less_row P_less_row (defScope s_less_row) := ⟨rfl, rfl, rfl, by decide +kernel, rfl, by decide +kernel, by decide +kernel⟩
abbrev s_is_number : Stmt := top 18
abbrev N_is_number : List Str := ["thing"]
abbrev P_is_number : List Str := ["thing"]
theorem sc_is_number : FnScope N_is_number P_is_number (defScope s_is_number) := ⟨rfl, rfl, rfl, by decide +kernel, rfl, by decide +kernel, by decide +kernel⟩
abbrev s_sums_of_rows : Stmt := top 19
abbrev N_sums_of_rows : List Str := ["table"]
abbrev P_sums_of_rows : List Str := ["table"]
theorem sc_sums_of_rows : FnScope N_sums_of_rows P_sums_of_rows (defScope s_sums_of_rows) := ⟨rfl, rfl, rfl, by decide +kernel, rfl, by decide +kernel, by decide +kernel⟩
abbrev s_sums_of_columns : Stmt := top 20
abbrev N_sums_of_columns : List Str := ["table"]
abbrev P_sums_of_columns : List Str := ["table"]
theorem sc_sums_of_columns : FnScope N_sums_of_columns P_sums_of_columns (defScope s_sums_of_columns) := ⟨rfl, rfl, rfl, by decide +kernel, rfl, by decide +kernel, by decide +kernel⟩
abbrev s_turned_table : Stmt := top 21
abbrev N_turned_table : List Str := ["table"]
abbrev P_turned_table : List Str := ["table"]
theorem sc_turned_table : FnScope N_turned_table P_turned_table (defScope s_turned_table) := ⟨rfl, rfl, rfl, by decide +kernel, rfl, by decide +kernel, by decide +kernel⟩
abbrev s_column_of : Stmt := top 22
abbrev N_column_of : List Str := ["table", "place"]
abbrev P_column_of : List Str := ["table", "place"]
theorem sc_column_of : FnScope N_column_of P_column_of (defScope s_column_of) := ⟨rfl, rfl, rfl, by decide +kernel, rfl, by decide +kernel, by decide +kernel⟩
abbrev s_check_size : Stmt := top 25
abbrev N_check_size : List Str := ["rows", "columns"]
abbrev P_check_size : List Str := ["rows", "columns"]
theorem sc_check_size : FnScope N_check_size P_check_size (defScope s_check_size) := ⟨rfl, rfl, rfl, by decide +kernel, rfl, by decide +kernel, by decide +kernel⟩
abbrev s_Tally_init : Stmt := mtop 26 0
abbrev N_Tally_init : List Str := ["self", "rows", "width"]
abbrev P_Tally_init : List Str := ["self", "rows", "width"]
theorem sc_Tally_init : FnScope N_Tally_init P_Tally_init (defScope s_Tally_init) := ⟨rfl, rfl, rfl, by decide +kernel, rfl, by decide +kernel, by decide +kernel⟩
abbrev s_Tally_ways : Stmt := mtop 26 1
abbrev N_Tally_ways : List Str := ["self", "done", "left", "want"]
abbrev P_Tally_ways : List Str := ["self", "done", "left"]
theorem sc_Tally_ways : FnScope N_Tally_ways P_Tally_ways (defScope s_Tally_ways) := ⟨rfl, rfl, rfl, by decide +kernel, rfl, by decide +kernel, by decide +kernel⟩
abbrev s_Tally_ahead : Stmt := mtop 26 2
abbrev N_Tally_ahead : List Str := ["self", "done", "left", "line", "lesser"]
abbrev P_Tally_ahead : List Str := ["self", "done", "left", "line"]
theorem sc_Tally_ahead : FnScope N_Tally_ahead P_Tally_ahead (defScope s_Tally_ahead) := ⟨rfl, rfl, rfl, by decide +kernel, rfl, by decide +kernel, by decide +kernel⟩
abbrev s_lines_with : Stmt := top 27
abbrev N_lines_with : List Str := ["number", "width"]
abbrev P_lines_with : List Str := ["number", "width"]
theorem sc_lines_with : FnScope N_lines_with P_lines_with (defScope s_lines_with) := ⟨rfl, rfl, rfl, by decide +kernel, rfl, by decide +kernel, by decide +kernel⟩
abbrev s_all_lines : Stmt := top 28
abbrev N_all_lines : List Str := ["width", "lines", "place"]
abbrev P_all_lines : List Str := ["width"]
theorem sc_all_lines : FnScope N_all_lines P_all_lines (defScope s_all_lines) := ⟨rfl, rfl, rfl, by decide +kernel, rfl, by decide +kernel, by decide +kernel⟩
abbrev s_count_of : Stmt := top 29
abbrev N_count_of : List Str := ["rows", "columns"]
abbrev P_count_of : List Str := ["rows", "columns"]
theorem sc_count_of : FnScope N_count_of P_count_of (defScope s_count_of) := ⟨rfl, rfl, rfl, by decide +kernel, rfl, by decide +kernel, by decide +kernel⟩
abbrev s_ones_at : Stmt := top 30
abbrev N_ones_at : List Str := ["rows", "columns", "number", "tally", "left", "table", "done", "line"]
abbrev P_ones_at : List Str := ["rows", "columns", "number"]
theorem sc_ones_at : FnScope N_ones_at P_ones_at (defScope s_ones_at) := ⟨rfl, rfl, rfl, by decide +kernel, rfl, by decide +kernel, by decide +kernel⟩
abbrev s_number_of : Stmt := top 31
abbrev N_number_of : List Str := ["table", "left", "tally", "number", "done"]
abbrev P_number_of : List Str := ["table"]
theorem sc_number_of : FnScope N_number_of P_number_of (defScope s_number_of) := ⟨rfl, rfl, rfl, by decide +kernel, rfl, by decide +kernel, by decide +kernel⟩
abbrev s_law_fold : Stmt := top 33
abbrev N_law_fold : List Str := ["_law_script", "_law_number", "_law_cell"]
abbrev P_law_fold : List Str := ["_law_script", "_law_number"]
theorem sc_law_fold : FnScope N_law_fold P_law_fold (defScope s_law_fold) := ⟨rfl, rfl, rfl, by decide +kernel, rfl, by decide +kernel, by decide +kernel⟩
abbrev s_law_ones : Stmt := top 34
abbrev N_law_ones : List Str := ["_law_number", "_law_most", "_law_high", "_law_wide"]
abbrev P_law_ones : List Str := ["_law_number", "_law_most"]
theorem sc_law_ones : FnScope N_law_ones P_law_ones (defScope s_law_ones) := ⟨rfl, rfl, rfl, by decide +kernel, rfl, by decide +kernel, by decide +kernel⟩
abbrev s_law_sums : Stmt := top 35
abbrev N_law_sums : List Str := ["_law_number", "_law_most", "_law_table", "_law_rows", "_law_columns", "_law_at", "_law_up"]
abbrev P_law_sums : List Str := ["_law_number", "_law_most"]
theorem sc_law_sums : FnScope N_law_sums P_law_sums (defScope s_law_sums) := ⟨rfl, rfl, rfl, by decide +kernel, rfl, by decide +kernel, by decide +kernel⟩
abbrev s_law_whole : Stmt := top 36
abbrev N_law_whole : List Str := ["_law_found"]
abbrev P_law_whole : List Str := ["_law_found"]
theorem sc_law_whole : FnScope N_law_whole P_law_whole (defScope s_law_whole) := ⟨rfl, rfl, rfl, by decide +kernel, rfl, by decide +kernel, by decide +kernel⟩
abbrev s_law_is_ones : Stmt := top 37
abbrev N_law_is_ones : List Str := ["_law_found", "_law_rows", "_law_columns", "_law_row", "_law_due"]
abbrev P_law_is_ones : List Str := ["_law_found", "_law_rows", "_law_columns"]
theorem sc_law_is_ones : FnScope N_law_is_ones P_law_is_ones (defScope s_law_is_ones) := ⟨rfl, rfl, rfl, by decide +kernel, rfl, by decide +kernel, by decide +kernel⟩
abbrev s_law_there_and_back : Stmt := top 38
abbrev N_law_there_and_back : List Str := ["_law_rows", "_law_columns", "_law_number", "_law_handed", "_law_found", "_law_held", "_law_back", "_law_row"]
abbrev P_law_there_and_back : List Str := ["_law_rows", "_law_columns", "_law_number"]
theorem sc_law_there_and_back : FnScope N_law_there_and_back P_law_there_and_back (defScope s_law_there_and_back) := ⟨rfl, rfl, rfl, by decide +kernel, rfl, by decide +kernel, by decide +kernel⟩
abbrev s_law_alone : Stmt := top 39
abbrev N_law_alone : List Str := ["_law_error"]
abbrev P_law_alone : List Str := ["_law_error"]
theorem sc_law_alone : FnScope N_law_alone P_law_alone (defScope s_law_alone) := ⟨rfl, rfl, rfl, by decide +kernel, rfl, by decide +kernel, by decide +kernel⟩
abbrev s_law_refused : Stmt := top 40
abbrev N_law_refused : List Str := ["_law_rows", "_law_columns", "_law_number", "_law_seen", "_law_error"]
abbrev P_law_refused : List Str := ["_law_rows", "_law_columns", "_law_number"]
theorem sc_law_refused : FnScope N_law_refused P_law_refused (defScope s_law_refused) := ⟨rfl, rfl, rfl, by decide +kernel, rfl, by decide +kernel, by decide +kernel⟩
abbrev s_law : Stmt := top 41
abbrev N_law : List Str := ["_law_script", "_law_number", "_law_rows", "_law_columns", "_law_many", "_law_odd", "_law_at", "_law_one"]
abbrev P_law : List Str := ["_law_script"]
theorem sc_law : FnScope N_law P_law (defScope s_law) := ⟨rfl, rfl, rfl, by decide +kernel, rfl, by decide +kernel, by decide +kernel⟩
structure Txt (K : PySem.W.Frag) (mg : Str → Option Value) : Prop where
  len_ : mg "len" = none
  isinstance_ : mg "isinstance" = none
  int_ : mg "int" = none
  bool_ : mg "bool" = none
  list_ : mg "list" = none
  range_ : mg "range" = none
  min_ : mg "min" = none
  max_ : mg "max" = none
  sum_ : mg "sum" = none
  sorted_ : mg "sorted" = none
  tuple_ : mg "tuple" = none
  zip_ : mg "zip" = none
  ValueError_ : mg "ValueError" = none
  MOST_COUNTED_ : ∃ t, mg "MOST_COUNTED" = some (Value.int 5 t)
structure Cs where
  (MixError NoTable NoBottom NotAlike NoStep NoMix NotEven NoSwap NoBounds NoPlace NoSums TooGreat NoNumber NoText Tally : Addr)
structure Fns (K : PySem.W.Frag) (mg : Str → Option Value) (c : Cs) : Prop where
  h_less_row : ∃ f fd, FnAt K mg "less_row" s_less_row P_less_row f fd
  h_is_number : ∃ f fd, FnAt K mg "is_number" s_is_number P_is_number f fd
  h_sums_of_rows : ∃ f fd, FnAt K mg "sums_of_rows" s_sums_of_rows P_sums_of_rows f fd
  h_sums_of_columns : ∃ f fd, FnAt K mg "sums_of_columns" s_sums_of_columns P_sums_of_columns f fd
  h_turned_table : ∃ f fd, FnAt K mg "turned_table" s_turned_table P_turned_table f fd
  h_column_of : ∃ f fd, FnAt K mg "column_of" s_column_of P_column_of f fd
  h_check_size : ∃ f fd, FnAt K mg "check_size" s_check_size P_check_size f fd
  h_Tally_init : ∃ f fd, MkAt K mg "Tally" c.Tally "Tally.__init__" s_Tally_init P_Tally_init f fd
  h_Tally_ways : ∃ f fd, MtAt K c.Tally "ways" "Tally.ways" s_Tally_ways P_Tally_ways f fd
  h_Tally_ahead : ∃ f fd, MtAt K c.Tally "ahead" "Tally.ahead" s_Tally_ahead P_Tally_ahead f fd
  h_lines_with : ∃ f fd, FnAt K mg "lines_with" s_lines_with P_lines_with f fd
  h_all_lines : ∃ f fd, FnAt K mg "all_lines" s_all_lines P_all_lines f fd
  h_count_of : ∃ f fd, FnAt K mg "count_of" s_count_of P_count_of f fd
  h_ones_at : ∃ f fd, FnAt K mg "ones_at" s_ones_at P_ones_at f fd
  h_number_of : ∃ f fd, FnAt K mg "number_of" s_number_of P_number_of f fd
  h_law_fold : ∃ f fd, FnAt K mg "_law_fold" s_law_fold P_law_fold f fd
  h_law_ones : ∃ f fd, FnAt K mg "_law_ones" s_law_ones P_law_ones f fd
  h_law_sums : ∃ f fd, FnAt K mg "_law_sums" s_law_sums P_law_sums f fd
  h_law_whole : ∃ f fd, FnAt K mg "_law_whole" s_law_whole P_law_whole f fd
  h_law_is_ones : ∃ f fd, FnAt K mg "_law_is_ones" s_law_is_ones P_law_is_ones f fd
  h_law_there_and_back : ∃ f fd, FnAt K mg "_law_there_and_back" s_law_there_and_back P_law_there_and_back f fd
  h_law_alone : ∃ f fd, FnAt K mg "_law_alone" s_law_alone P_law_alone f fd
  h_law_refused : ∃ f fd, FnAt K mg "_law_refused" s_law_refused P_law_refused f fd
  h_law : ∃ f fd, FnAt K mg "law" s_law P_law f fd
structure Exs (K : PySem.W.Frag) (mg : Str → Option Value) (base : Heap) (c : Cs) : Prop where
  m_MixError : mg "MixError" = some (.ref c.MixError)
  m_NoTable : mg "NoTable" = some (.ref c.NoTable)
  m_NoBottom : mg "NoBottom" = some (.ref c.NoBottom)
  m_NotAlike : mg "NotAlike" = some (.ref c.NotAlike)
  m_NoStep : mg "NoStep" = some (.ref c.NoStep)
  m_NoMix : mg "NoMix" = some (.ref c.NoMix)
  m_NotEven : mg "NotEven" = some (.ref c.NotEven)
  m_NoSwap : mg "NoSwap" = some (.ref c.NoSwap)
  m_NoBounds : mg "NoBounds" = some (.ref c.NoBounds)
  m_NoPlace : mg "NoPlace" = some (.ref c.NoPlace)
  m_NoSums : mg "NoSums" = some (.ref c.NoSums)
  m_TooGreat : mg "TooGreat" = some (.ref c.TooGreat)
  m_NoNumber : mg "NoNumber" = some (.ref c.NoNumber)
  m_NoText : mg "NoText" = some (.ref c.NoText)
  m_Tally : mg "Tally" = some (.ref c.Tally)
  i_Tally : ICls K c.Tally
  n_Tally_choices : NoAttr K c.Tally "choices"
  n_Tally_known : NoAttr K c.Tally "known"
  o_MixError : ExcObj base c.MixError []
  o_NoNumber : ExcObj base c.NoNumber [c.MixError]
  k_NoNumber : PySem.W.ExcK K c.NoNumber
  o_TooGreat : ExcObj base c.TooGreat [c.MixError]
  k_TooGreat : PySem.W.ExcK K c.TooGreat
  t1 : PySem.W.kitAny K (.ref c.NoNumber) ([c.NoBottom, c.NoTable, c.NotAlike, c.NoStep, c.NoMix, c.NotEven].map Value.ref) = some false
  t2 : PySem.W.kitAny K (.ref c.NoNumber) ([c.NoSwap, c.NoBounds, c.NoPlace, c.NoSums, c.NoText, c.TooGreat].map Value.ref) = some false
  v_NoNumber : PySem.W.kitOne K (.ref c.NoNumber) (.type "ValueError") = some true
section
variable {P : Program} {w : World} {K : PySem.W.Frag} {mg : Str → Option Value} {base : Heap}
def S_less_row : DSp := fun ds P => ∃ one other : List Int, ds = [dI one, dI other] ∧ one.length = other.length ∧ one.length ≤ 1000 ∧ P (dI ((List.range one.length).map fun (i : Nat) => one.getD i 0 - other.getD i 0))
theorem mono_less_row : DMono S_less_row := by
  intro xs P P' k h
  unfold S_less_row at h ⊢
  grind
theorem len_less_row : ∀ ds P, S_less_row ds P → ds.length = 2 := by
  intro ds P h
  obtain ⟨_, _, e, _⟩ := h
  rw [e]; rfl
theorem ok_less_row {c : Cs} {f : Addr} {fd : FuncData} (F : FnAt K mg "less_row" s_less_row P_less_row f fd) (A_ : Fns K mg c) (T : Txt K mg) (xs : Exs K mg base c) : FnOk P w K mg base CX0 1 f fd P_less_row (spP K S_less_row) := by
  refine F.fn.ok sc_less_row (fun vs H Q E h => spP_len len_less_row h) (fun cdv A outer s H vs Q E hr h => ?_)
  refine ⟨_, (pss_one (ps_ret (pe_comp0 (CompScope.of (sc0 := (defScope s_less_row)) (tn := ["place"]) (cap := ["one", "other"]) (idx := [0, 1]) (by decide +kernel) rfl rfl) (pi_range1 rfl T.range_ (pa_cons (pe_callB (call_lenK (K := K) rfl) (by rfl) T.len_ PySem.boot_len (pa_cons (pv 0) pa_nil)) pa_nil)) (GSet.name (by decide)) (fun _ _ _ _ _ => pg_name (i := 0) (nodupB_iff (l := ["place", "one", "other"]) (by decide +kernel)) rfl (by first | exact Or.inl rfl | exact Or.inr rfl) (by first | exact .inl rfl | exact .inr rfl)) (fun _ _ _ _ _ => (pe_op op_sub (pe_ix (ix_listK (K := K) rfl) (pv 1) (pv 0) (fun _ _ => rfl)) (pe_ix (ix_listK (K := K) rfl) (pv 2) (pv 0) (fun _ _ => rfl))))))), fn_val (Γn := []) (N := N_less_row) (st_ret (M := []) (em_comp0 (it_rng1 (ar_cons (EM.er (em_cb c_len (ar_cons (ES.er (es_var 0)) ar_nil))) ar_nil)) (gt_name 0) (em_op o_int (ES.er (es_ixL (es_var 1) (ES.er (es_var 0)))) (ES.er (es_ixL (es_var 2) (ES.er (es_var 0))))))) (fun ds P hS => ?_) h⟩
  obtain ⟨one, other, rfl, he, hl, hP⟩ := hS
  rw [show startD N_less_row [dI one, dI other] = [some (dI one), some (dI other)] from rfl]
  walk_at "v"
  refine comp_rng (lo := 0) (n := one.length) (g := fun (i : Nat) => .int (one.getD i 0 - other.getD i 0)) (fun R h => ?_) hl (fun i hi R h => ?_) ?_
  · walk_at "go"; exact h
  · walk_at "gb"
    rw [Int.zero_add]
    refine asO_ints (by omega) (asO_ints (by omega) ?_)
    walk_at "gb"
    exact h
  · rw [map_int]; exact hP
def S_sums_of_rows : DSp := fun ds P => ∃ t, ds = [dT t] ∧ t.length ≤ 1000 ∧ P (dI (t.map List.sum))
theorem mono_sums_of_rows : DMono S_sums_of_rows := by
  intro xs P P' k h
  unfold S_sums_of_rows at h ⊢
  grind
theorem len_sums_of_rows : ∀ ds P, S_sums_of_rows ds P → ds.length = 1 := by
  intro ds P h
  obtain ⟨_, e, _⟩ := h
  rw [e]; rfl
theorem ok_sums_of_rows {c : Cs} {f : Addr} {fd : FuncData} (F : FnAt K mg "sums_of_rows" s_sums_of_rows P_sums_of_rows f fd) (A_ : Fns K mg c) (T : Txt K mg) (xs : Exs K mg base c) : FnOk P w K mg base CX0 1 f fd P_sums_of_rows (spP K S_sums_of_rows) := by
  refine F.fn.ok sc_sums_of_rows (fun vs H Q E h => spP_len len_sums_of_rows h) (fun cdv A outer s H vs Q E hr h => ?_)
  refine ⟨_, (pss_one (ps_ret (pe_comp0 (CompScope.of (sc0 := (defScope s_sums_of_rows)) (tn := ["row"]) (cap := []) (idx := []) (by decide +kernel) rfl rfl) (pi_listK (K := K) rfl (pv 0)) (GSet.name (by decide)) (fun _ _ _ _ _ => pg_name (i := 0) (nodupB_iff (l := ["row"]) (by decide +kernel)) rfl (by first | exact Or.inl rfl | exact Or.inr rfl) (by first | exact .inl rfl | exact .inr rfl)) (fun _ _ _ _ _ => (pe_callB (call_sumK (K := K) rfl rfl) (by rfl) T.sum_ boot_sum (pa_cons (pv 0) pa_nil)))))), fn_val (Γn := []) (N := N_sums_of_rows) (st_ret (M := []) (em_comp0 (it_list (es_var 0)) (gt_name 0) (em_cb c_sum (ar_cons (ES.er (es_var 0)) ar_nil)))) (fun ds P hS => ?_) h⟩
  obtain ⟨t, rfl, hl, hP⟩ := hS
  rw [show startD N_sums_of_rows [dT t] = [some (dT t)] from rfl]
  walk_at "v"
  refine comp_rows (t := t) (g := fun r => .int r.sum) (fun R h => h) hl (fun r hr R h => ?_) ?_
  · walk_at "gb"
    exact h
  · rw [map_int]; exact hP
def S_column_of : DSp := fun ds P => ∃ (t : List (List Int)) (j : Nat), ds = [dT t, .int j] ∧ t.length ≤ 1000 ∧ (∀ r ∈ t, j < r.length) ∧ P (dI (colOf t j))
theorem mono_column_of : DMono S_column_of := by
  intro xs P P' k h
  unfold S_column_of at h ⊢
  grind
theorem len_column_of : ∀ ds P, S_column_of ds P → ds.length = 2 := by
  intro ds P h
  obtain ⟨_, _, e, _⟩ := h
  rw [e]; rfl
theorem ok_column_of {c : Cs} {f : Addr} {fd : FuncData} (F : FnAt K mg "column_of" s_column_of P_column_of f fd) (A_ : Fns K mg c) (T : Txt K mg) (xs : Exs K mg base c) : FnOk P w K mg base CX0 1 f fd P_column_of (spP K S_column_of) := by
  refine F.fn.ok sc_column_of (fun vs H Q E h => spP_len len_column_of h) (fun cdv A outer s H vs Q E hr h => ?_)
  refine ⟨_, (pss_one (ps_ret (pe_comp0 (CompScope.of (sc0 := (defScope s_column_of)) (tn := ["row"]) (cap := ["place"]) (idx := [1]) (by decide +kernel) rfl rfl) (pi_listK (K := K) rfl (pv 0)) (GSet.name (by decide)) (fun _ _ _ _ _ => pg_name (i := 0) (nodupB_iff (l := ["row", "place"]) (by decide +kernel)) rfl (by first | exact Or.inl rfl | exact Or.inr rfl) (by first | exact .inl rfl | exact .inr rfl)) (fun _ _ _ _ _ => (pe_ix (ix_listK (K := K) rfl) (pv 0) (pv 1) (fun _ _ => rfl)))))), fn_val (Γn := []) (N := N_column_of) (st_ret (M := []) (em_comp0 (it_list (es_var 0)) (gt_name 0) (ER.scal (ES.er (es_ixL (es_var 0) (ES.er (es_var 1))))))) (fun ds P hS => ?_) h⟩
  obtain ⟨t, j, rfl, hl, hj, hP⟩ := hS
  rw [show startD N_column_of [dT t, .int j] = [some (dT t), some (.int j)] from rfl]
  walk_at "v"
  refine comp_rows (t := t) (g := fun r => .int (r.getD j 0)) (fun R h => h) hl (fun r hr R h => ?_) ?_
  · walk_at "gb"
    have := hj r hr
    refine asO_ints (by omega) ?_
    rw [Int.toNat_natCast]
    exact ⟨rfl, h⟩
  · rw [map_int]; exact hP
def turned (m : Nat) (t : List (List Int)) : List (List Int) := (List.range m).map fun (j : Nat) => colOf t j
def S_turned_table : DSp := fun ds P => ∃ (t : List (List Int)) (n m : Nat), ds = [dT t] ∧ Rect n m t ∧ 1 ≤ n ∧ n ≤ 1000 ∧ m ≤ 1000 ∧ P (dT (turned m t))
theorem mono_turned_table : DMono S_turned_table := by
  intro xs P P' k h
  unfold S_turned_table at h ⊢
  grind
theorem len_turned_table : ∀ ds P, S_turned_table ds P → ds.length = 1 := by
  intro ds P h
  obtain ⟨_, _, _, e, _⟩ := h
  rw [e]; rfl
theorem ok_turned_table {c : Cs} {f : Addr} {fd : FuncData} (F : FnAt K mg "turned_table" s_turned_table P_turned_table f fd) (A_ : Fns K mg c) (T : Txt K mg) (xs : Exs K mg base c) : FnOk P w K mg base CX0 2 f fd P_turned_table (spP K S_turned_table) := by
  obtain ⟨f0, d0, E_column_of⟩ := A_.h_column_of
  have G_column_of : FnOk P w K mg base CX0 1 f0 d0 P_column_of (spP K S_column_of) := ok_column_of E_column_of A_ T xs
  refine F.fn.ok sc_turned_table (fun vs H Q E h => spP_len len_turned_table h) (fun cdv A outer s H vs Q E hr h => ?_)
  refine ⟨_, (pss_one (ps_ret (pe_comp0 (CompScope.of (sc0 := (defScope s_turned_table)) (tn := ["place"]) (cap := ["table"]) (idx := [0]) (by decide +kernel) rfl rfl) (pi_range1 rfl T.range_ (pa_cons (pe_callB (call_lenK (K := K) rfl) (by rfl) T.len_ PySem.boot_len (pa_cons (pe_ix (ix_listK (K := K) rfl) (pv 0) pe_int (fun _ _ => rfl)) pa_nil)) pa_nil)) (GSet.name (by decide)) (fun _ _ _ _ _ => pg_name (i := 0) (nodupB_iff (l := ["place", "table"]) (by decide +kernel)) rfl (by first | exact Or.inl rfl | exact Or.inr rfl) (by first | exact .inl rfl | exact .inr rfl)) (fun _ _ _ _ _ => (pe_call G_column_of (hr.mono (by decide)) rfl E_column_of.mg E_column_of.fn.kp E_column_of.bd .nil pass0 (pa_cons (pv 1) (pa_cons (pv 0) pa_nil))))))), fn_val (Γn := []) (N := N_turned_table) (st_ret (M := []) (em_comp0 (it_rng1 (ar_cons (EM.er (em_cb c_len (ar_cons (ES.er (es_ixL (es_var 0) (EM.er em_int))) ar_nil))) ar_nil)) (gt_name 0) (em_call (S := S_column_of) mono_column_of (ar_cons (ES.er (es_var 1)) (ar_cons (ES.er (es_var 0)) ar_nil))))) (fun ds P hS => ?_) h⟩
  obtain ⟨t, n, m, rfl, hR, hn, hn2, hm, hP⟩ := hS
  rw [show startD N_turned_table [dT t] = [some (dT t)] from rfl]
  have ht := hR.1
  have h0 := hR.row (i := 0) (by omega)
  walk_at "v"
  refine comp_rng (lo := 0) (n := m) (g := fun (j : Nat) => dI (colOf t j)) (fun R h => ?_) hm (fun j hj R h => ?_) ?_
  · walk_at "v"
    refine asO_rows (by omega) ?_
    walk_at "v"
    rw [h0]
    exact ⟨by omega, h⟩
  · walk_at "gb"
    rw [Int.zero_add]
    exact ⟨t, j, rfl, by omega, fun r hr => by rw [hR.2 r hr]; exact hj, h⟩
  · rw [map_dI]; exact hP
def S_sums_of_columns : DSp := fun ds P => ∃ (t : List (List Int)) (n m : Nat), ds = [dT t] ∧ Rect n m t ∧ 1 ≤ n ∧ n ≤ 1000 ∧ m ≤ 1000 ∧ P (dI ((turned m t).map List.sum))
theorem mono_sums_of_columns : DMono S_sums_of_columns := by
  intro xs P P' k h
  unfold S_sums_of_columns at h ⊢
  grind
theorem len_sums_of_columns : ∀ ds P, S_sums_of_columns ds P → ds.length = 1 := by
  intro ds P h
  obtain ⟨_, _, _, e, _⟩ := h
  rw [e]; rfl
theorem ok_sums_of_columns {c : Cs} {f : Addr} {fd : FuncData} (F : FnAt K mg "sums_of_columns" s_sums_of_columns P_sums_of_columns f fd) (A_ : Fns K mg c) (T : Txt K mg) (xs : Exs K mg base c) : FnOk P w K mg base CX0 3 f fd P_sums_of_columns (spP K S_sums_of_columns) := by
  obtain ⟨f0, d0, E_sums_of_rows⟩ := A_.h_sums_of_rows
  have G_sums_of_rows : FnOk P w K mg base CX0 1 f0 d0 P_sums_of_rows (spP K S_sums_of_rows) := ok_sums_of_rows E_sums_of_rows A_ T xs
  obtain ⟨f1, d1, E_turned_table⟩ := A_.h_turned_table
  have G_turned_table : FnOk P w K mg base CX0 2 f1 d1 P_turned_table (spP K S_turned_table) := ok_turned_table E_turned_table A_ T xs
  refine F.fn.ok sc_sums_of_columns (fun vs H Q E h => spP_len len_sums_of_columns h) (fun cdv A outer s H vs Q E hr h => ?_)
  refine ⟨_, (pss_one (ps_ret (pe_call G_sums_of_rows (hr.mono (by decide)) rfl E_sums_of_rows.mg E_sums_of_rows.fn.kp E_sums_of_rows.bd .nil pass0 (pa_cons (pe_call G_turned_table (hr.mono (by decide)) rfl E_turned_table.mg E_turned_table.fn.kp E_turned_table.bd .nil pass0 (pa_cons (pv 0) pa_nil)) pa_nil)))), fn_val (Γn := []) (N := N_sums_of_columns) (st_ret (M := []) (em_call (S := S_sums_of_rows) mono_sums_of_rows (ar_cons (EM.er (em_call (S := S_turned_table) mono_turned_table (ar_cons (ES.er (es_var 0)) ar_nil))) ar_nil))) (fun ds P hS => ?_) h⟩
  obtain ⟨t, n, m, rfl, hR, hn, hn2, hm, hP⟩ := hS
  rw [show startD N_sums_of_columns [dT t] = [some (dT t)] from rfl]
  walk_at "v"
  refine ⟨t, n, m, rfl, hR, hn, hn2, hm, ?_⟩
  exact ⟨turned m t, rfl, by unfold turned; rw [List.length_map, List.length_range]; exact hm, hP⟩
def S_is_number : DSp := fun ds P => ∃ d, ds = [d] ∧ kn d = true ∧ P (.bl (isNum d))
theorem mono_is_number : DMono S_is_number := by
  intro xs P P' k h
  unfold S_is_number at h ⊢
  grind
theorem len_is_number : ∀ ds P, S_is_number ds P → ds.length = 1 := by
  intro ds P h
  obtain ⟨_, e, _⟩ := h
  rw [e]; rfl
theorem ok_is_number {c : Cs} {f : Addr} {fd : FuncData} (F : FnAt K mg "is_number" s_is_number P_is_number f fd) (A_ : Fns K mg c) (T : Txt K mg) (xs : Exs K mg base c) : FnOk P w K mg base CX0 1 f fd P_is_number (spP K S_is_number) := by
  refine F.fn.ok sc_is_number (fun vs H Q E h => spP_len len_is_number h) (fun cdv A outer s H vs Q E hr h => ?_)
  refine ⟨_, (pss_one (ps_ret (pe_and (pe_callB (call_isinstK (K := K) rfl) (by rfl) T.isinstance_ boot_isinstance (pa_cons (pv 0) (pa_cons (pe_bltn (v := .ty "int") rfl T.int_ boot_int rfl) pa_nil))) (pe_one (pe_not (pe_callB (call_isinstK (K := K) rfl) (by rfl) T.isinstance_ boot_isinstance (pa_cons (pv 0) (pa_cons (pe_bltn (v := .ty "bool") rfl T.bool_ boot_bool rfl) pa_nil)))))))), fn_val (Γn := []) (N := N_is_number) (st_ret (M := []) (em_andV (EM.er (em_isinst kit_int (ES.er (es_var 0)))) (em_notV (EM.er (em_isinst kit_bool (ES.er (es_var 0))))))) (fun ds P hS => ?_) h⟩
  obtain ⟨d, rfl, hk, hP⟩ := hS
  rw [show startD N_is_number [d] = [some (d)] from rfl]
  cases d with
  | scr ns => cases hk
  | pin a d => cases hk
  | mem φ => cases hk
  | raw w => cases hk
  | ins a b c => cases hk
  | _ => walk_at "v"; exact hP
theorem dT_app {a b : List (List Int)} : dT (a ++ b) = .lst (a.map dI ++ b.map dI) := congrArg L3.D.lst (List.map_append)
theorem lines5 {w : Nat} (h : w ≤ 5) : (Tal.lines w).length ≤ 32 := by rw [Tal.lines_length]; exact Nat.le_trans (Nat.pow_le_pow_right (by decide) h) (by decide)
theorem linesW5 {x : Int} {w : Nat} (h : w ≤ 5) : (Tal.linesW x w).length ≤ 32 := Nat.le_trans Tal.linesW_len (Nat.le_trans (Nat.pow_le_pow_right (by decide) h) (by decide))
def S_all_lines : DSp := fun ds P => ∃ w : Nat, ds = [.int w] ∧ w ≤ 5 ∧ P (dT (Tal.lines w))
theorem mono_all_lines : DMono S_all_lines := by
  intro xs P P' k h
  unfold S_all_lines at h ⊢
  grind
theorem len_all_lines : ∀ ds P, S_all_lines ds P → ds.length = 1 := by
  intro ds P h
  obtain ⟨_, e, _⟩ := h
  rw [e]; rfl
theorem ok_all_lines {c : Cs} {f : Addr} {fd : FuncData} (F : FnAt K mg "all_lines" s_all_lines P_all_lines f fd) (A_ : Fns K mg c) (T : Txt K mg) (xs : Exs K mg base c) : FnOk P w K mg base CX0 1 f fd P_all_lines (spP K S_all_lines) := by
  refine F.fn.ok sc_all_lines (fun vs H Q E h => spP_len len_all_lines h) (fun cdv A outer s H vs Q E hr h => ?_)
  refine ⟨_, (pss_cons (ps_set (i := 1) sc_all_lines.nd rfl (by first | exact Or.inl rfl | exact Or.inr rfl) (pe_lst (pa_cons (pe_lst pa_nil) pa_nil)))
      (pss_cons (ps_for PassesOwn.never rfl (pi_range1 rfl T.range_ (pa_cons (pv 0) pa_nil)) (pg_name (i := 2) sc_all_lines.nd rfl (by first | exact Or.inl rfl | exact Or.inr rfl)) (pss_one (ps_set (i := 1) sc_all_lines.nd rfl (by first | exact Or.inl rfl | exact Or.inr rfl) (pe_op op_cat (pe_comp0 (CompScope.of (sc0 := (defScope s_all_lines)) (tn := ["line"]) (cap := []) (idx := []) (by decide +kernel) rfl rfl) (pi_listK (K := K) rfl (pv 1)) (GSet.name (by decide)) (fun _ _ _ _ _ => pg_name (i := 0) (nodupB_iff (l := ["line"]) (by decide +kernel)) rfl (by first | exact Or.inl rfl | exact Or.inr rfl) (by first | exact .inl rfl | exact .inr rfl)) (fun _ _ _ _ _ => (pe_op op_cat (pe_lst (pa_cons pe_int pa_nil)) (pv 0)))) (pe_comp0 (CompScope.of (sc0 := (defScope s_all_lines)) (tn := ["line"]) (cap := []) (idx := []) (by decide +kernel) rfl rfl) (pi_listK (K := K) rfl (pv 1)) (GSet.name (by decide)) (fun _ _ _ _ _ => pg_name (i := 0) (nodupB_iff (l := ["line"]) (by decide +kernel)) rfl (by first | exact Or.inl rfl | exact Or.inr rfl) (by first | exact .inl rfl | exact .inr rfl)) (fun _ _ _ _ _ => (pe_op op_cat (pe_lst (pa_cons pe_int pa_nil)) (pv 0))))))))
      (pss_one (ps_ret (pv 1))))), fn_val (Γn := [1]) (N := N_all_lines) (st_seq (ST.post (Γn := [1]) (st_setM (M := []) 1 (em_lst (am_cons0 (em_lst am_nil) am_nil))))
      (st_seq (st_for (it_rng1 (ar_cons (ES.er (es_var 0)) ar_nil)) (gt_name 2) (ST.post (Γn := [1]) (st_setM (M := []) 1 (em_catN (em_comp0 (it_list (es_var 1)) (gt_name 0) (em_op o_cat (EM.er (em_lst (am_cons0 em_int am_nil))) (ES.er (es_var 0)))) (em_comp0 (it_list (es_var 1)) (gt_name 0) (em_op o_cat (EM.er (em_lst (am_cons0 em_int am_nil))) (ES.er (es_var 0))))))))
      (st_ret (M := [1]) (em_var 1)))) (fun ds P hS => ?_) h⟩
  obtain ⟨w, rfl, hw, hP⟩ := hS
  rw [show startD N_all_lines [.int w] = [some (.int w), none, none] from rfl]
  walk_at "go"
  refine loop_rng (lo := 0) (n := w) (fun i δ => ∃ (o2 : Option D), δ = [some (.int w), some (dT (Tal.lines i)), o2]) ⟨none, rfl⟩ ?_ ?_
  · rintro i δ N hi ⟨o2, rfl⟩ hN
    have p32 : (Tal.lines i).length ≤ 16 := by rw [Tal.lines_length]; exact Nat.le_trans (Nat.pow_le_pow_right (by decide) (show i ≤ 4 by omega)) (by decide)
    have one : ∀ (e : Int) (P : DK), P (dT ((Tal.lines i).map fun r => e :: r)) → vComp (vItL (vVar 1)) (vgName 0) vYes (vOp vCat (vLst (vCons (vC (L3.D.int e)) vNil)) (vVar 0)) (0 + 1) [] [some (L3.D.int w), some (dT (Tal.lines i)), some (.int (0 + (i : Int)))] P := fun e P h => by
      refine comp_all (as := Tal.lines i) (f := dI) (g := fun r => dI (e :: r)) (fun R h => h) (by omega) (fun r hr2 R h => ?_) ?_
      · have := (Tal.mem_lines hr2).1
        walk_at "gb"
        refine ⟨⟨rfl, scal_ints, by first | omega | (rw [List.length_map]; show 1 + _ ≤ _; omega) | (simp; omega)⟩, h⟩
      · rw [show (Tal.lines i).map (fun r => dI (e :: r)) = ((Tal.lines i).map fun r => e :: r).map dI by rw [List.map_map]; rfl]
        exact h
    walk_at "go"
    refine one 0 _ ?_
    refine one 1 _ ?_
    refine ⟨_, _, rfl, rfl, by simp; omega, ?_⟩
    refine hN _ ⟨some (.int (0 + (i : Int))), ?_⟩
    rw [← dT_app]; rfl
  · rintro δ ⟨o2, rfl⟩
    walk_at "go"
    exact hP
def S_lines_with : DSp := fun ds P => ∃ (x : Int) (w : Nat), ds = [.int x, .int w] ∧ w ≤ 5 ∧ P (dT (Tal.linesW x w))
theorem mono_lines_with : DMono S_lines_with := by
  intro xs P P' k h
  unfold S_lines_with at h ⊢
  grind
theorem len_lines_with : ∀ ds P, S_lines_with ds P → ds.length = 2 := by
  intro ds P h
  obtain ⟨_, _, e, _⟩ := h
  rw [e]; rfl
theorem ok_lines_with {c : Cs} {f : Addr} {fd : FuncData} (F : FnAt K mg "lines_with" s_lines_with P_lines_with f fd) (A_ : Fns K mg c) (T : Txt K mg) (xs : Exs K mg base c) : FnOk P w K mg base CX0 2 f fd P_lines_with (spP K S_lines_with) := by
  obtain ⟨f0, d0, E_all_lines⟩ := A_.h_all_lines
  have G_all_lines : FnOk P w K mg base CX0 1 f0 d0 P_all_lines (spP K S_all_lines) := ok_all_lines E_all_lines A_ T xs
  refine F.fn.ok sc_lines_with (fun vs H Q E h => spP_len len_lines_with h) (fun cdv A outer s H vs Q E hr h => ?_)
  refine ⟨_, (pss_one (ps_ret (pe_comp rfl (CompScope.of (sc0 := (defScope s_lines_with)) (tn := ["line"]) (cap := ["number"]) (idx := [0]) (by decide +kernel) rfl rfl) (pi_listK (K := K) rfl (pe_call G_all_lines (hr.mono (by decide)) rfl E_all_lines.mg E_all_lines.fn.kp E_all_lines.bd .nil pass0 (pa_cons (pv 1) pa_nil))) (GSet.name (by decide)) (fun _ _ _ _ _ => pg_name (i := 0) (nodupB_iff (l := ["line", "number"]) (by decide +kernel)) rfl (by first | exact Or.inl rfl | exact Or.inr rfl) (by first | exact .inl rfl | exact .inr rfl)) (fun _ _ _ _ _ => pts_one (pt_cmpR op_eq (pe_callB (call_sumK (K := K) rfl rfl) (by rfl) T.sum_ boot_sum (pa_cons (pv 0) pa_nil)) (pv 1) (nomark _))) (fun _ _ _ _ _ => (pv 0)) (by intro _; rfl)))), fn_val (Γn := []) (N := N_lines_with) (st_ret (M := []) (em_pick (em_call (S := S_all_lines) mono_all_lines (ar_cons (ES.er (es_var 1)) ar_nil)) (tr_test (EM.er (em_op o_eq (EM.er (em_cb c_sum (ar_cons (ES.er (es_var 0)) ar_nil))) (ES.er (es_var 1))))))) (fun ds P hS => ?_) h⟩
  obtain ⟨x, w, rfl, hw, hP⟩ := hS
  rw [show startD N_lines_with [.int x, .int w] = [some (.int x), some (.int w)] from rfl]
  walk_at "go"
  refine ⟨w, rfl, hw, ?_⟩
  have l5 := lines5 hw
  refine ⟨(Tal.lines w).map dI, rfl, by rw [List.length_map]; omega, fun d => match d with | .lst ds => decide ((ds.map fun z => match z with | .int i => i | _ => 0).sum = x) | _ => false, fun d hd R h => ?_, ?_⟩
  · obtain ⟨r, hr2, rfl⟩ := List.mem_map.mp hd
    have e : ((r.map L3.D.int).map fun z => match z with | .int i => i | _ => 0) = r := by rw [List.map_map]; exact List.map_id r
    simp only [e] at h
    walk_at "gb"
    exact h
  · have ef : ((Tal.lines w).map dI).filter (fun d => match d with | .lst ds => decide ((ds.map fun z => match z with | .int i => i | _ => 0).sum = x) | _ => false) = (Tal.linesW x w).map dI := by
      rw [List.filter_map, Tal.linesW]
      congr 1
      refine List.filter_congr fun r _ => ?_
      have e : ((r.map L3.D.int).map fun z => match z with | .int i => i | _ => 0) = r := by rw [List.map_map]; exact List.map_id r
      show decide (((r.map L3.D.int).map fun z => match z with | .int i => i | _ => 0).sum = x) = decide (r.sum = x)
      rw [e]
    rw [ef]
    exact hP
def Phi (rows : List Int) : Int → List Int → Int → Prop := fun d ks n => n = Tal.W (rows.drop d.toNat) ks
def tlyD (c : Cs) (rows : List Int) (chs : List D) : D := .ins c.Tally ["choices", "known"] [.lst chs, .mem (Phi rows)]
def chsOf (rows : List Int) (w : Nat) : List D := rows.map fun r => dT (Tal.linesW r w)
def tly (c : Cs) (rows : List Int) (w : Nat) : D := tlyD c rows (chsOf rows w)
def Chs (d : Nat) (rows : List Int) (w : Nat) (chs : List D) : Prop := chs.length = rows.length ∧ ∀ k, d ≤ k → k < rows.length → chs[k]? = some (dT (Tal.linesW (rows.getD k 0) w))
theorem chs_own {d w : Nat} {rows : List Int} : Chs d rows w (chsOf rows w) := ⟨by unfold chsOf; rw [List.length_map], fun k _ hk => by unfold chsOf; rw [List.getElem?_map, List.getD_eq_getElem?_getD, List.getElem?_eq_getElem hk]; rfl⟩
theorem Chs.up {d e w : Nat} {rows : List Int} {chs : List D} (h : Chs d rows w chs) (k : d ≤ e) : Chs e rows w chs := ⟨h.1, fun i hi => h.2 i (Nat.le_trans k hi)⟩
theorem getD_at {rows : List Int} {i : Nat} (h : i < rows.length) : rows.getD i 0 = rows[i] := by rw [List.getD_eq_getElem?_getD, List.getElem?_eq_getElem h]; rfl
def S_Tally_init (c : Cs) : DSp := fun ds P => ∃ (rows : List Int) (w : Nat), ds = [dI rows, .int w] ∧ w ≤ 5 ∧ rows.length ≤ 8 ∧ P (tly c rows w)
theorem mono_Tally_init {c : Cs} : DMono (S_Tally_init c) := by
  intro xs P P' k h
  unfold S_Tally_init at h ⊢
  grind
theorem len_Tally_init {c : Cs} : ∀ ds P, (S_Tally_init c) ds P → ds.length = 2 := by
  intro ds P h
  obtain ⟨_, _, e, _⟩ := h
  rw [e]; rfl
theorem ins_Tally_init {c : Cs} : ∀ ds P, (S_Tally_init c) ds P → (S_Tally_init c) ds fun d => (∃ ns dd, d = .ins c.Tally ns dd) ∧ P d := by
  intro ds P h
  unfold S_Tally_init at h ⊢
  obtain ⟨rows, w, e, h0, h1, h⟩ := h; exact ⟨rows, w, e, h0, h1, ⟨⟨_, _, rfl⟩, h⟩⟩
theorem ok_Tally_init {c : Cs} {f : Addr} {fd : FuncData} (F : MkAt K mg "Tally" c.Tally "Tally.__init__" s_Tally_init P_Tally_init f fd) (A_ : Fns K mg c) (T : Txt K mg) (xs : Exs K mg base c) : FnOk P w K mg base CX0 3 f fd P_Tally_init (spN K c.Tally (S_Tally_init c)) := by
  obtain ⟨f0, d0, E_lines_with⟩ := A_.h_lines_with
  have G_lines_with : FnOk P w K mg base CX0 2 f0 d0 P_lines_with (spP K S_lines_with) := ok_lines_with E_lines_with A_ T xs
  refine F.fn.ok sc_Tally_init (fun vs H Q E h => spN_len len_Tally_init h) (fun cdv A outer s H vs Q E hr h => ?_)
  refine ⟨_, (pss_cons (ps_fldK (K := K) rfl (pv 0) (pe_comp0 (CompScope.of (sc0 := (defScope s_Tally_init)) (tn := ["number"]) (cap := ["width"]) (idx := [2]) (by decide +kernel) rfl rfl) (pi_listK (K := K) rfl (pv 1)) (GSet.name (by decide)) (fun _ _ _ _ _ => pg_name (i := 0) (nodupB_iff (l := ["number", "width"]) (by decide +kernel)) rfl (by first | exact Or.inl rfl | exact Or.inr rfl) (by first | exact .inl rfl | exact .inr rfl)) (fun _ _ _ _ _ => (pe_call G_lines_with (hr.mono (by decide)) rfl E_lines_with.mg E_lines_with.fn.kp E_lines_with.bd .nil pass0 (pa_cons (pv 0) (pa_cons (pv 1) pa_nil))))) rfl)
      (pss_one (ps_fldK (K := K) rfl (pv 0) pe_dnewM rfl))), fn_ini (N := N_Tally_init) (ini_cons xs.i_Tally.cl xs.n_Tally_choices (em_comp0 (it_list (es_var 1)) (gt_name 0) (em_call (S := S_lines_with) mono_lines_with (ar_cons (ES.er (es_var 0)) (ar_cons (ES.er (es_var 1)) ar_nil)))) (ini_one xs.i_Tally.cl xs.n_Tally_known em_memo)) (fun ds P hS => ?_) (by decide) (by decide +kernel) (by decide) h⟩
  obtain ⟨rows, w, rfl, hw, hl, hP⟩ := hS
  rw [show startD (N_Tally_init.drop 1) [dI rows, .int w] = [some (dI rows), some (.int w)] from rfl]
  walk_at "go"
  refine comp_all (as := rows) (f := L3.D.int) (g := fun r => dT (Tal.linesW r w)) (fun R h => h) (by omega) (fun r hr2 R h => ?_) ?_
  · walk_at "gb"
    exact ⟨r, w, rfl, hw, h⟩
  · exact ⟨_, hP⟩
def S_Tally_ways (c : Cs) (n : Nat) : DSp := fun ds P => ∃ (rows : List Int) (chs : List D) (done w : Nat) (left : List Int), ds = [tlyD c rows chs, .int done, dI left] ∧ Chs done rows w chs ∧ left.length = w ∧ 1 ≤ w ∧ w ≤ 5 ∧ rows.length ≤ 5 ∧ done ≤ rows.length ∧ rows.length - done < n ∧ P (.int (Tal.W (rows.drop done) left))
theorem none_Tally_ways {c : Cs} {K : PySem.W.Frag} {vs : List V} {H : Hp} {Q : VK} {E : XK} (h : spP K (S_Tally_ways c 0) vs H Q E) : False := by
  obtain ⟨ds, _, rows, chs, done, w, left, _, _, _, _, _, _, _, z, _⟩ := h
  exact absurd z (Nat.not_lt_zero _)
theorem W_out' {rs left : List Int} {x : Int} (hx : x ∈ left) (h : x < 0 ∨ (rs.length : Int) < x) : Tal.W rs left = 0 := by
  obtain ⟨i, hi, rfl⟩ := List.getElem_of_mem hx
  refine Tal.W_out hi ?_
  rw [List.getD_eq_getElem?_getD, List.getElem?_eq_getElem hi]; exact h
theorem Phi_get {rows : List Int} {d : Nat} {ks : List Int} {n : Int} : Phi rows (d : Int) ks n ↔ n = Tal.W (rows.drop d) ks := Iff.rfl
theorem mono_Tally_ways {c : Cs} {n : Nat} : DMono (S_Tally_ways c n) := by
  intro xs P P' k h
  obtain ⟨ch, chs, done, w, left, e, h0, h1, h2, h3, h4, h5, h6, h⟩ := h
  exact ⟨ch, chs, done, w, left, e, h0, h1, h2, h3, h4, h5, h6, k _ h⟩
theorem len_Tally_ways {c : Cs} {n : Nat} : ∀ ds P, S_Tally_ways c n ds P → ds.length = 3 := by
  intro ds P h
  obtain ⟨_, _, _, _, _, e, _⟩ := h
  rw [e]; rfl
theorem step_Tally_ways {c : Cs} {n k : Nat} {f : Addr} {fd : FuncData} (F : MtAt K c.Tally "ways" "Tally.ways" s_Tally_ways P_Tally_ways f fd) (A_ : Fns K mg c) (T : Txt K mg) (xs : Exs K mg base c) (hk : 2 ≤ k) (G_Tally_ways : FnOk P w K mg base CX0 k f fd P_Tally_ways (spP K (S_Tally_ways c n))) : FnOk P w K mg base CX0 (k + 1) f fd P_Tally_ways (spP K (S_Tally_ways c (n + 1))) := by
  obtain ⟨f0, d0, E_less_row⟩ := A_.h_less_row
  have G_less_row : FnOk P w K mg base CX0 1 f0 d0 P_less_row (spP K S_less_row) := ok_less_row E_less_row A_ T xs
  have E_Tally_ways := F
  refine F.fn.ok sc_Tally_ways (fun vs H Q E h => spP_len len_Tally_ways h) (fun cdv A outer s H vs Q E hr h => ?_)
  refine ⟨_, (pss_cons (ps_if (PW.pt (pw_or (pt_cmpR op_lt (pe_callB (call_minL (K := K) rfl rfl) (by rfl) T.min_ boot_min (pa_cons (pv 2) pa_nil)) pe_int (nomark _)) (pw_or1 (pt_cmpR op_gt (pe_callB (call_maxL (K := K) rfl rfl) (by rfl) T.max_ boot_max (pa_cons (pv 2) pa_nil)) (pe_op op_sub (pe_callB (call_lenK (K := K) rfl) (by rfl) T.len_ PySem.boot_len (pa_cons (pe_fldK (K := K) rfl (pv 0) rfl) pa_nil)) (pv 1)) (nomark _))))) (pss_one (ps_ret pe_int)) pss_nil)
      (pss_cons (ps_if (pt_cmpR op_eq (pv 1) (pe_callB (call_lenK (K := K) rfl) (by rfl) T.len_ PySem.boot_len (pa_cons (pe_fldK (K := K) rfl (pv 0) rfl) pa_nil)) (nomark _)) (pss_one (ps_ret pe_int)) pss_nil)
      (pss_cons (ps_set (i := 3) sc_Tally_ways.nd rfl (by first | exact Or.inl rfl | exact Or.inr rfl) (pe_tup (pa_cons (pv 1) (pa_cons (pe_callTy (call_tupleK (K := K) rfl) (by rfl) T.tuple_ boot_tuple (pa_cons (pe_callB (call_sortedK (K := K) rfl) (by rfl) T.sorted_ boot_sorted (pa_cons (pv 2) pa_nil)) pa_nil)) pa_nil))))
      (pss_cons (ps_if (pt_cmpR (op_memoN hr.units) (pv 3) (pe_fldK (K := K) rfl (pv 0) rfl) (by with_unfolding_all rfl)) (pss_one (ps_asg (pe_callB (call_sumK (K := K) rfl rfl) (by rfl) T.sum_ boot_sum (pa_cons (pe_comp0 (CompScope.of (sc0 := (defScope s_Tally_ways)) (tn := ["line"]) (cap := ["self", "done", "left"]) (idx := [0, 1, 2]) (by decide +kernel) rfl rfl) (pi_listK (K := K) rfl (pe_ix (ix_listK (K := K) rfl) (pe_fldK (K := K) rfl (pv 0) rfl) (pv 1) (fun _ _ => rfl))) (GSet.name (by decide)) (fun _ _ _ _ _ => pg_name (i := 0) (nodupB_iff (l := ["line", "self", "done", "left"]) (by decide +kernel)) rfl (by first | exact Or.inl rfl | exact Or.inr rfl) (by first | exact .inl rfl | exact .inr rfl)) (fun _ _ _ _ _ => (pe_meth (pv 1) xs.i_Tally.cl E_Tally_ways.mt G_Tally_ways (hr.mono (by omega)) E_Tally_ways.bd .nil pass0 (pa_cons (pe_op op_add (pv 2) pe_int) (pa_cons (pe_call G_less_row (hr.mono (by omega)) rfl E_less_row.mg E_less_row.fn.kp E_less_row.bd .nil pass0 (pa_cons (pv 3) (pa_cons (pv 0) pa_nil))) pa_nil))))) pa_nil)) (pg_sub (pe_fldK (K := K) rfl (pv 0) rfl) (pv 3) (set_memo hr.units)))) pss_nil)
      (pss_one (ps_ret (pe_ix (ix_memo hr.units) (pe_fldK (K := K) rfl (pv 0) rfl) (pv 3) (fun _ _ => rfl)))))))), fn_val (Γn := []) (N := N_Tally_ways) (st_seq (st_if (tr_or (tr_test (EM.er (em_op o_bl (EM.er (em_cb c_minL (ar_cons (ES.er (es_var 2)) ar_nil))) (EM.er em_int)))) (tr_test (EM.er (em_op o_bl (EM.er (em_cb c_maxL (ar_cons (ES.er (es_var 2)) ar_nil))) (EM.er (em_op o_int (EM.er (em_cb c_len (ar_cons (ES.er (es_fld ["choices", "known"] 0 xs.i_Tally.cl xs.n_Tally_choices (es_var 0))) ar_nil))) (ES.er (es_var 1)))))))) (st_ret (M := []) em_int) st_next)
      (st_seq (st_if (tr_test (EM.er (em_op o_eq (ES.er (es_var 1)) (EM.er (em_cb c_len (ar_cons (ES.er (es_fld ["choices", "known"] 0 xs.i_Tally.cl xs.n_Tally_choices (es_var 0))) ar_nil)))))) (st_ret (M := []) em_int) st_next)
      (st_seq (ST.post (Γn := []) (st_setS 3 (EM.es (em_tup (am_cons0 (ER.scal (ES.er (es_var 1))) (am_cons0 (em_cb c_tuple (ar_cons (EM.er (em_cb c_sort (ar_cons (ES.er (es_var 2)) ar_nil))) ar_nil)) am_nil))))))
      (st_memo ["choices", "known"] 1 3 xs.i_Tally.cl xs.n_Tally_known (EM.er (em_cb c_sum (ar_cons (EM.er (em_comp0 (it_list (es_ixL (es_fld ["choices", "known"] 0 xs.i_Tally.cl xs.n_Tally_choices (es_var 0)) (ES.er (es_var 1)))) (gt_name 0) (em_meth (C := c.Tally) ["choices", "known"] mono_Tally_ways (ES.er (es_var 1)) (ar_cons (EM.er (em_op o_int (ES.er (es_var 2)) (EM.er em_int))) (ar_cons (EM.er (em_call (S := S_less_row) mono_less_row (ar_cons (ES.er (es_var 3)) (ar_cons (ES.er (es_var 0)) ar_nil)))) ar_nil))))) ar_nil))))))) (fun ds P hS => ?_) h⟩
  obtain ⟨rows, chs, done, w, left, rfl, hc, hl, w1, w5, c5, hd, hn, hP⟩ := hS
  rw [show startD N_Tally_ways [tlyD c rows chs, .int done, dI left] = [some (tlyD c rows chs), some (.int done), some (dI left), none] from rfl]
  have hcl := hc.1
  unfold tlyD
  walk_at "go"
  intro M hM hmin
  by_cases h0 : M < 0
  · rw [if_pos h0]; rw [W_out' hM (.inl h0)] at hP; exact hP
  rw [if_neg h0]
  refine ⟨by omega, ?_⟩
  intro M2 hM2 hmax
  by_cases h1 : (chs.length : Int) - done < M2
  · rw [if_pos h1]; rw [W_out' hM2 (.inr (by rw [List.length_drop]; omega))] at hP; exact hP
  rw [if_neg h1]
  by_cases h2 : done = rows.length
  · rw [if_pos (by omega)]
    rw [List.drop_of_length_le (by omega), Tal.W, if_pos (fun x hx => by have := hmin x hx; have := hmax x hx; omega)] at hP
    exact hP
  rw [if_neg (by omega)]
  refine ⟨by omega, fun ms pm _ => ⟨scal_ints, by decide, ?_⟩⟩
  have hlt : done < rows.length := by omega
  have ew : Tal.W (rows.drop done) ms = Tal.W (rows.drop done) left := Tal.W_perm pm
  refine ⟨_, Phi rows, (done : Int), ms, rfl, rfl, rfl, ?_, ?_, fun m hm => ?_⟩
  · unfold boxK
    simp only [Bool.and_eq_true, decide_eq_true_eq, List.all_eq_true]
    refine ⟨⟨⟨by omega, by omega⟩, by rw [pm.length_eq]; omega⟩, fun e he => ?_⟩
    have hel := pm.mem_iff.mp he
    have := hmin e hel
    have := hmax e hel
    omega
  · have l5 := linesW5 (x := rows[done]) w5
    walk_at "go"
    refine comp_all (as := Tal.linesW rows[done] w) (f := dI) (g := fun r => .int (Tal.W (rows.drop (done + 1)) (Tal.sub left r))) (fun R h => ?_) (by omega) (fun r hr2 R h => ?_) ?_
    · walk_at "go"
      refine asO_idx (by omega) (by omega) ?_
      rw [Int.toNat_natCast, hc.2 done (Nat.le_refl _) hlt, getD_at hlt]
      exact h
    · have hr3 := (Tal.mem_lines (Tal.mem_linesW.mp hr2).1).1
      walk_at "gb"
      refine ⟨left, r, rfl, by omega, by omega, ?_⟩
      rw [Tal.sub_rng (by omega)]
      refine ⟨rows, chs, done + 1, w, _, rfl, hc.up (Nat.le_succ _), by rw [Tal.sub_len (by omega)]; exact hl, w1, w5, c5, hlt, by omega, ?_⟩
      exact h
    · rw [map_int]
      walk_at "go"
      refine ⟨_, rfl, ?_⟩
      rw [Phi_get, ew, List.drop_eq_getElem_cons hlt, Tal.W, hl]
  · rw [Phi_get] at hm
    rw [hm, ew]
    exact hP
theorem ok_Tally_ways {c : Cs} {f : Addr} {fd : FuncData} (F : MtAt K c.Tally "ways" "Tally.ways" s_Tally_ways P_Tally_ways f fd) (A_ : Fns K mg c) (T : Txt K mg) (xs : Exs K mg base c) : FnOk P w K mg base CX0 9 f fd P_Tally_ways (spP K (S_Tally_ways c 7)) := by
  have G0 : FnOk P w K mg base CX0 2 f fd P_Tally_ways (spP K (S_Tally_ways c 0)) := ⟨fun vs H Q E h => spP_len len_Tally_ways h, fun A outer s H args us vs Q E hr e0 hb r h => (none_Tally_ways h).elim⟩
  exact (step_Tally_ways F A_ T xs (by decide) (step_Tally_ways F A_ T xs (by decide) (step_Tally_ways F A_ T xs (by decide) (step_Tally_ways F A_ T xs (by decide) (step_Tally_ways F A_ T xs (by decide) (step_Tally_ways F A_ T xs (by decide) (step_Tally_ways F A_ T xs (by decide) G0)))))))
def S_Tally_ahead (c : Cs) : DSp := fun ds P => ∃ (rows : List Int) (chs : List D) (done w : Nat) (left line : List Int) (hd : done < rows.length), ds = [tlyD c rows chs, .int done, dI left, dI line] ∧ Chs done rows w chs ∧ left.length = w ∧ line.length = w ∧ 1 ≤ w ∧ w ≤ 5 ∧ rows.length ≤ 5 ∧ P (.int (Tal.A rows[done] (rows.drop (done + 1)) left line))
theorem mono_Tally_ahead {c : Cs} : DMono (S_Tally_ahead c) := by
  intro xs P P' k h
  unfold S_Tally_ahead at h ⊢
  grind
theorem len_Tally_ahead {c : Cs} : ∀ ds P, (S_Tally_ahead c) ds P → ds.length = 4 := by
  intro ds P h
  obtain ⟨_, _, _, _, _, _, _, e, _⟩ := h
  rw [e]; rfl
theorem ok_Tally_ahead {c : Cs} {f : Addr} {fd : FuncData} (F : MtAt K c.Tally "ahead" "Tally.ahead" s_Tally_ahead P_Tally_ahead f fd) (A_ : Fns K mg c) (T : Txt K mg) (xs : Exs K mg base c) : FnOk P w K mg base CX0 10 f fd P_Tally_ahead (spP K (S_Tally_ahead c)) := by
  obtain ⟨f0, d0, E_Tally_ways⟩ := A_.h_Tally_ways
  have G_Tally_ways : FnOk P w K mg base CX0 9 f0 d0 P_Tally_ways (spP K (S_Tally_ways c 7)) := ok_Tally_ways E_Tally_ways A_ T xs
  obtain ⟨f1, d1, E_less_row⟩ := A_.h_less_row
  have G_less_row : FnOk P w K mg base CX0 1 f1 d1 P_less_row (spP K S_less_row) := ok_less_row E_less_row A_ T xs
  refine F.fn.ok sc_Tally_ahead (fun vs H Q E h => spP_len len_Tally_ahead h) (fun cdv A outer s H vs Q E hr h => ?_)
  refine ⟨_, (pss_cons (ps_setC rfl (CompScope.of (sc0 := (defScope s_Tally_ahead)) (tn := ["choice"]) (cap := ["line"]) (idx := [3]) (by decide +kernel) rfl rfl) sc_Tally_ahead.nd rfl (by first | exact Or.inl rfl | exact Or.inr rfl) (pi_listK (K := K) rfl (pe_ix (ix_listK (K := K) rfl) (pe_fldK (K := K) rfl (pv 0) rfl) (pv 1) (fun _ _ => rfl))) (GSet.name (by decide)) (fun _ _ _ _ _ => pg_name (i := 0) (nodupB_iff (l := ["choice", "line"]) (by decide +kernel)) rfl (by first | exact Or.inl rfl | exact Or.inr rfl) (by first | exact .inl rfl | exact .inr rfl)) (fun _ _ _ _ _ => pts_one (pt_cmpR (op_ltL hr.units) (pv 0) (pv 1) (nomark _))) (fun _ _ _ _ _ => (pv 0)))
      (pss_one (ps_ret (pe_callB (call_sumK (K := K) rfl rfl) (by rfl) T.sum_ boot_sum (pa_cons (pe_comp0 (CompScope.of (sc0 := (defScope s_Tally_ahead)) (tn := ["choice"]) (cap := ["self", "done", "left"]) (idx := [0, 1, 2]) (by decide +kernel) rfl rfl) (pi_listK (K := K) rfl (pv 4)) (GSet.name (by decide)) (fun _ _ _ _ _ => pg_name (i := 0) (nodupB_iff (l := ["choice", "self", "done", "left"]) (by decide +kernel)) rfl (by first | exact Or.inl rfl | exact Or.inr rfl) (by first | exact .inl rfl | exact .inr rfl)) (fun _ _ _ _ _ => (pe_meth (pv 1) xs.i_Tally.cl E_Tally_ways.mt G_Tally_ways (hr.mono (by decide)) E_Tally_ways.bd .nil pass0 (pa_cons (pe_op op_add (pv 2) pe_int) (pa_cons (pe_call G_less_row (hr.mono (by decide)) rfl E_less_row.mg E_less_row.fn.kp E_less_row.bd .nil pass0 (pa_cons (pv 3) (pa_cons (pv 0) pa_nil))) pa_nil))))) pa_nil))))), fn_val (Γn := []) (N := N_Tally_ahead) (st_seq (ST.post (Γn := []) (st_setS 4 (ER.es0 (er_comp (it_list (es_ixL (es_fld ["choices", "known"] 0 xs.i_Tally.cl xs.n_Tally_choices (es_var 0)) (ES.er (es_var 1)))) (gt_name 0) (tr_test (EM.er (em_op o_ltL (ES.er (es_var 0)) (ES.er (es_var 1))))) (ES.er (es_var 0))))))
      (st_ret (M := []) (em_cb c_sum (ar_cons (EM.er (em_comp0 (it_list (es_var 4)) (gt_name 0) (em_meth (C := c.Tally) ["choices", "known"] mono_Tally_ways (ES.er (es_var 1)) (ar_cons (EM.er (em_op o_int (ES.er (es_var 2)) (EM.er em_int))) (ar_cons (EM.er (em_call (S := S_less_row) mono_less_row (ar_cons (ES.er (es_var 3)) (ar_cons (ES.er (es_var 0)) ar_nil)))) ar_nil))))) ar_nil)))) (fun ds P hS => ?_) h⟩
  obtain ⟨rows, chs, done, w, left, line, hlt, rfl, hc, hl, hl2, w1, w5, c5, hP⟩ := hS
  rw [show startD N_Tally_ahead [tlyD c rows chs, .int done, dI left, dI line] = [some (tlyD c rows chs), some (.int done), some (dI left), some (dI line), none] from rfl]
  have hcl := hc.1
  have l5 := linesW5 (x := rows[done]) w5
  unfold tlyD
  walk_at "go"
  refine comp_any (as := Tal.linesW rows[done] w) (f := dI) (g := dI) (p := fun l => Tal.lx l line) (fun R h => ?_) (by omega) (fun r hr2 R h => ?_) ?_
  · walk_at "go"
    refine asO_idx (by omega) (by omega) ?_
    rw [Int.toNat_natCast, hc.2 done (Nat.le_refl _) hlt, getD_at hlt]
    exact h
  · have hr3 := (Tal.mem_lines (Tal.mem_linesW.mp hr2).1).1
    walk_at "gb"
    refine ⟨r, line, rfl, rfl, by omega, ?_⟩
    cases e : Tal.lx r line
    · rw [e] at h; exact h
    · rw [e] at h; exact h
  · walk_at "go"
    refine comp_all (as := (Tal.linesW rows[done] w).filter fun l => Tal.lx l line) (f := dI) (g := fun r => .int (Tal.W (rows.drop (done + 1)) (Tal.sub left r))) (fun R h => h) (by have := List.length_filter_le (fun l => Tal.lx l line) (Tal.linesW rows[done] w); omega) (fun r hr2 R h => ?_) ?_
    · have hr3 := (Tal.mem_lines (Tal.mem_linesW.mp (List.mem_filter.mp hr2).1).1).1
      walk_at "gb"
      refine ⟨left, r, rfl, by omega, by omega, ?_⟩
      rw [Tal.sub_rng (by omega)]
      refine ⟨rows, chs, done + 1, w, _, rfl, hc.up (Nat.le_succ _), by rw [Tal.sub_len (by omega)]; exact hl, w1, w5, c5, hlt, by omega, ?_⟩
      exact h
    · rw [map_int]
      walk_at "go"
      rw [Tal.A, hl] at hP
      exact hP
def S_check_size (c : Cs) : DSX := fun ds P R => ∃ xs ys : List D, ds = [.lst xs, .lst ys] ∧ (xs.length ≤ 5 ∧ ys.length ≤ 5 → P .non) ∧ (¬ (xs.length ≤ 5 ∧ ys.length ≤ 5) → R c.TooGreat)
theorem mono_check_size {c : Cs} : DMonoX (S_check_size c) := by
  intro xs P P' R R' k kr h
  obtain ⟨a, b, e, h1, h2⟩ := h
  exact ⟨a, b, e, fun z => k _ (h1 z), fun z => kr _ (h2 z)⟩
theorem len_check_size {c : Cs} : ∀ ds P R, S_check_size c ds P R → ds.length = 2 := by
  intro ds P R h
  obtain ⟨a, b, e, _⟩ := h
  rw [e]; rfl
theorem ok_check_size {c : Cs} {f : Addr} {fd : FuncData} (F : FnAt K mg "check_size" s_check_size P_check_size f fd) (A_ : Fns K mg c) (T : Txt K mg) (xs : Exs K mg base c) : FnOk P w K mg base (CXR P w) 1 f fd P_check_size (spX K (S_check_size c)) := by
  refine F.fn.okX sc_check_size (fun vs H Q E h => spX_len len_check_size h) (fun cdv A outer s H vs Q E hr h => ?_)
  refine ⟨_, (pss_cons (ps_if (PT.nox (PW.pt (pw_or (pt_cmpR op_gt (pe_callB (call_lenK (K := K) rfl) (by rfl) T.len_ PySem.boot_len (pa_cons (pv 0) pa_nil)) (pe_glob (v := .int 5) rfl T.MOST_COUNTED_.choose_spec ⟨_, rfl⟩) (nomark _)) (pw_or1 (pt_cmpR op_gt (pe_callB (call_lenK (K := K) rfl) (by rfl) T.len_ PySem.boot_len (pa_cons (pv 1) pa_nil)) (pe_glob (v := .int 5) rfl T.MOST_COUNTED_.choose_spec ⟨_, rfl⟩) (nomark _)))))) (pss_one (ps_raise (xs.o_TooGreat.own xs.m_TooGreat) PySem.F.excBase_ValueError rfl rfl raise_x (pa_cons pe_str pa_nil))) pss_nil)
      pss_nil), fn_valX (Γn := []) (N := N_check_size) (fun R => (sx_seq (sx_if (tr_or (tr_test (EM.er (em_op o_bl (EM.er (em_cb c_len (ar_cons (ES.er (es_var 0)) ar_nil))) (EM.er em_int)))) (tr_test (EM.er (em_op o_bl (EM.er (em_cb c_len (ar_cons (ES.er (es_var 1)) ar_nil))) (EM.er em_int))))) (sx_raise (ar_cons (EM.er em_str) ar_nil)) (ST.sx st_next))
      (ST.sx st_next))) (fun ds P R hS => ?_) h⟩
  obtain ⟨a, b, rfl, hP, hR⟩ := hS
  rw [show startD N_check_size [.lst a, .lst b] = [some (.lst a), some (.lst b)] from rfl]
  walk_at "go"
  by_cases h1 : a.length ≤ 5
  · rw [if_neg (by omega)]
    by_cases h2 : b.length ≤ 5
    · rw [if_neg (by omega)]
      exact hP ⟨h1, h2⟩
    · rw [if_pos (by omega)]
      exact ⟨by decide, hR (fun z => h2 z.2)⟩
  · rw [if_pos (by omega)]
    exact ⟨by decide, hR (fun z => h1 z.1)⟩
def S_count_of (c : Cs) : DSX := fun ds P R => ∃ rows cols : List Int, ds = [dI rows, dI cols] ∧ 1 ≤ cols.length ∧ rows.length ≤ 8 ∧ (rows.length ≤ 5 ∧ cols.length ≤ 5 → P (.int (Tal.W rows cols))) ∧ (¬ (rows.length ≤ 5 ∧ cols.length ≤ 5) → R c.TooGreat)
theorem mono_count_of {c : Cs} : DMonoX (S_count_of c) := by
  intro xs P P' R R' k kr h
  obtain ⟨a, b, e, q1, q2, h1, h2⟩ := h
  exact ⟨a, b, e, q1, q2, fun z => k _ (h1 z), fun z => kr _ (h2 z)⟩
theorem len_count_of {c : Cs} : ∀ ds P R, S_count_of c ds P R → ds.length = 2 := by
  intro ds P R h
  obtain ⟨a, b, e, _⟩ := h
  rw [e]; rfl
theorem ok_count_of {c : Cs} {f : Addr} {fd : FuncData} (F : FnAt K mg "count_of" s_count_of P_count_of f fd) (A_ : Fns K mg c) (T : Txt K mg) (xs : Exs K mg base c) : FnOk P w K mg base (CXR P w) 10 f fd P_count_of (spX K (S_count_of c)) := by
  obtain ⟨f0, d0, E_check_size⟩ := A_.h_check_size
  have G_check_size : FnOk P w K mg base (CXR P w) 1 f0 d0 P_check_size (spX K (S_check_size c)) := ok_check_size E_check_size A_ T xs
  obtain ⟨f1, d1, E_Tally_ways⟩ := A_.h_Tally_ways
  have G_Tally_ways : FnOk P w K mg base CX0 9 f1 d1 P_Tally_ways (spP K (S_Tally_ways c 7)) := ok_Tally_ways E_Tally_ways A_ T xs
  obtain ⟨f2, d2, E_Tally_init⟩ := A_.h_Tally_init
  have G_Tally_init : FnOk P w K mg base CX0 3 f2 d2 P_Tally_init (spN K c.Tally (S_Tally_init c)) := ok_Tally_init E_Tally_init A_ T xs
  refine F.fn.okX sc_count_of (fun vs H Q E h => spX_len len_count_of h) (fun cdv A outer s H vs Q E hr h => ?_)
  refine ⟨_, (pss_cons (ps_expr (pe_call G_check_size (hr.mono (by decide)) rfl E_check_size.mg E_check_size.fn.kp E_check_size.bd .nil pass_x (PA.nox (pa_cons (pv 0) (pa_cons (pv 1) pa_nil)))))
      (PSs.nox (pss_one (ps_ret (pe_meth (pe_make E_Tally_init.mkk G_Tally_init (hr.mono (by decide)) rfl E_Tally_init.mg E_Tally_init.bd .nil pass0 (pa_cons (pv 0) (pa_cons (pe_callB (call_lenK (K := K) rfl) (by rfl) T.len_ PySem.boot_len (pa_cons (pv 1) pa_nil)) pa_nil))) xs.i_Tally.cl E_Tally_ways.mt G_Tally_ways (hr.mono (by decide)) E_Tally_ways.bd .nil pass0 (pa_cons pe_int (pa_cons (pv 1) pa_nil))))))), fn_valX (Γn := []) (N := N_count_of) (fun R => (sx_seq (sx_drop mono_check_size (ar_cons (ES.er (es_var 0)) (ar_cons (ES.er (es_var 1)) ar_nil)))
      (ST.sx (st_ret (M := []) (em_meth (C := c.Tally) ["choices", "known"] mono_Tally_ways (EM.er (em_make mono_Tally_init ins_Tally_init (ar_cons (ES.er (es_var 0)) (ar_cons (EM.er (em_cb c_len (ar_cons (ES.er (es_var 1)) ar_nil))) ar_nil)))) (ar_cons (EM.er em_int) (ar_cons (ES.er (es_var 1)) ar_nil))))))) (fun ds P R hS => ?_) h⟩
  obtain ⟨rows, cols, rfl, h1, h8, hP, hR⟩ := hS
  rw [show startD N_count_of [dI rows, dI cols] = [some (dI rows), some (dI cols)] from rfl]
  walk_at "go"
  refine ⟨_, _, rfl, fun hh => ?_, fun hh => hR (by simpa using hh)⟩
  have hh : rows.length ≤ 5 ∧ cols.length ≤ 5 := by simpa using hh
  walk_at "go"
  refine ⟨rows, cols.length, rfl, hh.2, h8, ?_⟩
  exact ⟨⟨rfl, rfl⟩, rows, _, 0, cols.length, cols, rfl, chs_own, rfl, h1, hh.2, hh.1, Nat.zero_le _, by omega, hP hh⟩
theorem cols_eq {m : Nat} {t : List (List Int)} : (turned m t).map List.sum = Tal.cols m t := by
  unfold turned Tal.cols
  rw [List.map_map]; rfl
def S_number_of (c : Cs) : DSX := fun ds P R => ∃ (t : List (List Int)) (n m : Nat), ds = [dT t] ∧ Rect n m t ∧ 1 ≤ n ∧ n ≤ 8 ∧ 1 ≤ m ∧ m ≤ 8 ∧ (∀ r ∈ t, ∀ z ∈ r, z = 0 ∨ z = 1) ∧ (n ≤ 5 ∧ m ≤ 5 → P (.int (Tal.N (t.map List.sum) (Tal.cols m t) t))) ∧ (¬ (n ≤ 5 ∧ m ≤ 5) → R c.TooGreat)
theorem mono_number_of {c : Cs} : DMonoX (S_number_of c) := by
  intro xs P P' R R' k kr h
  obtain ⟨a, b, m, e, q1, q2, q3, q4, q5, q6, h1, h2⟩ := h
  exact ⟨a, b, m, e, q1, q2, q3, q4, q5, q6, fun z => k _ (h1 z), fun z => kr _ (h2 z)⟩
theorem len_number_of {c : Cs} : ∀ ds P R, S_number_of c ds P R → ds.length = 1 := by
  intro ds P R h
  obtain ⟨a, b, m, e, _⟩ := h
  rw [e]; rfl
theorem ok_number_of {c : Cs} {f : Addr} {fd : FuncData} (F : FnAt K mg "number_of" s_number_of P_number_of f fd) (A_ : Fns K mg c) (T : Txt K mg) (xs : Exs K mg base c) : FnOk P w K mg base (CXR P w) 11 f fd P_number_of (spX K (S_number_of c)) := by
  obtain ⟨f0, d0, E_sums_of_columns⟩ := A_.h_sums_of_columns
  have G_sums_of_columns : FnOk P w K mg base CX0 3 f0 d0 P_sums_of_columns (spP K S_sums_of_columns) := ok_sums_of_columns E_sums_of_columns A_ T xs
  obtain ⟨f1, d1, E_check_size⟩ := A_.h_check_size
  have G_check_size : FnOk P w K mg base (CXR P w) 1 f1 d1 P_check_size (spX K (S_check_size c)) := ok_check_size E_check_size A_ T xs
  obtain ⟨f2, d2, E_Tally_init⟩ := A_.h_Tally_init
  have G_Tally_init : FnOk P w K mg base CX0 3 f2 d2 P_Tally_init (spN K c.Tally (S_Tally_init c)) := ok_Tally_init E_Tally_init A_ T xs
  obtain ⟨f3, d3, E_sums_of_rows⟩ := A_.h_sums_of_rows
  have G_sums_of_rows : FnOk P w K mg base CX0 1 f3 d3 P_sums_of_rows (spP K S_sums_of_rows) := ok_sums_of_rows E_sums_of_rows A_ T xs
  obtain ⟨f4, d4, E_less_row⟩ := A_.h_less_row
  have G_less_row : FnOk P w K mg base CX0 1 f4 d4 P_less_row (spP K S_less_row) := ok_less_row E_less_row A_ T xs
  obtain ⟨f5, d5, E_Tally_ahead⟩ := A_.h_Tally_ahead
  have G_Tally_ahead : FnOk P w K mg base CX0 10 f5 d5 P_Tally_ahead (spP K (S_Tally_ahead c)) := ok_Tally_ahead E_Tally_ahead A_ T xs
  refine F.fn.okX sc_number_of (fun vs H Q E h => spX_len len_number_of h) (fun cdv A outer s H vs Q E hr h => ?_)
  refine ⟨_, (pss_cons (PS.nox (ps_set (i := 1) sc_number_of.nd rfl (by first | exact Or.inl rfl | exact Or.inr rfl) (pe_call G_sums_of_columns (hr.mono (by decide)) rfl E_sums_of_columns.mg E_sums_of_columns.fn.kp E_sums_of_columns.bd .nil pass0 (pa_cons (pv 0) pa_nil))))
      (pss_cons (ps_expr (pe_call G_check_size (hr.mono (by decide)) rfl E_check_size.mg E_check_size.fn.kp E_check_size.bd .nil pass_x (PA.nox (pa_cons (pv 0) (pa_cons (pv 1) pa_nil)))))
      (PSs.nox (pss_cons (ps_set (i := 2) sc_number_of.nd rfl (by first | exact Or.inl rfl | exact Or.inr rfl) (pe_make E_Tally_init.mkk G_Tally_init (hr.mono (by decide)) rfl E_Tally_init.mg E_Tally_init.bd .nil pass0 (pa_cons (pe_call G_sums_of_rows (hr.mono (by decide)) rfl E_sums_of_rows.mg E_sums_of_rows.fn.kp E_sums_of_rows.bd .nil pass0 (pa_cons (pv 0) pa_nil)) (pa_cons (pe_callB (call_lenK (K := K) rfl) (by rfl) T.len_ PySem.boot_len (pa_cons (pv 1) pa_nil)) pa_nil))))
      (pss_cons (ps_set (i := 3) sc_number_of.nd rfl (by first | exact Or.inl rfl | exact Or.inr rfl) pe_int)
      (pss_cons (ps_for PassesOwn.never rfl (pi_range1 rfl T.range_ (pa_cons (pe_callB (call_lenK (K := K) rfl) (by rfl) T.len_ PySem.boot_len (pa_cons (pv 0) pa_nil)) pa_nil)) (pg_name (i := 4) sc_number_of.nd rfl (by first | exact Or.inl rfl | exact Or.inr rfl)) (pss_cons (ps_set (i := 3) sc_number_of.nd rfl (by first | exact Or.inl rfl | exact Or.inr rfl) (pe_op op_add (pv 3) (pe_meth (pv 2) xs.i_Tally.cl E_Tally_ahead.mt G_Tally_ahead (hr.mono (by decide)) E_Tally_ahead.bd .nil pass0 (pa_cons (pv 4) (pa_cons (pv 1) (pa_cons (pe_ix (ix_listK (K := K) rfl) (pv 0) (pv 4) (fun _ _ => rfl)) pa_nil))))))
      (pss_one (ps_set (i := 1) sc_number_of.nd rfl (by first | exact Or.inl rfl | exact Or.inr rfl) (pe_call G_less_row (hr.mono (by decide)) rfl E_less_row.mg E_less_row.fn.kp E_less_row.bd .nil pass0 (pa_cons (pv 1) (pa_cons (pe_ix (ix_listK (K := K) rfl) (pv 0) (pv 4) (fun _ _ => rfl)) pa_nil)))))))
      (pss_one (ps_ret (pv 3))))))))), fn_valX (Γn := [3]) (N := N_number_of) (fun R => (sx_seq (ST.sx (ST.post (Γn := []) (st_setS 1 (EM.es (em_call (S := S_sums_of_columns) mono_sums_of_columns (ar_cons (ES.er (es_var 0)) ar_nil))))))
      (sx_seq (sx_drop mono_check_size (ar_cons (ES.er (es_var 0)) (ar_cons (ES.er (es_var 1)) ar_nil)))
      (ST.sx (st_seq (ST.post (Γn := []) (st_setS 2 (EM.es (em_make mono_Tally_init ins_Tally_init (ar_cons (EM.er (em_call (S := S_sums_of_rows) mono_sums_of_rows (ar_cons (ES.er (es_var 0)) ar_nil))) (ar_cons (EM.er (em_cb c_len (ar_cons (ES.er (es_var 1)) ar_nil))) ar_nil))))))
      (st_seq (ST.post (Γn := [3]) (st_setM (M := []) 3 em_int))
      (st_seq (st_for (it_rng1 (ar_cons (EM.er (em_cb c_len (ar_cons (ES.er (es_var 0)) ar_nil))) ar_nil)) (gt_name 4) (st_seq (ST.post (Γn := [3]) (st_setM (M := []) 3 (em_op o_int (er_var 3) (EM.er (em_meth (C := c.Tally) ["choices", "known"] mono_Tally_ahead (ES.er (es_var 2)) (ar_cons (ES.er (es_var 4)) (ar_cons (ES.er (es_var 1)) (ar_cons (ES.er (es_ixL (es_var 0) (ES.er (es_var 4)))) ar_nil))))))))
      (ST.post (Γn := [3]) (st_setS 1 (EM.es (em_call (S := S_less_row) mono_less_row (ar_cons (ES.er (es_var 1)) (ar_cons (ES.er (es_ixL (es_var 0) (ES.er (es_var 4)))) ar_nil))))))))
      (st_ret (M := [3]) (em_var 3))))))))) (fun ds P R hS => ?_) h⟩
  obtain ⟨t, n, m, rfl, hR, n1, n8, m1, m8, hO, hP, hX⟩ := hS
  rw [show startD N_number_of [dT t] = [some (dT t), none, none, none, none] from rfl]
  have ht := hR.1
  walk_at "go"
  refine ⟨t, n, m, rfl, hR, n1, by omega, by omega, ?_⟩
  rw [cols_eq]
  walk_at "go"
  have lc : (Tal.cols m t).length = m := Tal.cols_len
  refine ⟨_, _, rfl, fun hh => ?_, fun hh => hX (by simpa [lc, ht] using hh)⟩
  have hh : n ≤ 5 ∧ m ≤ 5 := by simpa [lc, ht] using hh
  walk_at "go"
  refine ⟨t, rfl, by omega, ?_⟩
  rw [lc]
  have lr : (t.map List.sum).length = n := by rw [List.length_map]; exact ht
  refine ⟨t.map List.sum, m, rfl, hh.2, by omega, ?_⟩
  walk_at "go"
  rw [ht]
  refine loop_rng (lo := 0) (n := n) (fun i δ => ∃ (x : Int) (o4 : Option D), δ = [some (dT t), some (dI (Tal.cols m (t.drop i))), some (tly c (t.map List.sum) m), some (.int x), o4] ∧ x + Tal.N ((t.map List.sum).drop i) (Tal.cols m (t.drop i)) (t.drop i) = Tal.N (t.map List.sum) (Tal.cols m t) t) ⟨0, none, rfl, by rw [List.drop_zero, List.drop_zero, Int.zero_add]⟩ ?_ ?_
  · rintro i δ N hi ⟨x, o4, rfl, hx⟩ hN
    have hi2 : i < (t.map List.sum).length := by omega
    have hit : i < t.length := by omega
    have er : rowAt t i = t[i] := by show t.getD i [] = _; rw [List.getD_eq_getElem?_getD, List.getElem?_eq_getElem hit]; rfl
    have lri : (rowAt t i).length = m := hR.row (by omega)
    walk_at "go"
    rw [Int.zero_add]
    refine ⟨⟨rfl, rfl⟩, asO_rows (by omega) ?_⟩
    rw [Int.toNat_natCast]
    refine ⟨t.map List.sum, _, i, m, _, rowAt t i, hi2, rfl, chs_own, Tal.cols_len, lri, m1, hh.2, by omega, ?_⟩
    walk_at "go"
    refine asO_rows (by omega) ?_
    rw [Int.toNat_natCast]
    refine ⟨_, rowAt t i, rfl, by rw [Tal.cols_len, lri], by rw [Tal.cols_len]; omega, ?_⟩
    rw [Tal.sub_rng (by rw [Tal.cols_len, lri])]
    have ed : t.drop i = rowAt t i :: t.drop (i + 1) := by rw [er]; exact List.drop_eq_getElem_cons hit
    have es : Tal.sub (Tal.cols m (t.drop i)) (rowAt t i) = Tal.cols m (t.drop (i + 1)) := by rw [ed]; exact Tal.cols_sub lri
    rw [es]
    refine hN _ ⟨_, _, rfl, ?_⟩
    rw [← hx]
    have en : Tal.N ((t.map List.sum).drop i) (Tal.cols m (t.drop i)) (t.drop i) = Tal.A (t.map List.sum)[i] ((t.map List.sum).drop (i + 1)) (Tal.cols m (t.drop i)) (rowAt t i) + Tal.N ((t.map List.sum).drop (i + 1)) (Tal.cols m (t.drop (i + 1))) (t.drop (i + 1)) := by
      rw [List.drop_eq_getElem_cons hi2, ← es]
      conv => lhs; rw [ed]
      rw [Tal.N, ← ed]
    rw [en]
    omega
  · rintro δ ⟨x, o4, rfl, hx⟩
    walk_at "go"
    rw [List.drop_of_length_le (by omega), List.drop_of_length_le (by omega)] at hx
    have z : Tal.N [] (Tal.cols m []) [] = 0 := rfl
    rw [z, Int.add_zero] at hx
    rw [hx]
    exact hP hh
theorem strip_rows {t : List (List Int)} : L3.D.strips (t.map dI) = t.map dI := by
  rw [strips_map, List.map_map]
  exact List.map_congr_left fun r _ => strip_dI
theorem strip_dT {t : List (List Int)} : (dT t).strip = dT t := by rw [L3.D.strip, strip_rows]
theorem strip_tlyD {c : Cs} {rows : List Int} {chs : List D} : (tlyD c rows chs).strip = tlyD c rows (L3.D.strips chs) := by
  unfold tlyD
  rw [L3.D.strip, L3.D.strips, L3.D.strips, L3.D.strips, L3.D.strip, L3.D.strip]
theorem strip_chs {rows : List Int} {w : Nat} : L3.D.strips (chsOf rows w) = chsOf rows w := by
  unfold chsOf
  rw [strips_map, List.map_map]
  exact List.map_congr_left fun r _ => strip_dT
theorem strip_tly {c : Cs} {rows : List Int} {w : Nat} : (tly c rows w).strip = tly c rows w := by
  unfold tly
  rw [strip_tlyD, strip_chs]
theorem pinL_strip {t : List (List Int)} {ds : List D} (h : PinL t ds) : L3.D.strips ds = t.map dI := by
  rw [strips_map]
  refine List.ext_getElem? fun m => ?_
  rw [List.getElem?_map, List.getElem?_map]
  cases e : t[m]? with
  | none =>
    have : ds[m]? = none := by
      rw [List.getElem?_eq_none_iff] at e ⊢
      rw [h.1]; exact e
    rw [this]; rfl
  | some r =>
    obtain ⟨a, ha⟩ := h.2 m r e
    rw [ha]
    show some (L3.D.strip (.pin a (dI r))) = some (dI r)
    rw [L3.D.strip, strip_dI]
def PinF (i : Nat) (rows : List Int) (w : Nat) (chs : List D) : Prop := chs.length = rows.length ∧ ∀ k, i ≤ k → k < rows.length → ∃ ds : List D, chs[k]? = some (L3.D.lst ds) ∧ PinL (Tal.linesW (rows.getD k 0) w) ds
theorem PinF.chs {i w : Nat} {rows : List Int} {chs : List D} (h : PinF i rows w chs) : Chs i rows w (L3.D.strips chs) := by
  refine ⟨by rw [strips_map, List.length_map]; exact h.1, fun k h1 h2 => ?_⟩
  obtain ⟨ds, e, hp⟩ := h.2 k h1 h2
  rw [strips_map, List.getElem?_map, e]
  show some (L3.D.strip (.lst ds)) = _
  rw [L3.D.strip, pinL_strip hp]
theorem PinF.cut {i w : Nat} {rows : List Int} {chs : List D} {v : V} (h : PinF i rows w chs) : PinF (i + 1) rows w (chs.set i (.raw v)) := by
  refine ⟨by rw [List.length_set]; exact h.1, fun k h1 h2 => ?_⟩
  rw [List.getElem?_set_ne (by omega)]
  exact h.2 k (by omega) h2
theorem PinF.of {rows : List Int} {w : Nat} {chs : List D} (h : PinC (rows.map fun r => Tal.linesW r w) chs) : PinF 0 rows w chs := by
  refine ⟨by rw [h.1, List.length_map], fun k _ h2 => ?_⟩
  exact h.2 k _ (by rw [List.getElem?_map, List.getElem?_eq_getElem h2, getD_at h2]; rfl)
def toL : D → List Int
  | .pin _ (.lst ds) => ds.map fun z => match z with | .int i => i | _ => 0
  | _ => []
theorem toL_pin {a : Addr} {r : List Int} : toL (.pin a (dI r)) = r := by
  show (r.map L3.D.int).map _ = r
  rw [List.map_map]; exact List.map_id r
theorem pin_filter {q : List Int → Bool} : ∀ {t : List (List Int)} {ds : List D} {pre : List (List Int)} {x : List Int}, PinL t ds → t.filter q = pre ++ [x] → ∃ (pre' : List D) (a : Addr) (m : Nat), ds.filter (fun d => q (toL d)) = pre' ++ [L3.D.pin a (dI x)] ∧ ds[m]? = some (L3.D.pin a (dI x))
  | [], ds, pre, x, h, e => by simp at e
  | r :: t, [], pre, x, h, e => by have := h.1; simp at this
  | r :: t, d :: ds, pre, x, h, e => by
    obtain ⟨a, ha⟩ := h.2 0 r rfl
    have ha : d = .pin a (dI r) := by simpa using ha
    subst ha
    have h' : PinL t ds := ⟨by have := h.1; simpa using this, fun m r' e' => h.2 (m + 1) r' e'⟩
    rw [List.filter_cons] at e ⊢
    rw [toL_pin]
    by_cases hq : q r = true
    · rw [if_pos hq] at e ⊢
      cases pre with
      | nil =>
        have e2 : r = x ∧ t.filter q = [] := by simpa using e
        obtain ⟨rfl, e3⟩ := e2
        refine ⟨[], a, 0, ?_, rfl⟩
        have : ds.filter (fun d => q (toL d)) = [] := by
          rw [List.filter_eq_nil_iff] at e3 ⊢
          intro d hd
          obtain ⟨m, hm, rfl⟩ := List.getElem_of_mem hd
          have hmt : m < t.length := by rw [← h'.1]; exact hm
          obtain ⟨b, hb⟩ := h'.2 m t[m] (List.getElem?_eq_getElem hmt)
          rw [List.getElem?_eq_getElem hm] at hb
          rw [Option.some.inj hb, toL_pin]
          exact e3 _ (List.getElem_mem hmt)
        rw [this]; rfl
      | cons p pre =>
        have e2 : r = p ∧ t.filter q = pre ++ [x] := by simpa using e
        obtain ⟨pre', b, m, h1, h2⟩ := pin_filter h' e2.2
        exact ⟨.pin a (dI r) :: pre', b, m + 1, by rw [h1]; rfl, by simpa using h2⟩
    · rw [if_neg hq] at e ⊢
      obtain ⟨pre', b, m, h1, h2⟩ := pin_filter h' e
      exact ⟨pre', b, m + 1, h1, by simpa using h2⟩
def S_ones_at (c : Cs) : DSX := fun ds P R => ∃ (rows cols : List Int) (d : D), ds = [dI rows, dI cols, d] ∧ kn d = true ∧ rows.length ≤ 5 ∧ 1 ≤ cols.length ∧ cols.length ≤ 5 ∧ (∀ n : Int, d = .int n → 0 ≤ n → n < Tal.W rows cols → ∀ T, Tal.Ok rows cols T → Tal.N rows cols T = n → P (dT T)) ∧ ((∀ n : Int, d = .int n → ¬ (0 ≤ n ∧ n < Tal.W rows cols)) → R c.NoNumber)
theorem mono_ones_at {c : Cs} : DMonoX (S_ones_at c) := by
  intro xs P P' R R' k kr h
  obtain ⟨a, b, d, e, h0, h1, h2, h3, h4, h5⟩ := h
  exact ⟨a, b, d, e, h0, h1, h2, h3, fun n q1 q2 q3 T q4 q5 => k _ (h4 n q1 q2 q3 T q4 q5), fun z => kr _ (h5 z)⟩
theorem len_ones_at {c : Cs} : ∀ ds P R, S_ones_at c ds P R → ds.length = 3 := by
  intro ds P R h
  obtain ⟨a, b, d, e, _⟩ := h
  rw [e]; rfl
theorem ok_ones_at {c : Cs} {f : Addr} {fd : FuncData} (F : FnAt K mg "ones_at" s_ones_at P_ones_at f fd) (A_ : Fns K mg c) (T : Txt K mg) (xs : Exs K mg base c) : FnOk P w K mg base (CXR P w) 11 f fd P_ones_at (spX K (S_ones_at c)) := by
  obtain ⟨f0, d0, E_check_size⟩ := A_.h_check_size
  have G_check_size : FnOk P w K mg base (CXR P w) 1 f0 d0 P_check_size (spX K (S_check_size c)) := ok_check_size E_check_size A_ T xs
  obtain ⟨f1, d1, E_Tally_init⟩ := A_.h_Tally_init
  have G_Tally_init : FnOk P w K mg base CX0 3 f1 d1 P_Tally_init (spN K c.Tally (S_Tally_init c)) := ok_Tally_init E_Tally_init A_ T xs
  obtain ⟨f2, d2, E_less_row⟩ := A_.h_less_row
  have G_less_row : FnOk P w K mg base CX0 1 f2 d2 P_less_row (spP K S_less_row) := ok_less_row E_less_row A_ T xs
  obtain ⟨f3, d3, E_is_number⟩ := A_.h_is_number
  have G_is_number : FnOk P w K mg base CX0 1 f3 d3 P_is_number (spP K S_is_number) := ok_is_number E_is_number A_ T xs
  obtain ⟨f4, d4, E_Tally_ahead⟩ := A_.h_Tally_ahead
  have G_Tally_ahead : FnOk P w K mg base CX0 10 f4 d4 P_Tally_ahead (spP K (S_Tally_ahead c)) := ok_Tally_ahead E_Tally_ahead A_ T xs
  obtain ⟨f5, d5, E_Tally_ways⟩ := A_.h_Tally_ways
  have G_Tally_ways : FnOk P w K mg base CX0 9 f5 d5 P_Tally_ways (spP K (S_Tally_ways c 7)) := ok_Tally_ways E_Tally_ways A_ T xs
  refine F.fn.okX sc_ones_at (fun vs H Q E h => spX_len len_ones_at h) (fun cdv A outer s H vs Q E hr h => ?_)
  refine ⟨_, (pss_cons (ps_expr (pe_call G_check_size (hr.mono (by decide)) rfl E_check_size.mg E_check_size.fn.kp E_check_size.bd .nil pass_x (PA.nox (pa_cons (pv 0) (pa_cons (pv 1) pa_nil)))))
      (pss_cons (PS.nox (ps_set (i := 3) sc_ones_at.nd rfl (by first | exact Or.inl rfl | exact Or.inr rfl) (pe_make E_Tally_init.mkk G_Tally_init (hr.mono (by decide)) rfl E_Tally_init.mg E_Tally_init.bd .nil pass0 (pa_cons (pv 0) (pa_cons (pe_callB (call_lenK (K := K) rfl) (by rfl) T.len_ PySem.boot_len (pa_cons (pv 1) pa_nil)) pa_nil)))))
      (pss_cons (ps_if (PT.nox (PW.pt (pw_or (pt_not (pt_val (pe_call G_is_number (hr.mono (by decide)) rfl E_is_number.mg E_is_number.fn.kp E_is_number.bd .nil pass0 (pa_cons (pv 2) pa_nil)))) (pw_or1 (pt_not (pt_chain op_le op_lt pe_int (pv 2) (pe_meth (pv 3) xs.i_Tally.cl E_Tally_ways.mt G_Tally_ways (hr.mono (by decide)) E_Tally_ways.bd .nil pass0 (pa_cons pe_int (pa_cons (pv 1) pa_nil))))))))) (pss_one (ps_raise (xs.o_NoNumber.own xs.m_NoNumber) PySem.F.excBase_ValueError rfl rfl raise_x (pa_cons pe_str pa_nil))) pss_nil)
      (PSs.nox (pss_cons (ps_set (i := 4) sc_ones_at.nd rfl (by first | exact Or.inl rfl | exact Or.inr rfl) (pv 1))
      (pss_cons (ps_set (i := 5) sc_ones_at.nd rfl (by first | exact Or.inl rfl | exact Or.inr rfl) (pe_lst pa_nil))
      (pss_cons (ps_for PassesOwn.never rfl (pi_range1 rfl T.range_ (pa_cons (pe_callB (call_lenK (K := K) rfl) (by rfl) T.len_ PySem.boot_len (pa_cons (pv 0) pa_nil)) pa_nil)) (pg_name (i := 6) sc_ones_at.nd rfl (by first | exact Or.inl rfl | exact Or.inr rfl)) (pss_cons (ps_set (i := 7) sc_ones_at.nd rfl (by first | exact Or.inl rfl | exact Or.inr rfl) (pe_ix (ix_listK (K := K) rfl) (pe_comp rfl (CompScope.of (sc0 := (defScope s_ones_at)) (tn := ["choice"]) (cap := ["number", "tally", "left", "done"]) (idx := [2, 3, 4, 6]) (by decide +kernel) rfl rfl) (pi_listK (K := K) rfl (pe_ix (ix_listK (K := K) rfl) (pe_fldK (K := K) rfl (pv 3) rfl) (pv 6) (fun _ _ => rfl))) (GSet.name (by decide)) (fun _ _ _ _ _ => pg_name (i := 0) (nodupB_iff (l := ["choice", "number", "tally", "left", "done"]) (by decide +kernel)) rfl (by first | exact Or.inl rfl | exact Or.inr rfl) (by first | exact .inl rfl | exact .inr rfl)) (fun _ _ _ _ _ => pts_one (pt_cmpR op_le (pe_meth (pv 2) xs.i_Tally.cl E_Tally_ahead.mt G_Tally_ahead (hr.mono (by decide)) E_Tally_ahead.bd .nil pass0 (pa_cons (pv 4) (pa_cons (pv 3) (pa_cons (pv 0) pa_nil)))) (pv 1) (nomark _))) (fun _ _ _ _ _ => (pv 0)) (by intro _; rfl)) (pe_un un_neg pe_int) (fun _ _ => rfl)))
      (pss_cons (ps_set (i := 2) sc_ones_at.nd rfl (by first | exact Or.inl rfl | exact Or.inr rfl) (pe_op op_sub (pv 2) (pe_meth (pv 3) xs.i_Tally.cl E_Tally_ahead.mt G_Tally_ahead (hr.mono (by decide)) E_Tally_ahead.bd .nil pass0 (pa_cons (pv 6) (pa_cons (pv 4) (pa_cons (pv 7) pa_nil))))))
      (pss_cons (ps_set (i := 4) sc_ones_at.nd rfl (by first | exact Or.inl rfl | exact Or.inr rfl) (pe_call G_less_row (hr.mono (by decide)) rfl E_less_row.mg E_less_row.fn.kp E_less_row.bd .nil pass0 (pa_cons (pv 4) (pa_cons (pv 7) pa_nil))))
      (pss_one (ps_expr (pe_bm PySem.F.plainAttrs_list PySem.F.slot_list_append PySem.F.type_list_append mt_append (pv 5) (pa_cons (pv 7) pa_nil))))))))
      (pss_one (ps_ret (pv 5)))))))))), fn_valX (Γn := [5, 3]) (N := N_ones_at) (fun R => (sx_seq (sx_drop mono_check_size (ar_cons (ES.er (es_var 0)) (ar_cons (ES.er (es_var 1)) ar_nil)))
      (sx_seq (ST.sx (ST.post (Γn := [3]) (st_setM (M := []) 3 (em_make mono_Tally_init ins_Tally_init (ar_cons (ES.er (es_var 0)) (ar_cons (EM.er (em_cb c_len (ar_cons (ES.er (es_var 1)) ar_nil))) ar_nil))))))
      (sx_seq (sx_if (tr_or (tr_not (tr_b (EM.er (em_call (S := S_is_number) mono_is_number (ar_cons (ES.er (es_var 2)) ar_nil))))) (tr_not (tr_test (EM.er (em_chain o_bl o_bl (EM.er em_int) (ES.er (es_var 2)) (EM.er (em_meth (C := c.Tally) ["choices", "known"] mono_Tally_ways (ER.strip (er_var 3)) (ar_cons (EM.er em_int) (ar_cons (ES.er (es_var 1)) ar_nil))))))))) (sx_raise (ar_cons (EM.er em_str) ar_nil)) (ST.sx st_next))
      (ST.sx (st_seq (ST.post (Γn := [3]) (st_setS 4 (es_var 1)))
      (st_seq (ST.post (Γn := [5, 3]) (st_setM (M := []) 5 (em_lst am_nil)))
      (st_seq (st_pinT 3 (st_for (it_rng1 (ar_cons (EM.er (em_cb c_len (ar_cons (ES.er (es_var 0)) ar_nil))) ar_nil)) (gt_name 6) (st_seq (ST.post (Γn := [5, 3]) (st_setS 7 (EM.es (ER.rawOf (er_ixL (er_comp (it_list (es_ixL (es_fld ["choices", "known"] 0 xs.i_Tally.cl xs.n_Tally_choices (es_var 3)) (ES.er (es_var 6)))) (gt_name 0) (tr_test (EM.er (em_op o_bl (EM.er (em_meth (C := c.Tally) ["choices", "known"] mono_Tally_ahead (ER.strip (ES.er (es_var 2))) (ar_cons (ES.er (es_var 4)) (ar_cons (ES.er (es_var 3)) (ar_cons (ER.strip (ES.er (es_var 0))) ar_nil))))) (ES.er (es_var 1))))) (ES.er (es_var 0))) (EM.er (em_un u_int (EM.er em_int))))))))
      (st_seq (ST.post (Γn := [5, 3]) (st_setS 2 (EM.es (em_op o_int (ES.er (es_var 2)) (EM.er (em_meth (C := c.Tally) ["choices", "known"] mono_Tally_ahead (ER.strip (er_var 3)) (ar_cons (ES.er (es_var 6)) (ar_cons (ES.er (es_var 4)) (ar_cons (er_via 7 3) ar_nil)))))))))
      (st_seq (ST.post (Γn := [5, 3]) (st_setS 4 (EM.es (em_call (S := S_less_row) mono_less_row (ar_cons (ES.er (es_var 4)) (ar_cons (er_via 7 3) ar_nil))))))
      (st_take 5 7 3))))))
      (st_ret (M := [5]) (em_var 5)))))))))) (fun ds P R hS => ?_) h⟩
  obtain ⟨rows, cols, d, rfl, hk, r5, c1, c5, hP, hR⟩ := hS
  rw [show startD N_ones_at [dI rows, dI cols, d] = [some (dI rows), some (dI cols), some (d), none, none, none, none, none] from rfl]
  walk_at "go"
  refine ⟨_, _, rfl, fun _ => ?_, fun hh => absurd (show (rows.map L3.D.int).length ≤ 5 ∧ (cols.map L3.D.int).length ≤ 5 from ⟨by rw [List.length_map]; exact r5, by rw [List.length_map]; exact c5⟩) hh⟩
  refine ⟨rows, cols.length, rfl, c5, by omega, ?_⟩
  dsimp only
  rw [strip_tly]
  refine ⟨d, rfl, hk, ?_⟩
  by_cases hn : ∃ n, d = .int n
  · obtain ⟨n, rfl⟩ := hn
    walk_at "go"
    by_cases h0 : 0 ≤ n
    · rw [if_pos h0]
      refine ⟨⟨rfl, rfl⟩, rows, _, 0, cols.length, cols, rfl, chs_own, rfl, c1, c5, r5, Nat.zero_le _, by omega, ?_⟩
      rw [List.drop_zero]
      walk_at "go"
      by_cases h1 : n < Tal.W rows cols
      · rw [if_neg (fun z => z h1)]
        refine ⟨by decide, c.Tally, [Str.ofString "choices", Str.ofString "known"], rows.map fun r => Tal.linesW r cols.length, [.mem (Phi rows)], ?_, fun chs hp => ?_⟩
        · show some (some (tly c rows cols.length)) = _
          unfold tly tlyD chsOf
          rw [List.map_map]; rfl
        have pf := PinF.of hp
        walk_at "go"
        refine loop_rng (lo := 0) (n := rows.length) (fun i δ => ∃ (m : Int) (left : List Int) (tbl : List (List Int)) (chs : List D) (o6 : Option D), δ = [some (dI rows), some (dI cols), some (.int m), some (tlyD c rows chs), some (dI left), some (dT tbl), o6, none] ∧ left.length = cols.length ∧ tbl.length = i ∧ PinF i rows cols.length chs ∧ 0 ≤ m ∧ m < Tal.W (rows.drop i) left ∧ ∀ T, Tal.Ok (rows.drop i) left T → Tal.N (rows.drop i) left T = m → Tal.Ok rows cols (tbl ++ T) ∧ Tal.N rows cols (tbl ++ T) = n) ⟨n, cols, [], chs, none, rfl, rfl, rfl, pf, h0, h1, fun T a b => ⟨a, b⟩⟩ ?_ ?_
        · rintro i δ N hi ⟨m, left, tbl, chs, o6, rfl, ll, lt, pf, m0, m1, hT⟩ hN
          obtain ⟨ds, ed, hp⟩ := pf.2 i (Nat.le_refl _) hi
          have ea : rows.drop i = rows.getD i 0 :: rows.drop (i + 1) := by rw [getD_at hi]; exact List.drop_eq_getElem_cons hi
          rw [ea] at m1 hT
          obtain ⟨pre, x, ex, hx, k1, k2⟩ := Tal.at_last m0 m1
          rw [ll] at ex hx
          obtain ⟨pre', a, mm, ef, em⟩ := pin_filter hp ex
          have lx : x.length = cols.length := (Tal.mem_lines (Tal.mem_linesW.mp hx).1).1
          have ld := hp.1
          have l5 := linesW5 (x := rows.getD i 0) c5
          have lc := pf.1
          walk_at "go"
          refine comp_any (as := ds) (f := fun d => d) (g := fun d => d) (p := fun d => decide (Tal.A (rows.getD i 0) (rows.drop (i + 1)) left (toL d) ≤ m)) (fun R h => ?_) (by omega) (fun d hd R h => ?_) ?_
          · unfold tlyD
            walk_at "go"
            rw [Int.zero_add]
            refine asO_idx (by omega) (by omega) ?_
            rw [Int.toNat_natCast, ed]
            rw [List.map_id'] at h
            exact h
          · obtain ⟨j, hj, rfl⟩ := List.getElem_of_mem hd
            have hjt : j < (Tal.linesW (rows.getD i 0) cols.length).length := by omega
            obtain ⟨b, hb⟩ := hp.2 j _ (List.getElem?_eq_getElem hjt)
            have hr := (Tal.mem_lines (Tal.mem_linesW.mp (List.getElem_mem hjt)).1).1
            generalize (Tal.linesW (rows.getD i 0) cols.length)[j] = r at hb hr
            rw [List.getElem?_eq_getElem hj] at hb
            rw [Option.some.inj hb] at h ⊢
            rw [toL_pin] at h
            walk_at "gb"
            rw [Int.zero_add, strip_tlyD]
            refine ⟨⟨rfl, rfl⟩, rows, L3.D.strips chs, i, cols.length, left, r, hi, ?_, pf.chs, ll, hr, c1, c5, r5, ?_⟩
            · rw [L3.D.strip, strip_dI]
            · rw [← getD_at hi]
              walk_at "gb"
              by_cases q : Tal.A (rows.getD i 0) (rows.drop (i + 1)) left r ≤ m
              · rw [if_pos q]
                rw [decide_eq_true q] at h
                exact h
              · rw [if_neg q]
                rw [decide_eq_false q] at h
                exact h
          · rw [List.map_id', ef]
            have al : atI (pre' ++ [L3.D.pin a (dI x)]) (-1) = some (L3.D.pin a (dI x)) := by
              unfold atI
              have : ixN (pre' ++ [L3.D.pin a (dI x)]).length (-1) = some pre'.length := by
                unfold ixN
                rw [List.length_append, List.length_singleton, if_neg (by omega), if_pos (by omega)]
                congr 1; omega
              rw [this]
              show (pre' ++ [L3.D.pin a (dI x)])[pre'.length]? = _
              rw [List.getElem?_append_right (Nat.le_refl _), Nat.sub_self]; rfl
            refine (asO_at al).mpr ⟨a, dI x, rfl, ?_⟩
            rw [Int.zero_add, strip_tlyD]
            refine ⟨⟨rfl, rfl⟩, ?_⟩
            have via : ∀ (e2 e4 : Option D) (P' : DK), P' (dI x) → vVia 7 3 [some (dI rows), some (dI cols), e2, some (tlyD c rows chs), e4, some (dT tbl), some (L3.D.int (i : Int)), some (L3.D.raw (V.ref a))] P' := fun e2 e4 P' z => ⟨a, c.Tally, _, chs, [.mem (Phi rows)], i, ds, mm, dI x, rfl, rfl, ed, em, z⟩
            refine via _ _ _ ?_
            refine ⟨rows, L3.D.strips chs, i, cols.length, left, x, hi, rfl, pf.chs, ll, lx, c1, c5, r5, ?_⟩
            rw [← getD_at hi]
            walk_at "go"
            refine via _ _ _ ?_
            refine ⟨left, x, rfl, by omega, by omega, ?_⟩
            rw [Tal.sub_rng (by omega)]
            refine ⟨tbl.map dI, c.Tally, _, chs, [.mem (Phi rows)], i, ds, mm, a, dI x, rfl, by rw [List.length_map]; omega, rfl, rfl, ed, em, fun w => ?_⟩
            refine hN _ ⟨m - Tal.A (rows.getD i 0) (rows.drop (i + 1)) left x, Tal.sub left x, tbl ++ [x], chs.set i (.raw w), some (.int (i : Int)), ?_, by rw [Tal.sub_len (by omega)]; exact ll, by rw [List.length_append, lt]; rfl, pf.cut, by omega, by omega, fun T q1 q2 => ?_⟩
            · rw [dT_app]; rfl
            · have q := hT (x :: T) ⟨by rw [ll]; exact hx, q1⟩ (by rw [Tal.N, q2]; omega)
              rw [List.append_assoc]
              exact q
        · rintro δ ⟨m, left, tbl, chs, o6, rfl, ll, lt, pf, m0, m1, hT⟩
          walk_at "go"
          rw [List.drop_of_length_le (Nat.le_refl _)] at m1 hT
          have hz : ∀ x ∈ left, x = 0 := by
            rw [Tal.W] at m1
            by_cases z : ∀ x ∈ left, x = 0
            · exact z
            · rw [if_neg z] at m1; omega
          rw [Tal.W, if_pos hz] at m1
          have q := hT [] hz (by show (0 : Int) = m; omega)
          rw [List.append_nil] at q
          exact hP n rfl h0 h1 tbl q.1 q.2
      · rw [if_pos h1]
        exact ⟨by decide, hR fun m e => by cases e; exact fun z => h1 z.2⟩
    · rw [if_neg h0]
      exact ⟨by decide, hR fun m e => by cases e; exact fun z => h0 z.1⟩
  · have hb : isNum d = false := by
      cases d with
      | int n => exact absurd ⟨n, rfl⟩ hn
      | _ => rfl
    rw [hb]
    walk_at "go"
    exact hR fun m e => absurd ⟨m, e⟩ hn
theorem band_n {a b : Nat} : Builtin.bitAnd (a : Int) (b : Int) = ((a &&& b : Nat) : Int) := by
  unfold Builtin.bitAnd
  rw [decide_eq_true (show (0 : Int) ≤ a by omega), decide_eq_true (show (0 : Int) ≤ b by omega)]
  simp
theorem bor_n {a b : Nat} : Builtin.bitOr (a : Int) (b : Int) = ((a ||| b : Nat) : Int) := by
  unfold Builtin.bitOr Builtin.bitAnd Builtin.bitNot
  rw [decide_eq_false (show ¬ (0 : Int) ≤ -(a : Int) - 1 by omega), decide_eq_false (show ¬ (0 : Int) ≤ -(b : Int) - 1 by omega)]
  simp only
  rw [show (-(-(a : Int) - 1) - 1).toNat = a by omega, show (-(-(b : Int) - 1) - 1).toNat = b by omega]
  omega
theorem bxor_bd {x y : Int} {k : Nat} (hx : 0 ≤ x ∧ x < 2 ^ k) (hy : 0 ≤ y ∧ y < 2 ^ k) : 0 ≤ Builtin.bitXor x y ∧ Builtin.bitXor x y < 2 ^ k := by
  obtain ⟨a, rfl⟩ : ∃ a : Nat, x = a := ⟨x.toNat, by omega⟩
  obtain ⟨b, rfl⟩ : ∃ b : Nat, y = b := ⟨y.toNat, by omega⟩
  have ha : a < 2 ^ k := by have := hx.2; exact_mod_cast this
  have hb : b < 2 ^ k := by have := hy.2; exact_mod_cast this
  unfold Builtin.bitXor
  rw [bor_n, band_n]
  have h1 : a &&& b ≤ a := Nat.and_le_left
  have h2 : a ≤ a ||| b := Nat.left_le_or
  have h3 : a ||| b < 2 ^ k := Nat.or_lt_two_pow ha hb
  have h4 : ((a ||| b : Nat) : Int) < 2 ^ k := by exact_mod_cast h3
  omega
theorem band_bd {x : Int} {m : Nat} (hx : 0 ≤ x) : 0 ≤ Builtin.bitAnd x (m : Int) ∧ Builtin.bitAnd x (m : Int) ≤ m := by
  obtain ⟨a, rfl⟩ : ∃ a : Nat, x = a := ⟨x.toNat, by omega⟩
  rw [band_n]
  have : a &&& m ≤ m := Nat.and_le_right
  omega
def S_law_fold : DSp := fun ds P => ∃ (ns : List Int) (x : Int), ds = [.scr ns, .int x] ∧ 0 ≤ x ∧ x < 2 ^ 64 ∧ ∀ y : Int, 0 ≤ y → y < 2 ^ 64 → P (.int y)
theorem mono_law_fold : DMono S_law_fold := by
  intro xs P P' k h
  unfold S_law_fold at h ⊢
  grind
theorem len_law_fold : ∀ ds P, S_law_fold ds P → ds.length = 2 := by
  intro ds P h
  obtain ⟨_, _, e, _⟩ := h
  rw [e]; rfl
theorem ok_law_fold {c : Cs} {f : Addr} {fd : FuncData} (F : FnAt K mg "_law_fold" s_law_fold P_law_fold f fd) (A_ : Fns K mg c) (T : Txt K mg) (xs : Exs K mg base c) : FnOk P w K mg base CX0 1 f fd P_law_fold (spP K S_law_fold) := by
  refine F.fn.ok sc_law_fold (fun vs H Q E h => spP_len len_law_fold h) (fun cdv A outer s H vs Q E hr h => ?_)
  refine ⟨_, (pss_cons (ps_for PassesOwn.never rfl (pi_listK (K := K) rfl (pv 0)) (pg_name (i := 2) sc_law_fold.nd rfl (by first | exact Or.inl rfl | exact Or.inr rfl)) (pss_cons (ps_set (i := 1) sc_law_fold.nd rfl (by first | exact Or.inl rfl | exact Or.inr rfl) (pe_op op_mod (pe_op op_mulB (pe_op op_xor (pv 1) (pe_op op_mod (pv 2) (pe_op op_pow pe_int pe_int))) pe_int) (pe_op op_pow pe_int pe_int)))
      (pss_one (ps_set (i := 1) sc_law_fold.nd rfl (by first | exact Or.inl rfl | exact Or.inr rfl) (pe_op op_xor (pv 1) (pe_op op_fdivB (pv 1) (pe_op op_pow pe_int pe_int)))))))
      (pss_one (ps_ret (pv 1)))), fn_val (Γn := []) (N := N_law_fold) (st_seq (st_for (it_list (es_var 0)) (gt_name 2) (st_seq (ST.post (Γn := []) (st_setS 1 (EM.es (em_op o_intC (EM.er (em_op o_intC (EM.er (em_op o_int (ES.er (es_var 1)) (EM.er (em_op o_intC (ES.er (es_var 2)) (EM.er (em_op o_intC (EM.er em_int) (EM.er em_int))))))) (EM.er em_int))) (EM.er (em_op o_intC (EM.er em_int) (EM.er em_int)))))))
      (ST.post (Γn := []) (st_setS 1 (EM.es (em_op o_int (ES.er (es_var 1)) (EM.er (em_op o_intC (ES.er (es_var 1)) (EM.er (em_op o_intC (EM.er em_int) (EM.er em_int)))))))))))
      (st_ret (M := []) (ER.scal (ES.er (es_var 1))))) (fun ds P hS => ?_) h⟩
  obtain ⟨ns, x, rfl, h0, h1, hP⟩ := hS
  rw [show startD N_law_fold [.scr ns, .int x] = [some (.scr ns), some (.int x), none] from rfl]
  walk_at "v"
  refine loop_any (as := ns) (f := L3.D.int) (fun i δ => ∃ (y : Int) (o : Option D), δ = [some (.scr ns), some (.int y), o] ∧ 0 ≤ y ∧ y < 2 ^ 64) ⟨x, none, rfl, h0, h1⟩ ?_ ?_
  · rintro i a δ N e ⟨y, o, rfl, h0, h1⟩ hN
    have ha := emod_lt (x := a) (n := 18446744073709551616) (by decide)
    have hb := bxor_bd (k := 64) ⟨h0, h1⟩ (show 0 ≤ a % 18446744073709551616 ∧ a % 18446744073709551616 < 2 ^ 64 from ⟨ha.1, by have := ha.2; omega⟩)
    walk_at "go"
    have hc := emod_lt (x := Builtin.bitXor y (a % 18446744073709551616) * 3935559000370003845) (n := 18446744073709551616) (by decide)
    generalize Builtin.bitXor y (a % 18446744073709551616) * 3935559000370003845 % 18446744073709551616 = z at *
    have hd : 0 ≤ z / 2147483648 ∧ z / 2147483648 < 2 ^ 64 := by omega
    have he := bxor_bd (k := 64) (show 0 ≤ z ∧ z < 2 ^ 64 from ⟨hc.1, by have := hc.2; omega⟩) hd
    exact hN _ ⟨_, _, rfl, he.1, he.2⟩
  · rintro δ ⟨y, o, rfl, h0, h1⟩
    walk_at "v"
    exact hP y h0 h1
def OnesT (t : List (List Int)) : Prop := ∀ r ∈ t, ∀ v ∈ r, 0 ≤ v ∧ v ≤ 1
def S_law_ones : DSp := fun ds P => ∃ x y : Int, ds = [.int x, .int y] ∧ 0 ≤ x ∧ x < 2 ^ 64 ∧ 4 ≤ y ∧ y ≤ 5 ∧ ∀ (t : List (List Int)) (n m : Nat), Rect n m t → 1 ≤ n → n ≤ 5 → 1 ≤ m → m ≤ 5 → OnesT t → P (dT t)
theorem mono_law_ones : DMono S_law_ones := by
  intro xs P P' k h
  obtain ⟨x, y, e, h0, h1, h2, h3, h⟩ := h
  exact ⟨x, y, e, h0, h1, h2, h3, fun t n m a b c d f g => k _ (h t n m a b c d f g)⟩
theorem len_law_ones : ∀ ds P, S_law_ones ds P → ds.length = 2 := by
  intro ds P h
  obtain ⟨_, _, e, _⟩ := h
  rw [e]; rfl
theorem ok_law_ones {c : Cs} {f : Addr} {fd : FuncData} (F : FnAt K mg "_law_ones" s_law_ones P_law_ones f fd) (A_ : Fns K mg c) (T : Txt K mg) (xs : Exs K mg base c) : FnOk P w K mg base CX0 1 f fd P_law_ones (spP K S_law_ones) := by
  refine F.fn.ok sc_law_ones (fun vs H Q E h => spP_len len_law_ones h) (fun cdv A outer s H vs Q E hr h => ?_)
  refine ⟨_, (pss_cons (ps_set (i := 2) sc_law_ones.nd rfl (by first | exact Or.inl rfl | exact Or.inr rfl) (pe_op op_add pe_int (pe_op op_mod (pv 0) (pv 1))))
      (pss_cons (ps_set (i := 3) sc_law_ones.nd rfl (by first | exact Or.inl rfl | exact Or.inr rfl) (pe_op op_add pe_int (pe_op op_mod (pe_op op_fdivB (pv 0) (pv 1)) (pv 1))))
      (pss_one (ps_ret (pe_comp0 (CompScope.of (sc0 := (defScope s_law_ones)) (tn := ["_law_row"]) (cap := ["_law_number", "_law_wide"]) (idx := [0, 3]) (by decide +kernel) rfl rfl) (pi_range1 rfl T.range_ (pa_cons (pv 2) pa_nil)) (GSet.name (by decide)) (fun _ _ _ _ _ => pg_name (i := 0) (nodupB_iff (l := ["_law_row", "_law_number", "_law_wide"]) (by decide +kernel)) rfl (by first | exact Or.inl rfl | exact Or.inr rfl) (by first | exact .inl rfl | exact .inr rfl)) (fun _ _ _ _ _ => (pe_comp0 (CompScope.of (sc0 := (relabelS _ (defScope s_law_ones))) (tn := ["_law_column"]) (cap := ["_law_row", "_law_number"]) (idx := [0, 1]) (by decide +kernel) rfl rfl) (pi_range1 rfl T.range_ (pa_cons (pv 2) pa_nil)) (GSet.name (by decide)) (fun _ _ _ _ _ => pg_name (i := 0) (nodupB_iff (l := ["_law_column", "_law_row", "_law_number"]) (by decide +kernel)) rfl (by first | exact Or.inl rfl | exact Or.inr rfl) (by first | exact .inl rfl | exact .inr rfl)) (fun _ _ _ _ _ => (pe_op op_and (pe_op op_shr (pv 2) (pe_op op_add (pe_op op_add pe_int (pe_op op_mulB pe_int (pv 1))) (pv 0))) pe_int))))))))), fn_val (Γn := []) (N := N_law_ones) (st_seq (ST.post (Γn := []) (st_setS 2 (EM.es (em_op o_int (EM.er em_int) (EM.er (em_op o_intC (ES.er (es_var 0)) (ES.er (es_var 1))))))))
      (st_seq (ST.post (Γn := []) (st_setS 3 (EM.es (em_op o_int (EM.er em_int) (EM.er (em_op o_intC (EM.er (em_op o_intC (ES.er (es_var 0)) (ES.er (es_var 1)))) (ES.er (es_var 1))))))))
      (st_ret (M := []) (em_comp0 (it_rng1 (ar_cons (ES.er (es_var 2)) ar_nil)) (gt_name 0) (em_comp0 (it_rng1 (ar_cons (ES.er (es_var 2)) ar_nil)) (gt_name 0) (em_op o_int (EM.er (em_op o_intC (ES.er (es_var 2)) (EM.er (em_op o_int (EM.er (em_op o_int (EM.er em_int) (EM.er (em_op o_intC (EM.er em_int) (ES.er (es_var 1)))))) (ES.er (es_var 0)))))) (EM.er em_int))))))) (fun ds P hS => ?_) h⟩
  obtain ⟨x, y, rfl, h0, h1, y4, y5, hP⟩ := hS
  rw [show startD N_law_ones [.int x, .int y] = [some (.int x), some (.int y), none, none] from rfl]
  walk_at "go"
  have e1 := emod_lt (x := x) (n := y) (by omega)
  have e2 := emod_lt (x := x / y) (n := y) (by omega)
  have d0 : 0 ≤ x / y := Int.ediv_nonneg h0 (by omega)
  obtain ⟨n, en⟩ : ∃ n : Nat, (1 + x % y : Int) = n := ⟨(1 + x % y).toNat, by omega⟩
  obtain ⟨m, em⟩ : ∃ m : Nat, (1 + x / y % y : Int) = m := ⟨(1 + x / y % y).toNat, by omega⟩
  rw [en, em]
  refine comp_rng (lo := 0) (n := n) (g := fun r => dI ((List.range m).map fun (q : Nat) => Builtin.bitAnd (x / 2 ^ (16 + 5 * (0 + (r : Int)) + (0 + (q : Int))).toNat) 1)) (fun R h => ?_) (by omega) (fun r hr R h => ?_) ?_
  · walk_at "go"
    exact h
  · walk_at "gb"
    refine comp_rng (lo := 0) (n := m) (g := fun q => .int (Builtin.bitAnd (x / 2 ^ (16 + 5 * (0 + (r : Int)) + (0 + (q : Int))).toNat) 1)) (fun R h => ?_) (by omega) (fun q hq R h => ?_) ?_
    · walk_at "gb"
      exact h
    · walk_at "gb"
      exact h
    · rw [map_int]
      walk_at "gb"
      exact h
  · rw [show (List.range n).map (fun (r : Nat) => dI ((List.range m).map fun (q : Nat) => Builtin.bitAnd (x / 2 ^ (16 + 5 * (0 + (r : Int)) + (0 + (q : Int))).toNat) 1)) = ((List.range n).map fun (r : Nat) => (List.range m).map fun (q : Nat) => Builtin.bitAnd (x / 2 ^ (16 + 5 * (0 + (r : Int)) + (0 + (q : Int))).toNat) 1).map dI by rw [List.map_map]; rfl]
    refine hP _ n m ⟨by rw [List.length_map, List.length_range], fun r hr => ?_⟩ (by omega) (by omega) (by omega) (by omega) fun r hr v hv => ?_
    · obtain ⟨_, _, rfl⟩ := List.mem_map.mp hr
      rw [List.length_map, List.length_range]
    · obtain ⟨_, _, rfl⟩ := List.mem_map.mp hr
      obtain ⟨_, _, rfl⟩ := List.mem_map.mp hv
      exact band_bd (m := 1) (Int.ediv_nonneg h0 (Int.le_of_lt (Int.pow_pos (by decide))))
theorem setItem_last {i : Nat} {δ : Dl} {de dx : DE} {E : DEnds} {r : List Int} {v : Int} (hs : δ[i]? = some (some (dI r))) (hde : ∀ R : DK, R (.int v) → de δ R) (hdx : ∀ R : DK, R (.int (-1)) → dx δ R) (ha : 1 ≤ r.length) (h : E.nx (δ.set i (some (dI (r.set (r.length - 1) v))))) : vSetItem i de dx E δ := by
  unfold vSetItem
  refine hde _ ((slotL_s hs).mpr (hdx _ ?_))
  show match ixN (r.map L3.D.int).length (-1) with | some j => E.nx (δ.set i (some (.lst ((r.map L3.D.int).set j (.int v))))) | none => False
  have e : ixN (r.map L3.D.int).length (-1) = some (r.length - 1) := by
    rw [List.length_map]
    unfold ixN
    rw [if_neg (by omega), if_pos (by omega)]
    congr 1
    omega
  rw [e]
  show E.nx (δ.set i (some (.lst ((r.map L3.D.int).set (r.length - 1) (.int v)))))
  rw [set_dI]; exact h
def Good5 (B : Nat) (xs : List Int) : Prop := 1 ≤ xs.length ∧ xs.length ≤ 5 ∧ ∀ v ∈ xs, v.natAbs < B
theorem Good5.set {B C i : Nat} {xs : List Int} {v : Int} (h : Good5 B xs) (hv : v.natAbs < C) (hB : B ≤ C) : Good5 C (xs.set i v) := ⟨by rw [List.length_set]; exact h.1, by rw [List.length_set]; exact h.2.1, fun z hz => by
  rcases List.mem_or_eq_of_mem_set hz with q | q
  · exact Nat.lt_of_lt_of_le (h.2.2 z q) hB
  · rw [q]; exact hv⟩
theorem Good5.up {B C : Nat} {xs : List Int} (h : Good5 B xs) (hB : B ≤ C) : Good5 C xs := ⟨h.1, h.2.1, fun z hz => Nat.lt_of_lt_of_le (h.2.2 z hz) hB⟩
theorem Good5.get {B i : Nat} {xs : List Int} (h : Good5 B xs) (hB : 0 < B) : (xs.getD i 0).natAbs < B := by
  rw [List.getD_eq_getElem?_getD]
  cases e : xs[i]? with
  | none => exact hB
  | some z => exact h.2.2 z (List.mem_of_getElem? e)
def S_law_sums : DSp := fun ds P => ∃ x y : Int, ds = [.int x, .int y] ∧ 0 ≤ x ∧ x < 2 ^ 64 ∧ 4 ≤ y ∧ y ≤ 5 ∧ ∀ rows cols : List Int, 1 ≤ rows.length → rows.length ≤ 5 → 1 ≤ cols.length → cols.length ≤ 5 → (∀ v ∈ rows, v.natAbs < 2 ^ 62) → (∀ v ∈ cols, v.natAbs < 2 ^ 62) → P (.lst [dI rows, dI cols])
theorem mono_law_sums : DMono S_law_sums := by
  intro xs P P' k h
  obtain ⟨x, y, e, h0, h1, h2, h3, h⟩ := h
  exact ⟨x, y, e, h0, h1, h2, h3, fun r c a b d f g i => k _ (h r c a b d f g i)⟩
theorem len_law_sums : ∀ ds P, S_law_sums ds P → ds.length = 2 := by
  intro ds P h
  obtain ⟨_, _, e, _⟩ := h
  rw [e]; rfl
theorem ok_law_sums {c : Cs} {f : Addr} {fd : FuncData} (F : FnAt K mg "_law_sums" s_law_sums P_law_sums f fd) (A_ : Fns K mg c) (T : Txt K mg) (xs : Exs K mg base c) : FnOk P w K mg base CX0 2 f fd P_law_sums (spP K S_law_sums) := by
  obtain ⟨f0, d0, E_law_ones⟩ := A_.h_law_ones
  have G_law_ones : FnOk P w K mg base CX0 1 f0 d0 P_law_ones (spP K S_law_ones) := ok_law_ones E_law_ones A_ T xs
  refine F.fn.ok sc_law_sums (fun vs H Q E h => spP_len len_law_sums h) (fun cdv A outer s H vs Q E hr h => ?_)
  refine ⟨_, (pss_cons (ps_set (i := 2) sc_law_sums.nd rfl (by first | exact Or.inl rfl | exact Or.inr rfl) (pe_call G_law_ones (hr.mono (by decide)) rfl E_law_ones.mg E_law_ones.fn.kp E_law_ones.bd .nil pass0 (pa_cons (pv 0) (pa_cons (pv 1) pa_nil))))
      (pss_cons (ps_setC0 (i := 3) (CompScope.of (sc0 := (defScope s_law_sums)) (tn := ["_law_row"]) (cap := []) (idx := []) (by decide +kernel) rfl rfl) sc_law_sums.nd rfl (by first | exact Or.inl rfl | exact Or.inr rfl) (pi_listK (K := K) rfl (pv 2)) (GSet.name (by decide)) (fun _ _ _ _ _ => pg_name (i := 0) (nodupB_iff (l := ["_law_row"]) (by decide +kernel)) rfl (by first | exact Or.inl rfl | exact Or.inr rfl) (by first | exact .inl rfl | exact .inr rfl)) (fun _ _ _ _ _ => (pe_callB (call_sumK (K := K) rfl rfl) (by rfl) T.sum_ boot_sum (pa_cons (pv 0) pa_nil))))
      (pss_cons (ps_set (i := 4) sc_law_sums.nd rfl (by first | exact Or.inl rfl | exact Or.inr rfl) (pe_comp0 (CompScope.of (sc0 := (defScope s_law_sums)) (tn := ["_law_k"]) (cap := ["_law_table"]) (idx := [2]) (by decide +kernel) rfl rfl) (pi_range1 rfl T.range_ (pa_cons (pe_callB (call_lenK (K := K) rfl) (by rfl) T.len_ PySem.boot_len (pa_cons (pe_ix (ix_listK (K := K) rfl) (pv 2) pe_int (fun _ _ => rfl)) pa_nil)) pa_nil)) (GSet.name (by decide)) (fun _ _ _ _ _ => pg_name (i := 0) (nodupB_iff (l := ["_law_k", "_law_table"]) (by decide +kernel)) rfl (by first | exact Or.inl rfl | exact Or.inr rfl) (by first | exact .inl rfl | exact .inr rfl)) (fun _ _ _ _ _ => (pe_callB (call_sumK (K := K) rfl rfl) (by rfl) T.sum_ boot_sum (pa_cons (pe_comp0 (CompScope.of (sc0 := (relabelS _ (defScope s_law_sums))) (tn := ["_law_row"]) (cap := ["_law_k"]) (idx := [0]) (by decide +kernel) rfl rfl) (pi_listK (K := K) rfl (pv 1)) (GSet.name (by decide)) (fun _ _ _ _ _ => pg_name (i := 0) (nodupB_iff (l := ["_law_row", "_law_k"]) (by decide +kernel)) rfl (by first | exact Or.inl rfl | exact Or.inr rfl) (by first | exact .inl rfl | exact .inr rfl)) (fun _ _ _ _ _ => (pe_ix (ix_listK (K := K) rfl) (pv 0) (pv 1) (fun _ _ => rfl)))) pa_nil)))))
      (pss_cons (ps_if (pt_cmpR op_eq (pe_op op_and (pe_op op_shr (pv 0) pe_int) pe_int) pe_int (nomark _)) (pss_one (ps_setC0 (i := 3) (CompScope.of (sc0 := (defScope s_law_sums)) (tn := ["_law_k"]) (cap := ["_law_number", "_law_columns"]) (idx := [0, 4]) (by decide +kernel) rfl rfl) sc_law_sums.nd rfl (by first | exact Or.inl rfl | exact Or.inr rfl) (pi_range1 rfl T.range_ (pa_cons (pe_callB (call_lenK (K := K) rfl) (by rfl) T.len_ PySem.boot_len (pa_cons (pv 3) pa_nil)) pa_nil)) (GSet.name (by decide)) (fun _ _ _ _ _ => pg_name (i := 0) (nodupB_iff (l := ["_law_k", "_law_number", "_law_columns"]) (by decide +kernel)) rfl (by first | exact Or.inl rfl | exact Or.inr rfl) (by first | exact .inl rfl | exact .inr rfl)) (fun _ _ _ _ _ => (pe_op op_mod (pe_op op_mod (pe_op op_shr (pv 1) (pe_op op_add pe_int (pe_op op_mulB pe_int (pv 0)))) pe_int) (pe_op op_add (pe_callB (call_lenK (K := K) rfl) (by rfl) T.len_ PySem.boot_len (pa_cons (pv 2) pa_nil)) pe_int))))) pss_nil)
      (pss_cons (ps_if (pt_cmpR op_eq (pe_op op_and (pe_op op_shr (pv 0) pe_int) pe_int) pe_int (nomark _)) (pss_cons (ps_set (i := 5) sc_law_sums.nd rfl (by first | exact Or.inl rfl | exact Or.inr rfl) (pe_op op_mod (pe_op op_shr (pv 0) pe_int) (pe_callB (call_lenK (K := K) rfl) (by rfl) T.len_ PySem.boot_len (pa_cons (pv 4) pa_nil))))
      (pss_cons (ps_asg (pe_op op_add (pe_ix (ix_listK (K := K) rfl) (pv 4) (pv 5) (fun _ _ => rfl)) pe_int) (pg_sub (pv 4) (pv 5) set_list))
      (pss_cons (ps_set (i := 6) sc_law_sums.nd rfl (by first | exact Or.inl rfl | exact Or.inr rfl) (pe_op op_mod (pe_op op_shr (pv 0) pe_int) (pe_callB (call_lenK (K := K) rfl) (by rfl) T.len_ PySem.boot_len (pa_cons (pv 3) pa_nil))))
      (pss_one (ps_asg (pe_op op_add (pe_ix (ix_listK (K := K) rfl) (pv 3) (pv 6) (fun _ _ => rfl)) pe_int) (pg_sub (pv 3) (pv 6) set_list)))))) pss_nil)
      (pss_cons (ps_if (pt_cmpR op_eq (pe_op op_and (pe_op op_shr (pv 0) pe_int) pe_int) pe_int (nomark _)) (pss_one (ps_asg (pe_op op_add (pe_ix (ix_listK (K := K) rfl) (pv 3) pe_int (fun _ _ => rfl)) (pe_op op_pow pe_int pe_int)) (pg_sub (pv 3) pe_int set_list))) pss_nil)
      (pss_cons (ps_if (pt_cmpR op_eq (pe_op op_and (pe_op op_shr (pv 0) pe_int) pe_int) pe_int (nomark _)) (pss_one (ps_asg (pe_op op_add (pe_ix (ix_listK (K := K) rfl) (pv 4) (pe_un un_neg pe_int) (fun _ _ => rfl)) (pe_op op_pow pe_int pe_int)) (pg_sub (pv 4) (pe_un un_neg pe_int) set_list))) pss_nil)
      (pss_one (ps_ret (pe_lst (pa_cons (pv 3) (pa_cons (pv 4) pa_nil)))))))))))), fn_val (Γn := [3, 4]) (N := N_law_sums) (st_seq (ST.post (Γn := []) (st_setS 2 (EM.es (em_call (S := S_law_ones) mono_law_ones (ar_cons (ES.er (es_var 0)) (ar_cons (ES.er (es_var 1)) ar_nil))))))
      (st_seq (ST.post (Γn := [3]) (st_setM (M := []) 3 (em_comp0 (it_list (es_var 2)) (gt_name 0) (em_cb c_sum (ar_cons (ES.er (es_var 0)) ar_nil)))))
      (st_seq (ST.post (Γn := [4, 3]) (st_setM (M := []) 4 (em_comp0 (it_rng1 (ar_cons (EM.er (em_cb c_len (ar_cons (ES.er (es_ixL (es_var 2) (EM.er em_int))) ar_nil))) ar_nil)) (gt_name 0) (em_cb c_sum (ar_cons (EM.er (em_comp0 (it_list (es_var 1)) (gt_name 0) (ER.scal (ES.er (es_ixL (es_var 0) (ES.er (es_var 1))))))) ar_nil)))))
      (st_seq (st_if (tr_test (EM.er (em_op o_eq (EM.er (em_op o_int (EM.er (em_op o_intC (ES.er (es_var 0)) (EM.er em_int))) (EM.er em_int))) (EM.er em_int)))) (ST.post (Γn := [3, 4]) (st_setM (M := []) 3 (em_comp0 (it_rng1 (ar_cons (EM.er (em_cb c_len (ar_cons (ES.er (es_var 3)) ar_nil))) ar_nil)) (gt_name 0) (em_op o_intC (EM.er (em_op o_intC (EM.er (em_op o_intC (ES.er (es_var 1)) (EM.er (em_op o_int (EM.er em_int) (EM.er (em_op o_intC (EM.er em_int) (ES.er (es_var 0)))))))) (EM.er em_int))) (EM.er (em_op o_int (EM.er (em_cb c_len (ar_cons (ES.er (es_var 2)) ar_nil))) (EM.er em_int))))))) (ST.post (Γn := [3, 4]) st_next))
      (st_seq (st_if (tr_test (EM.er (em_op o_eq (EM.er (em_op o_int (EM.er (em_op o_intC (ES.er (es_var 0)) (EM.er em_int))) (EM.er em_int))) (EM.er em_int)))) (st_seq (ST.post (Γn := [3, 4]) (st_setS 5 (EM.es (em_op o_intC (EM.er (em_op o_intC (ES.er (es_var 0)) (EM.er em_int))) (EM.er (em_cb c_len (ar_cons (er_var 4) ar_nil)))))))
      (st_seq (st_setItem 4 (em_op o_int (er_ixL (er_var 4) (ES.er (es_var 5))) (EM.er em_int)) (ES.er (es_var 5)))
      (st_seq (ST.post (Γn := [3, 4]) (st_setS 6 (EM.es (em_op o_intC (EM.er (em_op o_intC (ES.er (es_var 0)) (EM.er em_int))) (EM.er (em_cb c_len (ar_cons (er_var 3) ar_nil)))))))
      (st_setItem 3 (em_op o_int (er_ixL (er_var 3) (ES.er (es_var 6))) (EM.er em_int)) (ES.er (es_var 6)))))) st_next)
      (st_seq (st_if (tr_test (EM.er (em_op o_eq (EM.er (em_op o_int (EM.er (em_op o_intC (ES.er (es_var 0)) (EM.er em_int))) (EM.er em_int))) (EM.er em_int)))) (st_setItem 3 (em_op o_int (er_ixL (er_var 3) (EM.er em_int)) (EM.er (em_op o_intC (EM.er em_int) (EM.er em_int)))) (EM.er em_int)) st_next)
      (st_seq (st_if (tr_test (EM.er (em_op o_eq (EM.er (em_op o_int (EM.er (em_op o_intC (ES.er (es_var 0)) (EM.er em_int))) (EM.er em_int))) (EM.er em_int)))) (st_setItem 4 (em_op o_int (er_ixL (er_var 4) (EM.er (em_un u_int (EM.er em_int)))) (EM.er (em_op o_intC (EM.er em_int) (EM.er em_int)))) (EM.er (em_un u_int (EM.er em_int)))) st_next)
      (st_ret (M := [3, 4]) (em_lst (am_cons (em_var 3) (am_cons (em_var 4) am_nil))))))))))) (fun ds P hS => ?_) h⟩
  obtain ⟨x, y, rfl, h0, h1, y4, y5, hP⟩ := hS
  rw [show startD N_law_sums [.int x, .int y] = [some (.int x), some (.int y), none, none, none, none, none] from rfl]
  walk_at "go"
  refine ⟨x, y, rfl, h0, h1, y4, y5, fun t n m hR n1 n5 m1 m5 hO => ?_⟩
  have ht := hR.1
  have ones : ∀ (r : List Int), (∀ v ∈ r, 0 ≤ v ∧ v ≤ 1) → 0 ≤ r.sum ∧ r.sum ≤ r.length := fun r => by
    induction r with
    | nil => intro _; simp
    | cons a r ih =>
      intro h
      have h1 := h a List.mem_cons_self
      have h2 := ih fun v hv => h v (List.mem_cons_of_mem _ hv)
      rw [List.sum_cons, List.length_cons]
      omega
  walk_at "go"
  refine comp_rows (t := t) (g := fun r => .int r.sum) (fun R h => h) (by omega) (fun r hr R h => ?_) ?_
  · walk_at "gb"
    exact h
  rw [show t.map (fun r => L3.D.int r.sum) = (t.map List.sum).map L3.D.int by rw [List.map_map]; rfl]
  have h00 := hR.row (i := 0) (by omega)
  refine comp_rng (lo := 0) (n := m) (g := fun (k : Nat) => .int (t.map fun r => r.getD k 0).sum) (fun R h => ?_) (by omega) (fun k hk R h => ?_) ?_
  · walk_at "go"
    refine asO_rows (by omega) ?_
    walk_at "go"
    rw [h00]
    exact h
  · walk_at "gb"
    refine comp_rows (t := t) (g := fun r => .int (r.getD k 0)) (fun R h => h) (by omega) (fun r hr R h => ?_) ?_
    · have lr := hR.2 r hr
      walk_at "gb"
      rw [Int.zero_add]
      refine asO_ints (by omega) ?_
      rw [Int.toNat_natCast]
      exact ⟨rfl, h⟩
    · rw [show t.map (fun r => L3.D.int (r.getD k 0)) = (t.map fun r => r.getD k 0).map L3.D.int by rw [List.map_map]; rfl]
      walk_at "gb"
      exact h
  rw [show (List.range m).map (fun (k : Nat) => L3.D.int (t.map fun r => r.getD k 0).sum) = ((List.range m).map fun (k : Nat) => (t.map fun r => r.getD k 0).sum).map L3.D.int by rw [List.map_map]; rfl]
  have gr : Good5 100 (t.map List.sum) := ⟨by rw [List.length_map]; omega, by rw [List.length_map]; omega, fun v hv => by
    obtain ⟨r, hr, rfl⟩ := List.mem_map.mp hv
    have := ones r (hO r hr)
    have := hR.2 r hr
    omega⟩
  have gc : Good5 100 ((List.range m).map fun (k : Nat) => (t.map fun r => r.getD k 0).sum) := ⟨by rw [List.length_map, List.length_range]; omega, by rw [List.length_map, List.length_range]; omega, fun v hv => by
    obtain ⟨k, hk, rfl⟩ := List.mem_map.mp hv
    have := ones (t.map fun r => r.getD k 0) (fun v hv => by
      obtain ⟨r, hr, rfl⟩ := List.mem_map.mp hv
      have hk2 : k < r.length := by rw [hR.2 r hr]; exact List.mem_range.mp hk
      rw [List.getD_eq_getElem?_getD, List.getElem?_eq_getElem hk2]
      exact hO r hr _ (List.getElem_mem hk2))
    rw [List.length_map] at this
    omega⟩
  generalize t.map List.sum = rows at gr ⊢
  generalize ((List.range m).map fun (k : Nat) => (t.map fun r => r.getD k 0).sum) = cols at gc ⊢
  have b3 := band_bd (m := 3) (x := x / 1125899906842624) (by omega)
  obtain ⟨q, eq⟩ : ∃ q, Builtin.bitAnd (x / 1125899906842624) 3 = q := ⟨_, rfl⟩
  rw [eq]
  walk_at "go"
  by_cases q1 : q = 1
  · rw [if_pos q1]
    refine comp_rng (lo := 0) (n := rows.length) (g := fun (k : Nat) => .int (x / 2 ^ (16 + 3 * (0 + (k : Int))).toNat % 7 % ((cols.length : Int) + 2))) (fun R h => ?_) (by have := gr.2.1; omega) (fun k hk R h => ?_) ?_
    · have l5 := gr.2.1
      walk_at "go"
      exact h
    · walk_at "gb"
      have := gr.2.1
      exact ⟨⟨2, 4, by decide, by omega, by decide⟩, by omega, by omega, h⟩
    rw [show (List.range rows.length).map (fun (k : Nat) => L3.D.int (x / 2 ^ (16 + 3 * (0 + (k : Int))).toNat % 7 % ((cols.length : Int) + 2))) = ((List.range rows.length).map fun (k : Nat) => x / 2 ^ (16 + 3 * (0 + (k : Int))).toNat % 7 % ((cols.length : Int) + 2)).map L3.D.int by rw [List.map_map]; rfl]
    rw [if_neg (by omega)]
    have gr2 : Good5 100 ((List.range rows.length).map fun (k : Nat) => x / 2 ^ (16 + 3 * (0 + (k : Int))).toNat % 7 % ((cols.length : Int) + 2)) := ⟨by rw [List.length_map, List.length_range]; exact gr.1, by rw [List.length_map, List.length_range]; exact gr.2.1, fun v hv => by
      obtain ⟨k, _, rfl⟩ := List.mem_map.mp hv
      have h7 := emod_lt (x := x / 2 ^ (16 + 3 * (0 + (k : Int))).toNat % 7) (n := (cols.length : Int) + 2) (by omega)
      have := gc.2.1
      omega⟩
    generalize ((List.range rows.length).map fun (k : Nat) => x / 2 ^ (16 + 3 * (0 + (k : Int))).toNat % 7 % ((cols.length : Int) + 2)) = rows2 at gr2 ⊢
    have b15 := band_bd (m := 15) (x := x / 144115188075855872) (by omega)
    walk_at "go"
    obtain ⟨z, ez⟩ : ∃ z, Builtin.bitAnd (x / 144115188075855872) 15 = z := ⟨_, rfl⟩
    rw [ez]
    by_cases z9 : z = 9
    · rw [if_pos z9]
      refine setItem_ints (r := rows2) (a := 0) (v := rows2.getD 0 0 + 1000000000000000000) rfl (fun R h' => ?_) (fun R h' => ?_) (by have := gr2.1; omega) ?_
      · walk_at "go"
        exact asO_ints (by have := gr2.1; omega) (by walk_at "go"; exact h')
      · walk_at "go"
        exact h'
      walk_at "go"
      rw [ez, if_neg (by omega)]
      have g := gr2.set (i := 0) (v := rows2.getD 0 0 + 1000000000000000000) (C := 2 ^ 62) (by have := gr2.get (i := 0) (by decide); omega) (by decide)
      have g2 := gc.up (C := 2 ^ 62) (by decide)
      exact ⟨by decide, hP _ _ g.1 g.2.1 g2.1 g2.2.1 g.2.2 g2.2.2⟩
    rw [if_neg z9]
    by_cases z5 : z = 5
    · rw [if_pos z5]
      refine setItem_last (r := cols) (v := cols.getD (cols.length - 1) 0 + 1000000000000000000) rfl (fun R h' => ?_) (fun R h' => ?_) gc.1 ?_
      · walk_at "go"
        exact asO_lastI gc.1 (by walk_at "go"; exact h')
      · walk_at "go"
        exact h'
      walk_at "go"
      have g := gc.set (i := cols.length - 1) (v := cols.getD (cols.length - 1) 0 + 1000000000000000000) (C := 2 ^ 62) (by have := gc.get (i := cols.length - 1) (by decide); omega) (by decide)
      have g2 := gr2.up (C := 2 ^ 62) (by decide)
      exact hP _ _ g2.1 g2.2.1 g.1 g.2.1 g2.2.2 g.2.2
    rw [if_neg z5]
    have g := gc.up (C := 2 ^ 62) (by decide)
    have g2 := gr2.up (C := 2 ^ 62) (by decide)
    exact ⟨by decide, hP _ _ g2.1 g2.2.1 g.1 g.2.1 g2.2.2 g.2.2⟩
  rw [if_neg q1]
  by_cases q2 : q = 2
  · rw [if_pos q2]
    have l1 := gc.1
    have l2 := gr.1
    have m1 := emod_lt (x := x / 9007199254740992) (n := (cols.length : Int)) (by omega)
    have m2 := emod_lt (x := x / 72057594037927936) (n := (rows.length : Int)) (by omega)
    refine ⟨by omega, ?_⟩
    refine setItem_ints (r := cols) (a := x / 9007199254740992 % (cols.length : Int)) (v := cols.getD (x / 9007199254740992 % (cols.length : Int)).toNat 0 + 1) rfl (fun R h' => ?_) (fun R h' => ?_) (by omega) ?_
    · walk_at "go"
      exact asO_ints (by omega) (by walk_at "go"; exact h')
    · walk_at "go"
      exact h'
    have gc2 := gc.set (i := (x / 9007199254740992 % (cols.length : Int)).toNat) (v := cols.getD (x / 9007199254740992 % (cols.length : Int)).toNat 0 + 1) (C := 200) (by have := gc.get (i := (x / 9007199254740992 % (cols.length : Int)).toNat) (by decide); omega) (by decide)
    generalize cols.set (x / 9007199254740992 % (cols.length : Int)).toNat (cols.getD (x / 9007199254740992 % (cols.length : Int)).toNat 0 + 1) = cols2 at gc2 ⊢
    walk_at "go"
    refine setItem_ints (r := rows) (a := x / 72057594037927936 % (rows.length : Int)) (v := rows.getD (x / 72057594037927936 % (rows.length : Int)).toNat 0 + 1) rfl (fun R h' => ?_) (fun R h' => ?_) (by omega) ?_
    · walk_at "go"
      exact asO_ints (by omega) (by walk_at "go"; exact h')
    · walk_at "go"
      exact h'
    have gr2 := gr.set (i := (x / 72057594037927936 % (rows.length : Int)).toNat) (v := rows.getD (x / 72057594037927936 % (rows.length : Int)).toNat 0 + 1) (C := 200) (by have := gr.get (i := (x / 72057594037927936 % (rows.length : Int)).toNat) (by decide); omega) (by decide)
    generalize rows.set (x / 72057594037927936 % (rows.length : Int)).toNat (rows.getD (x / 72057594037927936 % (rows.length : Int)).toNat 0 + 1) = rows2 at gr2 ⊢
    have b15 := band_bd (m := 15) (x := x / 144115188075855872) (by omega)
    walk_at "go"
    obtain ⟨z, ez⟩ : ∃ z, Builtin.bitAnd (x / 144115188075855872) 15 = z := ⟨_, rfl⟩
    rw [ez]
    by_cases z9 : z = 9
    · rw [if_pos z9]
      refine setItem_ints (r := rows2) (a := 0) (v := rows2.getD 0 0 + 1000000000000000000) rfl (fun R h' => ?_) (fun R h' => ?_) (by have := gr2.1; omega) ?_
      · walk_at "go"
        exact asO_ints (by have := gr2.1; omega) (by walk_at "go"; exact h')
      · walk_at "go"
        exact h'
      walk_at "go"
      rw [ez, if_neg (by omega)]
      have g := gr2.set (i := 0) (v := rows2.getD 0 0 + 1000000000000000000) (C := 2 ^ 62) (by have := gr2.get (i := 0) (by decide); omega) (by decide)
      have g2 := gc2.up (C := 2 ^ 62) (by decide)
      exact ⟨by decide, hP _ _ g.1 g.2.1 g2.1 g2.2.1 g.2.2 g2.2.2⟩
    rw [if_neg z9]
    by_cases z5 : z = 5
    · rw [if_pos z5]
      refine setItem_last (r := cols2) (v := cols2.getD (cols2.length - 1) 0 + 1000000000000000000) rfl (fun R h' => ?_) (fun R h' => ?_) gc2.1 ?_
      · walk_at "go"
        exact asO_lastI gc2.1 (by walk_at "go"; exact h')
      · walk_at "go"
        exact h'
      walk_at "go"
      have g := gc2.set (i := cols2.length - 1) (v := cols2.getD (cols2.length - 1) 0 + 1000000000000000000) (C := 2 ^ 62) (by have := gc2.get (i := cols2.length - 1) (by decide); omega) (by decide)
      have g2 := gr2.up (C := 2 ^ 62) (by decide)
      exact hP _ _ g2.1 g2.2.1 g.1 g.2.1 g2.2.2 g.2.2
    rw [if_neg z5]
    have g := gc2.up (C := 2 ^ 62) (by decide)
    have g2 := gr2.up (C := 2 ^ 62) (by decide)
    exact ⟨by decide, hP _ _ g2.1 g2.2.1 g.1 g.2.1 g2.2.2 g.2.2⟩
  rw [if_neg q2]
  have b15 := band_bd (m := 15) (x := x / 144115188075855872) (by omega)
  walk_at "go"
  obtain ⟨z, ez⟩ : ∃ z, Builtin.bitAnd (x / 144115188075855872) 15 = z := ⟨_, rfl⟩
  rw [ez]
  by_cases z9 : z = 9
  · rw [if_pos z9]
    refine setItem_ints (r := rows) (a := 0) (v := rows.getD 0 0 + 1000000000000000000) rfl (fun R h' => ?_) (fun R h' => ?_) (by have := gr.1; omega) ?_
    · walk_at "go"
      exact asO_ints (by have := gr.1; omega) (by walk_at "go"; exact h')
    · walk_at "go"
      exact h'
    walk_at "go"
    rw [ez, if_neg (by omega)]
    have g := gr.set (i := 0) (v := rows.getD 0 0 + 1000000000000000000) (C := 2 ^ 62) (by have := gr.get (i := 0) (by decide); omega) (by decide)
    have g2 := gc.up (C := 2 ^ 62) (by decide)
    exact ⟨by decide, hP _ _ g.1 g.2.1 g2.1 g2.2.1 g.2.2 g2.2.2⟩
  rw [if_neg z9]
  by_cases z5 : z = 5
  · rw [if_pos z5]
    refine setItem_last (r := cols) (v := cols.getD (cols.length - 1) 0 + 1000000000000000000) rfl (fun R h' => ?_) (fun R h' => ?_) gc.1 ?_
    · walk_at "go"
      exact asO_lastI gc.1 (by walk_at "go"; exact h')
    · walk_at "go"
      exact h'
    walk_at "go"
    have g := gc.set (i := cols.length - 1) (v := cols.getD (cols.length - 1) 0 + 1000000000000000000) (C := 2 ^ 62) (by have := gc.get (i := cols.length - 1) (by decide); omega) (by decide)
    have g2 := gr.up (C := 2 ^ 62) (by decide)
    exact hP _ _ g2.1 g2.2.1 g.1 g.2.1 g2.2.2 g.2.2
  rw [if_neg z5]
  have g := gc.up (C := 2 ^ 62) (by decide)
  have g2 := gr.up (C := 2 ^ 62) (by decide)
  exact ⟨by decide, hP _ _ g2.1 g2.2.1 g.1 g.2.1 g2.2.2 g.2.2⟩
def S_law_whole : DSp := fun ds P => ∃ i, ds = [.int i] ∧ P (.bl true)
theorem mono_law_whole : DMono S_law_whole := by
  intro xs P P' k h
  unfold S_law_whole at h ⊢
  grind
theorem len_law_whole : ∀ ds P, S_law_whole ds P → ds.length = 1 := by
  intro ds P h
  obtain ⟨_, e, _⟩ := h
  rw [e]; rfl
theorem ok_law_whole {c : Cs} {f : Addr} {fd : FuncData} (F : FnAt K mg "_law_whole" s_law_whole P_law_whole f fd) (A_ : Fns K mg c) (T : Txt K mg) (xs : Exs K mg base c) : FnOk P w K mg base CX0 1 f fd P_law_whole (spP K S_law_whole) := by
  refine F.fn.ok sc_law_whole (fun vs H Q E h => spP_len len_law_whole h) (fun cdv A outer s H vs Q E hr h => ?_)
  refine ⟨_, (pss_one (ps_ret (pe_and (pe_callB (call_isinstK (K := K) rfl) (by rfl) T.isinstance_ boot_isinstance (pa_cons (pv 0) (pa_cons (pe_bltn (v := .ty "int") rfl T.int_ boot_int rfl) pa_nil))) (pe_one (pe_not (pe_callB (call_isinstK (K := K) rfl) (by rfl) T.isinstance_ boot_isinstance (pa_cons (pv 0) (pa_cons (pe_bltn (v := .ty "bool") rfl T.bool_ boot_bool rfl) pa_nil)))))))), fn_val (Γn := []) (N := N_law_whole) (st_ret (M := []) (em_andV (EM.er (em_isinst kit_int (ES.er (es_var 0)))) (em_notV (EM.er (em_isinst kit_bool (ES.er (es_var 0))))))) (fun ds P hS => ?_) h⟩
  obtain ⟨i, rfl, hP⟩ := hS
  rw [show startD N_law_whole [.int i] = [some (.int i)] from rfl]
  walk_at "v"
  exact hP
theorem zip_tab {t : List (List Int)} {one : List Int} (h : t.length = one.length) : (((t.map dI).zip (one.map L3.D.int)).map fun p => L3.D.tup [p.1, p.2]) = (List.range t.length).map fun i => L3.D.tup [dI (rowAt t i), .int (one.getD i 0)] := by
  refine List.ext_getElem (by simp [h]) fun i h1 h2 => ?_
  have q1 : i < t.length := by simpa using h2
  have q2 : i < one.length := by omega
  rw [List.getElem_map, List.getElem_zip, List.getElem_map, List.getElem_map, List.getElem_map, List.getElem_range]
  show L3.D.tup [dI t[i], .int one[i]] = L3.D.tup [dI (t.getD i []), .int (one.getD i 0)]
  rw [List.getD_eq_getElem?_getD, List.getD_eq_getElem?_getD, List.getElem?_eq_getElem q1, List.getElem?_eq_getElem q2]; rfl
def S_law_is_ones : DSp := fun ds P => ∃ (rows cols : List Int) (t : List (List Int)), ds = [dT t, dI rows, dI cols] ∧ rows.length ≤ 5 ∧ cols.length ≤ 5 ∧ Tal.Ok rows cols t ∧ P (.bl true)
theorem mono_law_is_ones : DMono S_law_is_ones := by
  intro xs P P' k h
  unfold S_law_is_ones at h ⊢
  grind
theorem len_law_is_ones : ∀ ds P, S_law_is_ones ds P → ds.length = 3 := by
  intro ds P h
  obtain ⟨_, _, _, e, _⟩ := h
  rw [e]; rfl
theorem ok_law_is_ones {c : Cs} {f : Addr} {fd : FuncData} (F : FnAt K mg "_law_is_ones" s_law_is_ones P_law_is_ones f fd) (A_ : Fns K mg c) (T : Txt K mg) (xs : Exs K mg base c) : FnOk P w K mg base CX0 2 f fd P_law_is_ones (spP K S_law_is_ones) := by
  obtain ⟨f0, d0, E_law_whole⟩ := A_.h_law_whole
  have G_law_whole : FnOk P w K mg base CX0 1 f0 d0 P_law_whole (spP K S_law_whole) := ok_law_whole E_law_whole A_ T xs
  refine F.fn.ok sc_law_is_ones (fun vs H Q E h => spP_len len_law_is_ones h) (fun cdv A outer s H vs Q E hr h => ?_)
  refine ⟨_, (pss_cons (ps_if (PW.pt (pw_or (pt_not (pt_val (pe_callB (call_isinstK (K := K) rfl) (by rfl) T.isinstance_ boot_isinstance (pa_cons (pv 0) (pa_cons (pe_bltn (v := .ty "list") rfl T.list_ boot_list rfl) pa_nil))))) (pw_or1 (pt_cmpR op_ne (pe_callB (call_lenK (K := K) rfl) (by rfl) T.len_ PySem.boot_len (pa_cons (pv 0) pa_nil)) (pe_callB (call_lenK (K := K) rfl) (by rfl) T.len_ PySem.boot_len (pa_cons (pv 1) pa_nil)) (nomark _))))) (pss_one (ps_ret pe_bl)) pss_nil)
      (pss_cons (ps_for PassesOwn.never rfl (pi_zipK (K := K) rfl rfl T.zip_ (pa_cons (pv 0) (pa_cons (pv 1) pa_nil))) (pg_tupK (K := K) rfl rfl (pgs_cons (pg_name (i := 3) sc_law_is_ones.nd rfl (by first | exact Or.inl rfl | exact Or.inr rfl)) (pgs_cons (pg_name (i := 4) sc_law_is_ones.nd rfl (by first | exact Or.inl rfl | exact Or.inr rfl)) pgs_nil))) (pss_cons (ps_if (PW.pt (pw_or (pt_not (pt_val (pe_callB (call_isinstK (K := K) rfl) (by rfl) T.isinstance_ boot_isinstance (pa_cons (pv 3) (pa_cons (pe_bltn (v := .ty "list") rfl T.list_ boot_list rfl) pa_nil))))) (pw_or (pt_cmpR op_ne (pe_callB (call_lenK (K := K) rfl) (by rfl) T.len_ PySem.boot_len (pa_cons (pv 3) pa_nil)) (pe_callB (call_lenK (K := K) rfl) (by rfl) T.len_ PySem.boot_len (pa_cons (pv 2) pa_nil)) (nomark _)) (pw_or1 (pt_cmpR op_ne (pe_callB (call_sumK (K := K) rfl rfl) (by rfl) T.sum_ boot_sum (pa_cons (pv 3) pa_nil)) (pv 4) (nomark _)))))) (pss_one (ps_ret pe_bl)) pss_nil)
      (pss_one (ps_if (pt_cmpR op_ne (pe_callB (call_lenK (K := K) rfl) (by rfl) T.len_ PySem.boot_len (pa_cons (pe_comp rfl (CompScope.of (sc0 := (defScope s_law_is_ones)) (tn := ["_law_one"]) (cap := []) (idx := []) (by decide +kernel) rfl rfl) (pi_listK (K := K) rfl (pv 3)) (GSet.name (by decide)) (fun _ _ _ _ _ => pg_name (i := 0) (nodupB_iff (l := ["_law_one"]) (by decide +kernel)) rfl (by first | exact Or.inl rfl | exact Or.inr rfl) (by first | exact .inl rfl | exact .inr rfl)) (fun _ _ _ _ _ => pts_one (PW.pt (pw_and (pt_val (pe_call G_law_whole (hr.mono (by decide)) rfl E_law_whole.mg E_law_whole.fn.kp E_law_whole.bd .nil pass0 (pa_cons (pv 0) pa_nil))) (pw_and1 (pt_chain op_le op_le pe_int (pv 0) pe_int))))) (fun _ _ _ _ _ => (pv 0)) (by intro _; rfl)) pa_nil)) (pe_callB (call_lenK (K := K) rfl) (by rfl) T.len_ PySem.boot_len (pa_cons (pv 3) pa_nil)) (nomark _)) (pss_one (ps_ret pe_bl)) pss_nil))))
      (pss_one (ps_ret (pe_cmpR (op_eqL hr.units) (pe_comp0 (CompScope.of (sc0 := (defScope s_law_is_ones)) (tn := ["_law_k"]) (cap := ["_law_found"]) (idx := [0]) (by decide +kernel) rfl rfl) (pi_range1 rfl T.range_ (pa_cons (pe_callB (call_lenK (K := K) rfl) (by rfl) T.len_ PySem.boot_len (pa_cons (pv 2) pa_nil)) pa_nil)) (GSet.name (by decide)) (fun _ _ _ _ _ => pg_name (i := 0) (nodupB_iff (l := ["_law_k", "_law_found"]) (by decide +kernel)) rfl (by first | exact Or.inl rfl | exact Or.inr rfl) (by first | exact .inl rfl | exact .inr rfl)) (fun _ _ _ _ _ => (pe_callB (call_sumK (K := K) rfl rfl) (by rfl) T.sum_ boot_sum (pa_cons (pe_comp0 (CompScope.of (sc0 := (relabelS _ (defScope s_law_is_ones))) (tn := ["_law_row"]) (cap := ["_law_k"]) (idx := [0]) (by decide +kernel) rfl rfl) (pi_listK (K := K) rfl (pv 1)) (GSet.name (by decide)) (fun _ _ _ _ _ => pg_name (i := 0) (nodupB_iff (l := ["_law_row", "_law_k"]) (by decide +kernel)) rfl (by first | exact Or.inl rfl | exact Or.inr rfl) (by first | exact .inl rfl | exact .inr rfl)) (fun _ _ _ _ _ => (pe_ix (ix_listK (K := K) rfl) (pv 0) (pv 1) (fun _ _ => rfl)))) pa_nil)))) (pv 2) (nomark _)))))), fn_val (Γn := []) (N := N_law_is_ones) (st_seq (st_if (tr_or (tr_not (tr_b (EM.er (em_isinst kit_list (ES.er (es_var 0)))))) (tr_test (EM.er (em_op o_ne (EM.er (em_cb c_len (ar_cons (ES.er (es_var 0)) ar_nil))) (EM.er (em_cb c_len (ar_cons (ES.er (es_var 1)) ar_nil))))))) (st_ret (M := []) em_bl) st_next)
      (st_seq (st_for (it_zip (es_var 0) (es_var 1)) (gt_tup (gts_cons (gt_name 3) (gts_cons (gt_name 4) gts_nil))) (st_seq (st_if (tr_or (tr_not (tr_b (EM.er (em_isinst kit_list (ES.er (es_var 3)))))) (tr_or (tr_test (EM.er (em_op o_ne (EM.er (em_cb c_len (ar_cons (ES.er (es_var 3)) ar_nil))) (EM.er (em_cb c_len (ar_cons (ES.er (es_var 2)) ar_nil)))))) (tr_test (EM.er (em_op o_ne (EM.er (em_cb c_sum (ar_cons (ES.er (es_var 3)) ar_nil))) (ES.er (es_var 4))))))) (st_ret (M := []) em_bl) st_next)
      (st_if (tr_test (EM.er (em_op o_ne (EM.er (em_cb c_len (ar_cons (EM.er (em_comp (it_list (es_var 3)) (gt_name 0) (tr_and (tr_b (EM.er (em_call (S := S_law_whole) mono_law_whole (ar_cons (ES.er (es_var 0)) ar_nil)))) (tr_test (EM.er (em_chain o_bl o_bl (EM.er em_int) (ES.er (es_var 0)) (EM.er em_int))))) (ER.scal (ES.er (es_var 0))))) ar_nil))) (EM.er (em_cb c_len (ar_cons (ES.er (es_var 3)) ar_nil)))))) (st_ret (M := []) em_bl) st_next)))
      (st_ret (M := []) (em_op o_eqL (EM.er (em_comp0 (it_rng1 (ar_cons (EM.er (em_cb c_len (ar_cons (ES.er (es_var 2)) ar_nil))) ar_nil)) (gt_name 0) (em_cb c_sum (ar_cons (EM.er (em_comp0 (it_list (es_var 1)) (gt_name 0) (ER.scal (ES.er (es_ixL (es_var 0) (ES.er (es_var 1))))))) ar_nil)))) (ES.er (es_var 2)))))) (fun ds P hS => ?_) h⟩
  obtain ⟨rows, cols, t, rfl, r5, c5, ok, hP⟩ := hS
  rw [show startD N_law_is_ones [dT t, dI rows, dI cols] = [some (dT t), some (dI rows), some (dI cols), none, none] from rfl]
  have lt := Tal.Ok_len ok
  obtain ⟨er, ec, hz⟩ := Tal.own_Ok ok
  walk_at "go"
  rw [if_neg (by omega)]
  refine ⟨by rw [List.length_map, List.length_map]; exact lt, ?_⟩
  rw [zip_tab lt]
  refine loop_any (as := List.range t.length) (f := fun i => L3.D.tup [dI (rowAt t i), .int (rows.getD i 0)]) (fun i δ => ∃ (o4 o5 : Option D), δ = [some (dT t), some (dI rows), some (dI cols), o4, o5]) ⟨none, none, rfl⟩ ?_ ?_
  · rintro i i' δ N e ⟨o4, o5, rfl⟩ hN
    obtain ⟨q1, q2⟩ := List.getElem?_eq_some_iff.mp e
    rw [List.getElem_range] at q2
    subst q2
    have hi : i < t.length := by rw [List.length_range] at q1; exact q1
    have em : rowAt t i = t[i] := by unfold rowAt; rw [List.getD_eq_getElem?_getD, List.getElem?_eq_getElem hi]; rfl
    have lr : (rowAt t i).length = cols.length := by rw [em]; exact (hz _ (List.getElem_mem hi)).1
    have z01 : ∀ v ∈ rowAt t i, v = 0 ∨ v = 1 := by rw [em]; exact (hz _ (List.getElem_mem hi)).2
    have sr : (rowAt t i).sum = rows.getD i 0 := by
      rw [er, List.getD_eq_getElem?_getD, List.getElem?_map, List.getElem?_eq_getElem hi, em]; rfl
    generalize rowAt t i = row at lr z01 sr ⊢
    walk_at "go"
    rw [if_neg (by omega), if_neg (fun z => z sr)]
    refine comp_all (as := row) (f := L3.D.int) (g := L3.D.int) (fun R h => h) (by omega) (fun v hv R h => ?_) ?_
    · have b := z01 v hv
      walk_at "gb"
      refine ⟨v, rfl, ?_⟩
      walk_at "gb"
      rw [if_pos (by omega), if_pos (by omega)]
      exact h
    walk_at "go"
    exact hN _ ⟨_, _, rfl⟩
  · rintro δ ⟨o4, o5, rfl⟩
    walk_at "go"
    refine comp_rng (lo := 0) (n := cols.length) (g := fun (k : Nat) => .int (t.map fun r => r.getD k 0).sum) (fun R h => ?_) (by omega) (fun k hk R h => ?_) ?_
    · walk_at "go"
      exact h
    · walk_at "gb"
      refine comp_rows (t := t) (g := fun r => .int (r.getD k 0)) (fun R h => h) (by omega) (fun r hr R h => ?_) ?_
      · have lr := (hz r hr).1
        walk_at "gb"
        rw [Int.zero_add]
        refine asO_ints (by omega) ?_
        rw [Int.toNat_natCast]
        exact ⟨rfl, h⟩
      · rw [show t.map (fun r => L3.D.int (r.getD k 0)) = (t.map fun r => r.getD k 0).map L3.D.int by rw [List.map_map]; rfl]
        walk_at "gb"
        exact h
    rw [show (List.range cols.length).map (fun (k : Nat) => L3.D.int (t.map fun r => r.getD k 0).sum) = (Tal.cols cols.length t).map L3.D.int by unfold Tal.cols; rw [List.map_map]; rfl]
    refine vEqL_ints ?_
    rw [decide_eq_true ec.symm]
    exact hP
theorem cut_from1 {α : Type} {as : List α} {f : α → D} : L3.cutD (as.map f) (some 1) none = (as.drop 1).map f := by
  unfold L3.cutD
  rw [List.length_map, HT.sIx_none, show (some (1 : Int)) = some ((1 : Nat) : Int) from rfl, HT.sIx_nat, List.map_drop]
  rcases Nat.lt_or_ge as.length 1 with h | h
  · have : as = [] := List.length_eq_zero_iff.mp (by omega)
    subst this; rfl
  · rw [Nat.min_eq_left h, List.take_of_length_le (by rw [List.length_drop, List.length_map]; exact Nat.le_refl _)]
def S_law_there_and_back : DSp := fun ds P => ∃ (rows cols : List Int) (n : Int), ds = [dI rows, dI cols, .int n] ∧ 1 ≤ rows.length ∧ rows.length ≤ 5 ∧ 1 ≤ cols.length ∧ cols.length ≤ 5 ∧ 0 ≤ n ∧ n < Tal.W rows cols ∧ P (.bl true)
theorem mono_law_there_and_back : DMono S_law_there_and_back := by
  intro xs P P' k h
  unfold S_law_there_and_back at h ⊢
  grind
theorem len_law_there_and_back : ∀ ds P, S_law_there_and_back ds P → ds.length = 3 := by
  intro ds P h
  obtain ⟨_, _, _, e, _⟩ := h
  rw [e]; rfl
theorem ok_law_there_and_back {c : Cs} {f : Addr} {fd : FuncData} (F : FnAt K mg "_law_there_and_back" s_law_there_and_back P_law_there_and_back f fd) (A_ : Fns K mg c) (T : Txt K mg) (xs : Exs K mg base c) : FnOk P w K mg base CX0 12 f fd P_law_there_and_back (spP K S_law_there_and_back) := by
  obtain ⟨f0, d0, E_ones_at⟩ := A_.h_ones_at
  have G_ones_at : FnOk P w K mg base (CXR P w) 11 f0 d0 P_ones_at (spX K (S_ones_at c)) := ok_ones_at E_ones_at A_ T xs
  obtain ⟨f1, d1, E_number_of⟩ := A_.h_number_of
  have G_number_of : FnOk P w K mg base (CXR P w) 11 f1 d1 P_number_of (spX K (S_number_of c)) := ok_number_of E_number_of A_ T xs
  obtain ⟨f2, d2, E_law_is_ones⟩ := A_.h_law_is_ones
  have G_law_is_ones : FnOk P w K mg base CX0 2 f2 d2 P_law_is_ones (spP K S_law_is_ones) := ok_law_is_ones E_law_is_ones A_ T xs
  obtain ⟨f3, d3, E_law_whole⟩ := A_.h_law_whole
  have G_law_whole : FnOk P w K mg base CX0 1 f3 d3 P_law_whole (spP K S_law_whole) := ok_law_whole E_law_whole A_ T xs
  refine F.fn.ok sc_law_there_and_back (fun vs H Q E h => spP_len len_law_there_and_back h) (fun cdv A outer s H vs Q E hr h => ?_)
  refine ⟨_, (pss_cons (ps_set (i := 3) sc_law_there_and_back.nd rfl (by first | exact Or.inl rfl | exact Or.inr rfl) (pe_lst (pa_cons (pe_callTy (call_listK (K := K) rfl) (by rfl) T.list_ boot_list (pa_cons (pv 0) pa_nil)) (pa_cons (pe_callTy (call_listK (K := K) rfl) (by rfl) T.list_ boot_list (pa_cons (pv 1) pa_nil)) pa_nil))))
      (pss_cons (ps_set (i := 4) sc_law_there_and_back.nd rfl (by first | exact Or.inl rfl | exact Or.inr rfl) (pe_call G_ones_at (hr.mono (by decide)) rfl E_ones_at.mg E_ones_at.fn.kp E_ones_at.bd .nil passN (pa_cons (pe_ix (ix_listK (K := K) rfl) (pv 3) pe_int (fun _ _ => rfl)) (pa_cons (pe_ix (ix_listK (K := K) rfl) (pv 3) pe_int (fun _ _ => rfl)) (pa_cons (pv 2) pa_nil)))))
      (pss_cons (ps_if (PW.pt (pw_or (pt_not (pt_val (pe_call G_law_is_ones (hr.mono (by decide)) rfl E_law_is_ones.mg E_law_is_ones.fn.kp E_law_is_ones.bd .nil pass0 (pa_cons (pv 4) (pa_cons (pv 0) (pa_cons (pv 1) pa_nil)))))) (pw_or1 (pt_cmpR (op_neL hr.units) (pv 3) (pe_lst (pa_cons (pv 0) (pa_cons (pv 1) pa_nil))) (nomark _))))) (pss_one (ps_ret pe_bl)) pss_nil)
      (pss_cons (ps_setC0 (i := 5) (CompScope.of (sc0 := (defScope s_law_there_and_back)) (tn := ["_law_row"]) (cap := []) (idx := []) (by decide +kernel) rfl rfl) sc_law_there_and_back.nd rfl (by first | exact Or.inl rfl | exact Or.inr rfl) (pi_listK (K := K) rfl (pv 4)) (GSet.name (by decide)) (fun _ _ _ _ _ => pg_name (i := 0) (nodupB_iff (l := ["_law_row"]) (by decide +kernel)) rfl (by first | exact Or.inl rfl | exact Or.inr rfl) (by first | exact .inl rfl | exact .inr rfl)) (fun _ _ _ _ _ => (pe_callTy (call_listK (K := K) rfl) (by rfl) T.list_ boot_list (pa_cons (pv 0) pa_nil))))
      (pss_cons (ps_set (i := 6) sc_law_there_and_back.nd rfl (by first | exact Or.inl rfl | exact Or.inr rfl) (pe_call G_number_of (hr.mono (by decide)) rfl E_number_of.mg E_number_of.fn.kp E_number_of.bd .nil passN (pa_cons (pv 4) pa_nil)))
      (pss_cons (ps_if (PW.pt (pw_or (pt_not (pt_val (pe_call G_law_whole (hr.mono (by decide)) rfl E_law_whole.mg E_law_whole.fn.kp E_law_whole.bd .nil pass0 (pa_cons (pv 6) pa_nil)))) (pw_or (pt_cmpR op_ne (pv 6) (pv 2) (nomark _)) (pw_or1 (pt_cmpR (op_neL hr.units) (pv 4) (pv 5) (nomark _)))))) (pss_one (ps_ret pe_bl)) pss_nil)
      (pss_cons (ps_expr (pe_bm PySem.F.plainAttrs_list PySem.F.slot_list_append PySem.F.type_list_append mt_append (pe_ix (ix_listK (K := K) rfl) (pv 4) pe_int (fun _ _ => rfl)) (pa_cons pe_int pa_nil)))
      (pss_cons (ps_if (pt_cmpR (op_neL hr.units) (pe_slice (sl_listK (K := K) rfl) (pv 4) (po_some pe_int) po_none) (pe_slice (sl_listK (K := K) rfl) (pv 5) (po_some pe_int) po_none) (nomark _)) (pss_one (ps_ret pe_bl)) pss_nil)
      (pss_cons (ps_for PassesOwn.never rfl (pi_listK (K := K) rfl (pv 4)) (pg_name (i := 7) sc_law_there_and_back.nd rfl (by first | exact Or.inl rfl | exact Or.inr rfl)) (pss_one (ps_expr (pe_bm0 PySem.F.plainAttrs_list PySem.F.slot_list_clear PySem.F.type_list_clear mt_clear (pv 7)))))
      (pss_cons (ps_expr (pe_bm0 PySem.F.plainAttrs_list PySem.F.slot_list_clear PySem.F.type_list_clear mt_clear (pv 4)))
      (pss_one (ps_ret (pe_cmpR (op_eqL hr.units) (pe_call G_ones_at (hr.mono (by decide)) rfl E_ones_at.mg E_ones_at.fn.kp E_ones_at.bd .nil passN (pa_cons (pe_ix (ix_listK (K := K) rfl) (pv 3) pe_int (fun _ _ => rfl)) (pa_cons (pe_ix (ix_listK (K := K) rfl) (pv 3) pe_int (fun _ _ => rfl)) (pa_cons (pv 2) pa_nil)))) (pv 5) (nomark _)))))))))))))), fn_val (Γn := [4, 3]) (N := N_law_there_and_back) (st_seq (ST.post (Γn := [3]) (st_setM (M := []) 3 (em_lst (am_cons0 (em_cb c_list (ar_cons (ES.er (es_var 0)) ar_nil)) (am_cons0 (em_cb c_list (ar_cons (ES.er (es_var 1)) ar_nil)) am_nil)))))
      (st_seq (ST.post (Γn := [4, 3]) (st_setM (M := []) 4 (em_noX mono_ones_at (ar_cons (er_ixL (er_var 3) (EM.er em_int)) (ar_cons (er_ixL (er_var 3) (EM.er em_int)) (ar_cons (ES.er (es_var 2)) ar_nil))))))
      (st_seq (st_if (tr_or (tr_not (tr_b (EM.er (em_call (S := S_law_is_ones) mono_law_is_ones (ar_cons (er_var 4) (ar_cons (ES.er (es_var 0)) (ar_cons (ES.er (es_var 1)) ar_nil))))))) (tr_test (EM.er (em_op o_neL (er_var 3) (er_lst (ar_cons (ES.er (es_var 0)) (ar_cons (ES.er (es_var 1)) ar_nil))))))) (st_ret (M := []) em_bl) st_next)
      (st_seq (ST.post (Γn := [4, 3]) (st_setS 5 (EM.es (em_comp0 (it_list (es_var 4)) (gt_name 0) (em_cb c_list (ar_cons (ES.er (es_var 0)) ar_nil))))))
      (st_seq (ST.post (Γn := [4, 3]) (st_setS 6 (EM.es (em_noX mono_number_of (ar_cons (er_var 4) ar_nil)))))
      (st_seq (st_if (tr_or (tr_not (tr_b (EM.er (em_call (S := S_law_whole) mono_law_whole (ar_cons (ES.er (es_var 6)) ar_nil))))) (tr_or (tr_test (EM.er (em_op o_ne (ES.er (es_var 6)) (ES.er (es_var 2))))) (tr_test (EM.er (em_op o_neL (er_var 4) (ES.er (es_var 5))))))) (st_ret (M := []) em_bl) st_next)
      (st_seq (st_appL 4 0 0)
      (st_seq (st_if (tr_test (EM.er (em_op o_neL (er_sl (er_var 4) (or_some (EM.er em_int)) or_none) (er_sl (ES.er (es_var 5)) (or_some (EM.er em_int)) or_none)))) (st_ret (M := []) em_bl) st_next)
      (st_seq (st_forA 4 7 sta_clear)
      (st_seq (st_clear 4)
      (st_ret (M := []) (em_op o_eqL (EM.er (em_noX mono_ones_at (ar_cons (er_ixL (er_var 3) (EM.er em_int)) (ar_cons (er_ixL (er_var 3) (EM.er em_int)) (ar_cons (ES.er (es_var 2)) ar_nil))))) (ES.er (es_var 5)))))))))))))) (fun ds P hS => ?_) h⟩
  obtain ⟨rows, cols, n, rfl, r1, r5, c1, c5, n0, n1, hP⟩ := hS
  rw [show startD N_law_there_and_back [dI rows, dI cols, .int n] = [some (dI rows), some (dI cols), some (.int n), none, none, none, none, none] from rfl]
  walk_at "go"
  refine ⟨rows, cols, _, rfl, rfl, r5, c1, c5, fun q e q0 q1 t oT eT => ?_, fun z => absurd ⟨n0, n1⟩ (z _ rfl)⟩
  cases e
  have lt := Tal.Ok_len oT
  obtain ⟨er, ec, hz⟩ := Tal.own_Ok oT
  refine ⟨rows, cols, t, rfl, r5, c5, oT, ?_⟩
  walk_at "go"
  refine vEqL_rows (xs := [rows, cols]) (ys := [rows, cols]) ?_
  simp only [if_true, decide_true, Bool.not_true]
  walk_at "go"
  refine comp_copy (t := t) (fun R h => by walk_at "go"; exact h) (by omega) (fun r hr R h => by walk_at "gb"; exact h) ?_
  refine ⟨t, rows.length, cols.length, rfl, ⟨lt, fun r hr => (hz r hr).1⟩, r1, by omega, c1, by omega, fun r hr => (hz r hr).2, fun _ => ?_, fun z => absurd ⟨r5, c5⟩ z⟩
  refine ⟨_, rfl, ?_⟩
  rw [← er, ← ec, eT]
  walk_at "go"
  refine vEqL_rows (xs := t) (ys := t) ?_
  simp only [if_true, decide_true, Bool.not_true]
  walk_at "go"
  refine ⟨t.map dI, (rowAt t 0).map L3.D.int, rfl, ?_, scal_ints, ?_, ?_⟩
  · rw [List.getElem?_map, show t[0]? = some (rowAt t 0) by unfold rowAt; rw [List.getD_eq_getElem?_getD, List.getElem?_eq_getElem (by omega)]; rfl]; rfl
  · have : (rowAt t 0).length = cols.length := by
      have em : rowAt t 0 = t[0] := by unfold rowAt; rw [List.getD_eq_getElem?_getD, List.getElem?_eq_getElem (by omega)]; rfl
      rw [em]; exact (hz _ (List.getElem_mem _)).1
    rw [List.length_map]; omega
  rw [show (L3.D.lst ((t.map dI).set 0 (L3.D.lst ((rowAt t 0).map L3.D.int ++ [L3.D.int 0])))) = dT (t.set 0 (rowAt t 0 ++ [0])) by rw [snoc_dI]; show L3.D.lst ((t.map dI).set 0 (dI (rowAt t 0 ++ [0]))) = _; rw [← List.map_set]]
  walk_at "go"
  rw [cut_from1, cut_from1, show (t.set 0 (rowAt t 0 ++ [0])).drop 1 = t.drop 1 by cases t <;> rfl]
  refine vEqL_rows (xs := t.drop 1) (ys := t.drop 1) ?_
  simp only [if_true, decide_true, Bool.not_true]
  walk_at "go"
  refine forA_clear (t := t.set 0 (rowAt t 0 ++ [0])) rfl (by simp) (by decide) (by rw [List.length_set]; omega) ?_
  walk_at "go"
  refine ⟨rows, cols, _, rfl, rfl, r5, c1, c5, fun q e q0 q1 u oU eU => ?_, fun z => absurd ⟨n0, n1⟩ (z _ rfl)⟩
  cases e
  have eq := Tal.N_inj oU oT (eU.trans eT.symm)
  subst eq
  refine vEqL_rows (xs := u) (ys := u) ?_
  simp only [decide_true]
  exact hP
theorem ok_law_alone {f : Addr} {fd : FuncData} (F : FnAt K mg "_law_alone" s_law_alone P_law_alone f fd) (T : Txt K mg) {c : Cs} (xs : Exs K mg base c) : FnE P w K mg base 1 f fd P_law_alone c.NoNumber (spE true) := by
  refine F.fn.okE (k := 0) sc_law_alone (fun a vs H Q E h => spE_len h) (fun a cdv A outer s H vs Q E hx h => ?_)
  obtain ⟨rfl, q⟩ := h
  refine ⟨_, (pss_cons (ps_if (pt_val (pe_callB (call_isE hx rfl xs.k_NoNumber) (by rfl) T.isinstance_ boot_isinstance (pa_cons (pv 0) (pa_cons (pe_tup (pa_cons (pe_glob (v := .ref c.NoBottom) rfl xs.m_NoBottom rfl) (pa_cons (pe_glob (v := .ref c.NoTable) rfl xs.m_NoTable rfl) (pa_cons (pe_glob (v := .ref c.NotAlike) rfl xs.m_NotAlike rfl) (pa_cons (pe_glob (v := .ref c.NoStep) rfl xs.m_NoStep rfl) (pa_cons (pe_glob (v := .ref c.NoMix) rfl xs.m_NoMix rfl) (pa_cons (pe_glob (v := .ref c.NotEven) rfl xs.m_NotEven rfl) pa_nil))))))) pa_nil)))) (pss_one (ps_ret pe_bl)) pss_nil)
      (pss_one (ps_ret (pe_not (pe_callB (call_isE hx rfl xs.k_NoNumber) (by rfl) T.isinstance_ boot_isinstance (pa_cons (pv 0) (pa_cons (pe_tup (pa_cons (pe_glob (v := .ref c.NoSwap) rfl xs.m_NoSwap rfl) (pa_cons (pe_glob (v := .ref c.NoBounds) rfl xs.m_NoBounds rfl) (pa_cons (pe_glob (v := .ref c.NoPlace) rfl xs.m_NoPlace rfl) (pa_cons (pe_glob (v := .ref c.NoSums) rfl xs.m_NoSums rfl) (pa_cons (pe_glob (v := .ref c.NoText) rfl xs.m_NoText rfl) (pa_cons (pe_glob (v := .ref c.TooGreat) rfl xs.m_TooGreat rfl) pa_nil))))))) pa_nil))))))), ?_⟩
  exact alone_b xs.t1 xs.t2 (fun _ _ _ h => h) (fun _ _ _ h => h) (by simp) (by simp) q
def S_law_refused : DSp := fun ds P => ∃ (rows cols : List Int) (d : D), ds = [dI rows, dI cols, d] ∧ kn d = true ∧ rows.length ≤ 5 ∧ 1 ≤ cols.length ∧ cols.length ≤ 5 ∧ (∀ n : Int, d = .int n → ¬ (0 ≤ n ∧ n < Tal.W rows cols)) ∧ P (.bl true)
theorem mono_law_refused : DMono S_law_refused := by
  intro xs P P' k h
  unfold S_law_refused at h ⊢
  grind
theorem len_law_refused : ∀ ds P, S_law_refused ds P → ds.length = 3 := by
  intro ds P h
  obtain ⟨_, _, _, e, _⟩ := h
  rw [e]; rfl
theorem ok_law_refused {c : Cs} {f : Addr} {fd : FuncData} (F : FnAt K mg "_law_refused" s_law_refused P_law_refused f fd) (A_ : Fns K mg c) (T : Txt K mg) (xs : Exs K mg base c) : FnOk P w K mg base CX0 12 f fd P_law_refused (spP K S_law_refused) := by
  obtain ⟨f0, d0, E_ones_at⟩ := A_.h_ones_at
  have G_ones_at : FnOk P w K mg base (CXR P w) 11 f0 d0 P_ones_at (spX K (S_ones_at c)) := ok_ones_at E_ones_at A_ T xs
  obtain ⟨f1, d1, E_law_alone⟩ := A_.h_law_alone
  have G_law_alone : FnE P w K mg base 1 f1 d1 P_law_alone c.NoNumber (spE true) := ok_law_alone E_law_alone T xs
  refine F.fn.ok sc_law_refused (fun vs H Q E h => spP_len len_law_refused h) (fun cdv A outer s H vs Q E hr h => ?_)
  refine ⟨_, (pss_cons (ps_set (i := 3) sc_law_refused.nd rfl (by first | exact Or.inl rfl | exact Or.inr rfl) pe_int)
      (pss_cons (ps_try (i := 4) rfl rfl G_ones_at (hr.mono (by decide)) rfl E_ones_at.mg E_ones_at.fn.kp E_ones_at.bd (pa_cons (pe_callTy (call_listK (K := K) rfl) (by rfl) T.list_ boot_list (pa_cons (pv 0) pa_nil)) (pa_cons (pe_callTy (call_listK (K := K) rfl) (by rfl) T.list_ boot_list (pa_cons (pv 1) pa_nil)) (pa_cons (pv 2) pa_nil))) xs.o_NoNumber xs.o_NoNumber xs.m_NoNumber rfl (by simp) sc_law_refused.nd rfl rfl (fun a oe hc => (pss_one (ps_set (i := 3) sc_law_refused.nd rfl (by first | exact Or.inl rfl | exact Or.inr rfl) (pe_op op_add pe_int (pe_callTy call_int1 (by rfl) T.int_ boot_int (pa_cons (pe_callE (E := E0) G_law_alone hc (hr.mono (by decide)) rfl E_law_alone.mg E_law_alone.fn.kp E_law_alone.bd (pa_cons (pv 4) pa_nil)) pa_nil)))))))
      (pss_cons (ps_if (pt_cmpR op_ne (pv 3) pe_int (nomark _)) (pss_one (ps_ret pe_bl)) pss_nil)
      (pss_cons (ps_try (i := 4) rfl rfl G_ones_at (hr.mono (by decide)) rfl E_ones_at.mg E_ones_at.fn.kp E_ones_at.bd (pa_cons (pe_callTy (call_listK (K := K) rfl) (by rfl) T.list_ boot_list (pa_cons (pv 0) pa_nil)) (pa_cons (pe_callTy (call_listK (K := K) rfl) (by rfl) T.list_ boot_list (pa_cons (pv 1) pa_nil)) (pa_cons (pv 2) pa_nil))) xs.o_NoNumber xs.o_MixError xs.m_MixError rfl (by simp) sc_law_refused.nd rfl rfl (fun a oe hc => (pss_one (ps_set (i := 3) sc_law_refused.nd rfl (by first | exact Or.inl rfl | exact Or.inr rfl) (pe_op op_mulB pe_int (pe_callTy call_int1 (by rfl) T.int_ boot_int (pa_cons (pe_callB (call_isx hc xs.k_NoNumber) (by rfl) T.isinstance_ boot_isinstance (pa_cons (pv 4) (pa_cons (pe_bltn (v := .ty "ValueError") rfl T.ValueError_ (by rfl) rfl) pa_nil))) pa_nil)))))))
      (pss_one (ps_ret (pe_cmpR op_eq (pv 3) pe_int (nomark _)))))))), fn_val (Γn := []) (N := N_law_refused) (st_seq (ST.post (Γn := []) (st_setS 3 (EM.es em_int)))
      (st_seq (st_tryI 4 mono_ones_at (ar_cons (EM.er (em_cb c_list (ar_cons (ES.er (es_var 0)) ar_nil))) (ar_cons (EM.er (em_cb c_list (ar_cons (ES.er (es_var 1)) ar_nil))) (ar_cons (ES.er (es_var 2)) ar_nil))) (sti_know 3 (n := 2) (fun a σ H Q hi q => ⟨_, hi, rfl, fun H' s => .inr ⟨true, rfl, ⟨1, 1, rfl, rfl, q _ s⟩⟩⟩)))
      (st_seq (st_if (tr_test (EM.er (em_op o_ne (ES.er (es_var 3)) (EM.er em_int)))) (st_ret (M := []) em_bl) st_next)
      (st_seq (st_tryI 4 mono_ones_at (ar_cons (EM.er (em_cb c_list (ar_cons (ES.er (es_var 0)) ar_nil))) (ar_cons (EM.er (em_cb c_list (ar_cons (ES.er (es_var 1)) ar_nil))) (ar_cons (ES.er (es_var 2)) ar_nil))) (sti_know 3 (n := 3) (fun a σ H Q hi q => isx_one xs.v_NoNumber hi (.inr ⟨true, rfl, ⟨3, 1, rfl, rfl, ⟨64, 64, by decide, by decide, by decide⟩, q _ (Same.refl _)⟩⟩))))
      (st_ret (M := []) (em_op o_eq (ES.er (es_var 3)) (EM.er em_int))))))) (fun ds P hS => ?_) h⟩
  obtain ⟨rows, cols, d, rfl, hk, r5, c1, c5, hn, hP⟩ := hS
  rw [show startD N_law_refused [dI rows, dI cols, d] = [some (dI rows), some (dI cols), some (d), none, none] from rfl]
  walk_at "go"
  refine ⟨rows, cols, d, rfl, hk, r5, c1, c5, fun n e q0 q1 => absurd ⟨q0, q1⟩ (hn n e), fun _ => ⟨rfl, by omega, scal_ints, scal_ints, rows, cols, d, rfl, hk, r5, c1, c5, fun n e q0 q1 => absurd ⟨q0, q1⟩ (hn n e), fun _ => ⟨rfl, ?_⟩⟩⟩
  walk_at "go"
  exact hP
theorem peel {A R : DS} {E : DEnds} {δ : Dl} (h : ∀ R', R' = R → vSeq A R' E δ) : vSeq A R E δ := h R rfl
theorem at_mem {ds : List D} {i : Int} {Q : DK} (h : 0 ≤ i ∧ i < ds.length) (k : ∀ z ∈ ds, Q z) : asO (atI ds i) Q := by
  have e : atI ds i = ds[i.toNat]? := by
    unfold atI ixN
    rw [if_pos h.1, if_pos h.2]; rfl
  have hl : i.toNat < ds.length := by omega
  rw [e, List.getElem?_eq_getElem hl, asO_some]
  exact k _ (List.getElem_mem hl)
def S_law : DSp := fun ds P => ∃ ns, ds = [.scr ns] ∧ ns.length ≤ 63 ∧ P (.bl true)
theorem law_goal {ns : List Int} {P : DK} (hl : ns.length ≤ 63) (h : P (.bl true)) : S_law [.scr ns] P := ⟨ns, rfl, hl, h⟩
theorem mono_law : DMono S_law := by
  intro xs P P' k h
  unfold S_law at h ⊢
  grind
theorem len_law : ∀ ds P, S_law ds P → ds.length = 1 := by
  intro ds P h
  obtain ⟨_, e, _⟩ := h
  rw [e]; rfl
theorem ok_law {c : Cs} {f : Addr} {fd : FuncData} (F : FnAt K mg "law" s_law P_law f fd) (A_ : Fns K mg c) (T : Txt K mg) (xs : Exs K mg base c) : FnOk P w K mg base CX0 13 f fd P_law (spP K S_law) := by
  obtain ⟨f0, d0, E_law_fold⟩ := A_.h_law_fold
  have G_law_fold : FnOk P w K mg base CX0 1 f0 d0 P_law_fold (spP K S_law_fold) := ok_law_fold E_law_fold A_ T xs
  obtain ⟨f1, d1, E_law_sums⟩ := A_.h_law_sums
  have G_law_sums : FnOk P w K mg base CX0 2 f1 d1 P_law_sums (spP K S_law_sums) := ok_law_sums E_law_sums A_ T xs
  obtain ⟨f2, d2, E_count_of⟩ := A_.h_count_of
  have G_count_of : FnOk P w K mg base (CXR P w) 10 f2 d2 P_count_of (spX K (S_count_of c)) := ok_count_of E_count_of A_ T xs
  obtain ⟨f3, d3, E_law_refused⟩ := A_.h_law_refused
  have G_law_refused : FnOk P w K mg base CX0 12 f3 d3 P_law_refused (spP K S_law_refused) := ok_law_refused E_law_refused A_ T xs
  obtain ⟨f4, d4, E_law_there_and_back⟩ := A_.h_law_there_and_back
  have G_law_there_and_back : FnOk P w K mg base CX0 12 f4 d4 P_law_there_and_back (spP K S_law_there_and_back) := ok_law_there_and_back E_law_there_and_back A_ T xs
  obtain ⟨f5, d5, E_ones_at⟩ := A_.h_ones_at
  have G_ones_at : FnOk P w K mg base (CXR P w) 11 f5 d5 P_ones_at (spX K (S_ones_at c)) := ok_ones_at E_ones_at A_ T xs
  refine F.fn.ok sc_law (fun vs H Q E h => spP_len len_law h) (fun cdv A outer s H vs Q E hr h => ?_)
  refine ⟨_, (pss_cons (ps_set (i := 1) sc_law.nd rfl (by first | exact Or.inl rfl | exact Or.inr rfl) (pe_call G_law_fold (hr.mono (by decide)) rfl E_law_fold.mg E_law_fold.fn.kp E_law_fold.bd .nil pass0 (pa_cons (pv 0) (pa_cons pe_int pa_nil))))
      (pss_cons (ps_asg (pe_call G_law_sums (hr.mono (by decide)) rfl E_law_sums.mg E_law_sums.fn.kp E_law_sums.bd .nil pass0 (pa_cons (pv 1) (pa_cons (pe_op op_add pe_int (pe_callTy call_int1 (by rfl) T.int_ boot_int (pa_cons (pe_cmpR op_eq (pe_op op_and (pe_op op_shr (pv 1) pe_int) pe_int) pe_int (nomark _)) pa_nil))) pa_nil))) (pg_lstK (K := K) rfl rfl (pgs_cons (pg_name (i := 2) sc_law.nd rfl (by first | exact Or.inl rfl | exact Or.inr rfl)) (pgs_cons (pg_name (i := 3) sc_law.nd rfl (by first | exact Or.inl rfl | exact Or.inr rfl)) pgs_nil))))
      (pss_cons (ps_set (i := 4) sc_law.nd rfl (by first | exact Or.inl rfl | exact Or.inr rfl) (pe_call G_count_of (hr.mono (by decide)) rfl E_count_of.mg E_count_of.fn.kp E_count_of.bd .nil passN (pa_cons (pv 2) (pa_cons (pv 3) pa_nil))))
      (pss_cons (ps_set (i := 5) sc_law.nd rfl (by first | exact Or.inl rfl | exact Or.inr rfl) (pe_lst (pa_cons (pv 4) (pa_cons (pe_op op_add (pv 4) (pv 1)) (pa_cons (pe_un un_neg pe_int) (pa_cons (pe_op op_sub (pe_un un_neg pe_int) (pv 1)) (pa_cons pe_bl (pa_cons pe_non (pa_cons pe_str (pa_cons (pe_lst (pa_cons pe_int pa_nil)) pa_nil))))))))))
      (pss_cons (ps_if (PW.pt (pw_or (pt_not (pt_val (pe_call G_law_refused (hr.mono (by decide)) rfl E_law_refused.mg E_law_refused.fn.kp E_law_refused.bd .nil pass0 (pa_cons (pv 2) (pa_cons (pv 3) (pa_cons (pe_ix (ix_listK (K := K) rfl) (pv 5) (pe_op op_mod (pe_op op_fdivB (pv 1) (pe_op op_pow pe_int pe_int)) pe_int) (fun _ _ => rfl)) pa_nil)))))) (pw_or1 (pt_not (pt_val (pe_call G_law_refused (hr.mono (by decide)) rfl E_law_refused.mg E_law_refused.fn.kp E_law_refused.bd .nil pass0 (pa_cons (pv 2) (pa_cons (pv 3) (pa_cons (pv 4) pa_nil))))))))) (pss_one (ps_ret pe_bl)) pss_nil)
      (pss_cons (ps_if (pt_cmpR op_eq (pv 4) pe_int (nomark _)) (pss_one (ps_ret pe_bl)) pss_nil)
      (pss_cons (ps_set (i := 6) sc_law.nd rfl (by first | exact Or.inl rfl | exact Or.inr rfl) (pe_op op_mod (pe_op op_fdivB (pv 1) (pe_op op_pow pe_int pe_int)) (pv 4)))
      (pss_cons (ps_for PassesOwn.never rfl (pi_listK (K := K) rfl (pe_lst (pa_cons pe_int (pa_cons (pe_op op_sub (pv 4) pe_int) (pa_cons (pv 6) pa_nil))))) (pg_name (i := 7) sc_law.nd rfl (by first | exact Or.inl rfl | exact Or.inr rfl)) (pss_one (ps_if (pt_not (pt_val (pe_call G_law_there_and_back (hr.mono (by decide)) rfl E_law_there_and_back.mg E_law_there_and_back.fn.kp E_law_there_and_back.bd .nil pass0 (pa_cons (pv 2) (pa_cons (pv 3) (pa_cons (pv 7) pa_nil)))))) (pss_one (ps_ret pe_bl)) pss_nil)))
      (pss_one (ps_ret (pe_or (pe_cmpR op_eq (pe_op op_add (pv 6) pe_int) (pv 4) (nomark _)) (pe_one (pe_cmpR (op_ltTb hr.units) (pe_call G_ones_at (hr.mono (by decide)) rfl E_ones_at.mg E_ones_at.fn.kp E_ones_at.bd .nil passN (pa_cons (pv 2) (pa_cons (pv 3) (pa_cons (pv 6) pa_nil)))) (pe_call G_ones_at (hr.mono (by decide)) rfl E_ones_at.mg E_ones_at.fn.kp E_ones_at.bd .nil passN (pa_cons (pv 2) (pa_cons (pv 3) (pa_cons (pe_op op_add (pv 6) pe_int) pa_nil)))) (nomark _)))))))))))))), fn_val (Γn := []) (N := N_law) (st_seq (ST.post (Γn := []) (st_setS 1 (EM.es (em_call (S := S_law_fold) mono_law_fold (ar_cons (ES.er (es_var 0)) (ar_cons (EM.er em_int) ar_nil))))))
      (st_seq (st_asgS (EM.es (em_call (S := S_law_sums) mono_law_sums (ar_cons (ES.er (es_var 1)) (ar_cons (EM.er (em_op o_int (EM.er em_int) (EM.er (em_cb c_int (ar_cons (EM.er (em_op o_eq (EM.er (em_op o_int (EM.er (em_op o_intC (ES.er (es_var 1)) (EM.er em_int))) (EM.er em_int))) (EM.er em_int))) ar_nil))))) ar_nil)))) (gt_lst (gts_cons (gt_name 2) (gts_cons (gt_name 3) gts_nil))))
      (st_seq (ST.post (Γn := []) (st_setS 4 (EM.es (em_noX mono_count_of (ar_cons (ES.er (es_var 2)) (ar_cons (ES.er (es_var 3)) ar_nil))))))
      (st_seq (ST.post (Γn := []) (st_setS 5 (EM.es (em_lst (am_cons0 (ER.scal (ES.er (es_var 4))) (am_cons0 (em_op o_int (ES.er (es_var 4)) (ES.er (es_var 1))) (am_cons0 (em_un u_int (EM.er em_int)) (am_cons0 (em_op o_int (EM.er (em_un u_int (EM.er em_int))) (ES.er (es_var 1))) (am_cons0 em_bl (am_cons0 em_non (am_cons0 em_str (am_cons0 (em_lst (am_cons0 em_int am_nil)) am_nil))))))))))))
      (st_seq (st_if (tr_or (tr_not (tr_b (EM.er (em_call (S := S_law_refused) mono_law_refused (ar_cons (ES.er (es_var 2)) (ar_cons (ES.er (es_var 3)) (ar_cons (ES.er (es_ixL (es_var 5) (EM.er (em_op o_intC (EM.er (em_op o_intC (ES.er (es_var 1)) (EM.er (em_op o_intC (EM.er em_int) (EM.er em_int))))) (EM.er em_int))))) ar_nil))))))) (tr_not (tr_b (EM.er (em_call (S := S_law_refused) mono_law_refused (ar_cons (ES.er (es_var 2)) (ar_cons (ES.er (es_var 3)) (ar_cons (ES.er (es_var 4)) ar_nil)))))))) (st_ret (M := []) em_bl) st_next)
      (st_seq (st_if (tr_test (EM.er (em_op o_eq (ES.er (es_var 4)) (EM.er em_int)))) (st_ret (M := []) em_bl) st_next)
      (st_seq (ST.post (Γn := []) (st_setS 6 (EM.es (em_op o_intC (EM.er (em_op o_intC (ES.er (es_var 1)) (EM.er (em_op o_intC (EM.er em_int) (EM.er em_int))))) (ES.er (es_var 4))))))
      (st_seq (st_for (it_list (EM.es (em_lst (am_cons0 em_int (am_cons0 (em_op o_int (ES.er (es_var 4)) (EM.er em_int)) (am_cons0 (ER.scal (ES.er (es_var 6))) am_nil)))))) (gt_name 7) (st_if (tr_not (tr_b (EM.er (em_call (S := S_law_there_and_back) mono_law_there_and_back (ar_cons (ES.er (es_var 2)) (ar_cons (ES.er (es_var 3)) (ar_cons (ES.er (es_var 7)) ar_nil))))))) (st_ret (M := []) em_bl) st_next))
      (st_ret (M := []) (em_orV (EM.er (em_op o_eq (EM.er (em_op o_int (ES.er (es_var 6)) (EM.er em_int))) (ES.er (es_var 4)))) (em_op o_ltTb (EM.er (em_noX mono_ones_at (ar_cons (ES.er (es_var 2)) (ar_cons (ES.er (es_var 3)) (ar_cons (ES.er (es_var 6)) ar_nil))))) (EM.er (em_noX mono_ones_at (ar_cons (ES.er (es_var 2)) (ar_cons (ES.er (es_var 3)) (ar_cons (EM.er (em_op o_int (ES.er (es_var 6)) (EM.er em_int))) ar_nil)))))))))))))))) (fun ds P hS => ?_) h⟩
  obtain ⟨ns, rfl, hz, hP⟩ := hS
  rw [show startD N_law [.scr ns] = [some (.scr ns), none, none, none, none, none, none, none] from rfl]
  refine peel fun R1 e1 => ?_
  walk_at "go"
  refine ⟨ns, _, rfl, by decide, by decide, fun x x0 x1 => ?_⟩
  subst e1
  refine peel fun R2 e2 => ?_
  walk_at "go"
  refine ⟨x, _, rfl, x0, x1, by split <;> omega, by split <;> omega, fun rows cols r1 r5 c1 c5 br bc => ?_⟩
  walk_at "go"
  subst e2
  refine peel fun R3 e3 => ?_
  walk_at "go"
  have sm : rows.length ≤ 5 ∧ cols.length ≤ 5 := ⟨r5, c5⟩
  refine ⟨rows, cols, rfl, c1, by omega, fun _ => ?_, fun z => absurd sm z⟩
  subst e3
  refine peel fun R4 e4 => ?_
  walk_at "go"
  subst e4
  refine peel fun R5 e5 => ?_
  walk_at "go"
  have w0 := Tal.W_nonneg (rs := rows) (left := cols)
  have b8 := emod_lt (x := x / 1048576) (n := 8) (by omega)
  refine at_mem (by simp only [List.length_cons, List.length_nil]; omega) fun z hz => ?_
  refine ⟨rows, cols, z, rfl, ?_, r5, c1, c5, ?_, ?_⟩
  · simp only [List.mem_cons, List.not_mem_nil, or_false] at hz
    rcases hz with rfl | rfl | rfl | rfl | rfl | rfl | rfl | rfl <;> rfl
  · intro n e hn
    subst e
    simp only [List.mem_cons, List.not_mem_nil, or_false, L3.D.int.injEq, reduceCtorEq] at hz
    omega
  walk_at "go"
  refine ⟨rows, cols, _, rfl, rfl, r5, c1, c5, fun n e hn => ?_, ?_⟩
  · cases e; omega
  walk_at "go"
  subst e5
  walk_at "go"
  by_cases h0 : Tal.W rows cols = 0
  · rw [if_pos h0]; exact hP
  rw [if_neg h0]
  have bw := emod_lt (x := x / 512) (n := Tal.W rows cols) (by omega)
  refine ⟨by walk_at "cd", by walk_at "cd", by omega, by decide, ?_⟩
  generalize x / 512 % Tal.W rows cols = at_ at bw ⊢
  generalize (L3.D.lst [L3.D.int (Tal.W rows cols), L3.D.int (Tal.W rows cols + x), L3.D.int (-1), L3.D.int (-1 - x), L3.D.bl true, L3.D.non, L3.D.str (Str.ofString "0"), L3.D.lst [L3.D.int 0]]) = dd
  refine loop_any (as := [0, Tal.W rows cols - 1, at_]) (f := L3.D.int) (fun i δ => ∃ o : Option D, δ = [some (L3.D.scr ns), some (L3.D.int x), some (dI rows), some (dI cols), some (L3.D.int (Tal.W rows cols)), some dd, some (L3.D.int at_), o]) ⟨none, rfl⟩ ?_ ?_
  · rintro i a δ N e ⟨o, rfl⟩ hN
    have ha : a = 0 ∨ a = Tal.W rows cols - 1 ∨ a = at_ := by have := List.mem_of_getElem? e; simpa using this
    walk_at "go"
    refine ⟨rows, cols, a, rfl, r1, r5, c1, c5, by omega, by omega, ?_⟩
    walk_at "go"
    exact hN _ ⟨_, rfl⟩
  · rintro δ ⟨o, rfl⟩
    walk_at "go"
    by_cases hl : at_ + 1 = Tal.W rows cols
    · rw [if_pos hl]; exact hP
    rw [if_neg hl]
    refine ⟨rows, cols, _, rfl, rfl, r5, c1, c5, fun q e q0 q1 t oT eT => ?_, fun z => absurd bw (z _ rfl)⟩
    cases e
    refine ⟨rows, cols, _, rfl, rfl, r5, c1, c5, fun q e q0 q1 u oU eU => ?_, fun z => absurd ⟨by omega, by omega⟩ (z _ rfl)⟩
    cases e
    obtain ⟨_, _, hz1⟩ := Tal.own_Ok oT
    obtain ⟨_, _, hz2⟩ := Tal.own_Ok oU
    refine ⟨t, u, rfl, rfl, ?_, ?_⟩
    · have l1 := Tal.Ok_len oT
      have l2 := Tal.Ok_len oU
      refine List.ext_getElem (by rw [List.length_map, List.length_map, l1, l2]) fun i h1 h2 => ?_
      rw [List.getElem_map, List.getElem_map, (hz1 _ (List.getElem_mem _)).1, (hz2 _ (List.getElem_mem _)).1]
    · have ne : t ≠ u := fun z => by subst z; omega
      rcases Tal.lxT_total oT oU ne with e | e
      · rw [e]; exact hP
      · have := Tal.N_mono oU oT e
        omega
end
end Mine
set_option Elab.async false
set_option linter.all false
set_option maxRecDepth 100000
set_option maxHeartbeats 16000000
namespace Mine
open PySem L2 PyProof.Rows
theorem all_mk {l : PySem.W.OpenLaw} {w : World} {K : PySem.W.Frag} {h : Heap} {mg : Str → Option Value} {fa f0 f1 f2 f3 f4 f5 f6 f7 f8 f9 f10 f11 f12 f13 f14 f15 f16 f17 f18 f19 f20 f21 f22 f23 : Addr} (X : K.In h) (G : h.Ns mainGlobals mg) (hfa : mg "law" = some (.ref fa))
    {od0 an0 od1 an1 od2 an2 od3 an3 od4 an4 od5 an5 od6 an6 od7 an7 od8 an8 od9 an9 od10 an10 od11 an11 od12 an12 od13 an13 od14 an14 od15 an15 od16 an16 od17 an17 od18 an18 od19 an19 od20 an20 od21 an21 od22 an22 od23 an23 : Option Addr} {sl0 sl1 sl2 sl3 sl4 sl5 sl6 sl7 sl8 sl9 sl10 sl11 sl12 sl13 sl14 sl15 sl16 sl17 sl18 sl19 sl20 sl21 sl22 sl23 : Array (Option Value)} {oc0 kV0 dc0 pm0 cd0 ct0 oc1 kV1 dc1 pm1 cd1 ct1 oc2 kV2 dc2 pm2 cd2 ct2 oc3 kV3 dc3 pm3 cd3 ct3 oc4 kV4 dc4 pm4 cd4 ct4 oc5 kV5 dc5 pm5 cd5 ct5 oc6 kV6 dc6 pm6 cd6 ct6 oc7 kV7 dc7 pm7 cd7 ct7 oc8 kV8 dc8 pm8 cd8 ct8 oc9 kV9 dc9 pm9 cd9 ct9 oc10 kV10 dc10 pm10 cd10 ct10 oc11 kV11 dc11 pm11 cd11 ct11 oc12 kV12 dc12 pm12 cd12 ct12 oc13 kV13 dc13 pm13 cd13 ct13 oc14 kV14 dc14 pm14 cd14 ct14 oc15 kV15 dc15 pm15 cd15 ct15 oc16 kV16 dc16 pm16 cd16 ct16 oc17 kV17 dc17 pm17 cd17 ct17 oc18 kV18 dc18 pm18 cd18 ct18 oc19 kV19 dc19 pm19 cd19 ct19 oc20 kV20 dc20 pm20 cd20 ct20 oc21 kV21 dc21 pm21 cd21 ct21 oc22 kV22 dc22 pm22 cd22 ct22 oc23 kV23 dc23 pm23 cd23 ct23 : Value}
    {C_MixError C_NoTable C_NoBottom C_NotAlike C_NoStep C_NoMix C_NotEven C_NoSwap C_NoBounds C_NoPlace C_NoSums C_TooGreat C_NoNumber C_NoText C_Tally : Addr}
    (a0 : PySem.W.nsIn K mainGlobals "less_row" = some (some (.ref f0))) (l0 : K.lookup f0 = some ⟨oc0, od0, .func (PySem.W.fnOf "less_row" "less_row" (defArgs s_less_row) (defBody s_less_row) (defScope s_less_row) .none kV0 dc0 pm0 an0 cd0 ct0), sl0⟩) (c0 : PySem.W.codeIn K cd0 "less_row" = true) (k0 : PySem.W.keepIn K (.ref f0) = true)
    (a1 : PySem.W.nsIn K mainGlobals "is_number" = some (some (.ref f1))) (l1 : K.lookup f1 = some ⟨oc1, od1, .func (PySem.W.fnOf "is_number" "is_number" (defArgs s_is_number) (defBody s_is_number) (defScope s_is_number) .none kV1 dc1 pm1 an1 cd1 ct1), sl1⟩) (c1 : PySem.W.codeIn K cd1 "is_number" = true) (k1 : PySem.W.keepIn K (.ref f1) = true)
    (a2 : PySem.W.nsIn K mainGlobals "sums_of_rows" = some (some (.ref f2))) (l2 : K.lookup f2 = some ⟨oc2, od2, .func (PySem.W.fnOf "sums_of_rows" "sums_of_rows" (defArgs s_sums_of_rows) (defBody s_sums_of_rows) (defScope s_sums_of_rows) .none kV2 dc2 pm2 an2 cd2 ct2), sl2⟩) (c2 : PySem.W.codeIn K cd2 "sums_of_rows" = true) (k2 : PySem.W.keepIn K (.ref f2) = true)
    (a3 : PySem.W.nsIn K mainGlobals "sums_of_columns" = some (some (.ref f3))) (l3 : K.lookup f3 = some ⟨oc3, od3, .func (PySem.W.fnOf "sums_of_columns" "sums_of_columns" (defArgs s_sums_of_columns) (defBody s_sums_of_columns) (defScope s_sums_of_columns) .none kV3 dc3 pm3 an3 cd3 ct3), sl3⟩) (c3 : PySem.W.codeIn K cd3 "sums_of_columns" = true) (k3 : PySem.W.keepIn K (.ref f3) = true)
    (a4 : PySem.W.nsIn K mainGlobals "turned_table" = some (some (.ref f4))) (l4 : K.lookup f4 = some ⟨oc4, od4, .func (PySem.W.fnOf "turned_table" "turned_table" (defArgs s_turned_table) (defBody s_turned_table) (defScope s_turned_table) .none kV4 dc4 pm4 an4 cd4 ct4), sl4⟩) (c4 : PySem.W.codeIn K cd4 "turned_table" = true) (k4 : PySem.W.keepIn K (.ref f4) = true)
    (a5 : PySem.W.nsIn K mainGlobals "column_of" = some (some (.ref f5))) (l5 : K.lookup f5 = some ⟨oc5, od5, .func (PySem.W.fnOf "column_of" "column_of" (defArgs s_column_of) (defBody s_column_of) (defScope s_column_of) .none kV5 dc5 pm5 an5 cd5 ct5), sl5⟩) (c5 : PySem.W.codeIn K cd5 "column_of" = true) (k5 : PySem.W.keepIn K (.ref f5) = true)
    (a6 : PySem.W.nsIn K mainGlobals "check_size" = some (some (.ref f6))) (l6 : K.lookup f6 = some ⟨oc6, od6, .func (PySem.W.fnOf "check_size" "check_size" (defArgs s_check_size) (defBody s_check_size) (defScope s_check_size) .none kV6 dc6 pm6 an6 cd6 ct6), sl6⟩) (c6 : PySem.W.codeIn K cd6 "check_size" = true) (k6 : PySem.W.keepIn K (.ref f6) = true)
    (a7 : PySem.W.findIn K (.ref C_Tally) "__init__" = some (some (.ref f7))) (i7 : PySem.W.isFn K (.ref f7) = true) (l7 : K.lookup f7 = some ⟨oc7, od7, .func (PySem.W.fnOf "__init__" "Tally.__init__" (defArgs s_Tally_init) (defBody s_Tally_init) (defScope s_Tally_init) .none kV7 dc7 pm7 an7 cd7 ct7), sl7⟩) (c7 : PySem.W.codeIn K cd7 "Tally.__init__" = true) (k7 : PySem.W.keepIn K (.ref f7) = true)
    (a8 : PySem.W.findIn K (.ref C_Tally) "ways" = some (some (.ref f8))) (i8 : PySem.W.isFn K (.ref f8) = true) (l8 : K.lookup f8 = some ⟨oc8, od8, .func (PySem.W.fnOf "ways" "Tally.ways" (defArgs s_Tally_ways) (defBody s_Tally_ways) (defScope s_Tally_ways) .none kV8 dc8 pm8 an8 cd8 ct8), sl8⟩) (c8 : PySem.W.codeIn K cd8 "Tally.ways" = true) (k8 : PySem.W.keepIn K (.ref f8) = true)
    (a9 : PySem.W.findIn K (.ref C_Tally) "ahead" = some (some (.ref f9))) (i9 : PySem.W.isFn K (.ref f9) = true) (l9 : K.lookup f9 = some ⟨oc9, od9, .func (PySem.W.fnOf "ahead" "Tally.ahead" (defArgs s_Tally_ahead) (defBody s_Tally_ahead) (defScope s_Tally_ahead) .none kV9 dc9 pm9 an9 cd9 ct9), sl9⟩) (c9 : PySem.W.codeIn K cd9 "Tally.ahead" = true) (k9 : PySem.W.keepIn K (.ref f9) = true)
    (a10 : PySem.W.nsIn K mainGlobals "lines_with" = some (some (.ref f10))) (l10 : K.lookup f10 = some ⟨oc10, od10, .func (PySem.W.fnOf "lines_with" "lines_with" (defArgs s_lines_with) (defBody s_lines_with) (defScope s_lines_with) .none kV10 dc10 pm10 an10 cd10 ct10), sl10⟩) (c10 : PySem.W.codeIn K cd10 "lines_with" = true) (k10 : PySem.W.keepIn K (.ref f10) = true)
    (a11 : PySem.W.nsIn K mainGlobals "all_lines" = some (some (.ref f11))) (l11 : K.lookup f11 = some ⟨oc11, od11, .func (PySem.W.fnOf "all_lines" "all_lines" (defArgs s_all_lines) (defBody s_all_lines) (defScope s_all_lines) .none kV11 dc11 pm11 an11 cd11 ct11), sl11⟩) (c11 : PySem.W.codeIn K cd11 "all_lines" = true) (k11 : PySem.W.keepIn K (.ref f11) = true)
    (a12 : PySem.W.nsIn K mainGlobals "count_of" = some (some (.ref f12))) (l12 : K.lookup f12 = some ⟨oc12, od12, .func (PySem.W.fnOf "count_of" "count_of" (defArgs s_count_of) (defBody s_count_of) (defScope s_count_of) .none kV12 dc12 pm12 an12 cd12 ct12), sl12⟩) (c12 : PySem.W.codeIn K cd12 "count_of" = true) (k12 : PySem.W.keepIn K (.ref f12) = true)
    (a13 : PySem.W.nsIn K mainGlobals "ones_at" = some (some (.ref f13))) (l13 : K.lookup f13 = some ⟨oc13, od13, .func (PySem.W.fnOf "ones_at" "ones_at" (defArgs s_ones_at) (defBody s_ones_at) (defScope s_ones_at) .none kV13 dc13 pm13 an13 cd13 ct13), sl13⟩) (c13 : PySem.W.codeIn K cd13 "ones_at" = true) (k13 : PySem.W.keepIn K (.ref f13) = true)
    (a14 : PySem.W.nsIn K mainGlobals "number_of" = some (some (.ref f14))) (l14 : K.lookup f14 = some ⟨oc14, od14, .func (PySem.W.fnOf "number_of" "number_of" (defArgs s_number_of) (defBody s_number_of) (defScope s_number_of) .none kV14 dc14 pm14 an14 cd14 ct14), sl14⟩) (c14 : PySem.W.codeIn K cd14 "number_of" = true) (k14 : PySem.W.keepIn K (.ref f14) = true)
    (a15 : PySem.W.nsIn K mainGlobals "_law_fold" = some (some (.ref f15))) (l15 : K.lookup f15 = some ⟨oc15, od15, .func (PySem.W.fnOf "_law_fold" "_law_fold" (defArgs s_law_fold) (defBody s_law_fold) (defScope s_law_fold) .none kV15 dc15 pm15 an15 cd15 ct15), sl15⟩) (c15 : PySem.W.codeIn K cd15 "_law_fold" = true) (k15 : PySem.W.keepIn K (.ref f15) = true)
    (a16 : PySem.W.nsIn K mainGlobals "_law_ones" = some (some (.ref f16))) (l16 : K.lookup f16 = some ⟨oc16, od16, .func (PySem.W.fnOf "_law_ones" "_law_ones" (defArgs s_law_ones) (defBody s_law_ones) (defScope s_law_ones) .none kV16 dc16 pm16 an16 cd16 ct16), sl16⟩) (c16 : PySem.W.codeIn K cd16 "_law_ones" = true) (k16 : PySem.W.keepIn K (.ref f16) = true)
    (a17 : PySem.W.nsIn K mainGlobals "_law_sums" = some (some (.ref f17))) (l17 : K.lookup f17 = some ⟨oc17, od17, .func (PySem.W.fnOf "_law_sums" "_law_sums" (defArgs s_law_sums) (defBody s_law_sums) (defScope s_law_sums) .none kV17 dc17 pm17 an17 cd17 ct17), sl17⟩) (c17 : PySem.W.codeIn K cd17 "_law_sums" = true) (k17 : PySem.W.keepIn K (.ref f17) = true)
    (a18 : PySem.W.nsIn K mainGlobals "_law_whole" = some (some (.ref f18))) (l18 : K.lookup f18 = some ⟨oc18, od18, .func (PySem.W.fnOf "_law_whole" "_law_whole" (defArgs s_law_whole) (defBody s_law_whole) (defScope s_law_whole) .none kV18 dc18 pm18 an18 cd18 ct18), sl18⟩) (c18 : PySem.W.codeIn K cd18 "_law_whole" = true) (k18 : PySem.W.keepIn K (.ref f18) = true)
    (a19 : PySem.W.nsIn K mainGlobals "_law_is_ones" = some (some (.ref f19))) (l19 : K.lookup f19 = some ⟨oc19, od19, .func (PySem.W.fnOf "_law_is_ones" "_law_is_ones" (defArgs s_law_is_ones) (defBody s_law_is_ones) (defScope s_law_is_ones) .none kV19 dc19 pm19 an19 cd19 ct19), sl19⟩) (c19 : PySem.W.codeIn K cd19 "_law_is_ones" = true) (k19 : PySem.W.keepIn K (.ref f19) = true)
    (a20 : PySem.W.nsIn K mainGlobals "_law_there_and_back" = some (some (.ref f20))) (l20 : K.lookup f20 = some ⟨oc20, od20, .func (PySem.W.fnOf "_law_there_and_back" "_law_there_and_back" (defArgs s_law_there_and_back) (defBody s_law_there_and_back) (defScope s_law_there_and_back) .none kV20 dc20 pm20 an20 cd20 ct20), sl20⟩) (c20 : PySem.W.codeIn K cd20 "_law_there_and_back" = true) (k20 : PySem.W.keepIn K (.ref f20) = true)
    (a21 : PySem.W.nsIn K mainGlobals "_law_alone" = some (some (.ref f21))) (l21 : K.lookup f21 = some ⟨oc21, od21, .func (PySem.W.fnOf "_law_alone" "_law_alone" (defArgs s_law_alone) (defBody s_law_alone) (defScope s_law_alone) .none kV21 dc21 pm21 an21 cd21 ct21), sl21⟩) (c21 : PySem.W.codeIn K cd21 "_law_alone" = true) (k21 : PySem.W.keepIn K (.ref f21) = true)
    (a22 : PySem.W.nsIn K mainGlobals "_law_refused" = some (some (.ref f22))) (l22 : K.lookup f22 = some ⟨oc22, od22, .func (PySem.W.fnOf "_law_refused" "_law_refused" (defArgs s_law_refused) (defBody s_law_refused) (defScope s_law_refused) .none kV22 dc22 pm22 an22 cd22 ct22), sl22⟩) (c22 : PySem.W.codeIn K cd22 "_law_refused" = true) (k22 : PySem.W.keepIn K (.ref f22) = true)
    (a23 : PySem.W.nsIn K mainGlobals "law" = some (some (.ref f23))) (l23 : K.lookup f23 = some ⟨oc23, od23, .func (PySem.W.fnOf "law" "law" (defArgs s_law) (defBody s_law) (defScope s_law) .none kV23 dc23 pm23 an23 cd23 ct23), sl23⟩) (c23 : PySem.W.codeIn K cd23 "law" = true) (k23 : PySem.W.keepIn K (.ref f23) = true)
    (sg : PySem.W.specialIn K (.builtin "object.__class__") "__get__" = some (some (.builtin "getset_descriptor.__get__"))) (tg : PySem.W.takesIn K (.builtin "object.__class__") = some true)
    (pg_Tally : PySem.W.plainGet K C_Tally Str.empty = true) (hd_Tally : PySem.W.hasDictIn K C_Tally = true) (po_Tally : PySem.W.plainOver K C_Tally = true) (sa_Tally : PySem.W.findIn K (.ref C_Tally) "__setattr__" = some (some (.builtin "object.__setattr__"))) (mk_Tally : PySem.W.makesIn K C_Tally = true) (kc_Tally : PySem.W.keepIn K (.ref C_Tally) = true)
    (cl_Tally : PySem.W.findIn K (.ref C_Tally) "__class__" = some (some (.builtin "object.__class__"))) (ob_Tally : PySem.W.mroIn K C_Tally (.type "object") = some true)
    (na_Tally_choices : PySem.W.findIn K (.ref C_Tally) "choices" = some none)
    (na_Tally_known : PySem.W.findIn K (.ref C_Tally) "known" = some none)
    {dd_MixError : Option Addr} {nm_MixError qn_MixError : Str} {bs_MixError : List Value} {ns_MixError : Addr} {hd_MixError : Bool} {sn_MixError : List Str} {sub_MixError : List Value} {ab_MixError : Bool} {col_MixError : Option Bool} {k0_MixError k1_MixError k2_MixError k3_MixError k5_MixError : Option Value}
    {dd_NoNumber : Option Addr} {nm_NoNumber qn_NoNumber : Str} {bs_NoNumber : List Value} {ns_NoNumber : Addr} {hd_NoNumber : Bool} {sn_NoNumber : List Str} {sub_NoNumber : List Value} {ab_NoNumber : Bool} {col_NoNumber : Option Bool} {k0_NoNumber k1_NoNumber k2_NoNumber k3_NoNumber k5_NoNumber : Option Value}
    {dd_TooGreat : Option Addr} {nm_TooGreat qn_TooGreat : Str} {bs_TooGreat : List Value} {ns_TooGreat : Addr} {hd_TooGreat : Bool} {sn_TooGreat : List Str} {sub_TooGreat : List Value} {ab_TooGreat : Bool} {col_TooGreat : Option Bool} {k0_TooGreat k1_TooGreat k2_TooGreat k3_TooGreat k5_TooGreat : Option Value}
    (e_MixError : PySem.W.nsIn K mainGlobals "MixError" = some (some (.ref C_MixError)))
    (e_NoTable : PySem.W.nsIn K mainGlobals "NoTable" = some (some (.ref C_NoTable)))
    (e_NoBottom : PySem.W.nsIn K mainGlobals "NoBottom" = some (some (.ref C_NoBottom)))
    (e_NotAlike : PySem.W.nsIn K mainGlobals "NotAlike" = some (some (.ref C_NotAlike)))
    (e_NoStep : PySem.W.nsIn K mainGlobals "NoStep" = some (some (.ref C_NoStep)))
    (e_NoMix : PySem.W.nsIn K mainGlobals "NoMix" = some (some (.ref C_NoMix)))
    (e_NotEven : PySem.W.nsIn K mainGlobals "NotEven" = some (some (.ref C_NotEven)))
    (e_NoSwap : PySem.W.nsIn K mainGlobals "NoSwap" = some (some (.ref C_NoSwap)))
    (e_NoBounds : PySem.W.nsIn K mainGlobals "NoBounds" = some (some (.ref C_NoBounds)))
    (e_NoPlace : PySem.W.nsIn K mainGlobals "NoPlace" = some (some (.ref C_NoPlace)))
    (e_NoSums : PySem.W.nsIn K mainGlobals "NoSums" = some (some (.ref C_NoSums)))
    (e_TooGreat : PySem.W.nsIn K mainGlobals "TooGreat" = some (some (.ref C_TooGreat)))
    (e_NoNumber : PySem.W.nsIn K mainGlobals "NoNumber" = some (some (.ref C_NoNumber)))
    (e_NoText : PySem.W.nsIn K mainGlobals "NoText" = some (some (.ref C_NoText)))
    (e_Tally : PySem.W.nsIn K mainGlobals "Tally" = some (some (.ref C_Tally)))
    (u_MixError : K.lookup C_MixError = some ⟨.type "type", dd_MixError, .cls ⟨nm_MixError, bs_MixError, .ref C_MixError :: VB, ns_MixError, qn_MixError, hd_MixError, sn_MixError, sub_MixError, ab_MixError, col_MixError, false⟩, #[k0_MixError, k1_MixError, k2_MixError, k3_MixError, some (.builtin "ValueError.__new__"), k5_MixError]⟩) (v_MixError : PySem.W.excIn K C_MixError VB "ValueError.__new__" = true)
    (u_NoNumber : K.lookup C_NoNumber = some ⟨.type "type", dd_NoNumber, .cls ⟨nm_NoNumber, bs_NoNumber, .ref C_NoNumber :: .ref C_MixError :: VB, ns_NoNumber, qn_NoNumber, hd_NoNumber, sn_NoNumber, sub_NoNumber, ab_NoNumber, col_NoNumber, false⟩, #[k0_NoNumber, k1_NoNumber, k2_NoNumber, k3_NoNumber, some (.builtin "ValueError.__new__"), k5_NoNumber]⟩) (v_NoNumber : PySem.W.excIn K C_NoNumber VB "ValueError.__new__" = true)
    (u_TooGreat : K.lookup C_TooGreat = some ⟨.type "type", dd_TooGreat, .cls ⟨nm_TooGreat, bs_TooGreat, .ref C_TooGreat :: .ref C_MixError :: VB, ns_TooGreat, qn_TooGreat, hd_TooGreat, sn_TooGreat, sub_TooGreat, ab_TooGreat, col_TooGreat, false⟩, #[k0_TooGreat, k1_TooGreat, k2_TooGreat, k3_TooGreat, some (.builtin "ValueError.__new__"), k5_TooGreat]⟩) (v_TooGreat : PySem.W.excIn K C_TooGreat VB "ValueError.__new__" = true)
    (ga_NoNumber : PySem.W.findIn K (.ref C_NoNumber) "__getattribute__" = some (some (.builtin "BaseException.__getattribute__"))) (ge_NoNumber : PySem.W.findIn K (.ref C_NoNumber) "__getattr__" = some none) (cl_NoNumber : PySem.W.findIn K (.ref C_NoNumber) "__class__" = some (some (.builtin "object.__class__"))) (ob_NoNumber : PySem.W.mroIn K C_NoNumber (.type "object") = some true) (be_NoNumber : PySem.W.mroIn K C_NoNumber (.type "BaseException") = some true)
    (ga_TooGreat : PySem.W.findIn K (.ref C_TooGreat) "__getattribute__" = some (some (.builtin "BaseException.__getattribute__"))) (ge_TooGreat : PySem.W.findIn K (.ref C_TooGreat) "__getattr__" = some none) (cl_TooGreat : PySem.W.findIn K (.ref C_TooGreat) "__class__" = some (some (.builtin "object.__class__"))) (ob_TooGreat : PySem.W.mroIn K C_TooGreat (.type "object") = some true) (be_TooGreat : PySem.W.mroIn K C_TooGreat (.type "BaseException") = some true)
    (kt1 : PySem.W.kitAny K (.ref C_NoNumber) [.ref C_NoBottom, .ref C_NoTable, .ref C_NotAlike, .ref C_NoStep, .ref C_NoMix, .ref C_NotEven] = some false)
    (kt2 : PySem.W.kitAny K (.ref C_NoNumber) [.ref C_NoSwap, .ref C_NoBounds, .ref C_NoPlace, .ref C_NoSums, .ref C_NoText, .ref C_TooGreat] = some false)
    (kv_NoNumber : PySem.W.kitOne K (.ref C_NoNumber) (.type "ValueError") = some true)
    {tk_MOST_COUNTED : Tok} (g_MOST_COUNTED : PySem.W.nsIn K mainGlobals "MOST_COUNTED" = some (some (Value.int 5 tk_MOST_COUNTED)))
    (z_len : PySem.W.nsIn K mainGlobals "len" = some none) (z_isinstance : PySem.W.nsIn K mainGlobals "isinstance" = some none) (z_int : PySem.W.nsIn K mainGlobals "int" = some none) (z_bool : PySem.W.nsIn K mainGlobals "bool" = some none) (z_list : PySem.W.nsIn K mainGlobals "list" = some none) (z_range : PySem.W.nsIn K mainGlobals "range" = some none) (z_min : PySem.W.nsIn K mainGlobals "min" = some none) (z_max : PySem.W.nsIn K mainGlobals "max" = some none) (z_sum : PySem.W.nsIn K mainGlobals "sum" = some none) (z_sorted : PySem.W.nsIn K mainGlobals "sorted" = some none) (z_tuple : PySem.W.nsIn K mainGlobals "tuple" = some none) (z_zip : PySem.W.nsIn K mainGlobals "zip" = some none) (z_ValueError : PySem.W.nsIn K mainGlobals "ValueError" = some none) :
    ∃ fd : FuncData, (∀ (s : Shared) (v : Value), BindsTo s fd ⟨[v], []⟩ [("_law_script", v)]) ∧ ∀ base : Heap, K.In base → base.Ns mainGlobals mg → FnOk l.prog w K mg base CX0 13 fa fd P_law (L3.spP K S_law) := by
  have e := hfa.symm.trans (PySem.W.mg_of X G a23)
  cases e
  have T : Txt K mg := ⟨PySem.W.mg_none_of X G z_len, PySem.W.mg_none_of X G z_isinstance, PySem.W.mg_none_of X G z_int, PySem.W.mg_none_of X G z_bool, PySem.W.mg_none_of X G z_list, PySem.W.mg_none_of X G z_range, PySem.W.mg_none_of X G z_min, PySem.W.mg_none_of X G z_max, PySem.W.mg_none_of X G z_sum, PySem.W.mg_none_of X G z_sorted, PySem.W.mg_none_of X G z_tuple, PySem.W.mg_none_of X G z_zip, PySem.W.mg_none_of X G z_ValueError, ⟨_, PySem.W.mg_of X G g_MOST_COUNTED⟩⟩
  have F0 := fun_mk (st := s_less_row) l0 c0 k0
  have E0 : FnAt K mg "less_row" s_less_row P_less_row f0 _ := ⟨F0, PySem.W.mg_of X G a0, F0.binds (ps := P_less_row) fun _ _ _ _ _ _ us hl => match us, hl with | [_, _], _ => rfl⟩
  have F1 := fun_mk (st := s_is_number) l1 c1 k1
  have E1 : FnAt K mg "is_number" s_is_number P_is_number f1 _ := ⟨F1, PySem.W.mg_of X G a1, F1.binds (ps := P_is_number) fun _ _ _ _ _ _ us hl => match us, hl with | [_], _ => rfl⟩
  have F2 := fun_mk (st := s_sums_of_rows) l2 c2 k2
  have E2 : FnAt K mg "sums_of_rows" s_sums_of_rows P_sums_of_rows f2 _ := ⟨F2, PySem.W.mg_of X G a2, F2.binds (ps := P_sums_of_rows) fun _ _ _ _ _ _ us hl => match us, hl with | [_], _ => rfl⟩
  have F3 := fun_mk (st := s_sums_of_columns) l3 c3 k3
  have E3 : FnAt K mg "sums_of_columns" s_sums_of_columns P_sums_of_columns f3 _ := ⟨F3, PySem.W.mg_of X G a3, F3.binds (ps := P_sums_of_columns) fun _ _ _ _ _ _ us hl => match us, hl with | [_], _ => rfl⟩
  have F4 := fun_mk (st := s_turned_table) l4 c4 k4
  have E4 : FnAt K mg "turned_table" s_turned_table P_turned_table f4 _ := ⟨F4, PySem.W.mg_of X G a4, F4.binds (ps := P_turned_table) fun _ _ _ _ _ _ us hl => match us, hl with | [_], _ => rfl⟩
  have F5 := fun_mk (st := s_column_of) l5 c5 k5
  have E5 : FnAt K mg "column_of" s_column_of P_column_of f5 _ := ⟨F5, PySem.W.mg_of X G a5, F5.binds (ps := P_column_of) fun _ _ _ _ _ _ us hl => match us, hl with | [_, _], _ => rfl⟩
  have F6 := fun_mk (st := s_check_size) l6 c6 k6
  have E6 : FnAt K mg "check_size" s_check_size P_check_size f6 _ := ⟨F6, PySem.W.mg_of X G a6, F6.binds (ps := P_check_size) fun _ _ _ _ _ _ us hl => match us, hl with | [_, _], _ => rfl⟩
  have F7 := fun_mk (st := s_Tally_init) l7 c7 k7
  have E7 : MkAt K mg "Tally" C_Tally "Tally.__init__" s_Tally_init P_Tally_init f7 _ := ⟨F7, ⟨mk_Tally, a7, i7, kc_Tally⟩, F7.binds (ps := P_Tally_init) fun _ _ _ _ _ _ us hl => match us, hl with | [_, _, _], _ => rfl, PySem.W.mg_of X G e_Tally⟩
  have F8 := fun_mk (st := s_Tally_ways) l8 c8 k8
  have E8 : MtAt K C_Tally "ways" "Tally.ways" s_Tally_ways P_Tally_ways f8 _ := ⟨F8, ⟨a8, i8, k8⟩, F8.binds (ps := P_Tally_ways) fun _ _ _ _ _ _ us hl => match us, hl with | [_, _, _], _ => rfl⟩
  have F9 := fun_mk (st := s_Tally_ahead) l9 c9 k9
  have E9 : MtAt K C_Tally "ahead" "Tally.ahead" s_Tally_ahead P_Tally_ahead f9 _ := ⟨F9, ⟨a9, i9, k9⟩, F9.binds (ps := P_Tally_ahead) fun _ _ _ _ _ _ us hl => match us, hl with | [_, _, _, _], _ => rfl⟩
  have F10 := fun_mk (st := s_lines_with) l10 c10 k10
  have E10 : FnAt K mg "lines_with" s_lines_with P_lines_with f10 _ := ⟨F10, PySem.W.mg_of X G a10, F10.binds (ps := P_lines_with) fun _ _ _ _ _ _ us hl => match us, hl with | [_, _], _ => rfl⟩
  have F11 := fun_mk (st := s_all_lines) l11 c11 k11
  have E11 : FnAt K mg "all_lines" s_all_lines P_all_lines f11 _ := ⟨F11, PySem.W.mg_of X G a11, F11.binds (ps := P_all_lines) fun _ _ _ _ _ _ us hl => match us, hl with | [_], _ => rfl⟩
  have F12 := fun_mk (st := s_count_of) l12 c12 k12
  have E12 : FnAt K mg "count_of" s_count_of P_count_of f12 _ := ⟨F12, PySem.W.mg_of X G a12, F12.binds (ps := P_count_of) fun _ _ _ _ _ _ us hl => match us, hl with | [_, _], _ => rfl⟩
  have F13 := fun_mk (st := s_ones_at) l13 c13 k13
  have E13 : FnAt K mg "ones_at" s_ones_at P_ones_at f13 _ := ⟨F13, PySem.W.mg_of X G a13, F13.binds (ps := P_ones_at) fun _ _ _ _ _ _ us hl => match us, hl with | [_, _, _], _ => rfl⟩
  have F14 := fun_mk (st := s_number_of) l14 c14 k14
  have E14 : FnAt K mg "number_of" s_number_of P_number_of f14 _ := ⟨F14, PySem.W.mg_of X G a14, F14.binds (ps := P_number_of) fun _ _ _ _ _ _ us hl => match us, hl with | [_], _ => rfl⟩
  have F15 := fun_mk (st := s_law_fold) l15 c15 k15
  have E15 : FnAt K mg "_law_fold" s_law_fold P_law_fold f15 _ := ⟨F15, PySem.W.mg_of X G a15, F15.binds (ps := P_law_fold) fun _ _ _ _ _ _ us hl => match us, hl with | [_, _], _ => rfl⟩
  have F16 := fun_mk (st := s_law_ones) l16 c16 k16
  have E16 : FnAt K mg "_law_ones" s_law_ones P_law_ones f16 _ := ⟨F16, PySem.W.mg_of X G a16, F16.binds (ps := P_law_ones) fun _ _ _ _ _ _ us hl => match us, hl with | [_, _], _ => rfl⟩
  have F17 := fun_mk (st := s_law_sums) l17 c17 k17
  have E17 : FnAt K mg "_law_sums" s_law_sums P_law_sums f17 _ := ⟨F17, PySem.W.mg_of X G a17, F17.binds (ps := P_law_sums) fun _ _ _ _ _ _ us hl => match us, hl with | [_, _], _ => rfl⟩
  have F18 := fun_mk (st := s_law_whole) l18 c18 k18
  have E18 : FnAt K mg "_law_whole" s_law_whole P_law_whole f18 _ := ⟨F18, PySem.W.mg_of X G a18, F18.binds (ps := P_law_whole) fun _ _ _ _ _ _ us hl => match us, hl with | [_], _ => rfl⟩
  have F19 := fun_mk (st := s_law_is_ones) l19 c19 k19
  have E19 : FnAt K mg "_law_is_ones" s_law_is_ones P_law_is_ones f19 _ := ⟨F19, PySem.W.mg_of X G a19, F19.binds (ps := P_law_is_ones) fun _ _ _ _ _ _ us hl => match us, hl with | [_, _, _], _ => rfl⟩
  have F20 := fun_mk (st := s_law_there_and_back) l20 c20 k20
  have E20 : FnAt K mg "_law_there_and_back" s_law_there_and_back P_law_there_and_back f20 _ := ⟨F20, PySem.W.mg_of X G a20, F20.binds (ps := P_law_there_and_back) fun _ _ _ _ _ _ us hl => match us, hl with | [_, _, _], _ => rfl⟩
  have F21 := fun_mk (st := s_law_alone) l21 c21 k21
  have E21 : FnAt K mg "_law_alone" s_law_alone P_law_alone f21 _ := ⟨F21, PySem.W.mg_of X G a21, F21.binds (ps := P_law_alone) fun _ _ _ _ _ _ us hl => match us, hl with | [_], _ => rfl⟩
  have F22 := fun_mk (st := s_law_refused) l22 c22 k22
  have E22 : FnAt K mg "_law_refused" s_law_refused P_law_refused f22 _ := ⟨F22, PySem.W.mg_of X G a22, F22.binds (ps := P_law_refused) fun _ _ _ _ _ _ us hl => match us, hl with | [_, _, _], _ => rfl⟩
  have F23 := fun_mk (st := s_law) l23 c23 k23
  have E23 : FnAt K mg "law" s_law P_law fa _ := ⟨F23, PySem.W.mg_of X G a23, F23.binds (ps := P_law) fun _ _ _ _ _ _ us hl => match us, hl with | [_], _ => rfl⟩
  have A_ : Fns K mg ⟨C_MixError, C_NoTable, C_NoBottom, C_NotAlike, C_NoStep, C_NoMix, C_NotEven, C_NoSwap, C_NoBounds, C_NoPlace, C_NoSums, C_TooGreat, C_NoNumber, C_NoText, C_Tally⟩ := ⟨⟨_, _, E0⟩, ⟨_, _, E1⟩, ⟨_, _, E2⟩, ⟨_, _, E3⟩, ⟨_, _, E4⟩, ⟨_, _, E5⟩, ⟨_, _, E6⟩, ⟨_, _, E7⟩, ⟨_, _, E8⟩, ⟨_, _, E9⟩, ⟨_, _, E10⟩, ⟨_, _, E11⟩, ⟨_, _, E12⟩, ⟨_, _, E13⟩, ⟨_, _, E14⟩, ⟨_, _, E15⟩, ⟨_, _, E16⟩, ⟨_, _, E17⟩, ⟨_, _, E18⟩, ⟨_, _, E19⟩, ⟨_, _, E20⟩, ⟨_, _, E21⟩, ⟨_, _, E22⟩, ⟨_, _, E23⟩⟩
  exact ⟨PySem.W.fnOf "law" "law" (defArgs s_law) (defBody s_law) (defScope s_law) .none kV23 dc23 pm23 an23 cd23 ct23, fun s v => .of_eq rfl, fun base hb _ => ok_law E23 A_ T (c := ⟨C_MixError, C_NoTable, C_NoBottom, C_NotAlike, C_NoStep, C_NoMix, C_NotEven, C_NoSwap, C_NoBounds, C_NoPlace, C_NoSums, C_TooGreat, C_NoNumber, C_NoText, C_Tally⟩) ⟨PySem.W.mg_of X G e_MixError, PySem.W.mg_of X G e_NoTable, PySem.W.mg_of X G e_NoBottom, PySem.W.mg_of X G e_NotAlike, PySem.W.mg_of X G e_NoStep, PySem.W.mg_of X G e_NoMix, PySem.W.mg_of X G e_NotEven, PySem.W.mg_of X G e_NoSwap, PySem.W.mg_of X G e_NoBounds, PySem.W.mg_of X G e_NoPlace, PySem.W.mg_of X G e_NoSums, PySem.W.mg_of X G e_TooGreat, PySem.W.mg_of X G e_NoNumber, PySem.W.mg_of X G e_NoText, PySem.W.mg_of X G e_Tally, ⟨⟨pg_Tally, hd_Tally, po_Tally, sa_Tally⟩, cl_Tally, sg, tg, ob_Tally⟩, na_Tally_choices, na_Tally_known, ExcObj.of_lookup (ups := []) hb u_MixError rfl v_MixError, ExcObj.of_lookup (ups := [C_MixError]) hb u_NoNumber rfl v_NoNumber, ⟨ga_NoNumber, ge_NoNumber, cl_NoNumber, ob_NoNumber, be_NoNumber, by unfold PySem.W.clsIn; rw [u_NoNumber]; rfl⟩, ExcObj.of_lookup (ups := [C_MixError]) hb u_TooGreat rfl v_TooGreat, ⟨ga_TooGreat, ge_TooGreat, cl_TooGreat, ob_TooGreat, be_TooGreat, by unfold PySem.W.clsIn; rw [u_TooGreat]; rfl⟩, kt1, kt2, kv_NoNumber⟩⟩
theorem walk {l : PySem.W.OpenLaw} {q : Program} {loose : List Str} {XP : (Str → Option Value) → Heap → Prop} {YP : World → Heap → Prop} {d : DefRec} {K : Params → PySem.W.Frag} (hn : l.most = some 63) (hdf : d.params.defaults = [])
    (hY : ∀ (w : World) (h : Heap), YP w h → (K w.params).In h)
    (F : ∀ (w : World) (mg : Str → Option Value) (fa : Addr) (h : Heap), (K w.params).In h → h.Ns mainGlobals mg → mg d.name = some (.ref fa) →
      ∃ fd : FuncData, (∀ (s : Shared) (u : Value), BindsTo s fd ⟨[u], []⟩ [("_law_script", u)]) ∧ ∀ base : Heap, (K w.params).In base → base.Ns mainGlobals mg → FnOk l.prog w (K w.params) mg base CX0 13 fa fd ["_law_script"] (L3.spP (K w.params) S_law)) :
    PySem.W.WalkO q loose XP YP l.row.toRowW d [] (fun f vs => PySem.call f vs) :=
  L2.walk_of (n := 63) (k := 13) (x := "_law_script") (CX := fun _ => CX0) (sp := fun w => L3.spP (K w.params) S_law) hn (by decide) hdf ⟨rfl, by decide, by decide⟩ hY F (fun w H a ns hl hO hS => ⟨[.scr ns], ⟨[], _, _, [], [], rfl, rfl, ⟨a, rfl, L3.sc_of hO hS, rfl⟩, rfl, rfl⟩, law_goal hl (fun v H' fp s r n => r.1)⟩) fun _ _ _ _ _ z => z
end Mine
open PySem PySem.W PyProof.Rows
def PySem.W.Fast.tw17213466109126682828 : Unit := ()
def PySem.W.Fast.tw11543766769261222748 : Unit := ()
def PySem.W.Fast.tw13769262411960412131 : Unit := ()
def PySem.W.Fast.tw8373011207270790639 : Unit := ()
def PySem.W.Fast.tw1560352959004096006 : Unit := ()
def PySem.W.Fast.tw17385576517212310792 : Unit := ()
def PySem.W.Fast.tw1410941915419763304 : Unit := ()
def PySem.W.Fast.tw9160397656444510205 : Unit := ()
def PySem.W.Fast.tw15716236922365412085 : Unit := ()
def PySem.W.Fast.tw3864697869143088779 : Unit := ()
def PySem.W.Fast.tw7808382456274653217 : Unit := ()
def PySem.W.Fast.tw5582419581941372719 : Unit := ()
def PySem.W.Fast.tw16834518870160677969 : Unit := ()
def PySem.W.Fast.tw3022120234134665005 : Unit := ()
def PySem.W.Fast.tw5813428300940997725 : Unit := ()
def PySem.W.Fast.tw6151679281506310663 : Unit := ()
def PySem.W.Fast.tw6491868374162920404 : Unit := ()
def PySem.W.Fast.tw6483325027577241111 : Unit := ()
def PySem.W.Fast.tw663241488383601105 : Unit := ()
def PySem.W.Fast.tw9148244132700418573 : Unit := ()
set_option maxRecDepth 100000 in
set_option maxHeartbeats 0 in
theorem PySem.Challenge.cw_evenmix_k56_by_number_and_back_holds : PySem.Challenge.rw_evenmix_k56_by_number_and_back.Holds := by
  w_on; o_law; k_head; (case hw => w_witness2)
  k_fill
  refine Mine.walk (l := PySem.Challenge.rw_evenmix_k56_by_number_and_back) rfl rfl (fun w h Y => PySem.W.kIn_of Y) ?F
  case F =>
    intro w mg fa h KX G hmg
    refine' Mine.all_mk KX G hmg ?a0 ?l0 ?c0 ?k0 ?a1 ?l1 ?c1 ?k1 ?a2 ?l2 ?c2 ?k2 ?a3 ?l3 ?c3 ?k3 ?a4 ?l4 ?c4 ?k4 ?a5 ?l5 ?c5 ?k5 ?a6 ?l6 ?c6 ?k6 ?a7 ?i7 ?l7 ?c7 ?k7 ?a8 ?i8 ?l8 ?c8 ?k8 ?a9 ?i9 ?l9 ?c9 ?k9 ?a10 ?l10 ?c10 ?k10 ?a11 ?l11 ?c11 ?k11 ?a12 ?l12 ?c12 ?k12 ?a13 ?l13 ?c13 ?k13 ?a14 ?l14 ?c14 ?k14 ?a15 ?l15 ?c15 ?k15 ?a16 ?l16 ?c16 ?k16 ?a17 ?l17 ?c17 ?k17 ?a18 ?l18 ?c18 ?k18 ?a19 ?l19 ?c19 ?k19 ?a20 ?l20 ?c20 ?k20 ?a21 ?l21 ?c21 ?k21 ?a22 ?l22 ?c22 ?k22 ?a23 ?l23 ?c23 ?k23 ?sg ?tg ?pg_Tally ?hd_Tally ?po_Tally ?sa_Tally ?mk_Tally ?kc_Tally ?cl_Tally ?ob_Tally ?na_Tally_choices ?na_Tally_known ?e_MixError ?e_NoTable ?e_NoBottom ?e_NotAlike ?e_NoStep ?e_NoMix ?e_NotEven ?e_NoSwap ?e_NoBounds ?e_NoPlace ?e_NoSums ?e_TooGreat ?e_NoNumber ?e_NoText ?e_Tally ?u_MixError ?v_MixError ?u_NoNumber ?v_NoNumber ?u_TooGreat ?v_TooGreat ?ga_NoNumber ?ge_NoNumber ?cl_NoNumber ?ob_NoNumber ?be_NoNumber ?ga_TooGreat ?ge_TooGreat ?cl_TooGreat ?ob_TooGreat ?be_TooGreat ?kt1 ?kt2 ?kv_NoNumber ?g_MOST_COUNTED ?z_len ?z_isinstance ?z_int ?z_bool ?z_list ?z_range ?z_min ?z_max ?z_sum ?z_sorted ?z_tuple ?z_zip ?z_ValueError
    (case e_MixError => k_is)
    (case e_NoTable => k_is)
    (case e_NoBottom => k_is)
    (case e_NotAlike => k_is)
    (case e_NoStep => k_is)
    (case e_NoMix => k_is)
    (case e_NotEven => k_is)
    (case e_NoSwap => k_is)
    (case e_NoBounds => k_is)
    (case e_NoPlace => k_is)
    (case e_NoSums => k_is)
    (case e_TooGreat => k_is)
    (case e_NoNumber => k_is)
    (case e_NoText => k_is)
    (case e_Tally => k_is)
    (case a0 => k_is)
    (case l0 => k_is)
    (case c0 => k_is)
    (case k0 => k_is)
    (case a1 => k_is)
    (case l1 => k_is)
    (case c1 => k_is)
    (case k1 => k_is)
    (case a2 => k_is)
    (case l2 => k_is)
    (case c2 => k_is)
    (case k2 => k_is)
    (case a3 => k_is)
    (case l3 => k_is)
    (case c3 => k_is)
    (case k3 => k_is)
    (case a4 => k_is)
    (case l4 => k_is)
    (case c4 => k_is)
    (case k4 => k_is)
    (case a5 => k_is)
    (case l5 => k_is)
    (case c5 => k_is)
    (case k5 => k_is)
    (case a6 => k_is)
    (case l6 => k_is)
    (case c6 => k_is)
    (case k6 => k_is)
    (case a7 => k_is)
    (case i7 => k_is)
    (case l7 => k_is)
    (case c7 => k_is)
    (case k7 => k_is)
    (case a8 => k_is)
    (case i8 => k_is)
    (case l8 => k_is)
    (case c8 => k_is)
    (case k8 => k_is)
    (case a9 => k_is)
    (case i9 => k_is)
    (case l9 => k_is)
    (case c9 => k_is)
    (case k9 => k_is)
    (case a10 => k_is)
    (case l10 => k_is)
    (case c10 => k_is)
    (case k10 => k_is)
    (case a11 => k_is)
    (case l11 => k_is)
    (case c11 => k_is)
    (case k11 => k_is)
    (case a12 => k_is)
    (case l12 => k_is)
    (case c12 => k_is)
    (case k12 => k_is)
    (case a13 => k_is)
    (case l13 => k_is)
    (case c13 => k_is)
    (case k13 => k_is)
    (case a14 => k_is)
    (case l14 => k_is)
    (case c14 => k_is)
    (case k14 => k_is)
    (case a15 => k_is)
    (case l15 => k_is)
    (case c15 => k_is)
    (case k15 => k_is)
    (case a16 => k_is)
    (case l16 => k_is)
    (case c16 => k_is)
    (case k16 => k_is)
    (case a17 => k_is)
    (case l17 => k_is)
    (case c17 => k_is)
    (case k17 => k_is)
    (case a18 => k_is)
    (case l18 => k_is)
    (case c18 => k_is)
    (case k18 => k_is)
    (case a19 => k_is)
    (case l19 => k_is)
    (case c19 => k_is)
    (case k19 => k_is)
    (case a20 => k_is)
    (case l20 => k_is)
    (case c20 => k_is)
    (case k20 => k_is)
    (case a21 => k_is)
    (case l21 => k_is)
    (case c21 => k_is)
    (case k21 => k_is)
    (case a22 => k_is)
    (case l22 => k_is)
    (case c22 => k_is)
    (case k22 => k_is)
    (case a23 => k_is)
    (case l23 => k_is)
    (case c23 => k_is)
    (case k23 => k_is)
    (case sg => k_is)
    (case tg => k_is)
    (case pg_Tally => k_is)
    (case hd_Tally => k_is)
    (case po_Tally => k_is)
    (case sa_Tally => k_is)
    (case mk_Tally => k_is)
    (case kc_Tally => k_is)
    (case cl_Tally => k_is)
    (case ob_Tally => k_is)
    (case na_Tally_choices => k_is)
    (case na_Tally_known => k_is)
    (case u_MixError => k_is)
    (case v_MixError => k_exc)
    (case u_NoNumber => k_is)
    (case v_NoNumber => k_exc)
    (case u_TooGreat => k_is)
    (case v_TooGreat => k_exc)
    (case ga_NoNumber => k_is)
    (case ge_NoNumber => k_is)
    (case cl_NoNumber => k_is)
    (case ob_NoNumber => k_is)
    (case be_NoNumber => k_is)
    (case ga_TooGreat => k_is)
    (case ge_TooGreat => k_is)
    (case cl_TooGreat => k_is)
    (case ob_TooGreat => k_is)
    (case be_TooGreat => k_is)
    (case kt1 => kit_is)
    (case kt2 => kit_is)
    (case kv_NoNumber => kit_is)
    (case g_MOST_COUNTED => k_is)
    (case z_len => k_is)
    (case z_isinstance => k_is)
    (case z_int => k_is)
    (case z_bool => k_is)
    (case z_list => k_is)
    (case z_range => k_is)
    (case z_min => k_is)
    (case z_max => k_is)
    (case z_sum => k_is)
    (case z_sorted => k_is)
    (case z_tuple => k_is)
    (case z_zip => k_is)
    (case z_ValueError => k_is)
