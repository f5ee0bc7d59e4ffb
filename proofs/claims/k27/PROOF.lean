import PyProof.Rows.All
import Wide.All
import OpenK.AllK
import Wide.FinOn
import Lean
import PyProof.EqAt
import PyProof.EqKinds
import PyProof.TupleCall
import PyProof.NeKinds
import PyProof.ZipIter
import KE.KRevIter
import PyProof.ListRange
import KE.LcSums
import PyProof.Rows.MinMaxN
import KE.KTryDeep
import PyProof.ExcArgsOwn
import PyProof.ExcAttrAll.ValueError
import KE.KIsAll
import KE.RegKIsAll
import PySem.Challenge.RW_evenmix_k27_not_even_and_no_mix
set_option Elab.async false
set_option linter.all false
set_option maxRecDepth 100000
namespace L2
open PySem PySem.Spec PyProof.Rows
abbrev Key := Sum Int Str
def keyIs : Key → Value → Bool
  | .inl k, v => Value.isInt k v
  | .inr x, v => Value.isStrOf x v
def keyH (w : World) : Key → Int
  | .inl k => hashInt k
  | .inr x => hashStr w x
theorem keyIs_shape : ∀ {k : Key} {v : Value}, keyIs k v = true → (∃ i t, k = Sum.inl i ∧ v = Value.int i t) ∨ (∃ x t, k = Sum.inr x ∧ v = Value.str x t)
  | .inl i, v, h => by
    obtain ⟨t, e⟩ := Value.isInt_shape (k := i) (v := v) h
    exact .inl ⟨i, t, rfl, e⟩
  | .inr x, v, h => by
    obtain ⟨t, e⟩ := Value.isStrOf_shape (x := x) (v := v) h
    exact .inr ⟨x, t, rfl, e⟩
theorem keyIs_int (i : Int) (t : Tok) : keyIs (.inl i) (.int i t) = true := by simp [keyIs, Value.isInt]
theorem keyIs_str (x : Str) (t : Tok) : keyIs (.inr x) (.str x t) = true := by simp [keyIs, Value.isStrOf]
theorem key_ll (a b : Int) : decide ((Sum.inl a : Key) = Sum.inl b) = (a == b) := by
  by_cases e : a = b
  · subst e; simp
  · have h : ¬ (Sum.inl a : Key) = Sum.inl b := fun q => e (Sum.inl.inj q)
    rw [decide_eq_false h]
    exact (beq_eq_false_iff_ne.mpr e).symm
theorem key_rr (a b : Str) : decide ((Sum.inr a : Key) = Sum.inr b) = decide (a = b) := by
  by_cases e : a = b
  · subst e; simp
  · have h : ¬ (Sum.inr a : Key) = Sum.inr b := fun q => e (Sum.inr.inj q)
    rw [decide_eq_false h, decide_eq_false e]
theorem key_lr (a : Int) (b : Str) : decide ((Sum.inl a : Key) = Sum.inr b) = false := decide_eq_false (fun q => nomatch q)
theorem key_rl (a : Str) (b : Int) : decide ((Sum.inr a : Key) = Sum.inl b) = false := decide_eq_false (fun q => nomatch q)
def mixKind (prog : Program) (w : World) : PySem.KeyKind prog w Key where
  is := keyIs
  hash := keyH w
  inj := fun v a b ha hb => by
    rcases keyIs_shape ha with ⟨i, t, rfl, rfl⟩ | ⟨x, t, rfl, rfl⟩
    · rcases keyIs_shape hb with ⟨j, u, rfl, e⟩ | ⟨y, u, rfl, e⟩
      · injection e with e1 _; rw [e1]
      · exact nomatch e
    · rcases keyIs_shape hb with ⟨j, u, rfl, e⟩ | ⟨y, u, rfl, e⟩
      · exact nomatch e
      · injection e with e1 _; rw [e1]
  byValue := fun k v h => by
    rcases keyIs_shape h with ⟨i, t, rfl, rfl⟩ | ⟨x, t, rfl, rfl⟩ <;> rfl
  pyHash := fun hv h => by
    rcases keyIs_shape hv with ⟨i, t, rfl, rfl⟩ | ⟨x, t, rfl, rfl⟩
    · exact wpAny_pyHash_int h
    · exact wpAny_pyHash_str h
  eqBool := fun hu hv h => by
    rcases keyIs_shape hu with ⟨i, t, rfl, rfl⟩ | ⟨x, t, rfl, rfl⟩
    · rcases keyIs_shape hv with ⟨j, u, rfl, rfl⟩ | ⟨y, u, rfl, rfl⟩
      · rw [key_ll] at h; exact wpAny_eqBool_int h
      · rw [key_lr] at h; exact SeqAt.EqAt.int_str i t y u _ _ _ _ h
    · rcases keyIs_shape hv with ⟨j, u, rfl, rfl⟩ | ⟨y, u, rfl, rfl⟩
      · rw [key_rl] at h; exact SeqAt.EqAt.str_int x t j u _ _ _ _ h
      · rw [key_rr] at h; exact wpAny_eqBool_str h
  «strs» := fun k x t v h => by
    rcases keyIs_shape h with ⟨i, u, rfl, e⟩ | ⟨y, u, rfl, e⟩
    · exact nomatch e
    · injection e with e1 _
      subst e1
      cases v <;> rfl
theorem mixKind_int (prog : Program) (w : World) (i : Int) (t : Tok) : (mixKind prog w).is (.inl i) (.int i t) = true := keyIs_int i t
theorem mixKind_str (prog : Program) (w : World) (x : Str) (t : Tok) : (mixKind prog w).is (.inr x) (.str x t) = true := keyIs_str x t
end L2
namespace L2
open PySem PySem.Spec PyProof.Rows
inductive V where
  | non | bl (b : Bool) | int (i : Int) | str (x : Str) | byt (b : Array UInt8) | flt (b : UInt64) | ref (a : Addr) | ty (n : String)
  deriving DecidableEq
def RelV : V → Value → Prop
  | .non, u => u = Value.none
  | .bl b, u => u = Value.bool b
  | .int i, u => ∃ t, u = Value.int i t
  | .str x, u => ∃ t, u = Value.str x t
  | .byt b, u => ∃ t, u = Value.bytes b t
  | .flt b, u => ∃ t, u = Value.float b t
  | .ref a, u => u = Value.ref a
  | .ty n, u => u = Value.type n
abbrev Vals : List V → List Value → Prop := Paired RelV
theorem Vals.length {xs : List V} {us : List Value} (r : Vals xs us) : xs.length = us.length := Paired.length r
theorem Vals.get : ∀ {xs : List V} {us : List Value} {i : Nat} {x : V}, Vals xs us → xs[i]? = some x → ∃ u, us[i]? = some u ∧ RelV x u
  | _, _, _, _, .nil, e => by simp at e
  | _, _, 0, _, .cons r _, e => by simp at e; subst e; exact ⟨_, rfl, r⟩
  | _, _, i + 1, x, .cons _ t, e => by
    obtain ⟨u, h1, h2⟩ := Vals.get (i := i) (x := x) t (by simpa using e)
    exact ⟨u, by simpa using h1, h2⟩
theorem Vals.set {x : V} {u : Value} (r : RelV x u) : ∀ {xs : List V} {us : List Value} (i : Nat), Vals xs us → Vals (xs.set i x) (us.set i u)
  | _, _, _, .nil => .nil
  | _, _, 0, .cons _ t => .cons r t
  | _, _, i + 1, .cons q t => .cons q (Vals.set r i t)
theorem Vals.append : ∀ {xs ys : List V} {us ws : List Value}, Vals xs us → Vals ys ws → Vals (xs ++ ys) (us ++ ws)
  | _, _, _, _, .nil, s => s
  | _, _, _, _, .cons r t, s => .cons r (Vals.append t s)
theorem Vals.take : ∀ {xs : List V} {us : List Value} (n : Nat), Vals xs us → Vals (xs.take n) (us.take n)
  | _, _, 0, _ => .nil
  | _, _, _ + 1, .nil => .nil
  | _, _, n + 1, .cons r t => .cons r (Vals.take n t)
theorem Vals.drop : ∀ {xs : List V} {us : List Value} (n : Nat), Vals xs us → Vals (xs.drop n) (us.drop n)
  | _, _, 0, r => r
  | _, _, _ + 1, .nil => .nil
  | _, _, n + 1, .cons _ t => Vals.drop n t
def RelO : Option V → Option Value → Prop
  | some v, some u => RelV v u
  | none, none => True
  | _, _ => False
def KV {κ : Type} : List (κ × V) → List (κ × Value) → Prop := Paired fun (p : κ × V) (q : κ × Value) => p.1 = q.1 ∧ RelV p.2 q.2
def kV : Key → V
  | .inl i => .int i
  | .inr x => .str x
inductive HO where
    | lst (xs : List V)
    | tup (xs : List V)
    | dK (kvs : List (Key × V)) | dT (kvs : List (List Key × V))
    | set (S : Int → Bool) (n : Nat)
    | ins (C dx : Addr) (fs : List (Str × V))
    | own (x : Addr)
    | xd (fs : List (Str × V))
    | met (f x : Addr)
    | rng (lo hi : Int)
    | frz (o : Obj) (u : HO)
    | tbl (ps : Array Value)
    | ext (φ : Heap → Prop)
abbrev Hp := Addr → Option HO
def upd (H : Hp) (a : Addr) (o : HO) : Hp := fun b => if b = a then some o else H b
theorem upd_same {H : Hp} {a : Addr} {o : HO} : upd H a o a = some o := by unfold upd; rw [if_pos rfl]
theorem upd_ne {H : Hp} {a b : Addr} {o : HO} (h : b ≠ a) : upd H a o b = H b := by unfold upd; rw [if_neg h]
theorem ne_of {H : Hp} {a b : Addr} {o u : HO} (h : H a = some o) (h' : H b = some u) (d : o ≠ u) : a ≠ b := by
  intro e; subst e; rw [h] at h'; exact d (Option.some.inj h')
theorem ne_of_none {H : Hp} {a b : Addr} {o : HO} (h : H a = some o) (h' : H b = none) : a ≠ b := by
  intro e; subst e; rw [h] at h'; cases h'
section
variable (P : Program) (w : World)
def ObjOk (H : Hp) (h : Heap) (a : Addr) : HO → Prop
  | .lst xs => xs.length ≤ sizeLine ∧ ∃ (its : List Value) (n : Nat), Vals xs its ∧ h.get? a = some { cls := .type "list", data := .seq its.toArray n }
  | .tup xs => xs.length ≤ sizeLine ∧ ∃ its : List Value, Vals xs its ∧ IsTup h a its.toArray
  | .dK kvs => kvs.length ≤ sizeLine ∧ (a == sysModules) = false ∧ ∃ vs, KV kvs vs ∧ h.DictOf (mixKind P w) a vs
  | .dT kvs => kvs.length ≤ sizeLine ∧ (a == sysModules) = false ∧ ∃ xs : List (List Key × Addr × Value),
      Paired (fun (p : List Key × V) (q : List Key × Addr × Value) => p.1 = q.1 ∧ H q.2.1 = some (.tup (p.1.map kV)) ∧ RelV p.2 q.2.2) kvs xs ∧
      ∃ o es ep, h.get? a = some o ∧ o.ExactDict ∧ o.data = .dict es ep ∧ es.toList = xs.map (entryOfKey (tupleKind (mixKind P w))) ∧ (xs.map (·.1)).Nodup
  | .set S n => h.SetOf (intKind P w) a S n
  | .ins C dx fs => H dx = some (.own a) ∧ fs.length ≤ 1000 ∧ dx ≠ a ∧ h.get? a = some (PySem.W.instObj C dx) ∧
      ∃ mA, h.Ns1 dx mA ∧ (∀ f, RelO (fs.lookup f) (mA f)) ∧ PySem.Within mA (fs.map (·.1))
  | .own _ => ∃ o, h.get? a = some o
  | .xd fs => ∃ mA, h.Ns1 a mA ∧ ∀ f, RelO (fs.lookup f) (mA f)
  | .rng lo hi => ∃ t u v, h.get? a = some { cls := .type "range", data := .fields #[.int lo t, .int hi u, .int 1 v] }
  | .frz o u => h.get? a = some o ∧ ObjOk H h a u
  | .tbl ps => h.get? a = some { cls := .none, data := .fields ps }
  | .met f x => h.get? a = some (PySem.W.methodObj (.ref f) (.ref x))
  | .ext φ => φ h ∧ (∃ o, h.get? a = some o) ∧ ∀ h1 h2 : Heap, φ h1 → (∀ o, h1.get? a = some o → h2.get? a = some o) → φ h2
def HOk (H : Hp) (h : Heap) : Prop := ∀ a o, H a = some o → ObjOk P w H h a o
end
section
variable {P : Program} {w : World} {H H' : Hp} {h h' : Heap} {a : Addr} {o : HO}
theorem ObjOk.lt (x : ObjOk P w H h a o) : a < h.objs.size := by
  cases o with
  | lst xs => obtain ⟨_, _, _, _, e⟩ := x; exact Heap.lt_size e
  | tup xs => obtain ⟨_, _, _, p⟩ := x; exact p.lt
  | dK kvs => obtain ⟨_, _, _, _, o, _, _, e, _⟩ := x; exact Heap.lt_size e
  | dT kvs => obtain ⟨_, _, _, _, o, _, _, e, _⟩ := x; exact Heap.lt_size e
  | set S n => obtain ⟨o, _, _, _, e, _⟩ := x; exact Heap.lt_size e
  | ins C dx fs => obtain ⟨_, _, _, e, _⟩ := x; exact Heap.lt_size e
  | own y => obtain ⟨_, e⟩ := x; exact Heap.lt_size e
  | xd fs => obtain ⟨_, ⟨_, _, _, e, _⟩, _⟩ := x; exact Heap.lt_size e
  | rng lo hi => obtain ⟨_, _, _, e⟩ := x; exact Heap.lt_size e
  | frz ob u => obtain ⟨e, _⟩ := x; exact Heap.lt_size e
  | tbl ps => exact Heap.lt_size (show h.get? a = some _ from x)
  | met f y => exact Heap.lt_size (show h.get? a = some _ from x)
  | ext φ => obtain ⟨_, ⟨_, e⟩, _⟩ := x; exact Heap.lt_size e
theorem Paired.mapP {α β : Type} {F G : α → β → Prop} : ∀ {l₁ : List α} {l₂ : List β}, Paired F l₁ l₂ → (∀ a b, F a b → G a b) → Paired G l₁ l₂
  | _, _, .nil, _ => .nil
  | _, _, .cons r t, f => .cons (f _ _ r) (Paired.mapP t f)
theorem ObjOk.stay (x : ObjOk P w H h a o) (k : ∀ b u, (b = a ∨ H b = some (.own a)) → h.get? b = some u → h'.get? b = some u)
    (ho : ∀ b, H b = some (.own a) → H' b = some (.own a)) (ht : ∀ b xs, H b = some (.tup xs) → H' b = some (.tup xs)) : ObjOk P w H' h' a o := by
  induction o with
  | lst xs => obtain ⟨z, its, n, r, e⟩ := x; exact ⟨z, its, n, r, k _ _ (.inl rfl) e⟩
  | tup xs => obtain ⟨z, its, r, ob, e, c⟩ := x; exact ⟨z, its, r, ob, k _ _ (.inl rfl) e, c⟩
  | dK kvs => obtain ⟨z, y, vs, r, ob, es, ep, e, c⟩ := x; exact ⟨z, y, vs, r, ob, es, ep, k _ _ (.inl rfl) e, c⟩
  | dT kvs =>
    obtain ⟨z, y, xs, r, ob, es, ep, e, c⟩ := x
    exact ⟨z, y, xs, Paired.mapP r fun p q z => ⟨z.1, ht _ _ z.2.1, z.2.2⟩, ob, es, ep, k _ _ (.inl rfl) e, c⟩
  | set S n => obtain ⟨ob, es, ep, t, e, c⟩ := x; exact ⟨ob, es, ep, t, k _ _ (.inl rfl) e, c⟩
  | ins C dx fs =>
    obtain ⟨d, z, ne, e, mA, ⟨od, es, ep, e2, c⟩, r⟩ := x
    exact ⟨ho _ d, z, ne, k _ _ (.inl rfl) e, mA, ⟨od, es, ep, k _ _ (.inr d) e2, c⟩, r⟩
  | own y => obtain ⟨ob, e⟩ := x; exact ⟨ob, k _ _ (.inl rfl) e⟩
  | xd fs => obtain ⟨mA, ⟨od, es, ep, e, c⟩, r⟩ := x; exact ⟨mA, ⟨od, es, ep, k _ _ (.inl rfl) e, c⟩, r⟩
  | rng lo hi => obtain ⟨t, u, v, e⟩ := x; exact ⟨t, u, v, k _ _ (.inl rfl) e⟩
  | frz ob u ih => obtain ⟨e, q⟩ := x; exact ⟨k _ _ (.inl rfl) e, ih q⟩
  | tbl ps =>
    have e : h.get? a = some { cls := .none, data := .fields ps } := x
    show h'.get? a = some { cls := .none, data := .fields ps }
    exact k a _ (.inl rfl) e
  | met f y =>
    have e : h.get? a = some (PySem.W.methodObj (.ref f) (.ref y)) := x
    show h'.get? a = some (PySem.W.methodObj (.ref f) (.ref y))
    exact k a _ (.inl rfl) e
  | ext φ => obtain ⟨p, ⟨o, e⟩, st⟩ := x; exact ⟨st _ _ p fun o q => k _ _ (.inl rfl) q, ⟨o, k _ _ (.inl rfl) e⟩, st⟩
theorem HOk.lt (x : HOk P w H h) (e : H a = some o) : a < h.objs.size := (x a o e).lt
theorem HOk.fresh (x : HOk P w H h) (e : h.objs.size ≤ a) : H a = none := by
  cases q : H a with
  | none => rfl
  | some u => exact absurd (Nat.lt_of_lt_of_le (x.lt q) e) (Nat.lt_irrefl _)
theorem HOk.kept (x : HOk P w H h) (k : ∀ b u, h.get? b = some u → h'.get? b = some u) : HOk P w H h' := fun a o e =>
  (x a o e).stay (fun b u _ q => k b u q) (fun _ q => q) fun _ _ q => q
theorem HOk.laid (x : HOk P w H h) (k : ∀ b u, h.get? b = some u → h'.get? b = some u) (hp : h.objs.size ≤ a) (new : ObjOk P w (upd H a o) h' a o) : HOk P w (upd H a o) h' := fun b u e => by
  have hn := x.fresh hp
  by_cases hb : b = a
  · subst hb; rw [upd_same] at e; cases e; exact new
  · rw [upd_ne hb] at e
    exact (x b u e).stay (fun c v _ q => k c v q) (fun c q => by rw [upd_ne (ne_of_none q hn)]; exact q) fun c xs q => by rw [upd_ne (ne_of_none q hn)]; exact q
end
def Rd (H : Hp) (a : Addr) (u : HO) : Prop := H a = some u ∨ ∃ o, H a = some (.frz o u)
theorem Rd.ok {P : Program} {w : World} {H : Hp} {h : Heap} {a : Addr} {u : HO} (r : Rd H a u) (x : HOk P w H h) : ObjOk P w H h a u := by
  rcases r with r | ⟨o, r⟩
  · exact x a u r
  · obtain ⟨_, q⟩ := x a _ r
    exact q
def Mut : Option HO → Prop
  | some (.lst _) => True
  | some (.dK _) => True
  | some (.dT _) => True
  | some (.set _ _) => True
  | some (.ins _ _ _) => True
  | some (.ext _) => True
  | _ => False
section
variable {P : Program} {w : World} {H : Hp} {h h' : Heap} {x e : Addr} {o' : HO}
theorem HOk.write (ok : HOk P w H h) (mu : Mut (H x)) (he : e = x ∨ H e = some (.own x)) (k : ∀ b u, b ≠ e → h.get? b = some u → h'.get? b = some u) (heo : ∃ u, h'.get? e = some u)
    (new : ObjOk P w (upd H x o') h' x o') : HOk P w (upd H x o') h' := fun b u q => by
  have nown : ∀ c y, H c = some (.own y) → c ≠ x := fun c y r z => by subst z; rw [r] at mu; exact mu
  have ntup : ∀ c xs, H c = some (.tup xs) → c ≠ x := fun c xs r z => by subst z; rw [r] at mu; exact mu
  by_cases hb : b = x
  · subst hb; rw [upd_same] at q; cases q; exact new
  · rw [upd_ne hb] at q
    by_cases hbe : b = e
    · have q' : H b = some (.own x) := by
        rcases he with z | z
        · exact absurd (hbe.trans z) hb
        · rw [hbe]; exact z
      rw [q] at q'; cases q'
      obtain ⟨v, hv⟩ := heo
      exact ⟨v, by rw [hbe]; exact hv⟩
    · refine (ok b u q).stay (fun c v hc r => k c v ?_ r) (fun c r => by rw [upd_ne (nown c b r)]; exact r) fun c xs r => by rw [upd_ne (ntup c xs r)]; exact r
      rcases hc with rfl | hc
      · exact hbe
      · rintro rfl
        rcases he with z | z
        · exact nown c b hc z
        · rw [hc] at z; cases z; exact hb rfl
end
structure Un (fs ex : List Addr) (H H' : Hp) (h h' : Heap) : Prop where
  keep : ∀ b o, h.get? b = some o → H b = none → b ∉ fs → b ∉ ex → h'.get? b = some o
  slot : ∀ b o, h.get? b = some o → H b = none → b ∈ fs → b ∉ ex → ∃ sl, h'.get? b = some { o with slots := sl }
  free : ∀ b o, h.get? b = some o → H b = none → b ∉ ex → H' b = none
  there : ∀ b o, h.get? b = some o → b ∉ ex → ∃ o', h'.get? b = some o'
  tups : ∀ b xs, H b = some (.tup xs) → H' b = some (.tup xs)
  frzs : ∀ b o u, H b = some (.frz o u) → H' b = some (.frz o u)
  tbls : ∀ b ps, H b = some (.tbl ps) → ∃ more, H' b = some (.tbl (ps ++ more))
section
variable {fs fs' ex ex' : List Addr} {H H1 H2 : Hp} {h h1 h2 h' : Heap} {a x e : Addr} {o : HO}
theorem Un.any (u : Un fs ex H H1 h h1) {b : Addr} {ob : Obj} (q : h.get? b = some ob) (n : H b = none) (hx : b ∉ ex) : ∃ sl, h1.get? b = some { ob with slots := sl } := by
  by_cases hb : b ∈ fs
  · exact u.slot b ob q n hb hx
  · exact ⟨ob.slots, u.keep b ob q n hb hx⟩
theorem Un.kept (k : ∀ b u, h.get? b = some u → h'.get? b = some u) : Un fs ex H H h h' :=
  ⟨fun b ob q _ _ _ => k b ob q, fun b ob q _ _ _ => ⟨ob.slots, k b ob q⟩, fun _ _ _ n _ => n, fun b ob q _ => ⟨ob, k b ob q⟩, fun _ _ q => q, fun _ _ _ q => q, fun _ ps q => ⟨#[], by rw [q]; simp⟩⟩
theorem Un.refl : Un fs ex H H h h := Un.kept fun _ _ q => q
theorem Un.laid (k : ∀ b u, h.get? b = some u → h'.get? b = some u) (hp : h.objs.size ≤ a) (hn : H a = none) : Un fs ex H (upd H a o) h h' where
  keep := fun b u q _ _ _ => k b u q
  slot := fun b u q _ _ _ => ⟨u.slots, k b u q⟩
  free := fun b u q n _ => by rw [upd_ne (Nat.ne_of_lt (Nat.lt_of_lt_of_le (Heap.lt_size q) hp))]; exact n
  there := fun b u q _ => ⟨u, k b u q⟩
  tups := fun b xs q => by rw [upd_ne (ne_of_none q hn)]; exact q
  frzs := fun b u xs q => by rw [upd_ne (ne_of_none q hn)]; exact q
  tbls := fun b ps q => ⟨#[], by rw [upd_ne (ne_of_none q hn), q]; simp⟩
theorem Un.write (mu : Mut (H x)) (he : e = x ∨ H e = some (.own x)) (k : ∀ b u, b ≠ e → h.get? b = some u → h'.get? b = some u) (heo : ∃ u, h'.get? e = some u) : Un fs ex H (upd H x o) h h' := by
  have hx : ∀ b, H b = none → b ≠ x := fun b n z => by subst z; rw [n] at mu; exact mu
  have hb : ∀ b, H b = none → b ≠ e := fun b n z => by
    subst z
    rcases he with r | r
    · exact hx b n r
    · rw [n] at r; cases r
  have hm : ∀ b u, H b = some u → ¬ Mut (some u) → b ≠ x := fun b u q nm z => by subst z; rw [q] at mu; exact nm mu
  refine ⟨fun b u q n _ _ => k b u (hb b n) q, fun b u q n _ _ => ⟨u.slots, k b u (hb b n) q⟩, fun b u q n _ => by rw [upd_ne (hx b n)]; exact n, fun b u q _ => ?_,
    fun b xs q => by rw [upd_ne (hm b _ q fun z => z)]; exact q, fun b u xs q => by rw [upd_ne (hm b _ q fun z => z)]; exact q, fun b ps q => ⟨#[], by rw [upd_ne (hm b _ q fun z => z), q]; simp⟩⟩
  by_cases hbe : b = e
  · subst hbe; exact heo
  · exact ⟨u, k b u hbe q⟩
theorem Un.mono (u : Un fs ex H H1 h h1) (hs : ∀ b ∈ fs, b ∈ fs') (hx : ∀ b ∈ ex, b ∈ ex') : Un fs' ex' H H1 h h1 :=
  ⟨fun b ob q n hb he => u.keep b ob q n (fun z => hb (hs b z)) fun z => he (hx b z), fun _ _ q n _ he => u.any q n fun z => he (hx _ z), fun b ob q n he => u.free b ob q n fun z => he (hx b z), fun b ob q he => u.there b ob q fun z => he (hx b z), u.tups, u.frzs, u.tbls⟩
end
def trk (h : Heap) (H : Hp) : List Addr := (List.range h.objs.size).filter fun a => (H a).isSome
def hidT (h : Heap) (H : Hp) : Heap := PySem.W.hideAll h (trk h H)
theorem hidT_size (h : Heap) (H : Hp) : (hidT h H).objs.size = h.objs.size := PySem.W.hideAll_size _ _
theorem hidT_get {h : Heap} {H : Hp} {b : Addr} {o : Obj} (e : h.get? b = some o) (n : H b = none) : (hidT h H).get? b = some o :=
  PySem.W.hideAll_get _ e fun hm => by
    have q : (H b).isSome = true := (List.mem_filter.mp hm).2
    rw [n] at q; simp at q
theorem of_hidT {h : Heap} {H : Hp} {b : Addr} {o : Obj} (e : (hidT h H).get? b = some o) : h.get? b = some o ∧ H b = none := by
  have e' : h.get? b = some o := PySem.W.of_hideAll (trk h H) e
  refine ⟨e', ?_⟩
  cases q : H b with
  | none => rfl
  | some x =>
    have hm : b ∈ trk h H := List.mem_filter.mpr ⟨List.mem_range.mpr (Heap.lt_size e'), by simp [q]⟩
    have z : (hidT h H).get? b = none := PySem.W.hideAll_none (trk h H) hm
    rw [z] at e; cases e
def allNews (g h : Heap) (L : Addr) : List (Addr × Obj) := (List.range h.objs.size).filterMap fun a => if a = L ∨ (g.get? a).isSome = true then none else (h.get? a).map fun o => (a, o)
def rest (g h : Heap) (L d : Addr) : List (Addr × Obj) := (allNews g h L).filter fun p => decide (p.1 ≠ d)
end L2
namespace L2
open PySem PySem.Spec PyProof.Rows
structure Mod (K : PySem.W.Frag) (mg : Str → Option Value) (base : Heap) : Prop where
  kin : K.In base
  glob : base.Ns mainGlobals mg
  blt : ∃ mb, base.Ns builtinsNs mb ∧ ∀ x : Str, x ≠ "__name__" → mb x = bootBuiltins x
  nolimit : base.NoLimit
structure Cx where
  prog : Program
  w : World
  K : PySem.W.Frag
  mg : Str → Option Value
  base : Heap
  A : Around
  N : List Str
  s₀ : Shared
  H₀ : Hp
  env : Env
  outer : List Env
  stack : List Env
  ex : List Addr
  fn : Str → Bool
  calm : Bool
  pn : List (Addr × Obj)
  xe : Value → Shared → Prop
def frs (l : List Env) : List Addr := l.filterMap (·.frame)
abbrev Cx.fs (X : Cx) : List Addr := frs X.outer
def Vis (sc : Scope) (x : Str) : Prop := sc.names.lookup x = some .local ∨ sc.names.lookup x = some .cell ∨ sc.names.lookup x = some .free
def Loc (sc : Scope) (x : Str) : Prop := sc.names.lookup x = some .local ∨ sc.names.lookup x = some .cell
def Look (env : Env) (h : Heap) (m : Str → Option Value) (x : Str) (u : Value) : Prop :=
  (env.kindOf x = some .local ∧ m x = some u) ∨ ((env.kindOf x = some .cell ∨ env.kindOf x = some .free) ∧ ∃ c, env.cells.lookup x = some c ∧ h.IsCell c (some u))
structure Cx.Ok (X : Cx) : Prop where
  mod : Mod X.K X.mg X.base
  kind : X.env.scope.kind = .function
  glob : X.env.globals = mainGlobals
  blt : X.env.builtins = builtinsNs
  above : X.s₀.heap.objs.size ≤ X.env.locals
  inj : ∀ x y c, X.env.cells.lookup x = some c → X.env.cells.lookup y = some c → x = y
  has : ∀ x, (X.env.kindOf x = some .cell ∨ X.env.kindOf x = some .free) → ∃ c, X.env.cells.lookup x = some c
  cab : ∀ x c, X.fn x = true → X.env.cells.lookup x = some c → X.s₀.heap.objs.size ≤ c
  hd : X.calm = true → X.A.handled = none
  frames : X.A.frames = some X.stack
  stk : X.stack = X.outer ∨ (X.stack = X.env :: X.outer ∧ X.env.frame = some X.env.locals)
  exf : ∀ b ∈ X.ex, b ≠ X.env.locals ∧ ∀ x c, X.env.cells.lookup x = some c → c ≠ b
  bs : ∀ b o, X.base.get? b = some o → X.s₀.heap.get? b = some o ∧ X.H₀ b = none
  bsz : X.base.objs.size ≤ X.s₀.heap.objs.size
  noex : ∀ b o, X.base.get? b = some o → b ∉ X.ex
  exfs : ∀ b ∈ X.ex, b ∉ X.fs
  funs : X.s₀.heap.FunFrames X.base X.outer
  frf : ∀ b ∈ X.fs, X.H₀ b = none
structure Inv (X : Cx) (pins : List (Addr × Obj)) (σ : List (Option V)) (H : Hp) (s : Shared) : Prop where
  ok : X.Ok
  os : s.os = X.s₀.os
  bare : AllBare s.gens
  base : Un X.fs X.ex X.H₀ H X.s₀.heap s.heap
  loc : ∃ m, s.heap.Ns X.env.locals m ∧ ∀ (i : Nat) (x : Str) (v : V), X.N[i]? = some x → σ[i]? = some (some v) → Vis X.env.scope x → ∃ u, RelV v u ∧ Look X.env s.heap m x u
  cell : ∀ x c, X.env.cells.lookup x = some c → ∃ v, s.heap.IsCell c v
  free : H X.env.locals = none
  freeC : ∀ x c, X.env.cells.lookup x = some c → H c = none
  pin : ∀ p ∈ X.pn ++ pins, s.heap.get? p.1 = some p.2 ∧ H p.1 = none ∧ p.1 ≠ X.env.locals ∧ p.1 ∉ X.fs ∧ ∀ v, p.2.data ≠ .cell v
  hok : HOk X.prog X.w H s.heap
  len : σ.length = X.N.length
section
variable {X : Cx} {pins : List (Addr × Obj)} {σ : List (Option V)} {H H' : Hp} {s : Shared} {h' : Heap}
theorem Cx.Ok.nofr (ok : X.Ok) {b : Addr} {o : Obj} (e : X.base.get? b = some o) : b ∉ X.fs := fun hb => by
  have := (ok.funs.mem hb).1
  rw [e] at this; cases this
theorem Inv.bs (I : Inv X pins σ H s) : ∀ b o, X.base.get? b = some o → s.heap.get? b = some o ∧ H b = none := fun b o e =>
  ⟨I.base.keep b o (I.ok.bs b o e).1 (I.ok.bs b o e).2 (I.ok.nofr e) (I.ok.noex b o e), I.base.free b o (I.ok.bs b o e).1 (I.ok.bs b o e).2 (I.ok.noex b o e)⟩
theorem Inv.bk (I : Inv X pins σ H s) : ∀ b o, X.base.get? b = some o → s.heap.get? b = some o := fun b o e => (I.bs b o e).1
theorem Inv.mod (I : Inv X pins σ H s) : Mod X.K X.mg X.base := I.ok.mod
theorem Inv.kIn (I : Inv X pins σ H s) : X.K.In s.heap := I.ok.mod.kin.keeps I.bk
theorem Inv.fr (I : Inv X pins σ H s) : ∃ m, Fr X.base X.env.locals s.heap m :=
  let ⟨m, hn, _⟩ := I.loc
  ⟨m, hn, I.bk, Nat.le_trans I.ok.bsz I.ok.above⟩
theorem Inv.lt (I : Inv X pins σ H s) : X.env.locals < s.heap.objs.size := let ⟨_, hn, _⟩ := I.loc; hn.lt
theorem Inv.sz (I : Inv X pins σ H s) : X.s₀.heap.objs.size ≤ s.heap.objs.size := Nat.le_trans I.ok.above (Nat.le_of_lt I.lt)
theorem Inv.nofs (I : Inv X pins σ H s) {a : Addr} (h : s.heap.objs.size ≤ a) : a ∉ X.fs := fun hb => by
  obtain ⟨_, o, ho, _⟩ := I.ok.funs.mem hb
  exact absurd (Nat.lt_of_lt_of_le (Heap.lt_size ho) (Nat.le_trans I.sz h)) (Nat.lt_irrefl _)
theorem Inv.cne (I : Inv X pins σ H s) : ∀ x c, X.env.cells.lookup x = some c → c ≠ X.env.locals := fun x c e z => by
  obtain ⟨v, o, ho, hd⟩ := I.cell x c e
  obtain ⟨m, ⟨o', es, ep, ho', hd', _⟩, _⟩ := I.loc
  rw [z, ho'] at ho; cases ho; rw [hd'] at hd; cases hd
theorem Inv.funs (I : Inv X pins σ H s) : s.heap.FunFrames X.base X.outer := by
  have all : ∀ (l : List Env), (∀ b ∈ frs l, b ∈ X.fs) → X.s₀.heap.FunFrames X.base l → s.heap.FunFrames X.base l := by
    intro l
    induction l with
    | nil => intro _ _; trivial
    | cons env r ih =>
      intro hs hl
      obtain ⟨hk, ⟨L, o, hf, hn, ho, hd⟩, hr⟩ := hl
      have hL : L ∈ X.fs := hs L (by unfold frs; rw [List.filterMap_cons, hf]; exact List.mem_cons_self)
      obtain ⟨sl, e⟩ := I.base.slot L o ho (I.ok.frf L hL) hL fun z => I.ok.exfs L z hL
      exact ⟨hk, ⟨L, _, hf, hn, e, hd⟩, ih (fun b hb => hs b (by unfold frs; rw [List.filterMap_cons, hf]; exact List.mem_cons_of_mem _ hb)) hr⟩
  exact all X.outer (fun _ hb => hb) I.ok.funs
theorem Inv.stack (I : Inv X pins σ H s) : s.heap.FunFrames X.base X.stack := by
  rcases I.ok.stk with e | ⟨e, hf⟩
  · rw [e]; exact I.funs
  · rw [e]
    obtain ⟨m, hn, _⟩ := I.loc
    refine .cons (by rw [I.ok.kind]; decide) hf hn ?_ I.funs
    exact Heap.get?_none_of_le (Nat.le_trans I.ok.bsz I.ok.above)
theorem Inv.stkSub (I : Inv X pins σ H s) : ∀ b ∈ frs X.stack, b ∈ X.env.locals :: X.fs := fun b hb => by
  rcases I.ok.stk with e | ⟨e, hf⟩
  · rw [e] at hb; exact List.mem_cons_of_mem _ hb
  · rw [e] at hb
    unfold frs at hb
    rw [List.filterMap_cons, hf] at hb
    exact hb
theorem Inv.stkFree (I : Inv X pins σ H s) : ∀ b ∈ frs X.stack, H b = none := fun b hb => by
  rcases List.mem_cons.mp (I.stkSub b hb) with e | hb
  · rw [e]; exact I.free
  · obtain ⟨_, o, ho, _⟩ := I.ok.funs.mem hb
    exact I.base.free b o ho (I.ok.frf b hb) fun z => I.ok.exfs b z hb
theorem Inv.step {g' : Array GenState} {t' : Nat} {d' : Drawn} {ch : List Addr} (I : Inv X pins σ H s)
    (hch : ∀ b ∈ ch, (b ∈ X.ex ∨ X.s₀.heap.objs.size ≤ b) ∧ b ≠ X.env.locals ∧ (∀ x c, X.env.cells.lookup x = some c → c ≠ b) ∧ ∀ p ∈ X.pn ++ pins, p.1 ≠ b)
    (keep : ∀ b o, b ≠ X.env.locals → b ∉ X.fs → b ∉ ch → s.heap.get? b = some o → H b = none → h'.get? b = some o)
    (slot : ∀ b o, b ≠ X.env.locals → b ∈ X.fs → b ∉ ch → s.heap.get? b = some o → H b = none → ∃ sl, h'.get? b = some { o with slots := sl }) (free : ∀ b o, b ∉ ch → s.heap.get? b = some o → H b = none → H' b = none)
    (there : ∀ b o, b ∉ ch → s.heap.get? b = some o → ∃ o', h'.get? b = some o')
    (tups : ∀ b xs, H b = some (.tup xs) → H' b = some (.tup xs)) (frzs : ∀ b o u, H b = some (.frz o u) → H' b = some (.frz o u)) (tbls : ∀ b ps, H b = some (.tbl ps) → ∃ more, H' b = some (.tbl (ps ++ more)))
    (ns : ∀ m, s.heap.Ns X.env.locals m → h'.Ns X.env.locals m) (hok : HOk X.prog X.w H' h') (hg : AllBare g') :
    Inv X pins σ H' { s with heap := h', gens := g', drawn := d', toks := t' } := by
  have neL : ∀ b o, X.s₀.heap.get? b = some o → b ≠ X.env.locals := fun b o e => Nat.ne_of_lt (Nat.lt_of_lt_of_le (Heap.lt_size e) I.ok.above)
  have neC : ∀ b o, X.s₀.heap.get? b = some o → b ∉ X.ex → b ∉ ch := fun b o e hx hb => by
    rcases (hch b hb).1 with z | z
    · exact hx z
    · exact absurd (Nat.lt_of_lt_of_le (Heap.lt_size e) z) (Nat.lt_irrefl _)
  have cellK : ∀ x c, X.env.cells.lookup x = some c → ∀ v, s.heap.IsCell c v → h'.IsCell c v := fun x c e v ⟨o, ho, hd⟩ => by
    have nch : c ∉ ch := fun z => (hch c z).2.2.1 x c e rfl
    by_cases hc : c ∈ X.fs
    · obtain ⟨sl, q⟩ := slot c o (I.cne x c e) hc nch ho (I.freeC x c e)
      exact ⟨_, q, hd⟩
    · exact ⟨o, keep c o (I.cne x c e) hc nch ho (I.freeC x c e), hd⟩
  refine ⟨I.ok, I.os, hg, ⟨fun b o e n hb hx => ?_, fun b o e n hb hx => ?_, fun b o e n hx => ?_, fun b o e hx => ?_, fun b xs e => tups b xs (I.base.tups b xs e), fun b o xs e => frzs b o xs (I.base.frzs b o xs e), fun b ps e => ?_⟩, ?_, fun x c e => ?_, ?_, fun x c e => ?_, fun p hp => ?_, hok, I.len⟩
  · exact keep b o (neL b o e) hb (neC b o e hx) (I.base.keep b o e n hb hx) (I.base.free b o e n hx)
  · obtain ⟨sl, e1⟩ := I.base.slot b o e n hb hx
    obtain ⟨sl', e2⟩ := slot b _ (neL b o e) hb (neC b o e hx) e1 (I.base.free b o e n hx)
    exact ⟨sl', e2⟩
  · obtain ⟨o', e1⟩ := I.base.there b o e hx
    exact free b o' (neC b o e hx) e1 (I.base.free b o e n hx)
  · obtain ⟨o', e1⟩ := I.base.there b o e hx
    exact there b o' (neC b o e hx) e1
  · obtain ⟨m1, e1⟩ := I.base.tbls b ps e
    obtain ⟨m2, e2⟩ := tbls b _ e1
    exact ⟨m1 ++ m2, by rw [e2, Array.append_assoc]⟩
  · obtain ⟨m, hn, hl⟩ := I.loc
    refine ⟨m, ns m hn, fun i x v e1 e2 e3 => ?_⟩
    obtain ⟨u, r, l⟩ := hl i x v e1 e2 e3
    refine ⟨u, r, ?_⟩
    rcases l with l | ⟨k, c, e, z⟩
    · exact .inl l
    · exact .inr ⟨k, c, e, cellK x c e _ z⟩
  · obtain ⟨v, z⟩ := I.cell x c e
    exact ⟨v, cellK x c e v z⟩
  · obtain ⟨m, ⟨o, _, _, ho, _⟩, _⟩ := I.loc
    exact free _ o (fun z => (hch _ z).2.1 rfl) ho I.free
  · obtain ⟨v, o, ho, hd⟩ := I.cell x c e
    exact free c o (fun z => (hch c z).2.2.1 x c e rfl) ho (I.freeC x c e)
  · obtain ⟨e, n, ne, nf, d⟩ := I.pin p hp
    have nch : p.1 ∉ ch := fun z => (hch p.1 z).2.2.2 p hp rfl
    exact ⟨keep p.1 p.2 ne nf nch e n, free p.1 p.2 nch e n, ne, nf, d⟩
theorem Inv.un {t' : Nat} (I : Inv X pins σ H s) (u : Un X.fs [] H H' s.heap h') (hok : HOk X.prog X.w H' h') : Inv X pins σ H' { s with heap := h', toks := t' } := by
  obtain ⟨m, ⟨o, es, ep, ho, r⟩, _⟩ := id I.loc
  obtain ⟨sl, hL⟩ := u.any ho I.free (by simp)
  exact I.step (g' := s.gens) (d' := s.drawn) (ch := []) (fun _ z => nomatch z) (fun b o _ hb _ e n => u.keep b o e n hb (by simp)) (fun b o _ hb _ e n => u.slot b o e n hb (by simp)) (fun b o _ e n => u.free b o e n (by simp)) (fun b o _ e => u.there b o e (by simp)) u.tups u.frzs u.tbls (fun m' hm => by
    obtain ⟨o', es', ep', ho', r'⟩ := hm
    rw [ho] at ho'; cases ho'
    exact ⟨_, es', ep', hL, r'⟩) hok I.bare
theorem Inv.call {g' : Array GenState} {t' : Nat} {d' : Drawn} {ch : List Addr} (I : Inv X pins σ H s) (u : Un (frs X.stack) ch H H' s.heap h') (hok : HOk X.prog X.w H' h') (hg : AllBare g')
    (hch : ∀ b ∈ ch, (b ∈ X.ex ∨ X.s₀.heap.objs.size ≤ b) ∧ b ≠ X.env.locals ∧ (∀ x c, X.env.cells.lookup x = some c → c ≠ b) ∧ ∀ p ∈ X.pn ++ pins, p.1 ≠ b) :
    Inv X pins σ H' { s with heap := h', gens := g', drawn := d', toks := t' } := by
  obtain ⟨m, ⟨o, es, ep, ho, r⟩, _⟩ := id I.loc
  obtain ⟨sl, hL⟩ := u.any ho I.free fun z => (hch _ z).2.1 rfl
  exact I.step (ch := ch) hch (fun b o hL hb hc e n => u.keep b o e n (fun z => (List.mem_cons.mp (I.stkSub b z)).elim hL hb) hc) (fun b o _ _ hc e n => u.any e n hc) (fun b o hc e n => u.free b o e n hc) (fun b o hc e => u.there b o e hc) u.tups u.frzs u.tbls (fun m' hm => by
    obtain ⟨o', es', ep', ho', r'⟩ := hm
    rw [ho] at ho'; cases ho'
    exact ⟨_, es', ep', hL, r'⟩) hok hg
theorem Inv.turned {t' : Nat} {it : Addr} (I : Inv X pins σ H s) (k : ∀ b o, b ≠ it → s.heap.get? b = some o → h'.get? b = some o) (hn : H it = none) (hL : it ≠ X.env.locals)
    (h1 : it ∈ X.ex ∨ X.s₀.heap.objs.size ≤ it) (h2 : ∀ x c, X.env.cells.lookup x = some c → c ≠ it) (h3 : ∀ p ∈ X.pn ++ pins, p.1 ≠ it) : Inv X pins σ H { s with heap := h', toks := t' } := by
  have nit : ∀ b u, H b = some u → b ≠ it := fun b u e z => by rw [z, hn] at e; cases e
  refine I.step (g' := s.gens) (d' := s.drawn) (ch := [it]) (fun b hb => ?_) (fun b o _ _ hc e _ => k b o (fun z => hc (by simp [z])) e) (fun b o _ _ hc e _ => ⟨o.slots, k b o (fun z => hc (by simp [z])) e⟩) (fun _ _ _ _ n => n)
    (fun b o hc e => ⟨o, k b o (fun z => hc (by simp [z])) e⟩) (fun _ _ e => e) (fun _ _ _ e => e) (fun b ps e => ⟨#[], by rw [e]; simp⟩) (fun m hm => ?_) (fun b u e => ?_) I.bare
  · have e : b = it := by simpa using hb
    subst e
    exact ⟨h1, hL, h2, h3⟩
  · obtain ⟨o, es, ep, ho, r⟩ := hm
    exact ⟨o, es, ep, k _ o (Ne.symm hL) ho, r⟩
  · refine (I.hok b u e).stay (fun c v hc q => k c v ?_ q) (fun _ q => q) fun _ _ q => q
    rcases hc with z | z
    · rw [z]; exact nit b u e
    · exact nit c _ z
theorem Inv.tok (I : Inv X pins σ H s) (t : Nat) : Inv X pins σ H { s with toks := t } := I.un (h' := s.heap) (t' := t) Un.refl I.hok
theorem Inv.kept {t' : Nat} (I : Inv X pins σ H s) (k : ∀ b u, s.heap.get? b = some u → h'.get? b = some u) : Inv X pins σ H { s with heap := h', toks := t' } := I.un (Un.kept k) (I.hok.kept k)
theorem Inv.laid {a : Addr} {o : HO} {t' : Nat} (I : Inv X pins σ H s) (k : ∀ b u, s.heap.get? b = some u → h'.get? b = some u) (hp : s.heap.objs.size ≤ a) (new : ObjOk X.prog X.w (upd H a o) h' a o) :
    Inv X pins σ (upd H a o) { s with heap := h', toks := t' } := I.un (Un.laid k hp (I.hok.fresh hp)) (I.hok.laid k hp new)
theorem Inv.write {x e : Addr} {o : HO} {t' : Nat} (I : Inv X pins σ H s) (mu : Mut (H x)) (he : e = x ∨ H e = some (.own x)) (k : ∀ b u, b ≠ e → s.heap.get? b = some u → h'.get? b = some u) (heo : ∃ u, h'.get? e = some u)
    (new : ObjOk X.prog X.w (upd H x o) h' x o) : Inv X pins σ (upd H x o) { s with heap := h', toks := t' } := I.un (Un.write mu he k heo) (I.hok.write mu he k heo new)
theorem Inv.weak {σ' : List (Option V)} (I : Inv X pins σ H s) (hl : σ'.length = σ.length) (w : ∀ (i : Nat) v, σ'[i]? = some (some v) → σ[i]? = some (some v)) : Inv X pins σ' H s :=
  ⟨I.ok, I.os, I.bare, I.base, let ⟨m, hn, hl'⟩ := I.loc; ⟨m, hn, fun i x v e1 e2 e3 => hl' i x v e1 (w i v e2) e3⟩, I.cell, I.free, I.freeC, I.pin, I.hok, hl.trans I.len⟩
theorem Inv.pins_of {pins' : List (Addr × Obj)} (I : Inv X pins σ H s) (h : ∀ p ∈ pins', s.heap.get? p.1 = some p.2 ∧ H p.1 = none ∧ p.1 ≠ X.env.locals ∧ p.1 ∉ X.fs ∧ ∀ v, p.2.data ≠ .cell v) : Inv X pins' σ H s :=
  ⟨I.ok, I.os, I.bare, I.base, I.loc, I.cell, I.free, I.freeC, fun p hp => (List.mem_append.mp hp).elim (fun z => I.pin p (List.mem_append_left _ z)) (h p), I.hok, I.len⟩
theorem nodup_ix {N : List Str} (hN : N.Nodup) {i j : Nat} {x : Str} (a : N[i]? = some x) (b : N[j]? = some x) : i = j := by
  obtain ⟨h1, e1⟩ := List.getElem?_eq_some_iff.mp a
  obtain ⟨h2, e2⟩ := List.getElem?_eq_some_iff.mp b
  exact (List.getElem_inj hN).mp (e1.trans e2.symm)
theorem store_ok2 {M : Model} {A : Around} {E : Value → Shared → Prop} {i : Nat} {x : Str} {v : V} {u : Value} {Q : Unit → Shared → Prop} (I : Inv X pins σ H s) (hN : X.N.Nodup) (hi : X.N[i]? = some x) (hx : Loc X.env.scope x) (r : RelV v u)
    (h : ∀ s', Inv X pins (σ.set i (some v)) H s' → (∃ a, Heap.SameBut a s.heap s'.heap ∧ (a = X.env.locals ∨ X.env.cells.lookup x = some a)) → Q () s') (hf : X.fn x = true ∨ X.env.scope.names.lookup x = some .local := by first | exact .inl rfl | exact .inr rfl | assumption) : wpAny M A (storeName X.env x u) Q E s := by
  obtain ⟨m, hn, hl⟩ := id I.loc
  have hcls : (X.env.scope.kind == .class || (X.env.scope.kind == .module && X.env.locals != X.env.globals)) = false := by rw [I.ok.kind]; rfl
  have hiσ : i < σ.length := by rw [I.len]; exact (List.getElem?_eq_some_iff.mp hi).1
  have cne := I.cne
  have tracked : ∀ {a : Addr} {h' : Heap}, (∃ o, s.heap.get? a = some o ∧ H a = none) → Heap.SameBut a s.heap h' → HOk X.prog X.w H h' := fun {a h'} ha hs b ob e => by
    obtain ⟨_, _, hfree⟩ := ha
    refine (I.hok b ob e).stay (fun c w' hc q => (hs.2 c ?_).trans q) (fun _ q => q) fun _ _ q => q
    rintro rfl
    rcases hc with rfl | hc
    · rw [hfree] at e; cases e
    · rw [hfree] at hc; cases hc
  rcases hx with hk | hk
  · refine wpAny_storeName_local hk hn (fun h' hn' hs => ?_) hcls
    obtain ⟨oL, _, _, hoL, _⟩ := id hn
    refine h _ ⟨I.ok, I.os, I.bare, ⟨fun b o e n hb hx => ?_, fun b o e n hb hx => ?_, I.base.free, fun b o e hx => ?_, I.base.tups, I.base.frzs, I.base.tbls⟩, ⟨_, hn', fun j y v' e1 e2 e3 => ?_⟩, fun y c e => ?_, I.free, I.freeC, fun p hp => ?_, tracked ⟨oL, hoL, I.free⟩ hs, by simpa using I.len⟩ ⟨_, hs, .inl rfl⟩
    · exact (hs.2 b (Nat.ne_of_lt (Nat.lt_of_lt_of_le (Heap.lt_size e) I.ok.above))).trans (I.base.keep b o e n hb hx)
    · obtain ⟨sl, e1⟩ := I.base.slot b o e n hb hx
      exact ⟨sl, (hs.2 b (Nat.ne_of_lt (Nat.lt_of_lt_of_le (Heap.lt_size e) I.ok.above))).trans e1⟩
    · obtain ⟨o', e1⟩ := I.base.there b o e hx
      exact ⟨o', (hs.2 b (Nat.ne_of_lt (Nat.lt_of_lt_of_le (Heap.lt_size e) I.ok.above))).trans e1⟩
    · by_cases hj : j = i
      · subst hj
        rw [hi] at e1; cases e1
        rw [List.getElem?_set_self hiσ] at e2
        cases e2
        exact ⟨u, r, .inl ⟨hk, by simp⟩⟩
      · rw [List.getElem?_set_ne (Ne.symm hj)] at e2
        obtain ⟨u', r', q⟩ := hl j y v' e1 e2 e3
        refine ⟨u', r', ?_⟩
        rcases q with ⟨k, e⟩ | ⟨k, c, e, z⟩
        · refine .inl ⟨k, ?_⟩
          have : y ≠ x := fun e => hj (nodup_ix hN e1 (e ▸ hi))
          simp [this, e]
        · exact .inr ⟨k, c, e, z.sameBut hs (cne y c e)⟩
    · obtain ⟨w', z⟩ := I.cell y c e
      exact ⟨w', z.sameBut hs (cne y c e)⟩
    · obtain ⟨e, n, ne, nf, d⟩ := I.pin p hp
      exact ⟨(hs.2 p.1 ne).trans e, n, ne, nf, d⟩
  · have hfn : X.fn x = true := by
      rcases hf with z | z
      · exact z
      · rw [z] at hk; cases hk
    obtain ⟨c, hc⟩ := I.ok.has x (.inl hk)
    obtain ⟨w', z⟩ := I.cell x c hc
    refine wpAny_storeName_cell I.ok.kind hk hc z (fun h' hc' hs => ?_)
    obtain ⟨oc, hoc, hocd⟩ := id z
    refine h { s with heap := h' } ⟨I.ok, I.os, I.bare, ⟨fun b o e n hb hx => ?_, fun b o e n hb hx => ?_, I.base.free, fun b o e hx => ?_, I.base.tups, I.base.frzs, I.base.tbls⟩, ⟨m, hn.sameBut hs (Ne.symm (cne x c hc)), fun j y v' e1 e2 e3 => ?_⟩, fun y c' e => ?_, I.free, I.freeC, fun p hp => ?_, tracked ⟨oc, hoc, I.freeC x c hc⟩ hs, by simpa using I.len⟩ ⟨c, hs, .inr hc⟩
    · exact (hs.2 b (Nat.ne_of_lt (Nat.lt_of_lt_of_le (Heap.lt_size e) (I.ok.cab x c hfn hc)))).trans (I.base.keep b o e n hb hx)
    · obtain ⟨sl, e1⟩ := I.base.slot b o e n hb hx
      exact ⟨sl, (hs.2 b (Nat.ne_of_lt (Nat.lt_of_lt_of_le (Heap.lt_size e) (I.ok.cab x c hfn hc)))).trans e1⟩
    · obtain ⟨o', e1⟩ := I.base.there b o e hx
      exact ⟨o', (hs.2 b (Nat.ne_of_lt (Nat.lt_of_lt_of_le (Heap.lt_size e) (I.ok.cab x c hfn hc)))).trans e1⟩
    · by_cases hj : j = i
      · subst hj
        rw [hi] at e1; cases e1
        rw [List.getElem?_set_self hiσ] at e2
        cases e2
        exact ⟨u, r, .inr ⟨.inl hk, c, hc, hc'⟩⟩
      · rw [List.getElem?_set_ne (Ne.symm hj)] at e2
        obtain ⟨u', r', q⟩ := hl j y v' e1 e2 e3
        refine ⟨u', r', ?_⟩
        rcases q with q | ⟨k, c', e, z'⟩
        · exact .inl q
        · refine .inr ⟨k, c', e, z'.sameBut hs ?_⟩
          rintro rfl
          exact hj (nodup_ix hN e1 (I.ok.inj _ _ _ e hc ▸ hi))
    · by_cases hcc : c' = c
      · subst hcc; exact ⟨_, hc'⟩
      · obtain ⟨w2, z2⟩ := I.cell y c' e
        exact ⟨w2, z2.sameBut hs hcc⟩
    · obtain ⟨e, n, ne, nf, d⟩ := I.pin p hp
      refine ⟨(hs.2 p.1 ?_).trans e, n, ne, nf, d⟩
      intro q
      rw [q, hoc] at e
      have q' : oc = p.2 := Option.some.inj e
      exact d w' (by rw [← q']; exact hocd)
theorem store_ok {M : Model} {A : Around} {E : Value → Shared → Prop} {i : Nat} {x : Str} {v : V} {u : Value} {Q : Unit → Shared → Prop} (I : Inv X pins σ H s) (hN : X.N.Nodup) (hi : X.N[i]? = some x) (hx : Loc X.env.scope x) (r : RelV v u)
    (h : ∀ s', Inv X pins (σ.set i (some v)) H s' → Q () s') (hf : X.fn x = true ∨ X.env.scope.names.lookup x = some .local := by first | exact .inl rfl | exact .inr rfl | assumption) : wpAny M A (storeName X.env x u) Q E s :=
  store_ok2 I hN hi hx r (fun s' I' _ => h s' I') hf
theorem Inv.call' {s' : Shared} {ch : List Addr} (I : Inv X pins σ H s) (ho : s'.os = s.os) (u : Un (frs X.stack) ch H H' s.heap s'.heap) (hok : HOk X.prog X.w H' s'.heap) (hg : AllBare s'.gens)
    (hch : ∀ b ∈ ch, (b ∈ X.ex ∨ X.s₀.heap.objs.size ≤ b) ∧ b ≠ X.env.locals ∧ (∀ x c, X.env.cells.lookup x = some c → c ≠ b) ∧ ∀ p ∈ X.pn ++ pins, p.1 ≠ b) : Inv X pins σ H' s' := by
  obtain ⟨h', g', d', t', o'⟩ := s'
  have e : o' = s.os := ho
  subst e
  exact I.call (g' := g') (t' := t') (d' := d') u hok hg hch
end
abbrev XK := Value → Option Addr → Hp → Prop
abbrev St := List (Option V)
abbrev VK := V → Hp → Prop
abbrev TE := St → Hp → VK → Prop
abbrev TT := St → Hp → (Bool → Hp → Prop) → Prop
abbrev TA := St → Hp → (List V → Hp → Prop) → Prop
structure Ends where
  nx : St → Hp → Prop
  rt : VK
  bk : St → Hp → Prop := fun _ _ => False
  ct : St → Hp → Prop := fun _ _ => False
abbrev TS := Ends → St → Hp → Prop
def EP (X : Cx) (pins : List (Addr × Obj)) (σ : St) (Q : VK) (u : Value) (s' : Shared) : Prop := ∃ v H', Inv X pins σ H' s' ∧ RelV v u ∧ Q v H'
def TP (X : Cx) (pins : List (Addr × Obj)) (σ : St) (Q : Bool → Hp → Prop) (b : Bool) (s' : Shared) : Prop := ∃ H', Inv X pins σ H' s' ∧ Q b H'
def AP (X : Cx) (pins : List (Addr × Obj)) (σ : St) (Q : List V → Hp → Prop) (us : List Value) (s' : Shared) : Prop := ∃ vs H', Inv X pins σ H' s' ∧ Vals vs us ∧ Q vs H'
def SP (X : Cx) (pins : List (Addr × Obj)) (D : Ends) (f : Flow) (s' : Shared) : Prop :=
  match f with
  | .next => ∃ σ' H', Inv X pins σ' H' s' ∧ D.nx σ' H'
  | .brk => ∃ σ' H', Inv X pins σ' H' s' ∧ D.bk σ' H'
  | .cont => ∃ σ' H', Inv X pins σ' H' s' ∧ D.ct σ' H'
  | .ret u => ∃ v σ' H', Inv X pins σ' H' s' ∧ RelV v u ∧ D.rt v H'
def PE (X : Cx) (e : Expr) (t : TE) : Prop :=
  ∀ (pins : List (Addr × Obj)) (s : Shared) (σ : St) (H : Hp) (Q : VK), Inv X pins σ H s → t σ H Q → wpAny (model X.prog X.w) X.A (eval e X.env) (EP X pins σ Q) X.xe s
def PT (X : Cx) (e : Expr) (t : TT) : Prop :=
  ∀ (pins : List (Addr × Obj)) (s : Shared) (σ : St) (H : Hp) (Q : Bool → Hp → Prop), Inv X pins σ H s → t σ H Q → wpAny (model X.prog X.w) X.A (isTrue e X.env (eval e X.env)) (TP X pins σ Q) X.xe s
def PW (X : Cx) (e : Expr) (t : TT) : Prop :=
  ∀ (whole : Sem Value) (pins : List (Addr × Obj)) (s : Shared) (σ : St) (H : Hp) (Q : Bool → Hp → Prop), Inv X pins σ H s → t σ H Q → wpAny (model X.prog X.w) X.A (isTrue e X.env whole) (TP X pins σ Q) X.xe s
theorem PW.pt {X : Cx} {e : Expr} {t : TT} (h : PW X e t) : PT X e t := h _
def PA (X : Cx) (es : List Expr) (t : TA) : Prop :=
  ∀ (pos : Pos) (pins : List (Addr × Obj)) (s : Shared) (σ : St) (H : Hp) (Q : List V → Hp → Prop), Inv X pins σ H s → t σ H Q → wpAny (model X.prog X.w) X.A (spliced (backTo pos (starEach es X.env))) (AP X pins σ Q) X.xe s
def PS (X : Cx) (st : Stmt) (t : TS) : Prop :=
  ∀ (pins : List (Addr × Obj)) (s : Shared) (σ : St) (H : Hp) (D : Ends), Inv X pins σ H s → t D σ H → wpAny (model X.prog X.w) X.A (exec st X.env) (SP X pins D) X.xe s
def PSs (X : Cx) (st : List Stmt) (t : TS) : Prop :=
  ∀ (pins : List (Addr × Obj)) (s : Shared) (σ : St) (H : Hp) (D : Ends), Inv X pins σ H s → t D σ H → wpAny (model X.prog X.w) X.A (execs st X.env) (SP X pins D) X.xe s
theorem thn {α : Type} {t : Sem α} {Q Q' : α → Shared → Prop} {M : Model} {A : Around} {E : Value → Shared → Prop} {s : Shared} (h : wpAny M A t Q E s) (hQ : ∀ a s, Q a s → Q' a s) : wpAny M A t Q' E s := wpAny_mono h hQ fun _ _ x => x
end L2
namespace L2
open PySem PySem.Spec PyProof.Rows
section
variable {X : Cx}
theorem bin {a b : Expr} {ta tb : TE} (ha : PE X a ta) (hb : PE X b tb) {pins : List (Addr × Obj)} {s : Shared} {σ : St} {H : Hp} {R : V → V → Hp → Prop} (I : Inv X pins σ H s) (h : ta σ H fun x H1 => tb σ H1 fun y H2 => R x y H2)
    {α : Type} {Q : α → Shared → Prop} {f : Value → Value → Sem α}
    (hf : ∀ v u s2 x y H2, Inv X pins σ H2 s2 → RelV x v → RelV y u → R x y H2 → wpAny (model X.prog X.w) X.A (f v u) Q X.xe s2) :
    wpAny (model X.prog X.w) X.A (eval a X.env) (fun v s₁ => wpAny (model X.prog X.w) X.A (eval b X.env) (fun u s₂ => wpAny (model X.prog X.w) X.A (f v u) Q X.xe s₂) X.xe s₁) X.xe s := by
  refine thn (ha pins s σ H _ I h) fun v s1 ⟨x, H1, I1, r1, q1⟩ => ?_
  refine thn (hb pins s1 σ H1 _ I1 q1) fun u s2 ⟨y, H2, I2, r2, q2⟩ => ?_
  exact hf v u s2 x y H2 I2 r1 r2 q2
def tVar (i : Nat) : TE := fun σ H Q => ∃ v, σ[i]? = some (some v) ∧ Q v H
def tC (v : V) : TE := fun _ H Q => Q v H
theorem pe_var {i : Nat} {x : Str} {pos : Pos} (hN : X.N[i]? = some x) (hv : Vis X.env.scope x) (hd : (x == ("__debug__" : Str)) = false := by decide) (hcd : (x == ("__classdict__" : Str)) = false := by decide) : PE X (.Name x pos) (tVar i) := by
  intro pins s σ H Q I h
  obtain ⟨v, e, h⟩ := h
  obtain ⟨m, hn, hl⟩ := I.loc
  obtain ⟨u, r, l⟩ := hl i x v hN e hv
  have fin : EP X pins σ Q u s := ⟨v, H, I, r, h⟩
  rcases l with ⟨hk, hm⟩ | ⟨hk, c, hc, hcell⟩
  · exact wpAny_Name (wpAny_loadName_local I.ok.kind hk hn hm fin) hd
  · rcases hk with hk | hk
    · exact wpAny_Name (wpAny_loadName_cell I.ok.kind hk hc hcell fin) hd
    · exact wpAny_Name (wpAny_loadName_free I.ok.kind hk hc hcell fin hcd) hd
theorem pe_int {i j pos} : PE X (.Constant (.int i) j pos) (tC (.int i)) := fun _ _ _ H _ I h => wpAny_Constant_int ⟨.int i, H, I.tok _, ⟨_, rfl⟩, h⟩
theorem pe_bl {b j pos} : PE X (.Constant (.bool b) j pos) (tC (.bl b)) := fun _ _ _ H _ I h => Constant_bool ⟨.bl b, H, I, rfl, h⟩
theorem pe_non {j pos} : PE X (.Constant .none j pos) (tC .non) := fun _ _ _ H _ I h => Constant_none ⟨.non, H, I, rfl, h⟩
theorem pe_str {x j pos} : PE X (.Constant (.str x) j pos) (tC (.str x)) := fun _ _ _ H _ I h => Calls.Constant_str ⟨.str x, H, I.tok _, ⟨_, rfl⟩, h⟩
def Gl (X : Cx) (x : Str) : Prop := X.env.kindOf x = some .globalImplicit
theorem ld_glob {E : Value → Shared → Prop} {pins : List (Addr × Obj)} {s : Shared} {σ : St} {H : Hp} {x : Str} {u : Value} {pos : Pos} {Q : Value → Shared → Prop} (I : Inv X pins σ H s) (hg : Gl X x) (hm : X.mg x = some u) (h : Q u s)
    (hd : (x == ("__debug__" : Str)) = false := by decide) : wpAny (model X.prog X.w) X.A (eval (.Name x pos) X.env) Q E s :=
  Calls.Name_function_global I.ok.kind hg (Calls.loadGlobal_global (by rw [I.ok.glob]; exact I.mod.glob.keeps I.bk) hm h) hd
theorem ld_blt {E : Value → Shared → Prop} {pins : List (Addr × Obj)} {s : Shared} {σ : St} {H : Hp} {x : Str} {u : Value} {pos : Pos} {Q : Value → Shared → Prop} (I : Inv X pins σ H s) (hg : Gl X x) (hm : X.mg x = none) (hv : bootBuiltins x = some u) (h : Q u s)
    (hn : x ≠ "__name__" := by decide) (hd : (x == ("__debug__" : Str)) = false := by decide) : wpAny (model X.prog X.w) X.A (eval (.Name x pos) X.env) Q E s := by
  obtain ⟨mb, h1, h2⟩ := I.mod.blt
  exact Calls.Name_function_global I.ok.kind hg (Calls.loadGlobal_builtin (by rw [I.ok.glob]; exact I.mod.glob.keeps I.bk) hm (by rw [I.ok.blt]; exact h1.keeps I.bk) ((h2 x hn).trans hv) h) hd
theorem pe_glob {x : Str} {v : V} {u : Value} {pos : Pos} (hg : Gl X x) (hm : X.mg x = some u) (r : RelV v u) (hd : (x == ("__debug__" : Str)) = false := by decide) : PE X (.Name x pos) (tC v) :=
  fun _ _ _ H _ I h => ld_glob I hg hm ⟨v, H, I, r, h⟩ hd
theorem pe_bltn {x : Str} {v : V} {u : Value} {pos : Pos} (hg : Gl X x) (hm : X.mg x = none) (hv : bootBuiltins x = some u) (r : RelV v u) (hn : x ≠ "__name__" := by decide) (hd : (x == ("__debug__" : Str)) = false := by decide) : PE X (.Name x pos) (tC v) :=
  fun _ _ _ H _ I h => ld_blt I hg hm hv ⟨v, H, I, r, h⟩ hn hd
variable {a b : Expr} {ta tb : TE} {pos : Pos}
def PC (X : Cx) (op : CmpOp) (a b : Expr) (t : TE) : Prop :=
  ∀ (pins : List (Addr × Obj)) (s : Shared) (σ : St) (H : Hp) (Q : VK), Inv X pins σ H s → t σ H Q →
    wpAny (model X.prog X.w) X.A (eval a X.env) (fun v s₁ => wpAny (model X.prog X.w) X.A (eval b X.env) (fun u s₂ => wpAny (model X.prog X.w) X.A (compareOp op v u) (EP X pins σ Q) X.xe s₂) X.xe s₁) X.xe s
theorem nobehind (b : Expr) {op : CmpOp} (h : op ≠ .In) (h2 : op ≠ .NotIn) : behindInMarks op b = false := by
  have e1 : (op == CmpOp.In) = false := by cases op <;> first | rfl | exact absurd rfl h
  have e2 : (op == CmpOp.NotIn) = false := by cases op <;> first | rfl | exact absurd rfl h2
  cases b <;> simp [behindInMarks, e1, e2]
def tB (t : TE) : TT := fun σ H Q => t σ H fun x H1 => ∃ c, x = .bl c ∧ Q c H1
theorem pt_cmp {op : CmpOp} {t : TE} (h : PC X op a b t) (h1 : behindInMarks op b = false := by first | exact nobehind _ (by decide) (by decide) | rfl) : PT X (.Compare a [op] [b] pos) (tB t) := by
  intro pins s σ H Q I hw
  refine wpAny_isTrue_Compare1 (thn (h pins s σ H _ I hw) fun v s1 h1 => thn h1 fun u s2 h2 => thn h2 fun c s3 ⟨x, H1, I1, r1, q1⟩ => ?_) h1
  obtain ⟨d, rfl, q⟩ := q1
  cases r1
  exact wpAny_truthy_bool ⟨H1, I1, q⟩
theorem pt_val {e : Expr} {t : TE} (h : PE X e t) (he : ∀ whole, isTrue e X.env whole = (do let v ← whole; standAt e.pos; holding [v] (truthy v)) := by intro _; rfl) : PT X e (tB t) := by
  intro pins s σ H Q I hw
  refine isTrue_plain (thn (h pins s σ H _ I hw) fun v s1 ⟨x, H1, I1, r1, q1⟩ => ?_) (he _)
  obtain ⟨d, rfl, q⟩ := q1
  cases r1
  exact wpAny_truthy_bool ⟨H1, I1, q⟩
variable {tA tB' : TT} {rest : List Expr}
def tAnd (t u : TT) : TT := fun σ H Q => t σ H fun c H1 => if c = true then u σ H1 Q else Q false H1
def tOr (t u : TT) : TT := fun σ H Q => t σ H fun c H1 => if c = true then Q true H1 else u σ H1 Q
def tNot (t : TT) : TT := fun σ H Q => t σ H fun c H1 => Q (!c) H1
theorem pw_and1 (ha : PT X a tA) : PW X (.BoolOp .And [a] pos) tA := by
  intro wh pins s σ H Q I h
  refine isTrue_and (thn (ha pins s σ H Q I h) fun c s1 e => ?_)
  cases c with
  | true => exact isTrue_and_nil e
  | false => exact e
theorem pw_or1 (ha : PT X a tA) : PW X (.BoolOp .Or [a] pos) tA := by
  intro wh pins s σ H Q I h
  refine isTrue_or (thn (ha pins s σ H Q I h) fun c s1 e => ?_)
  cases c with
  | false => exact isTrue_or_nil e
  | true => exact e
theorem pw_and (ha : PT X a tA) (hb : PW X (.BoolOp .And (b :: rest) pos) tB') : PW X (.BoolOp .And (a :: b :: rest) pos) (tAnd tA tB') := by
  intro wh pins s σ H Q I h
  refine isTrue_and (thn (ha pins s σ H _ I h) fun c s1 ⟨H1, I1, q1⟩ => ?_)
  cases c with
  | true => exact hb wh pins s1 σ H1 Q I1 q1
  | false => exact ⟨H1, I1, q1⟩
theorem pw_or (ha : PT X a tA) (hb : PW X (.BoolOp .Or (b :: rest) pos) tB') : PW X (.BoolOp .Or (a :: b :: rest) pos) (tOr tA tB') := by
  intro wh pins s σ H Q I h
  refine isTrue_or (thn (ha pins s σ H _ I h) fun c s1 ⟨H1, I1, q1⟩ => ?_)
  cases c with
  | true => exact ⟨H1, I1, q1⟩
  | false => exact hb wh pins s1 σ H1 Q I1 q1
theorem pt_not (ha : PT X a tA) : PT X (.UnaryOp .Not a pos) (tNot tA) := by
  intro pins s σ H Q I h
  exact isTrue_not (ha pins s σ H (fun c H1 => Q (!c) H1) I h)
def tAndV (ta tb : TE) : TE := fun σ H Q => ta σ H fun x H1 => ∃ c, x = .bl c ∧ if c = true then tb σ H1 Q else Q (.bl false) H1
theorem pe_one {op} {t : TE} (h : PE X a t) : PE X (.BoolOp op [a] pos) t := fun pins s σ H Q I hw => BoolOp_one (h pins s σ H Q I hw)
theorem pe_and (ha : PE X a ta) (hb : PE X (.BoolOp .And (b :: rest) pos) tb) : PE X (.BoolOp .And (a :: b :: rest) pos) (tAndV ta tb) := by
  intro pins s σ H Q I h
  refine BoolOp_and (thn (ha pins s σ H _ I h) fun v s1 ⟨x, H1, I1, r1, q1⟩ => ?_)
  obtain ⟨c, rfl, q1⟩ := q1
  cases r1
  refine wpAny_truthy_bool ?_
  cases c with
  | true => exact hb pins s1 σ H1 Q I1 q1
  | false => exact ⟨.bl false, H1, I1, rfl, q1⟩
def tIf (t : TT) (ta tb : TE) : TE := fun σ H Q => t σ H fun c H1 => if c = true then ta σ H1 Q else tb σ H1 Q
theorem pe_ifExp {c : Expr} (hc : PT X c tA) (ha : PE X a ta) (hb : PE X b tb) : PE X (.IfExp c a b pos) (tIf tA ta tb) := by
  intro pins s σ H Q I h
  refine wpAny_IfExp (thn (hc pins s σ H _ I h) fun d s1 ⟨H1, I1, q1⟩ => ?_)
  cases d with
  | true => exact ha pins s1 σ H1 Q I1 q1
  | false => exact hb pins s1 σ H1 Q I1 q1
end
end L2
namespace L2
open PySem PySem.Spec PyProof.Rows
def SqL (K : PySem.W.Frag) (H : Hp) (a : Addr) (xs : List V) : Prop :=
  Rd H a (.lst xs) ∨
    ∃ (o : Obj) (its : Array Value) (n : Nat), K.lookup a = some o ∧ o.cls = .type "list" ∧ o.dict = none ∧ o.data = .seq its n ∧ its.size ≤ sizeLine ∧ Vals xs its.toList
def SqT (K : PySem.W.Frag) (H : Hp) (a : Addr) (xs : List V) : Prop :=
  Rd H a (.tup xs) ∨
    ∃ (o : Obj) (its : Array Value) (n : Nat), K.lookup a = some o ∧ o.cls = .type "tuple" ∧ o.data = .seq its n ∧ its.size ≤ sizeLine ∧ Vals xs its.toList
def absV : Value → Option V
  | .none => some .non
  | .bool b => some (.bl b)
  | .int i _ => some (.int i)
  | .str x _ => some (.str x)
  | .bytes b _ => some (.byt b)
  | .float b _ => some (.flt b)
  | .ref a => some (.ref a)
  | .type n => some (.ty n)
  | _ => none
theorem RelV.abs {x : V} {u : Value} (r : RelV x u) : absV u = some x := by
  cases x with
  | non => cases r; rfl
  | bl _ => cases r; rfl
  | int _ => obtain ⟨t, rfl⟩ := r; rfl
  | str _ => obtain ⟨t, rfl⟩ := r; rfl
  | byt _ => obtain ⟨t, rfl⟩ := r; rfl
  | flt _ => obtain ⟨t, rfl⟩ := r; rfl
  | ref _ => cases r; rfl
  | ty _ => cases r; rfl
theorem RelV.inj {x y : V} {u : Value} (r : RelV x u) (q : RelV y u) : x = y := Option.some.inj (r.abs.symm.trans q.abs)
theorem Vals.inj : ∀ {xs ys : List V} {us : List Value}, Vals xs us → Vals ys us → xs = ys
  | _, _, _, .nil, .nil => rfl
  | _, _, _, .cons r t, .cons r' t' => by rw [r.inj r', Vals.inj t t']
section
variable {X : Cx} {pins : List (Addr × Obj)} {σ : St} {H : Hp} {s : Shared} {a : Addr} {xs ys : List V}
theorem SqL.of {K : PySem.W.Frag} (h : H a = some (.lst xs)) : SqL K H a xs := .inl (.inl h)
theorem SqT.of {K : PySem.W.Frag} (h : H a = some (.tup xs)) : SqT K H a xs := .inl (.inl h)
theorem Inv.list (I : Inv X pins σ H s) (h : SqL X.K H a xs) : ∃ its : List Value, Vals xs its ∧ PlainL s.heap a its.toArray ∧ xs.length ≤ sizeLine := by
  rcases h with h | ⟨o, its, n, hk, hc, hd, hs, hz, r⟩
  · obtain ⟨z, its, n, r, e⟩ := h.ok I.hok
    exact ⟨its, r, ⟨_, n, e, rfl, rfl, rfl⟩, z⟩
  · refine ⟨its.toList, r, ⟨o, n, I.kIn a o hk, hc, hd, by simpa using hs⟩, ?_⟩
    have e := r.length
    simp only [Array.length_toList] at e
    omega
theorem Inv.tuple (I : Inv X pins σ H s) (h : SqT X.K H a xs) : ∃ its : List Value, Vals xs its ∧ IsTup s.heap a its.toArray ∧ xs.length ≤ sizeLine := by
  rcases h with h | ⟨o, its, n, hk, hc, hs, hz, r⟩
  · obtain ⟨z, its, r, p⟩ := h.ok I.hok
    exact ⟨its, r, p, z⟩
  · refine ⟨its.toList, r, ⟨o, I.kIn a o hk, hc, n, by simpa using hs⟩, ?_⟩
    have e := r.length
    simp only [Array.length_toList] at e
    omega
theorem Inv.list_inj (I : Inv X pins σ H s) (h : SqL X.K H a xs) (h' : SqL X.K H a ys) : xs = ys := by
  obtain ⟨its, r, ⟨o, n, e, _, _, d⟩, _⟩ := I.list h
  obtain ⟨its', r', ⟨o', n', e', _, _, d'⟩, _⟩ := I.list h'
  rw [e] at e'; cases e'
  rw [d] at d'
  injection d' with d1 _
  have : its = its' := by simpa using congrArg Array.toList d1
  subst this
  exact r.inj r'
end
abbrev Cx.wish (X : Cx) (E : Value → Shared → Prop) : Cx := { X with xe := E }
abbrev Cx.nox (X : Cx) : Cx := X.wish fun _ _ => False
theorem Cx.Ok.wish {X : Cx} (ok : X.Ok) (E : Value → Shared → Prop) : (X.wish E).Ok :=
  ⟨ok.mod, ok.kind, ok.glob, ok.blt, ok.above, ok.inj, ok.has, ok.cab, ok.hd, ok.frames, ok.stk, ok.exf, ok.bs, ok.bsz, ok.noex, ok.exfs, ok.funs, ok.frf⟩
theorem Cx.Ok.unwish {X : Cx} {E : Value → Shared → Prop} (ok : (X.wish E).Ok) : X.Ok :=
  ⟨ok.mod, ok.kind, ok.glob, ok.blt, ok.above, ok.inj, ok.has, ok.cab, ok.hd, ok.frames, ok.stk, ok.exf, ok.bs, ok.bsz, ok.noex, ok.exfs, ok.funs, ok.frf⟩
section
variable {X : Cx} {pins : List (Addr × Obj)} {σ : St} {H : Hp} {s : Shared} {E : Value → Shared → Prop}
theorem Inv.wish (I : Inv X pins σ H s) (E : Value → Shared → Prop) : Inv (X.wish E) pins σ H s := ⟨I.ok.wish E, I.os, I.bare, I.base, I.loc, I.cell, I.free, I.freeC, I.pin, I.hok, I.len⟩
theorem Inv.unwish (I : Inv (X.wish E) pins σ H s) : Inv X pins σ H s := ⟨I.ok.unwish, I.os, I.bare, I.base, I.loc, I.cell, I.free, I.freeC, I.pin, I.hok, I.len⟩
theorem SP.unwish {D : Ends} {f : Flow} {s' : Shared} (h : SP (X.wish E) pins D f s') : SP X pins D f s' := by
  cases f with
  | next => obtain ⟨σ', H', I, q⟩ := h; exact ⟨σ', H', I.unwish, q⟩
  | brk => obtain ⟨σ', H', I, q⟩ := h; exact ⟨σ', H', I.unwish, q⟩
  | cont => obtain ⟨σ', H', I, q⟩ := h; exact ⟨σ', H', I.unwish, q⟩
  | ret u => obtain ⟨v, σ', H', I, r, q⟩ := h; exact ⟨v, σ', H', I.unwish, r, q⟩
theorem PT.nox {e : Expr} {t : TT} (h : PT X.nox e t) : PT X e t := fun pins s σ H Q I hw =>
  wpAny_mono (h pins s σ H Q (I.wish _) hw) (fun _ _ ⟨H', I', q⟩ => ⟨H', I'.unwish, q⟩) fun _ _ z => False.elim z
theorem PSs.nox {st : List Stmt} {t : TS} (h : PSs X.nox st t) : PSs X st t := fun pins s σ H D I hw =>
  wpAny_mono (h pins s σ H D (I.wish _) hw) (fun _ _ q => q.unwish) fun _ _ z => False.elim z
end
section
variable {X : Cx} {st : Stmt} {rest : List Stmt} {t u : TS} {e : Expr} {te : TE} {pos : Pos}
def tNext : TS := fun D σ H => D.nx σ H
def tSeq (t u : TS) : TS := fun D σ H => t { D with nx := u D } σ H
theorem pss_nil : PSs X [] tNext := fun _ _ σ H _ I h => wpAny_execs_nil ⟨σ, H, I, h⟩
theorem pss_cons (h1 : PS X st t) (h2 : PSs X rest u) : PSs X (st :: rest) (tSeq t u) := by
  intro pins s σ H D I h
  refine wpAny_execs_cons (thn (h1 pins s σ H { D with nx := u D } I h) fun f s1 q => ?_)
  cases f with
  | next =>
    obtain ⟨σ', H', I', q⟩ := q
    exact h2 pins s1 σ' H' D I' q
  | ret v => exact q
  | brk => exact q
  | cont => exact q
theorem pss_one (h1 : PS X st t) : PSs X [st] t := by
  intro pins s σ H D I h
  refine wpAny_execs_cons (thn (h1 pins s σ H D I h) fun f s1 q => ?_)
  cases f with
  | next => exact wpAny_execs_nil q
  | ret v => exact q
  | brk => exact q
  | cont => exact q
theorem Inv.quiet {pins : List (Addr × Obj)} {σ : St} {H : Hp} {s : Shared} (I : Inv X pins σ H s) : interactive X.env = false := by simp [interactive, I.ok.kind]
def tDrop (te : TE) : TS := fun D σ H => te σ H fun _ H1 => D.nx σ H1
theorem ps_expr (he : PE X e te) (hs : swapsWith e none pos.line X.env = pure false := by rfl) : PS X (.Expr e pos) (tDrop te) := by
  intro pins s σ H D I h
  exact wpAny_Expr_any (thn (he pins s σ H _ I h) fun v s1 ⟨x, H1, I1, r1, q1⟩ => ⟨σ, H1, I1, q1⟩) I.quiet hs
def tRet (te : TE) : TS := fun D σ H => te σ H D.rt
theorem ps_ret (he : PE X e te) : PS X (.Return (some e) pos) (tRet te) := by
  intro pins s σ H D I h
  exact wpAny_Return_some (thn (he pins s σ H _ I h) fun v s1 ⟨x, H1, I1, r1, q1⟩ => ⟨x, σ, H1, I1, r1, q1⟩)
def tRetN : TS := fun D _ H => D.rt .non H
def tIfS (c : TT) (t u : TS) : TS := fun D σ H => c σ H fun b H1 => if b = true then t D σ H1 else u D σ H1
theorem ps_if {c : Expr} {a b : List Stmt} {tc : TT} (hc : PT X c tc) (ha : PSs X a t) (hb : PSs X b u) : PS X (.If c a b pos) (tIfS tc t u) := by
  intro pins s σ H D I h
  refine wpAny_If (thn (hc pins s σ H _ I h) fun d s1 ⟨H1, I1, q1⟩ => ?_)
  cases d with
  | true => exact ha pins s1 σ H1 D I1 q1
  | false => exact hb pins s1 σ H1 D I1 q1
end
abbrev TG := V → St → Hp → (St → Hp → Prop) → Prop
abbrev TGs := List V → St → Hp → (St → Hp → Prop) → Prop
def PG (X : Cx) (target : Expr) (t : TG) : Prop :=
  ∀ (pins : List (Addr × Obj)) (s : Shared) (σ : St) (H : Hp) (v : V) (u : Value) (Q : St → Hp → Prop), Inv X pins σ H s → RelV v u → t v σ H Q →
    wpAny (model X.prog X.w) X.A (assign target X.env u) (fun _ s' => ∃ σ' H', Inv X pins σ' H' s' ∧ Q σ' H') X.xe s
def PGs (X : Cx) (ts : List Expr) (t : TGs) : Prop :=
  ∀ (pins : List (Addr × Obj)) (s : Shared) (σ : St) (H : Hp) (vs : List V) (us : List Value) (Q : St → Hp → Prop), Inv X pins σ H s → Vals vs us → t vs σ H Q →
    wpAny (model X.prog X.w) X.A (assignInOrder ((assignEach ts X.env).map (·.2)) us) (fun _ s' => ∃ σ' H', Inv X pins σ' H' s' ∧ Q σ' H') X.xe s
abbrev TSet := V → V → V → Hp → (Hp → Prop) → Prop
def PSet (X : Cx) (t : TSet) : Prop :=
  ∀ (pins : List (Addr × Obj)) (s : Shared) (σ : St) (H : Hp) (o i v : V) (ov iv u : Value) (Q : Hp → Prop), Inv X pins σ H s → RelV o ov → RelV i iv → RelV v u → t o i v H Q →
    wpAny (model X.prog X.w) X.A (setItem ov iv u) (fun _ s' => ∃ H', Inv X pins σ H' s' ∧ Q H') X.xe s
abbrev TIp := V → V → Hp → VK → Prop
def PIp (X : Cx) (op : Operator) (t : TIp) : Prop :=
  ∀ (pins : List (Addr × Obj)) (s : Shared) (σ : St) (H : Hp) (x y : V) (v u : Value) (Q : VK), Inv X pins σ H s → RelV x v → RelV y u → t x y H Q →
    wpAny (model X.prog X.w) X.A (inplaceOp op v u) (EP X pins σ Q) X.xe s
section
variable {X : Cx} {pos : Pos}
def gName (i : Nat) : TG := fun v σ H Q => Q (σ.set i (some v)) H
theorem pg_name {i : Nat} {x : Str} (hN : X.N.Nodup) (hi : X.N[i]? = some x) (hx : Loc X.env.scope x) (hf : X.fn x = true ∨ X.env.scope.names.lookup x = some .local := by first | exact .inl rfl | exact .inr rfl | assumption) : PG X (.Name x pos) (gName i) := by
  intro pins s σ H v u Q I r h
  exact wpAny_assign_Name (store_ok I hN hi hx r (fun s' I' => ⟨_, H, I', h⟩) hf)
def gNil : TGs := fun vs σ H Q => vs = [] ∧ Q σ H
def gCons (t : TG) (u : TGs) : TGs := fun vs σ H Q => ∃ v r, vs = v :: r ∧ t v σ H fun σ' H' => u r σ' H' Q
theorem pgs_nil : PGs X [] gNil := by
  intro pins s σ H vs us Q I r h
  obtain ⟨e, h⟩ := h
  subst e
  cases r
  exact assignInOrder_nil ⟨σ, H, I, h⟩
theorem pgs_cons {e : Expr} {es : List Expr} {t : TG} {u : TGs} (h1 : PG X e t) (h2 : PGs X es u)
    (hs : (assignEach (e :: es) X.env).map (·.2) = assign e X.env :: (assignEach es X.env).map (·.2) := by rfl) : PGs X (e :: es) (gCons t u) := by
  intro pins s σ H vs us Q I r h
  obtain ⟨v, vr, e1, h⟩ := h
  subst e1
  cases r with
  | cons r rr =>
    rw [hs]
    refine assignInOrder_cons (thn (h1 pins s σ H _ _ _ I r h) fun _ s1 ⟨σ1, H1, I1, q1⟩ => ?_)
    exact h2 pins s1 σ1 H1 _ _ Q I1 rr q1
def gTup (K : PySem.W.Frag) (n : Nat) (t : TGs) : TG := fun v σ H Q => ∃ a xs, v = .ref a ∧ SqT K H a xs ∧ xs.length = n ∧ t xs σ H Q
theorem pg_tup {es : List Expr} {k : Nat} {t : TGs} {n : Nat} (hc : X.calm = true) (h : PGs X es t)
    (hn : (assignEach es X.env).length = n := by rfl) (hst : (assignEach es X.env).findIdx? (·.1) = none := by rfl) : PG X (.Tuple es k pos) (gTup X.K n t) := by
  intro pins s σ H v u Q I r hw
  obtain ⟨a, xs, e1, hq, hl, hw⟩ := hw
  subst e1
  cases r
  obtain ⟨its, rv, ht, hz⟩ := I.tuple hq
  refine assign_Tuple_tuple (I.ok.hd hc) ht (by simp [hn, ← hl, rv.length]) hst fun h' hx => ?_
  have I1 : Inv X pins σ H { s with heap := h' } := I.kept (t' := s.toks) fun b o e => hx b o (Nat.ne_of_lt (Heap.lt_size e)) e
  exact h pins _ σ H xs _ Q I1 (by simpa using rv) hw
def gSub (to ti : TE) (t : TSet) : TG := fun v σ H Q => to σ H fun o H1 => ti σ H1 fun i H2 => t o i v H2 fun H3 => Q σ H3
theorem pg_sub {o i : Expr} {to ti : TE} {t : TSet} (ho : PE X o to) (hi : PE X i ti) (hs : PSet X t)
    (ha : ∀ v, assign (.Subscript o i pos) X.env v = (do
      let ov ← holding [v] (eval o X.env)
      let iv ← holding [v, ov] (eval i X.env)
      standAt pos
      holding [v, ov, iv] (setItem ov iv v)
      release [v, ov, iv] []) := by intro _; rfl) : PG X (.Subscript o i pos) (gSub to ti t) := by
  intro pins s σ H v u Q I r h
  rw [ha]
  refine wpAny_bind (wpAny_holding (thn (ho pins s σ H _ I h) fun ov s1 ⟨x, H1, I1, r1, q1⟩ => ?_))
  refine wpAny_bind (wpAny_holding (thn (hi pins s1 σ H1 _ I1 q1) fun iv s2 ⟨y, H2, I2, r2, q2⟩ => ?_))
  refine wpAny_bind (wpAny_standAt (wpAny_bind (wpAny_holding (thn (hs pins s2 σ H2 x y v ov iv u _ I2 r1 r2 r q2) fun _ s3 ⟨H3, I3, q3⟩ => ?_))))
  exact wpAny_release ⟨σ, H3, I3, q3⟩
def tAsg (te : TE) (g : TG) : TS := fun D σ H => te σ H fun x H1 => g x σ H1 D.nx
theorem ps_asg {tg e : Expr} {te : TE} {g : TG} (he : PE X e te) (hg : PG X tg g) (hs : swapsWithSole [tg] e pos.line X.env = pure false := by rfl) (hw : swappedStores [tg] e X.env = pure none := by rfl)
    (h1 : (assignEach [tg] X.env).map (·.2) = [assign tg X.env] := by rfl) : PS X (.Assign [tg] e pos) (tAsg te g) := by
  intro pins s σ H D I h
  refine wpAny_Assign_stores (thn (he pins s σ H _ I h) fun v s1 ⟨x, H1, I1, r1, q1⟩ => ?_) hs hw
  rw [h1]
  exact thn (hg pins s1 σ H1 x v _ I1 r1 q1) fun _ s2 q => q
theorem ps_set {i : Nat} {x : Str} {e : Expr} {te : TE} {pos' : Pos} (hN : X.N.Nodup) (hi : X.N[i]? = some x) (hx : Loc X.env.scope x) (he : PE X e te) (hs : swapsWith e (some (.Name x pos')) pos.line X.env = pure false := by rfl) (hf : X.fn x = true ∨ X.env.scope.names.lookup x = some .local := by first | exact .inl rfl | exact .inr rfl | assumption) :
    PS X (.Assign [.Name x pos'] e pos) (tAsg te (gName i)) := by
  intro pins s σ H D I h
  refine wpAny_Assign_Name (thn (he pins s σ H _ I h) fun v s1 ⟨y, H1, I1, r1, q1⟩ => ?_) hs
  exact store_ok I1 hN hi hx r1 (fun s2 I2 => ⟨_, H1, I2, q1⟩) hf
def tAugS (to ti te : TE) (tget : V → V → Hp → VK → Prop) (tip : TIp) (tset : TSet) : TS := fun D σ H => to σ H fun o H1 => ti σ H1 fun i H2 => tget o i H2 fun x H3 => te σ H3 fun y H4 => tip x y H4 fun z H5 => tset o i z H5 fun H6 => D.nx σ H6
def PGet (X : Cx) (t : V → V → Hp → VK → Prop) : Prop :=
  ∀ (pins : List (Addr × Obj)) (s : Shared) (σ : St) (H : Hp) (o i : V) (ov iv : Value) (Q : VK), Inv X pins σ H s → RelV o ov → RelV i iv → t o i H Q →
    wpAny (model X.prog X.w) X.A (getItem ov iv) (EP X pins σ Q) X.xe s
theorem ps_augS {o i e : Expr} {to ti te : TE} {tget : V → V → Hp → VK → Prop} {tip : TIp} {tset : TSet} {op : Operator} {tpos : Pos} (ho : PE X o to) (hi : PE X i ti) (hg : PGet X tget) (he : PE X e te) (hp : PIp X op tip) (hs : PSet X tset)
    (ha : ∀ ov iv new, augStore i ov iv new = (do holding [new, ov, iv] (setItem ov iv new); release [new, ov, iv] []; pure .next) := by intros; rfl) : PS X (.AugAssign (.Subscript o i tpos) op e pos) (tAugS to ti te tget tip tset) := by
  intro pins s σ H D I h
  refine wpAny_AugAssign_SubscriptAny (thn (ho pins s σ H _ I h) fun ov s1 ⟨x1, H1, I1, r1, q1⟩ => ?_) ha
  refine thn (hi pins s1 σ H1 _ I1 q1) fun iv s2 ⟨x2, H2, I2, r2, q2⟩ => ?_
  refine thn (hg pins s2 σ H2 x1 x2 ov iv _ I2 r1 r2 q2) fun old s3 ⟨x3, H3, I3, r3, q3⟩ => ?_
  refine thn (he pins s3 σ H3 _ I3 q3) fun v s4 ⟨x4, H4, I4, r4, q4⟩ => ?_
  refine thn (hp pins s4 σ H4 x3 x4 old v _ I4 r3 r4 q4) fun new s5 ⟨x5, H5, I5, r5, q5⟩ => ?_
  exact thn (hs pins s5 σ H5 x1 x2 x5 ov iv new _ I5 r1 r2 r5 q5) fun _ s6 ⟨H6, I6, q6⟩ => ⟨σ, H6, I6, q6⟩
def ipI (f : Int → Int → Int) : TIp := fun x y H Q => ∃ i j, x = .int i ∧ y = .int j ∧ Q (.int (f i j)) H
theorem ip_add : PIp X .Add (ipI fun i j => i + j) := by
  intro pins s σ H x y v u Q I r1 r2 h
  obtain ⟨i, j, e1, e2, q⟩ := h
  subst e1; subst e2
  obtain ⟨t, rfl⟩ := r1
  obtain ⟨t', rfl⟩ := r2
  exact iadd_int ⟨.int _, H, I.tok _, ⟨_, rfl⟩, q⟩
theorem ip_sub : PIp X .Sub (ipI fun i j => i - j) := by
  intro pins s σ H x y v u Q I r1 r2 h
  obtain ⟨i, j, e1, e2, q⟩ := h
  subst e1; subst e2
  obtain ⟨t, rfl⟩ := r1
  obtain ⟨t', rfl⟩ := r2
  exact isub_int ⟨.int _, H, I.tok _, ⟨_, rfl⟩, q⟩
end
section
variable {X : Cx} {pos : Pos}
def tWhile (c : TT) (tb : TS) : TS := fun D σ H => ∃ W : Nat → St → Hp → Prop, (∃ m, W m σ H) ∧ ∀ m σ H, W m σ H →
  c σ H fun b H1 => if b = true then ∃ N : St → Hp → Prop, (∀ σ' H', N σ' H' → ∃ m', m' < m ∧ W m' σ' H') ∧ tb { D with nx := N, ct := N, bk := D.nx } σ H1 else D.nx σ H1
theorem ps_while {c : Expr} {body : List Stmt} {tc : TT} {tb : TS} (hp : PassesOwn (model X.prog X.w) X.A X.env X.xe) (hc : PT X c tc) (hb : PSs X body tb) : PS X (.While c body [] pos) (tWhile tc tb) := by
  intro pins s σ H D I h
  obtain ⟨W, ⟨m0, w0⟩, turn⟩ := h
  refine wpAny_While (codeAny_whileLoop (fun n s' => ∃ σ' H', Inv X pins σ' H' s' ∧ W n σ' H') ?_ m0 ⟨σ, H, I, w0⟩)
  rintro n s1 ⟨σ1, H1, I1, w1⟩
  refine wpAny_passesOwn hp (thn (hc pins s1 σ1 H1 _ I1 (turn n σ1 H1 w1)) fun b s2 ⟨H2, I2, q2⟩ => ?_)
  cases b with
  | true =>
    obtain ⟨N, hN, q2⟩ := q2
    rw [if_pos rfl]
    refine wpAny_passesOwn hp (thn (hb pins s2 σ1 H2 _ I2 q2) fun f s3 q3 => ?_)
    cases f with
    | next =>
      obtain ⟨σ3, H3, I3, n3⟩ := q3
      obtain ⟨m', hm, w3⟩ := hN σ3 H3 n3
      exact ⟨m', hm, σ3, H3, I3, w3⟩
    | cont =>
      obtain ⟨σ3, H3, I3, n3⟩ := q3
      obtain ⟨m', hm, w3⟩ := hN σ3 H3 n3
      exact ⟨m', hm, σ3, H3, I3, w3⟩
    | brk => exact q3
    | ret v => exact q3
  | false =>
    rw [if_neg Bool.false_ne_true]
    exact wpAny_execs_nil ⟨σ1, H2, I2, q2⟩
end
structure It where
  go : Nat → Hp → Prop
  yld : Nat → Hp → V → Hp → Prop
  stop : Nat → Hp → Prop
def FpOk (X : Cx) (pins : List (Addr × Obj)) (H : Hp) (b : Addr) : Prop :=
  H b = none ∧ b ≠ X.env.locals ∧ b ∉ X.fs ∧ (b ∈ X.ex ∨ X.s₀.heap.objs.size ≤ b) ∧ (∀ x c, X.env.cells.lookup x = some c → c ≠ b) ∧ ∀ p ∈ X.pn ++ pins, p.1 ≠ b
theorem Inv.fpOk {X : Cx} {pins : List (Addr × Obj)} {σ : St} {H H' : Hp} {s : Shared} {b : Addr} (I : Inv X pins σ H s) (hb : s.heap.objs.size ≤ b) (hn : H' b = none) : FpOk X pins H' b := by
  refine ⟨hn, Nat.ne_of_gt (Nat.lt_of_lt_of_le I.lt hb), I.nofs hb, .inr (Nat.le_trans I.sz hb), fun x c e z => ?_, fun p hp z => ?_⟩
  · obtain ⟨v, q⟩ := I.cell x c e
    exact absurd (Nat.lt_of_lt_of_le q.lt (by rw [z]; exact hb)) (Nat.lt_irrefl _)
  · exact absurd (Nat.lt_of_lt_of_le (Heap.lt_size (I.pin p hp).1) (by rw [z]; exact hb)) (Nat.lt_irrefl _)
structure Turn (P : Program) (w : World) (K : PySem.W.Frag) (tg : Expr) (J : It) (fp : List Addr) (it : Addr) (tn : Nat → Heap → Prop) : Prop where
  mem : it ∈ fp
  obj : ∀ i h, tn i h → ∀ b ∈ fp, ∃ o, h.get? b = some o ∧ ∀ v, o.data ≠ .cell v
  keep : ∀ i h h', tn i h → (∀ b ∈ fp, ∀ o, h.get? b = some o → h'.get? b = some o) → tn i h'
  item : ∀ (X : Cx), X.prog = P → X.w = w → X.K = K → X.calm = true → ∀ (i : Nat) (pins : List (Addr × Obj)) (s : Shared) (σ : St) (H : Hp) (E : Value → Shared → Prop), Inv X pins σ H s → (∀ b ∈ fp, FpOk X pins H b) → tn i s.heap → J.go i H →
    wpAny (model P w) X.A (pyNext (.ref it)) (fun r s1 => ∃ u, r = some u ∧
      wpAny (model P w) X.A (letOwnedTupleGo tg (.ref it) u) (fun _ s2 => ∃ x H', Inv X pins σ H' s2 ∧ RelV x u ∧ J.yld i H x H' ∧ tn (i + 1) s2.heap ∧ ∀ b ∈ fp, H' b = none) E s1) E s
  done : ∀ (X : Cx), X.prog = P → X.w = w → X.K = K → X.calm = true → ∀ (i : Nat) (pins : List (Addr × Obj)) (s : Shared) (σ : St) (H : Hp) (E : Value → Shared → Prop), Inv X pins σ H s → (∀ b ∈ fp, FpOk X pins H b) → tn i s.heap → J.stop i H →
    wpAny (model P w) X.A (pyNext (.ref it)) (fun r s1 => r = none ∧ Inv X pins σ H s1) E s
  self : ∀ (A : Around) (i : Nat) (s : Shared) (Q : Value → Shared → Prop) (E : Value → Shared → Prop), tn i s.heap → Q (.ref it) s → wpAny (model P w) A (pyIter (.ref it)) Q E s
abbrev TI := St → Hp → (It → Hp → Prop) → Prop
def PIE (X : Cx) (pins : List (Addr × Obj)) (σ : St) (tg : Expr) (R : It → Hp → Prop) (itv : Value) (s2 : Shared) : Prop :=
  ∃ (it : Addr) (fp : List Addr) (tn : Nat → Heap → Prop) (J : It) (H' : Hp), itv = .ref it ∧ Inv X pins σ H' s2 ∧ Turn X.prog X.w X.K tg J fp it tn ∧ tn 0 s2.heap ∧ (∀ b ∈ fp, FpOk X pins H' b) ∧ R J H'
def PI (X : Cx) (tg iter : Expr) (wi : TI) : Prop :=
  ∀ (pins : List (Addr × Obj)) (s : Shared) (σ : St) (H : Hp) (R : It → Hp → Prop), Inv X pins σ H s → wi σ H R →
    wpAny (model X.prog X.w) X.A (eval iter X.env) (fun v s1 => wpAny (model X.prog X.w) X.A (pyIter v) (PIE X pins σ tg R) X.xe s1) X.xe s
theorem go_of {M : Model} {A : Around} {E : Value → Shared → Prop} {s : Shared} {tg : Expr} {it : Addr} {u : Value} {o : Obj} {n : String} {vs : Array Value} {Q : Unit → Shared → Prop} (ho : s.heap.get? it = some o) (hc : o.cls = .type n) (hd : o.data = .fields vs)
    (hn : ["enumerate", "zip", "dict_itemiterator", "dict_reverseitemiterator", "odict_iterator", "itertools.zip_longest", "itertools.pairwise"].contains n = false) (hQ : Q () s) : wpAny M A (letOwnedTupleGo tg (.ref it) u) Q E s := by
  unfold letOwnedTupleGo
  cases tg <;> first
    | exact wpAny_pure hQ
    | (cases u <;> first
        | exact wpAny_pure hQ
        | (refine wpAny_bind (wpAny_load ho ?_)
           rw [hc, hd]
           show wpAny M A (if (["enumerate", "zip", "dict_itemiterator", "dict_reverseitemiterator", "odict_iterator", "itertools.zip_longest", "itertools.pairwise"].contains n && vs[0]? == some (rawInt _)) = true then _ else _) Q E s
           rw [if_neg (by intro h; rw [hn, Bool.false_and] at h; cases h)]
           exact wpAny_pure hQ))
def Itl (K : PySem.W.Frag) (a : Addr) : It :=
  ⟨fun i H => ∃ xs x, SqL K H a xs ∧ xs[i]? = some x, fun i H x H' => H' = H ∧ ∀ xs, SqL K H a xs → xs[i]? = some x, fun i H => ∃ xs, SqL K H a xs ∧ xs.length ≤ i⟩
def Itr (lo : Int) (n : Nat) : It := ⟨fun i _ => i < n, fun i H x H' => H' = H ∧ x = .int (lo + i), fun i _ => n ≤ i⟩
theorem turn_list {P : Program} {w : World} {K : PySem.W.Frag} {tg : Expr} (a it : Addr) : Turn P w K tg (Itl K a) [it] it (fun i h => h.IsListIter it a i) where
  mem := by simp
  obj := fun i h st b hb => by
    have e : b = it := by simpa using hb
    subst e
    obtain ⟨o, e, c, d⟩ := st
    exact ⟨o, e, fun v z => by rw [d] at z; cases z⟩
  keep := fun i h h' st k => st.at fun o e => k it (by simp) o e
  item := by
    intro X hP hw hK hc i pins s σ H E I hf st hg
    subst hP hw hK
    obtain ⟨xs, x, hq, hx⟩ := hg
    obtain ⟨its, rv, p, hz⟩ := I.list hq
    obtain ⟨u, hu, ru⟩ := rv.get hx
    obtain ⟨f0, f1, f2, f3, f4, f5⟩ := hf it (by simp)
    refine wpAny_pyNext_list_item st p.isList (x := u) (by simpa using hu) fun h' st' sb => ?_
    have I1 : Inv X pins σ H { s with heap := h' } := I.turned (t' := s.toks) (fun b o hb e => (sb.2 b hb).trans e) f0 f1 f3 f4 f5
    obtain ⟨o, e, c, d⟩ := id st'
    exact ⟨u, rfl, go_of (s := { s with heap := h' }) e c d (by decide) ⟨x, H, I1, ru, ⟨rfl, fun ys hy => by rw [I.list_inj hy hq]; exact hx⟩, st', fun b hb => (hf b hb).1⟩⟩
  done := by
    intro X hP hw hK hc i pins s σ H E I hf st hg
    subst hP hw hK
    obtain ⟨xs, hq, hx⟩ := hg
    obtain ⟨its, rv, p, hz⟩ := I.list hq
    obtain ⟨f0, f1, f2, f3, f4, f5⟩ := hf it (by simp)
    have hl := rv.length
    exact wpAny_pyNext_list_end (I.ok.hd hc) st p.isList (by simp; omega) fun h' eb => ⟨rfl, I.turned (t' := s.toks) (fun b o hb e => eb b o hb e) f0 f1 f3 f4 f5⟩
  self := fun _ _ _ _ _ st h => wpAny_pyIter_listiter st h
theorem turn_range {P : Program} {w : World} {K : PySem.W.Frag} {tg : Expr} (it : Addr) (lo : Int) (n : Nat) : Turn P w K tg (Itr lo n) [it] it (fun i h => IsRangeIter h it (lo + (i : Nat) * 1) ((n : Int) - (i : Nat)) 1) where
  mem := by simp
  obj := fun i h st b hb => by
    have e : b = it := by simpa using hb
    subst e
    exact ⟨_, st, fun v z => by
      have z' : Data.fields _ = Data.cell v := z
      cases z'⟩
  keep := fun i h h' st k => k it (by simp) _ st
  item := by
    intro X hP hw hK hc i pins s σ H E I hf st hg
    subst hP hw hK
    obtain ⟨f0, f1, f2, f3, f4, f5⟩ := hf it (by simp)
    have W := Walks.range (prog := X.prog) (w := X.w) (I.ok.hd hc) it lo 1 n
    refine W.item i s _ _ hg st fun v h' tk hv st' kk => ?_
    obtain ⟨t, rfl⟩ := hv
    have I1 : Inv X pins σ H { s with heap := h', toks := tk } := I.turned (fun b o hb e => kk b o (by simpa using hb) e) f0 f1 f3 f4 f5
    refine ⟨_, rfl, go_of (s := { s with heap := h', toks := tk }) (n := "range_iterator") st' rfl rfl (by decide) ⟨.int (lo + i), H, I1, ⟨t, ?_⟩, ⟨rfl, rfl⟩, st', fun b hb => (hf b hb).1⟩⟩
    rw [Int.mul_one]
  done := by
    intro X hP hw hK hc i pins s σ H E I hf st hg
    subst hP hw hK
    obtain ⟨f0, f1, f2, f3, f4, f5⟩ := hf it (by simp)
    exact wpAny_pyNext_range_end (I.ok.hd hc) st (by have : n ≤ i := hg; omega) fun h' eb => ⟨rfl, I.turned (t' := s.toks) (fun b o hb e => eb b o hb e) f0 f1 f3 f4 f5⟩
  self := fun _ _ _ _ _ st h => wpAny_pyIter_rangeiter st h
end L2
namespace L2
open PySem PySem.Spec PyProof.Rows
section
variable {X : Cx} {tg : Expr}
def iList (K : PySem.W.Frag) (tl : TE) : TI := fun σ H R => tl σ H fun x H1 => ∃ a, x = .ref a ∧ (∃ xs, SqL K H1 a xs) ∧ R (Itl K a) H1
theorem pi_list {l : Expr} {tl : TE} (hl : PE X l tl) : PI X tg l (iList X.K tl) := by
  intro pins s σ H R I h
  refine thn (hl pins s σ H _ I h) fun v s1 ⟨x, H1, I1, r1, q1⟩ => ?_
  obtain ⟨a, e, ⟨xs, hq⟩, q⟩ := q1
  subst e
  cases r1
  obtain ⟨its, rv, p, hz⟩ := I1.list hq
  refine wpAny_pyIter_list p.isList ?_
  refine ⟨s1.heap.objs.size, [s1.heap.objs.size], _, _, H1, rfl, I1.kept (t' := s1.toks) fun b o e => Heap.get?_push_of_some _ e, turn_list a _, ⟨_, Heap.get?_push_size _ rfl, rfl, rfl⟩, fun b hb => ?_, q⟩
  have e : b = s1.heap.objs.size := by simpa using hb
  subst e
  exact I1.fpOk (Nat.le_refl _) (I1.hok.fresh (Nat.le_refl _))
theorem range_it {pins : List (Addr × Obj)} {σ : St} {H : Hp} {s : Shared} {R : It → Hp → Prop} {E : Value → Shared → Prop} {lo hi : Int} {t u v : Tok} {tk : Nat} (I : Inv X pins σ H s) (h1 : -(2 ^ 62) ≤ lo) (h2 : lo < 2 ^ 62) (h3 : -(2 ^ 62) ≤ hi) (h4 : hi < 2 ^ 62)
    (q : R (Itr lo (hi - lo).toNat) H) : wpAny (model X.prog X.w) X.A (pyIter (.ref s.heap.objs.size)) (PIE X pins σ tg R) E { s with heap := s.heap.push { cls := .type "range", data := .fields #[.int lo t, .int hi u, .int 1 v] }, toks := tk } := by
  refine wpAny_pyIter_range (IsRange.new ..) (small_one h1 h2 h3 h4) ?_
  have I1 : Inv X pins σ H { s with heap := s.heap.push { cls := .type "range", data := .fields #[.int lo t, .int hi u, .int 1 v] }, toks := tk } := I.kept fun b o e => Heap.get?_push_of_some _ e
  refine ⟨(s.heap.push { cls := .type "range", data := .fields #[.int lo t, .int hi u, .int 1 v] }).objs.size, [(s.heap.push { cls := .type "range", data := .fields #[.int lo t, .int hi u, .int 1 v] }).objs.size], _, _, H, rfl,
    I1.kept (t' := tk) fun b o e => Heap.get?_push_of_some _ e, turn_range _ lo (hi - lo).toNat, ?_, fun b hb => ?_, q⟩
  · have e1 : lo + ((0 : Nat) : Int) * 1 = lo := by simp
    have e2 : (((hi - lo).toNat : Nat) : Int) - ((0 : Nat) : Int) = Builtin.Range.rangeSize lo hi 1 := by rw [rangeSize_one]; split <;> omega
    show IsRangeIter _ _ (lo + ((0 : Nat) : Int) * 1) ((((hi - lo).toNat : Nat) : Int) - ((0 : Nat) : Int)) 1
    rw [e1, e2]
    exact Heap.get?_push_size _ rfl
  · have e : b = (s.heap.push { cls := .type "range", data := .fields #[.int lo t, .int hi u, .int 1 v] }).objs.size := by simpa using hb
    subst e
    exact I1.fpOk (Nat.le_refl _) (I1.hok.fresh (Nat.le_refl _))
def iRng1 (ta : TA) : TI := fun σ H R => ta σ H fun vs H1 => ∃ j : Int, vs = [.int j] ∧ -(2 ^ 62) ≤ j ∧ j < 2 ^ 62 ∧ R (Itr 0 j.toNat) H1
theorem pi_range1 {a : Expr} {ta : TA} {p pos : Pos} (hg : Gl X "range") (hm : X.mg "range" = none) (ha : PA X [a] ta) (hs : starEach [a] X.env = [(false, eval a X.env)] := by rfl) : PI X tg (.Call (.Name "range" p) [a] [] pos) (iRng1 ta) := by
  intro pins s σ H R I h
  refine Call_ (ld_blt I hg hm boot_range (PyProof.Rows.callWith_type1 (thn (ha pos pins s σ H _ I h) fun us s1 ⟨vs, H1, I1, r1, q1⟩ => ?_) hs rfl))
  obtain ⟨j, e, q1, q2, q⟩ := q1
  subst e
  cases r1 with
  | cons r rr =>
    cases rr
    obtain ⟨t, rfl⟩ := r
    exact call_range_1 (range_it I1 (by omega) (by omega) q1 q2 (by simpa using q))
def tFor (wi : TI) (g : TG) (tb : TS) : TS := fun D σ H => wi σ H fun J H1 => ∃ W : Nat → Nat → St → Hp → Prop, (∃ m, W 0 m σ H1) ∧ ∀ i m σ H, W i m σ H →
  (J.stop i H ∧ D.nx σ H) ∨ (J.go i H ∧ ∃ N : St → Hp → Prop, (∀ σ' H', N σ' H' → ∃ m', m' < m ∧ W (i + 1) m' σ' H') ∧ ∀ x H', J.yld i H x H' → g x σ H' fun σ2 H2 => tb { D with nx := N, ct := N, bk := D.nx } σ2 H2)
def pinsAt (fp : List Addr) (h : Heap) : List (Addr × Obj) := fp.filterMap fun b => (h.get? b).map fun o => (b, o)
theorem mem_pinsAt {fp : List Addr} {h : Heap} {b : Addr} {o : Obj} (hb : b ∈ fp) (e : h.get? b = some o) : (b, o) ∈ pinsAt fp h := List.mem_filterMap.mpr ⟨b, hb, by rw [e]; rfl⟩
theorem of_pinsAt {fp : List Addr} {h : Heap} {p : Addr × Obj} (hp : p ∈ pinsAt fp h) : p.1 ∈ fp ∧ h.get? p.1 = some p.2 := by
  obtain ⟨b, hb, e⟩ := List.mem_filterMap.mp hp
  cases q : h.get? b with
  | none => rw [q] at e; cases e
  | some o =>
    rw [q] at e
    have e' : (b, o) = p := Option.some.inj e
    subst e'
    exact ⟨hb, q⟩
theorem Inv.pinned {pins : List (Addr × Obj)} {σ : St} {H : Hp} {s : Shared} {fp : List Addr} (I : Inv X pins σ H s) (hf : ∀ b ∈ fp, FpOk X pins H b) (ho : ∀ b ∈ fp, ∃ o, s.heap.get? b = some o ∧ ∀ v, o.data ≠ .cell v) : Inv X (pins ++ pinsAt fp s.heap) σ H s :=
  I.pins_of fun p hp => (List.mem_append.mp hp).elim (fun z => I.pin p (List.mem_append_right _ z)) fun z => by
    obtain ⟨hb, e⟩ := of_pinsAt z
    obtain ⟨f0, f1, f2, _⟩ := hf p.1 hb
    obtain ⟨o, e', d⟩ := ho p.1 hb
    rw [e] at e'; cases e'
    exact ⟨e, f0, f1, f2, d⟩
theorem Inv.unpinned {pins pl : List (Addr × Obj)} {σ : St} {H : Hp} {s : Shared} (I : Inv X (pins ++ pl) σ H s) : Inv X pins σ H s := I.pins_of fun p hp => I.pin p (List.mem_append_right _ (List.mem_append_left _ hp))
theorem ps_for {iter : Expr} {body : List Stmt} {wi : TI} {g : TG} {tb : TS} {pos : Pos} (hp : PassesOwn (model X.prog X.w) X.A X.env X.xe) (hc : X.calm = true) (hi : PI X tg iter wi) (hg : PG X tg g) (hb : PSs X body tb)
    (hs : ∀ x, foldedSetIterable iter X.env x = pure x := by intro _; rfl) : PS X (.For tg iter body [] pos) (tFor wi g tb) := by
  intro pins s σ H D I h
  refine wpAny_For (thn (hi pins s σ H _ I h) fun v s1 h1 => thn h1 fun itv s2 h2 => ?_) hs
  obtain ⟨it, fp, tn, J, H2, e, I2, T, st2, f2, W, ⟨m0, w0⟩, turn⟩ := h2
  subst e
  have stat : ∀ {H' : Hp}, (∀ b ∈ fp, H' b = none) → ∀ b ∈ fp, FpOk X pins H' b := fun hn b hb => ⟨hn b hb, (f2 b hb).2⟩
  refine codeAny_forLoop_any (fun n s' => ∃ i σ' H', Inv X pins σ' H' s' ∧ tn i s'.heap ∧ (∀ b ∈ fp, H' b = none) ∧ W i n σ' H') ?_ m0 ⟨0, σ, H2, I2, st2, fun b hb => (f2 b hb).1, w0⟩
  rintro n s3 ⟨i, σ3, H3, I3, st3, fr3, w3⟩
  rcases turn i n σ3 H3 w3 with ⟨stop, qn⟩ | ⟨go, N, hN, step⟩
  · refine wpAny_passesOwn hp (thn (T.done X rfl rfl rfl hc i pins s3 σ3 H3 X.xe I3 (stat fr3) st3 stop) fun r s4 ⟨hr, I4⟩ => ?_)
    subst hr
    exact wpAny_execs_nil ⟨σ3, H3, I4, qn⟩
  · refine wpAny_passesOwn hp (thn (T.item X rfl rfl rfl hc i pins s3 σ3 H3 X.xe I3 (stat fr3) st3 go) fun r s4 ⟨u, hr, h4⟩ => ?_)
    subst hr
    refine wpAny_passesOwn hp (thn h4 fun _ s5 ⟨x, H5, I5, r5, y5, st5, fr5⟩ => ?_)
    have I5' := I5.pinned (stat fr5) (T.obj _ _ st5)
    refine wpAny_passesOwn hp (thn (hg _ s5 σ3 H5 x u _ I5' r5 (step x H5 y5)) fun _ s6 ⟨σ6, H6, I6, q6⟩ => ?_)
    refine wpAny_passesOwn hp (thn (hb _ s6 σ6 H6 _ I6 q6) fun f s7 q7 => ?_)
    have again : ∀ {σ7 : St} {H7 : Hp}, Inv X (pins ++ pinsAt fp s5.heap) σ7 H7 s7 → N σ7 H7 → ∃ m, m < n ∧ ∃ i σ' H', Inv X pins σ' H' s7 ∧ tn i s7.heap ∧ (∀ b ∈ fp, H' b = none) ∧ W i m σ' H' := fun {σ7 H7} I7 n7 => by
      obtain ⟨m', hm, w7⟩ := hN σ7 H7 n7
      refine ⟨m', hm, i + 1, σ7, H7, I7.unpinned, T.keep _ _ _ st5 fun b hb o e => (I7.pin (b, o) (List.mem_append_right _ (List.mem_append_right _ (mem_pinsAt hb e)))).1, fun b hb => ?_, w7⟩
      obtain ⟨o, e, d⟩ := T.obj _ _ st5 b hb
      exact (I7.pin (b, o) (List.mem_append_right _ (List.mem_append_right _ (mem_pinsAt hb e)))).2.1
    cases f with
    | next => obtain ⟨σ7, H7, I7, n7⟩ := q7; exact again I7 n7
    | cont => obtain ⟨σ7, H7, I7, n7⟩ := q7; exact again I7 n7
    | brk => obtain ⟨σ7, H7, I7, q7⟩ := q7; exact ⟨σ7, H7, I7.unpinned, q7⟩
    | ret v => obtain ⟨x7, σ7, H7, I7, r7, q7⟩ := q7; exact ⟨x7, σ7, H7, I7.unpinned, r7, q7⟩
end
end L2
namespace L2
open PySem PySem.Spec PyProof.Rows
abbrev R2 := V → V → Hp → VK → Prop
def OpR (X : Cx) (f : Value → Value → Sem Value) (r : R2) : Prop :=
  ∀ (pins : List (Addr × Obj)) (s : Shared) (σ : St) (H : Hp) (x y : V) (v u : Value) (Q : VK), Inv X pins σ H s → RelV x v → RelV y u → r x y H Q →
    wpAny (model X.prog X.w) X.A (f v u) (EP X pins σ Q) X.xe s
def UnR (X : Cx) (f : Value → Sem Value) (r : V → Hp → VK → Prop) : Prop :=
  ∀ (pins : List (Addr × Obj)) (s : Shared) (σ : St) (H : Hp) (x : V) (v : Value) (Q : VK), Inv X pins σ H s → RelV x v → r x H Q →
    wpAny (model X.prog X.w) X.A (f v) (EP X pins σ Q) X.xe s
def CallR (X : Cx) (f : Value) (r : List V → Hp → VK → Prop) : Prop :=
  ∀ (pins : List (Addr × Obj)) (s : Shared) (σ : St) (H : Hp) (xs : List V) (us : List Value) (Q : VK), Inv X pins σ H s → Vals xs us → r xs H Q →
    wpAny (model X.prog X.w) X.A (call f us) (EP X pins σ Q) X.xe s
def tOp (r : R2) (ta tb : TE) : TE := fun σ H Q => ta σ H fun x H1 => tb σ H1 fun y H2 => r x y H2 Q
def tUn (r : V → Hp → VK → Prop) (ta : TE) : TE := fun σ H Q => ta σ H fun x H1 => r x H1 Q
def rI (C : Int → Int → Prop) (g : Int → Int → V) : R2 := fun x y H Q => ∃ i j, x = .int i ∧ y = .int j ∧ C i j ∧ Q (g i j) H
def rI0 (g : Int → Int → V) : R2 := fun x y H Q => ∃ i j, x = .int i ∧ y = .int j ∧ Q (g i j) H
def rU (g : Int → V) : V → Hp → VK → Prop := fun x H Q => ∃ i, x = .int i ∧ Q (g i) H
section
variable {X : Cx} {a b c : Expr} {ta tb tc : TE} {pos : Pos}
theorem binT (ha : PE X a ta) (hb : PE X b tb) {pins : List (Addr × Obj)} {s : Shared} {σ : St} {H : Hp} {R : V → V → Hp → Prop} (I : Inv X pins σ H s)
    (h : ta σ H fun x H1 => tb σ H1 fun y H2 => R x y H2) {Q : Value → Shared → Prop} {f : Value → Value → Sem Value}
    (hf : ∀ v u s2 x y H2, Inv X pins σ H2 s2 → RelV x v → RelV y u → R x y H2 → wpAny (model X.prog X.w) X.A (f v u) Q X.xe s2) :
    wpAny (model X.prog X.w) X.A (eval a X.env) (fun v s₁ => wpAny (model X.prog X.w) X.A (eval b X.env) (fun u s₂ => wpAny (model X.prog X.w) X.A (f v u) Q X.xe s₂) X.xe s₁) X.xe s := by
  refine thn (ha pins s σ H _ I h) fun v s1 ⟨x, H1, I1, r1, q1⟩ => ?_
  refine thn (hb pins s1 σ H1 _ I1 q1) fun u s2 ⟨y, H2, I2, r2, q2⟩ => ?_
  exact hf v u s2 x y H2 I2 r1 r2 q2
theorem pe_op {op : Operator} {r : R2} (ho : OpR X (binaryOp op) r) (ha : PE X a ta) (hb : PE X b tb) : PE X (.BinOp a op b pos) (tOp r ta tb) := by
  intro pins s σ H Q I h
  exact wpAny_BinOp (binT ha hb I h fun v u s2 x y H2 I2 rx ry q => ho pins s2 σ H2 x y v u Q I2 rx ry q)
theorem pe_un {op : UnaryOp} {r : V → Hp → VK → Prop} (ho : UnR X (unaryOp op) r) (ha : PE X a ta) : PE X (.UnaryOp op a pos) (tUn r ta) := by
  intro pins s σ H Q I h
  exact UnaryOp_ (thn (ha pins s σ H _ I h) fun v s1 ⟨x, H1, I1, r1, q1⟩ => ho pins s1 σ H1 x v Q I1 r1 q1)
theorem opI {f : Value → Value → Sem Value} {C : Int → Int → Prop} {g : Int → Int → Int}
    (rule : ∀ (i j : Int) (t u : Tok) (s : Shared) (Q : Value → Shared → Prop) (E : Value → Shared → Prop), C i j → Q (.int (g i j) s.toks) { s with toks := s.toks + 1 } → wpAny (model X.prog X.w) X.A (f (.int i t) (.int j u)) Q E s) :
    OpR X f (rI C fun i j => .int (g i j)) := by
  intro pins s σ H x y v u Q I rx ry h
  obtain ⟨i, j, rfl, rfl, hc, q⟩ := h
  obtain ⟨t, rfl⟩ := rx
  obtain ⟨t', rfl⟩ := ry
  exact rule i j t t' s _ _ hc ⟨.int (g i j), H, I.tok _, ⟨_, rfl⟩, q⟩
theorem opI0 {f : Value → Value → Sem Value} {g : Int → Int → Int}
    (rule : ∀ (i j : Int) (t u : Tok) (s : Shared) (Q : Value → Shared → Prop) (E : Value → Shared → Prop), Q (.int (g i j) s.toks) { s with toks := s.toks + 1 } → wpAny (model X.prog X.w) X.A (f (.int i t) (.int j u)) Q E s) :
    OpR X f (rI0 fun i j => .int (g i j)) := by
  intro pins s σ H x y v u Q I rx ry h
  obtain ⟨i, j, rfl, rfl, q⟩ := h
  obtain ⟨t, rfl⟩ := rx
  obtain ⟨t', rfl⟩ := ry
  exact rule i j t t' s _ _ ⟨.int (g i j), H, I.tok _, ⟨_, rfl⟩, q⟩
theorem opB0 {f : Value → Value → Sem Value} {g : Int → Int → Bool}
    (rule : ∀ (i j : Int) (t u : Tok) (s : Shared) (Q : Value → Shared → Prop) (E : Value → Shared → Prop), Q (.bool (g i j)) s → wpAny (model X.prog X.w) X.A (f (.int i t) (.int j u)) Q E s) :
    OpR X f (rI0 fun i j => .bl (g i j)) := by
  intro pins s σ H x y v u Q I rx ry h
  obtain ⟨i, j, rfl, rfl, q⟩ := h
  obtain ⟨t, rfl⟩ := rx
  obtain ⟨t', rfl⟩ := ry
  exact rule i j t t' s _ _ ⟨.bl (g i j), H, I, rfl, q⟩
def CPow (i j : Int) : Prop := 0 ≤ j ∧ j ≤ 1000000 ∧ i.natAbs < 2 ^ 64
theorem op_add : OpR X (binaryOp .Add) (rI0 fun i j => .int (i + j)) := opI0 fun _ _ _ _ _ _ _ q => add_int q
theorem op_sub : OpR X (binaryOp .Sub) (rI0 fun i j => .int (i - j)) := opI0 fun _ _ _ _ _ _ _ q => sub_int q
theorem op_mod : OpR X (binaryOp .Mod) (rI (fun _ j => 0 < j) fun i j => .int (i % j)) := opI fun i j _ _ _ _ _ hc q => by
  have h1 : (0 : Int) < j := hc
  exact mod_int' (by omega) (by rw [Int.fmod_eq_emod_of_nonneg i (by omega)]; exact q)
theorem op_pow : OpR X (binaryOp .Pow) (rI CPow fun i j => .int (i ^ j.toNat)) := opI fun _ _ _ _ _ _ _ hc q => pow_int_small hc.1 hc.2.1 hc.2.2 q
theorem unI {f : Value → Sem Value} {g : Int → Int}
    (rule : ∀ (i : Int) (t : Tok) (s : Shared) (Q : Value → Shared → Prop) (E : Value → Shared → Prop), Q (.int (g i) s.toks) { s with toks := s.toks + 1 } → wpAny (model X.prog X.w) X.A (f (.int i t)) Q E s) :
    UnR X f (rU fun i => .int (g i)) := by
  intro pins s σ H x v Q I rx h
  obtain ⟨i, rfl, q⟩ := h
  obtain ⟨t, rfl⟩ := rx
  exact rule i t s _ _ ⟨.int (g i), H, I.tok _, ⟨_, rfl⟩, q⟩
theorem un_neg : UnR X (unaryOp .USub) (rU fun i => .int (-i)) := unI fun _ _ _ _ _ q => neg_int q
end
def scal : V → V → Bool
  | .non, .non => true | .non, .int _ => true | .int _, .non => true | .non, .bl _ => true | .bl _, .non => true | .non, .str _ => true | .str _, .non => true
  | .int _, .int _ => true | .bl _, .bl _ => true | .str _, .str _ => true | .byt _, .byt _ => true
  | .int _, .str _ => true | .str _, .int _ => true | .bl _, .str _ => true | .str _, .bl _ => true
  | _, _ => false
def rEq : R2 := fun x y H Q => scal x y = true ∧ Q (.bl (decide (x = y))) H
def rNe : R2 := fun x y H Q => scal x y = true ∧ Q (.bl (!decide (x = y))) H
theorem dec_int {i j : Int} : decide (V.int i = V.int j) = (i == j) := by
  rw [Bool.eq_iff_iff]
  simp
theorem dec_bl {i j : Bool} : decide (V.bl i = V.bl j) = (i == j) := by
  rw [Bool.eq_iff_iff]
  simp
theorem dec_str {i j : Str} : decide (V.str i = V.str j) = (i == j) := by
  rw [Bool.eq_iff_iff]
  simp
theorem dec_byt {i j : Array UInt8} : decide (V.byt i = V.byt j) = (i.toList == j.toList) := by
  rw [Bool.eq_iff_iff]
  cases i
  cases j
  simp
section
variable {X : Cx} {a b c : Expr} {ta tb tc : TE} {pos : Pos}
theorem fin_bl {pins : List (Addr × Obj)} {σ : St} {H : Hp} {s : Shared} {Q : VK} {k k' : Bool} (I : Inv X pins σ H s) (q : Q (.bl k) H) (e : k = k') : EP X pins σ Q (.bool k') s := by
  subst e
  exact ⟨.bl k, H, I, rfl, q⟩
theorem op_eq : OpR X (compareOp .Eq) rEq := by
  intro pins s σ H x y v u Q I rx ry h
  obtain ⟨hs, q⟩ := h
  cases x with
  | non =>
    cases rx
    cases y with
    | non => cases ry; exact PySem.EqNone.eq_none_none (fin_bl I q (by simp))
    | bl j => cases ry; exact PySem.EqNone.eq_none_bool (fin_bl I q (by simp))
    | int j => obtain ⟨t', rfl⟩ := ry; exact PySem.EqNone.eq_none_int (fin_bl I q (by simp))
    | str j => obtain ⟨t', rfl⟩ := ry; exact PySem.EqNone.eq_none_str (fin_bl I q (by simp))
    | _ => exact absurd (show false = true from hs) Bool.false_ne_true
  | bl i =>
    cases rx
    cases y with
    | non => cases ry; exact PySem.EqNone.eq_bool_none (fin_bl I q (by simp))
    | bl j => cases ry; exact eq_bool (fin_bl I q dec_bl)
    | str j => obtain ⟨t', rfl⟩ := ry; exact PySem.EqMixed.eq_bool_str (fin_bl I q (by simp))
    | _ => exact absurd (show false = true from hs) Bool.false_ne_true
  | int i =>
    obtain ⟨t, rfl⟩ := rx
    cases y with
    | non => cases ry; exact PySem.EqNone.eq_int_none (fin_bl I q (by simp))
    | int j => obtain ⟨t', rfl⟩ := ry; exact eq_int (fin_bl I q dec_int)
    | str j => obtain ⟨t', rfl⟩ := ry; exact PySem.EqMixed.eq_int_str (fin_bl I q (by simp))
    | _ => exact absurd (show false = true from hs) Bool.false_ne_true
  | str i =>
    obtain ⟨t, rfl⟩ := rx
    cases y with
    | non => cases ry; exact PySem.EqNone.eq_str_none (fin_bl I q (by simp))
    | bl j => cases ry; exact PySem.EqMixed.eq_str_bool (fin_bl I q (by simp))
    | int j => obtain ⟨t', rfl⟩ := ry; exact PySem.EqMixed.eq_str_int (fin_bl I q (by simp))
    | str j => obtain ⟨t', rfl⟩ := ry; exact eq_str (fin_bl I q dec_str)
    | _ => exact absurd (show false = true from hs) Bool.false_ne_true
  | byt i =>
    obtain ⟨t, rfl⟩ := rx
    cases y with
    | byt j => obtain ⟨t', rfl⟩ := ry; exact PySem.W.eq_bytes (fin_bl I q dec_byt)
    | _ => exact absurd (show false = true from hs) Bool.false_ne_true
  | _ => cases y <;> exact absurd (show false = true from hs) Bool.false_ne_true
theorem op_ne : OpR X (compareOp .NotEq) rNe := by
  intro pins s σ H x y v u Q I rx ry h
  obtain ⟨hs, q⟩ := h
  cases x with
  | non =>
    cases rx
    cases y with
    | non => cases ry; exact PySem.EqNone.ne_none_none (fin_bl I q (by simp))
    | bl j => cases ry; exact PySem.EqNone.ne_none_bool (fin_bl I q (by simp))
    | int j => obtain ⟨t', rfl⟩ := ry; exact PySem.EqNone.ne_none_int (fin_bl I q (by simp))
    | str j => obtain ⟨t', rfl⟩ := ry; exact PySem.EqNone.ne_none_str (fin_bl I q (by simp))
    | _ => exact absurd (show false = true from hs) Bool.false_ne_true
  | bl i =>
    cases rx
    cases y with
    | non => cases ry; exact PySem.EqNone.ne_bool_none (fin_bl I q (by simp))
    | bl j => cases ry; exact ne_bool (fin_bl I q (congrArg not dec_bl))
    | str j => obtain ⟨t', rfl⟩ := ry; exact PySem.EqMixed.ne_bool_str (fin_bl I q (by simp))
    | _ => exact absurd (show false = true from hs) Bool.false_ne_true
  | int i =>
    obtain ⟨t, rfl⟩ := rx
    cases y with
    | non => cases ry; exact PySem.EqNone.ne_int_none (fin_bl I q (by simp))
    | int j => obtain ⟨t', rfl⟩ := ry; exact ne_int (fin_bl I q (congrArg not dec_int))
    | str j => obtain ⟨t', rfl⟩ := ry; exact PySem.EqMixed.ne_int_str (fin_bl I q (by simp))
    | _ => exact absurd (show false = true from hs) Bool.false_ne_true
  | str i =>
    obtain ⟨t, rfl⟩ := rx
    cases y with
    | non => cases ry; exact PySem.EqNone.ne_str_none (fin_bl I q (by simp))
    | bl j => cases ry; exact PySem.EqMixed.ne_str_bool (fin_bl I q (by simp))
    | int j => obtain ⟨t', rfl⟩ := ry; exact PySem.EqMixed.ne_str_int (fin_bl I q (by simp))
    | str j => obtain ⟨t', rfl⟩ := ry; exact ne_str (fin_bl I q (congrArg not dec_str))
    | _ => exact absurd (show false = true from hs) Bool.false_ne_true
  | byt i =>
    obtain ⟨t, rfl⟩ := rx
    cases y with
    | byt j => obtain ⟨t', rfl⟩ := ry; exact PySem.W.ne_bytes (fin_bl I q (congrArg not dec_byt))
    | _ => exact absurd (show false = true from hs) Bool.false_ne_true
  | _ => cases y <;> exact absurd (show false = true from hs) Bool.false_ne_true
theorem op_lt : OpR X (compareOp .Lt) (rI0 fun i j => .bl (decide (i < j))) := opB0 fun _ _ _ _ _ _ _ q => lt_int q
theorem op_le : OpR X (compareOp .LtE) (rI0 fun i j => .bl (decide (i ≤ j))) := opB0 fun _ _ _ _ _ _ _ q => le_int q
theorem op_gt : OpR X (compareOp .Gt) (rI0 fun i j => .bl (decide (j < i))) := opB0 fun _ _ _ _ _ _ _ q => gt_int q
theorem op_ge : OpR X (compareOp .GtE) (rI0 fun i j => .bl (decide (j ≤ i))) := opB0 fun _ _ _ _ _ _ _ q => ge_int q
theorem op_notN : OpR X (compareOp .IsNot) (fun x y H Q => y = .non ∧ Q (.bl (!decide (x = .non))) H) := by
  intro pins s σ H x y v u Q I rx ry h
  obtain ⟨rfl, q⟩ := h
  cases ry
  refine isnot_none_gen (fin_bl I q ?_)
  cases x <;> first
    | (cases rx; rfl)
    | (obtain ⟨t, rfl⟩ := rx; rfl)
theorem nomark (b : Expr) {op : CmpOp} (h : op ≠ .In := by decide) (h2 : op ≠ .NotIn := by decide) : behindInMarks op b = false := by
  have e1 : (op == CmpOp.In) = false := by cases op <;> first | rfl | exact absurd rfl h
  have e2 : (op == CmpOp.NotIn) = false := by cases op <;> first | rfl | exact absurd rfl h2
  cases b <;> simp [behindInMarks, e1, e2]
theorem pe_cmpR {op : CmpOp} {r : R2} (ho : OpR X (compareOp op) r) (ha : PE X a ta) (hb : PE X b tb) (hm : behindInMarks op b = false) : PE X (.Compare a [op] [b] pos) (tOp r ta tb) := by
  intro pins s σ H Q I h
  exact wpAny_Compare1 (binT ha hb I h fun v u s2 x y H2 I2 rx ry q => ho pins s2 σ H2 x y v u Q I2 rx ry q) hm
def tTest (t : TE) : TT := fun σ H Q => t σ H fun x H' => ∃ k, x = .bl k ∧ Q k H'
theorem pt_cmpR {op : CmpOp} {r : R2} (ho : OpR X (compareOp op) r) (ha : PE X a ta) (hb : PE X b tb) (hm : behindInMarks op b = false) : PT X (.Compare a [op] [b] pos) (tTest (tOp r ta tb)) := by
  intro pins s σ H Q I h
  refine wpAny_isTrue_Compare1 (thn (ha pins s σ H _ I h) fun v s1 ⟨x, H1, I1, r1, q1⟩ => thn (hb pins s1 σ H1 _ I1 q1) fun u s2 ⟨y, H2, I2, r2, q2⟩ =>
    thn (ho pins s2 σ H2 x y v u _ I2 r1 r2 q2) fun c s3 ⟨z, H3, I3, r3, k, e, q3⟩ => ?_) hm
  subst e
  cases r3
  exact wpAny_truthy_bool ⟨H3, I3, q3⟩
def tChain (r r' : R2) (ta tb tc : TE) : TE := fun σ H Q => ta σ H fun x H1 => tb σ H1 fun y H2 => r x y H2 fun z H3 => ∃ k, z = .bl k ∧
  (if k = true then tc σ H3 fun w' H4 => r' y w' H4 Q else Q (.bl false) H3)
theorem pe_chain {op op' : CmpOp} {r r' : R2} (ho : OpR X (compareOp op) r) (ho' : OpR X (compareOp op') r') (ha : PE X a ta) (hb : PE X b tb) (hc : PE X c tc)
    (hm : lastMarks [op, op'] [b, c] = false := by with_unfolding_all rfl) : PE X (.Compare a [op, op'] [b, c] pos) (tChain r r' ta tb tc) := by
  intro pins s σ H Q I h
  refine Compare_chain (thn (ha pins s σ H _ I h) fun v s1 ⟨x, H1, I1, r1, q1⟩ => chain_link (thn (hb pins s1 σ H1 _ I1 q1) fun u s2 ⟨y, H2, I2, r2, q2⟩ =>
    thn (ho pins s2 σ H2 x y v u _ I2 r1 r2 q2) fun d s3 ⟨z, H3, I3, r3, k, e, q3⟩ => ?_)) hm
  subst e
  cases r3
  refine wpAny_truthy_bool ?_
  cases k with
  | false => exact ite_ff ⟨.bl false, H3, I3, rfl, q3⟩
  | true => exact ite_tt (chain_last (thn (hc pins s3 σ H3 _ I3 q3) fun w' s4 ⟨z', H4, I4, r4, q4⟩ => ho' pins s4 σ H4 y z' u w' Q I4 r2 r4 q4))
theorem line63 : (sizeLine : Nat) < 2 ^ 63 := by rw [sizeLine_eq]; decide
theorem vals1 {x : V} {us : List Value} (r : Vals [x] us) : ∃ u, us = [u] ∧ RelV x u := by
  cases r with
  | cons r1 r2 => cases r2; exact ⟨_, rfl, r1⟩
theorem vals2 {x y : V} {us : List Value} (r : Vals [x, y] us) : ∃ u w', us = [u, w'] ∧ RelV x u ∧ RelV y w' := by
  cases r with
  | cons r1 r2 =>
    cases r2 with
    | cons r3 r4 => cases r4; exact ⟨_, _, rfl, r1, r3⟩
theorem call_int1 : CallR X (.type "int") (fun xs H Q => (∃ i, xs = [.int i] ∧ Q (.int i) H) ∨ ∃ k, xs = [.bl k] ∧ Q (.int (if k then 1 else 0)) H) := by
  intro pins s σ H xs us Q I r h
  rcases h with ⟨i, rfl, q⟩ | ⟨k, rfl, q⟩
  · obtain ⟨u, rfl, t, rfl⟩ := vals1 r
    exact call_int_int ⟨.int i, H, I, ⟨_, rfl⟩, q⟩
  · obtain ⟨u, rfl, r1⟩ := vals1 r
    cases r1
    exact call_int_bool ⟨.int (if k then 1 else 0), H, I.tok _, ⟨_, rfl⟩, q⟩
end
end L2
namespace L2
open PySem PySem.Spec PyProof.Rows
section
variable {prog : Program} {w : World} {A : Around} {E : Value → Shared → Prop} {s : Shared} {K : PySem.W.Frag} {x dx C f : Addr} {mA : Str → Option Value} {name : Str} {v : Value}
end
theorem RelO.some_of {v : V} {o : Option Value} (r : RelO (some v) o) : ∃ u, o = some u ∧ RelV v u := by
  cases o with
  | none => exact (show False from r).elim
  | some u => exact ⟨u, rfl, r⟩
section
variable {P : Program} {w : World} {H H' : Hp} {h h' : Heap} {a C dx : Addr} {fs fs' : List (Str × V)}
end
section
variable {X : Cx} {pins : List (Addr × Obj)} {σ : St} {H : Hp} {s : Shared} {a C dx : Addr} {fs : List (Str × V)} {f : Str} {v : V} {A : Around} {E : Value → Shared → Prop}
end
section
variable {X : Cx} {o e value : Expr} {f : Str} {pos pos' tpos : Pos} {ta tv : TE}
end
section
variable {X : Cx} {pins : List (Addr × Obj)} {σ : St} {H : Hp} {s : Shared} {A : Around} {E : Value → Shared → Prop} {Q : Value → Shared → Prop} {c : Value} {b : Bool}
end
end L2
namespace L2
open PySem PySem.Spec PyProof.Rows
structure Room (k : Nat) (A : Around) : Prop where
  hd : A.handled = none
  dp : A.depth + 3 * k + 5 < recursionLimit
  un : A.units + 16 * k + 200 < cLine
theorem Room.mono {j k : Nat} {A : Around} (r : Room k A) (h : j ≤ k) : Room j A := ⟨r.hd, by have := r.dp; omega, by have := r.un; omega⟩
theorem Room.deeper {k : Nat} {A : Around} (r : Room (k + 1) A) (env : Env) : Room k (A.deeper env) :=
  ⟨r.hd, by have := r.dp; show A.depth + 1 + 3 * k + 5 < _; omega, by have := r.un; show A.units + 3 + 16 * k + 200 < _; omega⟩
theorem Room.depth {k : Nat} {A : Around} (r : Room k A) : A.depth < recursionLimit := by have := r.dp; omega
theorem Room.units {k : Nat} {A : Around} (r : Room k A) : A.units + 64 < cLine := by have := r.un; omega
def tNil : TA := fun _ H Q => Q [] H
def tCons (ta : TE) (tr : TA) : TA := fun σ H Q => ta σ H fun x H1 => tr σ H1 fun xs H2 => Q (x :: xs) H2
section
variable {X : Cx} {e : Expr} {es : List Expr} {te : TE} {t : TA} {pos : Pos}
theorem pa_nil : PA X [] tNil := fun _ _ _ _ H Q I h => Calls.spliced_nil ⟨[], H, I, .nil, h⟩
theorem pa_cons (ha : PE X e te) (hr : PA X es t) (hs : starEach (e :: es) X.env = (false, eval e X.env) :: starEach es X.env := by rfl) : PA X (e :: es) (tCons te t) := by
  intro pos pins s σ H Q I h
  rw [hs]
  show wpAny _ _ (spliced ((false, eval e X.env) :: backTo pos (starEach es X.env))) _ _ s
  refine Calls.spliced_cons (thn (ha pins s σ H _ I h) fun u s1 ⟨x, H1, I1, r1, q1⟩ => ?_)
  exact thn (hr pos pins s1 σ H1 _ I1 q1) fun us s2 ⟨xs, H2, I2, r2, q2⟩ => ⟨x :: xs, H2, I2, .cons r1 r2, q2⟩
def tTup (t : TA) : TE := fun σ H Q => t σ H fun xs H1 => xs.length ≤ sizeLine ∧ ∀ p, H1 p = none → Q (.ref p) (upd H1 p (.tup xs))
def tLst (t : TA) : TE := fun σ H Q => t σ H fun xs H1 => xs.length ≤ sizeLine ∧ ∀ p, H1 p = none → Q (.ref p) (upd H1 p (.lst xs))
theorem pe_tup {x1} (h : PA X es t) : PE X (.Tuple es x1 pos) (tTup t) := by
  intro pins s σ H Q I hq
  refine wpAny_Tuple_spliced (thn (h pos pins s σ H _ I hq) fun us s1 ⟨xs, H1, I1, r, z, q⟩ => ⟨by rw [← r.length]; exact z, ?_⟩)
  have hf : H1 s1.heap.objs.size = none := I1.hok.fresh (Nat.le_refl _)
  refine ⟨.ref s1.heap.objs.size, upd H1 s1.heap.objs.size (.tup xs), I1.laid (t' := s1.toks) (fun b u e => Heap.get?_push_of_some _ e) (Nat.le_refl _) ?_, rfl, q _ hf⟩
  exact ⟨z, us, r, ⟨_, Heap.get?_push_size _ rfl, rfl, _, rfl⟩⟩
theorem pe_lst (h : PA X es t) : PE X (.List es pos) (tLst t) := by
  intro pins s σ H Q I hq
  refine wpAny_List_spliced (thn (h pos pins s σ H _ I hq) fun us s1 ⟨xs, H1, I1, r, z, q⟩ => ⟨by rw [← r.length]; exact z, ?_⟩)
  have hf : H1 s1.heap.objs.size = none := I1.hok.fresh (Nat.le_refl _)
  refine ⟨.ref s1.heap.objs.size, upd H1 s1.heap.objs.size (.lst xs), I1.laid (t' := s1.toks) (fun b u e => Heap.get?_push_of_some _ e) (Nat.le_refl _) ?_, rfl, q _ hf⟩
  exact ⟨z, us, 0, r, Heap.get?_push_size _ rfl⟩
end
abbrev Sp := List V → Hp → VK → XK → Prop
abbrev CXT := List Env → Hp → Shared → XK → Value → Shared → Prop
structure Env0 (P : Program) (w : World) (K : PySem.W.Frag) (mg : Str → Option Value) (base : Heap) (A : Around) (outer : List Env) (s : Shared) (H : Hp) : Prop where
  frames : A.frames = some outer
  mod : Mod K mg base
  bs : ∀ b o, base.get? b = some o → s.heap.get? b = some o ∧ H b = none
  bsz : base.objs.size ≤ s.heap.objs.size
  funs : s.heap.FunFrames base outer
  frf : ∀ b ∈ frs outer, H b = none
  hok : HOk P w H s.heap
  bare : AllBare s.gens
def CE (outer : List Env) (P : Program) (w : World) (H : Hp) (s : Shared) (Q : VK) (u : Value) (s' : Shared) : Prop :=
  ∃ v H', s'.os = s.os ∧ AllBare s'.gens ∧ Un (frs outer) [] H H' s.heap s'.heap ∧ HOk P w H' s'.heap ∧ RelV v u ∧ Q v H'
def CR (CX : CXT) (outer : List Env) (P : Program) (w : World) (H : Hp) (s : Shared) (Q : VK) (E : XK) (r : Result) (s' : Shared) : Prop :=
  match r with
  | .ok (.ret u) => CE outer P w H s Q u s'
  | .ok _ => False
  | .error e => CX outer H s E e s'
structure FnOk (P : Program) (w : World) (K : PySem.W.Frag) (mg : Str → Option Value) (base : Heap) (CX : CXT) (k : Nat) (f : Addr) (fd : FuncData) (ps : List Str) (sp : Sp) : Prop where
  len : ∀ vs H Q E, sp vs H Q E → vs.length = ps.length
  run : ∀ (A : Around) (outer : List Env) (s : Shared) (H : Hp) (args : Args) (us : List Value) (vs : List V) (Q : VK) (E : XK), Room k A → Env0 P w K mg base A outer s H → BindsTo s fd args (ps.zip us) → Vals vs us → sp vs H Q E →
    codeAny (model P w) A (.call (.ref f) args) (CR CX outer P w H s Q E) s
theorem FnOk.mono {P : Program} {w : World} {K : PySem.W.Frag} {mg : Str → Option Value} {base : Heap} {CX : CXT} {j k : Nat} {f : Addr} {fd : FuncData} {ps : List Str} {sp : Sp} (F : FnOk P w K mg base CX j f fd ps sp) (h : j ≤ k) :
    FnOk P w K mg base CX k f fd ps sp := ⟨F.len, fun A outer s H args us vs Q E hr => F.run A outer s H args us vs Q E (hr.mono h)⟩
theorem FnOk.imp {P : Program} {w : World} {K : PySem.W.Frag} {mg : Str → Option Value} {base : Heap} {CX : CXT} {k : Nat} {f : Addr} {fd : FuncData} {ps : List Str} {sp sp' : Sp} (F : FnOk P w K mg base CX k f fd ps sp)
    (h : ∀ vs H Q E, sp' vs H Q E → sp vs H Q E) : FnOk P w K mg base CX k f fd ps sp' :=
  ⟨fun vs H Q E q => F.len vs H Q E (h _ _ _ _ q), fun A outer s H args us vs Q E hr he hb hv hs => F.run A outer s H args us vs Q E hr he hb hv (h _ _ _ _ hs)⟩
section
variable {X : Cx} {pins : List (Addr × Obj)} {σ : St} {H : Hp} {s s' : Shared}
theorem Inv.env0 (I : Inv X pins σ H s) : Env0 X.prog X.w X.K X.mg X.base X.A X.stack s H :=
  ⟨I.ok.frames, I.ok.mod, I.bs, Nat.le_trans I.ok.bsz I.sz, I.stack, I.stkFree, I.hok, I.bare⟩
theorem Inv.after {Q : VK} {u : Value} (I : Inv X pins σ H s) (h : CE X.stack X.prog X.w H s Q u s') : EP X pins σ Q u s' := by
  obtain ⟨v, H', os, bare, un, hok, r, q⟩ := h
  obtain ⟨hh, g, d, t, os'⟩ := s'
  obtain rfl : os' = s.os := os
  exact ⟨v, H', I.call (h' := hh) (g' := g) (d' := d) (t' := t) (ch := []) un hok bare (fun b z => absurd z (by simp)), r, q⟩
end
def tCall (sp : Sp) (dvs : List V) (E : XK) (t : TA) : TE := fun σ H Q => t σ H fun vs H1 => sp (vs ++ dvs) H1 Q E
def Binds (K : PySem.W.Frag) (fd : FuncData) (ps : List Str) (ds : List Value) : Prop :=
  ∀ (s : Shared) (us : List Value), K.In s.heap → (us ++ ds).length = ps.length → BindsTo s fd ⟨us, []⟩ (ps.zip (us ++ ds))
theorem Binds.all {K : PySem.W.Frag} {fd : FuncData} {ps : List Str} (h : ∀ us : List Value, us.length = ps.length → bindArgs fd ⟨us, []⟩ = pure (ps.zip us)) : Binds K fd ps [] := fun s us _ hl => by
  rw [List.append_nil] at hl ⊢
  exact .of_eq (h us hl)
def Passes (CX : CXT) (X : Cx) (E : XK) : Prop := ∀ (pins : List (Addr × Obj)) (σ : St) (H : Hp) (s : Shared) (e : Value) (s' : Shared), Inv X pins σ H s → CX X.stack H s E e s' → X.xe e s'
section
variable {X : Cx} {CX : CXT} {k : Nat} {f C : Addr} {fd : FuncData} {ps : List Str} {sp : Sp} {dvs : List V} {ds : List Value} {E : XK} {x m : Str} {p pos apos : Pos} {e o : Expr} {es : List Expr} {ta : TE} {t : TA}
theorem run_fn {pins : List (Addr × Obj)} {σ : St} {H : Hp} {s : Shared} {Q : VK} {us : List Value} {vs : List V} (F : FnOk X.prog X.w X.K X.mg X.base CX k f fd ps sp) (hr : Room k X.A) (hb : Binds X.K fd ps ds) (hd : Vals dvs ds) (hx : Passes CX X E)
    (I : Inv X pins σ H s) (r : Vals vs us) (h : sp (vs ++ dvs) H Q E) : wpAny (model X.prog X.w) X.A (call (.ref f) us) (EP X pins σ Q) X.xe s := by
  have r2 : Vals (vs ++ dvs) (us ++ ds) := r.append hd
  have hl : (us ++ ds).length = ps.length := by rw [← r2.length]; exact F.len _ _ _ _ h
  refine wpAny_call (codeAny_mono (F.run X.A X.stack s H ⟨us, []⟩ (us ++ ds) (vs ++ dvs) Q E hr I.env0 (hb s us I.kIn hl) r2 h) fun r s' hq => ?_)
  cases r with
  | error e => exact hx pins σ H s e s' I hq
  | ok fl =>
    cases fl with
    | ret u => exact I.after hq
    | next => exact False.elim hq
    | brk => exact False.elim hq
    | cont => exact False.elim hq
theorem pe_call (F : FnOk X.prog X.w X.K X.mg X.base CX k f fd ps sp) (hr : Room k X.A) (hg : Gl X x) (hm : X.mg x = some (.ref f)) (hk : PySem.W.keepIn X.K (.ref f) = true) (hb : Binds X.K fd ps ds) (hd : Vals dvs ds) (hx : Passes CX X E)
    (ha : PA X (e :: es) t) (hdb : (x == ("__debug__" : Str)) = false := by decide) (he : starEach (e :: es) X.env = (false, eval e X.env) :: starEach es X.env := by rfl) (hpl : (backTo pos (starEach es X.env)).any (·.1) = false := by rfl) :
    PE X (.Call (.Name x p) (e :: es) [] pos) (tCall sp dvs E t) := by
  intro pins s σ H Q I h
  refine wpAny_Call_Name_kw (ld_glob I hg hm ?_ hdb)
  refine PySem.W.callWith_K (h₀ := X.base) I.ok.mod.kin hk (thn (ha pos pins s σ H _ I h) fun us s1 ⟨vs, H1, I1, r, q⟩ => ⟨I1.kIn, ?_⟩) he hpl
  exact run_fn F hr hb hd hx I1 r q
end
section
variable {X : Cx} {CX : CXT} {k : Nat} {f C : Addr} {fd : FuncData} {ps ks : List Str} {sp : Sp} {E : XK} {x m : Str} {p pos apos kpos : Pos} {e o : Expr} {es : List Expr} {kws : List Keyword} {te ta : TE} {t tk : TA} {nm : Option Str}
variable {g : List Value → List Value → List Value} {gV : List V → List V → List V}
end
structure FnScope (N P : List Str) (sc : Scope) : Prop where
  kind : sc.kind = .function
  co : sc.isCoroutine = false
  gen : sc.isGenerator = false
  nd : N.Nodup
  pre : N.take P.length = P
  par : ∀ x ∈ P, sc.names.lookup x = some .local ∨ sc.names.lookup x = some .cell
  nofree : ∀ y ∈ sc.names, y.2 ≠ .free
theorem bindL_out {kindOf : Str → Option NameKind} {x : Str} : ∀ {binds : List (Str × Value)} {m : Str → Option Value}, (∀ v, (x, v) ∉ binds) → bindL kindOf binds m x = m x
  | [], _, _ => rfl
  | (n, v) :: r, m, h => by
    unfold bindL
    rw [bindL_out fun w hw => h w (List.mem_cons_of_mem _ hw)]
    split
    · have : x ≠ n := by rintro rfl; exact h v List.mem_cons_self
      simp [this]
    · rfl
theorem bindC_out {kindOf : Str → Option NameKind} {x : Str} : ∀ {binds : List (Str × Value)} {m : Str → Option Value}, (∀ v, (x, v) ∉ binds) → bindC kindOf binds m x = m x
  | [], _, _ => rfl
  | (n, v) :: r, m, h => by
    unfold bindC
    rw [bindC_out fun w hw => h w (List.mem_cons_of_mem _ hw)]
    split
    · rfl
    · have : x ≠ n := by rintro rfl; exact h v List.mem_cons_self
      simp [this]
theorem bindL_get {kindOf : Str → Option NameKind} {x : Str} {v : Value} : ∀ {P : List Str} {vs : List Value} {i : Nat} {m : Str → Option Value}, P.Nodup → P[i]? = some x → vs[i]? = some v → kindOf x = some .local →
    bindL kindOf (P.zip vs) m x = some v
  | [], _, _, _, _, h, _, _ => by simp at h
  | _ :: _, [], _, _, _, _, h, _ => by simp at h
  | p :: P, w :: vs, 0, m, nd, h1, h2, hk => by
    simp at h1 h2; subst h1; subst h2
    show bindL kindOf ((p, w) :: P.zip vs) m p = _
    unfold bindL
    rw [bindL_out fun v hv => (List.nodup_cons.mp nd).1 (List.of_mem_zip hv).1, if_pos hk]
    simp
  | p :: P, w :: vs, i + 1, m, nd, h1, h2, hk => by
    show bindL kindOf ((p, w) :: P.zip vs) m x = _
    unfold bindL
    exact bindL_get (i := i) (List.nodup_cons.mp nd).2 (by simpa using h1) (by simpa using h2) hk
theorem bindC_get {kindOf : Str → Option NameKind} {x : Str} {v : Value} : ∀ {P : List Str} {vs : List Value} {i : Nat} {m : Str → Option Value}, P.Nodup → P[i]? = some x → vs[i]? = some v → kindOf x ≠ some .local →
    bindC kindOf (P.zip vs) m x = some v
  | [], _, _, _, _, h, _, _ => by simp at h
  | _ :: _, [], _, _, _, _, h, _ => by simp at h
  | p :: P, w :: vs, 0, m, nd, h1, h2, hk => by
    simp at h1 h2; subst h1; subst h2
    show bindC kindOf ((p, w) :: P.zip vs) m p = _
    unfold bindC
    rw [bindC_out fun v hv => (List.nodup_cons.mp nd).1 (List.of_mem_zip hv).1, if_neg hk]
    simp
  | p :: P, w :: vs, i + 1, m, nd, h1, h2, hk => by
    show bindC kindOf ((p, w) :: P.zip vs) m x = _
    unfold bindC
    exact bindC_get (i := i) (List.nodup_cons.mp nd).2 (by simpa using h1) (by simpa using h2) hk
def start (N : List Str) (vs : List V) : St := vs.map some ++ List.replicate (N.length - vs.length) none
def cxOf (CX : CXT) (P : Program) (w : World) (K : PySem.W.Frag) (mg : Str → Option Value) (base : Heap) (N : List Str) (qual : Str) (scope : Scope) (f : Addr) (cd : Value) (A : Around) (outer : List Env) (s : Shared) (H : Hp) (E : XK) : Cx where
  prog := P
  w := w
  K := K
  mg := mg
  base := base
  A := A.deeper (envOfC qual scope s.heap.objs.size f cd)
  N := N
  s₀ := s
  H₀ := H
  env := envOfC qual scope s.heap.objs.size f cd
  outer := outer
  stack := envOfC qual scope s.heap.objs.size f cd :: outer
  ex := []
  calm := true
  fn := fun _ => true
  pn := []
  xe := fun e s' => wpAny (model P w) (A.deeper (envOfC qual scope s.heap.objs.size f cd)) (leaving (envOfC qual scope s.heap.objs.size f cd) e) (fun _ s'' => CX outer H s E e s'') (fun e' s'' => CX outer H s E e' s'') s'
theorem cell_has {sc : Scope} {n : Nat} {x : Str} (h : sc.names.lookup x = some .cell) : ∃ c, (cellsFrom n sc.names []).lookup x = some c := by
  have q := PySem.W.cellsFrom_some sc.names n [] (.inl h)
  exact Option.isSome_iff_exists.mp q
theorem inv_start {CX : CXT} {P : Program} {w : World} {K : PySem.W.Frag} {mg : Str → Option Value} {base : Heap} {N ps : List Str} {qual : Str} {scope : Scope} {f : Addr} {cd : Value} {A : Around} {outer : List Env} {s s1 : Shared} {H : Hp} {E : XK} {us : List Value} {vs : List V}
    (S : FnScope N ps scope) (hd : A.handled = none) (e0 : Env0 P w K mg base A outer s H) (hl : vs.length = ps.length) (r : Vals vs us)
    (x : InCallC s s.heap.objs.size (bindL (envOfC qual scope s.heap.objs.size f cd).kindOf (ps.zip us) fun _ => none) (cellsFrom (s.heap.objs.size + 1) scope.names []) (bindC (envOfC qual scope s.heap.objs.size f cd).kindOf (ps.zip us) fun _ => none) s1) :
    Inv (cxOf CX P w K mg base N qual scope f cd A outer s H E) [] (start N vs) H s1 := by
  have hpl : ps.length ≤ N.length := by have := congrArg List.length S.pre; rw [List.length_take] at this; omega
  obtain ⟨h1, tk, rfl, hk⟩ := x.done
  have noA : ∀ b : Addr, b ∉ (cxOf CX P w K mg base N qual scope f cd A outer s H E).ex := fun b z => absurd (show b ∈ ([] : List Addr) from z) (by simp)
  refine ⟨⟨e0.mod, S.kind, rfl, rfl, Nat.le_refl _, fun y z c h1 h2 => ?_, fun y hy => ?_, fun y c _ h => ?_, fun _ => hd, Around.frames_deeper e0.frames, .inr ⟨rfl, rfl⟩, fun b z => absurd z (noA b), e0.bs, e0.bsz, fun b _ _ => noA b, fun b z => absurd z (noA b), e0.funs, e0.frf⟩,
    rfl, e0.bare, Un.kept hk, ⟨_, x.toInCall.ns, fun i y v h1 h2 h3 => ?_⟩, fun y c h => ⟨_, x.cell y c h⟩, e0.hok.fresh (Nat.le_refl _), fun y c h => ?_, fun p hp => absurd (show p ∈ ([] : List (Addr × Obj)) from hp) (by simp), e0.hok.kept hk, ?_⟩
  · exact name_of_addr x.apart (PySem.mem_of_lookup h1) (PySem.mem_of_lookup h2)
  · have hy : scope.names.lookup y = some .cell ∨ scope.names.lookup y = some .free := hy
    rcases hy with hy | hy
    · exact cell_has hy
    · exact absurd rfl (S.nofree _ (PySem.mem_of_lookup hy))
  · exact Nat.le_of_lt (x.above y c (PySem.mem_of_lookup h))
  · have hi : i < vs.length := by
      unfold start at h2
      by_cases hi : i < vs.length
      · exact hi
      · rw [List.getElem?_append_right (by simpa using hi)] at h2
        rw [List.getElem?_replicate] at h2
        split at h2 <;> cases h2
    have ha : vs[i]? = some v := by
      unfold start at h2
      rw [List.getElem?_append_left (by simpa using hi), List.getElem?_map] at h2
      cases e : vs[i]? with
      | none => rw [e] at h2; cases h2
      | some a => rw [e] at h2; cases h2; rfl
    obtain ⟨u, hu, rv⟩ := r.get ha
    have hp : ps[i]? = some y := by
      rw [← S.pre, List.getElem?_take_of_lt (by omega)]; exact h1
    have ndP : ps.Nodup := by rw [← S.pre]; exact S.nd.sublist (List.take_sublist _ _)
    refine ⟨u, rv, ?_⟩
    rcases S.par y (List.mem_of_getElem? hp) with k | k
    · exact .inl ⟨k, bindL_get ndP hp hu k⟩
    · obtain ⟨c, e⟩ := cell_has (n := s.heap.objs.size + 1) k
      refine .inr ⟨.inl k, c, e, ?_⟩
      have q := x.cell y c e
      rw [bindC_get ndP hp hu (by show scope.names.lookup y ≠ _; rw [k]; decide)] at q
      exact q
  · exact e0.hok.fresh (Nat.le_of_lt (x.above y c (PySem.mem_of_lookup h)))
  · unfold start
    show _ = N.length
    rw [List.length_append, List.length_map, List.length_replicate]
    omega
theorem fn_of {CX : CXT} {P : Program} {w : World} {K : PySem.W.Frag} {mg : Str → Option Value} {base : Heap} {k : Nat} {f : Addr} {name qual : Str} {params : Arguments} {body : List Stmt} {scope : Scope} {dV kV doc pm cdv ct oc : Value} {an od : Option Addr}
    {osl : Array (Option Value)} {N ps : List Str} {sp : Sp} (lk : K.lookup f = some ⟨oc, od, .func (PySem.W.fnOf name qual params body scope dV kV doc pm an cdv ct), osl⟩) (hcd : PySem.W.codeIn K cdv qual = true) (S : FnScope N ps scope)
    (len : ∀ vs H Q E, sp vs H Q E → vs.length = ps.length)
    (hbody : ∀ (A : Around) (outer : List Env) (s : Shared) (H : Hp) (vs : List V) (Q : VK) (E : XK), Room k (A.deeper (envOfC qual scope s.heap.objs.size f cdv)) → sp vs H Q E →
      ∃ t, PSs (cxOf CX P w K mg base N qual scope f cdv A outer s H E) body t ∧ t { nx := fun _ H' => Q .non H', rt := Q } (start N vs) H) :
    FnOk P w K mg base CX (k + 1) f (PySem.W.fnOf name qual params body scope dV kV doc pm an cdv ct) ps sp := by
  refine ⟨len, fun A outer s H args us vs Q E hr e0 hb r hsp => ?_⟩
  have hl := len _ _ _ _ hsp
  have KX : K.In s.heap := e0.mod.kin.keeps fun b o e => (e0.bs b o e).1
  have lim : s.heap.NoLimit := e0.mod.nolimit.keeps fun b o e => (e0.bs b o e).1
  have hkind : ∀ y ∈ ps.zip us, scope.names.lookup y.1 = some .local ∨ (scope.names.lookup y.1 = some .cell ∧ ((cellsFrom (s.heap.objs.size + 1) scope.names []).lookup y.1).isSome = true) := fun ⟨n, v⟩ hy => by
    rcases S.par n (List.of_mem_zip hy).1 with q | q
    · exact .inl q
    · exact .inr ⟨q, PySem.W.cellsFrom_some _ _ _ (.inl q)⟩
  refine codeAny_call_function hr.depth (KX _ _ lk) rfl S.co S.gen rfl (PySem.W.codeRec_of KX hcd) (hb _ _ _ _ ?_)
  refine wpAny_newFunctionEnv_cells S.kind hkind fun env he s1 x => ?_
  subst he
  refine ⟨lim.keeps x.toInCall.keep, codeAny_func ?_⟩
  obtain ⟨t, ht, hq⟩ := hbody A outer s H vs Q E (hr.deeper _) hsp
  have I : Inv (cxOf CX P w K mg base N qual scope f cdv A outer s H E) [] (start N vs) H s1 := inv_start S hr.hd e0 hl r x
  refine wpAny_mono (ht [] s1 (start N vs) H _ I hq) (fun fl s' hs => ?_) fun e s' hs => hs
  have fin : ∀ {σ' : St} {H' : Hp} {v : V} {u : Value}, Inv (cxOf CX P w K mg base N qual scope f cdv A outer s H E) [] σ' H' s' → RelV v u → Q v H' → CE outer P w H s Q u s' :=
    fun {σ' H' v u} J rv q => ⟨v, H', J.os, J.bare, J.base, J.hok, rv, q⟩
  cases fl with
  | ret u =>
    obtain ⟨v, σ', H', J, rv, q⟩ := hs
    exact fin J rv q
  | next =>
    obtain ⟨σ', H', J, q⟩ := hs
    exact fin (v := V.non) (u := Value.none) J rfl q
  | brk =>
    obtain ⟨_, _, _, q⟩ := hs
    exact False.elim q
  | cont =>
    obtain ⟨_, _, _, q⟩ := hs
    exact False.elim q
end L2
namespace L2
open PySem PySem.Spec PyProof.Rows
section
variable {X : Cx} {x : Str} {p pos : Pos} {e : Expr} {es : List Expr} {t : TA} {id T : String} {r : List V → Hp → VK → Prop}
def tCB (r : List V → Hp → VK → Prop) (t : TA) : TE := fun σ H Q => t σ H fun vs H1 => r vs H1 Q
theorem pe_callB (hc : CallR X (.builtin id) r) (hg : Gl X x) (hm : X.mg x = none) (hv : bootBuiltins x = some (.builtin id)) (ha : PA X (e :: es) t) (hn : x ≠ "__name__" := by decide) (hdb : (x == ("__debug__" : Str)) = false := by decide)
    (he : starEach (e :: es) X.env = (false, eval e X.env) :: starEach es X.env := by rfl) (hpl : (backTo pos (starEach es X.env)).any (·.1) = false := by rfl) : PE X (.Call (.Name x p) (e :: es) [] pos) (tCB r t) := by
  intro pins s σ H Q I h
  refine wpAny_Call_Name_kw (ld_blt I hg hm hv ?_ hn hdb)
  exact PyProof.Rows.callWith_builtin1 (thn (ha pos pins s σ H _ I h) fun us s1 ⟨vs, H1, I1, r1, q1⟩ => hc pins s1 σ H1 vs us Q I1 r1 q1) he hpl
theorem pe_callTy (hc : CallR X (.type T) r) (hg : Gl X x) (hm : X.mg x = none) (hv : bootBuiltins x = some (.type T)) (ha : PA X (e :: es) t) (hn : x ≠ "__name__" := by decide) (hdb : (x == ("__debug__" : Str)) = false := by decide)
    (he : starEach (e :: es) X.env = (false, eval e X.env) :: starEach es X.env := by rfl) (hpl : (backTo pos (starEach es X.env)).any (·.1) = false := by rfl) : PE X (.Call (.Name x p) (e :: es) [] pos) (tCB r t) := by
  intro pins s σ H Q I h
  refine wpAny_Call_Name_kw (ld_blt I hg hm hv ?_ hn hdb)
  exact PyProof.Rows.callWith_type1 (thn (ha pos pins s σ H _ I h) fun us s1 ⟨vs, H1, I1, r1, q1⟩ => hc pins s1 σ H1 vs us Q I1 r1 q1) he hpl
end
end L2
namespace HT
open PySem PyProof.Rows
section
open PySem.SeqAt
open PySem.AutoSeq1 (wpAny_loadPart')
open PySem.MeetsSeq PySem.MeetsSeq2 PySem.MeetsSeq3
end
section
variable {prog : Program} {w : World} {A : Around} {E : Value → Shared → Prop} {s : Shared}
def sIx (n d : Nat) : Option Int → Nat
  | none => d
  | some v => if v < 0 then (v + (n : Int)).toNat else min v.toNat n
theorem sIx_none (n d : Nat) : sIx n d none = d := rfl
theorem sIx_nat (n d k : Nat) : sIx n d (some (k : Int)) = min k n := by
  show (if (k : Int) < 0 then ((k : Int) + (n : Int)).toNat else min (k : Int).toNat n) = min k n
  rw [if_neg (by omega), Int.toNat_natCast]
end
end HT
namespace L2
open PySem PySem.Spec PyProof.Rows
abbrev TO := St → Hp → (Option Int → Hp → Prop) → Prop
def PO (X : Cx) (e : Option Expr) (t : TO) : Prop :=
  ∀ (pins : List (Addr × Obj)) (s : Shared) (σ : St) (H : Hp) (Q : Option Int → Hp → Prop), Inv X pins σ H s → t σ H Q →
    wpAny (model X.prog X.w) X.A (evalPart e X.env) (fun u s' => ∃ o H', Inv X pins σ H' s' ∧ IsPart u o ∧ Q o H') X.xe s
def tNoPart : TO := fun _ H Q => Q none H
def tPart (t : TE) : TO := fun σ H Q => t σ H fun x H1 => ∃ i, x = .int i ∧ Q (some i) H1
section
variable {X : Cx} {e : Expr} {te : TE} {lo hi : Option Expr} {tl th : TO} {pos p2 : Pos}
theorem po_none : PO X none tNoPart := by
  intro pins s σ H Q I h
  rw [evalPart_none]
  exact wpAny_pure ⟨none, H, I, .none, h⟩
theorem po_some (h : PE X e te) : PO X (some e) (tPart te) := by
  intro pins s σ H Q I hw
  rw [evalPart_some]
  refine thn (h pins s σ H _ I hw) fun u s1 ⟨x, H1, I1, r1, q1⟩ => ?_
  obtain ⟨i, rfl, q⟩ := q1
  obtain ⟨t, rfl⟩ := r1
  exact ⟨some i, H1, I1, .int i t, q⟩
def SlR (X : Cx) (r : V → Option Int → Option Int → Hp → VK → Prop) : Prop :=
  ∀ (pins : List (Addr × Obj)) (s : Shared) (σ : St) (H : Hp) (x : V) (v vl vu : Value) (lo hi : Option Int) (sl : Addr) (Q : VK), Inv X pins σ H s → RelV x v → s.heap.IsSliceOf sl vl vu .none → IsPart vl lo → IsPart vu hi → r x lo hi H Q →
    ∃ T id, typeLookup (.type T) "__getitem__" = pure (some (.builtin id)) ∧ s.TypeIs v T ∧ wpAny (model X.prog X.w) X.A (getItem v (.ref sl)) (EP X pins σ Q) X.xe s
def tSl (r : V → Option Int → Option Int → Hp → VK → Prop) (te : TE) (tl th : TO) : TE := fun σ H Q => te σ H fun x H1 => tl σ H1 fun l H2 => th σ H2 fun u H3 => r x l u H3 Q
theorem pe_slice {r : V → Option Int → Option Int → Hp → VK → Prop} (hr : SlR X r) (he : PE X e te) (hl : PO X lo tl) (hu : PO X hi th) : PE X (.Subscript e (.Slice lo hi none p2) pos) (tSl r te tl th) := by
  intro pins s σ H Q I h
  refine Subscript_ (thn (he pins s σ H _ I h) fun v s1 ⟨x, H1, I1, r1, q1⟩ => ?_)
  refine wpAny_Slice (thn (hl pins s1 σ H1 _ I1 q1) fun vl s2 ⟨l, H2, I2, pl, q2⟩ => thn (hu pins s2 σ H2 _ I2 q2) fun vu s3 ⟨u, H3, I3, pu, q3⟩ => ?_)
  rw [evalPart_none]
  refine wpAny_pure ?_
  have I4 : Inv X pins σ H3 { s3 with heap := s3.heap.push { cls := .type "slice", data := .fields #[vl, vu, .none] } } := I3.kept (t' := s3.toks) fun b ob q => Heap.get?_push_of_some _ q
  obtain ⟨T, id, hT, ht, hg⟩ := hr pins { s3 with heap := s3.heap.push { cls := .type "slice", data := .fields #[vl, vu, .none] } } σ H3 x v vl vu l u s3.heap.objs.size Q I4 r1 (Heap.IsSliceOf.new ..) pl pu q3
  show wpAny (model X.prog X.w) X.A (subscriptTail e (.Slice lo hi none p2) v (.ref s3.heap.objs.size)) (EP X pins σ Q) X.xe { s3 with heap := s3.heap.push { cls := .type "slice", data := .fields #[vl, vu, .none] } }
  exact tail_any (ops := [.ref s3.heap.objs.size, v]) ht hT hg (by with_unfolding_all rfl)
def cutV (xs : List V) (lo hi : Option Int) : List V := (xs.drop (HT.sIx xs.length 0 lo)).take (HT.sIx xs.length xs.length hi - HT.sIx xs.length 0 lo)
theorem cutV_length (xs : List V) (lo hi : Option Int) : (cutV xs lo hi).length ≤ xs.length := by
  unfold cutV
  rw [List.length_take, List.length_drop]
  omega
end
end L2
namespace L2
open PySem PySem.Spec PyProof.Rows
def ixN (n : Nat) (i : Int) : Option Nat := if 0 ≤ i then (if i < n then some i.toNat else none) else if -(n : Int) ≤ i then some (i + n).toNat else none
def atI {α : Type} (xs : List α) (i : Int) : Option α := (ixN xs.length i).bind fun j => xs[j]?
theorem ixN_seq {n : Nat} {i : Int} {j : Nat} (h : ixN n i = some j) : seqIndex? i n = some j ∧ j < n ∧ -(n : Int) ≤ i ∧ i < n := by
  unfold ixN at h
  by_cases h0 : 0 ≤ i
  · rw [if_pos h0] at h
    by_cases h1 : i < n
    · rw [if_pos h1] at h
      have e : i.toNat = j := Option.some.inj h
      exact ⟨by rw [seqIndex_of h0 h1, e], by omega, by omega, h1⟩
    · rw [if_neg h1] at h; cases h
  · rw [if_neg h0] at h
    by_cases h1 : -(n : Int) ≤ i
    · rw [if_pos h1] at h
      have e : (i + n).toNat = j := Option.some.inj h
      exact ⟨by rw [seqIndex_neg (by omega) h1, e], by omega, h1, by omega⟩
    · rw [if_neg h1] at h; cases h
theorem atI_get {α : Type} {xs : List α} {i : Int} {v : α} (h : atI xs i = some v) : ∃ j, seqIndex? i xs.length = some j ∧ xs[j]? = some v ∧ j < xs.length ∧ -(xs.length : Int) ≤ i ∧ i < xs.length := by
  unfold atI at h
  cases e : ixN xs.length i with
  | none => rw [e] at h; cases h
  | some j =>
    rw [e] at h
    obtain ⟨h1, h2, h3, h4⟩ := ixN_seq e
    exact ⟨j, h1, h, h2, h3, h4⟩
def PlainIx (b : Expr) : Prop := ∀ o i, subscripted b false o i = operate [o, i] (getItem o i)
def IxR (X : Cx) (r : R2) : Prop :=
  ∀ (value slice : Expr) (pins : List (Addr × Obj)) (s : Shared) (σ : St) (H : Hp) (x y : V) (v u : Value) (Q : VK), Inv X pins σ H s → RelV x v → RelV y u → r x y H Q →
    subscripted slice false v u = operate [v, u] (getItem v u) → wpAny (model X.prog X.w) X.A (subscriptTail value slice v u) (EP X pins σ Q) X.xe s
def MtR (X : Cx) (id : String) (r : V → List V → Hp → VK → Prop) : Prop :=
  ∀ (pins : List (Addr × Obj)) (s : Shared) (σ : St) (H : Hp) (x : V) (xs : List V) (v : Value) (us : List Value) (Q : VK), Inv X pins σ H s → RelV x v → Vals xs us → r x xs H Q →
    wpAny (model X.prog X.w) X.A (call (.builtin id) (v :: us)) (EP X pins σ Q) X.xe s
section
variable {X : Cx} {a b : Expr} {ta tb : TE} {pos : Pos}
theorem pe_ix {r : R2} (hr : IxR X r) (ha : PE X a ta) (hb : PE X b tb) (hs : PlainIx b) : PE X (.Subscript a b pos) (tOp r ta tb) := by
  intro pins s σ H Q I h
  exact Subscript_ (binT ha hb I h fun v u s2 x y H2 I2 rx ry q => hr a b pins s2 σ H2 x y v u Q I2 rx ry q (hs _ _))
def rIxL (K : PySem.W.Frag) : R2 := fun x y H Q => ∃ p xs i v, x = .ref p ∧ y = .int i ∧ SqL K H p xs ∧ atI xs i = some v ∧ Q v H
def rIxT (K : PySem.W.Frag) : R2 := fun x y H Q => ∃ p xs i v, x = .ref p ∧ y = .int i ∧ SqT K H p xs ∧ atI xs i = some v ∧ Q v H
theorem ix_list : IxR X (rIxL X.K) := by
  intro value slice pins s σ H x y v u Q I rx ry h hs
  obtain ⟨p, xs, i, z, rfl, rfl, hq, he, q⟩ := h
  cases rx
  obtain ⟨t, rfl⟩ := ry
  obtain ⟨its, r, pl, hz⟩ := I.list hq
  obtain ⟨j, h1, h2, h3, h4, h5⟩ := atI_get he
  obtain ⟨w, ew, rw'⟩ := r.get h2
  have hl := r.length
  have hn := line63
  have fin : EP X pins σ Q w s := ⟨z, H, I, rw', q⟩
  by_cases h0 : 0 ≤ i
  · have hj : i.toNat = j := by
      rw [seqIndex_of h0 h5] at h1
      exact Option.some.inj h1
    exact item_listR pl.isList h0 (by omega) (by rw [hj]; simpa using ew) fin hs
  · have hj : (i + (its.toArray.size : Int)).toNat = j := by
      rw [seqIndex_neg (by omega) h4] at h1
      rw [List.size_toArray, ← hl]
      exact Option.some.inj h1
    exact subscriptTail_builtinR (x := w) pl.isList.typeIs slot_list_getitem.lookup
      (wpAny_getItem_list_neg (Q := fun r s' => r = w ∧ EP X pins σ Q r s') pl.isList (by omega) (by rw [List.size_toArray] <;> omega) (by omega) (by rw [hj]; simpa using ew) ⟨rfl, fin⟩) hs
theorem ix_tup : IxR X (rIxT X.K) := by
  intro value slice pins s σ H x y v u Q I rx ry h hs
  obtain ⟨p, xs, i, z, rfl, rfl, hq, he, q⟩ := h
  cases rx
  obtain ⟨t, rfl⟩ := ry
  obtain ⟨its, r, pl, hz⟩ := I.tuple hq
  obtain ⟨j, h1, h2, h3, h4, h5⟩ := atI_get he
  obtain ⟨w, ew, rw'⟩ := r.get h2
  have hl := r.length
  have hn := line63
  have fin : EP X pins σ Q w s := ⟨z, H, I, rw', q⟩
  exact subscriptTail_builtinR (x := w) pl.typeIs slot_tuple_getitem.lookup
    (getItem_tuple (j := j) (Q := fun r s' => r = w ∧ EP X pins σ Q r s') pl (by omega) (by omega) (by rw [List.size_toArray, ← hl]; exact h1) (by simpa using ew) ⟨rfl, fin⟩) hs
theorem mapSeq_set (its : List Value) (n j : Nat) (u : Value) : Obj.mapSeq (·.setIfInBounds j u) { cls := .type "list", data := .seq its.toArray n } = { cls := .type "list", data := .seq (its.set j u).toArray n } := by
  simp [Obj.mapSeq]
theorem Inv.lst {pins : List (Addr × Obj)} {σ : St} {H : Hp} {s : Shared} {p : Addr} {xs : List V} (I : Inv X pins σ H s) (h : H p = some (.lst xs)) :
    ∃ (its : List Value) (n : Nat), Vals xs its ∧ s.heap.get? p = some { cls := .type "list", data := .seq its.toArray n } ∧ xs.length ≤ sizeLine := by
  obtain ⟨z, its, n, r, e⟩ := I.hok p _ h
  exact ⟨its, n, r, e, z⟩
theorem Inv.lstUpd {pins : List (Addr × Obj)} {σ : St} {H : Hp} {s : Shared} {p : Addr} {xs ys : List V} {its its' : List Value} {n n' : Nat} {f : Obj → Obj} (I : Inv X pins σ H s) (h : H p = some (.lst xs))
    (ho : s.heap.get? p = some { cls := .type "list", data := .seq its.toArray n }) (hf : f { cls := .type "list", data := .seq its.toArray n } = { cls := .type "list", data := .seq its'.toArray n' }) (r : Vals ys its') (hz : ys.length ≤ sizeLine) (t : Nat) :
    Inv X pins σ (upd H p (.lst ys)) { s with heap := s.heap.update p f, toks := t } := by
  have e : (s.heap.update p f).get? p = some { cls := .type "list", data := .seq its'.toArray n' } := by
    rw [Heap.get?_update_self f ho (by rw [hf] <;> rfl), hf]
  refine I.write (x := p) (e := p) (by rw [h]; trivial) (.inl rfl) (fun b u hb q => (Heap.get?_update_other _ _ (Ne.symm hb)).trans q) ⟨_, e⟩ ?_
  exact ⟨hz, its', n', r, e⟩
def rSetL : V → V → V → Hp → (Hp → Prop) → Prop := fun o i v H Q => ∃ p xs k j, o = .ref p ∧ i = .int k ∧ H p = some (.lst xs) ∧ ixN xs.length k = some j ∧ Q (upd H p (.lst (xs.set j v)))
theorem set_list : PSet X rSetL := by
  intro pins s σ H o i v ov iv u Q I ro ri rv h
  obtain ⟨p, xs, k, j, rfl, rfl, hp, hj, q⟩ := h
  cases ro
  obtain ⟨t, rfl⟩ := ri
  obtain ⟨its, n, r, ho, hz⟩ := I.lst hp
  obtain ⟨h1, h2, h3, h4⟩ := ixN_seq hj
  have hl := r.length
  have hn := line63
  have I' : Inv X pins σ (upd H p (.lst (xs.set j v))) { s with heap := s.heap.update p (Obj.mapSeq (·.setIfInBounds j u)) } :=
    I.lstUpd hp ho (mapSeq_set its n j u) (r.set rv j) (by rw [List.length_set]; exact hz) s.toks
  by_cases h0 : 0 ≤ k
  · have hk : k.toNat = j := by
      rw [seqIndex_of h0 h4] at h1
      exact Option.some.inj h1
    exact PySem.W.ki_setAt ho h0 (by omega) (by rw [List.size_toArray, ← hl]; exact h4) (by rw [hk]; exact ⟨_, I', q⟩)
  · have hk : (k + (its.toArray.size : Int)).toNat = j := by
      rw [seqIndex_neg (by omega) h3] at h1
      rw [List.size_toArray, ← hl]
      exact Option.some.inj h1
    exact PySem.W.ki_setBack ho (by omega) (by rw [List.size_toArray, ← hl]; exact h3) (by omega) (by rw [hk]; exact ⟨_, I', q⟩)
theorem slice_bounds (lo hi : Option Int) (n : Nat) : (sliceBounds lo hi none n).1 = ((HT.sIx n 0 lo : Nat) : Int) ∧ (sliceBounds lo hi none n).2.1 = ((HT.sIx n n hi : Nat) : Int) ∧ (sliceBounds lo hi none n).2.2 = 1 := by
  refine ⟨?_, ?_, rfl⟩
  · cases lo with
    | none => simp [sliceBounds, HT.sIx]
    | some i =>
      simp only [sliceBounds, HT.sIx, Option.getD_none, show (1 : Int) > 0 by decide, if_true]
      by_cases h : i < 0
      · simp only [h, if_true] <;> omega
      · simp only [h, if_false] <;> omega
  · cases hi with
    | none => simp [sliceBounds, HT.sIx]
    | some i =>
      simp only [sliceBounds, HT.sIx, Option.getD_none, show (1 : Int) > 0 by decide, if_true]
      by_cases h : i < 0
      · simp only [h, if_true] <;> omega
      · simp only [h, if_false] <;> omega
theorem slicePick_cut (its : List Value) (lo hi : Option Int) : slicePick its.toArray lo hi none = ((its.drop (HT.sIx its.length 0 lo)).take (HT.sIx its.length its.length hi - HT.sIx its.length 0 lo)).toArray := by
  obtain ⟨h1, h2, h3⟩ := slice_bounds lo hi its.toArray.size
  unfold slicePick
  rw [h1, h2, h3]
  simp only [sliceRange_one, pick_run, List.size_toArray] <;> rfl
def rSlL (K : PySem.W.Frag) : V → Option Int → Option Int → Hp → VK → Prop := fun x lo hi H Q => ∃ a xs, x = .ref a ∧ SqL K H a xs ∧ ∀ p, H p = none → Q (.ref p) (upd H p (.lst (cutV xs lo hi)))
theorem sl_list : SlR X (rSlL X.K) := by
  intro pins s σ H x v vl vu lo hi sl Q I rx hs pl pu h
  obtain ⟨a, xs, rfl, hx, q⟩ := h
  cases rx
  obtain ⟨its, r, ht, hz⟩ := I.list hx
  have hlen := r.length
  refine ⟨"list", _, slot_list_getitem.lookup, ht.isList.typeIs, ?_⟩
  refine wpAny_getItem_list_slice ht.isList hs pl pu .none (by simp) ?_ (by rw [List.size_toArray] <;> omega)
  rw [slicePick_cut, ← hlen]
  refine ⟨.ref s.heap.objs.size, _, I.laid (t' := s.toks) (o := .lst (cutV xs lo hi)) (fun b ob q => Heap.get?_push_of_some _ q) (Nat.le_refl _) ?_, rfl, q _ (I.hok.fresh (Nat.le_refl _))⟩
  exact ⟨Nat.le_trans (cutV_length xs lo hi) hz, _, 0, (r.drop (HT.sIx xs.length 0 lo)).take (HT.sIx xs.length xs.length hi - HT.sIx xs.length 0 lo), Heap.get?_push_size _ rfl⟩
def flatV : V → Bool
  | .non => true
  | .bl _ => true
  | .int _ => true
  | .str _ => true
  | _ => false
def eqV : V → V → Bool
  | .non, .non => true
  | .bl a, .bl b => a == b
  | .bl a, .int b => (if a then 1 else 0) == b
  | .int a, .bl b => a == (if b then 1 else 0)
  | .int a, .int b => a == b
  | .str a, .str b => a == b
  | _, _ => false
theorem eqAt_V {A : Around} {s : Shared} {y x : V} {u v : Value} (ry : RelV y u) (rx : RelV x v) (fy : flatV y = true) (fx : flatV x = true) : SeqAt.EqAt A s u v (eqV y x) := by
  cases y with
  | non =>
    cases ry
    cases x with
    | non => cases rx; exact SeqAt.EqAt.same _
    | bl b => cases rx; exact SeqAt.EqAt.none_bool b
    | int b => obtain ⟨t, rfl⟩ := rx; exact SeqAt.EqAt.none_int b t
    | str b => obtain ⟨t, rfl⟩ := rx; exact SeqAt.EqAt.none_str b t
    | _ => exact absurd (show false = true from fx) Bool.false_ne_true
  | bl a =>
    cases ry
    cases x with
    | non => cases rx; exact SeqAt.EqAt.bool_none a
    | bl b => cases rx; exact SeqAt.EqAt.bool_bool a b
    | int b => obtain ⟨t, rfl⟩ := rx; exact SeqAt.EqAt.bool_int a b t
    | str b => obtain ⟨t, rfl⟩ := rx; exact SeqAt.EqAt.bool_str a b t
    | _ => exact absurd (show false = true from fx) Bool.false_ne_true
  | int a =>
    obtain ⟨t', rfl⟩ := ry
    cases x with
    | non => cases rx; exact SeqAt.EqAt.int_none a t'
    | bl b => cases rx; exact SeqAt.EqAt.int_bool a t' b
    | int b => obtain ⟨t, rfl⟩ := rx; exact SeqAt.EqAt.int_int a t' b t
    | str b => obtain ⟨t, rfl⟩ := rx; exact SeqAt.EqAt.int_str a t' b t
    | _ => exact absurd (show false = true from fx) Bool.false_ne_true
  | str a =>
    obtain ⟨t', rfl⟩ := ry
    cases x with
    | non => cases rx; exact SeqAt.EqAt.str_none a t'
    | bl b => cases rx; exact SeqAt.EqAt.str_bool a t' b
    | int b => obtain ⟨t, rfl⟩ := rx; exact SeqAt.EqAt.str_int a t' b t
    | str b => obtain ⟨t, rfl⟩ := rx; exact SeqAt.EqAt.str_str a t' b t
    | _ => exact absurd (show false = true from fx) Bool.false_ne_true
  | _ => exact absurd (show false = true from fy) Bool.false_ne_true
def eqU (x : V) (u : Value) : Bool := match u with
  | .none => eqV .non x
  | .bool b => eqV (.bl b) x
  | .int i _ => eqV (.int i) x
  | .str z _ => eqV (.str z) x
  | _ => false
theorem eqU_of {x y : V} {u : Value} (r : RelV y u) (f : flatV y = true) : eqU x u = eqV y x := by
  cases y with
  | non => cases r; rfl
  | bl b => cases r; rfl
  | int i => obtain ⟨t, rfl⟩ := r; rfl
  | str z => obtain ⟨t, rfl⟩ := r; rfl
  | _ => exact absurd (show false = true from f) Bool.false_ne_true
theorem any_eqU {x : V} : ∀ {xs : List V} {us : List Value}, Vals xs us → xs.all flatV = true → us.any (eqU x) = xs.any fun y => eqV y x
  | _, _, .nil, _ => rfl
  | y :: xs, u :: us, .cons r t, f => by
    rw [List.all_cons, Bool.and_eq_true] at f
    rw [List.any_cons, List.any_cons, eqU_of r f.1, any_eqU t f.2]
theorem mem_eqAt {A : Around} {s : Shared} {x : V} {v : Value} (rx : RelV x v) (fx : flatV x = true) : ∀ {xs : List V} {us : List Value}, Vals xs us → xs.all flatV = true → ∀ u ∈ us, SeqAt.EqAt A s u v (eqU x u)
  | _, _, .nil, _ => fun u hu => by cases hu
  | y :: xs, u :: us, .cons r t, f => fun u' hu => by
    rw [List.all_cons, Bool.and_eq_true] at f
    rcases List.mem_cons.mp hu with rfl | hu
    · rw [eqU_of r f.1]; exact eqAt_V r rx f.1 fx
    · exact mem_eqAt rx fx t f.2 u' hu
def inV (x : V) (xs : List V) : Bool := xs.any fun y => eqV y x
def rIn (K : PySem.W.Frag) (neg : Bool) : R2 := fun x y H Q => ∃ p xs, y = .ref p ∧ (SqL K H p xs ∨ SqT K H p xs) ∧ flatV x = true ∧ xs.all flatV = true ∧ Q (.bl (if neg then !inV x xs else inV x xs)) H
theorem op_notIn_seq : OpR X (compareOp .NotIn) (rIn X.K true) := by
  intro pins s σ H x y v u Q I rx ry h
  obtain ⟨p, xs, rfl, hq, fx, fs, q⟩ := h
  cases ry
  rcases hq with hq | hq
  · obtain ⟨its, r, pl, hz⟩ := I.list hq
    refine SeqAt.notIn_listAt (eqU x) pl.isList (fun w hw => mem_eqAt rx fx r fs w (by simpa using hw)) ⟨.bl _, H, I, rfl, ?_⟩
    rw [show its.toArray.any (eqU x) = its.any (eqU x) by simp, any_eqU r fs]
    exact q
  · obtain ⟨its, r, pl, hz⟩ := I.tuple hq
    refine SeqAt.notIn_tupleAt (eqU x) pl (fun w hw => mem_eqAt rx fx r fs w (by simpa using hw)) ⟨.bl _, H, I, rfl, ?_⟩
    rw [show its.toArray.any (eqU x) = its.any (eqU x) by simp, any_eqU r fs]
    exact q
theorem call_len_seq : CallR X (.builtin "len") (fun xs H Q => ∃ p ys, xs = [.ref p] ∧ (SqL X.K H p ys ∨ SqT X.K H p ys) ∧ Q (.int ys.length) H) := by
  intro pins s σ H xs us Q I r h
  obtain ⟨p, ys, rfl, hq, q⟩ := h
  obtain ⟨u, rfl, rx⟩ := vals1 r
  cases rx
  have hn := line63
  rcases hq with hq | hq
  · obtain ⟨its, r', pl, hz⟩ := I.list hq
    have hlen := r'.length
    exact Calls.call_len_list pl.isList (by simp only [List.size_toArray] <;> omega) ⟨.int ys.length, H, I.tok _, ⟨s.toks + 1, by rw [List.size_toArray, hlen]⟩, q⟩
  · obtain ⟨its, r', pl, hz⟩ := I.tuple hq
    have hlen := r'.length
    exact len_tuple pl (by simp only [List.size_toArray] <;> omega) ⟨.int ys.length, H, I.tok _, ⟨s.toks + 1, by rw [List.size_toArray, hlen]⟩, q⟩
theorem call_list_of : CallR X (.type "list") (fun xs H Q => ∃ p ys, xs = [.ref p] ∧ (SqL X.K H p ys ∨ SqT X.K H p ys) ∧ ∀ l, H l = none → Q (.ref l) (upd H l (.lst ys))) := by
  intro pins s σ H xs us Q I r h
  obtain ⟨p, ys, rfl, hq, q⟩ := h
  obtain ⟨u, rfl, rx⟩ := vals1 r
  cases rx
  have fin : ∀ (its : List Value), Vals ys its → ys.length ≤ sizeLine → ∀ (h' : Heap) (c' : Nat), (∀ b o', s.heap.get? b = some o' → h'.get? b = some o') →
      h'.get? s.heap.objs.size = some { cls := .type "list", dict := none, data := .seq its.toArray c', slots := #[] } → EP X pins σ Q (.ref s.heap.objs.size) { s with heap := h' } := fun its r' hz h' c' kp e =>
    ⟨.ref s.heap.objs.size, _, I.laid (t' := s.toks) kp (Nat.le_refl _) (show ObjOk X.prog X.w _ h' _ (.lst ys) from ⟨hz, its, c', r', e⟩), rfl, q _ (I.hok.fresh (Nat.le_refl _))⟩
  rcases hq with hq | hq
  · obtain ⟨its, r', pl, hz⟩ := I.list hq
    have hlen := r'.length
    obtain ⟨o, ho, hc, n, hd⟩ := pl.isList
    exact call_list_seq p (.inl rfl) ho hc hd (fun h' c' kp e => fin its r' hz h' c' kp e) (by simp only [List.size_toArray] <;> omega)
  · obtain ⟨its, r', pl, hz⟩ := I.tuple hq
    have hlen := r'.length
    obtain ⟨o, ho, hc, n, hd⟩ := pl
    exact call_list_seq p (.inr rfl) ho hc hd (fun h' c' kp e => fin its r' hz h' c' kp e) (by simp only [List.size_toArray] <;> omega)
def tyV (K : PySem.W.Frag) (T : String) (x : V) (H : Hp) : Prop := match x with
  | .str _ => T = "str"
  | .int _ => T = "int"
  | .ref p => (T = "list" ∧ ∃ xs, SqL K H p xs) ∨ (T = "tuple" ∧ ∃ o, K.lookup p = some o ∧ o.cls = .type "tuple" ∧ o.dict = none) ∨
      (T = "dict" ∧ ((∃ kvs, H p = some (.dK kvs)) ∨ ∃ kvs, H p = some (.dT kvs))) ∨ (T = "set" ∧ ∃ S n, H p = some (.set S n))
  | _ => False
theorem tyV_is {pins : List (Addr × Obj)} {σ : St} {H : Hp} {s : Shared} {T : String} {x : V} {v : Value} (I : Inv X pins σ H s) (r : RelV x v) (ty : tyV X.K T x H) :
    s.TypeIs v T ∧ ∀ a, v = .ref a → ∃ ob, s.heap.get? a = some ob ∧ ob.dict = none := by
  cases x with
  | str z =>
    obtain ⟨t, rfl⟩ := r
    cases (show T = "str" from ty)
    exact ⟨typeIs_str s z t, fun _ e => nomatch e⟩
  | int i =>
    obtain ⟨t, rfl⟩ := r
    cases (show T = "int" from ty)
    exact ⟨typeIs_int s i t, fun _ e => nomatch e⟩
  | ref p =>
    cases r
    rcases ty with ⟨rfl, xs, hq⟩ | ⟨rfl, o, hk, hc, hd⟩ | ⟨rfl, hk⟩ | ⟨rfl, S, n, hk⟩
    · obtain ⟨its, _, pl, _⟩ := I.list hq
      refine ⟨pl.isList.typeIs, fun a e => ?_⟩
      cases e
      obtain ⟨o, n, e, c, hd, _⟩ := pl
      exact ⟨o, e, hd⟩
    · refine ⟨⟨o, I.kIn p o hk, hc⟩, fun a e => ?_⟩
      cases e
      exact ⟨o, I.kIn _ o hk, hd⟩
    · have z : ∃ o, s.heap.get? p = some o ∧ o.ExactDict := by
        rcases hk with ⟨kvs, hk⟩ | ⟨kvs, hk⟩
        · obtain ⟨_, _, _, _, o, _, _, e, ex, _⟩ := I.hok p _ hk
          exact ⟨o, e, ex⟩
        · obtain ⟨_, _, _, _, o, _, _, e, ex, _⟩ := I.hok p _ hk
          exact ⟨o, e, ex⟩
      obtain ⟨o, e, ex⟩ := z
      refine ⟨⟨o, e, ex.1⟩, fun a e2 => ?_⟩
      cases e2
      exact ⟨o, e, ex.2.1⟩
    · obtain ⟨o, _, _, _, e, ex, _⟩ := I.hok p _ hk
      refine ⟨⟨o, e, ex.1⟩, fun a e2 => ?_⟩
      cases e2
      exact ⟨o, e, ex.2.1⟩
  | _ => exact False.elim ty
def tBM0 (K : PySem.W.Frag) (T : String) (r : V → List V → Hp → VK → Prop) (to : TE) : TE := fun σ H Q => to σ H fun x H1 => tyV K T x H1 ∧ r x [] H1 Q
def tBM (K : PySem.W.Frag) (T : String) (r : V → List V → Hp → VK → Prop) (to : TE) (t : TA) : TE := fun σ H Q => to σ H fun x H1 => tyV K T x H1 ∧ t σ H1 fun xs H2 => r x xs H2 Q
variable {o e : Expr} {es : List Expr} {to : TE} {t : TA} {name : Str} {apos cpos : Pos} {T id : String} {r : V → List V → Hp → VK → Prop}
theorem pe_bm0 (pa : PlainAttrs T) (slot : Slot T name id) (hty : typeOf (.builtin id) = pure (.type "method_descriptor")) (hm : MtR X id r) (ho : PE X o to)
    (hbase : attributeBase o name X.env (eval o X.env) = eval o X.env := by rfl) (hline : (apos.endLine == cpos.line) = true := by rfl) : PE X (.Call (.Attribute o name apos) [] [] cpos) (tBM0 X.K T r to) := by
  intro pins s σ H Q I h
  refine wpAny_Call_method0_late hbase hline (thn (ho pins s σ H _ I h) fun v s1 ⟨x, H1, I1, r1, ty, q1⟩ => ?_)
  obtain ⟨h1, h2⟩ := tyV_is I1 r1 ty
  exact ⟨T, id, pa, slot, hty, h1, h2, Calls.callWith_builtin rfl (PySem.evalArgs_none (hm pins s1 σ H1 x [] v [] Q I1 r1 .nil q1))⟩
theorem pe_bm (pa : PlainAttrs T) (slot : Slot T name id) (hty : typeOf (.builtin id) = pure (.type "method_descriptor")) (hm : MtR X id r) (ho : PE X o to) (ha : PA X (e :: es) t)
    (hbase : attributeBase o name X.env (eval o X.env) = eval o X.env := by rfl)
    (hfew : ((backTo cpos (starEach (e :: es) X.env)).all (fun x => !x.1) && (backToKw cpos (keywordEach [] X.env)).all (fun x => x.1.isSome)
      && decide ((e :: es).length + ([] : List Keyword).length + (if ([] : List Keyword).isEmpty then 0 else 1) < 30)) = true := by rfl)
    (hline : (apos.endLine == cpos.line) = true := by rfl) (hs : starEach (e :: es) X.env = (false, eval e X.env) :: starEach es X.env := by rfl) (hplain : (backTo cpos (starEach es X.env)).any (·.1) = false := by rfl) :
    PE X (.Call (.Attribute o name apos) (e :: es) [] cpos) (tBM X.K T r to t) := by
  intro pins s σ H Q I h
  refine wpAny_Call_method_late hbase hfew hline rfl (thn (ho pins s σ H _ I h) fun v s1 ⟨x, H1, I1, r1, ty, q1⟩ => ?_)
  obtain ⟨h1, h2⟩ := tyV_is I1 r1 ty
  refine ⟨T, id, pa, slot, hty, h1, h2, ?_⟩
  have hA := ha cpos pins s1 σ H1 _ I1 q1
  rw [hs] at hA ⊢
  refine Calls.callWith_builtin (by show (false || (backTo cpos (starEach es X.env)).any (·.1)) = false; rw [hplain] <;> rfl) (Calls.evalArgs_plain ?_)
  exact thn hA fun us s2 ⟨vs, H2, I2, r2, q2⟩ => hm pins s2 σ H2 x vs v us Q I2 r1 r2 q2
/- xs.append(e), list.index on a module's tuple .. are MtR facts of 06m -/
end
end L2
namespace L2
open PySem PySem.Spec PyProof.Rows
def MtM (X : Cx) (id : String) (r : V → List V → Hp → VK → Prop) : Prop :=
  ∀ (pins : List (Addr × Obj)) (s : Shared) (σ : St) (H : Hp) (x : V) (xs : List V) (v : Value) (us : List Value) (Q : VK), Inv X pins σ H s → RelV x v → Vals xs us → r x xs H Q →
    wpAny (model X.prog X.w) X.A (call (.builtin id) (v :: us)) (EP X pins σ Q) X.xe s
theorem Vals.one : ∀ {x : V} {us : List Value}, Vals [x] us → ∃ u, us = [u] ∧ RelV x u
  | _, _, .cons r .nil => ⟨_, rfl, r⟩
theorem Vals.zero : ∀ {us : List Value}, Vals [] us → us = []
  | _, .nil => rfl
theorem Vals.dropLast {xs : List V} {us : List Value} (h : Vals xs us) : Vals xs.dropLast us.dropLast := by
  induction h with
  | nil => exact .nil
  | cons r t ih =>
    cases t with
    | nil => exact .nil
    | cons q t' => exact .cons r ih
theorem Vals.eraseIdx : ∀ {xs : List V} {us : List Value} (i : Nat), Vals xs us → Vals (xs.eraseIdx i) (us.eraseIdx i)
  | _, _, _, .nil => .nil
  | _, _, 0, .cons _ t => t
  | _, _, i + 1, .cons r t => .cons r (Vals.eraseIdx i t)
theorem Vals.reverse {xs : List V} {us : List Value} (h : Vals xs us) : Vals xs.reverse us.reverse := by
  induction h with
  | nil => exact .nil
  | cons r t ih => rw [List.reverse_cons, List.reverse_cons]; exact Vals.append ih (.cons r .nil)
theorem Vals.rep {xs : List V} {us : List Value} (h : Vals xs us) : ∀ k : Nat, Vals (List.replicate k xs).flatten (List.replicate k us).flatten
  | 0 => .nil
  | k + 1 => by
    rw [List.replicate_succ, List.replicate_succ, List.flatten_cons, List.flatten_cons]
    exact Vals.append h (Vals.rep h k)
theorem erase_last {α : Type} (l : List α) : l.eraseIdx (l.length - 1) = l.dropLast := by
  induction l with
  | nil => rfl
  | cons a r ih =>
    cases r with
    | nil => rfl
    | cons b r =>
      have e : (a :: b :: r).length - 1 = ((b :: r).length - 1) + 1 := by
        have h1 : (a :: b :: r).length = r.length + 2 := rfl
        have h2 : (b :: r).length = r.length + 1 := rfl
        omega
      rw [e, List.eraseIdx_cons_succ, ih]
      all_goals rfl
theorem len_erase {α : Type} : ∀ (l : List α) (i : Nat), (l.eraseIdx i).length ≤ l.length
  | [], _ => Nat.le_refl _
  | _ :: _, 0 => Nat.le_succ _
  | _ :: r, i + 1 => Nat.succ_le_succ (len_erase r i)
theorem foldl_rep (its : List Value) : ∀ (k : Nat) (acc : List Value),
    List.foldl (fun x1 x2 => x1 ++ x2) acc.toArray (List.replicate k its.toArray) = (acc ++ (List.replicate k its).flatten).toArray
  | 0, acc => by simp
  | k + 1, acc => by
    have e : acc.toArray ++ its.toArray = (acc ++ its).toArray := by simp
    have e2 : (acc ++ its) ++ (List.replicate k its).flatten = acc ++ (List.replicate (k + 1) its).flatten := by
      rw [List.replicate_succ, List.flatten_cons, List.append_assoc]
    rw [← e2, ← foldl_rep its k (acc ++ its), ← e, List.replicate_succ, List.foldl_cons]
section
variable {X : Cx} {pins : List (Addr × Obj)} {σ : St} {H : Hp} {s : Shared} {l b : Addr} {xs ys zs : List V}
theorem Inv.lset {its its' : List Value} {n : Nat} {f : Array Value → Array Value} {t' : Nat} (I : Inv X pins σ H s) (hH : H l = some (.lst xs))
    (e : s.heap.get? l = some { cls := .type "list", data := .seq its.toArray n }) (hf : f its.toArray = its'.toArray) (hv : Vals ys its') (hz : ys.length ≤ sizeLine) :
    Inv X pins σ (upd H l (.lst ys)) { s with heap := s.heap.update l (Obj.mapSeq f), toks := t' } := by
  have q := PySem.IsL.update e f
  rw [hf] at q
  refine I.write (x := l) (e := l) (by rw [hH]; exact trivial) (.inl rfl) (fun b' u hb hu => (Heap.get?_update_other s.heap (Obj.mapSeq f) (Ne.symm hb)).trans hu) ⟨_, q⟩ ?_
  exact ⟨hz, its', _, hv, q⟩
theorem Inv.lnew {its : List Value} {t' : Nat} (I : Inv X pins σ H s) (hv : Vals ys its) (hz : ys.length ≤ sizeLine) :
    Inv X pins σ (upd H s.heap.objs.size (.lst ys)) { s with heap := s.heap.push { cls := .type "list", data := .seq its.toArray }, toks := t' } :=
  I.laid (fun _ _ q => Heap.get?_push_of_some _ q) (Nat.le_refl _) ⟨hz, its, 0, hv, Heap.get?_push_size _ rfl⟩
theorem Inv.fresh (I : Inv X pins σ H s) : H s.heap.objs.size = none := I.hok.fresh (Nat.le_refl _)
theorem Inv.lstM (I : Inv X pins σ H s) (hH : H l = some (.lst xs)) : xs.length ≤ sizeLine ∧ ∃ (its : List Value) (n : Nat), Vals xs its ∧ xs.length = its.length ∧ s.heap.get? l = some { cls := .type "list", data := .seq its.toArray n } := by
  obtain ⟨z, its, n, r, e⟩ := I.hok l _ hH
  exact ⟨z, its, n, r, r.length, e⟩
theorem notLongL {n : Nat} (h : n ≤ sizeLine) : Builtin.List.listTooLong n = false := by
  unfold Builtin.List.listTooLong
  exact decide_eq_false (by omega)
end
section
variable {X : Cx}
def rAppend : V → List V → Hp → VK → Prop := fun x vs H Q => ∃ l xs y, x = .ref l ∧ vs = [y] ∧ H l = some (.lst xs) ∧ xs.length < sizeLine ∧ Q .non (upd H l (.lst (xs ++ [y])))
theorem mt_append : MtM X "list.append" rAppend := by
  intro pins s σ H x vs v us Q I rx rv h
  obtain ⟨l, xs, y, rfl, rfl, hH, hz, q⟩ := h
  cases rx
  obtain ⟨u, rfl, ru⟩ := rv.one
  obtain ⟨z, its, n, r, hl, e⟩ := I.lstM hH
  refine call_meets F.slot_list_append ⟨_, e, rfl⟩ F.entry_list_append (F.args_list_append_2 _ _) (PySem.list_append l its.toArray n u (by rw [List.size_toArray]; omega)) ⟨e, ?_⟩
  refine ⟨.non, _, I.lset (its' := its ++ [u]) hH e (by simp) (r.append (.cons ru .nil)) ?_, rfl, q⟩
  rw [List.length_append, List.length_singleton]
  omega
def rExtend : V → List V → Hp → VK → Prop := fun x vs H Q => ∃ l b xs zs, x = .ref l ∧ vs = [.ref b] ∧ H l = some (.lst xs) ∧ H b = some (.lst zs) ∧ xs.length + zs.length ≤ sizeLine ∧ Q .non (upd H l (.lst (xs ++ zs)))
theorem mt_extend : MtM X "list.extend" rExtend := by
  intro pins s σ H x vs v us Q I rx rv h
  obtain ⟨l, b, xs, zs, rfl, rfl, hH, hB, hz, q⟩ := h
  cases rx
  obtain ⟨u, rfl, ru⟩ := rv.one
  cases ru
  obtain ⟨z, its, n, r, hl, e⟩ := I.lstM hH
  obtain ⟨z2, its2, n2, r2, hl2, e2⟩ := I.lstM hB
  have hsz : its.toArray.size + its2.toArray.size ≤ sizeLine := by rw [List.size_toArray, List.size_toArray]; omega
  have hlong : ¬ (!its.toArray.isEmpty && Builtin.List.listTooLong (its.toArray.size + its2.toArray.size)) = true := by
    rw [notLongL hsz, Bool.and_false]
    exact Bool.false_ne_true
  refine call_meets F.slot_list_extend ⟨_, e, rfl⟩ F.entry_list_extend (F.args_list_extend_2 _ _)
    (AutoSeq1.list_extend_list_list_0 l its.toArray n b its2.toArray n2 hlong (by rw [List.size_toArray]; omega) (by omega)) ⟨e, e2, ?_⟩
  refine ⟨.non, _, I.lset (its' := its ++ its2) hH e (by simp) (r.append r2) ?_, rfl, q⟩
  rw [List.length_append]
  omega
def rPop : V → List V → Hp → VK → Prop := fun x vs H Q => ∃ l xs y, x = .ref l ∧ vs = [] ∧ H l = some (.lst xs) ∧ xs[xs.length - 1]? = some y ∧ Q y (upd H l (.lst xs.dropLast))
theorem mt_pop : MtM X "list.pop" rPop := by
  intro pins s σ H x vs v us Q I rx rv h
  obtain ⟨l, xs, y, rfl, rfl, hH, hy, q⟩ := h
  cases rx
  have hus := rv.zero
  subst hus
  obtain ⟨z, its, n, r, hl, e⟩ := I.lstM hH
  obtain ⟨u, hu, ru⟩ := r.get hy
  have hy' : its.toArray[its.toArray.size - 1]? = some u := by
    show its.toArray[its.length - 1]? = some u
    rw [← Array.getElem?_toList, ← hl]
    exact hu
  refine call_meets F.slot_list_pop ⟨_, e, rfl⟩ F.entry_list_pop (F.args_list_pop_1 _) (MeetsSeq.list_pop_last l its.toArray n u hy' (by rw [List.size_toArray]; omega)) ⟨e, ?_⟩
  refine ⟨y, _, I.lset (its' := its.dropLast) hH e ?_ r.dropLast ?_, ru, q⟩
  · show its.toArray.eraseIdxIfInBounds (its.toArray.size - 1) = its.dropLast.toArray
    rw [List.size_toArray, List.eraseIdxIfInBounds_toArray, erase_last]
  · rw [List.length_dropLast]
    omega
def rPopAt : V → List V → Hp → VK → Prop := fun x vs H Q => ∃ l xs i k y, x = .ref l ∧ vs = [.int i] ∧ H l = some (.lst xs) ∧ -(2 ^ 63) ≤ i ∧ i < 2 ^ 63 ∧ seqIndex? i xs.length = some k ∧ xs[k]? = some y ∧ Q y (upd H l (.lst (xs.eraseIdx k)))
theorem mt_popAt : MtM X "list.pop" rPopAt := by
  intro pins s σ H x vs v us Q I rx rv h
  obtain ⟨l, xs, i, k, y, rfl, rfl, hH, h1, h2, hk, hy, q⟩ := h
  cases rx
  obtain ⟨u, rfl, ru⟩ := rv.one
  obtain ⟨t, rfl⟩ := ru
  obtain ⟨z, its, n, r, hl, e⟩ := I.lstM hH
  obtain ⟨w, hw, rw'⟩ := r.get hy
  refine call_meets F.slot_list_pop ⟨_, e, rfl⟩ F.entry_list_pop (F.args_list_pop_2 _ _)
    (MeetsSeq.list_pop_at l its.toArray n i t k w (fitsIndex_both h1 h2) (by rw [List.size_toArray, ← hl]; exact hk) (by rw [← Array.getElem?_toList]; exact hw) (by rw [List.size_toArray]; omega)) ⟨e, ?_⟩
  refine ⟨y, _, I.lset (its' := its.eraseIdx k) hH e ?_ (r.eraseIdx k) ?_, rw', q⟩
  · show its.toArray.eraseIdxIfInBounds k = (its.eraseIdx k).toArray
    rw [List.eraseIdxIfInBounds_toArray]
  · have := len_erase xs k
    omega
def rClear : V → List V → Hp → VK → Prop := fun x vs H Q => ∃ l xs, x = .ref l ∧ vs = [] ∧ H l = some (.lst xs) ∧ Q .non (upd H l (.lst []))
theorem mt_clear : MtM X "list.clear" rClear := by
  intro pins s σ H x vs v us Q I rx rv h
  obtain ⟨l, xs, rfl, rfl, hH, q⟩ := h
  cases rx
  have hus := rv.zero
  subst hus
  obtain ⟨z, its, n, r, hl, e⟩ := I.lstM hH
  refine call_meets F.slot_list_clear ⟨_, e, rfl⟩ F.entry_list_clear (F.args_list_clear_1 _) (AutoSeq1.list_clear_list_0 l its.toArray n (by rw [List.size_toArray]; omega)) ⟨e, ?_⟩
  exact ⟨.non, _, I.lset (its' := []) (ys := []) hH e rfl .nil (Nat.zero_le _), rfl, q⟩
def rCat : R2 := fun x y H Q => ∃ l b xs zs, x = .ref l ∧ y = .ref b ∧ H l = some (.lst xs) ∧ H b = some (.lst zs) ∧ xs.length + zs.length ≤ sizeLine ∧ ∀ p, H p = none → Q (.ref p) (upd H p (.lst (xs ++ zs)))
theorem op_cat : OpR X (binaryOp .Add) rCat := by
  intro pins s σ H x y v u Q I rx ry h
  obtain ⟨l, b, xs, zs, rfl, rfl, hH, hB, hz, q⟩ := h
  cases rx
  cases ry
  obtain ⟨z, its, n, r, hl, e⟩ := I.lstM hH
  obtain ⟨z2, its2, n2, r2, hl2, e2⟩ := I.lstM hB
  refine PySem.P.add_list e e2 ?_ (by rw [List.size_toArray, List.size_toArray]; omega)
  have ea : its.toArray ++ its2.toArray = (its ++ its2).toArray := by simp
  rw [ea]
  exact ⟨.ref _, _, I.lnew (t' := s.toks) (r.append r2) (by rw [List.length_append]; omega), rfl, q _ I.fresh⟩
def rRep : R2 := fun x y H Q => ∃ l k xs, x = .ref l ∧ y = .int k ∧ H l = some (.lst xs) ∧ -(2 ^ 63) ≤ k ∧ k < 2 ^ 63 ∧ xs.length * k.toNat ≤ sizeLine ∧
  ∀ p, H p = none → Q (.ref p) (upd H p (.lst (List.replicate k.toNat xs).flatten))
theorem len_rep {α : Type} (xs : List α) (k : Nat) : (List.replicate k xs).flatten.length = k * xs.length := by
  induction k with
  | zero => simp
  | succ k ih => rw [List.replicate_succ, List.flatten_cons, List.length_append, ih, Nat.succ_mul, Nat.add_comm]
theorem op_rep : OpR X (binaryOp .Mult) rRep := by
  intro pins s σ H x y v u Q I rx ry h
  obtain ⟨l, k, xs, rfl, rfl, hH, h1, h2, hz, q⟩ := h
  cases rx
  obtain ⟨t, rfl⟩ := ry
  obtain ⟨z, its, n, r, hl, e⟩ := I.lstM hH
  have hlen : its.toArray.size * k.toNat ≤ sizeLine := by rw [List.size_toArray, ← hl]; exact hz
  have hcap : ¬ its.toArray.size * k.toNat > (2 ^ 63 - 1) / 8 := by
    have : (sizeLine : Nat) ≤ (2 ^ 63 - 1) / 8 := by decide
    omega
  have hfit : ¬ (!Builtin.List.listFitsIndex k) = true := by
    rw [fitsIndex_both h1 h2]
    exact Bool.false_ne_true
  have hlong : ¬ Builtin.List.listTooLong (its.toArray.size * k.toNat) = true := by
    rw [notLongL hlen]
    exact Bool.false_ne_true
  have hnew : List.foldl (fun x1 x2 => x1 ++ x2) #[] (List.replicate (if its.toArray.isEmpty = true then 0 else k.toNat) its.toArray) = (List.replicate k.toNat its).flatten.toArray := by
    have f0 : ∀ m : Nat, List.foldl (fun x1 x2 => x1 ++ x2) #[] (List.replicate m its.toArray) = (List.replicate m its).flatten.toArray := fun m => by
      have := foldl_rep its m []
      rw [List.nil_append] at this
      exact this
    rw [f0]
    cases its with
    | nil => simp
    | cons a r' => rw [if_neg (by simp)]
  refine wpAny_binaryOp_repeat_ref (T := "list") (U := "int") (by decide) ⟨_, e, rfl⟩ (fun s' => typeIs_int s' k t) noFill_list_mul F.fills_int_mul F.slot_int_rmul repeat_list F.slot_int_index.lookup
    (call_meets F.slot_int_rmul (typeIs_int s k t) F.entry_int_rmul (F.args_int_rmul_2 _ _) (int___rmul___int_list k t l its.toArray n)
      ⟨e, rfl, ⟨_, e, rfl⟩, call_meets F.slot_list_mul ⟨_, e, rfl⟩ F.entry_list_mul (F.args_list_mul_2 _ _) (AutoListH.list___mul___list_int_3 l its.toArray n k t hfit hcap hlong) ⟨e, ?_⟩⟩)
  rw [hnew]
  exact ⟨.ref _, _, I.lnew (t' := s.toks) (r.rep k.toNat) (by rw [len_rep, Nat.mul_comm]; exact hz), rfl, q _ I.fresh⟩
end
section
variable {prog : Program} {w : World} {A : Around} {E : Value → Shared → Prop} {s : Shared}
end
section
variable {X : Cx}
end
end L2
namespace Att
open PySem PySem.W PySem.Calls PyProof.Rows
theorem ints_of_wellAll {P : Params} {h : Heap} : ∀ (ns : List Int) (vs : List Value), WellAll P h vs (ns.map WData.int) → IntsAre vs ns := by
  intro ns
  induction ns with
  | nil =>
    intro vs w
    rw [List.map_nil] at w
    cases w
    exact .nil
  | cons n ns ih =>
    intro vs w
    rw [List.map_cons] at w
    cases w with
    | cons a b =>
      cases a
      exact .cons _ _ (ih _ b)
theorem script_of {l : OpenLaw} {n : Nat} (hn : l.most = some n) {P : Params} {h : Heap} {args : List WData} {vals : List Value}
    (hpre : l.row.toRowW.claim.pre args = true) (hwl : WellAll P h vals args) :
    ∃ a vs ns, vals = [Value.ref a] ∧ args = [WData.list (ns.map WData.int)] ∧ h.get? a = some { cls := .type "list", data := .seq vs.toArray } ∧ IntsAre vs ns ∧ ns.length ≤ n := by
  have hsh : WShape.hasAll [] args [.list .int] = true := (pre_splitW hpre).1
  have hc : l.pre.holds [] { args := args } = true := (pre_splitW hpre).2
  obtain ⟨d, r, rfl, h1, h2⟩ := hasAllW_cons hsh
  obtain rfl := hasAllW_nil h2
  obtain ⟨xs, rfl, h3⟩ := hasW_list h1
  obtain ⟨ns, rfl⟩ := items_int h3
  have hlen : ns.length ≤ n := by
    unfold OpenLaw.pre at hc
    have h4 : (WTm.not (.lt (.lit (.int (n : Int))) (.len (.arg 0)))).holds [] { args := [.list (ns.map .int)] } = true := by
      have h4 := (holds_andW hc).1
      rw [hn] at h4
      exact h4
    have h5 := condW_of h4 (w_not (w_lt w_lit (w_len_list (w_arg rfl))))
    rw [List.length_map] at h5
    refine Nat.le_of_not_lt fun q => ?_
    have q' : (n : Int) < ((ns.length : Nat) : Int) := by omega
    first
      | (rw [decide_eq_true q'] at h5; exact absurd h5 (by decide))
      | (simp at h5; omega)
  cases hwl with
  | cons w1 w2 =>
    cases w2
    cases w1 with
    | list ho hall => exact ⟨_, _, ns, rfl, rfl, ho, ints_of_wellAll ns _ hall, hlen⟩
theorem post_true (l : OpenLaw) (args : List WData) : l.row.toRowW.claim.post args (.bool true) args = true :=
  postW_of (r := l.row.toRowW) (X := (true == true))
    (show WShape.has [] (.bool true) .bool = true by first | rfl | decide | simp [WShape.has, WShape.arms, WShape.armsAll])
    (show (WTm.eq .res (.lit (.bool true))).value [] { args := args, res := some (.bool true), after := args } = some (.bool (true == true)) from w_eq_bool (w_res rfl) w_lit) rfl
theorem attach_call {l : OpenLaw} {n : Nat} {q : Program} {loose : List Str} {XP : (Str → Option Value) → Heap → Prop} {YP : World → Heap → Prop} {d : DefRec}
    (hn : l.most = some n) (hdf : d.params.defaults = [])
    (call : ∀ (w : World) (s₀ s₁ : Shared) (mg mb : Str → Option Value) (fa : Addr) (o : Obj) (pm cd doc : Value) (a : Addr) (vs : List Value) (ns : List Int),
      Ground q loose [] XP w s₀ mg mb s₁.heap → YP w s₁.heap →
      s₁.heap.get? fa = some o → o.data = .func (docDef d.name d.params d.body d.scope pm cd doc) → s₁.heap.CodeRec cd d.name → mg d.name = some (.ref fa) →
      s₁.heap.get? a = some { cls := .type "list", data := .seq vs.toArray } → IntsAre vs ns → ns.length ≤ n → s₁.gens = #[] →
      codeAny (model l.prog w) callerA (.call (.ref fa) ⟨[.ref a], []⟩) (fun r s' => r = .ok (.ret (.bool true)) ∧ OldK s₁.heap s'.heap ∧ s'.os = s₁.os ∧ AllBare s'.gens) s₁) :
    WalkO q loose XP YP l.row.toRowW d [] (fun f vs => PySem.call f vs) := by
  intro w s₀ s₁ mg mb G Y fa o pm cd doc dV kV ho hd hcd hD hmg hg args vals as hpre hlay hrd hwl hlo
  obtain rfl : dV = .none := Dflts.none hD hdf
  obtain rfl : kV = .none := Dflts.noKw hD
  obtain ⟨a, vs, ns, rfl, rfl, hobj, hints, hlen⟩ := script_of hn hpre hwl
  refine enter_call (codeAny_mono (call w s₀ s₁ mg mb fa o pm cd doc a vs ns G Y ho (fd_plain hd) hcd hmg hobj hints hlen hg) fun r s' hq => ?_)
  obtain ⟨rfl, h2, h3, h4⟩ := hq
  exact ⟨.inl ⟨.bool true, .bool true, [], rfl, fun _ => rfl, .bool true, post_true l _, fun _ => ⟨List.Pairwise.nil, fun _ hm => (nomatch hm)⟩⟩, h2, h3, h4⟩
section
variable {prog : Program} {w : World} {A : Around} {E : Value → Shared → Prop} {s : Shared} {K : Frag}
def ledger (h : Heap) (L d : Addr) : List (Addr × Obj) := (List.range h.objs.size).filterMap fun a => if a = L ∨ a = d then none else (h.get? a).map fun o => (a, o)
end
end Att
namespace L2
open PySem PySem.Spec PyProof.Rows
theorem vals_ints : ∀ {vs : List Value} {ns : List Int}, IntsAre vs ns → Vals (ns.map V.int) vs
  | _, _, .nil => .nil
  | _, _, .cons n t h => .cons ⟨t, rfl⟩ (vals_ints h)
def Only (H : Hp) : Prop := ∀ b, H b = none ∨ ∃ o xs, H b = some (.frz o (.lst xs))
theorem law_call {P : Program} {w : World} {K : PySem.W.Frag} {mg mb : Str → Option Value} {CX : CXT} {k : Nat} {fa a : Addr} {fd : FuncData} {x : Str} {sp : Sp} {s₁ : Shared} {vs : List Value} {ns : List Int}
    (KX : K.In s₁.heap) (hns : s₁.heap.Ns mainGlobals mg) (hb : s₁.heap.Ns builtinsNs mb) (hbb : ∀ x : Str, x ≠ "__name__" → mb x = bootBuiltins x) (hlim : s₁.heap.NoLimit) (hg : s₁.gens = #[])
    (ha : s₁.heap.get? a = some { cls := .type "list", data := .seq vs.toArray }) (hi : IntsAre vs ns) (hl : ns.length ≤ sizeLine) (hr : Room k callerA)
    (F : ∀ base : Heap, K.In base → base.Ns mainGlobals mg → FnOk P w K mg base CX k fa fd [x] sp) (hbind : ∀ (s : Shared) (u : Value), BindsTo s fd ⟨[u], []⟩ [(x, u)])
    (hsp : ∀ H : Hp, Only H → SqL K H a (ns.map V.int) → sp [.ref a] H (fun v _ => v = .bl true) fun _ _ _ => False)
    (hCX : ∀ H e s', CX [] H s₁ (fun _ _ _ => False) e s' → False) :
    codeAny (model P w) callerA (.call (.ref fa) ⟨[.ref a], []⟩) (fun r s' => r = .ok (.ret (.bool true)) ∧ OldK s₁.heap s'.heap ∧ s'.os = s₁.os ∧ AllBare s'.gens) s₁ := by
  have rv := vals_ints hi
  have lenV := hi.length
  have core : ∀ H : Hp, Only H → SqL K H a (ns.map V.int) → HOk P w H s₁.heap → (∀ b, H b ≠ none → b = a) → (H a ≠ none → K.lookup a = none) →
      codeAny (model P w) callerA (.call (.ref fa) ⟨[.ref a], []⟩) (fun r s' => r = .ok (.ret (.bool true)) ∧ OldK s₁.heap s'.heap ∧ s'.os = s₁.os ∧ AllBare s'.gens) s₁ := by
    intro H hO hS hok hA hK
    have base_of : ∀ {b : Addr} {o : Obj}, s₁.heap.get? b = some o → H b = none → (hidT s₁.heap H).get? b = some o := fun e n => hidT_get e n
    have noA : ∀ {b : Addr} {o : Obj} {es : Array DictEntry} {ep : Nat}, s₁.heap.get? b = some o → o.data = .dict es ep → H b = none := fun {b o es ep} e d => by
      cases q : H b with
      | none => rfl
      | some u =>
        have e' : b = a := hA b (by rw [q]; simp)
        subst e'
        rw [ha] at e; cases e
        have d' : Data.seq vs.toArray _ = Data.dict es ep := d
        cases d'
    have nsK : ∀ {b : Addr} {m : Str → Option Value}, s₁.heap.Ns b m → (hidT s₁.heap H).Ns b m := fun {b m} ⟨o, es, ep, e, d, r⟩ => ⟨o, es, ep, base_of e (noA e d), d, r⟩
    have hKb : K.In (hidT s₁.heap H) := fun b o e => base_of (KX b o e) (by
      cases q : H b with
      | none => rfl
      | some u =>
        have e' : b = a := hA b (by rw [q]; simp)
        subst e'
        rw [hK (by rw [q]; simp)] at e; cases e)
    have hM : Mod K mg (hidT s₁.heap H) := ⟨hKb, nsK hns, ⟨mb, nsK hb, hbb⟩, let ⟨mc, h1, h2⟩ := hlim; ⟨mc, nsK h1, h2⟩⟩
    have e0 : Env0 P w K mg (hidT s₁.heap H) callerA [] s₁ H := ⟨rfl, hM, fun b o e => of_hidT e, Nat.le_of_eq (hidT_size _ _), trivial, fun b hb => absurd (show b ∈ ([] : List Addr) from hb) (by simp), hok, .of_eq hg⟩
    refine codeAny_mono ((F _ hKb (nsK hns)).run callerA [] s₁ H ⟨[.ref a], []⟩ [.ref a] [.ref a] _ _ hr e0 (hbind s₁ (.ref a)) (.cons rfl .nil) (hsp H hO hS)) fun r s' h => ?_
    cases r with
    | error e => exact (hCX H e s' h).elim
    | ok fl =>
      cases fl with
      | next => exact False.elim h
      | brk => exact False.elim h
      | cont => exact False.elim h
      | ret u =>
        obtain ⟨v, H', os, bare, un, hok', r', q⟩ := h
        have q' : v = .bl true := q
        subst q'
        obtain rfl : u = Value.bool true := r'
        refine ⟨rfl, OldK.of_keep fun b o e => ?_, os, bare⟩
        cases q : H b with
        | none => exact un.keep b o e q (by intro z; exact absurd (show b ∈ ([] : List Addr) from z) (by simp)) (by simp)
        | some u =>
          rcases hO b with z | ⟨ob, xs, z⟩
          · rw [q] at z; cases z
          · have z2 := un.frzs b ob _ z
            obtain ⟨e1, _⟩ := hok b _ z
            obtain ⟨e2, _⟩ := hok' b _ z2
            rw [e] at e1; cases e1
            exact e2
  cases hk : K.lookup a with
  | some o =>
    have e := KX a o hk
    rw [ha] at e
    cases e
    refine core (fun _ => none) (fun _ => .inl rfl) (.inr ⟨_, vs.toArray, _, hk, rfl, rfl, rfl, by rw [List.size_toArray, lenV]; exact hl, by simpa using rv⟩) (fun b u z => by have z' : (none : Option HO) = some u := z; cases z') (fun b z => absurd rfl z) fun z => absurd rfl z
  | none =>
    refine core (fun b => if b = a then some (.frz { cls := .type "list", data := .seq vs.toArray } (.lst (ns.map V.int))) else none) (fun b => ?_) (.inl (.inr ⟨{ cls := .type "list", data := .seq vs.toArray }, if_pos rfl⟩)) (fun b u z => ?_) (fun b z => ?_) fun _ => hk
    · by_cases hb : b = a
      · exact .inr ⟨_, _, if_pos hb⟩
      · exact .inl (if_neg hb)
    · by_cases hb : b = a
      · have z' := (if_pos hb).symm.trans z
        cases z'
        subst hb
        exact ⟨ha, by rw [List.length_map]; exact hl, vs, _, rv, ha⟩
      · have z' := (if_neg hb).symm.trans z
        cases z'
    · by_cases hb : b = a
      · exact hb
      · exact absurd (if_neg hb) z
end L2
namespace L2
open PySem PySem.Spec PyProof.Rows
theorem walk_of {l : PySem.W.OpenLaw} {n k : Nat} {q : Program} {loose : List Str} {XP : (Str → Option Value) → Heap → Prop} {YP : World → Heap → Prop} {d : DefRec} {K : Params → PySem.W.Frag} {CX : World → CXT} {sp : World → Sp} {x : Str}
    (hn : l.most = some n) (hn2 : n ≤ sizeLine) (hdf : d.params.defaults = []) (hr : Room k callerA)
    (hY : ∀ (w : World) (h : Heap), YP w h → (K w.params).In h)
    (F : ∀ (w : World) (mg : Str → Option Value) (fa : Addr) (h : Heap), (K w.params).In h → h.Ns mainGlobals mg → mg d.name = some (.ref fa) →
      ∃ fd : FuncData, (∀ (s : Shared) (u : Value), BindsTo s fd ⟨[u], []⟩ [(x, u)]) ∧
        ∀ base : Heap, (K w.params).In base → base.Ns mainGlobals mg → FnOk l.prog w (K w.params) mg base (CX w) k fa fd [x] (sp w))
    (hsp : ∀ (w : World) (H : Hp) (a : Addr) (ns : List Int), ns.length ≤ n → Only H → SqL (K w.params) H a (ns.map V.int) → sp w [.ref a] H (fun v _ => v = .bl true) fun _ _ _ => False)
    (hCX : ∀ (w : World) (H : Hp) (s : Shared) (e : Value) (s' : Shared), CX w [] H s (fun _ _ _ => False) e s' → False) :
    PySem.W.WalkO q loose XP YP l.row.toRowW d [] (fun f vs => PySem.call f vs) := by
  refine Att.attach_call hn hdf fun w s₀ s₁ mg mb fa o pm cd doc a vs ns G Y ho hd hcd hmg hobj hints hlen hg => ?_
  have KX := hY w _ Y
  obtain ⟨fd, hb, hF⟩ := F w mg fa _ KX G.T.g hmg
  exact law_call KX G.T.g G.T.b G.T.builtins G.T.nolimit hg hobj hints (Nat.le_trans hlen hn2) hr hF hb (fun H hO hS => hsp w H a ns hlen hO hS) fun H e s' => hCX w H s₁ e s'
end L2
/- THE LAST THEOREM (shape; LID, My.* are yours):
   My.Adr: a structure of the addresses that your layer names (classes, functions); My.Txt K t: a structure (Prop) of the equations over K;
   My.txt_mk : {K} {implicit addresses ..} (e1 : nsIn K mainGlobals "law" = some (some (.ref f))) (e2 : K.lookup f = some ⟨oc, od, .func (fnOf "law" "law" params body scope dV kV doc pm an cdv ct), sl⟩) (e3 : codeIn K cdv "law" = true) .. : ∃ t, My.Txt K t
set_option maxRecDepth 100000 in
set_option maxHeartbeats 0 in
theorem PySem.Challenge.cw_LID_holds : PySem.Challenge.rw_LID.Holds := by
  w_on; o_law; k_head; (case hw => w_witness2)
  k_fill
  refine L2.walk_of (l := PySem.Challenge.rw_LID) (n := 63) (k := 40) (x := "script") (CX := fun w => ..) (sp := fun _ => My.sp_law) rfl (by decide) rfl ⟨rfl, by decide, by decide⟩ (fun w h Y => PySem.W.kIn_of Y) ?F ?S ?C
  case F =>
    intro w mg fa h KX G hmg
    have T : ∃ t, My.Txt (L2.KOf KX) t := by
      dsimp only [L2.KOf]                          -- K must stand as «<heap const> w.params» for k_is
      refine' My.txt_mk ?e1 ?e2 ?e3 ..
      (case e1 => PySem.W.k_is)                    -- in the order: a name -> its address -> its object -> its parts
      (case e2 => PySem.W.k_is)
      ..
    obtain ⟨t, T⟩ := T
    have e0 := hmg.symm.trans (PySem.W.mg_of KX G T.law)
    cases e0                                       -- fa is the law's own address
    exact ⟨_, fun s u => .of_eq rfl, fun base kb nb => My.law_fn T kb nb⟩     -- if «.of_eq rfl» comes too early: refine' ⟨_, ?b, fun base kb nb => My.law_fn T kb nb⟩; exact fun s u => .of_eq rfl
  case S => exact fun w H a ns hl hO hS => ..
  case C => exact ..
(the tactic k_is has no namespace: write k_is) -/
namespace L2
open PySem PySem.Spec PyProof.Rows
def defArgs (s : Stmt) : Arguments := match s with
  | .FunctionDef _ a _ _ _ _ _ _ _ _ => a
  | _ => { posonlyargs := [], args := [], vararg := none, kwonlyargs := [], kw_defaults := [], kwarg := none, defaults := [] }
def defBody (s : Stmt) : List Stmt := match s with
  | .FunctionDef _ _ b _ _ _ _ _ _ _ => b
  | _ => []
def defScope (s : Stmt) : Scope := match s with
  | .FunctionDef _ _ _ _ _ _ sc _ _ _ => sc
  | _ => { kind := .function, names := [], isGenerator := false, isCoroutine := false }
abbrev CX0 : CXT := fun _ _ _ _ _ _ => False
abbrev E0 : XK := fun _ _ _ => False
theorem pass0 {X : Cx} : Passes CX0 X E0 := fun _ _ _ _ _ _ _ h => h.elim
structure Fun (K : PySem.W.Frag) (x qual : Str) (st : Stmt) (f : Addr) (fd : FuncData) : Prop where
  ex : ∃ (oc : Value) (od : Option Addr) (kV doc pm : Value) (an : Option Addr) (cdv ct : Value) (osl : Array (Option Value)),
    fd = PySem.W.fnOf x qual (defArgs st) (defBody st) (defScope st) .none kV doc pm an cdv ct ∧ K.lookup f = some ⟨oc, od, .func fd, osl⟩ ∧ PySem.W.codeIn K cdv qual = true
  kp : PySem.W.keepIn K (.ref f) = true
section
variable {P : Program} {w : World} {K : PySem.W.Frag} {mg : Str → Option Value} {base : Heap}
theorem Fun.ok {x qual : Str} {st : Stmt} {f : Addr} {fd : FuncData} {N ps : List Str} {k : Nat} {sp : Sp} (F : Fun K x qual st f fd) (S : FnScope N ps (defScope st)) (len : ∀ vs H Q E, sp vs H Q E → vs.length = ps.length)
    (hbody : ∀ (cdv : Value) (A : Around) (outer : List Env) (s : Shared) (H : Hp) (vs : List V) (Q : VK) (E : XK), Room k (A.deeper (envOfC qual (defScope st) s.heap.objs.size f cdv)) → sp vs H Q E →
      ∃ t, PSs (cxOf CX0 P w K mg base N qual (defScope st) f cdv A outer s H E).nox (defBody st) t ∧ t { nx := fun _ H' => Q .non H', rt := Q } (start N vs) H) : FnOk P w K mg base CX0 (k + 1) f fd ps sp := by
  obtain ⟨oc, od, kV, doc, pm, an, cdv, ct, osl, rfl, lk, hcd⟩ := F.ex
  refine fn_of lk hcd S len fun A outer s H vs Q E hr hsp => ?_
  obtain ⟨t, h, q⟩ := hbody cdv A outer s H vs Q E hr hsp
  exact ⟨t, h.nox, q⟩
theorem Fun.binds {x qual : Str} {st : Stmt} {f : Addr} {fd : FuncData} {ps : List Str} (F : Fun K x qual st f fd)
    (h : ∀ (kV doc pm : Value) (an : Option Addr) (cdv ct : Value) (us : List Value), us.length = ps.length → bindArgs (PySem.W.fnOf x qual (defArgs st) (defBody st) (defScope st) .none kV doc pm an cdv ct) ⟨us, []⟩ = pure (ps.zip us)) : Binds K fd ps [] := by
  obtain ⟨oc, od, kV, doc, pm, an, cdv, ct, osl, rfl, lk, hcd⟩ := F.ex
  exact .all (h kV doc pm an cdv ct)
theorem fun_mk {x qual : Str} {st : Stmt} {f : Addr} {oc : Value} {od an : Option Addr} {osl : Array (Option Value)} {kV doc pm cdv ct : Value} (l : K.lookup f = some ⟨oc, od, .func (PySem.W.fnOf x qual (defArgs st) (defBody st) (defScope st) .none kV doc pm an cdv ct), osl⟩)
    (c : PySem.W.codeIn K cdv qual = true) (k : PySem.W.keepIn K (.ref f) = true) : Fun K x qual st f (PySem.W.fnOf x qual (defArgs st) (defBody st) (defScope st) .none kV doc pm an cdv ct) := ⟨⟨oc, od, kV, doc, pm, an, cdv, ct, osl, rfl, l, c⟩, k⟩
end
theorem hu_of {A : Around} {k : Nat} (hr : Room k A) : A.units + 1 < cLine := Nat.lt_of_le_of_lt (Nat.add_le_add_left (by decide : 1 ≤ 64) _) hr.units
theorem small1000 {n : Nat} (h : n ≤ 1000) : n < sizeLine := Nat.lt_of_le_of_lt h (by decide)
section
variable {X : Cx}
theorem pv (i : Nat) {x : Str} {pos : Pos} (hN : X.N[i]? = some x := by rfl) (hv : Vis X.env.scope x := by first | exact Or.inl rfl | exact Or.inr (Or.inl rfl) | exact Or.inr (Or.inr rfl)) (hd : (x == ("__debug__" : Str)) = false := by decide)
    (hcd : (x == ("__classdict__" : Str)) = false := by decide) : PE X (.Name x pos) (tVar i) := pe_var hN hv hd hcd
end
def Same (H H' : Hp) : Prop := ∀ b o, H b = some o → H' b = some o
theorem Same.refl (H : Hp) : Same H H := fun _ _ h => h
theorem Same.trans {H H1 H2 : Hp} (a : Same H H1) (b : Same H1 H2) : Same H H2 := fun c o h => b c o (a c o h)
theorem Same.free {H H' : Hp} (e : Same H H') {l : Addr} (h : H' l = Option.none) : H l = Option.none := by
  cases q : H l with
  | none => rfl
  | some o =>
    rw [e l o q] at h
    cases h
end L2
set_option linter.all false
set_option maxRecDepth 100000
namespace L2
open PySem PySem.Spec PyProof.Rows
section
variable {κ : Type} [DecidableEq κ]
def valV (kvs : List (κ × V)) (k : κ) : Option V := (kvs.find? fun kv => decide (kv.1 = k)).map (·.2)
def putK (kvs : List (κ × V)) (k : κ) (v : V) : List (κ × V) :=
  if (kvs.any fun kv => decide (kv.1 = k)) = true then kvs.map (fun kv => if kv.1 = k then (kv.1, v) else kv) else kvs ++ [(k, v)]
theorem valV_pos {p : κ × V} {r : List (κ × V)} {k : κ} (e : p.1 = k) : valV (p :: r) k = some p.2 := by simp [valV, List.find?_cons, e]
theorem valV_neg {p : κ × V} {r : List (κ × V)} {k : κ} (e : ¬ p.1 = k) : valV (p :: r) k = valV r k := by simp [valV, List.find?_cons, e]
theorem valV_any (k : κ) : ∀ kvs : List (κ × V), (kvs.any fun kv => decide (kv.1 = k)) = (valV kvs k).isSome
  | [] => rfl
  | p :: r => by
    rw [List.any_cons]
    by_cases e : p.1 = k
    · simp only [valV_pos e, decide_eq_true e, Bool.true_or, Option.isSome_some]
    · rw [valV_neg e, decide_eq_false e, Bool.false_or]; exact valV_any k r
theorem valV_map (k j : κ) (y : V) : ∀ kvs : List (κ × V), valV (kvs.map fun kv => if kv.1 = k then (kv.1, y) else kv) j = (valV kvs j).map fun x => if j = k then y else x
  | [] => rfl
  | p :: r => by
    have ih := valV_map k j y r
    rw [List.map_cons]
    by_cases h : p.1 = k
    · rw [if_pos h]
      by_cases e : p.1 = j
      · rw [valV_pos (p := (p.1, y)) e, valV_pos e, Option.map_some, if_pos (e.symm.trans h)]
      · rw [valV_neg (p := (p.1, y)) e, valV_neg e, ih]
    · rw [if_neg h]
      by_cases e : p.1 = j
      · rw [valV_pos (p := p) e, valV_pos e, Option.map_some, if_neg (fun z => h (e.trans z))]
      · rw [valV_neg (p := p) e, valV_neg e, ih]
theorem valV_snoc (k j : κ) (y : V) : ∀ kvs : List (κ × V), valV kvs k = none → valV (kvs ++ [(k, y)]) j = if j = k then some y else valV kvs j
  | [], _ => by
    by_cases e : k = j
    · rw [if_pos e.symm]; exact valV_pos (p := (k, y)) e
    · rw [if_neg (fun z => e z.symm)]; exact valV_neg (p := (k, y)) e
  | p :: r, hn => by
    rw [List.cons_append]
    have hk : ¬ p.1 = k := fun z => by rw [valV_pos z] at hn; cases hn
    rw [valV_neg hk] at hn
    have ih := valV_snoc k j y r hn
    by_cases e : p.1 = j
    · rw [valV_pos e, valV_pos e, if_neg (fun z => hk (e.trans z))]
    · rw [valV_neg e, valV_neg e, ih]
theorem valV_put (kvs : List (κ × V)) (k j : κ) (y : V) : valV (putK kvs k y) j = if j = k then some y else valV kvs j := by
  unfold putK
  by_cases a : (kvs.any fun kv => decide (kv.1 = k)) = true
  · rw [if_pos a, valV_map]
    rw [valV_any] at a
    by_cases e : j = k
    · obtain ⟨x, hx⟩ := Option.isSome_iff_exists.mp a
      rw [if_pos e, e, hx, Option.map_some, if_pos rfl]
    · rw [if_neg e]
      cases valV kvs j with
      | none => rfl
      | some x => rw [Option.map_some, if_neg e]
  · rw [if_neg a]
    refine valV_snoc k j y kvs ?_
    rw [valV_any] at a
    cases q : valV kvs k with
    | none => rfl
    | some x => rw [q] at a; exact (a rfl).elim
theorem length_putK (kvs : List (κ × V)) (k : κ) (v : V) : (putK kvs k v).length ≤ kvs.length + 1 := by
  unfold putK
  split
  · rw [List.length_map]; omega
  · rw [List.length_append, List.length_cons, List.length_nil]; omega
theorem RelO.isSome_eq {o : Option V} {u : Option Value} (r : RelO o u) : o.isSome = u.isSome := by
  cases o with
  | none => cases u with
    | none => rfl
    | some _ => exact (show False from r).elim
  | some _ => cases u with
    | none => exact (show False from r).elim
    | some _ => rfl
theorem KV.val {kvs : List (κ × V)} {vs : List (κ × Value)} (r : KV kvs vs) (k : κ) : RelO (valV kvs k) (valueAt vs k) := by
  unfold KV at r
  induction r with
  | nil => exact True.intro
  | @cons p q ps qs h t ih =>
    obtain ⟨h1, h2⟩ := h
    by_cases e : p.1 = k
    · have e' : q.1 = k := h1.symm.trans e
      have b : valueAt (q :: qs) k = some q.2 := by simp [valueAt, List.find?_cons, e']
      rw [valV_pos e, b]; exact h2
    · have e' : ¬ q.1 = k := fun z => e (h1.trans z)
      have b : valueAt (q :: qs) k = valueAt qs k := by simp [valueAt, List.find?_cons, e']
      rw [valV_neg e, b]; exact ih
theorem KV.any {kvs : List (κ × V)} {vs : List (κ × Value)} (r : KV kvs vs) (k : κ) : (kvs.any fun kv => decide (kv.1 = k)) = vs.any fun kv => decide (kv.1 = k) := by
  unfold KV at r
  induction r with
  | nil => rfl
  | cons h t ih => rw [List.any_cons, List.any_cons, ih, h.1]
theorem KV.repl {kvs : List (κ × V)} {vs : List (κ × Value)} (r : KV kvs vs) (k : κ) {y : V} {u : Value} (ry : RelV y u) :
    KV (kvs.map fun kv => if kv.1 = k then (kv.1, y) else kv) (vs.map fun kv => if kv.1 = k then (kv.1, u) else kv) := by
  unfold KV at r ⊢
  induction r with
  | nil => exact .nil
  | @cons p q ps qs h t ih =>
    rw [List.map_cons, List.map_cons]
    refine .cons ?_ ih
    obtain ⟨h1, h2⟩ := h
    by_cases e : p.1 = k
    · rw [if_pos e, if_pos (h1.symm.trans e)]; exact ⟨h1, ry⟩
    · rw [if_neg e, if_neg (fun z => e (h1.trans z))]; exact ⟨h1, h2⟩
theorem KV.put {kvs : List (κ × V)} {vs : List (κ × Value)} (r : KV kvs vs) (k : κ) {y : V} {u : Value} (ry : RelV y u) : KV (putK kvs k y) (stored vs k u) := by
  unfold putK stored
  rw [r.any k]
  by_cases e : (vs.any fun kv => decide (kv.1 = k)) = true
  · rw [if_pos e, if_pos e]; exact r.repl k ry
  · rw [if_neg e, if_neg e]; exact Paired.snoc r ⟨rfl, ry⟩
theorem KV.length {kvs : List (κ × V)} {vs : List (κ × Value)} (r : KV kvs vs) : kvs.length = vs.length := Paired.length r
end
theorem kV_is {P : Program} {w : World} {k : Key} {u : Value} (r : RelV (kV k) u) : (mixKind P w).is k u = true := by
  cases k with
  | inl i => obtain ⟨t, e⟩ := (show ∃ t, u = Value.int i t from r); subst e; exact mixKind_int P w i t
  | inr x => obtain ⟨t, e⟩ := (show ∃ t, u = Value.str x t from r); subst e; exact mixKind_str P w x t
theorem items_are {P : Program} {w : World} : ∀ {ks : List Key} {us : List Value}, Vals (ks.map kV) us → ItemsAre (mixKind P w) ks us
  | [], _, r => by rw [List.map_nil] at r; cases r; exact .nil
  | k :: ks, _, r => by
    rw [List.map_cons] at r
    cases r with
    | cons h t => exact .cons (kV_is h) (items_are t)
abbrev KT (H : Hp) : List (List Key × V) → List (List Key × Addr × Value) → Prop := Paired fun p q => p.1 = q.1 ∧ H q.2.1 = some (.tup (p.1.map kV)) ∧ RelV p.2 q.2.2
theorem KT.val {H : Hp} {kvs : List (List Key × V)} {xs : List (List Key × Addr × Value)} (r : KT H kvs xs) (k : List Key) : RelO (valV kvs k) ((atKey xs k).map (·.2)) := by
  induction r with
  | nil => exact True.intro
  | @cons p q ps qs h t ih =>
    obtain ⟨h1, _, h2⟩ := h
    by_cases e : p.1 = k
    · have e' : q.1 = k := h1.symm.trans e
      have b : atKey (q :: qs) k = some q.2 := by simp [atKey, List.find?_cons, e']
      rw [valV_pos e, b]; exact h2
    · have e' : ¬ q.1 = k := fun z => e (h1.trans z)
      have b : atKey (q :: qs) k = atKey qs k := by simp [atKey, List.find?_cons, e']
      rw [valV_neg e, b]; exact ih
theorem KT.repl {H : Hp} {kvs : List (List Key × V)} {xs : List (List Key × Addr × Value)} (r : KT H kvs xs) (k : List Key) {y : V} {u : Value} (ry : RelV y u) :
    KT H (kvs.map fun kv => if kv.1 = k then (kv.1, y) else kv) (xs.map (putAt k u)) := by
  induction r with
  | nil => exact .nil
  | @cons p q ps qs h t ih =>
    rw [List.map_cons, List.map_cons]
    refine .cons ?_ ih
    obtain ⟨h1, h2, h3⟩ := h
    unfold putAt
    by_cases e : p.1 = k
    · rw [if_pos e, if_pos (h1.symm.trans e)]; exact ⟨h1, h2, ry⟩
    · rw [if_neg e, if_neg (fun z => e (h1.trans z))]; exact ⟨h1, h2, h3⟩
theorem KT.put {H : Hp} {kvs : List (List Key × V)} {xs : List (List Key × Addr × Value)} (r : KT H kvs xs) (k : List Key) {b : Addr} {y : V} {u : Value} (hb : H b = some (.tup (k.map kV))) (ry : RelV y u) :
    KT H (putK kvs k y) (storedH xs k b u) := by
  have e : (kvs.any fun kv => decide (kv.1 = k)) = (atKey xs k).isSome := by
    rw [valV_any, (r.val k).isSome_eq, Option.isSome_map]
  unfold putK storedH
  rw [e]
  by_cases q : (atKey xs k).isSome = true
  · rw [if_pos q, if_pos q]; exact r.repl k ry
  · rw [if_neg q, if_neg q]; exact Paired.snoc r ⟨rfl, hb, ry⟩
theorem KT.keeps {H H' : Hp} {kvs : List (List Key × V)} {xs : List (List Key × Addr × Value)} (r : KT H kvs xs) (ht : ∀ b ys, H b = some (.tup ys) → H' b = some (.tup ys)) : KT H' kvs xs :=
  Paired.mapP r fun _ _ z => ⟨z.1, ht _ _ z.2.1, z.2.2⟩
section
variable {P : Program} {w : World} {H : Hp} {h : Heap} {a : Addr}
theorem rd_of {u : HO} (ok : HOk P w H h) (e : Rd H a u) : ObjOk P w H h a u := e.ok ok
theorem dk_rd {kvs : List (Key × V)} (ok : HOk P w H h) (e : Rd H a (.dK kvs)) : kvs.length ≤ sizeLine ∧ (a == sysModules) = false ∧ ∃ vs, KV kvs vs ∧ h.DictOf (mixKind P w) a vs :=
  show ObjOk P w H h a (.dK kvs) from rd_of ok e
theorem dk_of {kvs : List (Key × V)} (ok : HOk P w H h) (e : H a = some (.dK kvs)) : kvs.length ≤ sizeLine ∧ (a == sysModules) = false ∧ ∃ vs, KV kvs vs ∧ h.DictOf (mixKind P w) a vs := dk_rd ok (.inl e)
theorem key_of {ks : List Key} (ok : HOk P w H h) (e : H a = some (.tup (ks.map kV))) : (tupleKind (mixKind P w)).is h ks a := by
  obtain ⟨_, its, r, o, h1, h2, n, h3⟩ := (show ObjOk P w H h a (.tup (ks.map kV)) from ok a _ e)
  exact ⟨o, its.toArray, n, h1, h2, h3, by simpa using items_are r⟩
theorem dt_rd {kvs : List (List Key × V)} (ok : HOk P w H h) (e : Rd H a (.dT kvs)) : kvs.length ≤ sizeLine ∧ (a == sysModules) = false ∧
    ∃ xs, KT H kvs xs ∧ h.DictOfH (tupleKind (mixKind P w)) a xs := by
  obtain ⟨z, y, xs, r, o, es, ep, h1, h2, h3, h4, h5⟩ := (show ObjOk P w H h a (.dT kvs) from rd_of ok e)
  refine ⟨z, y, xs, r, o, es, ep, h1, h2, h3, h4, fun x hx => ?_, h5⟩
  have all : ∀ {l : List (List Key × V)} {m : List (List Key × Addr × Value)}, KT H l m → ∀ x ∈ m, (tupleKind (mixKind P w)).is h x.1 x.2.1 := by
    intro l m q
    induction q with
    | nil => intro x hx; exact nomatch hx
    | @cons p q ps qs hq t ih =>
      intro x hx
      rcases List.mem_cons.mp hx with e | hx
      · subst e
        exact key_of ok (by rw [← hq.1]; exact hq.2.1)
      · exact ih x hx
  exact all r x hx
theorem dt_of {kvs : List (List Key × V)} (ok : HOk P w H h) (e : H a = some (.dT kvs)) : kvs.length ≤ sizeLine ∧ (a == sysModules) = false ∧
    ∃ xs, KT H kvs xs ∧ h.DictOfH (tupleKind (mixKind P w)) a xs := dt_rd ok (.inl e)
end
def DGet (H : Hp) (a : Addr) (y : V) (r : Option V) : Prop :=
  (∃ kvs k, Rd H a (.dK kvs) ∧ y = kV k ∧ r = valV kvs k) ∨ ∃ kvs k b, Rd H a (.dT kvs) ∧ y = .ref b ∧ H b = some (.tup (k.map kV)) ∧ r = valV kvs k
def DPut (H : Hp) (a : Addr) (y v : V) (H' : Hp) : Prop :=
  (∃ kvs k, H a = some (.dK kvs) ∧ y = kV k ∧ kvs.length < sizeLine ∧ H' = upd H a (.dK (putK kvs k v))) ∨
  ∃ kvs k b, H a = some (.dT kvs) ∧ y = .ref b ∧ H b = some (.tup (k.map kV)) ∧ kvs.length < sizeLine ∧ H' = upd H a (.dT (putK kvs k v))
theorem DGet.k {H : Hp} {a : Addr} {kvs : List (Key × V)} {k : Key} (e : H a = some (.dK kvs)) : DGet H a (kV k) (valV kvs k) := .inl ⟨kvs, k, .inl e, rfl, rfl⟩
theorem DPut.k {H : Hp} {a : Addr} {kvs : List (Key × V)} {k : Key} {v : V} (e : H a = some (.dK kvs)) (hl : kvs.length < sizeLine) : DPut H a (kV k) v (upd H a (.dK (putK kvs k v))) := .inl ⟨kvs, k, e, rfl, hl, rfl⟩
section
variable {X : Cx} {pins : List (Addr × Obj)} {σ : St} {H : Hp} {s : Shared} {a : Addr} {y v : V} {u r : Value} {o : Option V} {A : Around} {E : Value → Shared → Prop}
theorem Inv.big (I : Inv X pins σ H s) : sysModules < s.heap.objs.size := by
  have h : mainGlobals < s.heap.objs.size := (I.mod.glob.keeps I.bk).lt
  exact Nat.lt_trans (by decide) h
theorem d_getItem {Q : Value → Shared → Prop} (hu : A.units + 1 < cLine) (I : Inv X pins σ H s) (g : DGet H a y (some v)) (ry : RelV y u) (h : ∀ w' s', Inv X pins σ H s' → RelV v w' → Q w' s') :
    wpAny (model X.prog X.w) A (getItem (.ref a) u) Q E s := by
  rcases g with ⟨kvs, k, e, ey, l⟩ | ⟨kvs, k, b, e, ey, eb, l⟩
  · subst ey
    obtain ⟨z, hd, vs, rel, dd⟩ := dk_rd I.hok e
    obtain ⟨w', hw, rw'⟩ := RelO.some_of (v := v) (o := valueAt vs k) (by rw [l]; exact rel.val k)
    exact wpAny_getItem_of (kV_is ry) dd.mapOf hw (h w' _ (I.tok _) rw')
  · subst ey
    cases (show u = Value.ref b from ry)
    obtain ⟨z, hd, xs, rel, dd⟩ := dt_rd I.hok e
    obtain ⟨w', hw, rw'⟩ := RelO.some_of (v := v) (o := (atKey xs k).map (·.2)) (by rw [l]; exact rel.val k)
    obtain ⟨p, hp, hp2⟩ := Option.map_eq_some_iff.mp hw
    refine wpAny_getItem_heap (tupleKind_room_in1 hu) (key_of I.hok eb) dd hp ?_
    rw [hp2]
    exact h w' _ (I.tok _) rw'
theorem d_notIn {Q : Value → Shared → Prop} (hu : A.units + 1 < cLine) (I : Inv X pins σ H s) (g : DGet H a y o) (ry : RelV y u) (h : ∀ s', Inv X pins σ H s' → Q (.bool (!o.isSome)) s') :
    wpAny (model X.prog X.w) A (compareOp .NotIn u (.ref a)) Q E s := by
  rcases g with ⟨kvs, k, e, ey, l⟩ | ⟨kvs, k, b, e, ey, eb, l⟩
  · subst ey
    obtain ⟨z, hd, vs, rel, dd⟩ := dk_rd I.hok e
    refine wpAny_notIn_of (kV_is ry) hd dd.mapOf ?_
    rw [← (rel.val k).isSome_eq, ← l]
    exact h _ (I.tok _)
  · subst ey
    cases (show u = Value.ref b from ry)
    obtain ⟨z, hd, xs, rel, dd⟩ := dt_rd I.hok e
    refine wpAny_notIn_heap (tupleKind_room_in1 hu) (key_of I.hok eb) hd dd ?_
    have q := (rel.val k).isSome_eq
    rw [Option.isSome_map] at q
    rw [← q, ← l]
    exact h _ (I.tok _)
theorem d_write {h' : Heap} {t' : Nat} {ob : HO} (I : Inv X pins σ H s) (mu : Mut (H a)) (hs : Heap.SameBut a s.heap h') (he : ∃ q, h'.get? a = some q) (new : ObjOk X.prog X.w (upd H a ob) h' a ob) :
    Inv X pins σ (upd H a ob) { s with heap := h', toks := t' } :=
  I.write (x := a) (e := a) mu (.inl rfl) (fun b q hb z => (hs.2 b hb).trans z) he new
theorem dk_new {P : Program} {w : World} {H' : Hp} {h' : Heap} {kvs : List (Key × V)} {vs : List (Key × Value)} (z : kvs.length ≤ sizeLine) (hd : (a == sysModules) = false) (rel : KV kvs vs) (dd : h'.DictOf (mixKind P w) a vs) :
    ObjOk P w H' h' a (.dK kvs) := ⟨z, hd, vs, rel, dd⟩
theorem d_setItem {H' : Hp} {Q : Unit → Shared → Prop} (hu : A.units + 1 < cLine) (I : Inv X pins σ H s) (g : DPut H a y v H') (ry : RelV y u) (rv : RelV v r) (h : ∀ s', Inv X pins σ H' s' → Q () s') :
    wpAny (model X.prog X.w) A (setItem (.ref a) u r) Q E s := by
  rcases g with ⟨kvs, k, e, ey, l, eH⟩ | ⟨kvs, k, b, e, ey, eb, l, eH⟩
  · subst ey eH
    obtain ⟨z, hd, vs, rel, dd⟩ := dk_of I.hok e
    have hz : vs.length ≤ sizeLine := by rw [← rel.length]; exact z
    have hl : (putK kvs k v).length ≤ sizeLine := by have := length_putK kvs k v; omega
    refine wpAny_setItem_pairs (hsz := hz) (kV_is ry) dd fun h' dd' hs => h _ ?_
    have he : ∃ q, h'.get? a = some q := let ⟨q, _, _, hq, _⟩ := dd'; ⟨q, hq⟩
    exact d_write I (by rw [e]; exact True.intro) hs he (dk_new hl hd (rel.put k rv) dd')
  · subst ey eH
    cases (show u = Value.ref b from ry)
    obtain ⟨z, hd, xs, rel, dd⟩ := dt_of I.hok e
    have hz : xs.length ≤ sizeLine := by rw [← Paired.length rel]; exact z
    have hl : (putK kvs k v).length ≤ sizeLine := by have := length_putK kvs k v; omega
    refine wpAny_setItem_heap (hsz := hz) (tupleKind_room_in1 hu) (key_of I.hok eb) dd fun h' dd' hs => h _ ?_
    obtain ⟨q, es, ep, hq, h2, h3, h4, _, h5⟩ := dd'
    refine d_write I (by rw [e]; exact True.intro) hs ⟨q, hq⟩ ⟨hl, hd, _, (rel.put k eb rv).keeps fun c ys ec => ?_, q, es, ep, hq, h2, h3, h4, h5⟩
    rw [upd_ne (ne_of ec e (fun z => nomatch z))]
    exact ec
end
section
variable {X : Cx} {pins : List (Addr × Obj)} {σ : St} {H : Hp} {s : Shared} {a : Addr} {kvs : List (Key × V)} {k : Key} {u : Value} {A : Around} {E : Value → Shared → Prop}
end
def NoSl (i : Expr) : Prop := ∀ ov iv, subscripted i false ov iv = operate [ov, iv] (getItem ov iv)
theorem subD_of {prog : Program} {w : World} {A : Around} {E : Value → Shared → Prop} {s : Shared} {env : Env} {value slice : Expr} {pos : Pos} {T id : String} {Q : Value → Shared → Prop}
    (hl : typeLookup (.type T) "__getitem__" = pure (some (.builtin id))) (hs : NoSl slice)
    (h : wpAny (model prog w) A (eval value env) (fun o s₁ => wpAny (model prog w) A (eval slice env) (fun i s₂ => s₂.TypeIs o T ∧ wpAny (model prog w) A (getItem o i) Q E s₂) E s₁) E s) :
    wpAny (model prog w) A (eval (.Subscript value slice pos) env) Q E s := by
  refine Subscript_ (wpAny_mono h (fun o s₁ h₁ => wpAny_mono h₁ (fun i s₂ h₂ => ?_) fun _ _ x => x) fun _ _ x => x)
  obtain ⟨hT, h₂⟩ := h₂
  unfold subscriptTail
  refine wpAny_bind ?_
  rw [getitemInPython_of_ne hT.not_modules]
  refine wpAny_bind (wpAny_specialOf hT hl ?_)
  have fin : wpAny (model prog w) A (subscripted slice false o i) (fun r s₃ => wpAny (model prog w) A (letTemporaryGo value o r >>= fun _ => pure r) Q E s₃) E s₂ := by
    rw [hs o i]
    exact wpAny_operating (wpAny_mono h₂ (fun r s₃ h₃ => wpAny_bind (wpAny_letTemporaryGo (wpAny_pure h₃))) fun _ _ x => x)
  first
    | exact wpAny_pure (wpAny_bind fin)
    | exact wpAny_bind (wpAny_pure (wpAny_bind fin))
    | exact wpAny_bind fin
theorem dict_typeIs {X : Cx} {pins : List (Addr × Obj)} {σ : St} {H : Hp} {s : Shared} {a : Addr} {y : V} {o : Option V} (I : Inv X pins σ H s) (g : DGet H a y o) : s.TypeIs (.ref a) "dict" := by
  rcases g with ⟨kvs, k, e, _, _⟩ | ⟨kvs, k, b, e, _, _, _⟩
  · obtain ⟨_, _, vs, _, dd⟩ := dk_rd I.hok e
    exact dd.typeIs
  · obtain ⟨_, _, xs, _, dd⟩ := dt_rd I.hok e
    exact dd.typeIs
def tDGet (td ty : TE) : TE := fun σ H Q => td σ H fun x H1 => ty σ H1 fun y H2 => ∃ a v, x = .ref a ∧ DGet H2 a y (some v) ∧ Q v H2
def tDNotIn (ty td : TE) : TE := fun σ H Q => ty σ H fun y H1 => td σ H1 fun x H2 => ∃ a o, x = .ref a ∧ DGet H2 a y o ∧ Q (.bl (!o.isSome)) H2
def sDPut (td ty tv : TE) : TS := fun D σ H => tv σ H fun v H1 => td σ H1 fun x H2 => ty σ H2 fun y H3 => ∃ a H4, x = .ref a ∧ DPut H3 a y v H4 ∧ D.nx σ H4
section
variable {X : Cx} {o i e value : Expr} {pos pos' tpos : Pos} {td ty tv : TE}
theorem pe_dget (hu : X.A.units + 1 < cLine) (ho : PE X o td) (hi : PE X i ty) (hs : NoSl i) : PE X (.Subscript o i pos) (tDGet td ty) := by
  intro pins s σ H Q I h
  refine subD_of PySem.F.slot_dict_getitem.lookup hs (thn (ho pins s σ H _ I h) fun u s1 ⟨x, H1, I1, rx, q1⟩ => thn (hi pins s1 σ H1 _ I1 q1) fun iv s2 ⟨y, H2, I2, ry, a, v, ex, g, q2⟩ => ?_)
  subst ex
  obtain rfl : u = Value.ref a := rx
  exact ⟨dict_typeIs I2 g, d_getItem hu I2 g ry fun w' s3 I3 rw' => ⟨v, H2, I3, rw', q2⟩⟩
theorem pc_dnotin (hu : X.A.units + 1 < cLine) (hi : PE X i ty) (ho : PE X o td) : PC X .NotIn i o (tDNotIn ty td) := by
  intro pins s σ H Q I h
  refine thn (hi pins s σ H _ I h) fun iv s1 ⟨y, H1, I1, ry, q1⟩ => thn (ho pins s1 σ H1 _ I1 q1) fun u s2 ⟨x, H2, I2, rx, a, ov, ex, g, q2⟩ => ?_
  subst ex
  obtain rfl : u = Value.ref a := rx
  exact d_notIn hu I2 g ry fun s3 I3 => ⟨.bl (!ov.isSome), H2, I3, rfl, q2⟩
theorem ps_dput (hu : X.A.units + 1 < cLine) (ho : PE X o td) (hi : PE X i ty) (hv : PE X value tv) (hs : swapsWith value (some (.Subscript o i pos')) pos.line X.env = pure false) :
    PS X (.Assign [.Subscript o i pos'] value pos) (sDPut td ty tv) := by
  intro pins s σ H D I h
  refine wpAny_Assign_Subscript (thn (hv pins s σ H _ I h) fun r s1 ⟨v, H1, I1, rv, q1⟩ => thn (ho pins s1 σ H1 _ I1 q1) fun u s2 ⟨x, H2, I2, rx, q2⟩ => thn (hi pins s2 σ H2 _ I2 q2) fun iv s3 ⟨y, H3, I3, ry, a, H4, ex, g, q3⟩ => ?_) hs
  subst ex
  obtain rfl : u = Value.ref a := rx
  exact d_setItem hu I3 g ry rv fun s4 I4 => ⟨σ, H4, I4, q3⟩
end
theorem dk_empty {P : Program} {w : World} {H : Hp} (h : Heap) (hb : sysModules < h.objs.size) : ObjOk P w H (h.push { cls := .type "dict", data := .dict #[] }) h.objs.size (.dK []) :=
  ⟨Nat.zero_le _, beq_eq_false_iff_ne.mpr (Ne.symm (Nat.ne_of_lt hb)), [], .nil, Heap.DictOf.new h⟩
def tDNewK : TE := fun _ H Q => ∀ p, H p = none → Q (.ref p) (upd H p (.dK []))
section
variable {X : Cx} {pos : Pos}
theorem pe_dnewK : PE X (.Dict [] [] pos) tDNewK := fun pins s σ H Q I h =>
  wpAny_Dict_empty ⟨.ref s.heap.objs.size, _, I.laid (a := s.heap.objs.size) (o := .dK []) (t' := s.toks) (fun _ _ q => Heap.get?_push_of_some _ q) (Nat.le_refl _) (dk_empty s.heap I.big), rfl, h _ (I.hok.fresh (Nat.le_refl _))⟩
end
section
variable {X : Cx} {pins : List (Addr × Obj)} {σ : St} {H : Hp} {s : Shared} {a : Addr} {y d : V} {u r : Value} {o : Option V} {A : Around} {E : Value → Shared → Prop}
end
section
variable {X : Cx} {o e f : Expr} {apos cpos : Pos} {td ty tx : TE}
end
section
variable {X : Cx} {pins : List (Addr × Obj)} {σ : St} {H : Hp} {s : Shared} {a : Addr} {kvs : List (Key × V)} {A : Around} {E : Value → Shared → Prop}
end
section
variable {X : Cx} {pins : List (Addr × Obj)} {σ : St} {H : Hp} {s : Shared} {a : Addr} {y : V} {u : Value} {A : Around} {E : Value → Shared → Prop}
end
end L2
set_option Elab.async false
set_option linter.all false
set_option maxRecDepth 100000
set_option maxHeartbeats 4000000
namespace L2
open PySem PySem.Spec PyProof.Rows
def clFrom (env : Env) : List (Str × NameKind) → List (Str × Addr) → List (Str × Addr)
  | [], acc => acc
  | (n, k) :: r, acc => clFrom env r (if k == .free then (n, (env.cells.lookup n).getD 0) :: acc else acc)
theorem closureFor_eq {scope : Scope} {env : Env} (h : ∀ n, (n, NameKind.free) ∈ scope.names → ∃ c, env.cells.lookup n = some c) : closureFor scope env = pure (clFrom env scope.names []) := by
  have go : ∀ (names : List (Str × NameKind)) (acc : List (Str × Addr)), (∀ n, (n, NameKind.free) ∈ names → ∃ c, env.cells.lookup n = some c) →
      (forIn names acc (fun (x : Str × NameKind) (cs : List (Str × Addr)) => match x with
        | (name, kind) => if (kind == .free) = true then (do let c ← cellOf env name; pure (ForInStep.yield ((name, c) :: cs))) else pure (ForInStep.yield cs)) : Sem (List (Str × Addr))) = pure (clFrom env names acc) := by
    intro names
    induction names with
    | nil => intro acc _; rfl
    | cons x r ih =>
      intro acc hn
      obtain ⟨n, k⟩ := x
      rw [List.forIn_cons]
      have hr : ∀ m, (m, NameKind.free) ∈ r → ∃ c, env.cells.lookup m = some c := fun m hm => hn m (List.mem_cons_of_mem _ hm)
      by_cases hk : k = .free
      · subst hk
        obtain ⟨c, hc⟩ := hn n List.mem_cons_self
        have e : cellOf env n = pure c := by unfold cellOf; rw [hc]
        have e2 : clFrom env ((n, NameKind.free) :: r) acc = clFrom env r ((n, c) :: acc) := by
          show clFrom env r (if (NameKind.free == NameKind.free) = true then (n, (env.cells.lookup n).getD 0) :: acc else acc) = _
          rw [if_pos (by decide), hc]; rfl
        rw [e2, ← ih _ hr]
        show (do let __do_lift ← (if (NameKind.free == NameKind.free) = true then (do let c ← cellOf env n; pure (ForInStep.yield ((n, c) :: acc))) else pure (ForInStep.yield acc) : Sem (ForInStep (List (Str × Addr)))); _) = _
        rw [if_pos (by decide), e]
        rfl
      · have hb : (k == NameKind.free) = false := by simpa using hk
        have e2 : clFrom env ((n, k) :: r) acc = clFrom env r acc := by
          show clFrom env r (if (k == NameKind.free) = true then (n, (env.cells.lookup n).getD 0) :: acc else acc) = _
          rw [hb]; rfl
        rw [e2, ← ih _ hr]
        show (do let __do_lift ← (if (k == NameKind.free) = true then (do let c ← cellOf env n; pure (ForInStep.yield ((n, c) :: acc))) else pure (ForInStep.yield acc) : Sem (ForInStep (List (Str × Addr)))); _) = _
        rw [hb]
        rfl
  have e := go scope.names [] h
  unfold closureFor
  exact congrArg (fun (m : Sem (List (Str × Addr))) => m >>= fun r => pure r) e
theorem clFrom_mem {env : Env} : ∀ {names : List (Str × NameKind)} {acc : List (Str × Addr)} {n : Str} {c : Addr}, (n, c) ∈ clFrom env names acc → (n, c) ∈ acc ∨ ((n, NameKind.free) ∈ names ∧ c = (env.cells.lookup n).getD 0)
  | [], acc, n, c, h => .inl h
  | (m, k) :: r, acc, n, c, h => by
    rcases clFrom_mem (names := r) h with h | ⟨h, e⟩
    · by_cases hk : k = .free
      · subst hk
        rw [if_pos (by decide)] at h
        rcases List.mem_cons.mp h with e | h
        · cases e; exact .inr ⟨List.mem_cons_self, rfl⟩
        · exact .inl h
      · have hb : (k == NameKind.free) = false := by simpa using hk
        rw [hb] at h
        exact .inl h
    · exact .inr ⟨List.mem_cons_of_mem _ h, e⟩
theorem lookup_of_mem {α : Type} : ∀ {l : List (Str × α)} {n : Str} {c : α}, (n, c) ∈ l → ∃ d, l.lookup n = some d
  | [], _, _, h => nomatch h
  | (k, v) :: r, n, c, h => by
    rw [List.lookup_cons]
    cases hb : n == k with
    | true => exact ⟨v, rfl⟩
    | false =>
      rcases List.mem_cons.mp h with e | h
      · cases e; simp at hb
      · exact lookup_of_mem h
theorem clFrom_acc {env : Env} : ∀ {names : List (Str × NameKind)} {acc : List (Str × Addr)} {n : Str} {c : Addr}, (n, c) ∈ acc → (n, c) ∈ clFrom env names acc
  | [], acc, n, c, h => h
  | (m, k) :: r, acc, n, c, h => by
    refine clFrom_acc (names := r) ?_
    split
    · exact List.mem_cons_of_mem _ h
    · exact h
theorem clFrom_has {env : Env} : ∀ {names : List (Str × NameKind)} {acc : List (Str × Addr)} {n : Str}, (n, NameKind.free) ∈ names → (n, (env.cells.lookup n).getD 0) ∈ clFrom env names acc
  | [], acc, n, h => nomatch h
  | (m, k) :: r, acc, n, h => by
    rcases List.mem_cons.mp h with e | h
    · cases e
      refine clFrom_acc (names := r) ?_
      rw [if_pos (by decide)]
      exact List.mem_cons_self
    · exact clFrom_has (names := r) h
theorem cellsFrom_mem : ∀ {names : List (Str × NameKind)} {n : Nat} {acc : List (Str × Addr)} {x : Str} {c : Addr}, (x, c) ∈ cellsFrom n names acc → (x, c) ∈ acc ∨ ((x, NameKind.cell) ∈ names ∧ n ≤ c)
  | [], n, acc, x, c, h => .inl h
  | (m, k) :: r, n, acc, x, c, h => by
    unfold cellsFrom at h
    by_cases hk : k = .cell
    · subst hk
      rw [if_pos (by decide)] at h
      rcases cellsFrom_mem (names := r) h with h | ⟨h, e⟩
      · rcases List.mem_cons.mp h with e | h
        · cases e; exact .inr ⟨List.mem_cons_self, Nat.le_refl _⟩
        · exact .inl h
      · exact .inr ⟨List.mem_cons_of_mem _ h, by omega⟩
    · have hb : (k == NameKind.cell) = false := by simpa using hk
      rw [hb] at h
      rcases cellsFrom_mem (names := r) h with h | ⟨h, e⟩
      · exact .inl h
      · exact .inr ⟨List.mem_cons_of_mem _ h, e⟩
theorem cellsFrom_acc : ∀ {names : List (Str × NameKind)} {n : Nat} {acc : List (Str × Addr)} {x : Str} {c : Addr}, (x, c) ∈ acc → (x, c) ∈ cellsFrom n names acc
  | [], n, acc, x, c, h => h
  | (m, k) :: r, n, acc, x, c, h => by
    unfold cellsFrom
    split
    · exact cellsFrom_acc (names := r) (List.mem_cons_of_mem _ h)
    · exact cellsFrom_acc (names := r) h
theorem cellsFrom_has : ∀ {names : List (Str × NameKind)} {n : Nat} {acc : List (Str × Addr)} {x : Str}, (x, NameKind.cell) ∈ names → ∃ c, (x, c) ∈ cellsFrom n names acc
  | [], n, acc, x, h => nomatch h
  | (m, k) :: r, n, acc, x, h => by
    unfold cellsFrom
    rcases List.mem_cons.mp h with e | h
    · cases e
      rw [if_pos (by decide)]
      exact ⟨n, cellsFrom_acc (names := r) List.mem_cons_self⟩
    · split
      · exact cellsFrom_has (names := r) h
      · exact cellsFrom_has (names := r) h
theorem pushCells_cell : ∀ {names : List (Str × NameKind)} {h : Heap} {acc : List (Str × Addr)} {x : Str} {c : Addr}, (x, c) ∈ cellsFrom h.objs.size names acc → (x, c) ∈ acc ∨ (pushCells h names).IsCell c none
  | [], h, acc, x, c, m => .inl m
  | (n, k) :: r, h, acc, x, c, m => by
    unfold cellsFrom at m
    unfold pushCells
    split at m
    · rename_i hk
      rw [if_pos hk]
      have m' : (x, c) ∈ cellsFrom (h.push { cls := .type "cell", data := .cell none }).objs.size r ((n, h.objs.size) :: acc) := by rw [Heap.size_push]; exact m
      rcases pushCells_cell (names := r) m' with z | z
      · rcases List.mem_cons.mp z with e | z
        · cases e
          exact .inr ⟨_, pushCells_keeps _ _ _ _ (Heap.get?_push_size _ rfl), rfl⟩
        · exact .inl z
      · exact .inr z
    · rename_i hk
      rw [if_neg hk]
      exact pushCells_cell (names := r) m
theorem cellsFrom_inj : ∀ {names : List (Str × NameKind)} {n : Nat} {acc : List (Str × Addr)}, (∀ x c, (x, c) ∈ acc → c < n) → (∀ x y c, (x, c) ∈ acc → (y, c) ∈ acc → x = y) →
    ∀ x y c, (x, c) ∈ cellsFrom n names acc → (y, c) ∈ cellsFrom n names acc → x = y
  | [], n, acc, lt, inj, x, y, c, h, h' => inj x y c h h'
  | (m, k) :: r, n, acc, lt, inj, x, y, c, h, h' => by
    unfold cellsFrom at h h'
    split at h
    · rename_i hk
      rw [if_pos hk] at h'
      refine cellsFrom_inj (names := r) (n := n + 1) (acc := (m, n) :: acc) (fun x c hm => ?_) (fun x y c hm hm' => ?_) x y c h h'
      · rcases List.mem_cons.mp hm with e | hm
        · cases e; exact Nat.lt_succ_self _
        · exact Nat.lt_succ_of_lt (lt _ _ hm)
      · rcases List.mem_cons.mp hm with e | hm <;> rcases List.mem_cons.mp hm' with e' | hm'
        · cases e; cases e'; rfl
        · cases e; exact absurd (lt _ _ hm') (Nat.lt_irrefl _)
        · cases e'; exact absurd (lt _ _ hm) (Nat.lt_irrefl _)
        · exact inj _ _ _ hm hm'
    · rename_i hk
      rw [if_neg hk] at h'
      exact cellsFrom_inj (names := r) lt inj x y c h h'
theorem lookup_relabel {env : Env} : ∀ {names : List (Str × NameKind)} {x : Str},
    (names.map fun (n, k) => if (k == NameKind.free && env.scope.kind == .function && env.kindOf n == some .cell) then (n, NameKind.cell) else (n, k)).lookup x =
      (names.lookup x).map fun k => if (k == NameKind.free && env.scope.kind == .function && env.kindOf x == some .cell) = true then NameKind.cell else k
  | [], x => rfl
  | (n, k) :: r, x => by
    have ih := @lookup_relabel env r x
    show List.lookup x ((if (k == NameKind.free && env.scope.kind == .function && env.kindOf n == some .cell) = true then (n, NameKind.cell) else (n, k)) :: _) = _
    have e : (if (k == NameKind.free && env.scope.kind == .function && env.kindOf n == some .cell) = true then (n, NameKind.cell) else (n, k)) = (n, if (k == NameKind.free && env.scope.kind == .function && env.kindOf n == some .cell) = true then NameKind.cell else k) := by split <;> rfl
    rw [e, List.lookup_cons, List.lookup_cons]
    cases hx : x == n with
    | true =>
      have hx' := beq_iff_eq.mp hx
      subst hx'
      rfl
    | false => exact ih
structure CompScope (X : Cx) (scope : Scope) (tn cap : List Str) (idx : List Nat) : Prop where
  kind : scope.kind = .function
  nd : (scope.names.map (·.1)).Nodup
  tnd : (tn ++ cap).Nodup
  ct : ∀ y ∈ cap, scope.names.lookup y = some .free
  ci : idx.map (fun i => X.N[i]?) = cap.map some
  fr : ∀ y ∈ scope.names, y.2 = .free → X.env.scope.names.lookup y.1 = some .cell ∨ X.env.scope.names.lookup y.1 = some .free
theorem lookup_nd {α : Type} : ∀ {l : List (Str × α)} {n : Str} {c : α}, (l.map (·.1)).Nodup → (n, c) ∈ l → l.lookup n = some c
  | [], _, _, _, h => nomatch h
  | (k, v) :: r, n, c, nd, h => by
    obtain ⟨h1, h2⟩ := List.nodup_cons.mp nd
    rw [List.lookup_cons]
    rcases List.mem_cons.mp h with e | hm
    · cases e; simp
    · have hne : n ≠ k := fun e => h1 (List.mem_map.mpr ⟨_, hm, e⟩)
      have hb : (n == k) = false := beq_eq_false_iff_ne.mpr hne
      rw [hb]
      exact lookup_nd h2 hm
def caps (σ : St) (idx : List Nat) : St := idx.map fun i => (σ[i]?).getD none
def cbase (k : Nat) (idx : List Nat) (σ : St) : St := List.replicate k none ++ caps σ idx
def cxC (X : Cx) (N' : List Str) (scope : Scope) (cs : List (Str × Addr)) (C : Addr) (fp : List Addr) (s₀ : Shared) (H₀ : Hp) : Cx where
  prog := X.prog
  w := X.w
  K := X.K
  mg := X.mg
  base := X.base
  A := X.A
  N := N'
  s₀ := s₀
  H₀ := H₀
  env := compEnvC scope cs C X.env
  outer := X.stack
  stack := X.stack
  ex := fp
  fn := fun x => scope.names.lookup x == some .local || scope.names.lookup x == some .cell
  calm := X.calm
  pn := []
  xe := fun _ _ => False
theorem wpAny_newEnv_comp {M : Model} {A : Around} {E : Value → Shared → Prop} {s : Shared} {scope : Scope} {globals : Addr} {cl : List (Str × Addr)} {qual : Str} {env0 : Env} {Q : Env → Shared → Prop}
    (hQ : Q { scope := scope, locals := s.heap.objs.size, globals := globals, cells := cellsFrom (s.heap.objs.size + 1) scope.names cl, qual := qual, func := none, code := env0.code, frame := env0.frame, builtins := env0.builtins }
      { s with heap := pushCells (s.heap.push { cls := .type "dict", data := .dict #[] }) scope.names }) :
    wpAny M A (newFunctionEnv scope globals cl [] qual none .none (some env0)) Q E s := by
  simp only [newFunctionEnv, Option.isSome_some, if_true]
  refine wpAny_bind (wpAny_alloc ?_)
  refine wpAny_bind (wpAny_layCells _ (fun name kind cells => by cases hkc : kind == NameKind.cell <;> simp [hkc]) _ _ _ _ ?_)
  rw [show ({ s with heap := s.heap.push { cls := .type "dict", data := .dict #[] } } : Shared).heap.objs.size = s.heap.objs.size + 1 from Heap.size_push ..]
  exact wpAny_bind (wpAny_pure (wpAny_pure hQ))
section
variable {prog : Program} {w : World} {A : Around} {R : Result → Shared → Prop} {s : Shared}
theorem compLoop_any {elt target iter : Expr} {ifs : List Expr} {scope : Scope} {pos : Pos} {it acc : Value} {env : Env} (I : Nat → Shared → Prop)
    (turn : ∀ n s, I n s → wpAny (model prog w) A (pyNext it) (fun r s₁ => match r with
      | none => R (.ok .next) s₁
      | some v => wpAny (model prog w) A (letOwnedTupleGo target it v) (fun _ s₁' => wpAny (model prog w) A (assign target env v) (fun _ s₂ =>
          wpAny (model prog w) A (forIn ifs true fun c r => if r = true then do let ok ← isTrue c env (eval c env); pure (ForInStep.yield ok) else pure (ForInStep.yield r)) (fun ok s₃ =>
            if ok = true then wpAny (model prog w) A (eval elt env) (fun x s₄ =>
              wpAny (model prog w) A (call (.builtin "list.append") [acc, x]) (fun _ s₅ => ∃ m, m < n ∧ I m s₅) (fun _ _ => False) s₄) (fun _ _ => False) s₃
            else ∃ m, m < n ∧ I m s₃) (fun _ _ => False) s₂) (fun _ _ => False) s₁') (fun _ _ => False) s₁) (fun _ _ => False) s)
    (n : Nat) (h : I n s) :
    codeAny (model prog w) A (.compLoop (.ListComp elt [⟨target, iter, ifs, 0⟩] scope pos) 0 it acc env) R s := by
  refine codeAny_loop rfl I (fun n s hI => ?_) n h
  show wpAny _ A ((compTurn (.ListComp elt [⟨target, iter, ifs, 0⟩] scope pos) 0 it acc env).onRaise (fun x => do noteFrame x env; theTreesLotGoes x)) _ _ s
  refine wpAny_noted ?_
  rw [compTurn_list]
  refine wpAny_bind (wpAny_standAt (wpAny_bind (wpAny_mono (turn n s hI) (fun r s₁ h₁ => ?_) fun _ _ h' => h'.elim)))
  cases r with
  | none => exact wpAny_pure h₁
  | some v =>
    refine wpAny_bind (wpAny_mono h₁ (fun _ s₁' h₁' => ?_) fun _ _ h' => h'.elim)
    refine wpAny_bind (wpAny_mono h₁' (fun _ s₂ h₂ => wpAny_bind (wpAny_mono h₂ (fun ok s₃ h₃ => ?_) fun _ _ h' => h'.elim)) fun _ _ h' => h'.elim)
    cases ok with
    | false => exact wpAny_pure ⟨rfl, h₃⟩
    | true =>
      exact wpAny_bind (wpAny_bind (wpAny_mono h₃ (fun x s₄ h₄ => wpAny_bind (wpAny_mono h₄ (fun _ s₅ h₅ => wpAny_pure (wpAny_pure ⟨rfl, h₅⟩)) fun _ _ h' => h'.elim)) fun _ _ h' => h'.elim))
end
section
variable {X : Cx} {pins : List (Addr × Obj)} {σ : St} {H : Hp} {s2 : Shared} {scope : Scope} {tn cap : List Str} {idx : List Nat} {fp : List Addr}
abbrev cObjL : Obj := { cls := .type "list", data := .seq ([] : List Value).toArray }
abbrev cObjF : Obj := { cls := .type "dict", data := .dict #[] }
abbrev cHeap (h : Heap) (scope : Scope) : Heap := pushCells ((h.push cObjL).push cObjF) scope.names
abbrev cCells (X : Cx) (h : Heap) (scope : Scope) : List (Str × Addr) := cellsFrom (h.objs.size + 1 + 1) scope.names (clFrom X.env scope.names [])
theorem caps_get {σ : St} {idx : List Nat} {j : Nat} {v : V} (h : (caps σ idx)[j]? = some (some v)) : ∃ i, idx[j]? = some i ∧ σ[i]? = some (some v) := by
  unfold caps at h
  rw [List.getElem?_map] at h
  cases e : idx[j]? with
  | none => rw [e] at h; cases h
  | some i =>
    rw [e] at h
    have h' : (σ[i]?).getD none = some v := Option.some.inj h
    refine ⟨i, rfl, ?_⟩
    cases q : σ[i]? with
    | none => rw [q] at h'; cases h'
    | some o => rw [q] at h'; have h'' : o = some v := h'; rw [h'']
theorem comp_start (I : Inv X pins σ H s2) (S : CompScope X scope tn cap idx) (hf : ∀ b ∈ fp, FpOk X pins H b) (hfl : ∀ b ∈ fp, b < s2.heap.objs.size) :
    Inv (cxC X (tn ++ cap) scope (cCells X s2.heap scope) (s2.heap.objs.size + 1) fp s2 H) [(s2.heap.objs.size, cObjL)] (cbase tn.length idx σ) H { s2 with heap := cHeap s2.heap scope } := by
  have old : ∀ b o, s2.heap.get? b = some o → (cHeap s2.heap scope).get? b = some o := fun b o e => pushCells_keeps _ _ _ _ (Heap.get?_push_of_some _ (Heap.get?_push_of_some _ e))
  have hsz : ((s2.heap.push cObjL).push cObjF).objs.size = s2.heap.objs.size + 1 + 1 := by rw [Heap.size_push, Heap.size_push]
  have hacc : (cHeap s2.heap scope).get? s2.heap.objs.size = some cObjL := pushCells_keeps _ _ _ _ (Heap.get?_push_of_some _ (Heap.get?_push_size _ rfl))
  have hns : (cHeap s2.heap scope).Ns (s2.heap.objs.size + 1) (fun _ => none) := by
    have e := (Heap.Ns.new (s2.heap.push cObjL) (.type "dict")).keeps (pushCells_keeps scope.names _)
    rw [Heap.size_push] at e
    exact e
  have clm : ∀ x c, (x, c) ∈ clFrom X.env scope.names [] → X.env.cells.lookup x = some c ∧ (x, NameKind.free) ∈ scope.names := fun x c h => by
    rcases clFrom_mem h with z | ⟨z, e⟩
    · nomatch z
    · obtain ⟨d, hd⟩ := I.ok.has x (S.fr _ z rfl)
      rw [hd] at e
      have e' : c = d := e
      subst e'
      exact ⟨hd, z⟩
  have csm : ∀ x c, (x, c) ∈ cCells X s2.heap scope → (X.env.cells.lookup x = some c ∧ (x, NameKind.free) ∈ scope.names) ∨ ((x, NameKind.cell) ∈ scope.names ∧ s2.heap.objs.size + 1 + 1 ≤ c) := fun x c h => by
    rcases cellsFrom_mem h with z | z
    · exact .inl (clm x c z)
    · exact .inr z
  have clt : ∀ x c, X.env.cells.lookup x = some c → c < s2.heap.objs.size := fun x c h => by
    obtain ⟨v, q⟩ := I.cell x c h
    exact q.lt
  have freeK : ∀ x, (x, NameKind.free) ∈ scope.names → scope.names.lookup x = some .free := fun x h => lookup_nd S.nd h
  have cellK : ∀ x, (x, NameKind.cell) ∈ scope.names → scope.names.lookup x = some .cell := fun x h => lookup_nd S.nd h
  refine ⟨⟨I.ok.mod, S.kind, I.ok.glob, I.ok.blt, Nat.le_succ _, fun x y c h1 h2 => ?_, fun x hx => ?_, fun x c hfn h => ?_, I.ok.hd, I.ok.frames, .inl rfl, fun b hb => ⟨?_, fun x c h => ?_⟩, I.bs, Nat.le_trans I.ok.bsz I.sz, fun b o e hb => ?_, fun b hb z => ?_, I.stack, I.stkFree⟩,
    rfl, I.bare, Un.kept old, ⟨_, hns, fun i x v e1 e2 e3 => ?_⟩, fun x c h => ?_, I.hok.fresh (Nat.le_succ _), fun x c h => ?_, fun p hp => ?_, I.hok.kept old, ?_⟩
  · exact cellsFrom_inj (fun x c h => Nat.lt_succ_of_lt (Nat.lt_succ_of_lt (clt x c (clm x c h).1))) (fun x y c h h' => I.ok.inj x y c (clm x c h).1 (clm y c h').1) x y c (PySem.mem_of_lookup h1) (PySem.mem_of_lookup h2)
  · have hx : (relabel scope X.env).names.lookup x = some .cell ∨ (relabel scope X.env).names.lookup x = some .free := hx
    have e := @lookup_relabel X.env scope.names x
    have hk : ∃ k, scope.names.lookup x = some k ∧ (k = .cell ∨ k = .free) := by
      cases q : scope.names.lookup x with
      | none =>
        rw [q] at e
        rcases hx with z | z
        · have z' := e.symm.trans z; cases z'
        · have z' := e.symm.trans z; cases z'
      | some k =>
        rw [q] at e
        refine ⟨k, rfl, ?_⟩
        cases k with
        | cell => exact .inl rfl
        | free => exact .inr rfl
        | _ =>
          exfalso
          rcases hx with z | z
          · have z' := e.symm.trans z; cases z'
          · have z' := e.symm.trans z; cases z'
    obtain ⟨k, hk, hk2⟩ := hk
    have hm := PySem.mem_of_lookup hk
    rcases hk2 with rfl | rfl
    · obtain ⟨c, hc⟩ := cellsFrom_has (n := s2.heap.objs.size + 1 + 1) (acc := clFrom X.env scope.names []) hm
      exact lookup_of_mem hc
    · exact lookup_of_mem (cellsFrom_acc (clFrom_has (env := X.env) (acc := []) hm))
  · rcases csm x c (PySem.mem_of_lookup h) with ⟨_, z⟩ | ⟨_, z⟩
    · have hfn : (scope.names.lookup x == some .local || scope.names.lookup x == some .cell) = true := hfn
      rw [freeK x z] at hfn
      exact absurd hfn (by decide)
    · show s2.heap.objs.size ≤ c
      omega
  · -- b is not the block's frame
    intro z
    have z' : b = s2.heap.objs.size + 1 := z
    exact absurd (hfl b hb) (by rw [z']; exact Nat.not_lt.mpr (Nat.le_succ _))
  · rcases csm x c (PySem.mem_of_lookup h) with ⟨z, _⟩ | ⟨_, z⟩
    · exact (hf b hb).2.2.2.2.1 x c z
    · intro e
      exact absurd (hfl b hb) (by rw [← e]; exact Nat.not_lt.mpr (Nat.le_trans (Nat.le_trans (Nat.le_succ _) (Nat.le_succ _)) z))
  · rcases (hf b hb).2.2.2.1 with z | z
    · exact I.ok.noex b o e z
    · exact absurd (Nat.lt_of_lt_of_le (Heap.lt_size e) (Nat.le_trans I.ok.bsz z)) (Nat.lt_irrefl _)
  · obtain ⟨_, f1, f2, _⟩ := hf b hb
    rcases List.mem_cons.mp (I.stkSub b z) with e | e
    · exact f1 e
    · exact f2 e
  · -- the names
    have e1 : (tn ++ cap)[i]? = some x := e1
    have e2 : (cbase tn.length idx σ)[i]? = some (some v) := e2
    unfold cbase at e2
    by_cases hi : i < tn.length
    · rw [List.getElem?_append_left (by rw [List.length_replicate]; exact hi), List.getElem?_replicate, if_pos hi] at e2
      cases e2
    · rw [List.getElem?_append_right (by rw [List.length_replicate]; omega), List.length_replicate] at e2
      rw [List.getElem?_append_right (by omega)] at e1
      obtain ⟨i0, h1, h2⟩ := caps_get e2
      have hN : X.N[i0]? = some x := by
        have q := congrArg (fun l => l[i - tn.length]?) S.ci
        simp only [List.getElem?_map, h1, e1, Option.map_some] at q
        exact Option.some.inj q
      have hfr := S.ct x (List.mem_of_getElem? e1)
      have hmem := PySem.mem_of_lookup hfr
      have hk := S.fr _ hmem rfl
      obtain ⟨m, hn, hl⟩ := I.loc
      obtain ⟨u, r, l⟩ := hl i0 x v hN h2 (hk.elim (fun z => .inr (.inl z)) fun z => .inr (.inr z))
      refine ⟨u, r, .inr ⟨?_, ?_⟩⟩
      · show (relabel scope X.env).names.lookup x = some .cell ∨ (relabel scope X.env).names.lookup x = some .free
        have e := @lookup_relabel X.env scope.names x
        rw [hfr] at e
        have e' : (relabel scope X.env).names.lookup x = some (if (NameKind.free == NameKind.free && X.env.scope.kind == .function && X.env.kindOf x == some .cell) = true then NameKind.cell else NameKind.free) := e
        rw [e']
        split
        · exact .inl rfl
        · exact .inr rfl
      · rcases l with ⟨hk', _⟩ | ⟨_, c, hc, z⟩
        · exfalso
          have hk' : X.env.scope.names.lookup x = some .local := hk'
          rcases hk with q | q
          · have q : X.env.scope.names.lookup x = some .cell := q
            rw [q] at hk'; cases hk'
          · have q : X.env.scope.names.lookup x = some .free := q
            rw [q] at hk'; cases hk'
        · obtain ⟨d, hd⟩ := lookup_of_mem (cellsFrom_acc (names := scope.names) (n := s2.heap.objs.size + 1 + 1) (clFrom_has (env := X.env) (acc := []) hmem))
          refine ⟨c, ?_, z.keeps old⟩
          rcases csm x d (PySem.mem_of_lookup hd) with ⟨q, _⟩ | ⟨q, _⟩
          · rw [hc] at q; cases q; exact hd
          · have := cellK x q; rw [hfr] at this; cases this
  · have hm : (x, c) ∈ cellsFrom ((s2.heap.push cObjL).push cObjF).objs.size scope.names (clFrom X.env scope.names []) := by rw [hsz]; exact PySem.mem_of_lookup h
    rcases pushCells_cell hm with z | z
    · obtain ⟨v, q⟩ := I.cell x c (clm x c z).1
      exact ⟨v, q.keeps old⟩
    · exact ⟨_, z⟩
  · rcases csm x c (PySem.mem_of_lookup h) with ⟨z, _⟩ | ⟨_, z⟩
    · exact I.freeC x c z
    · exact I.hok.fresh (by omega)
  · have hp' : p ∈ [(s2.heap.objs.size, cObjL)] := hp
    obtain rfl := List.mem_singleton.mp hp'
    refine ⟨hacc, I.hok.fresh (Nat.le_refl _), Nat.ne_of_lt (Nat.lt_succ_self _), fun z => ?_, fun v z => ?_⟩
    · rcases List.mem_cons.mp (I.stkSub _ z) with e | e
      · exact absurd I.lt (by rw [← e]; exact Nat.lt_irrefl _)
      · exact I.nofs (Nat.le_refl _) e
    · have z' : Data.seq _ _ = Data.cell v := z
      cases z'
  · show (cbase tn.length idx σ).length = (tn ++ cap).length
    have := congrArg List.length S.ci
    unfold cbase caps
    simp only [List.length_append, List.length_replicate, List.length_map] at this ⊢
    omega
theorem comp_back {N' : List Str} {cs : List (Str × Addr)} {C D : Addr} {pins' : List (Addr × Obj)} {σ' : St} {H8 : Hp} {s8 : Shared} {vs : List V} {its : List Value} {n : Nat} (I : Inv X pins σ H s2) (hf : ∀ b ∈ fp, FpOk X pins H b)
    (J : Inv (cxC X N' scope cs C fp s2 H) pins' σ' H8 s8) (hD : s2.heap.objs.size ≤ D) (hD8 : H8 D = none) (hget : s8.heap.get? D = some { cls := .type "list", data := .seq its.toArray n }) (r : Vals vs its) (hz : vs.length ≤ sizeLine) :
    Inv X pins σ (upd H8 D (.lst vs)) s8 := by
  have u := J.base
  have hb : ∀ b o, s2.heap.get? b = some o → b ≠ D := fun b o e => Nat.ne_of_lt (Nat.lt_of_lt_of_le (Heap.lt_size e) hD)
  refine I.call' (ch := fp) J.os ⟨u.keep, u.slot, fun b o e n hx => ?_, u.there, fun b xs e => ?_, fun b o xs e => ?_, fun b ps e => ?_⟩ (fun b o e => ?_) J.bare fun b hbf => ?_
  · rw [upd_ne (hb b o e)]; exact u.free b o e n hx
  · have q := u.tups b xs e
    rw [upd_ne (ne_of_none q hD8)]; exact q
  · have q := u.frzs b o xs e
    rw [upd_ne (ne_of_none q hD8)]; exact q
  · obtain ⟨m, q⟩ := u.tbls b ps e
    exact ⟨m, by rw [upd_ne (ne_of_none q hD8)]; exact q⟩
  · by_cases e1 : b = D
    · subst e1
      rw [upd_same] at e
      cases e
      exact ⟨hz, its, n, r, hget⟩
    · rw [upd_ne e1] at e
      exact (J.hok b o e).stay (fun _ _ _ q => q) (fun c q => by rw [upd_ne (ne_of_none q hD8)]; exact q) fun c xs q => by rw [upd_ne (ne_of_none q hD8)]; exact q
  · obtain ⟨_, f1, _, f3, f4, f5⟩ := hf b hbf
    exact ⟨f3, f1, f4, f5⟩
def PTs (X : Cx) (ifs : List Expr) (tt : TT) : Prop :=
  ∀ (pins : List (Addr × Obj)) (s : Shared) (σ : St) (H : Hp) (Q : Bool → Hp → Prop), Inv X pins σ H s → tt σ H Q →
    wpAny (model X.prog X.w) X.A (forIn ifs true fun c r => if r = true then do let ok ← isTrue c X.env (eval c X.env); pure (ForInStep.yield ok) else pure (ForInStep.yield r)) (TP X pins σ Q) X.xe s
def tYes : TT := fun _ H Q => Q true H
theorem pts_nil : PTs X [] tYes := fun _ _ _ H _ I h => wpAny_tests_nil ⟨H, I, h⟩
theorem pts_one {c : Expr} {tc : TT} (h : PT X c tc) : PTs X [c] tc := fun pins s σ H Q I q => wpAny_tests_one (h pins s σ H Q I q)
def tComp (wi : TI) (g : TG) (tt : TT) (te : TE) (k : Nat) (idx : List Nat) : TE := fun σ H Q => wi σ H fun J H1 =>
  ∃ W : Nat → Nat → List V → Hp → Prop, (∃ m, W 0 m [] H1) ∧ ∀ i m vs H, W i m vs H →
    (J.stop i H ∧ vs.length ≤ sizeLine ∧ ∀ p, H p = none → Q (.ref p) (upd H p (.lst vs))) ∨
    (J.go i H ∧ vs.length ≤ sizeLine ∧ ∃ N : List V → Hp → Prop, (∀ vs' H', N vs' H' → ∃ m', m' < m ∧ W (i + 1) m' vs' H') ∧ ∀ x H', J.yld i H x H' → g x (cbase k idx σ) H' fun σ2 H2 => tt σ2 H2 fun b H3 =>
      if b = true then te σ2 H3 fun v H4 => N (vs ++ [v]) H4 else N vs H3)
def GSet (k : Nat) (g : TG) : Prop := ∀ x σ H Q, g x σ H Q → g x σ H fun σ2 H2 => Q σ2 H2 ∧ σ2.length = σ.length ∧ ∀ j, k ≤ j → σ2[j]? = σ[j]?
theorem GSet.name {i k : Nat} (h : i < k) : GSet k (gName i) := fun x σ H Q q => ⟨q, by simp, fun j hj => by rw [List.getElem?_set_ne (by omega)]⟩
theorem cbase_low {k j : Nat} {idx : List Nat} {σ : St} {v : V} (h : (cbase k idx σ)[j]? = some (some v)) : k ≤ j := by
  by_cases hj : j < k
  · unfold cbase at h
    rw [List.getElem?_append_left (by rw [List.length_replicate]; exact hj), List.getElem?_replicate, if_pos hj] at h
    cases h
  · omega
theorem comp_block {elt target iter : Expr} {ifs : List Expr} {pos : Pos} {g : TG} {tt : TT} {te : TE} {E : Value → Shared → Prop} {it : Addr} {tnn : Nat → Heap → Prop} {J : It} {Q : VK} {RR : Value → Addr → Result → Shared → Prop}
    (hcalm : X.calm = true) (S : CompScope X scope tn cap idx) (hgs : GSet tn.length g)
    (hg : ∀ cs C fp s₀ H₀, PG (cxC X (tn ++ cap) scope cs C fp s₀ H₀) target g) (ht : ∀ cs C fp s₀ H₀, PTs (cxC X (tn ++ cap) scope cs C fp s₀ H₀) ifs tt)
    (he : ∀ cs C fp s₀ H₀, PE (cxC X (tn ++ cap) scope cs C fp s₀ H₀) elt te)
    (I : Inv X pins σ H s2) (T : Turn X.prog X.w X.K target J fp it tnn) (st2 : tnn 0 s2.heap) (f2 : ∀ b ∈ fp, FpOk X pins H b)
    (hW : ∃ W : Nat → Nat → List V → Hp → Prop, (∃ m, W 0 m [] H) ∧ ∀ i m vs H, W i m vs H →
      (J.stop i H ∧ vs.length ≤ sizeLine ∧ ∀ p, H p = none → Q (.ref p) (upd H p (.lst vs))) ∨
      (J.go i H ∧ vs.length ≤ sizeLine ∧ ∃ N : List V → Hp → Prop, (∀ vs' H', N vs' H' → ∃ m', m' < m ∧ W (i + 1) m' vs' H') ∧ ∀ x H', J.yld i H x H' → g x (cbase tn.length idx σ) H' fun σ2 H2 => tt σ2 H2 fun b H3 =>
        if b = true then te σ2 H3 fun v H4 => N (vs ++ [v]) H4 else N vs H3))
    (hRR : ∀ (s8 : Shared) (H8 : Hp) (C D : Addr) (m : Str → Option Value), Inv X pins σ H8 s8 → s8.heap.Ns C m → H8 C = none → s2.heap.objs.size ≤ C → Q (.ref D) H8 → RR (.ref D) C (.ok .next) s8) :
    wpAny (model X.prog X.w) X.A (newList []) (fun acc s₃ => wpAny (model X.prog X.w) X.A (newFunctionEnv scope X.env.globals (clFrom X.env scope.names []) [] X.env.qual none .none (some X.env)) (fun cenv s₄ =>
      codeAny (model X.prog X.w) X.A (.compStart (.ListComp elt [⟨target, iter, ifs, 0⟩] scope pos) 0 (.ref it) acc { cenv with scope := relabel scope X.env }) (RR acc cenv.locals) s₄) E s₃) E s2 := by
  obtain ⟨W, ⟨m0, w0⟩, turn⟩ := hW
  have hfl : ∀ b ∈ fp, b < s2.heap.objs.size := fun b hb => by
    obtain ⟨o, e, _⟩ := T.obj _ _ st2 b hb
    exact Heap.lt_size e
  have I4 := comp_start I S f2 hfl
  refine wpAny_newObj_type (wpAny_newEnv_comp ?_)
  have e1 : ({ s2 with heap := s2.heap.push cObjL } : Shared).heap.objs.size = s2.heap.objs.size + 1 := Heap.size_push ..
  rw [e1]
  generalize hX' : cxC X (tn ++ cap) scope (cCells X s2.heap scope) (s2.heap.objs.size + 1) fp s2 H = X' at I4
  have hA : X'.A = X.A := by subst hX'; rfl
  have hprog : X'.prog = X.prog := by subst hX'; rfl
  have hw : X'.w = X.w := by subst hX'; rfl
  have hK : X'.K = X.K := by subst hX'; rfl
  have hcal : X'.calm = true := by subst hX'; exact hcalm
  have hxe : X'.xe = fun _ _ => False := by subst hX'; rfl
  have hloc : X'.env.locals = s2.heap.objs.size + 1 := by subst hX'; rfl
  have hpn : X'.pn = [] := by subst hX'; rfl
  have hex : X'.ex = fp := by subst hX'; rfl
  have hs0 : X'.s₀ = s2 := by subst hX'; rfl
  have hg' : PG X' target g := by subst hX'; exact hg _ _ _ _ _
  have ht' : PTs X' ifs tt := by subst hX'; exact ht _ _ _ _ _
  have he' : PE X' elt te := by subst hX'; exact he _ _ _ _ _
  have henv : X'.env = { scope := relabel scope X.env, locals := s2.heap.objs.size + 1, globals := X.env.globals, cells := cCells X s2.heap scope, qual := X.env.qual, func := none, code := X.env.code, frame := X.env.frame, builtins := X.env.builtins } := by subst hX'; rfl
  let lo : List Value → Nat → Obj := fun its n => { cls := .type "list", data := .seq its.toArray n }
  have stat : ∀ {H' : Hp} {pl : List (Addr × Obj)}, (∀ b ∈ fp, H' b = none) → (∀ p ∈ pl, p.1 ∉ fp) → ∀ b ∈ fp, FpOk X' pl H' b := fun {H' pl} hn hp b hb => by
    have q := I4.ok.exf b (by rw [hex]; exact hb)
    have q2 := I4.ok.exfs b (by rw [hex]; exact hb)
    refine ⟨hn b hb, q.1, q2, .inl (by rw [hex]; exact hb), q.2, fun p hp' z => ?_⟩
    rw [hpn] at hp'
    exact hp p hp' (by rw [z]; exact hb)
  have Dfp : s2.heap.objs.size ∉ fp := fun z => Nat.lt_irrefl _ (hfl _ z)
  have D1 : ∀ (o : Obj), ∀ p ∈ [((s2.heap.objs.size : Addr), o)], p.1 ∉ fp := fun o p hp => by
    obtain rfl := List.mem_singleton.mp hp
    exact Dfp
  have loop : ∀ s3 : Shared, s3 = { s2 with heap := cHeap s2.heap scope } →
      codeAny (model X.prog X.w) X.A (.compLoop (.ListComp elt [⟨target, iter, ifs, 0⟩] scope pos) 0 (.ref it) (.ref s2.heap.objs.size) X'.env) (RR (.ref s2.heap.objs.size) (s2.heap.objs.size + 1)) s3 := by
    intro s3 hs3
    subst hs3
    refine compLoop_any (fun n s' => ∃ i vs its nn σ' H', Inv X' [(s2.heap.objs.size, lo its nn)] σ' H' s' ∧ (∀ (j : Nat) v, (cbase tn.length idx σ)[j]? = some (some v) → σ'[j]? = some (some v)) ∧ σ'.length = (cbase tn.length idx σ).length ∧ tnn i s'.heap ∧ (∀ b ∈ fp, H' b = none) ∧ Vals vs its ∧ W i n vs H') ?_ m0
      ⟨0, [], [], 0, _, H, I4, fun _ _ z => z, rfl, T.keep _ _ _ st2 (fun b hb o e => pushCells_keeps _ _ _ _ (Heap.get?_push_of_some _ (Heap.get?_push_of_some _ e))), fun b hb => (f2 b hb).1, .nil, w0⟩
    rintro n s' ⟨i, vs, its, nn, σ', H', I', hσ, hσl, st', fr', rv, w'⟩
    have I5 : Inv X' [(s2.heap.objs.size, lo its nn)] (cbase tn.length idx σ) H' s' := I'.weak hσl.symm hσ
    rcases turn i n vs H' w' with ⟨stop, hz, q⟩ | ⟨go, hz, N, hN, step⟩
    · -- it ends
      have td := T.done X' hprog hw hK hcal i _ s' _ H' (fun _ _ => False) I5 (stat fr' (D1 _)) st' stop
      rw [hA] at td
      refine thn td fun r s8 ⟨hr, I8⟩ => ?_
      subst hr
      obtain ⟨hp1, hp2, _⟩ := I8.pin (s2.heap.objs.size, lo its nn) (by rw [hpn]; exact List.mem_singleton.mpr rfl)
      have J8 : Inv X pins σ (upd H' s2.heap.objs.size (.lst vs)) s8 := by
        subst hX'
        exact comp_back I f2 I8 (Nat.le_refl _) hp2 hp1 rv hz
      obtain ⟨m, hm, _⟩ := I8.loc
      rw [hloc] at hm
      have hCf : H' (s2.heap.objs.size + 1) = none := by have := I8.free; rw [hloc] at this; exact this
      refine hRR s8 _ _ _ m J8 hm ?_ (Nat.le_succ _) (q _ hp2)
      rw [upd_ne (Nat.ne_of_gt (Nat.lt_succ_self _))]
      exact hCf
    · -- a turn
      have ti := T.item X' hprog hw hK hcal i _ s' _ H' (fun _ _ => False) I5 (stat fr' (D1 _)) st' go
      rw [hA] at ti
      refine thn ti fun r s5 ⟨u, hr, h5⟩ => ?_
      subst hr
      refine thn h5 fun _ s6 ⟨x, H6, I6, r6, y6, st6, fr6⟩ => ?_
      have I6' := I6.pinned (stat fr6 (D1 _)) (T.obj _ _ st6)
      have ag := hg' _ s6 _ H6 x u _ I6' r6 (hgs _ _ _ _ (step x H6 y6))
      rw [hprog, hw, hA, hxe] at ag
      refine thn ag fun _ s7 ⟨σ7, H7, I7, q7, hl7, hj7⟩ => ?_
      have at7 := ht' _ s7 σ7 H7 _ I7 q7
      rw [hprog, hw, hA, hxe] at at7
      refine thn at7 fun b s8 ⟨H8, I8, q8⟩ => ?_
      have again : ∀ {s9 : Shared} {H9 : Hp} {vs9 : List V} {its9 : List Value} {n9 : Nat}, Inv X' ([(s2.heap.objs.size, lo its9 n9)] ++ pinsAt fp s6.heap) σ7 H9 s9 → Vals vs9 its9 → N vs9 H9 →
          ∃ m, m < n ∧ ∃ i vs its nn σ' H', Inv X' [(s2.heap.objs.size, lo its nn)] σ' H' s9 ∧ (∀ (j : Nat) v, (cbase tn.length idx σ)[j]? = some (some v) → σ'[j]? = some (some v)) ∧ σ'.length = (cbase tn.length idx σ).length ∧ tnn i s9.heap ∧ (∀ b ∈ fp, H' b = none) ∧ Vals vs its ∧ W i m vs H' := by
        intro s9 H9 vs9 its9 n9 I9 r9 n9'
        obtain ⟨m', hm', w9⟩ := hN _ _ n9'
        refine ⟨m', hm', i + 1, vs9, its9, n9, σ7, H9, I9.unpinned, fun j v e => by rw [hj7 j (cbase_low e)]; exact e, hl7, T.keep _ _ _ st6 fun b hb o e => (I9.pin (b, o) (List.mem_append_right _ (List.mem_append_right _ (mem_pinsAt hb e)))).1, fun b hb => ?_, r9, w9⟩
        obtain ⟨o, e, d⟩ := T.obj _ _ st6 b hb
        exact (I9.pin (b, o) (List.mem_append_right _ (List.mem_append_right _ (mem_pinsAt hb e)))).2.1
      cases b with
      | false =>
        exact again I8 rv q8
      | true =>
        have ae := he' _ s8 σ7 H8 _ I8 q8
        rw [hprog, hw, hA, hxe] at ae
        refine thn ae fun xv s9 ⟨v9, H9, I9, r9, q9⟩ => ?_
        obtain ⟨hp1, hp2, hp3, hp4, _⟩ := I9.pin (s2.heap.objs.size, lo its nn) (List.mem_append_right _ (List.mem_append_left _ (List.mem_singleton.mpr rfl)))
        have rvl := rv.length
        refine append_at (hsz := by rw [List.size_toArray]; omega) hp1 fun h' hs' ho' => ?_
        have nfp : ∀ p ∈ pinsAt fp s6.heap, p.1 ≠ s2.heap.objs.size := fun p hp z => Dfp (by rw [← z]; exact (of_pinsAt hp).1)
        have I10 : Inv X' (pinsAt fp s6.heap) σ7 H9 s9 := I9.pins_of fun p hp => I9.pin p (List.mem_append_right _ (List.mem_append_right _ hp))
        have I11 : Inv X' (pinsAt fp s6.heap) σ7 H9 { s9 with heap := h' } := I10.turned (t' := s9.toks) (it := s2.heap.objs.size) (fun b o hb e => hs'.extBut b o hb e) hp2 hp3 (.inr (by rw [hs0]; exact Nat.le_refl _))
          (fun x c e z => by
            obtain ⟨v, o, q1, q2⟩ := I9.cell x c e
            rw [z, hp1] at q1
            cases q1
            cases q2) (fun p hp => by rw [hpn] at hp; exact nfp p hp)
        have eo : ({ cls := .type "list", data := .seq (its.toArray.push xv) (nn + 1) } : Obj) = lo (its ++ [xv]) (nn + 1) := by
          show ({ cls := .type "list", data := .seq (its.toArray.push xv) (nn + 1) } : Obj) = { cls := .type "list", data := .seq (its ++ [xv]).toArray (nn + 1) }
          rw [List.push_toArray]
        refine again (vs9 := vs ++ [v9]) (its9 := its ++ [xv]) (n9 := nn + 1) (I11.pins_of fun p hp => ?_) (rv.append (.cons r9 .nil)) q9
        rcases List.mem_append.mp hp with hp | hp
        · obtain rfl := List.mem_singleton.mp hp
          refine ⟨ho'.trans (congrArg some eo), hp2, hp3, hp4, fun v z => ?_⟩
          have z' : Data.seq _ _ = Data.cell v := z
          cases z'
        · exact I11.pin p (List.mem_append_right _ hp)
  refine codeAny_compStart_list ?_ ?_
  · have := loop _ rfl
    rw [henv] at this
    exact this
  · refine T.self _ 0 _ _ _ (T.keep _ _ _ st2 (fun b hb o e => pushCells_keeps _ _ _ _ (Heap.get?_push_of_some _ (Heap.get?_push_of_some _ e)))) ?_
    have := loop _ rfl
    rw [henv] at this
    exact this
theorem clos_eq (I : Inv X pins σ H s2) (S : CompScope X scope tn cap idx) : closureFor scope X.env = pure (clFrom X.env scope.names []) :=
  closureFor_eq fun n hm => I.ok.has n (S.fr _ hm rfl)
theorem names_ok (S : CompScope X scope tn cap idx) : ∀ x ∈ scope.names, x.2 = .local → scope.names.lookup x.1 = some .local := fun x hx e => by
  obtain ⟨n, k⟩ := x
  have e' : k = NameKind.local := e
  subst e'
  exact lookup_nd S.nd hx
theorem pe_comp {elt target iter : Expr} {ifs : List Expr} {pos : Pos} {wi : TI} {g : TG} {tt : TT} {te : TE} (hcalm : X.calm = true) (S : CompScope X scope tn cap idx) (hi : PI X target iter wi) (hgs : GSet tn.length g)
    (hg : ∀ cs C fp s₀ H₀, PG (cxC X (tn ++ cap) scope cs C fp s₀ H₀) target g) (ht : ∀ cs C fp s₀ H₀, PTs (cxC X (tn ++ cap) scope cs C fp s₀ H₀) ifs tt)
    (he : ∀ cs C fp s₀ H₀, PE (cxC X (tn ++ cap) scope cs C fp s₀ H₀) elt te) (hs : ∀ x, foldedSetIterable iter X.env x = pure x := by intro _; rfl) :
    PE X (.ListComp elt [⟨target, iter, ifs, 0⟩] scope pos) (tComp wi g tt te tn.length idx) := by
  intro pins s σ H Q I h
  rw [eval_ListComp]
  refine wpAny_comprehension_free (use := none) rfl hs (clos_eq I S) S.kind (names_ok S) (thn (hi pins s σ H _ I h) fun v s1 h1 => thn h1 fun itv s2 h2 => ?_)
  obtain ⟨it, fp, tnn, J, H2, e, I2, T, st2, f2, hW⟩ := h2
  subst e
  refine comp_block hcalm S hgs hg ht he I2 T st2 f2 hW fun s8 H8 C D m I8 hm hC hsz q => ?_
  refine ⟨m, hm, fun h' hs' => ⟨.ref D, H8, ?_, rfl, q⟩⟩
  exact I8.turned (t' := s8.toks) (it := C) (fun b o hb e => hs'.extBut b o hb e) hC (fun z => absurd I2.lt (by rw [← z]; exact Nat.not_lt.mpr hsz)) (.inr (Nat.le_trans I2.sz hsz))
    (fun x c e z => by
      obtain ⟨v, q⟩ := I2.cell x c e
      exact absurd q.lt (by rw [z]; exact Nat.not_lt.mpr hsz)) (fun p hp z => absurd (Heap.lt_size (I2.pin p hp).1) (by rw [z]; exact Nat.not_lt.mpr hsz))
theorem ps_setC {elt target iter : Expr} {ifs : List Expr} {pos spos py : Pos} {wi : TI} {g : TG} {tt : TT} {te : TE} {i : Nat} {y : Str} (hcalm : X.calm = true) (S : CompScope X scope tn cap idx) (hN : X.N.Nodup) (hy : X.N[i]? = some y) (hx : Loc X.env.scope y)
    (hi : PI X target iter wi) (hgs : GSet tn.length g)
    (hg : ∀ cs C fp s₀ H₀, PG (cxC X (tn ++ cap) scope cs C fp s₀ H₀) target g) (ht : ∀ cs C fp s₀ H₀, PTs (cxC X (tn ++ cap) scope cs C fp s₀ H₀) ifs tt)
    (he : ∀ cs C fp s₀ H₀, PE (cxC X (tn ++ cap) scope cs C fp s₀ H₀) elt te)
    (hsw : swapsWith (.ListComp elt [⟨target, iter, ifs, 0⟩] scope pos) (some (.Name y py)) spos.line X.env = pure true := by rfl) (hs : ∀ x, foldedSetIterable iter X.env x = pure x := by intro _; rfl)
    (hf : X.fn y = true ∨ X.env.scope.names.lookup y = some .local := by first | exact .inl rfl | exact .inr rfl | assumption) :
    PS X (.Assign [.Name y py] (.ListComp elt [⟨target, iter, ifs, 0⟩] scope pos) spos) (tAsg (tComp wi g tt te tn.length idx) (gName i)) := by
  intro pins s σ H D I h
  rw [exec_Assign_Name_used _ _ _ _ hsw]
  refine wpAny_bind (wpAny_standAt (wpAny_bind ?_))
  show wpAny _ X.A (do let _ ← comprehension (.ListComp elt [⟨target, iter, ifs, 0⟩] scope pos) scope X.env _ (newList []) false (eval iter X.env) (some (assign (.Name y py) X.env))) _ _ s
  refine wpAny_bind (wpAny_mono (wpAny_comprehension_free (use := some (assign (.Name y py) X.env)) (Q := fun _ s' => SP X pins D .next s') rfl hs (clos_eq I S) S.kind (names_ok S)
    (thn (hi pins s σ H _ I h) fun v s1 h1 => thn h1 fun itv s2 h2 => ?_)) (fun _ s' hq => wpAny_pure (wpAny_pure hq)) fun _ _ e => e)
  obtain ⟨it, fp, tnn, J, H2, e, I2, T, st2, f2, hW⟩ := h2
  subst e
  refine comp_block (Q := fun x H1 => gName i x σ H1 D.nx) hcalm S hgs hg ht he I2 T st2 f2 hW fun s8 H8 C DD m I8 hm hC hsz q => ?_
  show wpAny _ X.A (assign (.Name y py) X.env (.ref DD)) _ _ _
  have CL : C ≠ X.env.locals := fun z => absurd I2.lt (by rw [← z]; exact Nat.not_lt.mpr hsz)
  have CC : ∀ x c, X.env.cells.lookup x = some c → c ≠ C := fun x c e z => by
    obtain ⟨v, q⟩ := I2.cell x c e
    exact absurd q.lt (by rw [z]; exact Nat.not_lt.mpr hsz)
  refine wpAny_assign_Name (store_ok2 (v := .ref DD) I8 hN hy hx rfl (fun s9 I9 ⟨a, hsb, ha⟩ => ?_) hf)
  have aC : C ≠ a := fun z => by
    rcases ha with e | e
    · exact CL (z.trans e)
    · exact CC _ _ e z.symm
  refine ⟨m, hm.sameBut hsb aC, fun h' hs' => ⟨_, H8, ?_, q⟩⟩
  exact I9.turned (t' := s9.toks) (it := C) (fun b o hb e => hs'.extBut b o hb e) hC CL (.inr (Nat.le_trans I2.sz hsz)) CC (fun p hp z => absurd (Heap.lt_size (I2.pin p hp).1) (by rw [z]; exact Nat.not_lt.mpr hsz))
end
theorem PE.imp {X : Cx} {e : Expr} {t t' : TE} (h : PE X e t) (q : ∀ σ H Q, t' σ H Q → t σ H Q) : PE X e t' := fun pins s σ H Q I z => h pins s σ H Q I (q σ H Q z)
theorem PS.imp {X : Cx} {e : Stmt} {t t' : TS} (h : PS X e t) (q : ∀ D σ H, t' D σ H → t D σ H) : PS X e t' := fun pins s σ H D I z => h pins s σ H D I (q D σ H z)
def CompGo (J : It) (g : TG) (te : TE) (k : Nat) (idx : List Nat) (σ : St) (H1 : Hp) (Q : VK) : Prop :=
  ∃ W : Nat → Nat → List V → Hp → Prop, (∃ m, W 0 m [] H1) ∧ ∀ i m vs H, W i m vs H →
    (J.stop i H ∧ vs.length ≤ sizeLine ∧ ∀ p, H p = none → Q (.ref p) (upd H p (.lst vs))) ∨
    (J.go i H ∧ vs.length ≤ sizeLine ∧ ∃ N : List V → Hp → Prop, (∀ vs' H', N vs' H' → ∃ m', m' < m ∧ W (i + 1) m' vs' H') ∧ ∀ x H', J.yld i H x H' → g x (cbase k idx σ) H' fun σ2 H2 => te σ2 H2 fun v H4 => N (vs ++ [v]) H4)
def tComp0 (wi : TI) (g : TG) (te : TE) (k : Nat) (idx : List Nat) : TE := fun σ H Q => wi σ H fun J H1 => CompGo J g te k idx σ H1 Q
theorem tComp0_eq {wi : TI} {g : TG} {te : TE} {k : Nat} {idx : List Nat} : tComp0 wi g te k idx = tComp wi g tYes te k idx := by
  have e : ∀ (A B : Prop), (if true = true then A else B) = A := fun A B => if_pos rfl
  unfold tComp0 CompGo tComp tYes
  simp only [if_true]
section
variable {X : Cx} {scope : Scope} {tn cap : List Str} {idx : List Nat}
theorem pe_comp0 {elt target iter : Expr} {pos : Pos} {wi : TI} {g : TG} {te : TE} (S : CompScope X scope tn cap idx) (hi : PI X target iter wi) (hgs : GSet tn.length g)
    (hg : ∀ cs C fp s₀ H₀, PG (cxC X (tn ++ cap) scope cs C fp s₀ H₀) target g)
    (he : ∀ cs C fp s₀ H₀, PE (cxC X (tn ++ cap) scope cs C fp s₀ H₀) elt te) (hcalm : X.calm = true := by rfl) (hs : ∀ x, foldedSetIterable iter X.env x = pure x := by intro _; rfl) :
    PE X (.ListComp elt [⟨target, iter, [], 0⟩] scope pos) (tComp0 wi g te tn.length idx) := by
  rw [tComp0_eq]
  exact pe_comp hcalm S hi hgs hg (fun _ _ _ _ _ => pts_nil) he hs
theorem ps_setC0 {elt target iter : Expr} {pos spos py : Pos} {wi : TI} {g : TG} {te : TE} {i : Nat} {y : Str} (S : CompScope X scope tn cap idx) (hN : X.N.Nodup) (hy : X.N[i]? = some y) (hx : Loc X.env.scope y)
    (hi : PI X target iter wi) (hgs : GSet tn.length g)
    (hg : ∀ cs C fp s₀ H₀, PG (cxC X (tn ++ cap) scope cs C fp s₀ H₀) target g)
    (he : ∀ cs C fp s₀ H₀, PE (cxC X (tn ++ cap) scope cs C fp s₀ H₀) elt te) (hcalm : X.calm = true := by rfl)
    (hsw : swapsWith (.ListComp elt [⟨target, iter, [], 0⟩] scope pos) (some (.Name y py)) spos.line X.env = pure true := by rfl) (hs : ∀ x, foldedSetIterable iter X.env x = pure x := by intro _; rfl)
    (hf : X.fn y = true ∨ X.env.scope.names.lookup y = some .local := by first | exact .inl rfl | exact .inr rfl | assumption) :
    PS X (.Assign [.Name y py] (.ListComp elt [⟨target, iter, [], 0⟩] scope pos) spos) (tAsg (tComp0 wi g te tn.length idx) (gName i)) := by
  rw [tComp0_eq]
  exact ps_setC hcalm S hN hy hx hi hgs hg (fun _ _ _ _ _ => pts_nil) he hsw hs hf
end
end L2
set_option Elab.async false
set_option linter.all false
set_option maxRecDepth 100000
set_option maxHeartbeats 4000000
namespace L2
open PySem PySem.Spec PyProof.Rows
inductive D where
  | non | bl (b : Bool) | int (i : Int) | str (x : Str) | lst (ds : List D) | tup (ds : List D)
mutual
def Rf (H : Hp) : D → V → List Addr → Prop
  | .non, v, fp => v = .non ∧ fp = []
  | .bl b, v, fp => v = .bl b ∧ fp = []
  | .int i, v, fp => v = .int i ∧ fp = []
  | .str x, v, fp => v = .str x ∧ fp = []
  | .lst ds, v, fp => ∃ a xs fq, v = .ref a ∧ H a = some (.lst xs) ∧ fp = a :: fq ∧ Rfs H ds xs fq
  | .tup ds, v, fp => ∃ a xs, v = .ref a ∧ H a = some (.tup xs) ∧ Rfs H ds xs fp
def Rfs (H : Hp) : List D → List V → List Addr → Prop
  | [], xs, fp => xs = [] ∧ fp = []
  | d :: ds, xs, fp => ∃ x r f1 f2, xs = x :: r ∧ fp = f1 ++ f2 ∧ Rf H d x f1 ∧ Rfs H ds r f2
end
def Rp (H : Hp) (d : D) (v : V) : Prop := ∃ fp, Rf H d v fp
mutual
theorem Rf.mono {H H' : Hp} : ∀ {d : D} {v : V} {fp : List Addr}, Rf H d v fp → (∀ a ∈ fp, ∀ o, H a = some o → H' a = some o) → (∀ a xs, H a = some (.tup xs) → H' a = some (.tup xs)) → Rf H' d v fp
  | .non, _, _, h, _, _ => h
  | .bl _, _, _, h, _, _ => h
  | .int _, _, _, h, _, _ => h
  | .str _, _, _, h, _, _ => h
  | .lst ds, v, fp, h, k, t => by
    obtain ⟨a, xs, fq, e1, e2, e3, h⟩ := h
    subst e3
    exact ⟨a, xs, fq, e1, k a List.mem_cons_self _ e2, rfl, Rfs.mono h (fun b hb => k b (List.mem_cons_of_mem _ hb)) t⟩
  | .tup ds, v, fp, h, k, t => by
    obtain ⟨a, xs, e1, e2, h⟩ := h
    exact ⟨a, xs, e1, t a xs e2, Rfs.mono h k t⟩
theorem Rfs.mono {H H' : Hp} : ∀ {ds : List D} {vs : List V} {fp : List Addr}, Rfs H ds vs fp → (∀ a ∈ fp, ∀ o, H a = some o → H' a = some o) → (∀ a xs, H a = some (.tup xs) → H' a = some (.tup xs)) → Rfs H' ds vs fp
  | [], _, _, h, _, _ => h
  | d :: ds, vs, fp, h, k, t => by
    obtain ⟨x, r, f1, f2, e1, e2, h1, h2⟩ := h
    subst e2
    exact ⟨x, r, f1, f2, e1, rfl, Rf.mono h1 (fun b hb => k b (List.mem_append_left _ hb)) t, Rfs.mono h2 (fun b hb => k b (List.mem_append_right _ hb)) t⟩
end
mutual
theorem Rf.dom {H : Hp} : ∀ {d : D} {v : V} {fp : List Addr}, Rf H d v fp → ∀ a ∈ fp, ∃ xs, H a = some (.lst xs)
  | .non, _, _, h, a, ha => by obtain ⟨_, rfl⟩ := h; nomatch ha
  | .bl _, _, _, h, a, ha => by obtain ⟨_, rfl⟩ := h; nomatch ha
  | .int _, _, _, h, a, ha => by obtain ⟨_, rfl⟩ := h; nomatch ha
  | .str _, _, _, h, a, ha => by obtain ⟨_, rfl⟩ := h; nomatch ha
  | .lst ds, v, fp, h, b, hb => by
    obtain ⟨a, xs, fq, e1, e2, e3, h⟩ := h
    subst e3
    rcases List.mem_cons.mp hb with e | hb
    · subst e; exact ⟨xs, e2⟩
    · exact Rfs.dom h b hb
  | .tup ds, v, fp, h, b, hb => by
    obtain ⟨a, xs, e1, e2, h⟩ := h
    exact Rfs.dom h b hb
theorem Rfs.dom {H : Hp} : ∀ {ds : List D} {vs : List V} {fp : List Addr}, Rfs H ds vs fp → ∀ a ∈ fp, ∃ xs, H a = some (.lst xs)
  | [], _, _, h, a, ha => by obtain ⟨_, rfl⟩ := h; nomatch ha
  | d :: ds, vs, fp, h, b, hb => by
    obtain ⟨x, r, f1, f2, e1, e2, h1, h2⟩ := h
    subst e2
    rcases List.mem_append.mp hb with hb | hb
    · exact Rf.dom h1 b hb
    · exact Rfs.dom h2 b hb
end
theorem Rf.upd {H : Hp} {d : D} {v : V} {fp : List Addr} {l : Addr} {o : HO} (h : Rf H d v fp) (hl : l ∉ fp) (hm : ∀ xs, H l ≠ some (.tup xs)) : Rf (upd H l o) d v fp :=
  h.mono (fun a ha u e => by rw [upd_ne (fun z => hl (by rw [← z]; exact ha))]; exact e) fun a xs e => by rw [upd_ne (fun z => hm xs (by rw [← z]; exact e))]; exact e
theorem Rfs.length {H : Hp} : ∀ {ds : List D} {vs : List V} {fp : List Addr}, Rfs H ds vs fp → vs.length = ds.length
  | [], _, _, h => by obtain ⟨rfl, _⟩ := h; rfl
  | d :: ds, vs, fp, h => by
    obtain ⟨x, r, f1, f2, e1, e2, h1, h2⟩ := h
    subst e1
    rw [List.length_cons, List.length_cons, Rfs.length h2]
theorem Rfs.append {H : Hp} : ∀ {ds es : List D} {vs ws : List V} {fp fq : List Addr}, Rfs H ds vs fp → Rfs H es ws fq → Rfs H (ds ++ es) (vs ++ ws) (fp ++ fq)
  | [], es, vs, ws, fp, fq, h, h' => by obtain ⟨rfl, rfl⟩ := h; exact h'
  | d :: ds, es, vs, ws, fp, fq, h, h' => by
    obtain ⟨x, r, f1, f2, rfl, rfl, h1, h2⟩ := h
    exact ⟨x, r ++ ws, f1, f2 ++ fq, rfl, List.append_assoc .., h1, Rfs.append h2 h'⟩
theorem Rfs.get {H : Hp} : ∀ {ds : List D} {vs : List V} {fp : List Addr} {i : Nat} {d : D}, Rfs H ds vs fp → ds[i]? = some d → ∃ v f, vs[i]? = some v ∧ Rf H d v f ∧ (∀ a ∈ f, a ∈ fp)
  | [], _, _, _, _, _, e => by simp at e
  | d :: ds, vs, fp, 0, d', h, e => by
    obtain ⟨x, r, f1, f2, rfl, rfl, h1, h2⟩ := h
    simp at e; subst e
    exact ⟨x, f1, rfl, h1, fun a ha => List.mem_append_left _ ha⟩
  | d :: ds, vs, fp, i + 1, d', h, e => by
    obtain ⟨x, r, f1, f2, rfl, rfl, h1, h2⟩ := h
    obtain ⟨v, f, e1, h3, k⟩ := Rfs.get (i := i) h2 (by simpa using e)
    exact ⟨v, f, by simpa using e1, h3, fun a ha => List.mem_append_right _ (k a ha)⟩
abbrev dI (xs : List Int) : D := .lst (xs.map D.int)
abbrev dT (t : List (List Int)) : D := .lst (t.map dI)
inductive Rows (H : Hp) : List (List Int) → List Addr → Prop where
  | nil : Rows H [] []
  | cons {xs : List Int} {t : List (List Int)} {a : Addr} {as : List Addr} : H a = some (.lst (xs.map V.int)) → Rows H t as → Rows H (xs :: t) (a :: as)
theorem Rows.length {H : Hp} {t : List (List Int)} {as : List Addr} (h : Rows H t as) : as.length = t.length := by
  induction h with
  | nil => rfl
  | cons _ _ ih => rw [List.length_cons, List.length_cons, ih]
theorem Rows.mono {H H' : Hp} {t : List (List Int)} {as : List Addr} (h : Rows H t as) (k : ∀ a ∈ as, ∀ o, H a = some o → H' a = some o) : Rows H' t as := by
  induction h with
  | nil => exact .nil
  | cons e _ ih => exact .cons (k _ List.mem_cons_self _ e) (ih fun a ha => k a (List.mem_cons_of_mem _ ha))
end L2
set_option Elab.async false
set_option linter.all false
set_option maxRecDepth 100000
set_option maxHeartbeats 4000000
namespace L2
open PySem PySem.Spec PyProof.Rows
section
variable {X : Cx}
theorem ints_are : ∀ {xs : List Int} {us : List Value}, Vals (xs.map V.int) us → IntsAre us xs
  | [], us, r => by cases r; exact .nil
  | x :: xs, us, r => by
    cases r with
    | cons r rr =>
      obtain ⟨t, rfl⟩ := r
      exact .cons _ _ (ints_are rr)
theorem call_sum (hc : X.calm = true) : CallR X (.builtin "sum") (fun xs H Q => ∃ (a : Addr) (ns : List Int), xs = [.ref a] ∧ SqL X.K H a (ns.map V.int) ∧ Q (.int ns.sum) H) := by
  intro pins s σ H xs us Q I r h
  obtain ⟨a, ns, rfl, hS, q⟩ := h
  obtain ⟨u, rfl, ru⟩ := vals1 r
  obtain rfl : u = Value.ref a := ru
  obtain ⟨its, rv, pl, hz⟩ := I.list hS
  have hi := ints_are rv
  obtain ⟨xs', e⟩ := hi.allInts.items
  have hl : s.heap.IsList a (intItems xs') := by rw [← e]; exact pl.isList
  refine sum_intListG (I.ok.hd hc) hl fun h' tk t' hk => ⟨.int ns.sum, H, I.kept hk, ⟨t', ?_⟩, q⟩
  have e2 : numsOf its.toArray.toList = ns := hi.numsOf
  rw [e, nums_intItems] at e2
  rw [preSum_eq, List.take_of_length_le (by simp), e2]
end
section
variable {X : Cx}
end
mutual
def D.plain : D → Bool
  | .non => true | .bl _ => false | .int _ => true | .str _ => true
  | .lst ds => D.plains ds | .tup ds => D.plains ds
def D.plains : List D → Bool
  | [] => true
  | d :: ds => D.plain d && D.plains ds
end
mutual
def D.depth : D → Nat
  | .lst ds => D.depths ds + 1 | .tup ds => D.depths ds + 1
  | _ => 0
def D.depths : List D → Nat
  | [] => 0
  | d :: ds => max (D.depth d) (D.depths ds)
end
mutual
def D.eqb : D → D → Bool
  | .non, .non => true
  | .int i, .int j => i == j
  | .str i, .str j => i == j
  | .lst a, .lst b => D.eqbs a b
  | .tup a, .tup b => D.eqbs a b
  | _, _ => false
def D.eqbs : List D → List D → Bool
  | [], [] => true
  | a :: as, b :: bs => D.eqb a b && D.eqbs as bs
  | _, _ => false
end
theorem D.eqbs_iff : ∀ {a b : List D}, D.eqbs a b = (decide (a.length = b.length) && (List.range a.length).all fun i => match a[i]?, b[i]? with | some x, some y => D.eqb x y | _, _ => false)
  | [], [] => rfl
  | [], b :: bs => by simp [D.eqbs]
  | a :: as, [] => by simp [D.eqbs]
  | a :: as, b :: bs => by
    rw [D.eqbs, D.eqbs_iff (a := as) (b := bs), List.length_cons, List.range_succ_eq_map, List.all_cons, List.all_map]
    by_cases h : as.length = bs.length
    · simp [h, Function.comp_def]
    · simp [h]
end L2
set_option Elab.async false
set_option linter.all false
set_option maxRecDepth 100000
set_option maxHeartbeats 4000000
namespace L2
open PySem PySem.Spec PyProof.Rows
open PySem.SeqAt
theorem D.plains_get : ∀ {ds : List D} {i : Nat} {d : D}, D.plains ds = true → ds[i]? = some d → d.plain = true
  | [], i, d, _, e => by simp at e
  | c :: ds, 0, d, h, e => by
    simp at e; subst e
    rw [D.plains, Bool.and_eq_true] at h
    exact h.1
  | c :: ds, i + 1, d, h, e => by
    rw [D.plains, Bool.and_eq_true] at h
    exact D.plains_get (i := i) h.2 (by simpa using e)
theorem D.depths_get : ∀ {ds : List D} {i : Nat} {d : D}, ds[i]? = some d → d.depth ≤ D.depths ds
  | [], i, d, e => by simp at e
  | c :: ds, 0, d, e => by
    simp at e; subst e
    rw [D.depths]
    exact Nat.le_max_left _ _
  | c :: ds, i + 1, d, e => by
    rw [D.depths]
    exact Nat.le_trans (D.depths_get (i := i) (by simpa using e)) (Nat.le_max_right _ _)
theorem D.eqbs_all {a b : List D} (hl : a.length = b.length) (f : Nat → Bool) (h : ∀ i x y, a[i]? = some x → b[i]? = some y → f i = D.eqb x y) : D.eqbs a b = (List.range a.length).all f := by
  rw [D.eqbs_iff, decide_eq_true hl, Bool.true_and, Bool.eq_iff_iff]
  simp only [List.all_eq_true, List.mem_range]
  constructor
  · intro q i hi
    have := q i hi
    rw [List.getElem?_eq_getElem hi, List.getElem?_eq_getElem (show i < b.length by omega)] at this
    rw [h i _ _ (List.getElem?_eq_getElem hi) (List.getElem?_eq_getElem (show i < b.length by omega))]
    exact this
  · intro q i hi
    have := q i hi
    rw [h i _ _ (List.getElem?_eq_getElem hi) (List.getElem?_eq_getElem (show i < b.length by omega))] at this
    rw [List.getElem?_eq_getElem hi, List.getElem?_eq_getElem (show i < b.length by omega)]
    exact this
theorem D.eqbs_len {a b : List D} (hl : a.length ≠ b.length) : D.eqbs a b = false := by
  rw [D.eqbs_iff, decide_eq_false hl, Bool.false_and]
theorem eqb_one {H : Hp} : ∀ (n : Nat) (d e : D) (v : V), d.depth ≤ n → Rp H d v → Rp H e v → d.plain = true → D.eqb d e = true := by
  intro n
  induction n with
  | zero =>
    intro d e v hn hd he hp
    obtain ⟨f, hd⟩ := hd
    obtain ⟨g, he⟩ := he
    cases d with
    | non => obtain ⟨rfl, _⟩ := hd; cases e with
      | non => rfl
      | lst ds => obtain ⟨_, _, _, z, _⟩ := he; cases z
      | tup ds => obtain ⟨_, _, z, _⟩ := he; cases z
      | _ => obtain ⟨z, _⟩ := he; cases z
    | bl b => cases hp
    | int i => obtain ⟨rfl, _⟩ := hd; cases e with
      | int j => obtain ⟨z, _⟩ := he; cases z; simp [D.eqb]
      | lst ds => obtain ⟨_, _, _, z, _⟩ := he; cases z
      | tup ds => obtain ⟨_, _, z, _⟩ := he; cases z
      | _ => obtain ⟨z, _⟩ := he; cases z
    | str i => obtain ⟨rfl, _⟩ := hd; cases e with
      | str j => obtain ⟨z, _⟩ := he; cases z; simp [D.eqb]
      | lst ds => obtain ⟨_, _, _, z, _⟩ := he; cases z
      | tup ds => obtain ⟨_, _, z, _⟩ := he; cases z
      | _ => obtain ⟨z, _⟩ := he; cases z
    | lst ds => rw [D.depth] at hn; omega
    | tup ds => rw [D.depth] at hn; omega
  | succ n ih =>
    intro d e v hn hd he hp
    have go : ∀ (ds es : List D) (xs : List V) (f g : List Addr), D.depths ds ≤ n → Rfs H ds xs f → Rfs H es xs g → D.plains ds = true → D.eqbs ds es = true := by
      intro ds es xs f g hn h1 h2 hp
      have l1 := h1.length
      have l2 := h2.length
      rw [D.eqbs_all (by omega) (fun _ => true) (fun i x y e1 e2 => ?_)]
      · simp
      · obtain ⟨v1, f1, q1, r1, _⟩ := h1.get e1
        obtain ⟨v2, f2, q2, r2, _⟩ := h2.get e2
        rw [q1] at q2; cases q2
        exact (ih x y v1 (Nat.le_trans (D.depths_get e1) hn) ⟨_, r1⟩ ⟨_, r2⟩ (D.plains_get hp e1)).symm
    obtain ⟨f, hd⟩ := hd
    obtain ⟨g, he⟩ := he
    cases d with
    | non => obtain ⟨rfl, _⟩ := hd; cases e with
      | non => rfl
      | lst ds => obtain ⟨_, _, _, z, _⟩ := he; cases z
      | tup ds => obtain ⟨_, _, z, _⟩ := he; cases z
      | _ => obtain ⟨z, _⟩ := he; cases z
    | bl b => cases hp
    | int i => obtain ⟨rfl, _⟩ := hd; cases e with
      | int j => obtain ⟨z, _⟩ := he; cases z; simp [D.eqb]
      | lst ds => obtain ⟨_, _, _, z, _⟩ := he; cases z
      | tup ds => obtain ⟨_, _, z, _⟩ := he; cases z
      | _ => obtain ⟨z, _⟩ := he; cases z
    | str i => obtain ⟨rfl, _⟩ := hd; cases e with
      | str j => obtain ⟨z, _⟩ := he; cases z; simp [D.eqb]
      | lst ds => obtain ⟨_, _, _, z, _⟩ := he; cases z
      | tup ds => obtain ⟨_, _, z, _⟩ := he; cases z
      | _ => obtain ⟨z, _⟩ := he; cases z
    | lst ds =>
      obtain ⟨a, xs, fq, rfl, e1, rfl, hd⟩ := hd
      cases e with
      | lst es =>
        obtain ⟨b, ys, gq, z, e2, rfl, he⟩ := he
        cases z
        rw [e1] at e2; cases e2
        rw [D.eqb]
        exact go ds es xs fq gq (by rw [D.depth] at hn; omega) hd he hp
      | tup es =>
        obtain ⟨b, ys, z, e2, he⟩ := he
        cases z
        rw [e1] at e2; cases e2
      | _ => obtain ⟨z, _⟩ := he; cases z
    | tup ds =>
      obtain ⟨a, xs, rfl, e1, hd⟩ := hd
      cases e with
      | tup es =>
        obtain ⟨b, ys, z, e2, he⟩ := he
        cases z
        rw [e1] at e2; cases e2
        rw [D.eqb]
        exact go ds es xs f g (by rw [D.depth] at hn; omega) hd he hp
      | lst es =>
        obtain ⟨b, ys, gq, z, e2, rfl, he⟩ := he
        cases z
        rw [e1] at e2; cases e2
      | _ => obtain ⟨z, _⟩ := he; cases z
theorem eqAt_D {X : Cx} {pins : List (Addr × Obj)} {σ : St} {H : Hp} {s : Shared} (I : Inv X pins σ H s) : ∀ (n : Nat) (d e : D) (x y : V) (u w : Value) (A : Around), d.depth ≤ n → Rp H d x → Rp H e y → RelV x u → RelV y w → d.plain = true → e.plain = true → A.units + n < cLine →
    EqAt A s u w (D.eqb d e) := by
  intro n
  induction n with
  | zero =>
    intro d e x y u w A hn hd he rx ry pd pe hu
    obtain ⟨f, hd⟩ := hd
    obtain ⟨g, he⟩ := he
    have hu' : A.units < cLine := by omega
    cases d with
    | non =>
      obtain ⟨rfl, _⟩ := hd; obtain rfl : u = .none := rx
      cases e with
      | non => obtain ⟨rfl, _⟩ := he; obtain rfl : w = .none := ry; exact EqAt.same _
      | bl b => cases pe
      | int j => obtain ⟨rfl, _⟩ := he; obtain ⟨t, rfl⟩ := ry; exact EqAt.none_int _ _
      | str j => obtain ⟨rfl, _⟩ := he; obtain ⟨t, rfl⟩ := ry; exact EqAt.none_str _ _
      | lst es => obtain ⟨b, ys, gq, rfl, e2, _, he⟩ := he; obtain rfl : w = .ref b := ry; obtain ⟨_, _, pl, _⟩ := I.list (SqL.of e2); exact EqAt.none_list pl.isList hu'
      | tup es => obtain ⟨b, ys, rfl, e2, he⟩ := he; obtain rfl : w = .ref b := ry; obtain ⟨_, _, pl, _⟩ := I.tuple (SqT.of e2); exact EqAt.none_tuple pl hu'
    | bl b => cases pd
    | int i =>
      obtain ⟨rfl, _⟩ := hd; obtain ⟨t0, rfl⟩ := rx
      cases e with
      | non => obtain ⟨rfl, _⟩ := he; obtain rfl : w = .none := ry; exact EqAt.int_none _ _
      | bl b => cases pe
      | int j => obtain ⟨rfl, _⟩ := he; obtain ⟨t, rfl⟩ := ry; exact EqAt.int_int _ _ _ _
      | str j => obtain ⟨rfl, _⟩ := he; obtain ⟨t, rfl⟩ := ry; exact EqAt.int_str _ _ _ _
      | lst es => obtain ⟨b, ys, gq, rfl, e2, _, he⟩ := he; obtain rfl : w = .ref b := ry; obtain ⟨_, _, pl, _⟩ := I.list (SqL.of e2); exact EqAt.int_list _ _ pl.isList hu'
      | tup es => obtain ⟨b, ys, rfl, e2, he⟩ := he; obtain rfl : w = .ref b := ry; obtain ⟨_, _, pl, _⟩ := I.tuple (SqT.of e2); exact EqAt.int_tuple _ _ pl hu'
    | str i =>
      obtain ⟨rfl, _⟩ := hd; obtain ⟨t0, rfl⟩ := rx
      cases e with
      | non => obtain ⟨rfl, _⟩ := he; obtain rfl : w = .none := ry; exact EqAt.str_none _ _
      | bl b => cases pe
      | int j => obtain ⟨rfl, _⟩ := he; obtain ⟨t, rfl⟩ := ry; exact EqAt.str_int _ _ _ _
      | str j => obtain ⟨rfl, _⟩ := he; obtain ⟨t, rfl⟩ := ry; exact EqAt.str_str _ _ _ _
      | lst es => obtain ⟨b, ys, gq, rfl, e2, _, he⟩ := he; obtain rfl : w = .ref b := ry; obtain ⟨_, _, pl, _⟩ := I.list (SqL.of e2); exact EqAt.str_list _ _ pl.isList hu'
      | tup es => obtain ⟨b, ys, rfl, e2, he⟩ := he; obtain rfl : w = .ref b := ry; obtain ⟨_, _, pl, _⟩ := I.tuple (SqT.of e2); exact EqAt.str_tuple _ _ pl hu'
    | lst ds => rw [D.depth] at hn; omega
    | tup ds => rw [D.depth] at hn; omega
  | succ n ih =>
    intro d e x y u w A hn hd he rx ry pd pe hu
    have hu' : A.units < cLine := by omega
    have ud : A.in1.units + n < cLine := by show A.units + 1 + n < cLine; omega
    cases d with
    | non => exact ih _ _ x y u w A (by simp [D.depth]) hd he rx ry pd pe (by omega)
    | bl b => cases pd
    | int i => exact ih _ _ x y u w A (by simp [D.depth]) hd he rx ry pd pe (by omega)
    | str i => exact ih _ _ x y u w A (by simp [D.depth]) hd he rx ry pd pe (by omega)
    | lst ds =>
      have hd0 := hd
      have he0 := he
      obtain ⟨f, a, xs, fq, rfl, e1, rfl, hd⟩ := hd
      obtain rfl : u = .ref a := rx
      obtain ⟨its, rv, pl, hz⟩ := I.list (SqL.of e1)
      obtain ⟨g, he⟩ := he
      cases e with
      | non => obtain ⟨rfl, _⟩ := he; obtain rfl : w = .none := ry; exact EqAt.list_none pl.isList hu'
      | bl b => cases pe
      | int j => obtain ⟨rfl, _⟩ := he; obtain ⟨t, rfl⟩ := ry; exact EqAt.list_int _ _ pl.isList hu'
      | str j => obtain ⟨rfl, _⟩ := he; obtain ⟨t, rfl⟩ := ry; exact EqAt.list_str _ _ pl.isList hu'
      | tup es => obtain ⟨b, ys, rfl, e2, he⟩ := he; obtain rfl : w = .ref b := ry; obtain ⟨_, _, pl2, _⟩ := I.tuple (SqT.of e2); exact EqAt.list_tuple pl.isList pl2 hu'
      | lst es =>
        obtain ⟨b, ys, gq, rfl, e2, rfl, he⟩ := he
        obtain rfl : w = .ref b := ry
        by_cases hab : a = b
        · subst hab
          rw [eqb_one _ _ _ _ (Nat.le_refl _) hd0 he0 pd]
          exact EqAt.same _
        · obtain ⟨its2, rv2, pl2, hz2⟩ := I.list (SqL.of e2)
          refine EqAt.of_refs hab ?_
          have l1 := rv.length
          have l2 := rv2.length
          have m1 := hd.length
          have m2 := he.length
          by_cases hl : ds.length = es.length
          · have key := RcAt.lists (A := A) (e := fun i => match ds[i]?, es[i]? with | some x, some y => D.eqb x y | _, _ => false) pl.isList pl2.isList (by simp; omega) hu' (fun j h1 h2 => by
              have j1 : j < ds.length := by simp at h1; omega
              have j2 : j < es.length := by omega
              simp only [List.getElem?_eq_getElem j1, List.getElem?_eq_getElem j2]
              obtain ⟨v1, f1, q1, r1, _⟩ := hd.get (List.getElem?_eq_getElem j1)
              obtain ⟨v2, f2, q2, r2, _⟩ := he.get (List.getElem?_eq_getElem j2)
              obtain ⟨u1, p1, t1⟩ := rv.get q1
              obtain ⟨u2, p2, t2⟩ := rv2.get q2
              have i1 : its.toArray[j] = u1 := by
                have := List.getElem?_eq_some_iff.mp p1
                obtain ⟨_, z⟩ := this
                simpa using z
              have i2 : its2.toArray[j] = u2 := by
                have := List.getElem?_eq_some_iff.mp p2
                obtain ⟨_, z⟩ := this
                simpa using z
              rw [i1, i2]
              exact ih _ _ v1 v2 u1 u2 A.in1 (by have := D.depths_get (List.getElem?_eq_getElem j1); rw [D.depth] at hn; omega) ⟨_, r1⟩ ⟨_, r2⟩ t1 t2 (D.plains_get pd (List.getElem?_eq_getElem j1)) (D.plains_get pe (List.getElem?_eq_getElem j2)) ud)
            have e3 : D.eqb (.lst ds) (.lst es) = (List.range its.toArray.size).all fun i => match ds[i]?, es[i]? with | some x, some y => D.eqb x y | _, _ => false := by
              rw [D.eqb, D.eqbs_iff, decide_eq_true hl, Bool.true_and]
              rw [show its.toArray.size = ds.length by simp; omega]
              all_goals rfl
            rw [e3]
            exact key
          · rw [D.eqb, D.eqbs_len hl]
            exact RcAt.lists_lengths pl.isList pl2.isList (by simp; omega) hu'
    | tup ds =>
      have hd0 := hd
      have he0 := he
      obtain ⟨f, a, xs, rfl, e1, hd⟩ := hd
      obtain rfl : u = .ref a := rx
      obtain ⟨its, rv, pl, hz⟩ := I.tuple (SqT.of e1)
      obtain ⟨g, he⟩ := he
      cases e with
      | non => obtain ⟨rfl, _⟩ := he; obtain rfl : w = .none := ry; exact EqAt.tuple_none pl hu'
      | bl b => cases pe
      | int j => obtain ⟨rfl, _⟩ := he; obtain ⟨t, rfl⟩ := ry; exact EqAt.tuple_int _ _ pl hu'
      | str j => obtain ⟨rfl, _⟩ := he; obtain ⟨t, rfl⟩ := ry; exact EqAt.tuple_str _ _ pl hu'
      | lst es => obtain ⟨b, ys, gq, rfl, e2, _, he⟩ := he; obtain rfl : w = .ref b := ry; obtain ⟨_, _, pl2, _⟩ := I.list (SqL.of e2); exact EqAt.tuple_list pl pl2.isList hu'
      | tup es =>
        obtain ⟨b, ys, rfl, e2, he⟩ := he
        obtain rfl : w = .ref b := ry
        by_cases hab : a = b
        · subst hab
          rw [eqb_one _ _ _ _ (Nat.le_refl _) hd0 he0 pd]
          exact EqAt.same _
        · obtain ⟨its2, rv2, pl2, hz2⟩ := I.tuple (SqT.of e2)
          refine EqAt.of_refs hab ?_
          have l1 := rv.length
          have l2 := rv2.length
          have m1 := hd.length
          have m2 := he.length
          have key := RcAt.tuples (A := A) (e := fun i => match ds[i]?, es[i]? with | some x, some y => D.eqb x y | _, _ => false) pl pl2 hu' (fun j h1 h2 => by
              have j1 : j < ds.length := by simp at h1; omega
              have j2 : j < es.length := by simp at h2; omega
              simp only [List.getElem?_eq_getElem j1, List.getElem?_eq_getElem j2]
              obtain ⟨v1, f1, q1, r1, _⟩ := hd.get (List.getElem?_eq_getElem j1)
              obtain ⟨v2, f2, q2, r2, _⟩ := he.get (List.getElem?_eq_getElem j2)
              obtain ⟨u1, p1, t1⟩ := rv.get q1
              obtain ⟨u2, p2, t2⟩ := rv2.get q2
              have i1 : its.toArray[j] = u1 := by
                have := List.getElem?_eq_some_iff.mp p1
                obtain ⟨_, z⟩ := this
                simpa using z
              have i2 : its2.toArray[j] = u2 := by
                have := List.getElem?_eq_some_iff.mp p2
                obtain ⟨_, z⟩ := this
                simpa using z
              rw [i1, i2]
              exact ih _ _ v1 v2 u1 u2 A.in1 (by have := D.depths_get (List.getElem?_eq_getElem j1); rw [D.depth] at hn; omega) ⟨_, r1⟩ ⟨_, r2⟩ t1 t2 (D.plains_get pd (List.getElem?_eq_getElem j1)) (D.plains_get pe (List.getElem?_eq_getElem j2)) ud)
          have e3 : D.eqb (.tup ds) (.tup es) = ((List.range (min its.toArray.size its2.toArray.size)).all (fun i => match ds[i]?, es[i]? with | some x, some y => D.eqb x y | _, _ => false) && its.toArray.size == its2.toArray.size) := by
            rw [D.eqb]
            have z1 : its.toArray.size = ds.length := by simp; omega
            have z2 : its2.toArray.size = es.length := by simp; omega
            rw [z1, z2]
            by_cases hl : ds.length = es.length
            · rw [D.eqbs_iff, decide_eq_true hl, Bool.true_and, hl, Nat.min_self, beq_self_eq_true, Bool.and_true]
              all_goals rfl
            · rw [D.eqbs_len hl]
              have : (ds.length == es.length) = false := beq_eq_false_iff_ne.mpr hl
              rw [this, Bool.and_false]
          rw [e3]
          exact key
def eqAtI (ds es : List D) (i : Nat) : Bool := match ds[i]?, es[i]? with | some x, some y => D.eqb x y | _, _ => false
theorem items_eq {X : Cx} {pins : List (Addr × Obj)} {σ : St} {H : Hp} {s : Shared} (I : Inv X pins σ H s) {A : Around} {ds es : List D} {xs ys : List V} {f g : List Addr} {its its2 : List Value} (hd : Rfs H ds xs f) (he : Rfs H es ys g) (rv : Vals xs its) (rv2 : Vals ys its2)
    (pd : D.plains ds = true) (pe : D.plains es = true) (hu : A.units + 1 + D.depths ds < cLine) : ∀ j (h1 : j < its.toArray.size) (h2 : j < its2.toArray.size), EqAt A.in1 s its.toArray[j] its2.toArray[j] (eqAtI ds es j) := by
  intro j h1 h2
  have l1 := rv.length
  have l2 := rv2.length
  have m1 := hd.length
  have m2 := he.length
  have j1 : j < ds.length := by simp at h1; omega
  have j2 : j < es.length := by simp at h2; omega
  unfold eqAtI
  simp only [List.getElem?_eq_getElem j1, List.getElem?_eq_getElem j2]
  obtain ⟨v1, f1, q1, r1, _⟩ := hd.get (List.getElem?_eq_getElem j1)
  obtain ⟨v2, f2, q2, r2, _⟩ := he.get (List.getElem?_eq_getElem j2)
  obtain ⟨u1, p1, t1⟩ := rv.get q1
  obtain ⟨u2, p2, t2⟩ := rv2.get q2
  have i1 : its.toArray[j] = u1 := by
    obtain ⟨_, z⟩ := List.getElem?_eq_some_iff.mp p1
    simpa using z
  have i2 : its2.toArray[j] = u2 := by
    obtain ⟨_, z⟩ := List.getElem?_eq_some_iff.mp p2
    simpa using z
  rw [i1, i2]
  exact eqAt_D I _ _ _ v1 v2 u1 u2 A.in1 (D.depths_get (List.getElem?_eq_getElem j1)) ⟨_, r1⟩ ⟨_, r2⟩ t1 t2 (D.plains_get pd (List.getElem?_eq_getElem j1)) (D.plains_get pe (List.getElem?_eq_getElem j2)) hu
theorem eqbs_range {ds es : List D} (hl : ds.length = es.length) : D.eqbs ds es = (List.range ds.length).all (eqAtI ds es) := by
  rw [D.eqbs_iff, decide_eq_true hl, Bool.true_and]
  rfl
section
variable {X : Cx}
def rEqD (neg : Bool) : R2 := fun x y H Q => ∃ ds es, Rp H (.lst ds) x ∧ Rp H (.lst es) y ∧ D.plains ds = true ∧ D.plains es = true ∧ D.depths ds ≤ 60 ∧ Q (.bl (if neg then !D.eqbs ds es else D.eqbs ds es)) H
theorem op_eqL (hu : X.A.units + 64 < cLine) : OpR X (compareOp .Eq) (rEqD false) := by
  intro pins s σ H x y v u Q I rx ry h
  obtain ⟨ds, es, ⟨f, a, xs, fq, rfl, e1, rfl, hd⟩, ⟨g, b, ys, gq, rfl, e2, rfl, he⟩, pd, pe, hdp, q⟩ := h
  obtain rfl : v = .ref a := rx
  obtain rfl : u = .ref b := ry
  obtain ⟨its, rv, pl, hz⟩ := I.list (SqL.of e1)
  obtain ⟨its2, rv2, pl2, hz2⟩ := I.list (SqL.of e2)
  have l1 := rv.length
  have l2 := rv2.length
  have m1 := hd.length
  have m2 := he.length
  by_cases hl : ds.length = es.length
  · refine eq_listAt pl.isList pl2.isList (by simp; omega) (by omega) (items_eq I hd he rv rv2 pd pe (by omega)) (fin_bl I q ?_)
    rw [eqbs_range hl, show its.toArray.size = ds.length by simp; omega]
    all_goals rfl
  · refine eq_list_lengthsAt pl.isList pl2.isList (by simp; omega) (by omega) (fin_bl I q ?_)
    rw [D.eqbs_len hl]
    all_goals rfl
theorem op_neL (hu : X.A.units + 64 < cLine) : OpR X (compareOp .NotEq) (rEqD true) := by
  intro pins s σ H x y v u Q I rx ry h
  obtain ⟨ds, es, ⟨f, a, xs, fq, rfl, e1, rfl, hd⟩, ⟨g, b, ys, gq, rfl, e2, rfl, he⟩, pd, pe, hdp, q⟩ := h
  obtain rfl : v = .ref a := rx
  obtain rfl : u = .ref b := ry
  obtain ⟨its, rv, pl, hz⟩ := I.list (SqL.of e1)
  obtain ⟨its2, rv2, pl2, hz2⟩ := I.list (SqL.of e2)
  have l1 := rv.length
  have l2 := rv2.length
  have m1 := hd.length
  have m2 := he.length
  by_cases hl : ds.length = es.length
  · refine RcNeAt.lists pl.isList pl2.isList (by simp; omega) (by omega) (items_eq I hd he rv rv2 pd pe (by omega)) _ _ _ _ (fin_bl I q ?_)
    rw [eqbs_range hl, show its.toArray.size = ds.length by simp; omega]
    all_goals rfl
  · refine RcNeAt.lists_lengths pl.isList pl2.isList (by simp; omega) (by omega) _ _ _ _ (fin_bl I q ?_)
    rw [D.eqbs_len hl]
    all_goals rfl
end
theorem D.plains_ints : ∀ (xs : List Int), D.plains (xs.map D.int) = true
  | [] => rfl
  | x :: xs => by rw [List.map_cons, D.plains, D.plains_ints xs]; rfl
theorem D.plains_rows : ∀ (t : List (List Int)), D.plains (t.map dI) = true
  | [] => rfl
  | x :: xs => by rw [List.map_cons, D.plains, D.plains_rows xs, D.plain, D.plains_ints]; rfl
theorem D.depths_ints : ∀ (xs : List Int), D.depths (xs.map D.int) = 0
  | [] => rfl
  | x :: xs => by rw [List.map_cons, D.depths, D.depths_ints xs]; rfl
theorem D.depths_rows : ∀ (t : List (List Int)), D.depths (t.map dI) ≤ 1
  | [] => by rw [List.map_nil, D.depths]; omega
  | x :: xs => by
    have := D.depths_rows xs
    rw [List.map_cons, D.depths, D.depth, D.depths_ints]
    exact Nat.max_le.mpr ⟨Nat.le_refl _, this⟩
theorem D.eqbs_ints : ∀ (xs ys : List Int), D.eqbs (xs.map D.int) (ys.map D.int) = decide (xs = ys)
  | [], [] => rfl
  | [], y :: ys => rfl
  | x :: xs, [] => rfl
  | x :: xs, y :: ys => by
    rw [List.map_cons, List.map_cons, D.eqbs, D.eqbs_ints xs ys, D.eqb]
    by_cases h : x = y
    · subst h; simp
    · have : (x == y) = false := beq_eq_false_iff_ne.mpr h
      simp [this, h]
theorem D.eqbs_rows : ∀ (xs ys : List (List Int)), D.eqbs (xs.map dI) (ys.map dI) = decide (xs = ys)
  | [], [] => rfl
  | [], y :: ys => rfl
  | x :: xs, [] => rfl
  | x :: xs, y :: ys => by
    rw [List.map_cons, List.map_cons, D.eqbs, D.eqbs_rows xs ys, D.eqb, D.eqbs_ints]
    by_cases h : x = y
    · subst h; simp
    · simp [h]
def CMulB (i j : Int) : Prop := ∃ m n : Nat, i.natAbs < 2 ^ m ∧ j.natAbs < 2 ^ n ∧ m + n ≤ 100000000
def CDivB (i j : Int) : Prop := 0 < j ∧ ∃ m : Nat, j.natAbs < 2 ^ m ∧ m ≤ 9000
section
variable {X : Cx}
theorem op_mulB : OpR X (binaryOp .Mult) (rI CMulB fun i j => .int (i * j)) := opI fun i j _ _ _ _ _ hc q => by
  obtain ⟨m, n, h1, h2, h3⟩ := hc
  exact mul_int q (mulOk_of_bits (intBits_le h1) (intBits_le h2) (by omega))
theorem op_fdivB : OpR X (binaryOp .FloorDiv) (rI CDivB fun i j => .int (i / j)) := opI fun i j _ _ _ _ _ hc q => by
  obtain ⟨h0, m, h1, h2⟩ := hc
  have hj : j.natAbs ≠ 0 := by omega
  refine floordiv_int (by omega) ?_ (.inl (PyProof.noPylong_of_log2 (Nat.lt_of_lt_of_le ((Nat.log2_lt hj).mpr h1) h2)))
  rw [Int.fdiv_eq_ediv_of_nonneg i (by omega)]
  exact q
end
def relabelS (scope sc0 : Scope) : Scope := { scope with names := scope.names.map fun (n, k) => if (k == .free && sc0.kind == .function && sc0.names.lookup n == some .cell) then (n, .cell) else (n, k) }
def nodupB : List Str → Bool
  | [] => true
  | x :: xs => !xs.contains x && nodupB xs
theorem nodupB_iff : ∀ {l : List Str}, nodupB l = true → l.Nodup
  | [], _ => List.nodup_nil
  | x :: xs, h => by
    rw [nodupB, Bool.and_eq_true, Bool.not_eq_true'] at h
    refine List.nodup_cons.mpr ⟨fun z => ?_, nodupB_iff h.2⟩
    have := List.contains_iff_mem.mpr z
    rw [this] at h
    exact absurd h.1 (by decide)
def compOk (sc0 scope : Scope) (tn cap : List Str) : Bool :=
  decide (scope.kind = .function) && nodupB (scope.names.map (·.1)) && nodupB (tn ++ cap) && cap.all (fun y => decide (scope.names.lookup y = some .free)) &&
    scope.names.all fun y => !decide (y.2 = .free) || (decide (sc0.names.lookup y.1 = some .cell) || decide (sc0.names.lookup y.1 = some .free))
theorem CompScope.of {X : Cx} {sc0 scope : Scope} {tn cap : List Str} {idx : List Nat} (h : compOk sc0 scope tn cap = true) (e : X.env.scope = sc0) (ci : idx.map (fun i => X.N[i]?) = cap.map some) : CompScope X scope tn cap idx := by
  unfold compOk at h
  simp only [Bool.and_eq_true, decide_eq_true_eq, List.all_eq_true, Bool.or_eq_true, Bool.not_eq_true', decide_eq_false_iff_not] at h
  obtain ⟨⟨⟨⟨h1, h2⟩, h3⟩, h4⟩, h5⟩ := h
  refine ⟨h1, nodupB_iff h2, nodupB_iff h3, h4, ci, fun y hy hf => ?_⟩
  rw [e]
  rcases h5 y hy with z | z
  · exact absurd hf z
  · exact z
structure FnAt (K : PySem.W.Frag) (mg : Str → Option Value) (x : Str) (st : Stmt) (ps : List Str) (f : Addr) (fd : FuncData) : Prop where
  fn : Fun K x x st f fd
  mg : mg x = some (.ref f)
  bd : Binds K fd ps []
theorem Same.new {H : Hp} {p : Addr} {o : HO} (h : H p = none) : Same H (upd H p o) := fun b u e => by rw [upd_ne (ne_of_none e h)]; exact e
end L2
set_option Elab.async false
set_option linter.all false
set_option maxRecDepth 100000
set_option maxHeartbeats 4000000
namespace L2
open PySem PySem.Spec PyProof.Rows
theorem small {n : Nat} (h : n ≤ 100000) : n ≤ sizeLine := Nat.le_trans h (by rw [sizeLine_eq]; decide)
section
variable {X : Cx} {K : PySem.W.Frag}
theorem ix_listK (h : X.K = K) : IxR X (rIxL K) := by subst h; exact ix_list
theorem ix_tupK (h : X.K = K) : IxR X (rIxT K) := by subst h; exact ix_tup
theorem pi_listK {tg l : Expr} {tl : TE} (h : X.K = K) (hl : PE X l tl) : PI X tg l (iList K tl) := by subst h; exact pi_list hl
theorem call_lenK (h : X.K = K) : CallR X (.builtin "len") (fun xs H Q => ∃ p ys, xs = [.ref p] ∧ (SqL K H p ys ∨ SqT K H p ys) ∧ Q (.int ys.length) H) := by subst h; exact call_len_seq
theorem call_sumK (h : X.K = K) (hc : X.calm = true) : CallR X (.builtin "sum") (fun xs H Q => ∃ (a : Addr) (ns : List Int), xs = [.ref a] ∧ SqL K H a (ns.map V.int) ∧ Q (.int ns.sum) H) := by subst h; exact call_sum hc
theorem call_listK (h : X.K = K) : CallR X (.type "list") (fun xs H Q => ∃ p ys, xs = [.ref p] ∧ (SqL K H p ys ∨ SqT K H p ys) ∧ ∀ l, H l = none → Q (.ref l) (upd H l (.lst ys))) := by subst h; exact call_list_of
theorem sl_listK (h : X.K = K) : SlR X (rSlL K) := by subst h; exact sl_list
theorem op_notInK (h : X.K = K) : OpR X (compareOp .NotIn) (rIn K true) := by subst h; exact op_notIn_seq
theorem pg_tupK {es : List Expr} {k : Nat} {t : TGs} {n : Nat} {pos : Pos} (h : X.K = K) (hc : X.calm = true) (ht : PGs X es t)
    (hn : (assignEach es X.env).length = n := by rfl) (hst : (assignEach es X.env).findIdx? (·.1) = none := by rfl) : PG X (.Tuple es k pos) (gTup K n t) := by subst h; exact pg_tup hc ht hn hst
end
structure SameX (H H' : Hp) (bs : List Addr) : Prop where
  keep : ∀ b o, H b = some o → b ∉ bs → H' b = some o
  there : ∀ b ∈ bs, ∃ xs, H' b = some (.lst xs)
theorem SameX.clear {H H' : Hp} {bs : List Addr} {c : Addr} {xs : List V} (s : SameX H H' bs) (hc : c ∈ bs) : SameX H (L2.upd H' c (.lst xs)) bs :=
  ⟨fun b o e hb => by rw [upd_ne (fun z => hb (by rw [z]; exact hc))]; exact s.keep b o e hb, fun b hb => by
    by_cases z : b = c
    · subst z; exact ⟨_, upd_same⟩
    · rw [upd_ne z]; exact s.there b hb⟩
theorem Rows.take {H : Hp} {t : List (List Int)} {as : List Addr} (h : Rows H t as) : ∀ n : Nat, Rows H (t.take n) (as.take n) := by
  induction h with
  | nil => intro n; rw [List.take_nil, List.take_nil]; exact .nil
  | cons e _ ih =>
    intro n
    cases n with
    | zero => exact .nil
    | succ n => exact .cons e (ih n)
end L2
set_option Elab.async false
set_option linter.all false
set_option maxRecDepth 100000
set_option maxHeartbeats 4000000
namespace L2
open PySem PySem.Spec PyProof.Rows
section
variable {X : Cx} {x : Str} {p pos : Pos} {e : Expr} {es : List Expr} {kws : List Keyword} {t tk : TA} {id : String} {ks : List Str} {r : List V → List V → Hp → VK → Prop}
end
section
variable {X : Cx} {K : PySem.W.Frag}
theorem vals_of_ints : ∀ {us : List Value} {ns : List Int}, IntsAre us ns → Vals (ns.map V.int) us
  | _, _, .nil => .nil
  | _, _, .cons n t h => .cons ⟨t, rfl⟩ (vals_of_ints h)
theorem map_eraseIdx {α β : Type} {f : α → β} : ∀ (xs : List α) (j : Nat), (xs.map f).eraseIdx j = (xs.eraseIdx j).map f
  | [], _ => rfl
  | _ :: _, 0 => rfl
  | x :: xs, j + 1 => by simp [map_eraseIdx xs j]
end
section
variable {prog : Program} {w : World} {A : Around} {E : Value → Shared → Prop} {s : Shared}
end
section
variable {X : Cx} {K : PySem.W.Frag} {e : Expr} {te : TE} {p p2 pos pos2 : Pos}
end
end L2
namespace L2
open PySem PySem.Spec PyProof.Rows
def fall (ns : List Int) : List Int := ns.mergeSort fun a b => decide (b ≤ a)
theorem fall_perm (ns : List Int) : (fall ns).Perm ns := List.mergeSort_perm ns _
theorem fall_desc (ns : List Int) : (fall ns).Pairwise (· ≥ ·) := by
  have h := List.pairwise_mergeSort (le := fun a b : Int => decide (b ≤ a)) (fun a b c h1 h2 => by simp only [decide_eq_true_eq] at *; omega) (fun a b => by simp only [Bool.or_eq_true, decide_eq_true_eq]; omega) ns
  exact h.imp fun h => by simpa using h
theorem fall_length (ns : List Int) : (fall ns).length = ns.length := (fall_perm ns).length_eq
end L2
set_option Elab.async false
set_option linter.all false
set_option maxRecDepth 100000
set_option maxHeartbeats 4000000
namespace L2
open PySem PySem.Spec PyProof.Rows
section
variable {X : Cx} {K : PySem.W.Frag}
theorem call_minL (hK : X.K = K) (hc : X.calm = true) : CallR X (.builtin "min") (fun xs H Q => ∃ (a : Addr) (ns : List Int), xs = [.ref a] ∧ SqL K H a (ns.map V.int) ∧ 0 < ns.length ∧ ∀ M, M ∈ ns → (∀ x ∈ ns, M ≤ x) → Q (.int M) H) := by
  subst hK
  intro pins s σ H xs us Q I r h
  obtain ⟨a, ns, rfl, hS, hne, q⟩ := h
  obtain ⟨u, rfl, ru⟩ := vals1 r
  obtain rfl : u = Value.ref a := ru
  obtain ⟨its, rv, pl, hz⟩ := I.list hS
  have hi := ints_are rv
  obtain ⟨xs', e⟩ := hi.allInts.items
  have hl : s.heap.IsList a (intItems xs') := by rw [← e]; exact pl.isList
  have hns : ns = xs'.toList.map (·.1) := by rw [← hi.numsOf, ← nums_intItems, ← e]
  have hsz : 0 < xs'.size := by
    have h3 := hne; rw [hns, List.length_map, Array.length_toList] at h3; exact h3
  refine min_intList (I.ok.hd hc) hl hsz fun v h' tk hv hk => ?_
  obtain ⟨t, rfl⟩ := intItems_at hv
  obtain ⟨h1, h2⟩ := argBest_lt (numAt xs') (xs'.size - 1)
  refine ⟨.int _, H, I.kept hk, ⟨t, rfl⟩, q _ ?_ fun b hb => ?_⟩
  · rw [hns, numAt_eq]; exact getD_mem (by rw [List.length_map, Array.length_toList]; omega)
  · rw [hns] at hb
    obtain ⟨j, hj, rfl⟩ := mem_getD hb
    rw [List.length_map, Array.length_toList] at hj
    rw [← numAt_eq]; exact h2 j (by omega)
theorem bools_are : ∀ {bs : List Bool} {its : List Value}, Vals (bs.map V.bl) its → LSm.BoolsAre its bs
  | [], _, .nil => .nil
  | b :: bs, _, .cons r t => by
    cases (show _ = Value.bool b from r)
    exact .cons b (bools_are t)
theorem call_allL (hK : X.K = K) (hc : X.calm = true) : CallR X (.builtin "all") (fun xs H Q => ∃ (a : Addr) (bs : List Bool), xs = [.ref a] ∧ SqL K H a (bs.map V.bl) ∧ Q (.bl (bs.all id)) H) := by
  subst hK
  intro pins s σ H xs us Q I r h
  obtain ⟨l, bs, rfl, hS, q⟩ := h
  obtain ⟨u, rfl, ru⟩ := vals1 r
  obtain rfl : u = Value.ref l := ru
  obtain ⟨vs, rv, pl, hz⟩ := I.list hS
  have hb := bools_are rv
  have hl := pl.isList
  have hlt : l < s.heap.objs.size := by obtain ⟨_, e, _⟩ := hl; exact Heap.lt_size e
  refine PySem.call_all_walk (wpAny_pyIter_list hl ?_)
  refine ⟨s.heap.objs.size, [s.heap.objs.size, l], [s.heap.objs.size], vs.toArray.size, _, _, fun i => (bs[i]?).getD true, rfl, Walks.list (A := X.A.in1) (I.ok.hd hc) _ l (Nat.ne_of_lt hlt) vs.toArray,
    ⟨⟨_, Heap.get?_push_size _ rfl, rfl, rfl⟩, hl.push _⟩, fun i v s' Q' E' hP hQ => ?_, fun h' tk hk => ?_⟩
  · obtain ⟨b, e, rfl⟩ := hb.get i v (by simpa using hP)
    simp only [e, Option.getD_some] at hQ
    exact wpAny_truthy_bool hQ
  · have e : ((List.range vs.toArray.size).all fun i => (bs[i]?).getD true) = bs.all id := by
      rw [List.size_toArray, hb.length]; exact LSm.range_all bs
    rw [e]
    exact ⟨.bl _, H, I.kept (LSm.kept_iter hk), rfl, q⟩
theorem call_anyL (hK : X.K = K) (hc : X.calm = true) : CallR X (.builtin "any") (fun xs H Q => ∃ (a : Addr) (bs : List Bool), xs = [.ref a] ∧ SqL K H a (bs.map V.bl) ∧ Q (.bl (bs.any id)) H) := by
  subst hK
  intro pins s σ H xs us Q I r h
  obtain ⟨l, bs, rfl, hS, q⟩ := h
  obtain ⟨u, rfl, ru⟩ := vals1 r
  obtain rfl : u = Value.ref l := ru
  obtain ⟨vs, rv, pl, hz⟩ := I.list hS
  have hb := bools_are rv
  have hl := pl.isList
  have hlt : l < s.heap.objs.size := by obtain ⟨_, e, _⟩ := hl; exact Heap.lt_size e
  refine PySem.call_any_walk (wpAny_pyIter_list hl ?_)
  refine ⟨s.heap.objs.size, [s.heap.objs.size, l], [s.heap.objs.size], vs.toArray.size, _, _, fun i => (bs[i]?).getD false, rfl, Walks.list (A := X.A.in1) (I.ok.hd hc) _ l (Nat.ne_of_lt hlt) vs.toArray,
    ⟨⟨_, Heap.get?_push_size _ rfl, rfl, rfl⟩, hl.push _⟩, fun i v s' Q' E' hP hQ => ?_, fun h' tk hk => ?_⟩
  · obtain ⟨b, e, rfl⟩ := hb.get i v (by simpa using hP)
    simp only [e, Option.getD_some] at hQ
    exact wpAny_truthy_bool hQ
  · have e : ((List.range vs.toArray.size).any fun i => (bs[i]?).getD false) = bs.any id := by
      rw [List.size_toArray, hb.length]; exact LSm.range_any bs
    rw [e]
    exact ⟨.bl _, H, I.kept (LSm.kept_iter hk), rfl, q⟩
def rngV (n : Nat) : List V := (List.range n).map fun (k : Nat) => .int (k : Int)
def tListRng (te : TE) : TE := fun σ H Q => te σ H fun x H1 => ∃ j : Int, x = .int j ∧ j ≤ 100000 ∧ -(2 ^ 62) ≤ j ∧ ∀ l, H1 l = none → Q (.ref l) (upd H1 l (.lst (rngV j.toNat)))
theorem pe_listRngK {e : Expr} {te : TE} {p p2 pos pos2 : Pos} (hc : X.calm = true) (hg : Gl X "list") (hm : X.mg "list" = none) (hg2 : Gl X "range") (hm2 : X.mg "range" = none) (he : PE X e te)
    (hs : starEach [Expr.Call (.Name "range" p2) [e] [] pos2] X.env = [(false, eval (.Call (.Name "range" p2) [e] [] pos2) X.env)] := by rfl) (hs2 : starEach [e] X.env = [(false, eval e X.env)] := by rfl) :
    PE X (.Call (.Name "list" p) [.Call (.Name "range" p2) [e] [] pos2] [] pos) (tListRng te) := by
  intro pins s σ H Q I h
  refine wpAny_Call_Name_kw (ld_blt I hg hm boot_list ?_)
  refine PyProof.Rows.callWith_type1 ?_ hs rfl
  rw [hs]
  refine Calls.spliced_cons ?_
  refine wpAny_Call_Name_kw (ld_blt I hg2 hm2 boot_range ?_)
  refine PyProof.Rows.callWith_type1 ?_ hs2 rfl
  rw [hs2]
  refine Calls.spliced_cons (thn (he pins s σ H _ I h) fun v s1 ⟨x, H1, I1, r1, j, ex, hj, hj2, q⟩ => ?_)
  subst ex
  obtain ⟨t, rfl⟩ := r1
  refine Calls.spliced_nil (call_range_1 (Calls.spliced_nil ?_))
  have hn : Builtin.Range.rangeSize 0 j 1 = (j.toNat : Nat) := by rw [rangeSize_one]; split <;> omega
  refine call_list_range (n := j.toNat) (I.ok.hd hc) (IsRange.new ..) (small_one (by omega) (by omega) hj2 (by omega)) hn (by omega) fun h' tk acc' c' hk hS' hacc => ?_
  have hsz : ∀ o : Obj, (s1.heap.push o).objs.size = s1.heap.objs.size + 1 := fun o => Heap.size_push ..
  have k1 : ∀ b o, s1.heap.get? b = some o → h'.get? b = some o := fun b o e => hk b o (Heap.get?_push_of_some _ e)
  have hn1 : H1 (s1.heap.objs.size + 1) = none := I1.hok.fresh (Nat.le_succ _)
  dsimp only at hS' ⊢
  rw [hsz] at hS' ⊢
  have hacc2 : Vals (rngV j.toNat) acc'.toList := by
    obtain ⟨a1, a2⟩ := hacc
    have key : ∀ (n : Nat) (f : Nat → V) (its : List Value), its.length = n → (∀ i v, its[i]? = some v → RelV (f i) v) → Vals ((List.range n).map f) its := by
      intro n
      induction n with
      | zero => intro f its h1 h2; cases its with | nil => exact .nil | cons _ _ => simp at h1
      | succ n ih =>
        intro f its h1 h2
        cases its with
        | nil => simp at h1
        | cons v vs =>
          rw [List.range_succ_eq_map, List.map_cons, List.map_map]
          exact .cons (h2 0 v rfl) (ih (f ∘ Nat.succ) vs (by simpa using h1) fun i w e => h2 (i + 1) w (by simpa using e))
    refine key _ _ _ (by simpa using a1) fun i v e => ?_
    obtain ⟨t, hv⟩ := a2 i v (by simpa using e)
    exact ⟨t, by rw [hv]; simp⟩
  refine ⟨.ref (s1.heap.objs.size + 1), _, I1.laid (t' := tk) (o := .lst (rngV j.toNat)) k1 (Nat.le_succ _) ⟨by unfold rngV; rw [List.length_map, List.length_range]; exact small (by omega), acc'.toList, c', hacc2, ?_⟩, rfl, q _ hn1⟩
  rw [hS']
end
end L2
namespace L2
open PySem PySem.Spec PyProof.Rows
section
variable {X : Cx} {K : PySem.W.Frag}
def rGetL (K : PySem.W.Frag) : R2 := fun x y H Q => ∃ p xs i v, x = .ref p ∧ y = .int i ∧ SqL K H p xs ∧ 0 ≤ i ∧ xs[i.toNat]? = some v ∧ Q v H
theorem pget_list (hK : X.K = K) : PGet X (rGetL K) := by
  subst hK
  intro pins s σ H x y v u Q I rx ry h
  obtain ⟨p, xs, i, z, rfl, rfl, hq, h0, he, q⟩ := h
  cases rx
  obtain ⟨t, rfl⟩ := ry
  obtain ⟨its, r, pl, hz⟩ := I.list hq
  obtain ⟨w, ew, rw'⟩ := r.get he
  have hl := r.length
  have hn := line63
  have hlt := (List.getElem?_eq_some_iff.mp ew).1
  exact wpAny_getItem_list pl.isList h0 (by simp; omega) (by simpa using ew) ⟨z, H, I, rw', q⟩
end
end L2
namespace L2
open PySem PySem.Spec PyProof.Rows
section
variable {X : Cx}
def constInts : List Expr → Option (List Int)
  | [] => some []
  | .Constant (.int n) _ _ :: es => (constInts es).map (n :: ·)
  | _ => none
def tInts : List Int → TA
  | [] => tNil
  | n :: ns => tCons (tC (.int n)) (tInts ns)
theorem pa_consts : ∀ {es : List Expr} {ns : List Int}, constInts es = some ns → PA X es (tInts ns)
  | [], ns, h => by cases h; exact pa_nil
  | .Constant (.int n) j p :: es, ns, h => by
    rw [constInts] at h
    cases e : constInts es with
    | none => rw [e] at h; cases h
    | some ms =>
      rw [e] at h; cases h
      exact pa_cons pe_int (pa_consts e)
end
end L2
set_option Elab.async false
set_option linter.all false
set_option maxRecDepth 100000
set_option maxHeartbeats 4000000
namespace L2
open PySem PySem.Spec PyProof.Rows
section
variable {prog : Program} {w : World} {A : Around} {E : Value → Shared → Prop} {s : Shared}
end
section
variable {X : Cx} {K : PySem.W.Frag}
def GSets (k : Nat) (g : TGs) : Prop := ∀ x σ H Q, g x σ H Q → g x σ H fun σ2 H2 => Q σ2 H2 ∧ σ2.length = σ.length ∧ ∀ j, k ≤ j → σ2[j]? = σ[j]?
theorem GSets.nil {k : Nat} : GSets k gNil := fun x σ H Q q => ⟨q.1, q.2, rfl, fun _ _ => rfl⟩
end
end L2
set_option Elab.async false
set_option linter.all false
set_option maxRecDepth 100000
set_option maxHeartbeats 4000000
namespace L2
open PySem PySem.Spec PyProof.Rows
section
variable {X : Cx}
def rIndex (K : PySem.W.Frag) : V → List V → Hp → VK → Prop := fun x vs H Q => ∃ (l : Addr) (xs : List V) (y : V) (j : Nat), x = .ref l ∧ vs = [y] ∧ H l = some (.lst xs) ∧ flatV y = true ∧ xs.all flatV = true ∧ (∃ z, xs[j]? = some z ∧ eqV z y = true) ∧ (∀ m z, m < j → xs[m]? = some z → eqV z y = false) ∧ Q (.int j) H
theorem mt_index : MtM X "list.index" (rIndex X.K) := by
  intro pins s σ H x vs v us Q I rx rv h
  obtain ⟨l, xs, y, j, rfl, rfl, hH, fy, fs, ⟨z, hz, ez⟩, hb, q⟩ := h
  cases rx
  obtain ⟨u, rfl, ru⟩ := vals1 rv
  obtain ⟨hs, its, n, r, hl, e⟩ := I.lstM hH
  have hj : j < xs.length := (List.getElem?_eq_some_iff.mp hz).1
  have key : ∀ m (hm : m < its.toArray.size) w, xs[m]? = some w → eqU y its.toArray[m] = eqV w y := fun m hm w hw => by
    obtain ⟨u', hu', rw'⟩ := r.get hw
    have fw : flatV w = true := List.all_eq_true.mp fs w (List.mem_of_getElem? hw)
    have : its.toArray[m] = u' := by
      have := (List.getElem?_eq_some_iff.mp hu').2
      simpa using this
    rw [this]
    exact eqU_of rw' fw
  have hsz : its.toArray.size = xs.length := by simp [hl]
  refine call_meets F.slot_list_index ⟨_, e, rfl⟩ F.entry_list_index (F.args_list_index_2 _ _) (SeqAt.list_indexAt l its.toArray n none #[] u (eqU y) j (by omega) ?_ ?_ (fun m hm hmj => ?_)) ⟨e, fun w hw => mem_eqAt ru fy r fs w (by simpa using hw), ?_⟩
  · have : sizeLine < 2 ^ 63 - 1 := by decide
    omega
  · rw [key j (by omega) z hz]; exact ez
  · have hm' : m < xs.length := by omega
    rw [key m hm _ (List.getElem?_eq_getElem hm')]
    exact hb m _ hmj (List.getElem?_eq_getElem hm')
  · exact ⟨.int j, H, I.tok _, ⟨_, rfl⟩, q⟩
end
end L2
namespace L2
open PySem PySem.Spec PyProof.Rows
section
variable {X : Cx} {K : PySem.W.Frag}
theorem call_sortedK (hK : X.K = K) : CallR X (.builtin "sorted") (fun xs H Q => ∃ (a : Addr) (ns : List Int), xs = [.ref a] ∧ SqL K H a (ns.map V.int) ∧ ns.length < 64 ∧
    ∀ (l : Addr) (ms : List Int), H l = none → ms.Perm ns → ms.Pairwise (· ≤ ·) → Q (.ref l) (upd H l (.lst (ms.map V.int)))) := by
  subst hK
  intro pins s σ H xs us Q I r h
  obtain ⟨a, ns, rfl, hS, hz, q⟩ := h
  obtain ⟨u, rfl, ru⟩ := vals1 r
  obtain rfl : u = Value.ref a := ru
  obtain ⟨its, rv, pl, _⟩ := I.list hS
  have hl := rv.length
  rw [List.length_map] at hl
  refine sorted_ints pl.isList (ints_are rv) (by omega) fun out ms a1 a2 a3 => ?_
  obtain ⟨n, he⟩ := sortedAll_at s.heap its out
  have hn : H (s.heap.objs.size + 1) = none := I.hok.fresh (Nat.le_succ _)
  have hlm := a2.length_eq
  refine ⟨.ref (s.heap.objs.size + 1), _, I.laid (t' := s.toks) (o := .lst (ms.map V.int)) (fun b o e => sortedAll_old e) (Nat.le_succ _) ⟨?_, out.toList, n, vals_of_ints a1, ?_⟩, rfl, q _ ms hn a2 a3⟩
  · rw [List.length_map]; exact small (by omega)
  · exact he
end
end L2
set_option Elab.async false
set_option linter.all false
set_option maxRecDepth 100000
set_option maxHeartbeats 4000000
namespace L2
open PySem PySem.Spec PyProof.Rows
theorem GSets.cons {i k : Nat} {u : TGs} (h : i < k) (hu : GSets k u) : GSets k (gCons (gName i) u) := fun x σ H Q ⟨v, r, e, q⟩ => ⟨v, r, e, by
  have q2 := hu r (σ.set i (some v)) H Q q
  have e1 : (fun (σ2 : St) (H2 : Hp) => Q σ2 H2 ∧ σ2.length = (σ.set i (some v)).length ∧ ∀ j, k ≤ j → σ2[j]? = (σ.set i (some v))[j]?) = fun σ2 H2 => Q σ2 H2 ∧ σ2.length = σ.length ∧ ∀ j, k ≤ j → σ2[j]? = σ[j]? := by
    funext σ2 H2
    refine propext ⟨fun z => ⟨z.1, by rw [z.2.1, List.length_set], fun j hj => by rw [z.2.2 j hj, List.getElem?_set_ne (by omega)]⟩, fun z => ⟨z.1, by rw [z.2.1, List.length_set], fun j hj => by rw [z.2.2 j hj, List.getElem?_set_ne (by omega)]⟩⟩
  rw [e1] at q2
  exact q2⟩
theorem GSet.tup {K : PySem.W.Frag} {k n : Nat} {u : TGs} (hu : GSets k u) : GSet k (gTup K n u) := fun x σ H Q ⟨a, xs, e, hs, hl, q⟩ => ⟨a, xs, e, hs, hl, hu xs σ H Q q⟩
end L2
set_option linter.all false
set_option maxRecDepth 100000
namespace L2
open PySem PySem.Spec PyProof.Rows
theorem ObjOk.there {P : Program} {w : World} {H : Hp} {h : Heap} {a : Addr} {o : HO} (x : ObjOk P w H h a o) : ∃ ob, h.get? a = some ob := by
  cases o with
  | lst xs => obtain ⟨_, _, _, _, e⟩ := x; exact ⟨_, e⟩
  | tup xs => obtain ⟨_, _, _, ob, e, _⟩ := x; exact ⟨_, e⟩
  | dK kvs => obtain ⟨_, _, _, _, o, _, _, e, _⟩ := x; exact ⟨_, e⟩
  | dT kvs => obtain ⟨_, _, _, _, o, _, _, e, _⟩ := x; exact ⟨_, e⟩
  | set S n => obtain ⟨o, _, _, _, e, _⟩ := x; exact ⟨_, e⟩
  | ins C dx fs => obtain ⟨_, _, _, e, _⟩ := x; exact ⟨_, e⟩
  | own y => exact x
  | xd fs => obtain ⟨_, ⟨_, _, _, e, _⟩, _⟩ := x; exact ⟨_, e⟩
  | rng lo hi => obtain ⟨_, _, _, e⟩ := x; exact ⟨_, e⟩
  | frz ob u => obtain ⟨e, _⟩ := x; exact ⟨_, e⟩
  | tbl ps => exact ⟨_, (show h.get? a = some _ from x)⟩
  | met f y => exact ⟨_, (show h.get? a = some _ from x)⟩
  | ext φ => obtain ⟨_, e, _⟩ := x; exact e
def Fly (h : Heap) (H : Hp) (lo : Heap) (a : Addr) (C : Value) : Prop :=
  (H a = none ∧ lo.get? a = none) ∧ ∃ oe vs a0 T oT ts, h.get? a = some oe ∧ (oe.cls = C ∧ vs[0]? = some a0) ∧ oe.data = .fields vs ∧ vs[1]? = some (.ref T) ∧ T ≠ a ∧ h.get? T = some oT ∧ oT.data = .fields ts ∧ ts[3]? = some .none ∧ H T = none ∧ lo.get? T = none
def FlyN (h : Heap) (H : Hp) (lo : Heap) (a : Addr) (C : Value) : Prop :=
  (H a = none ∧ lo.get? a = none) ∧ ∃ oe vs a0, h.get? a = some oe ∧ (oe.cls = C ∧ vs[0]? = some a0) ∧ oe.data = .fields vs ∧ vs[1]? = some .none
def CXR (P : Program) (w : World) : CXT := fun outer H s E e s' => ∃ (a C : Addr) (H' : Hp), e = .ref a ∧ s'.os = s.os ∧ AllBare s'.gens ∧ Un (frs outer) [] H H' s.heap s'.heap ∧ HOk P w H' s'.heap ∧
  Fly s'.heap H' s.heap a (.ref C) ∧ E (.ref C) none H'
section
variable {P : Program} {w : World} {K : PySem.W.Frag} {mg : Str → Option Value} {base : Heap} {N : List Str} {qual : Str} {scope : Scope} {f : Addr} {cd : Value} {A : Around} {outer : List Env} {s0 : Shared} {H0 : Hp} {E : XK}
variable {pins : List (Addr × Obj)} {σ : St} {H' : Hp} {s' : Shared} {a C : Addr} {h2 : Heap}
theorem left_done {as : List Addr} {a0 : Value} (J : Inv (cxOf (CXR P w) P w K mg base N qual scope f cd A outer s0 H0 E) pins σ H' s')
    (has : ∀ b ∈ as, b ∈ frs (envOfC qual scope s0.heap.objs.size f cd :: outer) ∨ (H' b = none ∧ s0.heap.get? b = none))
    (L : Heap.LeftW (PySem.W.hideAll s'.heap as) (envOfC qual scope s0.heap.objs.size f cd :: outer) a (.ref C) a0 s'.heap h2) (ha : H' a = none ∧ s0.heap.get? a = none) (q : E (.ref C) none H') :
    CXR P w outer H0 s0 E (.ref a) { s' with heap := h2 } := by
  obtain ⟨k1, k2, k3, k4⟩ := L
  have bs : Un (frs outer) [] H0 H' s0.heap s'.heap := J.base
  have keepB : ∀ b o, s'.heap.get? b = some o → b ∉ as → h2.get? b = some o := fun b o e n => k1 b o (PySem.W.hideAll_get _ e n)
  have stf : ∀ b ∈ frs (envOfC qual scope s0.heap.objs.size f cd :: outer), H' b = none := J.stkFree
  have sts : ∀ b ∈ frs (envOfC qual scope s0.heap.objs.size f cd :: outer), b ∈ s0.heap.objs.size :: frs outer := J.stkSub
  have trk : ∀ b u, H' b = some u → b ∉ as := fun b u e z => by
    rcases has b z with z | ⟨z, _⟩
    · rw [stf b z] at e; cases e
    · rw [z] at e; cases e
  have nofld : ∀ b ∈ frs (envOfC qual scope s0.heap.objs.size f cd :: outer), ∃ o, s'.heap.get? b = some o ∧ ∀ vs, o.data ≠ .fields vs := fun b hb => (J.stack.mem hb).2
  refine ⟨a, C, H', rfl, J.os, J.bare, ⟨fun b o e n hb hx => ?_, fun b o e n hb hx => ?_, bs.free, fun b o e hx => ?_, bs.tups, bs.frzs, bs.tbls⟩, fun c o e => ?_, ⟨ha, ?_⟩, q⟩
  · refine keepB b o (bs.keep b o e n hb hx) fun z => ?_
    rcases has b z with z | ⟨_, z⟩
    · rcases List.mem_cons.mp (sts b z) with z | z
      · rw [z] at e; exact absurd (Heap.lt_size e) (Nat.lt_irrefl _)
      · exact hb z
    · rw [z] at e; cases e
  · obtain ⟨sl, e1⟩ := bs.slot b o e n hb hx
    obtain ⟨_, o', e', nf⟩ := J.ok.funs.mem hb
    have e' : s0.heap.get? b = some o' := e'
    rw [e] at e'; cases e'
    obtain ⟨sl2, e2⟩ := k4 b { o with slots := sl } e1 nf
    exact ⟨sl2, e2⟩
  · obtain ⟨o', e1⟩ := bs.there b o e hx
    by_cases z : b ∈ as
    · rcases has b z with z | ⟨_, z⟩
      · obtain ⟨o2, e2, nf⟩ := nofld b z
        obtain ⟨sl, e3⟩ := k4 b o2 e2 nf
        exact ⟨_, e3⟩
      · rw [z] at e; cases e
    · exact ⟨o', keepB b o' e1 z⟩
  · refine (J.hok c o e).stay (fun b u hb q => keepB b u q ?_) (fun _ q => q) fun _ _ q => q
    rcases hb with rfl | hb
    · exact trk _ _ e
    · exact trk _ _ hb
  · obtain ⟨oe, vs, T, oT, ts, g1, g2, g3, g4, g5, g6, g7, g8, g9⟩ := k3
    refine ⟨oe, vs, a0, T, oT, ts, g1, g2, g3, g4, g6, g7, g8, g9, ?_, ?_⟩
    · cases r : H' T with
      | none => rfl
      | some u =>
        obtain ⟨ob, e⟩ := (J.hok T u r).there
        rw [PySem.W.hideAll_get as e (trk T u r)] at g5
        cases g5
    · cases r : s0.heap.get? T with
      | none => rfl
      | some u =>
        obtain ⟨o', e1⟩ := bs.there T u r (fun z => (nomatch z))
        by_cases z : T ∈ as
        · rcases has T z with z | ⟨_, z⟩
          · obtain ⟨_, o2, e2, nf⟩ := k2.mem z
            rw [g7] at e2; cases e2
            exact absurd g8 (nf ts)
          · rw [z] at r; cases r
        · rw [PySem.W.hideAll_get as e1 z] at g5; cases g5
theorem leave_x {H : Hp} {s : Shared} (I : Inv (cxOf (CXR P w) P w K mg base N qual scope f cd A outer s0 H0 E) pins σ H s) (os : s'.os = s.os) (bare : AllBare s'.gens)
    (U : Un (frs (envOfC qual scope s0.heap.objs.size f cd :: outer)) [] H H' s.heap s'.heap) (ok : HOk P w H' s'.heap) (fl : FlyN s'.heap H' s.heap a (.ref C) ∨ Fly s'.heap H' s.heap a (.ref C)) (q : E (.ref C) none H') :
    (cxOf (CXR P w) P w K mg base N qual scope f cd A outer s0 H0 E).xe (.ref a) s' := by
  have J : Inv (cxOf (CXR P w) P w K mg base N qual scope f cd A outer s0 H0 E) pins σ H' s' := I.call' os U ok bare fun b hb => (nomatch hb)
  have up : ∀ b, s.heap.get? b = none → s0.heap.get? b = none := fun b n => by
    cases r : s0.heap.get? b with
    | none => rfl
    | some u =>
      obtain ⟨o', e1⟩ := I.base.there b u r (fun z => (nomatch z))
      rw [n] at e1; cases e1
  have hfr : (A.deeper (envOfC qual scope s0.heap.objs.size f cd)).frames = some (envOfC qual scope s0.heap.objs.size f cd :: outer) := J.ok.frames
  have hst : s'.heap.FunFrames base (envOfC qual scope s0.heap.objs.size f cd :: outer) := J.stack
  have hin : ∀ env ∈ (envOfC qual scope s0.heap.objs.size f cd :: outer), ∀ b, env.frame = some b → b ∈ frs (envOfC qual scope s0.heap.objs.size f cd :: outer) := fun env he b hb => List.mem_filterMap.mpr ⟨env, he, hb⟩
  show wpAny _ _ _ _ _ _
  rcases fl with ⟨⟨na, fa⟩, oe, vs, a0, ge, ⟨gc, g0⟩, gd, g1⟩ | ⟨⟨na, fa⟩, oe, vs, a0, T, oT, ts, ge, gc, gd, g1, g2, g3, g4, g5, nT, fT⟩
  · refine wpAny_leaving_firstW (base := PySem.W.hideAll s'.heap (a :: frs (envOfC qual scope s0.heap.objs.size f cd :: outer))) hfr
      (PySem.W.funFrames_hide hst fun env he b hb => List.mem_cons_of_mem _ (hin env he b hb)) rfl ge (fun b o e => PySem.W.of_hideAll _ e) (PySem.W.hideAll_none _ (List.mem_cons_self ..)) gd g1 g0 fun h2 L => ?_
    rw [gc] at L
    refine left_done J (fun b hb => ?_) L ⟨na, up a fa⟩ q
    rcases List.mem_cons.mp hb with rfl | hb
    · exact .inr ⟨na, up _ fa⟩
    · exact .inl hb
  · refine wpAny_leaving_nextW (a0 := a0) (base := PySem.W.hideAll s'.heap (a :: T :: frs (envOfC qual scope s0.heap.objs.size f cd :: outer))) (cls := .ref C) hfr
      (PySem.W.funFrames_hide hst fun env he b hb => List.mem_cons_of_mem _ (List.mem_cons_of_mem _ (hin env he b hb))) rfl
      ⟨oe, vs, T, oT, ts, ge, gc, gd, g1, PySem.W.hideAll_none _ (List.mem_cons_of_mem _ (List.mem_cons_self ..)), g2, g3, g4, g5⟩ (fun b o e => PySem.W.of_hideAll _ e) (PySem.W.hideAll_none _ (List.mem_cons_self ..)) fun h2 L => ?_
    refine left_done J (fun b hb => ?_) L ⟨na, up a fa⟩ q
    rcases List.mem_cons.mp hb with rfl | hb
    · exact .inr ⟨na, up _ fa⟩
    · rcases List.mem_cons.mp hb with rfl | hb
      · exact .inr ⟨nT, up _ fT⟩
      · exact .inl hb
end
def tRaise (C : Addr) (E : XK) (ta : TA) : TS := fun _ σ H => ta σ H fun vs H1 => vs.length ≤ 1000 ∧ E (.ref C) none H1
def Raises (X : Cx) (C : Addr) (E : XK) : Prop := ∀ (pins : List (Addr × Obj)) (σ : St) (H : Hp) (s : Shared) (h' : Heap) (a : Addr) (us : List Value), Inv X pins σ H s → Heap.MadeExcOf s.heap h' a (.ref C) us → E (.ref C) none H → X.xe (.ref a) { s with heap := h' }
theorem raise_x {P : Program} {w : World} {K : PySem.W.Frag} {mg : Str → Option Value} {base : Heap} {N : List Str} {qual : Str} {scope : Scope} {f : Addr} {cd : Value} {A : Around} {outer : List Env} {s0 : Shared} {H0 : Hp} {E : XK} {C : Addr} :
    Raises (cxOf (CXR P w) P w K mg base N qual scope f cd A outer s0 H0 E) C E := fun pins σ H s h' a us I hx q => by
  obtain ⟨t, ht, _, _⟩ := hx.there
  refine leave_x (s' := { s with heap := h' }) I rfl I.bare (Un.kept hx.keeps) (I.hok.kept hx.keeps) (.inl ⟨⟨?_, hx.new⟩, _, _, _, ht, ⟨rfl, rfl⟩, rfl, rfl⟩) q
  cases r : H a with
  | none => rfl
  | some u =>
    obtain ⟨ob, e⟩ := (I.hok a u r).there
    rw [hx.new] at e; cases e
section
variable {X : Cx} {x : Str} {C : Addr} {bmB : List Value} {B newId initId : String} {E : XK} {e : Expr} {es : List Expr} {ta : TA} {np cpos pos : Pos}
theorem ps_raise (O : OwnCls x C bmB newId X.mg X.base) (FB : ExcBaseFacts B newId initId bmB) (hc : X.calm = true) (hg : Gl X x) (hxe : Raises X C E) (ha : PA X (e :: es) ta) (hdb : (x == ("__debug__" : Str)) = false := by decide)
    (he : starEach (e :: es) X.env = (false, eval e X.env) :: starEach es X.env := by rfl) (hpl : (backTo cpos (starEach es X.env)).any (·.1) = false := by rfl) :
    PS X (.Raise (some (.Call (.Name x np) (e :: es) [] cpos)) none pos) (tRaise C E ta) := by
  intro pins s σ H D I h
  obtain ⟨tl, N, nm, q, bs, hdct, sn, sub, ab, col, dd, k0, k1, k2, k3, k5, mN, hC, hN, hni, T⟩ := O.obj
  refine wpAny_Raise_call_subT (C := C) (nm := nm) (q := q) (N := N) (bs := bs) (bm := tl) (hdct := hdct) (sn := sn) (sub := sub) (ab := ab) (col := col) (dd := dd) (k0 := k0) (k1 := k1) (k2 := k2) (k3 := k3) (k5 := k5)
    FB (mN := mN) (T.hasType FB.hasBase) (I.ok.hd hc) (by rw [he]; show (false || (backTo cpos (starEach es X.env)).any (·.1)) = false; rw [hpl]; rfl) hni (ld_glob I hg O.bound ⟨rfl, ?_⟩ hdb)
  have h1 := ha cpos pins s σ H _ I h
  rw [he] at h1 ⊢
  refine Calls.evalArgs_plain (thn h1 fun us s1 ⟨vs, H1, I1, r, q1, q2⟩ => ?_)
  exact ⟨rfl, by show us.length ≤ _; rw [← r.length]; exact Nat.le_of_lt (small1000 q1), I1.bk _ _ hC, hN.keeps I1.bk, T.keeps I1.bk, fun h' a hx => hxe pins σ H1 s1 h' a us I1 hx q2⟩
end
end L2
set_option linter.all false
set_option maxRecDepth 100000
namespace L2
open PySem PySem.Spec PyProof.Rows
abbrev VB : List Value := [.type "ValueError", .type "Exception", .type "BaseException", .type "object"]
def ExcObj (h : Heap) (C : Addr) (ups : List Addr) : Prop := ∃ N nm q bs hdct sn sub ab col dd k0 k1 k2 k3 k5 mN,
  h.get? C = some (excClassObj nm q C N bs (ups.map Value.ref ++ VB) hdct sn sub ab col dd k0 k1 k2 k3 k5 "ValueError.__new__") ∧ h.Ns N mN ∧ mN "__init__" = none ∧ OwnTail h VB (ups.map Value.ref ++ VB)
theorem ExcObj.keeps {h h' : Heap} {C : Addr} {ups : List Addr} (O : ExcObj h C ups) (hk : ∀ b o, h.get? b = some o → h'.get? b = some o) : ExcObj h' C ups :=
  let ⟨N, nm, q, bs, hdct, sn, sub, ab, col, dd, k0, k1, k2, k3, k5, mN, hC, hN, hni, T⟩ := O
  ⟨N, nm, q, bs, hdct, sn, sub, ab, col, dd, k0, k1, k2, k3, k5, mN, hk _ _ hC, hN.keeps hk, hni, T.keeps hk⟩
theorem ExcObj.own {h : Heap} {C : Addr} {ups : List Addr} {mg : Str → Option Value} {x : Str} (O : ExcObj h C ups) (hm : mg x = some (.ref C)) : OwnCls x C VB "ValueError.__new__" mg h :=
  let ⟨N, nm, q, bs, hdct, sn, sub, ab, col, dd, k0, k1, k2, k3, k5, mN, hC, hN, hni, T⟩ := O
  ⟨hm, _, N, nm, q, bs, hdct, sn, sub, ab, col, dd, k0, k1, k2, k3, k5, mN, hC, hN, hni, T⟩
theorem excMatches_own {M : Model} {A : Around} {E : Value → Shared → Prop} {s : Shared} {C D e : Addr} {ups upD : List Addr} {oe : Obj} {Q : Bool → Shared → Prop} (OC : ExcObj s.heap C ups) (OD : ExcObj s.heap D upD)
    (he : s.heap.get? e = some oe) (hcls : oe.cls = .ref C) (hb : (C :: ups).contains D = true) (hq : Q true s) : wpAny M A (excMatches (.ref e) (.ref D)) Q E s := by
  obtain ⟨h, g, d, t, os⟩ := s
  obtain ⟨N, nm, q, bs, hdct, sn, sub, ab, col, dd, k0, k1, k2, k3, k5, mN, hC, hN, hni, T⟩ := OC
  obtain ⟨N', nm', q', bs', hdct', sn', sub', ab', col', dd', l0, l1, l2, l3, l5, mN', hD, hN', hni', T'⟩ := OD
  have hcB : (Value.ref D :: (upD.map Value.ref ++ VB)).contains (.type "BaseException") = true := by
    rw [List.contains_cons, T'.hasType (b := true) rfl, Bool.or_true]
  have hcC : (Value.ref C :: (ups.map Value.ref ++ VB)).contains (.ref D) = true := by
    rw [List.contains_iff_mem] at hb ⊢
    rcases List.mem_cons.mp hb with rfl | hb
    · exact List.mem_cons_self ..
    · exact List.mem_cons_of_mem _ (List.mem_append_left _ (List.mem_map_of_mem hb))
  have f := tc_notTuple
  unfold excMatches
  repeat (first | (with_reducible refine wpAny_loadPart_at he ?_; rw [hcls]) | with_reducible refine wpAny_loadPart_at hD ?_ | (with_reducible refine wpAny_isSubtype_exc hD ?_; rw [hcB]) | (with_reducible refine wpAny_isSubtype_exc hC ?_; rw [hcC]) | wp_step)
  exact hq
section
variable {X : Cx} {pins : List (Addr × Obj)} {σ : St} {H H' : Hp} {s s' : Shared} {a C : Addr} {a0 : Value} {h : Heap}
theorem inv_flying {T : Addr} (I : Inv X pins σ H s) (os : s'.os = s.os) (bare : AllBare s'.gens) (U : Un (frs X.stack) [] H H' s.heap s'.heap) (ok : HOk X.prog X.w H' s'.heap)
    (na : H' a = none) (fa : s.heap.get? a = none) (nT : H' T = none) (fT : s.heap.get? T = none)
    (hfl : Heap.FlyingW (PySem.W.hideAll s'.heap (a :: T :: frs X.stack)) X.stack a (.ref C) a0 h) (hup : s'.heap.UpToSlots h) :
    ∃ oe, Inv X ((a, oe) :: pins) σ H' { s' with heap := h } ∧ oe.cls = .ref C ∧ h.get? a = some oe := by
  obtain ⟨k1, k2, k3, oe, vs, T', oT, ts, g1, ⟨g2, _⟩, g3, _⟩ := hfl
  have keepB : ∀ b o, s'.heap.get? b = some o → b ≠ a → b ≠ T → b ∉ frs X.stack → h.get? b = some o := fun b o e n1 n2 n3 => k1 b o (PySem.W.hideAll_get _ e fun z => by
    rcases List.mem_cons.mp z with z | z
    · exact n1 z
    · rcases List.mem_cons.mp z with z | z
      · exact n2 z
      · exact n3 z)
  have old : ∀ b o, s.heap.get? b = some o → b ≠ a ∧ b ≠ T := fun b o e => ⟨fun z => (by rw [z, fa] at e; cases e), fun z => (by rw [z, fT] at e; cases e)⟩
  have J : Inv X pins σ H' s' := I.call' os U ok bare fun b hb => (nomatch hb)
  have un : Un (frs X.stack) [] H H' s.heap h := by
    refine ⟨fun b o e n hb hx => keepB b o (U.keep b o e n hb hx) (old b o e).1 (old b o e).2 hb, fun b o e n hb hx => ?_, U.free, fun b o e hx => ?_, U.tups, U.frzs, U.tbls⟩
    · obtain ⟨sl, e1⟩ := U.slot b o e n hb hx
      obtain ⟨_, o', e', nf⟩ := I.stack.mem hb
      rw [e] at e'; cases e'
      obtain ⟨sl2, e2⟩ := hup b { o with slots := sl } e1 nf
      exact ⟨sl2, e2⟩
    · obtain ⟨o', e1⟩ := U.there b o e hx
      by_cases z : b ∈ frs X.stack
      · obtain ⟨_, o2, e2, nf⟩ := J.stack.mem z
        obtain ⟨sl, e3⟩ := hup b o2 e2 nf
        exact ⟨_, e3⟩
      · exact ⟨o', keepB b o' e1 (old b o e).1 (old b o e).2 z⟩
  have trk : ∀ b u, H' b = some u → b ≠ a ∧ b ≠ T ∧ b ∉ frs X.stack := fun b u e => ⟨fun z => (by rw [z, na] at e; cases e), fun z => (by rw [z, nT] at e; cases e), fun z => (by rw [J.stkFree b z] at e; cases e)⟩
  have ok' : HOk X.prog X.w H' h := fun c o e => (ok c o e).stay (fun b u hb q => by
    have t : b ≠ a ∧ b ≠ T ∧ b ∉ frs X.stack := by
      rcases hb with rfl | hb
      · exact trk _ _ e
      · exact trk _ _ hb
    exact keepB b u q t.1 t.2.1 t.2.2) (fun _ q => q) fun _ _ q => q
  have J6 : Inv X pins σ H' { s' with heap := h } := I.call' (s' := { s' with heap := h }) os un ok' bare fun b hb => (nomatch hb)
  refine ⟨oe, J6.pins_of fun p hp => ?_, g2, g1⟩
  rcases List.mem_cons.mp hp with rfl | hp
  · refine ⟨g1, na, fun z => ?_, fun z => ?_, fun v z => by rw [g3] at z; cases z⟩
    · obtain ⟨m, ⟨o, _, _, e, _⟩, _⟩ := I.loc
      have z : a = X.env.locals := z
      rw [← z, fa] at e; cases e
    · have z : a ∈ frs X.stack := by
        rcases I.ok.stk with e | ⟨e, _⟩
        · rw [e]; exact z
        · rw [e]; unfold frs; rw [List.filterMap_cons]
          split
          · exact z
          · exact List.mem_cons_of_mem _ z
      obtain ⟨_, o, e, _⟩ := I.stack.mem z
      rw [fa] at e; cases e
  · exact J6.pin p (List.mem_append_right _ hp)
end
end L2
set_option linter.all false
set_option maxRecDepth 100000
namespace L2
open PySem PySem.Spec PyProof.Rows
abbrev Cx.held (X : Cx) (a : Addr) (oe : Obj) : Cx := { X with A := X.A.mark (some (.ref a)), calm := false, pn := (a, oe) :: X.pn, xe := fun _ _ => False }
section
variable {X : Cx} {pins : List (Addr × Obj)} {σ : St} {H : Hp} {s : Shared} {a : Addr} {oe : Obj}
theorem mark_frames {A : Around} {u : Option Value} : (A.mark u).frames = A.frames := by cases A; rfl
theorem Cx.Ok.held (ok : X.Ok) : (X.held a oe).Ok :=
  ⟨ok.mod, ok.kind, ok.glob, ok.blt, ok.above, ok.inj, ok.has, ok.cab, (fun z => absurd z (by show ¬ (false = true); decide)), mark_frames.trans ok.frames, ok.stk, ok.exf, ok.bs, ok.bsz, ok.noex, ok.exfs, ok.funs, ok.frf⟩
theorem Inv.held (I : Inv X ((a, oe) :: pins) σ H s) : Inv (X.held a oe) pins σ H s :=
  ⟨I.ok.held, I.os, I.bare, I.base, I.loc, I.cell, I.free, I.freeC, fun p hp => I.pin p (by
    have hp : p ∈ ((a, oe) :: X.pn) ++ pins := hp
    simp only [List.cons_append, List.mem_cons, List.mem_append] at hp ⊢
    rcases hp with h | h | h
    · exact .inr (.inl h)
    · exact .inl h
    · exact .inr (.inr h)), I.hok, I.len⟩
theorem Inv.unheld (ok : X.Ok) (I : Inv (X.held a oe) pins σ H s) : Inv X pins σ H s :=
  ⟨ok, I.os, I.bare, I.base, I.loc, I.cell, I.free, I.freeC, fun p hp => I.pin p (List.mem_cons_of_mem _ hp), I.hok, I.len⟩
theorem goes_ok {M : Model} {A : Around} {E : Value → Shared → Prop} {i : Nat} {n : Str} {pos : Pos} {Q : Unit → Shared → Prop} (I : Inv X pins σ H s) (hN : X.N.Nodup) (hi : X.N[i]? = some n) (hk : X.env.scope.names.lookup n = some .local)
    (h : ∀ s', Inv X pins (σ.set i none) H s' → Q () s') : wpAny M A (do bindName X.env n .none; unbindBehindTheSuite X.env n pos) Q E s := by
  obtain ⟨m, hn, hl⟩ := id I.loc
  have hcls : (X.env.scope.kind == .class || (X.env.scope.kind == .module && X.env.locals != X.env.globals)) = false := by rw [I.ok.kind]; rfl
  have hiσ : i < σ.length := by rw [I.len]; exact (List.getElem?_eq_some_iff.mp hi).1
  have cne := I.cne
  have tracked : ∀ {a : Addr} {h' : Heap}, (∃ o, s.heap.get? a = some o ∧ H a = none) → Heap.SameBut a s.heap h' → HOk X.prog X.w H h' := fun {a h'} ha hs b ob e => by
    obtain ⟨_, _, hfree⟩ := ha
    refine (I.hok b ob e).stay (fun c w' hc q => (hs.2 c ?_).trans q) (fun _ q => q) fun _ _ q => q
    rintro rfl
    rcases hc with rfl | hc
    · rw [hfree] at e; cases e
    · rw [hfree] at hc; cases hc
  refine wpAny_nameGoes_keeps hk hn hcls fun h' v hn' hs => ?_
  obtain ⟨oL, _, _, hoL, _⟩ := id hn
  refine h _ ⟨I.ok, I.os, I.bare, ⟨fun b o e n hb hx => ?_, fun b o e n hb hx => ?_, I.base.free, fun b o e hx => ?_, I.base.tups, I.base.frzs, I.base.tbls⟩, ⟨_, hn', fun j y v' e1 e2 e3 => ?_⟩, fun y c e => ?_, I.free, I.freeC, fun p hp => ?_, tracked ⟨oL, hoL, I.free⟩ hs, by simpa using I.len⟩
  · exact (hs.2 b (Nat.ne_of_lt (Nat.lt_of_lt_of_le (Heap.lt_size e) I.ok.above))).trans (I.base.keep b o e n hb hx)
  · obtain ⟨sl, e1⟩ := I.base.slot b o e n hb hx
    exact ⟨sl, (hs.2 b (Nat.ne_of_lt (Nat.lt_of_lt_of_le (Heap.lt_size e) I.ok.above))).trans e1⟩
  · obtain ⟨o', e1⟩ := I.base.there b o e hx
    exact ⟨o', (hs.2 b (Nat.ne_of_lt (Nat.lt_of_lt_of_le (Heap.lt_size e) I.ok.above))).trans e1⟩
  · by_cases hj : j = i
    · subst hj
      rw [List.getElem?_set_self hiσ] at e2
      cases e2
    · rw [List.getElem?_set_ne (Ne.symm hj)] at e2
      obtain ⟨u', r', q⟩ := hl j y v' e1 e2 e3
      refine ⟨u', r', ?_⟩
      rcases q with ⟨k, e⟩ | ⟨k, c, e, z⟩
      · refine .inl ⟨k, ?_⟩
        have : y ≠ n := fun e => hj (nodup_ix hN e1 (e ▸ hi))
        simp [this, e]
      · exact .inr ⟨k, c, e, z.sameBut hs (cne y c e)⟩
  · obtain ⟨w', z⟩ := I.cell y c e
    exact ⟨w', z.sameBut hs (cne y c e)⟩
  · obtain ⟨e, n, ne, nf, d⟩ := I.pin p hp
    exact ⟨(hs.2 p.1 ne).trans e, n, ne, nf, d⟩
end
section
variable {X : Cx} {CX : CXT} {k : Nat} {f C D : Addr} {fd : FuncData} {ps : List Str} {sp : Sp} {E : XK} {x y n : Str} {p np cp ep hp pos : Pos} {e : Expr} {es : List Expr} {ta : TA} {b₀ : Stmt} {suite : List Stmt} {i : Nat} {ups upD : List Addr}
theorem run_fnX {XE : Value → Shared → Prop} {pins : List (Addr × Obj)} {σ : St} {H : Hp} {s : Shared} {Q : VK} {us : List Value} {vs : List V} (F : FnOk X.prog X.w X.K X.mg X.base CX k f fd ps sp) (hr : Room k X.A) (hb : Binds X.K fd ps [])
    (I : Inv X pins σ H s) (r : Vals vs us) (h : sp vs H Q E) (hx : ∀ e s', CX X.stack H s E e s' → XE e s') : wpAny (model X.prog X.w) X.A (call (.ref f) us) (EP X pins σ Q) XE s := by
  have hl : (us ++ []).length = ps.length := by rw [List.append_nil, ← r.length]; exact F.len _ _ _ _ h
  have hb' := hb s us I.kIn hl
  rw [List.append_nil] at hb'
  refine wpAny_call (codeAny_mono (F.run X.A X.stack s H ⟨us, []⟩ us vs Q E hr I.env0 hb' r h) fun r s' hq => ?_)
  cases r with
  | error e => exact hx e s' hq
  | ok fl =>
    cases fl with
    | ret u => exact I.after hq
    | next => exact False.elim hq
    | brk => exact False.elim hq
    | cont => exact False.elim hq
def tTry (i : Nat) (C : Addr) (sp : Sp) (ta : TA) (th : Addr → TS) : TS := fun Dn σ H => ta σ H fun vs H1 => sp vs H1 (fun _ H2 => Dn.nx σ H2) fun cls _ H2 => cls = .ref C ∧ ∀ a, H2 a = none →
  th a { nx := fun σ' H' => Dn.nx (σ'.set i none) H', rt := fun _ _ => False } (σ.set i (some (.ref a))) H2
theorem ps_try {th : Addr → TS} (hst : X.stack = X.env :: X.outer) (hfm : X.env.frame = some X.env.locals) (F : FnOk X.prog X.w X.K X.mg X.base (CXR X.prog X.w) k f fd ps sp) (hr : Room k X.A) (hgf : Gl X y) (hmf : X.mg y = some (.ref f))
    (hkf : PySem.W.keepIn X.K (.ref f) = true) (hb : Binds X.K fd ps []) (ha : PA X.nox (e :: es) ta) (OC : ExcObj X.base C ups) (OD : ExcObj X.base D upD) (hmD : X.mg x = some (.ref D)) (hgx : Gl X x) (hcon : (C :: ups).contains D = true)
    (hN : X.N.Nodup) (hi : X.N[i]? = some n) (hln : X.env.scope.names.lookup n = some .local) (hs : ∀ a oe, oe.cls = .ref C → PSs (X.held a oe) (b₀ :: suite) (th a))
    (hdx : (x == ("__debug__" : Str)) = false := by decide) (hdy : (y == ("__debug__" : Str)) = false := by decide) (he : starEach (e :: es) X.env = (false, eval e X.env) :: starEach es X.env := by rfl) (hpl : (backTo cp (starEach es X.env)).any (·.1) = false := by rfl)
    (hsw : swapsWith (.Call (.Name y p) (e :: es) [] cp) none ep.line X.env = pure false := by rfl) :
    PS X (.Try [.Expr (.Call (.Name y p) (e :: es) [] cp) ep] [.ExceptHandler (some (.Name x np)) (some n) (b₀ :: suite) hp] [] [] pos) (tTry i C sp ta th) := by
  intro pins s σ H Dn I h
  refine wpAny_Try_except (wpAny_execs_cons (wpAny_Expr_any ?_ I.quiet hsw))
  refine wpAny_Call_Name_kw (ld_glob I hgf hmf ?_ hdy)
  refine PySem.W.callWith_K (h₀ := X.base) I.ok.mod.kin hkf (wpAny_mono (ha cp pins s σ H _ (I.wish _) h) (fun us s1 q1 => ?_) fun _ _ z => z.elim) he hpl
  obtain ⟨vs, H1, I1, r, q⟩ := q1
  have I1 : Inv X pins σ H1 s1 := I1.unwish
  refine ⟨I1.kIn, wpAny_mono (run_fnX (XE := fun ev s' => CXR X.prog X.w X.stack H1 s1 _ ev s') F hr hb I1 r q fun _ _ z => z) (fun u s2 z => ?_) fun ev s' z => ?_⟩
  · obtain ⟨v, H2, I2, _, q2⟩ := z
    exact wpAny_execs_nil (wpAny_execs_nil ⟨σ, H2, I2, q2⟩)
  obtain ⟨a, C', H', rfl, os, bare, U, ok, fl, qC, q⟩ := z
  cases qC
  obtain ⟨⟨na, fa⟩, oe, ws, a0, T, oT, ts, ge, gc, gd, g1, g2, g3, g4, g5, nT, fT⟩ := fl
  have J : Inv X pins σ H' s' := I1.call' os U ok bare fun b hb => (nomatch hb)
  have hfl : Heap.FlyingW (PySem.W.hideAll s'.heap (a :: T :: frs X.stack)) (X.env :: X.outer) a (.ref C) a0 s'.heap := by
    refine ⟨fun b o e => PySem.W.of_hideAll _ e, PySem.W.hideAll_none _ (List.mem_cons_self ..), ?_, oe, ws, T, oT, ts, ge, gc, gd, g1, PySem.W.hideAll_none _ (List.mem_cons_of_mem _ (List.mem_cons_self ..)), g2, g3, g4, g5⟩
    rw [← hst]
    exact PySem.W.funFrames_hide J.stack fun env he b hb => List.mem_cons_of_mem _ (List.mem_cons_of_mem _ (List.mem_filterMap.mpr ⟨env, he, hb⟩))
  have hfr : X.A.frames = some (X.env :: X.outer) := by rw [← hst]; exact J.ok.frames
  refine wpAny_looks_onW hfr hfm hfl fun h₄ hheld₄ hsm₄ => ?_
  refine wpAny_landsW hheld₄ fun h₅ hfl₅ hsm₅ => ?_
  obtain ⟨oe5, I5, c5, e5⟩ := inv_flying I1 os bare U ok na fa nT fT (by rw [hst] at hfl₅ ⊢; exact hfl₅) (hsm₄.trans hsm₅)
  have I5' : Inv (X.held a oe5) pins σ H' { s' with heap := h₅ } := I5.held
  refine wpAny_handleBy_cons (codeAny_handlers_test (ld_glob (X := X.held a oe5) I5' hgx hmD ?_ hdx)) (by intro q; cases q)
  refine excMatches_own (OC.keeps I5.bk) (OD.keeps I5.bk) e5 c5 hcon ?_
  refine codeAny_handlers_suite_as ?_
  refine lands_againW hfl₅ fun h₆ hfl₆ hsm₆ => ?_
  obtain ⟨oe6, I6, c6, e6⟩ := inv_flying I1 os bare U ok na fa nT fT (by rw [hst] at hfl₆ ⊢; exact hfl₆) ((hsm₄.trans hsm₅).trans hsm₆)
  have I6' : Inv (X.held a oe6) pins σ H' { s' with heap := h₆ } := I6.held
  refine store_ok (X := X.held a oe6) (v := .ref a) I6' hN hi (.inl hln) rfl (fun s7 I7 => ?_) (.inr hln)
  refine wpAny_mono (hs a oe6 c6 pins s7 _ H' _ I7 (q a na)) (fun fl s8 q8 => ?_) fun _ _ z => z.elim
  cases fl with
  | next =>
    obtain ⟨σ', H8, I8, q8⟩ := q8
    exact goes_ok (I8.unheld J.ok) hN hi hln fun s9 I9 => ⟨_, H8, I9, q8⟩
  | brk => obtain ⟨_, _, _, z⟩ := q8; exact False.elim z
  | cont => obtain ⟨_, _, _, z⟩ := q8; exact False.elim z
  | ret u => obtain ⟨_, _, _, _, _, z⟩ := q8; exact False.elim z
end
end L2
set_option linter.all false
set_option maxRecDepth 100000
namespace PySem.W
open PySem PySem.Spec PySem.Calls PyProof.Rows
section
variable {prog : Program} {w : World} {A : Around} {E : Value → Shared → Prop} {s : Shared} {K : Frag} {x C : Addr} {ox : Obj}
theorem xc_get {R : Result → Shared → Prop} {tp : Value} (hm : mroIn K C (.type "object") = some true) (X : K.In s.heap) (L0 : Looks (model prog w) s.heap (typeOf (.ref x)) (.ref C)) (h : R (.ok (.ret (.ref C))) s) :
    codeAny (model prog w) A (.call (.builtin "getset_descriptor.__get__") ⟨[.builtin "object.__class__", .ref x, tp], []⟩) R s := by
  obtain ⟨hh, g, dr, t, os⟩ := s
  have hT5 : (⟨hh, g, dr, t, os⟩ : Shared).TypeIs (.builtin "object.__class__") "getset_descriptor" := F.typeOf_object_class
  have L1 : Looks (model prog w) hh (isSubtype (.ref C) (.type (".".intercalate ("object.__class__".cutAt '.').dropLast))) true := by
    rw [F.owner_object_class]; exact looks_mroIn (M := model prog w) X hm
  refine codeAny_call_builtin F.slot_gs_get.plain F.entry_gs_get (F.slot_gs_get.check _ _ _ _ _ _ _ _ hT5 (F.args_gs_get _ _ _) ?_)
  repeat (any_goals (first | assumption | with_reducible refine L0.at ?_ | with_reducible refine L1.at ?_ | wp_step))
  refine ⟨Code.quiet_builtin _ (by decide +kernel), codeAny_builtin F.entry_object_class ?_⟩
  repeat (any_goals (first | assumption | with_reducible refine L0.at ?_ | with_reducible refine L1.at ?_ | wp_step))
theorem xc_entry {tk : Tok} {Q : Fin → Shared → Prop} (hcl : findIn K (.ref C) "__class__" = some (some (.builtin "object.__class__"))) (hm : mroIn K C (.type "object") = some true)
    (X : K.In s.heap) (L0 : Looks (model prog w) s.heap (typeOf (.ref x)) (.ref C)) (h : Q (.done (.ret (.ref C))) s) : wpAny (model prog w) A (Builtin.«object.__getattribute__» ⟨[.ref x, .str "__class__" tk], []⟩) Q E s := by
  obtain ⟨hh, g, d, t, os⟩ := s
  have L1 := looks_findIn (M := model prog w) X hcl
  have hT5 : (⟨hh, g, d, t, os⟩ : Shared).TypeIs (.builtin "object.__class__") "getset_descriptor" := F.typeOf_object_class
  have f5 := F.typeOf_object_class
  have f6 := F.slot_gs_get.lookup
  have f7 := F.slot_gs_set.lookup
  repeat (any_goals (first | assumption | with_reducible refine L0.at ?_ | with_reducible refine L1.at ?_ | wp_step))
  refine xc_get hm X L0 ?_
  repeat (any_goals (first | assumption | wp_step))
theorem xc_check {M : Model} {nameV : Value} {Q : Unit → Shared → Prop} (hmB : mroIn K C (.type "BaseException") = some true) (X : K.In s.heap) (L0 : Looks M s.heap (typeOf (.ref x)) (.ref C)) (h : Q () s) :
    wpAny M A (checkBuiltinCall "BaseException.__getattribute__" ⟨[.ref x, nameV], []⟩) Q E s := by
  obtain ⟨hh, g, d, t, os⟩ := s
  have hk : builtinKind "BaseException.__getattribute__" = some .slot := by decide +kernel
  have hsplit : splitId "BaseException.__getattribute__" = some ("BaseException", "__getattribute__") := by decide +kernel
  have L1 := looks_mroIn (M := M) X hmB
  have ha := F.args_bexc_ga (.ref x) nameV
  simp only [checkBuiltinCall, hk, hsplit]
  refine wpAny_bind ?_
  unfold isInstance
  repeat (first | with_reducible refine L0.at ?_ | with_reducible refine L1.at ?_ | wp_step)
  exact h
theorem xc_class {Q : Option Value → Shared → Prop} (hga : findIn K (.ref C) "__getattribute__" = some (some (.builtin "BaseException.__getattribute__"))) (hge : findIn K (.ref C) "__getattr__" = some none)
    (hcl : findIn K (.ref C) "__class__" = some (some (.builtin "object.__class__"))) (hm : mroIn K C (.type "object") = some true) (hmB : mroIn K C (.type "BaseException") = some true)
    (X : K.In s.heap) (L0 : Looks (model prog w) s.heap (typeOf (.ref x)) (.ref C)) (h : Q (some (.ref C)) { s with toks := s.toks + 1 }) : wpAny (model prog w) A (getAttr? (.ref x) "__class__") Q E s := by
  obtain ⟨hh, g, d, t, os⟩ := s
  have L1 := looks_findIn (M := model prog w) X hga
  have L2 := looks_findIn (M := model prog w) X hge
  have f3 := F.attr_ValueError.ga.bind (.ref x)
  have hx2 : (Value.builtin "BaseException.__getattribute__" == Value.builtin "object.__getattribute__") = false := by decide +kernel
  have hx1 : (onTheHeap (Value.ref C) && Value.builtin "BaseException.__getattribute__" == Value.builtin "object.__getattribute__") = false := by rw [hx2]; rfl
  unfold getAttr? getAttrBy?
  repeat (any_goals (first | assumption | with_reducible refine L0.at ?_ | with_reducible refine L1.at ?_ | with_reducible refine L2.at ?_ | wp_step))
  refine codeAny_call_builtin F.attr_ValueError.ga.plain F.entry_bexc_ga (xc_check hmB X L0 (xc_entry hcl hm X L0 ?_))
  repeat (any_goals (first | assumption | wp_step))
structure ExcK (K : Frag) (C : Addr) : Prop where
  ga : findIn K (.ref C) "__getattribute__" = some (some (.builtin "BaseException.__getattribute__"))
  ge : findIn K (.ref C) "__getattr__" = some none
  cl : findIn K (.ref C) "__class__" = some (some (.builtin "object.__class__"))
  ob : mroIn K C (.type "object") = some true
  be : mroIn K C (.type "BaseException") = some true
  is : (clsIn K C).isSome = true
def ExcAt (x C : Addr) (h : Heap) : Prop := ∃ o, h.get? x = some o ∧ o.cls = .ref C
theorem ExcAt.ty {h : Heap} (M : Model) (p : ExcAt x C h) : Looks M h (typeOf (.ref x)) (.ref C) := by
  obtain ⟨o, h1, h2⟩ := p
  exact h2 ▸ (Looks.ld h1).andThen .now
theorem kitx_exc (k : ExcK K C) : KitX K (.ref x) (.ref C) (ExcAt x C) where
  ty := fun M _ _ p => p.ty M
  it := fun _ _ X _ => by
    have z0 := k.is
    unfold clsIn at z0
    split at z0
    · rename_i c' d' cd' sl' ho
      intro A' Q' E' s' k q
      unfold isType loadHead
      exact wpAny_bind (wpAny_loadPart (k _ _ (X _ _ ho)) (wpAny_pure q))
    · cases z0
  ne := fun h tp dd its n sl X htp => by
    have z0 := k.is
    refine Bool.eq_false_iff.mpr fun q => ?_
    have e : C = tp := Value.ref.inj (beq_iff_eq.mp q)
    subst e
    unfold clsIn at z0
    split at z0
    · rename_i c' d' cd' sl' ho
      have z := (X _ _ ho).symm.trans htp
      cases z
    · cases z0
  ca := fun X p q => xc_class k.ga k.ge k.cl k.ob k.be X (p.ty _) q
end
end PySem.W
namespace L2
open PySem PySem.Spec PyProof.Rows
section
variable {X : Cx} {pins : List (Addr × Obj)} {σ : St} {H : Hp} {s : Shared} {a C : Addr} {oe : Obj} {i : Nat} {n x : Str} {np p cp : Pos} {b : Bool}
theorem Inv.excAt (I : Inv (X.held a oe) pins σ H s) (hc : oe.cls = .ref C) : PySem.W.ExcAt a C s.heap := ⟨oe, (I.pin (a, oe) (List.mem_append_left _ (List.mem_cons_self ..))).1, hc⟩
end
end L2
set_option linter.all false
set_option maxRecDepth 100000
namespace L2
open PySem PySem.Spec PyProof.Rows
section
variable {X : Cx} {a C : Addr} {oe : Obj}
theorem vals_refs : ∀ {cs : List Addr} {us : List Value}, Vals (cs.map V.ref) us → us = cs.map Value.ref
  | [], us, r => by cases r; rfl
  | c :: cs, us, r => by
    cases r with
    | cons r rr =>
      have e := vals_refs rr
      have e1 : _ = Value.ref c := r
      rw [e, e1]; rfl
def isxR (K : PySem.W.Frag) (a C : Addr) : List V → Hp → VK → Prop := fun xs H Q => ∃ b, Q (.bl b) H ∧
    ((∃ (p : Addr) (cs : List Addr), xs = [.ref a, .ref p] ∧ H p = some (.tup (cs.map V.ref)) ∧ PySem.W.kitAny K (.ref C) (cs.map Value.ref) = some b) ∨ ∃ T, xs = [.ref a, .ty T] ∧ PySem.W.kitOne K (.ref C) (.type T) = some b)
theorem call_isx (hc : oe.cls = .ref C) (k : PySem.W.ExcK X.K C) : CallR (X.held a oe) (.builtin "isinstance") (isxR X.K a C) := by
  intro pins s σ H xs us Q I r h
  obtain ⟨b, q, ⟨p, cs, rfl, hp, e⟩ | ⟨T, rfl, e⟩⟩ := h
  · obtain ⟨u, v, rfl, ru, rv⟩ := vals2 r
    obtain rfl : u = Value.ref a := ru
    obtain rfl : v = Value.ref p := rv
    obtain ⟨_, its, rv, ho⟩ := (show ObjOk X.prog X.w H s.heap p (.tup (cs.map V.ref)) from I.hok p _ hp)
    obtain rfl := vals_refs rv
    obtain ⟨o, h1, h2, n, h3⟩ := ho
    obtain ⟨oc, od, oda, osl⟩ := o
    dsimp only at h2 h3
    subst h2 h3
    exact PySem.W.kia_tup (PySem.W.kitx_exc k) I.kIn (I.excAt hc) h1 e (fun z => nomatch z) fun tk => ⟨.bl b, H, I.tok _, rfl, q⟩
  · obtain ⟨u, v, rfl, ru, rv⟩ := vals2 r
    obtain rfl : u = Value.ref a := ru
    obtain rfl : v = Value.type T := rv
    exact PySem.W.kia_one (PySem.W.kitx_exc k) I.kIn (I.excAt hc) e (fun z => nomatch z) fun tk => ⟨.bl b, H, I.tok _, rfl, q⟩
end
section
variable {P : Program} {w : World} {K : PySem.W.Frag} {mg : Str → Option Value} {base : Heap} {CX : CXT}
theorem Fun.okX {x qual : Str} {st : Stmt} {f : Addr} {fd : FuncData} {N ps : List Str} {k : Nat} {sp : Sp} (F : Fun K x qual st f fd) (S : FnScope N ps (defScope st)) (len : ∀ vs H Q E, sp vs H Q E → vs.length = ps.length)
    (hbody : ∀ (cdv : Value) (A : Around) (outer : List Env) (s : Shared) (H : Hp) (vs : List V) (Q : VK) (E : XK), Room k (A.deeper (envOfC qual (defScope st) s.heap.objs.size f cdv)) → sp vs H Q E →
      ∃ t, PSs (cxOf (CXR P w) P w K mg base N qual (defScope st) f cdv A outer s H E) (defBody st) t ∧ t { nx := fun _ H' => Q .non H', rt := Q } (start N vs) H) : FnOk P w K mg base (CXR P w) (k + 1) f fd ps sp := by
  obtain ⟨oc, od, kV, doc, pm, an, cdv, ct, osl, rfl, lk, hcd⟩ := F.ex
  exact fn_of lk hcd S len fun A outer s H vs Q E hr hsp => hbody cdv A outer s H vs Q E hr hsp
end
theorem ExcObj.of_lookup {K : PySem.W.Frag} {h : Heap} {C : Addr} {ups : List Addr} {mro : List Value} {dd : Option Addr} {nm qn : Str} {bs : List Value} {ns : Addr} {hd : Bool} {sn : List Str} {sub : List Value} {ab : Bool} {col : Option Bool} {k0 k1 k2 k3 k5 : Option Value} (X : K.In h)
    (u : K.lookup C = some ⟨.type "type", dd, .cls ⟨nm, bs, mro, ns, qn, hd, sn, sub, ab, col, false⟩, #[k0, k1, k2, k3, some (.builtin "ValueError.__new__"), k5]⟩) (hm : mro = .ref C :: (ups.map Value.ref ++ VB)) (v : PySem.W.excIn K C VB "ValueError.__new__" = true) : ExcObj h C ups := by
  subst hm
  unfold PySem.W.excIn at v
  rw [u] at v
  simp only [Bool.and_eq_true, beq_iff_eq, Bool.not_eq_true'] at v
  obtain ⟨⟨⟨_, ht⟩, hok⟩, hni⟩ := v
  exact ⟨ns, nm, qn, bs, hd, sn, sub, ab, col, dd, k0, k1, k2, k3, k5, _, X _ _ u, .of_isNs (PySem.W.isNs_of_in X hok), PySem.W.nsMap_none_of_in X hok hni, PySem.W.tail_of_in X ht⟩
theorem passN {X : Cx} {P : Program} {w : World} : Passes (CXR P w) X E0 := fun _ _ _ _ _ _ _ h => by
  obtain ⟨_, _, _, _, _, _, _, _, _, q⟩ := h
  exact q.elim
end L2
set_option Elab.async false
set_option linter.all false
set_option maxRecDepth 100000
namespace L2
open PySem PySem.Spec PyProof.Rows
section
variable {P : Program} {w : World} {K : PySem.W.Frag} {mg : Str → Option Value} {base : Heap} {x qual : Str} {st : Stmt} {dv : List Value} {f : Addr} {fd : FuncData} {N ps : List Str} {k : Nat} {sp : Sp}
end
end L2
set_option Elab.async false
set_option linter.all false
set_option maxRecDepth 100000
set_option maxHeartbeats 4000000
namespace L3
open PySem L2
inductive D where
  | non | bl (b : Bool) | int (i : Int) | str (x : Str) | lst (ds : List D) | tup (ds : List D) | dic (kvs : List (Key × V)) | dit (kvs : List (List Key × V)) | scr (ns : List Int) | pin (a : Addr) (d : D) | ins (C : Addr) (ns : List Str) (ds : List D)
def Kc (K : PySem.W.Frag) (a : Addr) (xs : List V) : Prop :=
  ∃ (o : Obj) (its : Array Value) (n : Nat), K.lookup a = some o ∧ o.cls = .type "list" ∧ o.dict = none ∧ o.data = .seq its n ∧ its.size ≤ sizeLine ∧ Vals xs its.toList
def Sc (K : PySem.W.Frag) (H : Hp) (a : Addr) (xs : List V) : Prop := (∃ o, H a = some (.frz o (.lst xs))) ∨ Kc K a xs
theorem Sc.seq {K : PySem.W.Frag} {H : Hp} {a : Addr} {xs : List V} (h : Sc K H a xs) : SqL K H a xs := h.elim (fun ⟨o, h⟩ => .inl (.inr ⟨o, h⟩)) .inr
def Im (o : HO) : Prop := (∃ xs, o = .tup xs) ∨ ∃ o' u, o = .frz o' u
section
variable {K : PySem.W.Frag}
mutual
def Rf (K : PySem.W.Frag) (H : Hp) : D → V → List Addr → Prop
  | .non, v, fp => v = .non ∧ fp = []
  | .bl b, v, fp => v = .bl b ∧ fp = []
  | .int i, v, fp => v = .int i ∧ fp = []
  | .str x, v, fp => v = .str x ∧ fp = []
  | .lst ds, v, fp => ∃ a xs fq, v = .ref a ∧ H a = some (.lst xs) ∧ fp = a :: fq ∧ Rfs K H ds xs fq
  | .tup ds, v, fp => ∃ a xs, v = .ref a ∧ H a = some (.tup xs) ∧ Rfs K H ds xs fp
  | .dic kvs, v, fp => ∃ a, v = .ref a ∧ H a = some (.dK kvs) ∧ (∀ p ∈ kvs, flatV p.2 = true) ∧ fp = [a]
  | .dit kvs, v, fp => ∃ a, v = .ref a ∧ H a = some (.dT kvs) ∧ (∀ p ∈ kvs, flatV p.2 = true) ∧ fp = [a]
  | .scr ns, v, fp => ∃ a, v = .ref a ∧ Sc K H a (ns.map V.int) ∧ fp = []
  | .pin a d, v, fp => v = .ref a ∧ Rf K H d v fp
  | .ins C ns ds, v, fp => ∃ a dx xs fq, v = .ref a ∧ H a = some (.ins C dx (ns.zip xs)) ∧ fp = a :: fq ∧ Rfs K H ds xs fq
def Rfs (K : PySem.W.Frag) (H : Hp) : List D → List V → List Addr → Prop
  | [], xs, fp => xs = [] ∧ fp = []
  | d :: ds, xs, fp => ∃ x r f1 f2, xs = x :: r ∧ fp = f1 ++ f2 ∧ Rf K H d x f1 ∧ Rfs K H ds r f2
end
def Rp (K : PySem.W.Frag) (H : Hp) (d : D) (v : V) : Prop := ∃ fp, Rf K H d v fp
def Rps (K : PySem.W.Frag) (H : Hp) (ds : List D) (vs : List V) : Prop := ∃ fp, Rfs K H ds vs fp
mutual
theorem Rf.mono {H H' : Hp} : ∀ {d : D} {v : V} {fp : List Addr}, Rf K H d v fp → (∀ a ∈ fp, ∀ o, H a = some o → H' a = some o) → (∀ a o, H a = some o → Im o → H' a = some o) → Rf K H' d v fp
  | .non, _, _, h, _, _ => h
  | .bl _, _, _, h, _, _ => h
  | .int _, _, _, h, _, _ => h
  | .str _, _, _, h, _, _ => h
  | .lst ds, v, fp, h, k, t => by
    obtain ⟨a, xs, fq, e1, e2, e3, h⟩ := h
    subst e3
    exact ⟨a, xs, fq, e1, k a List.mem_cons_self _ e2, rfl, Rfs.mono h (fun b hb => k b (List.mem_cons_of_mem _ hb)) t⟩
  | .tup ds, v, fp, h, k, t => by
    obtain ⟨a, xs, e1, e2, h⟩ := h
    exact ⟨a, xs, e1, t a _ e2 (.inl ⟨_, rfl⟩), Rfs.mono h k t⟩
  | .dic kvs, v, fp, h, k, t => by
    obtain ⟨a, e1, e2, e3, e4⟩ := h
    subst e4
    exact ⟨a, e1, k a List.mem_cons_self _ e2, e3, rfl⟩
  | .dit kvs, v, fp, h, k, t => by
    obtain ⟨a, e1, e2, e3, e4⟩ := h
    subst e4
    exact ⟨a, e1, k a List.mem_cons_self _ e2, e3, rfl⟩
  | .scr ns, v, fp, h, k, t => by
    obtain ⟨a, e1, e2, e3⟩ := h
    refine ⟨a, e1, ?_, e3⟩
    rcases e2 with ⟨o, e2⟩ | e2
    · exact .inl ⟨o, t a _ e2 (.inr ⟨_, _, rfl⟩)⟩
    · exact .inr e2
  | .pin a d, v, fp, h, k, t => ⟨h.1, Rf.mono h.2 k t⟩
  | .ins C ns ds, v, fp, h, k, t => by
    obtain ⟨a, dx, xs, fq, e1, e2, e3, h⟩ := h
    subst e3
    exact ⟨a, dx, xs, fq, e1, k a List.mem_cons_self _ e2, rfl, Rfs.mono h (fun b hb => k b (List.mem_cons_of_mem _ hb)) t⟩
theorem Rfs.mono {H H' : Hp} : ∀ {ds : List D} {vs : List V} {fp : List Addr}, Rfs K H ds vs fp → (∀ a ∈ fp, ∀ o, H a = some o → H' a = some o) → (∀ a o, H a = some o → Im o → H' a = some o) → Rfs K H' ds vs fp
  | [], _, _, h, _, _ => h
  | d :: ds, vs, fp, h, k, t => by
    obtain ⟨x, r, f1, f2, e1, e2, h1, h2⟩ := h
    subst e2
    exact ⟨x, r, f1, f2, e1, rfl, Rf.mono h1 (fun b hb => k b (List.mem_append_left _ hb)) t, Rfs.mono h2 (fun b hb => k b (List.mem_append_right _ hb)) t⟩
end
theorem Rf.same {H H' : Hp} {d : D} {v : V} {fp : List Addr} (h : Rf K H d v fp) (s : Same H H') : Rf K H' d v fp := h.mono (fun a _ o e => s a o e) fun a o e _ => s a o e
theorem Rfs.same {H H' : Hp} {d : List D} {v : List V} {fp : List Addr} (h : Rfs K H d v fp) (s : Same H H') : Rfs K H' d v fp := h.mono (fun a _ o e => s a o e) fun a o e _ => s a o e
theorem Rp.same {H H' : Hp} {d : D} {v : V} (h : Rp K H d v) (s : Same H H') : Rp K H' d v := let ⟨fp, h⟩ := h; ⟨fp, h.same s⟩
mutual
theorem Rf.dom {H : Hp} : ∀ {d : D} {v : V} {fp : List Addr}, Rf K H d v fp → ∀ a ∈ fp, ∃ o, H a = some o ∧ ¬ Im o
  | .non, _, _, h, a, ha => by obtain ⟨_, rfl⟩ := h; nomatch ha
  | .bl _, _, _, h, a, ha => by obtain ⟨_, rfl⟩ := h; nomatch ha
  | .int _, _, _, h, a, ha => by obtain ⟨_, rfl⟩ := h; nomatch ha
  | .str _, _, _, h, a, ha => by obtain ⟨_, rfl⟩ := h; nomatch ha
  | .lst ds, v, fp, h, b, hb => by
    obtain ⟨a, xs, fq, e1, e2, e3, h⟩ := h
    subst e3
    rcases List.mem_cons.mp hb with e | hb
    · subst e; exact ⟨_, e2, fun z => by rcases z with ⟨_, z⟩ | ⟨_, _, z⟩ <;> cases z⟩
    · exact Rfs.dom h b hb
  | .tup ds, v, fp, h, b, hb => by
    obtain ⟨a, xs, e1, e2, h⟩ := h
    exact Rfs.dom h b hb
  | .dic kvs, v, fp, h, b, hb => by
    obtain ⟨a, e1, e2, e3, e4⟩ := h
    subst e4
    cases List.mem_singleton.mp hb
    exact ⟨_, e2, fun z => by rcases z with ⟨_, z⟩ | ⟨_, _, z⟩ <;> cases z⟩
  | .dit kvs, v, fp, h, b, hb => by
    obtain ⟨a, e1, e2, e3, e4⟩ := h
    subst e4
    cases List.mem_singleton.mp hb
    exact ⟨_, e2, fun z => by rcases z with ⟨_, z⟩ | ⟨_, _, z⟩ <;> cases z⟩
  | .scr ns, v, fp, h, b, hb => by
    obtain ⟨a, e1, e2, e3⟩ := h
    subst e3; nomatch hb
  | .pin a d, v, fp, h, b, hb => Rf.dom h.2 b hb
  | .ins C ns ds, v, fp, h, b, hb => by
    obtain ⟨a, dx, xs, fq, e1, e2, e3, h⟩ := h
    subst e3
    rcases List.mem_cons.mp hb with e | hb
    · subst e; exact ⟨_, e2, fun z => by rcases z with ⟨_, z⟩ | ⟨_, _, z⟩ <;> cases z⟩
    · exact Rfs.dom h b hb
theorem Rfs.dom {H : Hp} : ∀ {ds : List D} {vs : List V} {fp : List Addr}, Rfs K H ds vs fp → ∀ a ∈ fp, ∃ o, H a = some o ∧ ¬ Im o
  | [], _, _, h, a, ha => by obtain ⟨_, rfl⟩ := h; nomatch ha
  | d :: ds, vs, fp, h, b, hb => by
    obtain ⟨x, r, f1, f2, e1, e2, h1, h2⟩ := h
    subst e2
    rcases List.mem_append.mp hb with hb | hb
    · exact Rf.dom h1 b hb
    · exact Rfs.dom h2 b hb
end
theorem Rf.upd {H : Hp} {d : D} {v : V} {fp : List Addr} {l : Addr} {o : HO} (h : Rf K H d v fp) (hl : l ∉ fp) (hm : ∀ o, H l = some o → ¬ Im o) : Rf K (upd H l o) d v fp :=
  h.mono (fun a ha u e => by rw [upd_ne (fun z => hl (by rw [← z]; exact ha))]; exact e) fun a o e i => by rw [upd_ne (fun z => hm o (by rw [← z]; exact e) i)]; exact e
theorem Rfs.upd {H : Hp} {d : List D} {v : List V} {fp : List Addr} {l : Addr} {o : HO} (h : Rfs K H d v fp) (hl : l ∉ fp) (hm : ∀ o, H l = some o → ¬ Im o) : Rfs K (upd H l o) d v fp :=
  h.mono (fun a ha u e => by rw [upd_ne (fun z => hl (by rw [← z]; exact ha))]; exact e) fun a o e i => by rw [upd_ne (fun z => hm o (by rw [← z]; exact e) i)]; exact e
theorem Rfs.length {H : Hp} : ∀ {ds : List D} {vs : List V} {fp : List Addr}, Rfs K H ds vs fp → vs.length = ds.length
  | [], _, _, h => by obtain ⟨rfl, _⟩ := h; rfl
  | d :: ds, vs, fp, h => by
    obtain ⟨x, r, f1, f2, e1, e2, h1, h2⟩ := h
    subst e1
    rw [List.length_cons, List.length_cons, Rfs.length h2]
theorem Rfs.append {H : Hp} : ∀ {ds es : List D} {vs ws : List V} {fp fq : List Addr}, Rfs K H ds vs fp → Rfs K H es ws fq → Rfs K H (ds ++ es) (vs ++ ws) (fp ++ fq)
  | [], es, vs, ws, fp, fq, h, h' => by obtain ⟨rfl, rfl⟩ := h; exact h'
  | d :: ds, es, vs, ws, fp, fq, h, h' => by
    obtain ⟨x, r, f1, f2, rfl, rfl, h1, h2⟩ := h
    exact ⟨x, r ++ ws, f1, f2 ++ fq, rfl, List.append_assoc .., h1, Rfs.append h2 h'⟩
theorem Rfs.one {H : Hp} {d : D} {v : V} {fp : List Addr} (h : Rf K H d v fp) : Rfs K H [d] [v] fp := ⟨v, [], fp, [], rfl, (List.append_nil _).symm, h, rfl, rfl⟩
theorem Rfs.get {H : Hp} : ∀ {ds : List D} {vs : List V} {fp : List Addr} {i : Nat} {d : D}, Rfs K H ds vs fp → ds[i]? = some d → ∃ v f, vs[i]? = some v ∧ Rf K H d v f ∧ (∀ a ∈ f, a ∈ fp)
  | [], _, _, _, _, _, e => by simp at e
  | d :: ds, vs, fp, 0, d', h, e => by
    obtain ⟨x, r, f1, f2, rfl, rfl, h1, h2⟩ := h
    simp at e; subst e
    exact ⟨x, f1, rfl, h1, fun a ha => List.mem_append_left _ ha⟩
  | d :: ds, vs, fp, i + 1, d', h, e => by
    obtain ⟨x, r, f1, f2, rfl, rfl, h1, h2⟩ := h
    obtain ⟨v, f, e1, h3, k⟩ := Rfs.get (i := i) h2 (by simpa using e)
    exact ⟨v, f, by simpa using e1, h3, fun a ha => List.mem_append_right _ (k a ha)⟩
theorem Rfs.get' {H : Hp} {ds : List D} {vs : List V} {fp : List Addr} {i : Nat} {v : V} (h : Rfs K H ds vs fp) (e : vs[i]? = some v) : ∃ d f, ds[i]? = some d ∧ Rf K H d v f ∧ (∀ a ∈ f, a ∈ fp) := by
  have hl := h.length
  obtain ⟨hi, _⟩ := List.getElem?_eq_some_iff.mp e
  have hi' : i < ds.length := by omega
  obtain ⟨v', f, e1, h1, k⟩ := h.get (d := ds[i]) (List.getElem?_eq_getElem hi')
  rw [e] at e1; cases e1
  exact ⟨ds[i], f, List.getElem?_eq_getElem hi', h1, k⟩
def D.scal : D → Bool
  | .non => true | .bl _ => true | .int _ => true | .str _ => true | _ => false
def D.toV : D → V
  | .non => .non | .bl b => .bl b | .int i => .int i | .str x => .str x | _ => .non
theorem Rf.scal {H : Hp} {d : D} {v : V} {fp : List Addr} (h : Rf K H d v fp) (s : d.scal = true) : v = d.toV ∧ fp = [] := by
  cases d <;> first | exact h | cases s
theorem Rf.ofScal {H : Hp} {d : D} (s : d.scal = true) : Rf K H d d.toV [] := by
  cases d <;> first | exact ⟨rfl, rfl⟩ | cases s
theorem Rp.int {H : Hp} {i : Int} {v : V} (h : Rp K H (.int i) v) : v = .int i := h.choose_spec.1
theorem Rp.bl {H : Hp} {i : Bool} {v : V} (h : Rp K H (.bl i) v) : v = .bl i := h.choose_spec.1
theorem Rfs.scals {H : Hp} : ∀ {ds : List D} {vs : List V} {fp : List Addr}, Rfs K H ds vs fp → ds.all D.scal = true → vs = ds.map D.toV ∧ fp = []
  | [], vs, fp, h, _ => h
  | d :: ds, vs, fp, h, s => by
    obtain ⟨x, r, f1, f2, rfl, rfl, h1, h2⟩ := h
    simp only [List.all_cons, Bool.and_eq_true] at s
    obtain ⟨rfl, rfl⟩ := h1.scal s.1
    obtain ⟨rfl, rfl⟩ := Rfs.scals h2 s.2
    exact ⟨rfl, rfl⟩
theorem Rfs.ofScals {H : Hp} : ∀ {ds : List D}, ds.all D.scal = true → Rfs K H ds (ds.map D.toV) []
  | [], _ => ⟨rfl, rfl⟩
  | d :: ds, s => by
    simp only [List.all_cons, Bool.and_eq_true] at s
    exact ⟨_, _, [], [], rfl, rfl, Rf.ofScal s.1, Rfs.ofScals s.2⟩
def D.items : D → Option (List D)
  | .lst ds => some ds | .scr ns => some (ns.map D.int) | _ => none
theorem Rfs.ofInts {H : Hp} : ∀ {ns : List Int}, Rfs K H (ns.map D.int) (ns.map V.int) []
  | [] => ⟨rfl, rfl⟩
  | n :: ns => ⟨_, _, [], [], rfl, rfl, ⟨rfl, rfl⟩, Rfs.ofInts⟩
theorem Rf.seq {H : Hp} {d : D} {ds : List D} {v : V} {fp : List Addr} (h : Rf K H d v fp) (e : d.items = some ds) : ∃ a xs fq, v = .ref a ∧ SqL K H a xs ∧ Rfs K H ds xs fq ∧ ∀ b ∈ fq, b ∈ fp := by
  cases d with
  | lst es =>
    cases e
    obtain ⟨a, xs, fq, e1, e2, rfl, h⟩ := h
    exact ⟨a, xs, fq, e1, .inl (.inl e2), h, fun b hb => List.mem_cons_of_mem _ hb⟩
  | scr ns =>
    cases e
    obtain ⟨a, e1, e2, e3⟩ := h
    exact ⟨a, _, [], e1, e2.seq, Rfs.ofInts, fun b hb => nomatch hb⟩
  | _ => cases e
theorem Rp.seq {H : Hp} {d : D} {ds : List D} {v : V} (h : Rp K H d v) (e : d.items = some ds) : ∃ a xs fq, v = .ref a ∧ SqL K H a xs ∧ Rfs K H ds xs fq :=
  let ⟨_, h⟩ := h; let ⟨a, xs, fq, h1, h2, h3, _⟩ := h.seq e; ⟨a, xs, fq, h1, h2, h3⟩
theorem Rp.tup {H : Hp} {ds : List D} {v : V} (h : Rp K H (.tup ds) v) : ∃ a xs fq, v = .ref a ∧ SqT K H a xs ∧ Rfs K H ds xs fq := by
  obtain ⟨fp, a, xs, e1, e2, h⟩ := h
  exact ⟨a, xs, fp, e1, .inl (.inl e2), h⟩
def Mu (H : Hp) (a : Addr) : Prop := (∃ xs, H a = some (.lst xs)) ∨ (∃ kvs, H a = some (.dK kvs)) ∨ (∃ kvs, H a = some (.dT kvs)) ∨ ∃ C dx fs, H a = some (.ins C dx fs)
theorem Mu.same {H H' : Hp} {a : Addr} (h : Mu H a) (s : Same H H') : Mu H' a := by
  rcases h with ⟨x, h⟩ | ⟨x, h⟩ | ⟨x, h⟩ | ⟨C, dx, fs, h⟩
  · exact .inl ⟨x, s _ _ h⟩
  · exact .inr (.inl ⟨x, s _ _ h⟩)
  · exact .inr (.inr (.inl ⟨x, s _ _ h⟩))
  · exact .inr (.inr (.inr ⟨C, dx, fs, s _ _ h⟩))
theorem Mu.some {H : Hp} {a : Addr} (h : Mu H a) : H a ≠ none := by
  rcases h with ⟨x, h⟩ | ⟨x, h⟩ | ⟨x, h⟩ | ⟨C, dx, fs, h⟩ <;> rw [h] <;> intro z <;> cases z
theorem Mu.notup {H : Hp} {a : Addr} (h : Mu H a) : ∀ o, H a = Option.some o → ¬ Im o := by
  rcases h with ⟨x, h⟩ | ⟨x, h⟩ | ⟨x, h⟩ | ⟨C, dx, fs, h⟩ <;> rw [h] <;> intro o e z <;> cases e <;> rcases z with ⟨_, z⟩ | ⟨_, _, z⟩ <;> cases z
theorem Mu.upd {H : Hp} {a l : Addr} {o : HO} (h : Mu H a) (ho : (∃ xs, o = .lst xs) ∨ (∃ xs, o = .dK xs) ∨ (∃ xs, o = .dT xs) ∨ ∃ C dx fs, o = .ins C dx fs) : Mu (upd H l o) a := by
  by_cases e : a = l
  · subst e
    rcases ho with ⟨xs, rfl⟩ | ⟨xs, rfl⟩ | ⟨xs, rfl⟩ | ⟨C, dx, fs, rfl⟩
    · exact .inl ⟨xs, upd_same⟩
    · exact .inr (.inl ⟨xs, upd_same⟩)
    · exact .inr (.inr (.inl ⟨xs, upd_same⟩))
    · exact .inr (.inr (.inr ⟨C, dx, fs, upd_same⟩))
  · unfold Mu
    rw [upd_ne e]
    exact h
abbrev Dl := List (Option D)
structure Ok (K : PySem.W.Frag) (B0 : Hp) (Γ : List Nat) (fps : Nat → List Addr) (δ : Dl) (σ : St) (H : Hp) : Prop where
  len : σ.length = δ.length
  b0 : Same B0 H
  val : ∀ i d, δ[i]? = some (some d) → ∃ v, σ[i]? = some (some v) ∧ Rf K H d v (fps i)
  non : ∀ i, (∀ d, δ[i]? ≠ some (some d)) → fps i = []
  own : ∀ i ∈ Γ, (fps i).Nodup ∧ ∀ a ∈ fps i, B0 a = none ∧ Mu H a
  dj : ∀ i ∈ Γ, ∀ j, j ≠ i → ∀ a ∈ fps i, a ∉ fps j
variable {B0 : Hp} {Γ : List Nat} {fps : Nat → List Addr} {δ : Dl} {σ : St} {H H' : Hp}
theorem Ok.same (o : Ok K B0 Γ fps δ σ H) (s : Same H H') : Ok K B0 Γ fps δ σ H' :=
  ⟨o.len, o.b0.trans s, fun i d e => let ⟨v, h1, h2⟩ := o.val i d e; ⟨v, h1, h2.same s⟩, o.non, fun i hi => ⟨(o.own i hi).1, fun a ha => ⟨((o.own i hi).2 a ha).1, ((o.own i hi).2 a ha).2.same s⟩⟩, o.dj⟩
theorem Ok.sub {Γ' : List Nat} (o : Ok K B0 Γ fps δ σ H) (h : ∀ i ∈ Γ', i ∈ Γ) : Ok K B0 Γ' fps δ σ H :=
  ⟨o.len, o.b0, o.val, o.non, fun i hi => o.own i (h i hi), fun i hi => o.dj i (h i hi)⟩
theorem Ok.dom (o : Ok K B0 Γ fps δ σ H) {i : Nat} {a : Addr} (h : a ∈ fps i) : H a ≠ none := by
  by_cases e : ∃ d, δ[i]? = some (some d)
  · obtain ⟨d, e⟩ := e
    obtain ⟨v, _, r⟩ := o.val i d e
    obtain ⟨u, hu, _⟩ := r.dom a h
    rw [hu]; intro z; cases z
  · rw [o.non i (fun d z => e ⟨d, z⟩)] at h
    nomatch h
structure Nw (H H' : Hp) (fps : Nat → List Addr) (M : List Nat) (fp : List Addr) : Prop where
  nd : fp.Nodup
  mu : ∀ a ∈ fp, Mu H' a
  src : ∀ a ∈ fp, H a = none ∨ ∃ j ∈ M, a ∈ fps j
theorem Nw.nil {M : List Nat} : Nw H H' fps M [] := ⟨List.nodup_nil, fun _ h => (nomatch h), fun _ h => (nomatch h)⟩
theorem Nw.later {H1 : Hp} {M : List Nat} {fp : List Addr} (n : Nw H1 H' fps M fp) (s : Same H H1) : Nw H H' fps M fp :=
  ⟨n.nd, n.mu, fun a ha => (n.src a ha).elim (fun z => .inl (s.free z)) .inr⟩
theorem Nw.same {H1 : Hp} {M : List Nat} {fp : List Addr} (n : Nw H H' fps M fp) (s : Same H' H1) : Nw H H1 fps M fp := ⟨n.nd, fun a ha => (n.mu a ha).same s, n.src⟩
theorem Nw.any {fps' : Nat → List Addr} {fp : List Addr} (n : Nw H H' fps [] fp) : Nw H H' fps' [] fp := ⟨n.nd, n.mu, fun a ha => (n.src a ha).elim .inl fun ⟨_, h, _⟩ => nomatch h⟩
theorem Nw.fresh {fp : List Addr} (n : Nw H H' fps [] fp) : ∀ a ∈ fp, H a = none := fun a ha => (n.src a ha).elim id fun ⟨_, h, _⟩ => nomatch h
def kill (M : List Nat) (δ : Dl) : Dl := M.foldl (fun δ j => δ.set j none) δ
theorem kill_length : ∀ {M : List Nat} {δ : Dl}, (kill M δ).length = δ.length
  | [], _ => rfl
  | j :: M, δ => by rw [kill, List.foldl_cons]; exact (kill_length (M := M)).trans (by simp)
theorem kill_get : ∀ {M : List Nat} {δ : Dl} {i : Nat} {d : D}, (kill M δ)[i]? = some (some d) ↔ i ∉ M ∧ δ[i]? = some (some d)
  | [], _, _, _ => by simp [kill]
  | j :: M, δ, i, d => by
    rw [kill, List.foldl_cons]
    have := kill_get (M := M) (δ := δ.set j none) (i := i) (d := d)
    rw [kill] at this
    rw [this, List.mem_cons]
    by_cases e : i = j
    · subst e
      simp [List.getElem?_set]
    · rw [List.getElem?_set_ne (Ne.symm e)]
      simp [e]
def minus (Γ M : List Nat) : List Nat := Γ.filter fun i => !M.contains i
theorem mem_minus {Γ M : List Nat} {i : Nat} : i ∈ minus Γ M ↔ i ∈ Γ ∧ i ∉ M := by
  unfold minus
  rw [List.mem_filter]
  simp
theorem Ok.kill (o : Ok K B0 Γ fps δ σ H) (M : List Nat) : Ok K B0 (minus Γ M) (fun i => if i ∈ M then [] else fps i) (kill M δ) σ H := by
  refine ⟨by rw [kill_length]; exact o.len, o.b0, fun i d e => ?_, fun i e => ?_, fun i hi => ?_, fun i hi j hj a ha => ?_⟩
  · obtain ⟨h1, h2⟩ := kill_get.mp e
    rw [if_neg h1]
    exact o.val i d h2
  · by_cases h : i ∈ M
    · rw [if_pos h]
    · rw [if_neg h]
      exact o.non i fun d z => e d (kill_get.mpr ⟨h, z⟩)
  · obtain ⟨h1, h2⟩ := mem_minus.mp hi
    rw [if_neg h2]
    exact o.own i h1
  · obtain ⟨h1, h2⟩ := mem_minus.mp hi
    rw [if_neg h2] at ha
    by_cases h : j ∈ M
    · rw [if_pos h]; exact List.not_mem_nil
    · rw [if_neg h]; exact o.dj i h1 j hj a ha
theorem Ok.setMv {M : List Nat} {x : D} {v : V} {fp : List Addr} (o : Ok K B0 Γ fps δ σ H) (i : Nat) (hM : ∀ j ∈ M, j ∈ Γ) (s : Same H H') (r : Rf K H' x v fp) (n : Nw H H' fps M fp) :
    Ok K B0 (i :: minus (minus Γ M) [i]) (fun j => if j = i then (if i < δ.length then fp else []) else if j ∈ M then [] else fps j) ((L3.kill M δ).set i (some x)) (σ.set i (some v)) H' := by
  have ok := (o.kill M).same s
  have sep : ∀ a ∈ fp, ∀ j, j ∉ M → a ∉ fps j := fun a ha j hj z => by
    rcases n.src a ha with e | ⟨k, hk, e⟩
    · exact o.dom z e
    · exact o.dj k (hM k hk) j (fun q => hj (by rw [q]; exact hk)) a e z
  refine ⟨by simp [kill_length, o.len], ok.b0, fun j d e => ?_, fun j e => ?_, fun j hj => ?_, fun j hj k hk a ha => ?_⟩
  · by_cases h : j = i
    · subst h
      rw [List.getElem?_set] at e
      simp only [kill_length] at e
      by_cases hl : j < δ.length
      · simp [hl] at e
        subst e
        refine ⟨v, ?_, ?_⟩
        · rw [List.getElem?_set]; simp [o.len, hl]
        · rw [if_pos rfl, if_pos hl]; exact r
      · simp [hl] at e
    · rw [List.getElem?_set_ne (Ne.symm h)] at e
      rw [List.getElem?_set_ne (Ne.symm h), if_neg h]
      exact ok.val j d e
  · by_cases h : j = i
    · subst h
      rw [if_pos rfl]
      by_cases hl : j < δ.length
      · exact absurd (by rw [List.getElem?_set]; simp [kill_length, hl]) (e x)
      · rw [if_neg hl]
    · rw [if_neg h]
      exact ok.non j fun d z => e d (by rw [List.getElem?_set_ne (Ne.symm h)]; exact z)
  · by_cases h : j = i
    · subst h
      rw [if_pos rfl]
      split
      · refine ⟨n.nd, fun a ha => ⟨?_, n.mu a ha⟩⟩
        rcases n.src a ha with e | ⟨k, hk, e⟩
        · exact o.b0.free e
        · exact ((o.own k (hM k hk)).2 a e).1
      · exact ⟨List.nodup_nil, fun _ z => nomatch z⟩
    · rw [if_neg h]
      rcases List.mem_cons.mp hj with z | hj
      · exact absurd z h
      · exact ok.own j (mem_minus.mp hj).1
  · by_cases h : j = i
    · subst h
      rw [if_pos rfl] at ha
      rw [if_neg hk]
      split at ha
      · by_cases hm : k ∈ M
        · rw [if_pos hm]; exact List.not_mem_nil
        · rw [if_neg hm]; exact sep a ha k hm
      · nomatch ha
    · rcases List.mem_cons.mp hj with z | hj
      · exact absurd z h
      rw [if_neg h] at ha
      have hj' := mem_minus.mp (mem_minus.mp hj).1
      rw [if_neg hj'.2] at ha
      by_cases hki : k = i
      · rw [if_pos hki]
        split
        · exact fun z => sep a z j hj'.2 ha
        · exact List.not_mem_nil
      · rw [if_neg hki]
        split
        · exact List.not_mem_nil
        · exact o.dj j hj'.1 k hk a ha
theorem Ok.setSh {x : D} {v : V} {fp : List Addr} (o : Ok K B0 Γ fps δ σ H) (i : Nat) (s : Same H H') (r : Rf K H' x v fp) (n : ∀ j ∈ Γ, ∀ a ∈ fp, a ∉ fps j) :
    Ok K B0 (minus Γ [i]) (fun j => if j = i then (if i < δ.length then fp else []) else fps j) (δ.set i (some x)) (σ.set i (some v)) H' := by
  have ok := o.same s
  refine ⟨by simp [o.len], ok.b0, fun j d e => ?_, fun j e => ?_, fun j hj => ?_, fun j hj k hk a ha => ?_⟩
  · by_cases h : j = i
    · subst h
      rw [List.getElem?_set] at e
      by_cases hl : j < δ.length
      · simp [hl] at e
        subst e
        refine ⟨v, ?_, ?_⟩
        · rw [List.getElem?_set]; simp [o.len, hl]
        · rw [if_pos rfl, if_pos hl]; exact r
      · simp [hl] at e
    · rw [List.getElem?_set_ne (Ne.symm h)] at e
      rw [List.getElem?_set_ne (Ne.symm h), if_neg h]
      exact ok.val j d e
  · by_cases h : j = i
    · subst h
      rw [if_pos rfl]
      by_cases hl : j < δ.length
      · exact absurd (by rw [List.getElem?_set]; simp [hl]) (e x)
      · rw [if_neg hl]
    · rw [if_neg h]
      exact ok.non j fun d z => e d (by rw [List.getElem?_set_ne (Ne.symm h)]; exact z)
  · obtain ⟨h1, h2⟩ := mem_minus.mp hj
    rw [if_neg (fun z => h2 (by rw [z]; exact List.mem_singleton.mpr rfl))]
    exact ok.own j h1
  · obtain ⟨h1, h2⟩ := mem_minus.mp hj
    rw [if_neg (fun z => h2 (by rw [z]; exact List.mem_singleton.mpr rfl))] at ha
    by_cases hki : k = i
    · rw [if_pos hki]
      split
      · exact fun z => n j h1 a z ha
      · exact List.not_mem_nil
    · rw [if_neg hki]
      exact o.dj j h1 k hk a ha
theorem Ok.rebase (o : Ok K B0 Γ fps δ σ H) : ∃ B1, Same B0 B1 ∧ Ok K B1 Γ fps δ σ H ∧ (∀ a, (∀ j ∈ Γ, a ∉ fps j) → B1 a = H a) := by
  refine ⟨fun a => if (∃ j ∈ Γ, a ∈ fps j) then none else H a, fun b u e => ?_, ⟨o.len, fun b u e => ?_, o.val, o.non, fun i hi => ⟨(o.own i hi).1, fun a ha => ⟨?_, ((o.own i hi).2 a ha).2⟩⟩, o.dj⟩, fun a h => ?_⟩
  · have : ¬ ∃ j ∈ Γ, b ∈ fps j := fun ⟨j, hj, hb⟩ => by
      have := ((o.own j hj).2 b hb).1
      rw [e] at this; cases this
    show (if _ then _ else _) = _
    rw [if_neg this]
    exact o.b0 b u e
  · by_cases z : ∃ j ∈ Γ, b ∈ fps j
    · simp only [if_pos z] at e; cases e
    · simp only [if_neg z] at e; exact e
  · show (if _ then _ else _) = _
    rw [if_pos ⟨i, hi, ha⟩]
  · show (if _ then _ else _) = _
    rw [if_neg (fun ⟨j, hj, z⟩ => h j hj z)]
theorem Ok.base {B1 : Hp} (o : Ok K B1 Γ fps δ σ H) (s : Same B0 B1) : Ok K B0 Γ fps δ σ H :=
  ⟨o.len, s.trans o.b0, o.val, o.non, fun i hi => ⟨(o.own i hi).1, fun a ha => ⟨s.free ((o.own i hi).2 a ha).1, ((o.own i hi).2 a ha).2⟩⟩, o.dj⟩
end
end L3
set_option Elab.async false
set_option linter.all false
set_option maxRecDepth 100000
set_option maxHeartbeats 4000000
namespace L3
open PySem L2
abbrev DK := D → Prop
abbrev DE := Dl → DK → Prop
abbrev DT := Dl → (Bool → Prop) → Prop
abbrev DA := Dl → (List D → Prop) → Prop
structure ER (K : PySem.W.Frag) (Γ : List Nat) (t : TE) (d : DE) : Prop where
  mono : ∀ δ (P P' : DK), (∀ x, P x → P' x) → d δ P → d δ P'
  run : ∀ {B0 fps δ σ H Q}, Ok K B0 Γ fps δ σ H → d δ (fun x => ∀ v H', Same H H' → Rp K H' x v → Q v H') → t σ H Q
structure ES (K : PySem.W.Frag) (Γ : List Nat) (t : TE) (d : DE) : Prop where
  mono : ∀ δ (P P' : DK), (∀ x, P x → P' x) → d δ P → d δ P'
  run : ∀ {B0 fps δ σ H Q}, Ok K B0 Γ fps δ σ H → d δ (fun x => ∀ v H' fp, Same H H' → Rf K H' x v fp → (∀ j ∈ Γ, ∀ a ∈ fp, a ∉ fps j) → Q v H') → t σ H Q
structure EM (K : PySem.W.Frag) (Γ M : List Nat) (t : TE) (d : DE) : Prop where
  mono : ∀ δ (P P' : DK), (∀ x, P x → P' x) → d δ P → d δ P'
  run : ∀ {B0 fps δ σ H Q}, Ok K B0 Γ fps δ σ H → d δ (fun x => ∀ v H' fp, Same H H' → Rf K H' x v fp → Nw H H' fps M fp → Q v H') → t σ H Q
structure TR (K : PySem.W.Frag) (Γ : List Nat) (t : TT) (d : DT) : Prop where
  mono : ∀ δ (P P' : Bool → Prop), (∀ x, P x → P' x) → d δ P → d δ P'
  run : ∀ {B0 fps δ σ H Q}, Ok K B0 Γ fps δ σ H → d δ (fun b => ∀ H', Same H H' → Q b H') → t σ H Q
structure AR (K : PySem.W.Frag) (Γ : List Nat) (t : TA) (d : DA) : Prop where
  mono : ∀ δ (P P' : List D → Prop), (∀ x, P x → P' x) → d δ P → d δ P'
  run : ∀ {B0 fps δ σ H Q}, Ok K B0 Γ fps δ σ H → d δ (fun xs => ∀ vs H', Same H H' → Rps K H' xs vs → Q vs H') → t σ H Q
structure AM (K : PySem.W.Frag) (Γ M : List Nat) (t : TA) (d : DA) : Prop where
  mono : ∀ δ (P P' : List D → Prop), (∀ x, P x → P' x) → d δ P → d δ P'
  run : ∀ {B0 fps δ σ H Q}, Ok K B0 Γ fps δ σ H → d δ (fun xs => ∀ vs H' fp, Same H H' → Rfs K H' xs vs fp → Nw H H' fps M fp → Q vs H') → t σ H Q
section
variable {K : PySem.W.Frag} {Γ M : List Nat} {t ta tb tc : TE} {d da db dc : DE}
theorem EM.es (h : EM K Γ [] t d) : ES K Γ t d := ⟨h.mono, fun o q => h.run o (h.mono _ _ _ (fun x z v H' fp s r n => z v H' fp s r fun j _ a ha y => o.dom y (n.fresh a ha)) q)⟩
theorem ES.er (h : ES K Γ t d) : ER K Γ t d := ⟨h.mono, fun o q => h.run o (h.mono _ _ _ (fun x z v H' fp s r n => z v H' s ⟨fp, r⟩) q)⟩
theorem EM.er (h : EM K Γ M t d) : ER K Γ t d := ⟨h.mono, fun o q => h.run o (h.mono _ _ _ (fun x z v H' fp s r n => z v H' s ⟨fp, r⟩) q)⟩
def vScal (d : DE) (δ : Dl) (P : DK) : Prop := d δ fun x => x.scal = true ∧ P x
theorem ER.scal (h : ER K Γ t d) : EM K Γ [] t (vScal d) := ⟨fun δ P P' k q => h.mono _ _ _ (fun x z => ⟨z.1, k x z.2⟩) q, fun o q => h.run o (h.mono _ _ _ (fun x z v H' s r => by
  obtain ⟨fp, r⟩ := r
  obtain ⟨_, rfl⟩ := r.scal z.1
  exact z.2 v H' [] s r Nw.nil) q)⟩
def vVar (i : Nat) (δ : Dl) (P : DK) : Prop := match δ[i]? with | some (some d) => P d | _ => False
theorem vVar_out {i : Nat} {δ : Dl} {P : DK} (h : vVar i δ P) : ∃ d, δ[i]? = some (some d) ∧ P d := by
  unfold vVar at h
  split at h
  · exact ⟨_, by assumption, h⟩
  · exact h.elim
theorem vVar_mono {i : Nat} : ∀ δ (P P' : DK), (∀ x, P x → P' x) → vVar i δ P → vVar i δ P' := fun δ P P' k h => by
  unfold vVar at h ⊢
  split
  · rename_i e; rw [e] at h; exact k _ h
  · rename_i e; revert h; split
    · rename_i e'; exact absurd e' (e _)
    · exact id
theorem er_var (i : Nat) : ER K Γ (tVar i) (vVar i) := ⟨vVar_mono, fun {B0 fps δ σ H Q} o q => by
  obtain ⟨d, e, q⟩ := vVar_out q
  obtain ⟨v, e1, r⟩ := o.val i d e
  exact ⟨v, e1, q v H (Same.refl H) ⟨_, r⟩⟩⟩
theorem es_var (i : Nat) (h : i ∉ Γ := by decide) : ES K Γ (tVar i) (vVar i) := ⟨vVar_mono, fun {B0 fps δ σ H Q} o q => by
  obtain ⟨d, e, q⟩ := vVar_out q
  obtain ⟨v, e1, r⟩ := o.val i d e
  exact ⟨v, e1, q v H _ (Same.refl H) r fun j hj a ha z => o.dj j hj i (fun y => h (by rw [y]; exact hj)) a z ha⟩⟩
theorem em_var (i : Nat) (h : i ∈ Γ := by decide) : EM K Γ [i] (tVar i) (vVar i) := ⟨vVar_mono, fun {B0 fps δ σ H Q} o q => by
  obtain ⟨d, e, q⟩ := vVar_out q
  obtain ⟨v, e1, r⟩ := o.val i d e
  exact ⟨v, e1, q v H _ (Same.refl H) r ⟨(o.own i h).1, fun a ha => ((o.own i h).2 a ha).2, fun a ha => .inr ⟨i, List.mem_singleton.mpr rfl, ha⟩⟩⟩⟩
def vC (d : D) (_u0 : Dl) (P : DK) : Prop := P d
theorem em_int {i : Int} : EM K Γ [] (tC (.int i)) (vC (.int i)) := ⟨fun _ _ _ k h => k _ h, fun {_ _ _ _ H _} _ q => q _ H [] (Same.refl H) ⟨rfl, rfl⟩ Nw.nil⟩
theorem em_bl {i : Bool} : EM K Γ [] (tC (.bl i)) (vC (.bl i)) := ⟨fun _ _ _ k h => k _ h, fun {_ _ _ _ H _} _ q => q _ H [] (Same.refl H) ⟨rfl, rfl⟩ Nw.nil⟩
theorem em_str {i : Str} : EM K Γ [] (tC (.str i)) (vC (.str i)) := ⟨fun _ _ _ k h => k _ h, fun {_ _ _ _ H _} _ q => q _ H [] (Same.refl H) ⟨rfl, rfl⟩ Nw.nil⟩
theorem em_non : EM K Γ [] (tC .non) (vC .non) := ⟨fun _ _ _ k h => k _ h, fun {_ _ _ _ H _} _ q => q _ H [] (Same.refl H) ⟨rfl, rfl⟩ Nw.nil⟩
abbrev D2 := D → D → DK → Prop
abbrev nf : Nat → List Addr := fun _ => []
structure OpV (K : PySem.W.Frag) (r : R2) (rv : D2) : Prop where
  mono : ∀ x y (P P' : DK), (∀ z, P z → P' z) → rv x y P → rv x y P'
  run : ∀ {H x y v w Q}, Rp K H x v → Rp K H y w → rv x y (fun z => ∀ u H' fp, Same H H' → Rf K H' z u fp → Nw H H' nf [] fp → Q u H') → r v w H Q
def vOp (rv : D2) (da db : DE) (δ : Dl) (P : DK) : Prop := da δ fun x => db δ fun y => rv x y P
theorem em_op {r : R2} {rv : D2} (ho : OpV K r rv) (ha : ER K Γ ta da) (hb : ER K Γ tb db) : EM K Γ [] (tOp r ta tb) (vOp rv da db) :=
  ⟨fun δ P P' k h => ha.mono _ _ _ (fun x z => hb.mono _ _ _ (fun y z => ho.mono x y _ _ k z) z) h,
   fun o q => ha.run o (ha.mono _ _ _ (fun x z v H1 s1 r1 => hb.run (o.same s1) (hb.mono _ _ _ (fun y z w H2 s2 r2 => ho.run (r1.same s2) r2 (ho.mono _ _ _ _ (fun u z u' H' fp s r n => z u' H' fp ((s1.trans s2).trans s) r (n.any.later (s1.trans s2))) z)) z)) q)⟩
abbrev D1 := D → DK → Prop
structure UnV (K : PySem.W.Frag) (r : V → Hp → VK → Prop) (rv : D1) : Prop where
  mono : ∀ x (P P' : DK), (∀ z, P z → P' z) → rv x P → rv x P'
  run : ∀ {H x v Q}, Rp K H x v → rv x (fun z => ∀ u H' fp, Same H H' → Rf K H' z u fp → Nw H H' nf [] fp → Q u H') → r v H Q
def vUn (rv : D1) (da : DE) (δ : Dl) (P : DK) : Prop := da δ fun x => rv x P
theorem em_un {r : V → Hp → VK → Prop} {rv : D1} (ho : UnV K r rv) (ha : ER K Γ ta da) : EM K Γ [] (tUn r ta) (vUn rv da) :=
  ⟨fun δ P P' k h => ha.mono _ _ _ (fun x z => ho.mono x _ _ k z) h,
   fun o q => ha.run o (ha.mono _ _ _ (fun x z v H1 s1 r1 => ho.run r1 (ho.mono _ _ _ (fun u z u' H' fp s r n => z u' H' fp (s1.trans s) r (n.any.later s1)) z)) q)⟩
def vI0 (g : Int → Int → D) (x : D) (y : D) (P : DK) : Prop := match x, y with | .int i, .int j => P (g i j) | _, _ => False
def vI (C : Int → Int → Prop) (g : Int → Int → D) (x : D) (y : D) (P : DK) : Prop := match x, y with | .int i, .int j => C i j ∧ P (g i j) | _, _ => False
def vU (g : Int → D) (x : D) (P : DK) : Prop := match x with | .int i => P (g i) | _ => False
theorem vI0_mono {g : Int → Int → D} : ∀ x y (P P' : DK), (∀ z, P z → P' z) → vI0 g x y P → vI0 g x y P' := fun x y P P' k h => by
  unfold vI0 at h ⊢; revert h; split <;> first | exact k _ | exact id
theorem vI_mono {C : Int → Int → Prop} {g : Int → Int → D} : ∀ x y (P P' : DK), (∀ z, P z → P' z) → vI C g x y P → vI C g x y P' := fun x y P P' k h => by
  unfold vI at h ⊢; revert h; split <;> first | exact fun h => ⟨h.1, k _ h.2⟩ | exact id
theorem vI0_run {f : Int → Int → V} {g : Int → Int → D} (hs : ∀ i j, (g i j).scal = true ∧ (g i j).toV = f i j) : OpV K (rI0 f) (vI0 g) := ⟨vI0_mono, fun {H x y v w Q} r1 r2 h => by
  unfold vI0 at h
  split at h
  · rename_i i j
    refine ⟨i, j, r1.int, r2.int, ?_⟩
    rw [← (hs i j).2]
    exact h _ H [] (Same.refl H) (Rf.ofScal (hs i j).1) Nw.nil
  · exact h.elim⟩
theorem vI_run {C : Int → Int → Prop} {f : Int → Int → V} {g : Int → Int → D} (hs : ∀ i j, (g i j).scal = true ∧ (g i j).toV = f i j) : OpV K (rI C f) (vI C g) := ⟨vI_mono, fun {H x y v w Q} r1 r2 h => by
  unfold vI at h
  split at h
  · rename_i i j
    refine ⟨i, j, r1.int, r2.int, h.1, ?_⟩
    rw [← (hs i j).2]
    exact h.2 _ H [] (Same.refl H) (Rf.ofScal (hs i j).1) Nw.nil
  · exact h.elim⟩
theorem o_int {f : Int → Int → Int} : OpV K (rI0 fun i j => .int (f i j)) (vI0 fun i j => .int (f i j)) := vI0_run fun _ _ => ⟨rfl, rfl⟩
theorem o_bl {f : Int → Int → Bool} : OpV K (rI0 fun i j => .bl (f i j)) (vI0 fun i j => .bl (f i j)) := vI0_run fun _ _ => ⟨rfl, rfl⟩
theorem o_intC {C : Int → Int → Prop} {f : Int → Int → Int} : OpV K (rI C fun i j => .int (f i j)) (vI C fun i j => .int (f i j)) := vI_run fun _ _ => ⟨rfl, rfl⟩
theorem u_int {f : Int → Int} : UnV K (rU fun i => .int (f i)) (vU fun i => .int (f i)) := ⟨fun x P P' k h => by unfold vU at h ⊢; revert h; split <;> first | exact k _ | exact id, fun {H x v Q} r1 h => by
  unfold vU at h
  split at h
  · rename_i i
    exact ⟨i, r1.int, h _ H [] (Same.refl H) ⟨rfl, rfl⟩ Nw.nil⟩
  · exact h.elim⟩
def vEqS (neg : Bool) (x : D) (y : D) (P : DK) : Prop := x.scal = true ∧ y.scal = true ∧ scal x.toV y.toV = true ∧ P (.bl (if neg then !decide (x.toV = y.toV) else decide (x.toV = y.toV)))
theorem vEqS_mono {neg : Bool} : ∀ x y (P P' : DK), (∀ z, P z → P' z) → vEqS neg x y P → vEqS neg x y P' := fun x y P P' k h => ⟨h.1, h.2.1, h.2.2.1, k _ h.2.2.2⟩
theorem o_eq : OpV K rEq (vEqS false) := ⟨vEqS_mono, fun {H x y v w Q} ⟨f1, r1⟩ ⟨f2, r2⟩ h => by
  rw [(r1.scal h.1).1, (r2.scal h.2.1).1]
  exact ⟨h.2.2.1, h.2.2.2 _ H [] (Same.refl H) ⟨rfl, rfl⟩ Nw.nil⟩⟩
theorem o_ne : OpV K rNe (vEqS true) := ⟨vEqS_mono, fun {H x y v w Q} ⟨f1, r1⟩ ⟨f2, r2⟩ h => by
  rw [(r1.scal h.1).1, (r2.scal h.2.1).1]
  exact ⟨h.2.2.1, h.2.2.2 _ H [] (Same.refl H) ⟨rfl, rfl⟩ Nw.nil⟩⟩
theorem vEqS_int {neg : Bool} {i j : Int} {P : DK} : vEqS neg (.int i) (.int j) P ↔ P (.bl (if neg then !decide (i = j) else decide (i = j))) := by
  unfold vEqS
  simp only [D.scal, D.toV, scal, true_and, V.int.injEq]
def vIxL (x : D) (y : D) (P : DK) : Prop := match x.items, y with | some ds, .int i => (match atI ds i with | some d => P d | none => False) | _, _ => False
def vIxT (x : D) (y : D) (P : DK) : Prop := match x, y with | .tup ds, .int i => (match atI ds i with | some d => P d | none => False) | _, _ => False
theorem vIxL_out {x y : D} {P : DK} (h : vIxL x y P) : ∃ ds i d, x.items = some ds ∧ y = .int i ∧ atI ds i = some d ∧ P d := by
  unfold vIxL at h
  split at h
  · split at h
    · exact ⟨_, _, _, by assumption, rfl, by assumption, h⟩
    · exact h.elim
  · exact h.elim
theorem vIxT_out {x y : D} {P : DK} (h : vIxT x y P) : ∃ ds i d, x = .tup ds ∧ y = .int i ∧ atI ds i = some d ∧ P d := by
  unfold vIxT at h
  split at h
  · split at h
    · exact ⟨_, _, _, rfl, rfl, by assumption, h⟩
    · exact h.elim
  · exact h.elim
theorem vIxL_in {x : D} {ds : List D} {i : Int} {d : D} {P : DK} (ex : x.items = some ds) (e : atI ds i = some d) (h : P d) : vIxL x (.int i) P := by unfold vIxL; simp only [ex, e]; exact h
theorem vIxT_in {ds : List D} {i : Int} {d : D} {P : DK} (e : atI ds i = some d) (h : P d) : vIxT (.tup ds) (.int i) P := by unfold vIxT; simp only [e]; exact h
theorem vIxL_mono : ∀ x y (P P' : DK), (∀ z, P z → P' z) → vIxL x y P → vIxL x y P' := fun x y P P' k h => by
  obtain ⟨ds, i, d, ex, rfl, e, h⟩ := vIxL_out h; exact vIxL_in ex e (k _ h)
theorem vIxT_mono : ∀ x y (P P' : DK), (∀ z, P z → P' z) → vIxT x y P → vIxT x y P' := fun x y P P' k h => by
  obtain ⟨ds, i, d, rfl, rfl, e, h⟩ := vIxT_out h; exact vIxT_in e (k _ h)
theorem Rfs.at {H : Hp} {ds : List D} {xs : List V} {fq : List Addr} {i : Int} {d : D} (h : Rfs K H ds xs fq) (e : atI ds i = some d) : ∃ v f, atI xs i = some v ∧ Rf K H d v f ∧ ∀ a ∈ f, a ∈ fq := by
  unfold atI at e ⊢
  rw [h.length]
  cases hj : ixN ds.length i with
  | none => rw [hj] at e; cases e
  | some j => rw [hj] at e; exact h.get e
theorem er_ixL (ha : ER K Γ ta da) (hb : ER K Γ tb db) : ER K Γ (tOp (rIxL K) ta tb) (vOp vIxL da db) :=
  ⟨fun δ P P' k h => ha.mono _ _ _ (fun x z => hb.mono _ _ _ (fun y z => vIxL_mono x y _ _ k z) z) h,
   fun o q => ha.run o (ha.mono _ _ _ (fun x z v H1 s1 r1 => hb.run (o.same s1) (hb.mono _ _ _ (fun y z w H2 s2 r2 => by
    obtain ⟨ds, i, d, ex, rfl, e, z⟩ := vIxL_out z
    obtain ⟨a, xs, fq, rfl, hs, hr⟩ := (r1.same s2).seq ex
    obtain ⟨v, f, e1, r3, _⟩ := hr.at e
    exact ⟨a, xs, i, v, rfl, r2.int, hs, e1, z v H2 (s1.trans s2) ⟨f, r3⟩⟩) z)) q)⟩
theorem es_ixL (ha : ES K Γ ta da) (hb : ER K Γ tb db) : ES K Γ (tOp (rIxL K) ta tb) (vOp vIxL da db) :=
  ⟨fun δ P P' k h => ha.mono _ _ _ (fun x z => hb.mono _ _ _ (fun y z => vIxL_mono x y _ _ k z) z) h,
   fun o q => ha.run o (ha.mono _ _ _ (fun x z v H1 fp s1 r1 n => hb.run (o.same s1) (hb.mono _ _ _ (fun y z w H2 s2 r2 => by
    obtain ⟨ds, i, d, ex, rfl, e, z⟩ := vIxL_out z
    obtain ⟨a, xs, fq, rfl, hs, hr, hin⟩ := (r1.same s2).seq ex
    obtain ⟨v, f, e1, r3, k⟩ := hr.at e
    exact ⟨a, xs, i, v, rfl, r2.int, hs, e1, z v H2 f (s1.trans s2) r3 fun j hj b hb => n j hj b (hin b (k b hb))⟩) z)) q)⟩
theorem es_ixT (ha : ES K Γ ta da) (hb : ER K Γ tb db) : ES K Γ (tOp (rIxT K) ta tb) (vOp vIxT da db) :=
  ⟨fun δ P P' k h => ha.mono _ _ _ (fun x z => hb.mono _ _ _ (fun y z => vIxT_mono x y _ _ k z) z) h,
   fun o q => ha.run o (ha.mono _ _ _ (fun x z v H1 fp s1 r1 n => hb.run (o.same s1) (hb.mono _ _ _ (fun y z w H2 s2 r2 => by
    obtain ⟨ds, i, d, rfl, rfl, e, z⟩ := vIxT_out z
    obtain ⟨a, xs, rfl, hs, hr⟩ := r1.same s2
    obtain ⟨v, f, e1, r3, k⟩ := hr.at e
    exact ⟨a, xs, i, v, rfl, r2.int, .inl (.inl hs), e1, z v H2 f (s1.trans s2) r3 fun j hj b hb => n j hj b (k b hb)⟩) z)) q)⟩
def asB (x : D) (P : Bool → Prop) : Prop := match x with | .bl k => P k | _ => False
def vTest (d : DE) (δ : Dl) (P : Bool → Prop) : Prop := d δ fun x => asB x P
theorem vb_out {x : D} {P : Bool → Prop} (h : asB x P) : ∃ k, x = .bl k ∧ P k := by
  unfold asB at h
  split at h
  · exact ⟨_, rfl, h⟩
  · exact h.elim
theorem vb_in {x : D} {P P' : Bool → Prop} (k : ∀ b, P b → P' b) (h : asB x P) : asB x P' := by
  obtain ⟨b, rfl, h⟩ := vb_out h; exact k b h
theorem tr_test (h : ER K Γ t d) : TR K Γ (tTest t) (vTest d) := ⟨fun δ P P' k q => h.mono _ _ _ (fun x z => vb_in k z) q, fun o q => h.run o (h.mono _ _ _ (fun x z v H' s r => by
  obtain ⟨b, rfl, z⟩ := vb_out z; exact ⟨b, r.bl, z H' s⟩) q)⟩
theorem tr_b (h : ER K Γ t d) : TR K Γ (tB t) (vTest d) := ⟨fun δ P P' k q => h.mono _ _ _ (fun x z => vb_in k z) q, fun o q => h.run o (h.mono _ _ _ (fun x z v H' s r => by
  obtain ⟨b, rfl, z⟩ := vb_out z; exact ⟨b, r.bl, z H' s⟩) q)⟩
def vAnd (c e : DT) (δ : Dl) (P : Bool → Prop) : Prop := c δ fun k => if k = true then e δ P else P false
def vOr (c e : DT) (δ : Dl) (P : Bool → Prop) : Prop := c δ fun k => if k = true then P true else e δ P
def vNot (c : DT) (δ : Dl) (P : Bool → Prop) : Prop := c δ fun k => P (!k)
theorem ite_imp {b : Bool} {A B A' B' : Prop} (h1 : A → A') (h2 : B → B') (h : if b = true then A else B) : if b = true then A' else B' := by
  cases b
  · exact h2 h
  · exact h1 h
theorem tr_and {u1 u2 : TT} {c e : DT} (h1 : TR K Γ u1 c) (h2 : TR K Γ u2 e) : TR K Γ (tAnd u1 u2) (vAnd c e) :=
  ⟨fun δ P P' k q => h1.mono _ _ _ (fun b z => ite_imp (h2.mono _ _ _ k) (k _) z) q,
   fun o q => h1.run o (h1.mono _ _ _ (fun b z H' s => ite_imp (fun z => h2.run (o.same s) (h2.mono _ _ _ (fun b z H2 s2 => z H2 (s.trans s2)) z)) (fun z => z H' s) z) q)⟩
theorem tr_or {u1 u2 : TT} {c e : DT} (h1 : TR K Γ u1 c) (h2 : TR K Γ u2 e) : TR K Γ (tOr u1 u2) (vOr c e) :=
  ⟨fun δ P P' k q => h1.mono _ _ _ (fun b z => ite_imp (k _) (h2.mono _ _ _ k) z) q,
   fun o q => h1.run o (h1.mono _ _ _ (fun b z H' s => ite_imp (fun z => z H' s) (fun z => h2.run (o.same s) (h2.mono _ _ _ (fun b z H2 s2 => z H2 (s.trans s2)) z)) z) q)⟩
theorem tr_not {u1 : TT} {c : DT} (h1 : TR K Γ u1 c) : TR K Γ (tNot u1) (vNot c) :=
  ⟨fun δ P P' k q => h1.mono _ _ _ (fun b z => k _ z) q, fun o q => h1.run o (h1.mono _ _ _ (fun b z H' s => z H' s) q)⟩
def vAndV (da db : DE) (δ : Dl) (P : DK) : Prop := vTest da δ fun k => if k = true then db δ P else P (.bl false)
def vOrV (da db : DE) (δ : Dl) (P : DK) : Prop := vTest da δ fun k => if k = true then P (.bl true) else db δ P
def vNotV (da : DE) (δ : Dl) (P : DK) : Prop := vTest da δ fun k => P (.bl (!k))
theorem em_andV (ha : ER K Γ ta da) (hb : EM K Γ [] tb db) : EM K Γ [] (tAndV ta tb) (vAndV da db) :=
  ⟨fun δ P P' k q => (tr_test ha).mono _ _ _ (fun b z => ite_imp (hb.mono _ _ _ k) (k _) z) q,
   fun o q => ha.run o (ha.mono _ _ _ (fun x z v H' s r => by
    obtain ⟨b, rfl, z⟩ := vb_out z
    exact ⟨b, r.bl, ite_imp (fun z => hb.run (o.same s) (hb.mono _ _ _ (fun y z u H2 fp s2 r2 n2 => z u H2 fp (s.trans s2) r2 (n2.later s)) z)) (fun z => z _ H' [] s ⟨rfl, rfl⟩ Nw.nil) z⟩) q)⟩
def vIf (c : DT) (da db : DE) (δ : Dl) (P : DK) : Prop := c δ fun k => if k = true then da δ P else db δ P
theorem em_if {u : TT} {c : DT} (hc : TR K Γ u c) (ha : EM K Γ [] ta da) (hb : EM K Γ [] tb db) : EM K Γ [] (tIf u ta tb) (vIf c da db) :=
  ⟨fun δ P P' k q => hc.mono _ _ _ (fun b z => ite_imp (ha.mono _ _ _ k) (hb.mono _ _ _ k) z) q,
   fun o q => hc.run o (hc.mono _ _ _ (fun b z H' s => ite_imp (fun z => ha.run (o.same s) (ha.mono _ _ _ (fun y z u H2 fp s2 r2 n2 => z u H2 fp (s.trans s2) r2 (n2.later s)) z)) (fun z => hb.run (o.same s) (hb.mono _ _ _ (fun y z u H2 fp s2 r2 n2 => z u H2 fp (s.trans s2) r2 (n2.later s)) z)) z) q)⟩
def vChain (r r' : D2) (da db dc : DE) (δ : Dl) (P : DK) : Prop := da δ fun x => db δ fun y => r x y fun z => asB z fun k => if k = true then dc δ fun w => r' y w P else P (.bl false)
theorem em_chain {r r' : R2} {rv rv' : D2} (ho : OpV K r rv) (ho' : OpV K r' rv') (ha : ER K Γ ta da) (hb : ER K Γ tb db) (hc : ER K Γ tc dc) : EM K Γ [] (tChain r r' ta tb tc) (vChain rv rv' da db dc) :=
  ⟨fun δ P P' k h => ha.mono _ _ _ (fun x z => hb.mono _ _ _ (fun y z => ho.mono x y _ _ (fun u z => vb_in (fun b z => ite_imp (hc.mono _ _ _ fun w z => ho'.mono _ _ _ _ k z) (k _) z) z) z) z) h,
   fun o q => ha.run o (ha.mono _ _ _ (fun x z v H1 s1 r1 => hb.run (o.same s1) (hb.mono _ _ _ (fun y z w H2 s2 r2 => ho.run (r1.same s2) r2 (ho.mono _ _ _ _ (fun u z u' H3 fp s3 r3 n3 => by
    obtain ⟨b, rfl, z⟩ := vb_out z
    have s13 := (s1.trans s2).trans s3
    refine ⟨b, r3.1, ite_imp (fun z => ?_) (fun z => z _ H3 [] s13 ⟨rfl, rfl⟩ Nw.nil) z⟩
    exact hc.run (o.same s13) (hc.mono _ _ _ (fun w z w' H4 s4 r4 => ho'.run (r2.same (s3.trans s4)) r4 (ho'.mono _ _ _ _ (fun u z u' H' fp s r n => z u' H' fp ((s13.trans s4).trans s) r (n.any.later (s13.trans s4))) z)) z)) z)) z)) q)⟩
def vNil (_u0 : Dl) (P : List D → Prop) : Prop := P []
def vCons (da : DE) (dr : DA) (δ : Dl) (P : List D → Prop) : Prop := da δ fun x => dr δ fun xs => P (x :: xs)
theorem ar_nil : AR K Γ tNil vNil := ⟨fun _ _ _ k h => k _ h, fun {_ _ _ _ H _} o q => q [] H (Same.refl H) ⟨[], rfl, rfl⟩⟩
theorem am_nil : AM K Γ [] tNil vNil := ⟨fun _ _ _ k h => k _ h, fun {_ _ _ _ H _} o q => q [] H [] (Same.refl H) ⟨rfl, rfl⟩ Nw.nil⟩
theorem ar_cons {tr : TA} {dr : DA} (ha : ER K Γ ta da) (hr : AR K Γ tr dr) : AR K Γ (tCons ta tr) (vCons da dr) :=
  ⟨fun δ P P' k h => ha.mono _ _ _ (fun x z => hr.mono _ _ _ (fun y z => k _ z) z) h,
   fun o q => ha.run o (ha.mono _ _ _ (fun x z v H1 s1 r1 => hr.run (o.same s1) (hr.mono _ _ _ (fun xs z vs H2 s2 r2 => by
    obtain ⟨f1, r1⟩ := r1.same s2
    obtain ⟨f2, r2⟩ := r2
    exact z _ H2 (s1.trans s2) ⟨f1 ++ f2, _, _, f1, f2, rfl, rfl, r1, r2⟩) z)) q)⟩
theorem am_cons {M' : List Nat} {tr : TA} {dr : DA} (ha : EM K Γ M ta da) (hr : AM K Γ M' tr dr) (hM : ∀ i ∈ M, i ∈ Γ ∧ i ∉ M' := by decide) (hM' : ∀ i ∈ M', i ∈ Γ := by decide) : AM K Γ (M ++ M') (tCons ta tr) (vCons da dr) :=
  ⟨fun δ P P' k h => ha.mono _ _ _ (fun x z => hr.mono _ _ _ (fun y z => k _ z) z) h,
   fun {B0 fps δ σ H Q} o q => ha.run o (ha.mono _ _ _ (fun x z v H1 f1 s1 r1 n1 => hr.run (o.same s1) (hr.mono _ _ _ (fun xs z vs H2 f2 s2 r2 n2 => by
    refine z _ H2 (f1 ++ f2) (s1.trans s2) ⟨_, _, f1, f2, rfl, rfl, r1.same s2, r2⟩ ⟨?_, fun a ha => (List.mem_append.mp ha).elim (fun h => (n1.mu a h).same s2) (n2.mu a), fun a ha => ?_⟩
    · refine List.nodup_append.mpr ⟨n1.nd, n2.nd, fun a h1 b h2 e => ?_⟩
      subst e
      rcases n2.src a h2 with e | ⟨j, hj, e⟩
      · exact (n1.mu a h1).some e
      · rcases n1.src a h1 with e' | ⟨i, hi, e'⟩
        · exact o.dom e e'
        · exact o.dj i (hM i hi).1 j (fun y => (hM i hi).2 (by rw [← y]; exact hj)) a e' e
    · rcases List.mem_append.mp ha with h | h
      · exact (n1.src a h).imp id fun ⟨j, h1, h2⟩ => ⟨j, List.mem_append_left _ h1, h2⟩
      · exact (n2.src a h).elim (fun e => .inl (s1.free e)) fun ⟨j, h1, h2⟩ => .inr ⟨j, List.mem_append_right _ h1, h2⟩) z)) q)⟩
theorem le1000 {n : Nat} (h : n ≤ 1000) : n ≤ sizeLine := Nat.le_trans h (by rw [sizeLine_eq]; decide)
def vLst (da : DA) (δ : Dl) (P : DK) : Prop := da δ fun xs => xs.length ≤ 1000 ∧ P (.lst xs)
def vTup (da : DA) (δ : Dl) (P : DK) : Prop := da δ fun xs => xs.length ≤ 1000 ∧ P (.tup xs)
theorem Same.new' {H : Hp} {p : Addr} {o : HO} (h : H p = none) : Same H (upd H p o) := fun b u e => by rw [upd_ne (ne_of_none e h)]; exact e
theorem em_lst {u : TA} {dr : DA} (hr : AM K Γ M u dr) (hM : ∀ i ∈ M, i ∈ Γ := by decide) : EM K Γ M (tLst u) (vLst dr) :=
  ⟨fun δ P P' k h => hr.mono _ _ _ (fun y z => ⟨z.1, k _ z.2⟩) h,
   fun {B0 fps δ σ H Q} o q => hr.run o (hr.mono _ _ _ (fun xs z vs H1 fp s1 r1 n1 => by
    refine ⟨by rw [r1.length]; exact le1000 z.1, fun p hp => ?_⟩
    have hs : Same H1 (upd H1 p (.lst vs)) := Same.new' hp
    refine z.2 _ _ (p :: fp) (s1.trans hs) ⟨p, vs, fp, rfl, upd_same, rfl, r1.same hs⟩ ⟨List.nodup_cons.mpr ⟨fun h => (n1.mu p h).some hp, n1.nd⟩, fun a ha => ?_, fun a ha => ?_⟩
    · rcases List.mem_cons.mp ha with e | h
      · subst e; exact .inl ⟨vs, upd_same⟩
      · exact (n1.mu a h).same hs
    · rcases List.mem_cons.mp ha with e | h
      · subst e; exact .inl (s1.free hp)
      · exact n1.src a h) q)⟩
theorem em_tup {u : TA} {dr : DA} (hr : AM K Γ M u dr) : EM K Γ M (tTup u) (vTup dr) :=
  ⟨fun δ P P' k h => hr.mono _ _ _ (fun y z => ⟨z.1, k _ z.2⟩) h,
   fun {B0 fps δ σ H Q} o q => hr.run o (hr.mono _ _ _ (fun xs z vs H1 fp s1 r1 n1 => by
    refine ⟨by rw [r1.length]; exact le1000 z.1, fun p hp => ?_⟩
    have hs : Same H1 (upd H1 p (.tup vs)) := Same.new' hp
    exact z.2 _ _ fp (s1.trans hs) ⟨p, vs, rfl, upd_same, r1.same hs⟩ (n1.same hs)) q)⟩
theorem er_lst {u : TA} {dr : DA} (hr : AR K Γ u dr) : ER K Γ (tLst u) (vLst dr) :=
  ⟨fun δ P P' k h => hr.mono _ _ _ (fun y z => ⟨z.1, k _ z.2⟩) h,
   fun {B0 fps δ σ H Q} o q => hr.run o (hr.mono _ _ _ (fun xs z vs H1 s1 r1 => by
    obtain ⟨fp, r1⟩ := r1
    refine ⟨by rw [r1.length]; exact le1000 z.1, fun p hp => ?_⟩
    have hs : Same H1 (upd H1 p (.lst vs)) := Same.new' hp
    exact z.2 _ _ (s1.trans hs) ⟨p :: fp, p, vs, fp, rfl, upd_same, rfl, r1.same hs⟩) q)⟩
theorem er_tup {u : TA} {dr : DA} (hr : AR K Γ u dr) : ER K Γ (tTup u) (vTup dr) :=
  ⟨fun δ P P' k h => hr.mono _ _ _ (fun y z => ⟨z.1, k _ z.2⟩) h,
   fun {B0 fps δ σ H Q} o q => hr.run o (hr.mono _ _ _ (fun xs z vs H1 s1 r1 => by
    obtain ⟨fp, r1⟩ := r1
    refine ⟨by rw [r1.length]; exact le1000 z.1, fun p hp => ?_⟩
    have hs : Same H1 (upd H1 p (.tup vs)) := Same.new' hp
    exact z.2 _ _ (s1.trans hs) ⟨fp, p, vs, rfl, upd_same, r1.same hs⟩) q)⟩
abbrev DSp := List D → DK → Prop
def DMono (S : DSp) : Prop := ∀ xs (P P' : DK), (∀ z, P z → P' z) → S xs P → S xs P'
def spP (K : PySem.W.Frag) (S : DSp) : Sp := fun vs H Q _ => ∃ ds, Rps K H ds vs ∧ S ds fun x => ∀ v H' fp, Same H H' → Rf K H' x v fp → Nw H H' nf [] fp → Q v H'
def spR (K : PySem.W.Frag) (S : DSp) : Sp := fun vs H Q _ => ∃ ds, Rps K H ds vs ∧ S ds fun x => ∀ v H', Same H H' → Rp K H' x v → Q v H'
structure CallV (K : PySem.W.Frag) (r : List V → Hp → VK → Prop) (S : DSp) : Prop where
  mono : DMono S
  run : ∀ {H xs vs Q}, Rps K H xs vs → S xs (fun z => ∀ u H' fp, Same H H' → Rf K H' z u fp → Nw H H' nf [] fp → Q u H') → r vs H Q
def vCall (S : DSp) (dr : DA) (δ : Dl) (P : DK) : Prop := dr δ fun xs => S xs P
theorem em_cb {r : List V → Hp → VK → Prop} {S : DSp} {u : TA} {dr : DA} (hc : CallV K r S) (hr : AR K Γ u dr) : EM K Γ [] (tCB r u) (vCall S dr) :=
  ⟨fun δ P P' k h => hr.mono _ _ _ (fun y z => hc.mono _ _ _ k z) h,
   fun {B0 fps δ σ H Q} o q => hr.run o (hr.mono _ _ _ (fun xs z vs H1 s1 r1 => hc.run r1 (hc.mono _ _ _ (fun u z u' H' fp s r n => z u' H' fp (s1.trans s) r (n.any.later s1)) z)) q)⟩
theorem em_call {S : DSp} {E : XK} {u : TA} {dr : DA} (hS : DMono S) (hr : AR K Γ u dr) : EM K Γ [] (tCall (spP K S) [] E u) (vCall S dr) :=
  ⟨fun δ P P' k h => hr.mono _ _ _ (fun y z => hS _ _ _ k z) h,
   fun {B0 fps δ σ H Q} o q => hr.run o (hr.mono _ _ _ (fun xs z vs H1 s1 r1 => ⟨xs, by rw [List.append_nil]; exact r1, hS _ _ _ (fun u z u' H' fp s r n => z u' H' fp (s1.trans s) r (n.any.later s1)) z⟩) q)⟩
theorem er_call {S : DSp} {E : XK} {u : TA} {dr : DA} (hS : DMono S) (hr : AR K Γ u dr) : ER K Γ (tCall (spR K S) [] E u) (vCall S dr) :=
  ⟨fun δ P P' k h => hr.mono _ _ _ (fun y z => hS _ _ _ k z) h,
   fun {B0 fps δ σ H Q} o q => hr.run o (hr.mono _ _ _ (fun xs z vs H1 s1 r1 => ⟨xs, by rw [List.append_nil]; exact r1, hS _ _ _ (fun u z u' H' s r => z u' H' (s1.trans s) r) z⟩) q)⟩
end
end L3
set_option Elab.async false
set_option linter.all false
set_option maxRecDepth 100000
set_option maxHeartbeats 4000000
namespace L3
open PySem L2
structure DEnds where
  nx : Dl → Prop
  rt : D → Dl → Prop
  bk : Dl → Prop
  ct : Dl → Prop
abbrev DS := DEnds → Dl → Prop
structure RtI (B0 : Hp) (Γr : List Nat) (fps : Nat → List Addr) (H : Hp) (fp : List Addr) : Prop where
  nd : fp.Nodup
  mu : ∀ a ∈ fp, Mu H a
  nw : ∀ a ∈ fp, B0 a = none
  dj : ∀ j ∈ Γr, ∀ a ∈ fp, a ∉ fps j
structure EOk (K : PySem.W.Frag) (ρ : Bool) (Γr Γl Γn : List Nat) (B0 : Hp) (Dn : Ends) (E : DEnds) : Prop where
  nx : ∀ {fps δ σ H}, Ok K B0 Γn fps δ σ H → E.nx δ → Dn.nx σ H
  bk : ∀ {fps δ σ H}, Ok K B0 Γl fps δ σ H → E.bk δ → Dn.bk σ H
  ct : ∀ {fps δ σ H}, Ok K B0 Γl fps δ σ H → E.ct δ → Dn.ct σ H
  rt : ∀ {fps δ σ H x v fp}, Ok K B0 Γr fps δ σ H → Rf K H x v fp → (ρ = true → RtI B0 Γr fps H fp) → E.rt x δ → Dn.rt v H
def ST (K : PySem.W.Frag) (ρ : Bool) (Γr Γl : List Nat) (t : TS) (Γ Γn : List Nat) (d : DS) : Prop :=
  ∀ ⦃B0 : Hp⦄ ⦃Dn : Ends⦄ ⦃E : DEnds⦄ ⦃fps : Nat → List Addr⦄ ⦃δ : Dl⦄ ⦃σ : St⦄ ⦃H : Hp⦄, EOk K ρ Γr Γl Γn B0 Dn E → Ok K B0 Γ fps δ σ H → d E δ → t Dn σ H
section
variable {K : PySem.W.Frag} {ρ : Bool} {Γr Γl Γ Γ1 Γ2 Γn M : List Nat} {t u : TS} {te ta tb : TE} {de da db : DE} {d e : DS}
def vNext (E : DEnds) (δ : Dl) : Prop := E.nx δ
def vSeq (d e : DS) (E : DEnds) (δ : Dl) : Prop := d { E with nx := e E } δ
theorem st_next : ST K ρ Γr Γl tNext Γ Γ vNext := fun _ _ _ _ _ _ _ k o h => k.nx o h
theorem st_seq (h1 : ST K ρ Γr Γl t Γ Γ1 d) (h2 : ST K ρ Γr Γl u Γ1 Γ2 e) : ST K ρ Γr Γl (tSeq t u) Γ Γ2 (vSeq d e) :=
  fun {B0 Dn E fps δ σ H} k o h => h1 (Dn := { Dn with nx := u Dn }) (E := { E with nx := e E }) ⟨fun o h => h2 k o h, k.bk, k.ct, k.rt⟩ o h
theorem ST.post (h : ST K ρ Γr Γl t Γ Γ1 d) (s : ∀ i ∈ Γn, i ∈ Γ1 := by decide) : ST K ρ Γr Γl t Γ Γn d := fun _ _ _ _ _ _ _ k o q => h ⟨fun o h => k.nx (o.sub s) h, k.bk, k.ct, k.rt⟩ o q
def vSetM (M : List Nat) (i : Nat) (de : DE) (E : DEnds) (δ : Dl) : Prop := de δ fun x => E.nx ((kill M δ).set i (some x))
theorem st_setM (i : Nat) (he : EM K Γ M te de) (hM : ∀ j ∈ M, j ∈ Γ := by decide) : ST K ρ Γr Γl (tAsg te (gName i)) Γ (i :: minus (minus Γ M) [i]) (vSetM M i de) :=
  fun _ _ _ _ _ _ _ k o h => he.run o (he.mono _ _ _ (fun x z v H' fp s r n => k.nx (o.setMv i hM s r n) z) h)
def vSet (i : Nat) (de : DE) (E : DEnds) (δ : Dl) : Prop := de δ fun x => E.nx (δ.set i (some x))
theorem st_setS (i : Nat) (he : ES K Γ te de) : ST K ρ Γr Γl (tAsg te (gName i)) Γ (minus Γ [i]) (vSet i de) :=
  fun _ _ _ _ _ _ _ k o h => he.run o (he.mono _ _ _ (fun x z v H' fp s r n => k.nx (o.setSh i s r n) z) h)
def vDrop (de : DE) (E : DEnds) (δ : Dl) : Prop := de δ fun _ => E.nx δ
def vRet (M : List Nat) (de : DE) (E : DEnds) (δ : Dl) : Prop := de δ fun x => E.rt x (kill M δ)
theorem st_ret (he : EM K Γ M te de) (hM : ∀ j ∈ M, j ∈ Γ := by decide) (hr : ∀ j ∈ Γr, j ∈ Γ ∧ j ∉ M := by decide) : ST K ρ Γr Γl (tRet te) Γ Γn (vRet M de) :=
  fun {B0 Dn E fps δ σ H} k o h => he.run o (he.mono _ _ _ (fun x z v H' fp s r n => by
    have ok := ((o.kill M).same s).sub (Γ' := Γr) fun i hi => mem_minus.mpr (hr i hi)
    refine k.rt ok r (fun _ => ⟨n.nd, n.mu, fun a ha => ?_, fun j hj a ha => ?_⟩) z
    · rcases n.src a ha with e | ⟨i, hi, e⟩
      · exact o.b0.free e
      · exact ((o.own i (hM i hi)).2 a e).1
    · show a ∉ if j ∈ M then [] else fps j
      rw [if_neg (hr j hj).2]
      intro z
      rcases n.src a ha with e | ⟨i, hi, e⟩
      · exact o.dom z e
      · exact o.dj i (hM i hi) j (fun y => (hr j hj).2 (by rw [y]; exact hi)) a e z) h)
def vRetN (E : DEnds) (δ : Dl) : Prop := E.rt .non δ
theorem st_retN (hr : ∀ j ∈ Γr, j ∈ Γ := by decide) : ST K ρ Γr Γl tRetN Γ Γn vRetN :=
  fun {B0 Dn E fps δ σ H} k o h => k.rt (o.sub hr) (Rf.ofScal (d := .non) rfl) (fun _ => ⟨List.nodup_nil, fun _ h => (nomatch h), fun _ h => (nomatch h), fun _ _ _ h => (nomatch h)⟩) h
def vIfS (c : DT) (d e : DS) (E : DEnds) (δ : Dl) : Prop := c δ fun b => if b = true then d E δ else e E δ
theorem st_if {c : TT} {dc : DT} (hc : TR K Γ c dc) (h1 : ST K ρ Γr Γl t Γ Γn d) (h2 : ST K ρ Γr Γl u Γ Γn e) : ST K ρ Γr Γl (tIfS c t u) Γ Γn (vIfS dc d e) :=
  fun _ _ _ _ _ _ _ k o h => hc.run o (hc.mono _ _ _ (fun b z H' s => ite_imp (fun z => h1 k (o.same s) z) (fun z => h2 k (o.same s) z) z) h)
structure GT (K : PySem.W.Frag) (Γ : List Nat) (g : TG) (dg : D → Dl → (Dl → Prop) → Prop) : Prop where
  mono : ∀ x δ (P P' : Dl → Prop), (∀ z, P z → P' z) → dg x δ P → dg x δ P'
  run : ∀ {B0 fps δ σ H x v fp Q}, Ok K B0 Γ fps δ σ H → Rf K H x v fp → (∀ j ∈ Γ, ∀ a ∈ fp, a ∉ fps j) → dg x δ (fun δ' => ∀ fps' σ', Ok K B0 Γ fps' δ' σ' H → (∀ j ∈ Γ, fps' j = fps j) → Q σ' H) → g v σ H Q
structure GTs (K : PySem.W.Frag) (Γ : List Nat) (g : TGs) (dg : List D → Dl → (Dl → Prop) → Prop) : Prop where
  mono : ∀ x δ (P P' : Dl → Prop), (∀ z, P z → P' z) → dg x δ P → dg x δ P'
  run : ∀ {B0 fps δ σ H x v fp Q}, Ok K B0 Γ fps δ σ H → Rfs K H x v fp → (∀ j ∈ Γ, ∀ a ∈ fp, a ∉ fps j) → dg x δ (fun δ' => ∀ fps' σ', Ok K B0 Γ fps' δ' σ' H → (∀ j ∈ Γ, fps' j = fps j) → Q σ' H) → g v σ H Q
def vgName (i : Nat) (x : D) (δ : Dl) (P : Dl → Prop) : Prop := P (δ.set i (some x))
theorem gt_name (i : Nat) (h : i ∉ Γ := by decide) : GT K Γ (gName i) (vgName i) := ⟨fun _ _ _ _ k h => k _ h, fun {B0 fps δ σ H x v fp Q} o r n q => by
  have ok := (o.setSh i (Same.refl H) r n).sub (Γ' := Γ) fun j hj => mem_minus.mpr ⟨hj, fun z => h (by rw [← List.mem_singleton.mp z]; exact hj)⟩
  exact q _ _ ok fun j hj => by rw [if_neg (fun z => h (by rw [← z]; exact hj))]⟩
def vgNil (xs : List D) (δ : Dl) (P : Dl → Prop) : Prop := match xs with | [] => P δ | _ => False
def vgCons (dg : D → Dl → (Dl → Prop) → Prop) (dr : List D → Dl → (Dl → Prop) → Prop) (xs : List D) (δ : Dl) (P : Dl → Prop) : Prop := match xs with | x :: r => dg x δ fun δ' => dr r δ' P | [] => False
theorem gts_nil : GTs K Γ gNil vgNil := ⟨fun x _ _ _ k h => by cases x with | nil => exact k _ h | cons _ _ => exact h, fun {B0 fps δ σ H x v fp Q} o r n q => by
  cases x with
  | nil => obtain ⟨rfl, _⟩ := r; exact ⟨rfl, q _ _ o fun _ _ => rfl⟩
  | cons _ _ => exact q.elim⟩
theorem gts_cons {g : TG} {gs : TGs} {dg : D → Dl → (Dl → Prop) → Prop} {dr : List D → Dl → (Dl → Prop) → Prop} (h1 : GT K Γ g dg) (h2 : GTs K Γ gs dr) : GTs K Γ (gCons g gs) (vgCons dg dr) :=
  ⟨fun x _ _ _ k h => by
    cases x with
    | nil => exact h
    | cons x r => exact h1.mono _ _ _ _ (fun z h => h2.mono _ _ _ _ k h) h,
   fun {B0 fps δ σ H x v fp Q} o r n q => by
    cases x with
    | nil => exact q.elim
    | cons x xs =>
      obtain ⟨y, ys, f1, f2, rfl, rfl, r1, r2⟩ := r
      refine ⟨y, ys, rfl, h1.run o r1 (fun j hj a ha => n j hj a (List.mem_append_left _ ha)) (h1.mono _ _ _ _ (fun δ' z fps' σ' o' e => ?_) q)⟩
      exact h2.run o' r2 (fun j hj a ha => by rw [e j hj]; exact n j hj a (List.mem_append_right _ ha)) (h2.mono _ _ _ _ (fun δ2 z fps2 σ2 o2 e2 => z fps2 σ2 o2 fun j hj => (e2 j hj).trans (e j hj)) z)⟩
def vgTup (n : Nat) (dg : List D → Dl → (Dl → Prop) → Prop) (x : D) (δ : Dl) (P : Dl → Prop) : Prop := match x with | .tup ds => ds.length = n ∧ dg ds δ P | _ => False
theorem gt_tup {n : Nat} {g : TGs} {dg : List D → Dl → (Dl → Prop) → Prop} (h : GTs K Γ g dg) : GT K Γ (gTup K n g) (vgTup n dg) :=
  ⟨fun x δ P P' k h' => by unfold vgTup at h' ⊢; revert h'; split <;> first | exact fun h' => ⟨h'.1, h.mono _ _ _ _ k h'.2⟩ | exact id,
   fun {B0 fps δ σ H x v fp Q} o r nn q => by
    unfold vgTup at q
    split at q
    · obtain ⟨a, xs, e1, e2, r⟩ := r
      exact ⟨a, xs, e1, .inl (.inl e2), r.length.trans q.1, h.run o r nn q.2⟩
    · exact q.elim⟩
def vAsg (de : DE) (dg : D → Dl → (Dl → Prop) → Prop) (E : DEnds) (δ : Dl) : Prop := de δ fun x => dg x δ E.nx
structure ItOk (K : PySem.W.Frag) (J : It) (B : Hp) (ds : List D) : Prop where
  go : ∀ {i H}, Same B H → i < ds.length → J.go i H
  yld : ∀ {i H x H' d}, Same B H → J.yld i H x H' → ds[i]? = some d → Same H H' ∧ ∃ fp, Rf K H' d x fp ∧ ∀ a ∈ fp, B a ≠ none
  stop : ∀ {i H}, Same B H → ds.length ≤ i → J.stop i H
abbrev DI := Dl → (List D → Prop) → Prop
structure IT (K : PySem.W.Frag) (Γ : List Nat) (wi : TI) (di : DI) : Prop where
  mono : ∀ δ (P P' : List D → Prop), (∀ x, P x → P' x) → di δ P → di δ P'
  run : ∀ {B0 fps δ σ H R}, Ok K B0 Γ fps δ σ H → di δ (fun ds => ∀ (J : It) (H' : Hp) (fq : List Addr), Same H H' → (∀ j ∈ Γ, ∀ a ∈ fq, a ∉ fps j) →
    (∀ B, Same B H' → (∀ a ∈ fq, B a = H' a) → (∀ a o, H' a = some o → Im o → B a = some o) → ItOk K J B ds) → R J H') → wi σ H R
def asL (x : D) (P : List D → Prop) : Prop := match x.items with | some ds => P ds | none => False
theorem asL_out {x : D} {P : List D → Prop} (h : asL x P) : ∃ ds, x.items = some ds ∧ P ds := by
  unfold asL at h; split at h
  · exact ⟨_, by assumption, h⟩
  · exact h.elim
theorem asL_in {x : D} {ds : List D} {P : List D → Prop} (e : x.items = some ds) (h : P ds) : asL x P := by unfold asL; rw [e]; exact h
def vItL (de : DE) (δ : Dl) (P : List D → Prop) : Prop := de δ fun x => asL x P
theorem it_list (he : ES K Γ te de) : IT K Γ (iList K te) (vItL de) :=
  ⟨fun δ P P' k h => he.mono _ _ _ (fun x z => by obtain ⟨ds, e, z⟩ := asL_out z; exact asL_in e (k _ z)) h,
   fun {B0 fps δ σ H R} o h => he.run o (he.mono _ _ _ (fun x z v H' fp s r n => by
    obtain ⟨ds, ex, z⟩ := asL_out z
    obtain ⟨a, xs, fq, rfl, hs, hr, hin⟩ := r.seq ex
    refine ⟨a, rfl, ⟨xs, hs⟩, z (Itl K a) H' fp s n fun B sB ag im => ?_⟩
    have rB : Rf K B x (.ref a) fp := r.mono (fun b hb u e => by rw [ag b hb]; exact e) im
    obtain ⟨a', xs', fq', e1, hs', hr', hin'⟩ := rB.seq ex
    cases e1
    have sq : ∀ {H2 : Hp}, Same B H2 → SqL K H2 a xs' := fun s2 => by
      rcases hs' with (h | ⟨o', h⟩) | h
      · exact .inl (.inl (s2 _ _ h))
      · exact .inl (.inr ⟨o', s2 _ _ h⟩)
      · exact .inr h
    have hl := hr'.length
    refine ⟨fun {i H2} s2 hi => ⟨xs', xs'[i]'(by omega), sq s2, by simp [hl, hi]⟩, fun {i H2 y H3 d} s2 hy hd => ?_, fun {i H2} s2 hi => ⟨xs', sq s2, by omega⟩⟩
    obtain ⟨rfl, hy⟩ := hy
    have e2 := hy xs' (sq s2)
    obtain ⟨d', f, e3, r3, k3⟩ := hr'.get' e2
    rw [hd] at e3; cases e3
    exact ⟨Same.refl _, f, r3.same s2, fun b hb => by
      obtain ⟨u, hu, _⟩ := r3.dom b hb
      rw [hu]; intro z; cases z⟩) h)⟩
def asI (xs : List D) (P : Int → Prop) : Prop := match xs with | [.int j] => P j | _ => False
def asII (xs : List D) (P : Int → Int → Prop) : Prop := match xs with | [.int i, .int j] => P i j | _ => False
theorem asI_out {xs : List D} {P : Int → Prop} (h : asI xs P) : ∃ j, xs = [.int j] ∧ P j := by
  unfold asI at h; split at h
  · exact ⟨_, rfl, h⟩
  · exact h.elim
def intsD (lo : Int) (n : Nat) : List D := (List.range n).map fun (k : Nat) => .int (lo + (k : Int))
theorem itr_ok {lo : Int} {n : Nat} {B : Hp} : ItOk K (Itr lo n) B (intsD lo n) := ⟨fun {i H2} s2 hi => by unfold Itr; simpa [intsD] using hi, fun {i H2 y H3 d} s2 hy hd => by
  obtain ⟨rfl, rfl⟩ := hy
  unfold intsD at hd
  rw [List.getElem?_map] at hd
  cases e : (List.range n)[i]? with
  | none => rw [e] at hd; cases hd
  | some k =>
    rw [e] at hd
    obtain ⟨h1, h2⟩ := List.getElem?_eq_some_iff.mp e
    rw [List.getElem_range] at h2
    subst h2
    cases hd
    exact ⟨Same.refl _, [], ⟨rfl, rfl⟩, fun _ h => nomatch h⟩, fun {i H2} s2 hi => by unfold Itr; simpa [intsD] using hi⟩
def vRng1 (da : DA) (δ : Dl) (P : List D → Prop) : Prop := da δ fun xs => asI xs fun j => (-(2 ^ 62) ≤ j ∧ j < 2 ^ 62) ∧ P (intsD 0 j.toNat)
def vRng2 (da : DA) (δ : Dl) (P : List D → Prop) : Prop := da δ fun xs => asII xs fun i j => (-(2 ^ 62) ≤ i ∧ i < 2 ^ 62 ∧ -(2 ^ 62) ≤ j ∧ j < 2 ^ 62) ∧ P (intsD i (j - i).toNat)
theorem Rps.ints1 {H : Hp} {j : Int} {vs : List V} (h : Rps K H [.int j] vs) : vs = [.int j] := by
  obtain ⟨fp, x, r, f1, f2, rfl, _, ⟨rfl, _⟩, ⟨rfl, _⟩⟩ := h; rfl
theorem it_rng1 {u : TA} {da : DA} (ha : AR K Γ u da) : IT K Γ (iRng1 u) (vRng1 da) :=
  ⟨fun δ P P' k h => ha.mono _ _ _ (fun x z => by obtain ⟨j, rfl, z⟩ := asI_out z; exact ⟨z.1, k _ z.2⟩) h,
   fun {B0 fps δ σ H R} o h => ha.run o (ha.mono _ _ _ (fun xs z vs H' s r => by
    obtain ⟨j, rfl, z⟩ := asI_out z
    exact ⟨j, r.ints1, z.1.1, z.1.2, z.2 _ H' [] s (fun _ _ _ h => (nomatch h)) fun B _ _ _ => itr_ok⟩) h)⟩
def vLoop (dg : D → Dl → (Dl → Prop) → Prop) (db : DS) (E : DEnds) : List D → Dl → Prop
  | [], δ => E.nx δ
  | x :: xs, δ => dg x δ fun δ' => db { nx := vLoop dg db E xs, ct := vLoop dg db E xs, bk := E.nx, rt := E.rt } δ'
def vFor (di : DI) (dg : D → Dl → (Dl → Prop) → Prop) (db : DS) (E : DEnds) (δ : Dl) : Prop := di δ fun ds => vLoop dg db E ds δ
theorem RtI.base {B1 B0 : Hp} {fps : Nat → List Addr} {H : Hp} {fp : List Addr} (r : RtI B1 Γr fps H fp) (s : Same B0 B1) : RtI B0 Γr fps H fp := ⟨r.nd, r.mu, fun a ha => s.free (r.nw a ha), r.dj⟩
theorem st_for {wi : TI} {di : DI} {g : TG} {dg : D → Dl → (Dl → Prop) → Prop} {tb : TS} {db : DS} (hi : IT K Γ wi di) (hg : GT K Γ g dg) (hb : ST K ρ Γr Γ tb Γ Γ db) : ST K ρ Γr Γl (tFor wi g tb) Γ Γ (vFor di dg db) := by
  intro B0 Dn E fps δ σ H k o h
  refine hi.run o (hi.mono _ _ _ (fun ds z J H1 fq s1 n1 hit => ?_) h)
  obtain ⟨B1, sB, o1, ag⟩ := (o.same s1).rebase
  have hJ : ItOk K J B1 ds := hit B1 o1.b0 (fun a ha => ag a fun j hj => n1 j hj a ha) fun a u e im => by
    rw [ag a fun j hj ha => ((o1.own j hj).2 a ha).2.notup u e im]; exact e
  refine ⟨fun i m σ H => m = ds.length - i ∧ i ≤ ds.length ∧ ∃ fps δ, Ok K B1 Γ fps δ σ H ∧ vLoop dg db E (ds.drop i) δ, ⟨ds.length, by omega, Nat.zero_le _, fps, δ, o1, by rw [List.drop_zero]; exact z⟩, ?_⟩
  rintro i m σ2 H2 ⟨rfl, hi2, fps2, δ2, o2, z2⟩
  by_cases hlt : i < ds.length
  · refine .inr ⟨hJ.go o2.b0 hlt, _, fun σ' H' q => q, fun x H3 hy => ?_⟩
    obtain ⟨s3, fp, r3, n3⟩ := hJ.yld o2.b0 hy (List.getElem?_eq_getElem hlt)
    rw [List.drop_eq_getElem_cons hlt] at z2
    refine hg.run (o2.same s3) r3 (fun j hj a ha hz => n3 a ha ((o2.own j hj).2 a hz).1) (hg.mono _ _ _ _ (fun δ' z' fps' σ' o' e' => ?_) z2)
    refine hb (E := { nx := vLoop dg db E (ds.drop (i + 1)), ct := vLoop dg db E (ds.drop (i + 1)), bk := E.nx, rt := E.rt }) ⟨fun o4 z4 => ⟨ds.length - (i + 1), by omega, rfl, hlt, _, _, o4, z4⟩, fun o4 z4 => k.nx (o4.base sB) z4, fun o4 z4 => ⟨ds.length - (i + 1), by omega, rfl, hlt, _, _, o4, z4⟩, fun o4 r4 i4 z4 => k.rt (o4.base sB) r4 (fun y => (i4 y).base sB) z4⟩ o' z'
  · have e : i = ds.length := by omega
    subst e
    rw [List.drop_length] at z2
    exact .inl ⟨hJ.stop o2.b0 (Nat.le_refl _), k.nx (o2.base sB) z2⟩
def vWhile (c : DT) (db : DS) (E : DEnds) (δ : Dl) : Prop := ∃ W : Nat → Dl → Prop, (∃ m, W m δ) ∧ ∀ m δ, W m δ → c δ fun b => if b = true then db { nx := fun δ' => ∃ m', m' < m ∧ W m' δ', ct := fun δ' => ∃ m', m' < m ∧ W m' δ', bk := E.nx, rt := E.rt } δ else E.nx δ
theorem st_while {c : TT} {dc : DT} {tb : TS} {db : DS} (hc : TR K Γ c dc) (hb : ST K ρ Γr Γ tb Γ Γ db) : ST K ρ Γr Γl (tWhile c tb) Γ Γ (vWhile dc db) := by
  intro B0 Dn E fps δ σ H k o h
  obtain ⟨W, ⟨m, w0⟩, turn⟩ := h
  refine ⟨fun m σ H => ∃ fps δ, Ok K B0 Γ fps δ σ H ∧ W m δ, ⟨m, fps, δ, o, w0⟩, ?_⟩
  rintro m σ2 H2 ⟨fps2, δ2, o2, w2⟩
  refine hc.run o2 (hc.mono _ _ _ (fun b z H' s => ite_imp (fun z => ?_) (fun z => k.nx (o2.same s) z) z) (turn m δ2 w2))
  refine ⟨fun σ H => ∃ m', m' < m ∧ ∃ fps δ, Ok K B0 Γ fps δ σ H ∧ W m' δ, fun σ' H' q => q, hb (E := { nx := fun δ' => ∃ m', m' < m ∧ W m' δ', ct := fun δ' => ∃ m', m' < m ∧ W m' δ', bk := E.nx, rt := E.rt }) ⟨?_, fun o4 z4 => k.nx o4 z4, ?_, k.rt⟩ (o2.same s) z⟩
  · rintro fps δ σ H o4 ⟨m', h1, h2⟩
    exact ⟨m', h1, fps, δ, o4, h2⟩
  · rintro fps δ σ H o4 ⟨m', h1, h2⟩
    exact ⟨m', h1, fps, δ, o4, h2⟩
def vEach (f : D → (List D → Prop) → Prop) : List D → List D → (List D → Prop) → Prop
  | [], acc, P => P acc
  | x :: xs, acc, P => f x fun ys => vEach f xs (acc ++ ys) P
theorem vEach_mono {f : D → (List D → Prop) → Prop} (hf : ∀ x P P', (∀ z, P z → P' z) → f x P → f x P') : ∀ xs acc (P P' : List D → Prop), (∀ z, P z → P' z) → vEach f xs acc P → vEach f xs acc P'
  | [], acc, P, P', k, h => k _ h
  | x :: xs, acc, P, P', k, h => hf x _ _ (fun z h => vEach_mono hf xs _ P P' k h) h
def cbaseD (k : Nat) (idx : List Nat) (δ : Dl) : Dl := List.replicate k none ++ idx.map fun i => (δ[i]?).getD none
theorem cb_ok {k : Nat} {idx : List Nat} {B0 : Hp} {fps : Nat → List Addr} {δ : Dl} {σ : St} {H : Hp} (o : Ok K B0 Γ fps δ σ H) : Ok K H [] (fun j => match (cbaseD k idx δ)[j]? with | some (some _) => fps (idx.getD (j - k) 0) | _ => []) (cbaseD k idx δ) (cbase k idx σ) H := by
  refine ⟨by simp [cbaseD, cbase, caps], Same.refl H, fun i d e => ?_, fun i h => ?_, fun _ h => (nomatch h), fun _ h => (nomatch h)⟩
  · rw [e]
    unfold cbaseD at e
    unfold cbase caps
    by_cases hi : i < k
    · rw [List.getElem?_append_left (by simpa using hi)] at e
      simp [hi] at e
    · rw [List.getElem?_append_right (by simpa using hi), List.length_replicate, List.getElem?_map] at e
      cases ej : idx[i - k]? with
      | none => rw [ej] at e; simp at e
      | some j =>
        rw [ej] at e
        simp only [Option.map_some, Option.some.injEq] at e
        have e' : δ[j]? = some (some d) := by
          cases q : δ[j]? with
          | none => rw [q] at e; cases e
          | some x => rw [q] at e; simp at e; rw [e]
        obtain ⟨v, h1, h2⟩ := o.val j d e'
        refine ⟨v, ?_, ?_⟩
        · rw [List.getElem?_append_right (by simpa using hi), List.length_replicate, List.getElem?_map, ej]
          simp [h1]
        · show Rf K H d v (fps (idx.getD (i - k) 0))
          rw [List.getD_eq_getElem?_getD, ej]
          exact h2
  · show (match (cbaseD k idx δ)[i]? with | some (some _) => _ | _ => _) = _
    split
    · exact absurd (by assumption) (h _)
    · rfl
def vBody (dg : D → Dl → (Dl → Prop) → Prop) (dt : DT) (de : DE) (δ : Dl) (x : D) (R : List D → Prop) : Prop := dg x δ fun δ2 => dt δ2 fun b => if b = true then de δ2 fun y => R [y] else R []
def vComp (di : DI) (dg : D → Dl → (Dl → Prop) → Prop) (dt : DT) (de : DE) (k : Nat) (idx : List Nat) (δ : Dl) (P : DK) : Prop := di δ fun ds => ds.length ≤ 1000 ∧ vEach (vBody dg dt de (cbaseD k idx δ)) ds [] fun ys => P (.lst ys)
theorem vBody_mono {Γ' : List Nat} {g : TG} {dg : D → Dl → (Dl → Prop) → Prop} {tt : TT} {dt : DT} (hg : GT K Γ' g dg) (ht : TR K Γ' tt dt) (hm : ∀ δ (P P' : DK), (∀ x, P x → P' x) → de δ P → de δ P') (δ : Dl) : ∀ x P P', (∀ z, P z → P' z) → vBody dg dt de δ x P → vBody dg dt de δ x P' :=
  fun x P P' k h => hg.mono _ _ _ _ (fun δ2 h => ht.mono _ _ _ (fun b h => ite_imp (hm _ _ _ fun y h => k _ h) (k _) h) h) h
theorem em_comp {wi : TI} {di : DI} {g : TG} {dg : D → Dl → (Dl → Prop) → Prop} {tt : TT} {dt : DT} {k : Nat} {idx : List Nat} (hi : IT K [] wi di) (hg : GT K [] g dg) (ht : TR K [] tt dt) (he : EM K [] [] te de) :
    EM K Γ [] (tComp wi g tt te k idx) (vComp di dg dt de k idx) := by
  have hm := vBody_mono hg ht he.mono
  refine ⟨fun δ P P' k h => hi.mono _ _ _ (fun ds z => ⟨z.1, vEach_mono (hm _) _ _ _ _ (fun ys h => k _ h) z.2⟩) h, fun {B0 fps δ σ H Q} o h => hi.run (o.sub (Γ' := []) fun _ h => (nomatch h)) (hi.mono _ _ _ (fun ds z J H1 fq s1 n1 hit => ?_) h)⟩
  have hJ : ItOk K J H1 ds := hit H1 (Same.refl _) (fun _ _ => rfl) fun a u e im => e
  obtain ⟨hz, z⟩ := z
  refine ⟨fun i m vs H2 => m = ds.length - i ∧ i ≤ ds.length ∧ Same H1 H2 ∧ vs.length ≤ i ∧ ∃ ys fp, Rfs K H2 ys vs fp ∧ Nw H1 H2 nf [] fp ∧ vEach (vBody dg dt de (cbaseD k idx δ)) (ds.drop i) ys fun ys => ∀ v H' fp, Same H H' → Rf K H' (.lst ys) v fp → Nw H H' fps [] fp → Q v H',
    ⟨ds.length, by omega, Nat.zero_le _, Same.refl _, Nat.zero_le _, [], [], ⟨rfl, rfl⟩, Nw.nil, by rw [List.drop_zero]; exact z⟩, ?_⟩
  rintro i m vs H2 ⟨rfl, hi2, s2, hvs, ys, fp, r2, n2, z2⟩
  by_cases hlt : i < ds.length
  · refine .inr ⟨hJ.go s2 hlt, le1000 (by omega), _, fun vs' H' q => q, fun x H3 hy => ?_⟩
    obtain ⟨s3, fx, r3, n3⟩ := hJ.yld s2 hy (List.getElem?_eq_getElem hlt)
    rw [List.drop_eq_getElem_cons hlt] at z2
    have oi := (cb_ok (k := k) (idx := idx) ((o.same s1).same (s2.trans s3)))
    refine hg.run oi r3 (fun _ h => (nomatch h)) (hg.mono _ _ _ _ (fun δ' z' fps' σ' o' e' => ?_) z2)
    refine ht.run o' (ht.mono _ _ _ (fun b z' H4 s4 => ite_imp (fun z' => he.run (o'.same s4) (he.mono _ _ _ (fun y z' v H5 f5 s5 r5 n5 => ?_) z')) (fun z' => ?_) z') z')
    · have s25 := s3.trans (s4.trans s5)
      refine ⟨ds.length - (i + 1), by omega, rfl, hlt, s2.trans s25, by simp; omega, ys ++ [y], fp ++ f5, (r2.same s25).append (Rfs.one r5), ⟨?_, fun a ha => ?_, fun a ha => ?_⟩, z'⟩
      · refine List.nodup_append.mpr ⟨n2.nd, n5.nd, fun a h1 b h2 e => ?_⟩
        subst e
        exact ((n2.mu a h1).same (s3.trans s4)).some (n5.fresh a h2)
      · rcases List.mem_append.mp ha with h | h
        · exact (n2.mu a h).same s25
        · exact n5.mu a h
      · rcases List.mem_append.mp ha with h | h
        · exact n2.src a h
        · exact .inl ((s2.trans (s3.trans s4)).free (n5.fresh a h))
    · have s24 := s3.trans s4
      dsimp only at z'
      rw [List.append_nil] at z'
      exact ⟨ds.length - (i + 1), by omega, rfl, hlt, s2.trans s24, by omega, ys, fp, r2.same s24, n2.same s24, z'⟩
  · have e : i = ds.length := by omega
    subst e
    rw [List.drop_length] at z2
    refine .inl ⟨hJ.stop s2 (Nat.le_refl _), le1000 (by omega), fun p hp => ?_⟩
    have hs : Same H2 (upd H2 p (.lst vs)) := Same.new' hp
    refine z2 _ _ (p :: fp) ((s1.trans s2).trans hs) ⟨p, vs, fp, rfl, upd_same, rfl, r2.same hs⟩ ⟨List.nodup_cons.mpr ⟨fun h => (n2.mu p h).some hp, n2.nd⟩, fun a ha => ?_, fun a ha => ?_⟩
    · rcases List.mem_cons.mp ha with e | h
      · subst e; exact .inl ⟨vs, upd_same⟩
      · exact (n2.mu a h).same hs
    · rcases List.mem_cons.mp ha with e | h
      · subst e; exact .inl ((s1.trans s2).free hp)
      · exact .inl (s1.free (n2.fresh a h))
def vYes (_u0 : Dl) (P : Bool → Prop) : Prop := P true
theorem tr_yes : TR K Γ tYes vYes := ⟨fun _ _ _ k h => k _ h, fun {_ _ _ _ H _} o q => q H (Same.refl H)⟩
def startD (N : List Str) (ds : List D) : Dl := ds.map some ++ List.replicate (N.length - ds.length) none
theorem Rfs.split {H : Hp} : ∀ {ds : List D} {vs : List V} {fp : List Addr}, Rfs K H ds vs fp → ∃ fps : Nat → List Addr, (∀ i d, ds[i]? = some d → ∃ v, vs[i]? = some v ∧ Rf K H d v (fps i)) ∧ ∀ i, ds.length ≤ i → fps i = []
  | [], vs, fp, h => ⟨fun _ => [], fun i d e => by simp at e, fun _ _ => rfl⟩
  | d :: ds, vs, fp, h => by
    obtain ⟨x, r, f1, f2, rfl, rfl, h1, h2⟩ := h
    obtain ⟨fps, k1, k2⟩ := Rfs.split h2
    refine ⟨fun i => match i with | 0 => f1 | j + 1 => fps j, fun i d' e => ?_, fun i hi => ?_⟩
    · cases i with
      | zero => simp at e; subst e; exact ⟨x, rfl, h1⟩
      | succ j => simpa using k1 j d' (by simpa using e)
    · cases i with
      | zero => simp at hi
      | succ j => exact k2 j (by simpa using hi)
theorem start_ok {N : List Str} {ds : List D} {vs : List V} {H : Hp} (h : Rps K H ds vs) : ∃ fps, Ok K H [] fps (startD N ds) (L2.start N vs) H := by
  obtain ⟨fp, h⟩ := h
  have hl := h.length
  obtain ⟨fps, k1, k2⟩ := h.split
  refine ⟨fps, by simp [startD, L2.start, hl], Same.refl H, fun i d e => ?_, fun i e => ?_, fun _ h => (nomatch h), fun _ h => (nomatch h)⟩
  · unfold startD at e
    unfold L2.start
    by_cases hi : i < ds.length
    · rw [List.getElem?_append_left (by simpa using hi), List.getElem?_map, List.getElem?_eq_getElem hi] at e
      simp at e
      obtain ⟨v, h1, h2⟩ := k1 i d (by rw [List.getElem?_eq_getElem hi, e])
      exact ⟨v, by rw [List.getElem?_append_left (by simpa [hl] using hi), List.getElem?_map, h1]; rfl, h2⟩
    · rw [List.getElem?_append_right (by simpa using hi), List.getElem?_replicate] at e
      split at e <;> cases e
  · by_cases hi : i < ds.length
    · refine absurd ?_ (e ds[i])
      unfold startD
      rw [List.getElem?_append_left (by simpa using hi), List.getElem?_map, List.getElem?_eq_getElem hi]
      rfl
    · exact k2 i (by omega)
abbrev endsD (P : DK) : DEnds := ⟨fun _ => P .non, fun x _ => P x, fun _ => False, fun _ => False⟩
theorem fn_val {N : List Str} {S : DSp} (hs : ST K true [] [] t [] Γn d) (hd : ∀ ds P, S ds P → d (endsD P) (startD N ds)) :
    ∀ {vs H Q E}, spP K S vs H Q E → t { nx := fun _ H' => Q .non H', rt := Q } (L2.start N vs) H := by
  rintro vs H Q E ⟨ds, r, h⟩
  obtain ⟨fps, o⟩ := start_ok (N := N) r
  refine hs (E := endsD _) ⟨fun {fps δ σ H'} o z => ?_, fun o (z : False) => z.elim, fun o (z : False) => z.elim, fun o r i z => ?_⟩ o (hd ds _ h)
  · exact z _ H' [] o.b0 ⟨rfl, rfl⟩ Nw.nil
  · exact z _ _ _ o.b0 r ⟨(i rfl).nd, (i rfl).mu, fun a ha => .inl ((i rfl).nw a ha)⟩
theorem fn_valR {N : List Str} {S : DSp} (hs : ST K false [] [] t [] Γn d) (hd : ∀ ds P, S ds P → d (endsD P) (startD N ds)) :
    ∀ {vs H Q E}, spR K S vs H Q E → t { nx := fun _ H' => Q .non H', rt := Q } (L2.start N vs) H := by
  rintro vs H Q E ⟨ds, r, h⟩
  obtain ⟨fps, o⟩ := start_ok (N := N) r
  refine hs (E := endsD _) ⟨fun {fps δ σ H'} o z => ?_, fun o (z : False) => z.elim, fun o (z : False) => z.elim, fun o r i z => ?_⟩ o (hd ds _ h)
  · exact z _ H' o.b0 ⟨[], rfl, rfl⟩
  · exact z _ _ o.b0 ⟨_, r⟩
end
end L3
set_option Elab.async false
set_option linter.all false
set_option maxRecDepth 100000
set_option maxHeartbeats 4000000
namespace L3
open PySem L2
section
variable {K : PySem.W.Frag} {ρ : Bool} {Γr Γl Γ Γ1 Γ2 Γn M : List Nat} {t u : TS} {te ta tb tx t1 t2 : TE} {de da db dx d1 d2 : DE} {d e : DS}
variable {B0 : Hp} {fps : Nat → List Addr} {δ : Dl} {σ : St} {H H' : Hp}
theorem Ok.write (o : Ok K B0 Γ fps δ σ H) {i : Nat} (hi : i ∈ Γ) {d' : D} {v : V} {fp' : List Addr} (hv : σ[i]? = some (some v)) (r : Rf K H' d' v fp') (nd : fp'.Nodup) (mu : ∀ a ∈ fp', Mu H' a)
    (src : ∀ a ∈ fp', a ∈ fps i ∨ (B0 a = none ∧ ∀ j, a ∉ fps j)) (keep : ∀ b u, b ∉ fps i → H b = some u → H' b = some u) :
    Ok K B0 Γ (fun j => if j = i then fp' else fps j) (δ.set i (some d')) σ H' := by
  have hlt : i < δ.length := by rw [← o.len]; exact (List.getElem?_eq_some_iff.mp hv).1
  refine ⟨by simp [o.len], fun b u e => ?_, fun j d e => ?_, fun j h => ?_, fun j hj => ?_, fun j hj k hk a ha => ?_⟩
  · refine keep b u (fun z => ?_) (o.b0 b u e)
    have := ((o.own i hi).2 b z).1
    rw [e] at this; cases this
  · by_cases h : j = i
    · subst h
      rw [List.getElem?_set] at e
      simp [hlt] at e
      subst e
      exact ⟨v, hv, by rw [if_pos rfl]; exact r⟩
    · rw [List.getElem?_set_ne (Ne.symm h)] at e
      obtain ⟨w, h1, h2⟩ := o.val j d e
      refine ⟨w, h1, ?_⟩
      rw [if_neg h]
      exact h2.mono (fun a ha u e => keep a u (fun z => o.dj i hi j h a z ha) e) fun a u e im => keep a u (fun z => ((o.own i hi).2 a z).2.notup u e im) e
  · by_cases h' : j = i
    · subst h'
      exact absurd (by rw [List.getElem?_set]; simp [hlt]) (h d')
    · rw [if_neg h']
      exact o.non j fun d z => h d (by rw [List.getElem?_set_ne (Ne.symm h')]; exact z)
  · by_cases h : j = i
    · subst h
      rw [if_pos rfl]
      refine ⟨nd, fun a ha => ⟨?_, mu a ha⟩⟩
      rcases src a ha with z | z
      · exact ((o.own j hi).2 a z).1
      · exact z.1
    · rw [if_neg h]
      refine ⟨(o.own j hj).1, fun a ha => ⟨((o.own j hj).2 a ha).1, ?_⟩⟩
      have hn : a ∉ fps i := fun z => o.dj i hi j h a z ha
      rcases ((o.own j hj).2 a ha).2 with ⟨x, z⟩ | ⟨x, z⟩ | ⟨x, z⟩ | ⟨C, dx, fs, z⟩
      · exact .inl ⟨x, keep a _ hn z⟩
      · exact .inr (.inl ⟨x, keep a _ hn z⟩)
      · exact .inr (.inr (.inl ⟨x, keep a _ hn z⟩))
      · exact .inr (.inr (.inr ⟨C, dx, fs, keep a _ hn z⟩))
  · by_cases h : j = i
    · subst h
      rw [if_pos rfl] at ha
      rw [if_neg hk]
      rcases src a ha with z | z
      · exact o.dj j hi k hk a z
      · exact z.2 k
    · rw [if_neg h] at ha
      by_cases hki : k = i
      · rw [if_pos hki]
        intro z
        rcases src a z with y | y
        · exact o.dj j hj i (Ne.symm h) a ha y
        · exact y.2 j ha
      · rw [if_neg hki]
        exact o.dj j hj k hk a ha
def slotL (δ : Dl) (i : Nat) (P : List D → Prop) : Prop := match δ[i]? with | some (some (.lst ds)) => P ds | _ => False
theorem slotL_out {δ : Dl} {i : Nat} {P : List D → Prop} (h : slotL δ i P) : ∃ ds, δ[i]? = some (some (.lst ds)) ∧ P ds := by
  unfold slotL at h; split at h
  · exact ⟨_, by assumption, h⟩
  · exact h.elim
theorem Ok.ownL (o : Ok K B0 Γ fps δ σ H) {i : Nat} {ds : List D} (e : δ[i]? = some (some (.lst ds))) : ∃ a xs fq, σ[i]? = some (some (.ref a)) ∧ H a = some (.lst xs) ∧ fps i = a :: fq ∧ Rfs K H ds xs fq := by
  obtain ⟨v, h1, a, xs, fq, rfl, h2, h3, h4⟩ := o.val i _ e
  exact ⟨a, xs, fq, h1, h2, h3, h4⟩
theorem updKeep {a : Addr} {w : HO} {fp : List Addr} (ha : a ∈ fp) : ∀ b u, b ∉ fp → H b = some u → upd H a w b = some u := fun b u hb e => by
  rw [upd_ne (fun z => hb (by rw [z]; exact ha))]; exact e
def vAppend (M : List Nat) (i : Nat) (de : DE) (E : DEnds) (δ : Dl) : Prop := slotL δ i fun ds => de δ fun x => ds.length < 1000 ∧ E.nx ((kill M δ).set i (some (.lst (ds ++ [x]))))
theorem st_append (i : Nat) (he : EM K Γ M te de) (hi : i ∈ Γ ∧ i ∉ M := by decide) (hM : ∀ j ∈ M, j ∈ Γ := by decide) : ST K ρ Γr Γl (tDrop (tBM K "list" rAppend (tVar i) (tCons te tNil))) Γ (minus Γ M) (vAppend M i de) := by
  intro B0 Dn E fps δ σ H k o h
  obtain ⟨ds, e, h⟩ := slotL_out h
  obtain ⟨a, xs, fq, h1, h2, h3, h4⟩ := o.ownL e
  refine ⟨.ref a, h1, .inl ⟨rfl, xs, .inl (.inl h2)⟩, he.run o (he.mono _ _ _ (fun x z v H1 fp s r n => ?_) h)⟩
  refine ⟨a, xs, v, rfl, rfl, s _ _ h2, by rw [h4.length]; exact Nat.lt_of_lt_of_le z.1 (le1000 (Nat.le_refl _)), ?_⟩
  have ok := (o.kill M).same s
  have hil : i ∈ minus Γ M := mem_minus.mpr hi
  have hown := o.own i hi.1
  rw [h3] at hown
  obtain ⟨nd, hmu⟩ := hown
  obtain ⟨na, ndq⟩ := List.nodup_cons.mp nd
  have hfa : ∀ b ∈ fp, b ≠ a ∧ b ∉ fq := fun b hb => by
    have : b ∉ fps i := fun z => by
      rcases n.src b hb with y | ⟨j, hj, y⟩
      · exact o.dom z y
      · exact o.dj j (hM j hj) i (fun w => hi.2 (by rw [w]; exact hj)) b y z
    rw [h3] at this
    exact ⟨fun z => this (by rw [z]; exact List.mem_cons_self), fun z => this (List.mem_cons_of_mem _ z)⟩
  have nt := ((hmu a List.mem_cons_self).2.same s).notup
  refine k.nx (ok.write hil (d' := .lst (ds ++ [x])) (fp' := a :: (fq ++ fp)) h1 ⟨a, xs ++ [v], fq ++ fp, rfl, upd_same, rfl, ?_⟩ ?_ (fun b hb => ?_) (fun b hb => ?_) ?_) z.2
  · exact ((h4.same s).upd na nt).append ((Rfs.one r).upd (fun w => (hfa a w).1 rfl) nt)
  · refine List.nodup_cons.mpr ⟨fun w => ?_, List.nodup_append.mpr ⟨ndq, n.nd, fun b h1 c h2 z => ?_⟩⟩
    · rcases List.mem_append.mp w with w | w
      · exact na w
      · exact (hfa a w).1 rfl
    · subst z; exact (hfa b h2).2 h1
  · refine Mu.upd ?_ (.inl ⟨_, rfl⟩)
    rcases List.mem_cons.mp hb with w | w
    · subst w; exact .inl ⟨xs, s _ _ h2⟩
    · rcases List.mem_append.mp w with w | w
      · exact (hmu b (List.mem_cons_of_mem _ w)).2.same s
      · exact n.mu b w
  · show b ∈ (if i ∈ M then [] else fps i) ∨ _
    rw [if_neg hi.2, h3]
    rcases List.mem_cons.mp hb with w | w
    · subst w; exact .inl List.mem_cons_self
    · rcases List.mem_append.mp w with w | w
      · exact .inl (List.mem_cons_of_mem _ w)
      · refine .inr ⟨?_, fun j => ?_⟩
        · rcases n.src b w with y | ⟨j, hj, y⟩
          · exact o.b0.free y
          · exact ((o.own j (hM j hj)).2 b y).1
        · show b ∉ (if j ∈ M then [] else fps j)
          split
          · exact List.not_mem_nil
          · rename_i hj
            intro z
            rcases n.src b w with y | ⟨j', hj', y⟩
            · exact o.dom z y
            · exact o.dj j' (hM j' hj') j (fun q => hj (by rw [q]; exact hj')) b y z
  · show ∀ b u, b ∉ (if i ∈ M then [] else fps i) → _
    rw [if_neg hi.2, h3]
    exact updKeep List.mem_cons_self
theorem Rfs.set {H : Hp} {x : D} {v : V} {fp : List Addr} (r : Rf K H x v fp) (nd : fp.Nodup) : ∀ {ds : List D} {xs : List V} {fq : List Addr} {j : Nat}, Rfs K H ds xs fq → fq.Nodup → (∀ a ∈ fp, a ∉ fq) → j < ds.length →
    ∃ fq', Rfs K H (ds.set j x) (xs.set j v) fq' ∧ fq'.Nodup ∧ ∀ a ∈ fq', a ∈ fq ∨ a ∈ fp
  | [], xs, fq, j, h, _, _, hj => by simp at hj
  | d :: ds, xs, fq, j, h, hn, hd, hj => by
    obtain ⟨y, ys, f1, f2, rfl, rfl, h1, h2⟩ := h
    obtain ⟨n1, n2, n3⟩ := List.nodup_append.mp hn
    cases j with
    | zero =>
      refine ⟨fp ++ f2, ⟨v, ys, fp, f2, rfl, rfl, r, h2⟩, List.nodup_append.mpr ⟨nd, n2, fun a ha b hb z => ?_⟩, fun a ha => ?_⟩
      · subst z; exact hd a ha (List.mem_append_right _ hb)
      · exact (List.mem_append.mp ha).elim .inr fun z => .inl (List.mem_append_right _ z)
    | succ j =>
      obtain ⟨fq', r', nd', k'⟩ := Rfs.set r nd (j := j) h2 n2 (fun a ha z => hd a ha (List.mem_append_right _ z)) (by simpa using hj)
      refine ⟨f1 ++ fq', ⟨y, ys.set j v, f1, fq', rfl, rfl, h1, r'⟩, List.nodup_append.mpr ⟨n1, nd', fun a ha b hb z => ?_⟩, fun a ha => ?_⟩
      · subst z
        rcases k' a hb with w | w
        · exact n3 a ha a w rfl
        · exact hd a w (List.mem_append_left _ ha)
      · rcases List.mem_append.mp ha with w | w
        · exact .inl (List.mem_append_left _ w)
        · exact (k' a w).imp (List.mem_append_right _) id
def vSetItem (i : Nat) (de dx : DE) (E : DEnds) (δ : Dl) : Prop := de δ fun x => slotL δ i fun ds => dx δ fun k => asI [k] fun n => match ixN ds.length n with | some j => E.nx (δ.set i (some (.lst (ds.set j x)))) | none => False
theorem ixN_lt {n : Nat} {i : Int} {j : Nat} (h : ixN n i = some j) : j < n := by
  unfold ixN at h
  split at h
  · split at h
    · cases h; omega
    · cases h
  · split at h
    · cases h; omega
    · cases h
theorem setItem_ok (o : Ok K B0 Γ fps δ σ H) {i j : Nat} (hi : i ∈ Γ) {ds : List D} {x : D} {v : V} {fp : List Addr} (e : δ[i]? = some (some (.lst ds))) (r : Rf K H x v fp) (nd : fp.Nodup) (mu : ∀ a ∈ fp, Mu H a) (src : ∀ a ∈ fp, B0 a = none ∧ ∀ j, a ∉ fps j) (hj : j < ds.length) :
    ∃ a xs, σ[i]? = some (some (.ref a)) ∧ H a = some (.lst xs) ∧ xs.length = ds.length ∧ ∃ fps', Ok K B0 Γ fps' (δ.set i (some (.lst (ds.set j x)))) σ (upd H a (.lst (xs.set j v))) := by
  obtain ⟨a, xs, fq, h1, h2, h3, h4⟩ := o.ownL e
  have hown := o.own i hi
  rw [h3] at hown
  obtain ⟨nd0, hmu⟩ := hown
  obtain ⟨na, ndq⟩ := List.nodup_cons.mp nd0
  have nt := (hmu a List.mem_cons_self).2.notup
  have hfq : ∀ b ∈ fp, b ∉ fps i := fun b hb => (src b hb).2 i
  rw [h3] at hfq
  obtain ⟨fq', r', nd', k'⟩ := Rfs.set r nd h4 ndq (fun b hb z => hfq b hb (List.mem_cons_of_mem _ z)) hj
  have naq : a ∉ fq' := fun z => (k' a z).elim na fun w => hfq a w List.mem_cons_self
  refine ⟨a, xs, h1, h2, h4.length, _, o.write hi (fp' := a :: fq') h1 ⟨a, xs.set j v, fq', rfl, upd_same, rfl, r'.upd naq nt⟩ (List.nodup_cons.mpr ⟨naq, nd'⟩) (fun b hb => Mu.upd ?_ (.inl ⟨_, rfl⟩)) (fun b hb => ?_) ?_⟩
  · rcases List.mem_cons.mp hb with w | w
    · subst w; exact .inl ⟨xs, h2⟩
    · rcases k' b w with w | w
      · exact (hmu b (List.mem_cons_of_mem _ w)).2
      · exact mu b w
  · rw [h3]
    rcases List.mem_cons.mp hb with w | w
    · subst w; exact .inl List.mem_cons_self
    · rcases k' b w with w | w
      · exact .inl (List.mem_cons_of_mem _ w)
      · exact .inr (src b w)
  · rw [h3]; exact updKeep List.mem_cons_self
theorem asI1_out {x : D} {P : Int → Prop} (h : asI [x] P) : ∃ j, x = .int j ∧ P j := by
  obtain ⟨j, e, h⟩ := asI_out h; cases e; exact ⟨j, rfl, h⟩
theorem Rfs.inner {H : Hp} : ∀ {ds : List D} {xs : List V} {fq : List Addr} {j : Nat} {es : List D}, Rfs K H ds xs fq → fq.Nodup → ds[j]? = some (.lst es) →
    ∃ b ys fe, xs[j]? = some (.ref b) ∧ H b = some (.lst ys) ∧ Rfs K H es ys fe ∧ b ∈ fq ∧ (∀ a ∈ fe, a ∈ fq) ∧ b ∉ fe ∧ fe.Nodup ∧
      ∀ {H' : Hp} {es' : List D} {ys' : List V} {fe' : List Addr}, (∀ c u, c ≠ b → H c = some u → H' c = some u) → H' b = some (.lst ys') → (∀ u, H b = some u → ¬ Im u) → Rfs K H' es' ys' fe' → fe'.Nodup → b ∉ fe' → (∀ a ∈ fe', a ∈ fe ∨ a ∉ fq) →
        ∃ fq', Rfs K H' (ds.set j (.lst es')) xs fq' ∧ fq'.Nodup ∧ ∀ a ∈ fq', a ∈ fq ∨ a ∈ fe'
  | [], xs, fq, j, es, h, _, e => by simp at e
  | d :: ds, xs, fq, j, es, h, hn, e => by
    obtain ⟨y, ys, f1, f2, rfl, rfl, h1, h2⟩ := h
    obtain ⟨n1, n2, n3⟩ := List.nodup_append.mp hn
    cases j with
    | zero =>
      simp at e; subst e
      obtain ⟨b, zs, fe, rfl, hb, rfl, h3⟩ := h1
      obtain ⟨m1, m2⟩ := List.nodup_cons.mp n1
      refine ⟨b, zs, fe, rfl, hb, h3, List.mem_append_left _ List.mem_cons_self, fun a ha => List.mem_append_left _ (List.mem_cons_of_mem _ ha), m1, m2, fun {H' es' ys' fe'} k1 k2 k3 k4 k5 k6 k7 => ?_⟩
      refine ⟨(b :: fe') ++ f2, ⟨_, ys, b :: fe', f2, rfl, rfl, ⟨b, ys', fe', rfl, k2, rfl, k4⟩, ?_⟩, List.nodup_append.mpr ⟨List.nodup_cons.mpr ⟨k6, k5⟩, n2, fun a ha c hc z => ?_⟩, fun a ha => ?_⟩
      · exact h2.mono (fun c hc u e => k1 c u (fun z => n3 b List.mem_cons_self c hc z.symm) e) fun c u e im => k1 c u (fun z => k3 u (by rw [← z]; exact e) im) e
      · subst z
        rcases List.mem_cons.mp ha with w | w
        · exact n3 a (by rw [w]; exact List.mem_cons_self) a hc rfl
        · rcases k7 a w with w | w
          · exact n3 a (List.mem_cons_of_mem _ w) a hc rfl
          · exact w (List.mem_append_right _ hc)
      · rcases List.mem_append.mp ha with w | w
        · rcases List.mem_cons.mp w with w | w
          · exact .inl (List.mem_append_left _ (by rw [w]; exact List.mem_cons_self))
          · exact .inr w
        · exact .inl (List.mem_append_right _ w)
    | succ j =>
      obtain ⟨b, zs, fe, e1, hb, h3, hbq, hfe, hbe, hnd, K'⟩ := Rfs.inner (j := j) h2 n2 (by simpa using e)
      refine ⟨b, zs, fe, by simpa using e1, hb, h3, List.mem_append_right _ hbq, fun a ha => List.mem_append_right _ (hfe a ha), hbe, hnd, fun {H' es' ys' fe'} k1 k2 k3 k4 k5 k6 k7 => ?_⟩
      obtain ⟨fq', r', nd', s'⟩ := K' k1 k2 k3 k4 k5 k6 fun a ha => (k7 a ha).imp id fun w z => w (List.mem_append_right _ z)
      have hy : Rf K H' d y f1 := h1.mono (fun c hc u e => k1 c u (fun z => n3 c hc b hbq z) e) fun c u e im => k1 c u (fun z => k3 u (by rw [← z]; exact e) im) e
      refine ⟨f1 ++ fq', ⟨y, ys, f1, fq', rfl, rfl, hy, r'⟩, List.nodup_append.mpr ⟨n1, nd', fun a ha c hc z => ?_⟩, fun a ha => ?_⟩
      · subst z
        rcases s' a hc with w | w
        · exact n3 a ha a w rfl
        · rcases k7 a w with w | w
          · exact n3 a ha a (hfe a w) rfl
          · exact w (List.mem_append_left _ ha)
      · rcases List.mem_append.mp ha with w | w
        · exact .inl (List.mem_append_left _ w)
        · exact (s' a w).imp (List.mem_append_right _) id
theorem inner_ok (o : Ok K B0 Γ fps δ σ H) {i j : Nat} (hi : i ∈ Γ) {ds es es' : List D} (e : δ[i]? = some (some (.lst ds))) (ej : ds[j]? = some (.lst es)) :
    ∃ a xs b ys fe, σ[i]? = some (some (.ref a)) ∧ H a = some (.lst xs) ∧ xs.length = ds.length ∧ xs[j]? = some (.ref b) ∧ H b = some (.lst ys) ∧ Rfs K H es ys fe ∧ fe.Nodup ∧ b ∉ fe ∧ (∀ a ∈ fe, a ∈ fps i) ∧ b ∈ fps i ∧
      ∀ {ys' : List V} {fe' : List Addr}, Rfs K H es' ys' fe' → fe'.Nodup → b ∉ fe' → (∀ c ∈ fe', Mu H c) → (∀ c ∈ fe', c ∈ fe ∨ (B0 c = none ∧ ∀ j, c ∉ fps j)) → ∃ fps', Ok K B0 Γ fps' (δ.set i (some (.lst (ds.set j (.lst es'))))) σ (upd H b (.lst ys')) := by
  obtain ⟨a, xs, fq, h1, h2, h3, h4⟩ := o.ownL e
  have hown := o.own i hi
  rw [h3] at hown
  obtain ⟨nd0, hmu⟩ := hown
  obtain ⟨na, ndq⟩ := List.nodup_cons.mp nd0
  obtain ⟨b, ys, fe, e1, hb, h5, hbq, hfe, hbe, hnd, K'⟩ := h4.inner ndq ej
  refine ⟨a, xs, b, ys, fe, h1, h2, h4.length, e1, hb, h5, hnd, hbe, fun c hc => by rw [h3]; exact List.mem_cons_of_mem _ (hfe c hc), by rw [h3]; exact List.mem_cons_of_mem _ hbq, fun {ys' fe'} r nd nb mu src => ?_⟩
  have nt := (hmu b (List.mem_cons_of_mem _ hbq)).2.notup
  have hab : a ≠ b := fun z => na (by rw [z]; exact hbq)
  obtain ⟨fq', r', nd', k'⟩ := K' (H' := upd H b (.lst ys')) (fun c u hc e => by rw [upd_ne hc]; exact e) upd_same nt (r.upd nb nt) nd nb fun c hc => (src c hc).imp id fun w z => w.2 i (by rw [h3]; exact List.mem_cons_of_mem _ z)
  have naq : a ∉ fq' := fun z => by
    rcases k' a z with w | w
    · exact na w
    · rcases src a w with w | w
      · exact na (hfe a w)
      · exact w.2 i (by rw [h3]; exact List.mem_cons_self)
  refine ⟨_, o.write hi (fp' := a :: fq') h1 ⟨a, xs, fq', rfl, by rw [upd_ne hab]; exact h2, rfl, r'⟩ (List.nodup_cons.mpr ⟨naq, nd'⟩) (fun c hc => Mu.upd ?_ (.inl ⟨_, rfl⟩)) (fun c hc => ?_) ?_⟩
  · rcases List.mem_cons.mp hc with w | w
    · subst w; exact .inl ⟨xs, h2⟩
    · rcases k' c w with w | w
      · exact (hmu c (List.mem_cons_of_mem _ w)).2
      · exact mu c w
  · rw [h3]
    rcases List.mem_cons.mp hc with w | w
    · subst w; exact .inl List.mem_cons_self
    · rcases k' c w with w | w
      · exact .inl (List.mem_cons_of_mem _ w)
      · rcases src c w with w | w
        · exact .inl (List.mem_cons_of_mem _ (hfe c w))
        · exact .inr w
  · rw [h3]; exact updKeep (List.mem_cons_of_mem _ hbq)
def asLst (o : Option D) (P : List D → Prop) : Prop := match o with | some (.lst es) => P es | _ => False
theorem asLst_out {o : Option D} {P : List D → Prop} (h : asLst o P) : ∃ es, o = some (.lst es) ∧ P es := by
  unfold asLst at h; split at h
  · exact ⟨_, rfl, h⟩
  · exact h.elim
def vSetItem2 (i : Nat) (de d1 d2 : DE) (E : DEnds) (δ : Dl) : Prop := de δ fun x => slotL δ i fun ds => d1 δ fun k => asI [k] fun m => asLst (atI ds m) fun es => d2 δ fun k2 => asI [k2] fun m2 => match ixN ds.length m, ixN es.length m2 with | some j, some j2 => E.nx (δ.set i (some (.lst (ds.set j (.lst (es.set j2 x)))))) | _, _ => False
def vClear (i : Nat) (E : DEnds) (δ : Dl) : Prop := slotL δ i fun _ => E.nx (δ.set i (some (.lst [])))
def cutD (ds : List D) (lo hi : Option Int) : List D := (ds.drop (HT.sIx ds.length 0 lo)).take (HT.sIx ds.length ds.length hi - HT.sIx ds.length 0 lo)
abbrev DO := Dl → (Option Int → Prop) → Prop
structure OR (K : PySem.W.Frag) (Γ : List Nat) (t : TO) (d : DO) : Prop where
  mono : ∀ δ (P P' : Option Int → Prop), (∀ x, P x → P' x) → d δ P → d δ P'
  run : ∀ {B0 fps δ σ H Q}, Ok K B0 Γ fps δ σ H → d δ (fun x => ∀ H', Same H H' → Q x H') → t σ H Q
def vNoPart (_u0 : Dl) (P : Option Int → Prop) : Prop := P none
def vPart (d : DE) (δ : Dl) (P : Option Int → Prop) : Prop := d δ fun x => asI [x] fun i => P (some i)
theorem or_none : OR K Γ tNoPart vNoPart := ⟨fun _ _ _ k h => k _ h, fun {_ _ _ _ H _} o q => q H (Same.refl H)⟩
theorem or_some (h : ER K Γ te de) : OR K Γ (tPart te) (vPart de) := ⟨fun δ P P' k q => h.mono _ _ _ (fun x z => by obtain ⟨j, rfl, z⟩ := asI1_out z; exact k _ z) q,
  fun o q => h.run o (h.mono _ _ _ (fun x z v H' s r => by obtain ⟨j, rfl, z⟩ := asI1_out z; exact ⟨j, r.int, z H' s⟩) q)⟩
def vSl (de : DE) (dl dh : DO) (δ : Dl) (P : DK) : Prop := de δ fun x => dl δ fun l => dh δ fun u => asL x fun ds => ds.all D.scal = true ∧ P (.lst (cutD ds l u))
theorem cut_map {ds : List D} {lo hi : Option Int} : cutV (ds.map D.toV) lo hi = (cutD ds lo hi).map D.toV := by
  unfold cutV cutD
  rw [List.length_map, List.map_take, List.map_drop]
theorem cut_scal {ds : List D} {lo hi : Option Int} (h : ds.all D.scal = true) : (cutD ds lo hi).all D.scal = true := by
  unfold cutD
  rw [List.all_eq_true] at h ⊢
  exact fun x hx => h x (List.mem_of_mem_drop (List.mem_of_mem_take hx))
theorem em_sl {tl th : TO} {dl dh : DO} (he : ER K Γ te de) (hl : OR K Γ tl dl) (hh : OR K Γ th dh) : EM K Γ [] (tSl (rSlL K) te tl th) (vSl de dl dh) :=
  ⟨fun δ P P' k h => he.mono _ _ _ (fun x z => hl.mono _ _ _ (fun l z => hh.mono _ _ _ (fun u z => by obtain ⟨ds, e, z⟩ := asL_out z; exact asL_in e ⟨z.1, k _ z.2⟩) z) z) h,
   fun {B0 fps δ σ H Q} o h => he.run o (he.mono _ _ _ (fun x z v H1 s1 r1 => hl.run (o.same s1) (hl.mono _ _ _ (fun l z H2 s2 => hh.run ((o.same s1).same s2) (hh.mono _ _ _ (fun u z H3 s3 => by
    obtain ⟨ds, e, z⟩ := asL_out z
    obtain ⟨a, xs, fq, rfl, hs, hr⟩ := (r1.same (s2.trans s3)).seq e
    obtain ⟨rfl, rfl⟩ := hr.scals z.1
    refine ⟨a, _, rfl, hs, fun p hp => ?_⟩
    rw [cut_map]
    have s4 : Same H3 (upd H3 p (.lst ((cutD ds l u).map D.toV))) := Same.new' hp
    refine z.2 _ _ [p] (((s1.trans s2).trans s3).trans s4) ⟨p, _, [], rfl, upd_same, rfl, Rfs.ofScals (cut_scal z.1)⟩ ⟨by simp, fun b hb => ?_, fun b hb => ?_⟩
    · cases List.mem_singleton.mp hb; exact .inl ⟨_, upd_same⟩
    · cases List.mem_singleton.mp hb; exact .inl (((s1.trans s2).trans s3).free hp)) z)) z)) h)⟩
def vCat (x : D) (y : D) (P : DK) : Prop := match x, y with | .lst a, .lst b => (a.all D.scal = true ∧ b.all D.scal = true ∧ a.length + b.length ≤ 1000) ∧ P (.lst (a ++ b)) | _, _ => False
theorem new1 {H : Hp} {p : Addr} {ds : List D} (h : ds.all D.scal = true) (hp : H p = none) : Same H (upd H p (.lst (ds.map D.toV))) ∧ Rf K (upd H p (.lst (ds.map D.toV))) (.lst ds) (.ref p) [p] ∧ Nw H (upd H p (.lst (ds.map D.toV))) nf [] [p] :=
  ⟨Same.new' hp, ⟨p, _, [], rfl, upd_same, rfl, Rfs.ofScals h⟩, ⟨by simp, fun b hb => by cases List.mem_singleton.mp hb; exact .inl ⟨_, upd_same⟩, fun b hb => by cases List.mem_singleton.mp hb; exact .inl hp⟩⟩
theorem o_cat : OpV K rCat vCat := ⟨fun x y P P' k h => by unfold vCat at h ⊢; revert h; split <;> first | exact fun h => ⟨h.1, k _ h.2⟩ | exact id, fun {H x y v w Q} r1 r2 h => by
  unfold vCat at h
  split at h
  · rename_i a b
    obtain ⟨⟨s1, s2, hl⟩, h⟩ := h
    obtain ⟨f1, l1, xs, q1, rfl, e1, _, hr1⟩ := r1
    obtain ⟨f2, l2, ys, q2, rfl, e2, _, hr2⟩ := r2
    obtain ⟨rfl, _⟩ := hr1.scals s1
    obtain ⟨rfl, _⟩ := hr2.scals s2
    refine ⟨l1, l2, _, _, rfl, rfl, e1, e2, by rw [List.length_map, List.length_map]; exact le1000 hl, fun p hp => ?_⟩
    rw [← List.map_append]
    obtain ⟨n1, n2, n3⟩ := new1 (K := K) (ds := a ++ b) (by rw [List.all_append, s1, s2]; rfl) hp
    exact h _ _ _ n1 n2 n3
  · exact h.elim⟩
def repD (xs : List D) (k : Nat) : List D := (List.replicate k xs).flatten
def vRep (x : D) (y : D) (P : DK) : Prop := match x, y with | .lst a, .int k => (a.all D.scal = true ∧ (-(2 ^ 63) ≤ k ∧ k < 2 ^ 63) ∧ a.length * k.toNat ≤ 1000) ∧ P (.lst (repD a k.toNat)) | _, _ => False
theorem o_rep : OpV K rRep vRep := ⟨fun x y P P' k h => by unfold vRep at h ⊢; revert h; split <;> first | exact fun h => ⟨h.1, k _ h.2⟩ | exact id, fun {H x y v w Q} r1 r2 h => by
  unfold vRep at h
  split at h
  · rename_i a n
    obtain ⟨⟨s1, ⟨b1, b2⟩, hl⟩, h⟩ := h
    obtain ⟨f1, l1, xs, q1, rfl, e1, _, hr1⟩ := r1
    obtain ⟨rfl, _⟩ := hr1.scals s1
    refine ⟨l1, n, _, rfl, r2.int, e1, b1, b2, by rw [List.length_map]; exact le1000 hl, fun p hp => ?_⟩
    have : (List.replicate n.toNat (a.map D.toV)).flatten = (repD a n.toNat).map D.toV := by unfold repD; rw [List.map_flatten, List.map_replicate]
    rw [this]
    obtain ⟨n1, n2, n3⟩ := new1 (K := K) (ds := repD a n.toNat) (by
      rw [List.all_eq_true] at s1 ⊢
      intro x hx
      unfold repD at hx
      obtain ⟨l, h1, h2⟩ := List.mem_flatten.mp hx
      rw [(List.mem_replicate.mp h1).2] at h2
      exact s1 x h2) hp
    exact h _ _ _ n1 n2 n3
  · exact h.elim⟩
def inD (x : D) (ds : List D) : Bool := inV x.toV (ds.map D.toV)
def vIn (neg : Bool) (x : D) (y : D) (P : DK) : Prop := x.scal = true ∧ asL y fun ds => ds.all D.scal = true ∧ P (.bl (if neg then !inD x ds else inD x ds))
theorem flat_scal {d : D} (h : d.scal = true) : flatV d.toV = true := by cases d <;> first | rfl | cases h
theorem o_in {neg : Bool} : OpV K (rIn K neg) (vIn neg) := ⟨fun x y P P' k h => ⟨h.1, by obtain ⟨ds, e, z⟩ := asL_out h.2; exact asL_in e ⟨z.1, k _ z.2⟩⟩, fun {H x y v w Q} r1 r2 h => by
  obtain ⟨hx, h⟩ := h
  obtain ⟨ds, e, hs, h⟩ := asL_out h
  obtain ⟨f1, r1⟩ := r1
  obtain ⟨rfl, _⟩ := r1.scal hx
  obtain ⟨a, xs, fq, rfl, hsq, hr⟩ := r2.seq e
  obtain ⟨rfl, _⟩ := hr.scals hs
  refine ⟨a, _, rfl, .inl hsq, flat_scal hx, ?_, h _ H [] (Same.refl H) ⟨rfl, rfl⟩ Nw.nil⟩
  rw [List.all_map, List.all_eq_true]
  rw [List.all_eq_true] at hs
  exact fun y hy => flat_scal (hs y hy)⟩
def vLen (xs : List D) (P : DK) : Prop := match xs with | [x] => (match x with | .tup ds => P (.int ds.length) | x => asL x fun ds => P (.int ds.length)) | _ => False
theorem Rps.one {H : Hp} {x : D} {vs : List V} (h : Rps K H [x] vs) : ∃ v, vs = [v] ∧ Rp K H x v := by
  obtain ⟨fp, y, r, f1, f2, rfl, _, h1, ⟨rfl, _⟩⟩ := h
  exact ⟨y, rfl, f1, h1⟩
theorem c_len : CallV K (fun xs H Q => ∃ p ys, xs = [.ref p] ∧ (SqL K H p ys ∨ SqT K H p ys) ∧ Q (.int ys.length) H) vLen := ⟨fun xs P P' k h => by
    unfold vLen at h ⊢
    revert h
    split
    · split
      · exact fun h => k _ h
      · exact fun h => by obtain ⟨ds, e, z⟩ := asL_out h; exact asL_in e (k _ z)
    · exact id,
  fun {H xs vs Q} r h => by
    unfold vLen at h
    split at h
    · obtain ⟨v, rfl, r0⟩ := r.one
      split at h
      · obtain ⟨a, ys, fq, rfl, hs, hr⟩ := r0.tup
        refine ⟨a, ys, rfl, .inr hs, ?_⟩
        rw [hr.length]
        exact h _ H [] (Same.refl H) ⟨rfl, rfl⟩ Nw.nil
      · obtain ⟨ds, e, h⟩ := asL_out h
        obtain ⟨a, ys, fq, rfl, hs, hr⟩ := r0.seq e
        refine ⟨a, ys, rfl, .inl hs, ?_⟩
        rw [hr.length]
        exact h _ H [] (Same.refl H) ⟨rfl, rfl⟩ Nw.nil
    · exact h.elim⟩
theorem vLen_lst {ds : List D} {P : DK} : vLen [.lst ds] P ↔ P (.int ds.length) := Iff.rfl
theorem vLen_scr {ds : List Int} {P : DK} : vLen [.scr ds] P ↔ P (.int ds.length) := by
  show P (.int ((ds.map D.int).length : Nat)) ↔ _
  rw [List.length_map]
def toInts : List D → Option (List Int)
  | [] => some []
  | .int i :: ds => (toInts ds).map (i :: ·)
  | _ => none
theorem toInts_map : ∀ {ns : List Int}, toInts (ns.map D.int) = some ns
  | [] => rfl
  | n :: ns => by rw [List.map_cons, toInts, toInts_map]; rfl
theorem toInts_eq : ∀ {ds : List D} {ns : List Int}, toInts ds = some ns → ds = ns.map D.int
  | [], ns, h => by cases h; rfl
  | .int i :: ds, ns, h => by
    rw [toInts] at h
    cases e : toInts ds with
    | none => rw [e] at h; cases h
    | some ms => rw [e] at h; cases h; rw [toInts_eq e]; rfl
  | .non :: _, _, h => by cases h
  | .bl _ :: _, _, h => by cases h
  | .str _ :: _, _, h => by cases h
  | .lst _ :: _, _, h => by cases h
  | .tup _ :: _, _, h => by cases h
  | .dic _ :: _, _, h => by cases h
  | .dit _ :: _, _, h => by cases h
  | .scr _ :: _, _, h => by cases h
theorem Rfs.intsV {H : Hp} {ns : List Int} {vs : List V} {fp : List Addr} (h : Rfs K H (ns.map D.int) vs fp) : vs = ns.map V.int := by
  have hs : (ns.map D.int).all D.scal = true := by rw [List.all_map, List.all_eq_true]; exact fun _ _ => rfl
  rw [(h.scals hs).1, List.map_map]
  rfl
def asNs (x : D) (P : List Int → Prop) : Prop := asL x fun ds => match toInts ds with | some ns => P ns | none => False
theorem asNs_out {x : D} {P : List Int → Prop} (h : asNs x P) : ∃ ns, x.items = some (ns.map D.int) ∧ P ns := by
  obtain ⟨ds, e, h⟩ := asL_out h
  cases q : toInts ds with
  | none => rw [q] at h; exact h.elim
  | some ns => rw [q] at h; rw [toInts_eq q] at e; exact ⟨ns, e, h⟩
theorem asNs_in {x : D} {ns : List Int} {P : List Int → Prop} (e : x.items = some (ns.map D.int)) (h : P ns) : asNs x P := by
  refine asL_in e ?_
  rw [toInts_map]; exact h
def vSum (xs : List D) (P : DK) : Prop := match xs with | [x] => asNs x fun ns => P (.int ns.sum) | _ => False
theorem c_sum : CallV K (fun xs H Q => ∃ (a : Addr) (ns : List Int), xs = [.ref a] ∧ SqL K H a (ns.map V.int) ∧ Q (.int ns.sum) H) vSum := ⟨fun xs P P' k h => by
    unfold vSum at h ⊢
    revert h
    split
    · exact fun h => by obtain ⟨ns, e, z⟩ := asNs_out h; exact asNs_in e (k _ z)
    · exact id,
  fun {H xs vs Q} r h => by
    unfold vSum at h
    split at h
    · obtain ⟨v, rfl, r0⟩ := r.one
      obtain ⟨ns, e, h⟩ := asNs_out h
      obtain ⟨a, ys, fq, rfl, hs, hr⟩ := r0.seq e
      rw [hr.intsV] at hs
      exact ⟨a, ns, rfl, hs, h _ H [] (Same.refl H) ⟨rfl, rfl⟩ Nw.nil⟩
    · exact h.elim⟩
def vList (xs : List D) (P : DK) : Prop := match xs with | [x] => asL x fun ds => ds.all D.scal = true ∧ P (.lst ds) | _ => False
theorem c_list : CallV K (fun xs H Q => ∃ p ys, xs = [.ref p] ∧ (SqL K H p ys ∨ SqT K H p ys) ∧ ∀ l, H l = none → Q (.ref l) (upd H l (.lst ys))) vList := ⟨fun xs P P' k h => by
    unfold vList at h ⊢
    revert h
    split
    · exact fun h => by obtain ⟨ds, e, z⟩ := asL_out h; exact asL_in e ⟨z.1, k _ z.2⟩
    · exact id,
  fun {H xs vs Q} r h => by
    unfold vList at h
    split at h
    · obtain ⟨v, rfl, r0⟩ := r.one
      obtain ⟨ds, e, hsc, h⟩ := asL_out h
      obtain ⟨a, ys, fq, rfl, hs, hr⟩ := r0.seq e
      obtain ⟨rfl, _⟩ := hr.scals hsc
      refine ⟨a, _, rfl, .inl hs, fun l hl => ?_⟩
      obtain ⟨n1, n2, n3⟩ := new1 (K := K) hsc hl
      exact h _ _ _ n1 n2 n3
    · exact h.elim⟩
end
end L3
set_option Elab.async false
set_option linter.all false
set_option maxRecDepth 100000
set_option maxHeartbeats 4000000
namespace L3
open PySem L2
open PyProof.Rows (Ordered)
section
variable {K : PySem.W.Frag} {Γ M : List Nat} {te ta tb : TE} {de da db : DE}
theorem em_comp0 {wi : TI} {di : DI} {g : TG} {dg : D → Dl → (Dl → Prop) → Prop} {k : Nat} {idx : List Nat} (hi : IT K [] wi di) (hg : GT K [] g dg) (he : EM K [] [] te de) : EM K Γ [] (tComp0 wi g te k idx) (vComp di dg vYes de k idx) := by
  rw [tComp0_eq]; exact em_comp hi hg tr_yes he
def D.tyn : D → Option String
  | .non => some "NoneType" | .bl _ => some "bool" | .int _ => some "int" | .str _ => some "str" | .lst _ => some "list" | .tup _ => some "tuple" | .dic _ => some "dict" | .dit _ => some "dict" | .scr _ => none | .pin _ _ => none | .ins _ _ _ => none
def isB (m n : String) : Bool := m == n || (m == "bool" && n == "int")
def vIs (n : String) (da : DE) (δ : Dl) (P : DK) : Prop := da δ fun x => match x.tyn with | some m => P (.bl (isB m n)) | none => False
mutual
def D.old : D → Option L2.D
  | .non => some .non | .bl b => some (.bl b) | .int i => some (.int i) | .str x => some (.str x)
  | .lst ds => (D.olds ds).map L2.D.lst | .tup ds => (D.olds ds).map L2.D.tup
  | .dic _ => none | .dit _ => none | .scr _ => none | .pin _ _ => none | .ins _ _ _ => none
def D.olds : List D → Option (List L2.D)
  | [] => some []
  | d :: ds => match D.old d, D.olds ds with | some x, some xs => some (x :: xs) | _, _ => none
end
mutual
theorem Rf.old {H : Hp} : ∀ {d : D} {d' : L2.D} {v : V} {fp : List Addr}, Rf K H d v fp → d.old = some d' → L2.Rf H d' v fp
  | .non, d', v, fp, h, e => by rw [D.old] at e; cases e; rw [L2.Rf]; exact h
  | .bl _, d', v, fp, h, e => by rw [D.old] at e; cases e; rw [L2.Rf]; exact h
  | .int _, d', v, fp, h, e => by rw [D.old] at e; cases e; rw [L2.Rf]; exact h
  | .str _, d', v, fp, h, e => by rw [D.old] at e; cases e; rw [L2.Rf]; exact h
  | .lst ds, d', v, fp, h, e => by
    rw [D.old] at e
    cases q : D.olds ds with
    | none => rw [q] at e; cases e
    | some es =>
      rw [q] at e; cases e
      obtain ⟨a, xs, fq, e1, e2, e3, h⟩ := h
      rw [L2.Rf]
      exact ⟨a, xs, fq, e1, e2, e3, Rfs.old h q⟩
  | .tup ds, d', v, fp, h, e => by
    rw [D.old] at e
    cases q : D.olds ds with
    | none => rw [q] at e; cases e
    | some es =>
      rw [q] at e; cases e
      obtain ⟨a, xs, e1, e2, h⟩ := h
      rw [L2.Rf]
      exact ⟨a, xs, e1, e2, Rfs.old h q⟩
  | .dic _, d', v, fp, h, e => by rw [D.old] at e; cases e
  | .dit _, d', v, fp, h, e => by rw [D.old] at e; cases e
  | .scr _, d', v, fp, h, e => by rw [D.old] at e; cases e
  | .pin _ _, d', v, fp, h, e => by rw [D.old] at e; cases e
  | .ins _ _ _, d', v, fp, h, e => by rw [D.old] at e; cases e
theorem Rfs.old {H : Hp} : ∀ {ds : List D} {ds' : List L2.D} {vs : List V} {fp : List Addr}, Rfs K H ds vs fp → D.olds ds = some ds' → L2.Rfs H ds' vs fp
  | [], ds', vs, fp, h, e => by rw [D.olds] at e; cases e; rw [L2.Rfs]; exact h
  | d :: ds, ds', vs, fp, h, e => by
    rw [D.olds] at e
    obtain ⟨x, r, f1, f2, e1, e2, h1, h2⟩ := h
    cases q1 : d.old with
    | none => rw [q1] at e; simp at e
    | some x' =>
      cases q2 : D.olds ds with
      | none => rw [q1, q2] at e; simp at e
      | some xs' =>
        rw [q1, q2] at e
        cases e
        rw [L2.Rfs]
        exact ⟨x, r, f1, f2, e1, e2, Rf.old h1 q1, Rfs.old h2 q2⟩
end
abbrev dI (xs : List Int) : D := .lst (xs.map D.int)
abbrev dT (t : List (List Int)) : D := .lst (t.map dI)
def vEqL (neg : Bool) (x : D) (y : D) (P : DK) : Prop := ∃ a b, x.old = some (.lst a) ∧ y.old = some (.lst b) ∧ L2.D.plains a = true ∧ L2.D.plains b = true ∧ L2.D.depths a ≤ 60 ∧ P (.bl (if neg then !L2.D.eqbs a b else L2.D.eqbs a b))
theorem vEqL_run {neg : Bool} : OpV K (rEqD neg) (vEqL neg) := ⟨fun x y P P' k h => by
    obtain ⟨a, b, h1, h2, h3, h4, h5, h⟩ := h
    exact ⟨a, b, h1, h2, h3, h4, h5, k _ h⟩,
  fun {H x y v w Q} ⟨f1, r1⟩ ⟨f2, r2⟩ h => by
    obtain ⟨a, b, h1, h2, h3, h4, h5, h⟩ := h
    exact ⟨a, b, ⟨f1, r1.old h1⟩, ⟨f2, r2.old h2⟩, h3, h4, h5, h _ H [] (Same.refl H) ⟨rfl, rfl⟩ Nw.nil⟩⟩
theorem o_eqL : OpV K (rEqD false) (vEqL false) := vEqL_run
theorem o_neL : OpV K (rEqD true) (vEqL true) := vEqL_run
theorem olds_ints : ∀ {ns : List Int}, D.olds (ns.map D.int) = some (ns.map L2.D.int)
  | [] => by rw [List.map_nil, D.olds]; rfl
  | n :: ns => by rw [List.map_cons, D.olds, olds_ints, D.old]; rfl
theorem old_dI {ns : List Int} : (dI ns).old = some (L2.dI ns) := by rw [D.old, olds_ints]; rfl
theorem olds_rows : ∀ {t : List (List Int)}, D.olds (t.map dI) = some (t.map L2.dI)
  | [] => by rw [List.map_nil, D.olds]; rfl
  | n :: ns => by rw [List.map_cons, D.olds, olds_rows, old_dI]; rfl
theorem old_dT {t : List (List Int)} : (dT t).old = some (L2.dT t) := by rw [D.old, olds_rows]; rfl
theorem vEqL_ints {neg : Bool} {xs ys : List Int} {P : DK} (h : P (.bl (if neg then !decide (xs = ys) else decide (xs = ys)))) : vEqL neg (dI xs) (dI ys) P :=
  ⟨_, _, old_dI, old_dI, D.plains_ints _, D.plains_ints _, by rw [D.depths_ints]; omega, by rw [D.eqbs_ints]; exact h⟩
theorem vEqL_rows {neg : Bool} {xs ys : List (List Int)} {P : DK} (h : P (.bl (if neg then !decide (xs = ys) else decide (xs = ys)))) : vEqL neg (dT xs) (dT ys) P :=
  ⟨_, _, old_dT, old_dT, D.plains_rows _, D.plains_rows _, Nat.le_trans (D.depths_rows _) (by omega), by rw [D.eqbs_rows]; exact h⟩
def vSorted (b : Bool) (xs : List D) (P : DK) : Prop := match xs with | [x] => asNs x fun ns => ns.length < 64 ∧ ∀ ms : List Int, ms.Perm ns → Ordered b ms → P (dI ms) | _ => False
theorem Rf.ofInts {H : Hp} {p : Addr} {ms : List Int} (e : H p = some (.lst (ms.map V.int))) : Rf K H (dI ms) (.ref p) [p] := ⟨p, _, [], rfl, e, rfl, Rfs.ofInts⟩
theorem Nw.one {H H' : Hp} {p : Addr} {xs : List V} (h : H p = none) (e : H' p = some (.lst xs)) : Nw H H' nf [] [p] := ⟨by simp, fun b hb => by cases List.mem_singleton.mp hb; exact .inl ⟨_, e⟩, fun b hb => by cases List.mem_singleton.mp hb; exact .inl h⟩
def vRev (da : DE) (δ : Dl) (P : DK) : Prop := da δ fun x => asL x fun ds => ds.all D.scal = true ∧ P (.lst ds.reverse)
def vAbs (xs : List D) (P : DK) : Prop := asI xs fun i => P (.int (if i < 0 then -i else i))
def vMax2 (xs : List D) (P : DK) : Prop := asII xs fun i j => P (.int (if j > i then j else i))
def vMin2 (xs : List D) (P : DK) : Prop := asII xs fun i j => P (.int (if j < i then j else i))
def D.isNon : D → Bool | .non => true | _ => false
theorem Rp.non_iff {H : Hp} {d : D} {v : V} (h : Rp K H d v) : decide (v = .non) = d.isNon := by
  obtain ⟨fp, h⟩ := h
  cases d with
  | non => obtain ⟨rfl, _⟩ := h; rfl
  | bl b => obtain ⟨rfl, _⟩ := h; rfl
  | int b => obtain ⟨rfl, _⟩ := h; rfl
  | str b => obtain ⟨rfl, _⟩ := h; rfl
  | lst ds => obtain ⟨a, xs, fq, rfl, _⟩ := h; rfl
  | tup ds => obtain ⟨a, xs, rfl, _⟩ := h; rfl
  | dic ds => obtain ⟨a, rfl, _⟩ := h; rfl
  | dit ds => obtain ⟨a, rfl, _⟩ := h; rfl
  | scr ns => obtain ⟨a, rfl, _⟩ := h; rfl
  | pin a d => obtain ⟨rfl, _⟩ := h; rfl
  | ins C ns ds => obtain ⟨a, dx, xs, fq, rfl, _⟩ := h; rfl
def vIsN (neg : Bool) (x : D) (y : D) (P : DK) : Prop := match y with | .non => P (.bl (if neg then !x.isNon else x.isNon)) | _ => False
theorem vIsN_mono {neg : Bool} : ∀ x y (P P' : DK), (∀ z, P z → P' z) → vIsN neg x y P → vIsN neg x y P' := fun x y P P' k h => by
  unfold vIsN at h ⊢; revert h; split <;> first | exact k _ | exact id
theorem o_notN : OpV K (fun x y H Q => y = .non ∧ Q (.bl (!decide (x = .non))) H) (vIsN true) := ⟨vIsN_mono, fun {H x y v w Q} r1 r2 h => by
  unfold vIsN at h
  split at h
  · refine ⟨r2.choose_spec.1, ?_⟩
    rw [r1.non_iff]; exact h _ H [] (Same.refl H) ⟨rfl, rfl⟩ Nw.nil
  · exact h.elim⟩
end
theorem spP_len {K : PySem.W.Frag} {S : DSp} {n : Nat} (hS : ∀ ds P, S ds P → ds.length = n) {vs : List V} {H : Hp} {Q : VK} {E : XK} (h : spP K S vs H Q E) : vs.length = n := by
  obtain ⟨ds, ⟨fp, r⟩, h⟩ := h
  rw [r.length]; exact hS _ _ h
theorem spR_len {K : PySem.W.Frag} {S : DSp} {n : Nat} (hS : ∀ ds P, S ds P → ds.length = n) {vs : List V} {H : Hp} {Q : VK} {E : XK} (h : spR K S vs H Q E) : vs.length = n := by
  obtain ⟨ds, ⟨fp, r⟩, h⟩ := h
  rw [r.length]; exact hS _ _ h
theorem loop_inv {dg : D → Dl → (Dl → Prop) → Prop} {db : DS} {E : DEnds} (I : Nat → Dl → Prop) {ds : List D} {δ : Dl} (h0 : I 0 δ)
    (hs : ∀ i d δ (N : Dl → Prop), ds[i]? = some d → I i δ → (∀ δ', I (i + 1) δ' → N δ') → dg d δ fun δ' => db { nx := N, ct := N, bk := E.nx, rt := E.rt } δ')
    (hd : ∀ δ, I ds.length δ → E.nx δ) : vLoop dg db E ds δ := by
  have key : ∀ (n : Nat) (i : Nat) (δ : Dl), ds.length - i = n → i ≤ ds.length → I i δ → vLoop dg db E (ds.drop i) δ := by
    intro n
    induction n with
    | zero =>
      intro i δ h1 h2 hI
      have : i = ds.length := by omega
      subst this
      rw [List.drop_length]
      exact hd δ hI
    | succ n ih =>
      intro i δ h1 h2 hI
      have hlt : i < ds.length := by omega
      rw [List.drop_eq_getElem_cons hlt]
      exact hs i _ δ _ (List.getElem?_eq_getElem hlt) hI fun δ' h' => ih (i + 1) δ' (by omega) hlt h'
  have := key ds.length 0 δ (by omega) (Nat.zero_le _) h0
  rwa [List.drop_zero] at this
end L3
namespace L3
open PySem L2
theorem sc_of {K : PySem.W.Frag} {H : Hp} {a : Addr} {xs : List V} (hO : Only H) (h : SqL K H a xs) : Sc K H a xs := by
  rcases h with (h | h) | h
  · rcases hO a with z | ⟨o, ys, z⟩
    · rw [z] at h; cases h
    · rw [z] at h; cases h
  · exact .inl h
  · exact .inr h
end L3
set_option Elab.async false
set_option linter.all false
set_option maxRecDepth 100000
set_option maxHeartbeats 4000000
namespace L3
open PySem
open L2 hiding D Rf Rfs Rp dI dT
section
variable {di : DI} {dg : D → Dl → (Dl → Prop) → Prop} {dt : DT} {de : DE} {k : Nat} {idx : List Nat} {δ : Dl} {P : DK}
theorem comp_any {α : Type} {as : List α} {f : α → D} {p : α → Bool} {g : α → D} (hdi : ∀ R : List D → Prop, R (as.map f) → di δ R) (hl : as.length ≤ 1000)
    (hb : ∀ a ∈ as, ∀ R : List D → Prop, R (if p a then [g a] else []) → vBody dg dt de (cbaseD k idx δ) (f a) R) (h : P (.lst ((as.filter p).map g))) : vComp di dg dt de k idx δ P := by
  refine hdi _ ⟨by rw [List.length_map]; exact hl, ?_⟩
  have key : ∀ (as : List α) (acc : List D), (∀ a ∈ as, ∀ R : List D → Prop, R (if p a then [g a] else []) → vBody dg dt de (cbaseD k idx δ) (f a) R) → P (.lst (acc ++ (as.filter p).map g)) → vEach (vBody dg dt de (cbaseD k idx δ)) (as.map f) acc fun ys => P (.lst ys) := by
    intro as
    induction as with
    | nil => intro acc _ h; rw [List.filter_nil, List.map_nil, List.append_nil] at h; exact h
    | cons a as ih =>
      intro acc hb h
      refine hb a List.mem_cons_self _ (ih _ (fun x hx => hb x (List.mem_cons_of_mem _ hx)) ?_)
      by_cases hp : p a = true
      · rw [if_pos hp, List.append_assoc]; rwa [List.filter_cons_of_pos hp] at h
      · rw [if_neg hp, List.append_nil]; rwa [List.filter_cons_of_neg hp] at h
  exact key as [] hb h
theorem comp_all {α : Type} {as : List α} {f : α → D} {g : α → D} (hdi : ∀ R : List D → Prop, R (as.map f) → di δ R) (hl : as.length ≤ 1000)
    (hb : ∀ a ∈ as, ∀ R : List D → Prop, R [g a] → vBody dg dt de (cbaseD k idx δ) (f a) R) (h : P (.lst (as.map g))) : vComp di dg dt de k idx δ P := by
  refine comp_any (p := fun _ => true) hdi hl (fun a ha R h => hb a ha R h) ?_
  rw [List.filter_eq_self.mpr (fun _ _ => rfl)]
  exact h
theorem comp_ints {ns : List Int} {g : Int → D} (hdi : ∀ R : List D → Prop, R (ns.map D.int) → di δ R) (hl : ns.length ≤ 1000)
    (hb : ∀ n ∈ ns, ∀ R : List D → Prop, R [g n] → vBody dg dt de (cbaseD k idx δ) (.int n) R) (h : P (.lst (ns.map g))) : vComp di dg dt de k idx δ P := comp_all hdi hl hb h
theorem comp_rng {lo : Int} {n : Nat} {g : Nat → D} (hdi : ∀ R : List D → Prop, R (intsD lo n) → di δ R) (hl : n ≤ 1000)
    (hb : ∀ i, i < n → ∀ R : List D → Prop, R [g i] → vBody dg dt de (cbaseD k idx δ) (.int (lo + (i : Int))) R) (h : P (.lst ((List.range n).map g))) : vComp di dg dt de k idx δ P :=
  comp_all (as := List.range n) (f := fun (k : Nat) => D.int (lo + (k : Int))) hdi (by rw [List.length_range]; exact hl) (fun a ha => hb a (List.mem_range.mp ha)) h
theorem comp_rngF {lo : Int} {n : Nat} {p : Nat → Bool} {g : Nat → D} (hdi : ∀ R : List D → Prop, R (intsD lo n) → di δ R) (hl : n ≤ 1000)
    (hb : ∀ i, i < n → ∀ R : List D → Prop, R (if p i then [g i] else []) → vBody dg dt de (cbaseD k idx δ) (.int (lo + (i : Int))) R) (h : P (.lst (((List.range n).filter p).map g))) : vComp di dg dt de k idx δ P :=
  comp_any (as := List.range n) (f := fun (k : Nat) => D.int (lo + (k : Int))) hdi (by rw [List.length_range]; exact hl) (fun a ha => hb a (List.mem_range.mp ha)) h
theorem comp_rows {t : List (List Int)} {g : List Int → D} (hdi : ∀ R : List D → Prop, R (t.map dI) → di δ R) (hl : t.length ≤ 1000)
    (hb : ∀ r ∈ t, ∀ R : List D → Prop, R [g r] → vBody dg dt de (cbaseD k idx δ) (dI r) R) (h : P (.lst (t.map g))) : vComp di dg dt de k idx δ P := comp_all hdi hl hb h
variable {db : DS} {E : DEnds}
theorem loop_any {α : Type} {as : List α} {f : α → D} (I : Nat → Dl → Prop) (h0 : I 0 δ)
    (hs : ∀ i a δ (N : Dl → Prop), as[i]? = some a → I i δ → (∀ δ', I (i + 1) δ' → N δ') → dg (f a) δ fun δ' => db { nx := N, ct := N, bk := E.nx, rt := E.rt } δ')
    (hd : ∀ δ, I as.length δ → E.nx δ) : vLoop dg db E (as.map f) δ := by
  refine loop_inv I h0 (fun i d δ N e hI hN => ?_) (fun δ hI => hd δ (by rwa [List.length_map] at hI))
  rw [List.getElem?_map] at e
  cases q : as[i]? with
  | none => rw [q] at e; cases e
  | some a => rw [q] at e; cases e; exact hs i a δ N q hI hN
theorem loop_rng {lo : Int} {n : Nat} (I : Nat → Dl → Prop) (h0 : I 0 δ)
    (hs : ∀ i δ (N : Dl → Prop), i < n → I i δ → (∀ δ', I (i + 1) δ' → N δ') → dg (.int (lo + (i : Int))) δ fun δ' => db { nx := N, ct := N, bk := E.nx, rt := E.rt } δ')
    (hd : ∀ δ, I n δ → E.nx δ) : vLoop dg db E (intsD lo n) δ := by
  refine loop_any (as := List.range n) (f := fun (k : Nat) => D.int (lo + (k : Int))) I h0 (fun i a δ N e hI hN => ?_) (fun δ hI => hd δ (by rwa [List.length_range] at hI))
  obtain ⟨h1, h2⟩ := List.getElem?_eq_some_iff.mp e
  rw [List.getElem_range] at h2
  subst h2
  exact hs i δ N (by simpa using h1) hI hN
end
theorem at_dI {ns : List Int} {i : Int} (h0 : 0 ≤ i) (h : i < ns.length) : atI (ns.map D.int) i = some (.int (ns.getD i.toNat 0)) := by
  unfold atI ixN
  rw [if_pos h0, List.length_map, if_pos h]
  show (ns.map D.int)[i.toNat]? = _
  rw [List.getElem?_map, List.getD_eq_getElem?_getD]
  have : i.toNat < ns.length := by omega
  rw [List.getElem?_eq_getElem this]
  rfl
theorem scal_ints {ns : List Int} : (ns.map D.int).all D.scal = true := by rw [List.all_map, List.all_eq_true]; exact fun _ _ => rfl
theorem ixN_nat {n : Nat} {i : Int} (h0 : 0 ≤ i) (h : i < n) : ixN n i = some i.toNat := by unfold ixN; rw [if_pos h0, if_pos h]
theorem set_dI {ns : List Int} {j : Nat} {v : Int} : (ns.map D.int).set j (.int v) = (ns.set j v).map D.int := (List.map_set ..).symm
theorem snoc_dI {ns : List Int} {v : Int} : ns.map D.int ++ [.int v] = (ns ++ [v]).map D.int := by simp
theorem emod_lt {x n : Int} (h : 0 < n) : 0 ≤ x % n ∧ x % n < n := ⟨Int.emod_nonneg x (by omega), Int.emod_lt_of_pos x h⟩
theorem cut_ints {ns : List Int} {lo hi : Option Int} : ∃ ms : List Int, cutD (ns.map D.int) lo hi = ms.map D.int ∧ ms = (ns.drop (HT.sIx ns.length 0 lo)).take (HT.sIx ns.length ns.length hi - HT.sIx ns.length 0 lo) := by
  refine ⟨_, ?_, rfl⟩
  unfold cutD
  rw [List.length_map, ← List.map_drop, ← List.map_take]
section
variable {P : DK}
def asO (o : Option D) (P : DK) : Prop := match o with | some d => P d | none => False
theorem asO_some {d : D} : asO (some d) P ↔ P d := Iff.rfl
theorem asO_at {o : Option D} {d : D} (h : o = some d) : asO o P ↔ P d := by rw [h]; rfl
theorem asB_bl {k : Bool} {Q : Bool → Prop} : asB (.bl k) Q ↔ Q k := Iff.rfl
theorem vI0_int {g : Int → Int → D} {i j : Int} : vI0 g (.int i) (.int j) P ↔ P (g i j) := Iff.rfl
theorem vI_int {C : Int → Int → Prop} {g : Int → Int → D} {i j : Int} : vI C g (.int i) (.int j) P ↔ C i j ∧ P (g i j) := Iff.rfl
theorem vU_int {g : Int → D} {i : Int} : vU g (.int i) P ↔ P (g i) := Iff.rfl
theorem asI_int {i : Int} {Q : Int → Prop} : asI [.int i] Q ↔ Q i := Iff.rfl
theorem asII_int {i j : Int} {Q : Int → Int → Prop} : asII [.int i, .int j] Q ↔ Q i j := Iff.rfl
theorem asL_lst {ds : List D} {Q : List D → Prop} : asL (.lst ds) Q ↔ Q ds := Iff.rfl
theorem asL_scr {ns : List Int} {Q : List D → Prop} : asL (.scr ns) Q ↔ Q (ns.map D.int) := Iff.rfl
theorem vIxL_lst {ds : List D} {i : Int} : vIxL (.lst ds) (.int i) P ↔ asO (atI ds i) P := Iff.rfl
theorem vIxL_scr {ns : List Int} {i : Int} : vIxL (.scr ns) (.int i) P ↔ asO (atI (ns.map D.int) i) P := Iff.rfl
theorem vIxT_tup {ds : List D} {i : Int} : vIxT (.tup ds) (.int i) P ↔ asO (atI ds i) P := Iff.rfl
theorem vLen_tup {ds : List D} : vLen [.tup ds] P ↔ P (.int ds.length) := Iff.rfl
theorem vIsN_non {neg : Bool} {x : D} : vIsN neg x .non P ↔ P (.bl (if neg then !x.isNon else x.isNon)) := Iff.rfl
theorem vCat_lst {a b : List D} : vCat (.lst a) (.lst b) P ↔ (a.all D.scal = true ∧ b.all D.scal = true ∧ a.length + b.length ≤ 1000) ∧ P (.lst (a ++ b)) := Iff.rfl
theorem vRep_lst {a : List D} {k : Int} : vRep (.lst a) (.int k) P ↔ (a.all D.scal = true ∧ (-(2 ^ 63) ≤ k ∧ k < 2 ^ 63) ∧ a.length * k.toNat ≤ 1000) ∧ P (.lst (repD a k.toNat)) := Iff.rfl
theorem vList_lst {ds : List D} : vList [.lst ds] P ↔ ds.all D.scal = true ∧ P (.lst ds) := Iff.rfl
theorem vList_scr {ns : List Int} : vList [.scr ns] P ↔ P (dI ns) := by
  show ((ns.map D.int).all D.scal = true ∧ P _) ↔ _
  rw [scal_ints]; exact ⟨fun h => h.2, fun h => ⟨rfl, h⟩⟩
theorem vSum_ints {ns : List Int} : vSum [dI ns] P ↔ P (.int ns.sum) := by
  show (match toInts (ns.map D.int) with | some ns => P (.int ns.sum) | none => False) ↔ _
  rw [toInts_map]
theorem asNs_ints {ns : List Int} {Q : List Int → Prop} : asNs (dI ns) Q ↔ Q ns := by
  show (match toInts (ns.map D.int) with | some ns => Q ns | none => False) ↔ _
  rw [toInts_map]
theorem vgTup2 {g : List D → Dl → (Dl → Prop) → Prop} {n : Nat} {ds : List D} {δ : Dl} {Q : Dl → Prop} : vgTup n g (.tup ds) δ Q ↔ ds.length = n ∧ g ds δ Q := Iff.rfl
theorem vgCons_c {g : D → Dl → (Dl → Prop) → Prop} {gs : List D → Dl → (Dl → Prop) → Prop} {x : D} {xs : List D} {δ : Dl} {Q : Dl → Prop} : vgCons g gs (x :: xs) δ Q ↔ g x δ fun δ' => gs xs δ' Q := Iff.rfl
theorem vgNil_n {δ : Dl} {Q : Dl → Prop} : vgNil [] δ Q ↔ Q δ := Iff.rfl
theorem slotL_s {i : Nat} {δ : Dl} {ds : List D} {Q : List D → Prop} (h : δ[i]? = some (some (.lst ds))) : slotL δ i Q ↔ Q ds := by unfold slotL; rw [h]
theorem tyn_int {i : Int} : (D.int i).tyn = some "int" := rfl
theorem tyn_bl {i : Bool} : (D.bl i).tyn = some "bool" := rfl
theorem tyn_lst {i : List D} : (D.lst i).tyn = some "list" := rfl
theorem tyn_tup {i : List D} : (D.tup i).tyn = some "tuple" := rfl
theorem tyn_str {i : Str} : (D.str i).tyn = some "str" := rfl
theorem tyn_non : D.non.tyn = some "NoneType" := rfl
theorem isB_ii : isB "int" "int" = true := rfl
theorem isB_ib : isB "int" "bool" = false := rfl
theorem isB_ll : isB "list" "list" = true := rfl
theorem isB_tt : isB "tuple" "tuple" = true := rfl
theorem isB_ss : isB "str" "str" = true := rfl
theorem isB_bb : isB "bool" "bool" = true := rfl
theorem isB_bi : isB "bool" "int" = true := rfl
theorem isB_il : isB "int" "list" = false := rfl
theorem isB_nl : isB "NoneType" "list" = false := rfl
theorem mulC {i j : Int} (h : ∃ m n : Nat, i.natAbs < 2 ^ m ∧ j.natAbs < 2 ^ n ∧ m + n ≤ 100000000) : CMulB i j := h
end
end L3
set_option Elab.async false
set_option linter.all false
set_option maxRecDepth 100000
set_option maxHeartbeats 4000000
namespace L3
open PySem
open L2 hiding D Rf Rfs Rp dI dT
section
variable {K : PySem.W.Frag} {ρ : Bool} {Γr Γl Γ Γ1 Γ2 Γn M : List Nat} {t u : TS} {te ta tb tx t1 t2 : TE} {de da db dx d1 d2 : DE} {d e : DS}
variable {B0 : Hp} {fps : Nat → List Addr} {δ : Dl} {σ : St} {H H' : Hp}
def vMinL (xs : List D) (P : DK) : Prop := match xs with | [x] => asNs x fun ns => 0 < ns.length ∧ ∀ M, M ∈ ns → (∀ x ∈ ns, M ≤ x) → P (.int M) | _ => False
def vMaxL (xs : List D) (P : DK) : Prop := match xs with | [x] => asNs x fun ns => 0 < ns.length ∧ ∀ M, M ∈ ns → (∀ x ∈ ns, x ≤ M) → P (.int M) | _ => False
theorem c_minL : CallV K (fun xs H Q => ∃ (a : Addr) (ns : List Int), xs = [.ref a] ∧ SqL K H a (ns.map V.int) ∧ 0 < ns.length ∧ ∀ M, M ∈ ns → (∀ x ∈ ns, M ≤ x) → Q (.int M) H) vMinL := ⟨fun xs P P' k h => by
    unfold vMinL at h ⊢
    revert h
    split
    · exact fun h => by obtain ⟨ns, e, z⟩ := asNs_out h; exact asNs_in e ⟨z.1, fun M a b => k _ (z.2 M a b)⟩
    · exact id,
  fun {H xs vs Q} r h => by
    unfold vMinL at h
    split at h
    · obtain ⟨v, rfl, r0⟩ := r.one
      obtain ⟨ns, e, h⟩ := asNs_out h
      obtain ⟨a, ys, fq, rfl, hs, hr⟩ := r0.seq e
      rw [hr.intsV] at hs
      exact ⟨a, ns, rfl, hs, h.1, fun M h1 h2 => h.2 M h1 h2 _ H [] (Same.refl H) ⟨rfl, rfl⟩ Nw.nil⟩
    · exact h.elim⟩
def toBools : List D → Option (List Bool)
  | [] => some []
  | .bl i :: ds => (toBools ds).map (i :: ·)
  | _ => none
theorem toBools_map : ∀ {ns : List Bool}, toBools (ns.map D.bl) = some ns
  | [] => rfl
  | n :: ns => by rw [List.map_cons, toBools, toBools_map]; rfl
theorem toBools_eq : ∀ {ds : List D} {ns : List Bool}, toBools ds = some ns → ds = ns.map D.bl
  | [], ns, h => by cases h; rfl
  | .bl i :: ds, ns, h => by
    rw [toBools] at h
    cases e : toBools ds with
    | none => rw [e] at h; cases h
    | some ms => rw [e] at h; cases h; rw [toBools_eq e]; rfl
  | .non :: _, _, h => by cases h
  | .int _ :: _, _, h => by cases h
  | .str _ :: _, _, h => by cases h
  | .lst _ :: _, _, h => by cases h
  | .tup _ :: _, _, h => by cases h
  | .dic _ :: _, _, h => by cases h
  | .dit _ :: _, _, h => by cases h
  | .scr _ :: _, _, h => by cases h
def asBs (x : D) (P : List Bool → Prop) : Prop := asL x fun ds => match toBools ds with | some ns => P ns | none => False
theorem asBs_out {x : D} {P : List Bool → Prop} (h : asBs x P) : ∃ ns, x.items = some (ns.map D.bl) ∧ P ns := by
  obtain ⟨ds, e, h⟩ := asL_out h
  cases q : toBools ds with
  | none => rw [q] at h; exact h.elim
  | some ns => rw [q] at h; rw [toBools_eq q] at e; exact ⟨ns, e, h⟩
theorem asBs_in {x : D} {ns : List Bool} {P : List Bool → Prop} (e : x.items = some (ns.map D.bl)) (h : P ns) : asBs x P := by
  refine asL_in e ?_
  rw [toBools_map]; exact h
theorem Rfs.boolsV {ns : List Bool} {vs : List V} {fp : List Addr} (h : Rfs K H (ns.map D.bl) vs fp) : vs = ns.map V.bl := by
  have hs : (ns.map D.bl).all D.scal = true := by rw [List.all_map, List.all_eq_true]; exact fun _ _ => rfl
  rw [(h.scals hs).1, List.map_map]
  rfl
def vAll (xs : List D) (P : DK) : Prop := match xs with | [x] => asBs x fun ns => P (.bl (ns.all id)) | _ => False
def vAny (xs : List D) (P : DK) : Prop := match xs with | [x] => asBs x fun ns => P (.bl (ns.any id)) | _ => False
theorem c_allL : CallV K (fun xs H Q => ∃ (a : Addr) (bs : List Bool), xs = [.ref a] ∧ SqL K H a (bs.map V.bl) ∧ Q (.bl (bs.all id)) H) vAll := ⟨fun xs P P' k h => by
    unfold vAll at h ⊢
    revert h
    split
    · exact fun h => by obtain ⟨ns, e, z⟩ := asBs_out h; exact asBs_in e (k _ z)
    · exact id,
  fun {H xs vs Q} r h => by
    unfold vAll at h
    split at h
    · obtain ⟨v, rfl, r0⟩ := r.one
      obtain ⟨ns, e, h⟩ := asBs_out h
      obtain ⟨a, ys, fq, rfl, hs, hr⟩ := r0.seq e
      rw [hr.boolsV] at hs
      exact ⟨a, ns, rfl, hs, h _ H [] (Same.refl H) ⟨rfl, rfl⟩ Nw.nil⟩
    · exact h.elim⟩
theorem c_anyL : CallV K (fun xs H Q => ∃ (a : Addr) (bs : List Bool), xs = [.ref a] ∧ SqL K H a (bs.map V.bl) ∧ Q (.bl (bs.any id)) H) vAny := ⟨fun xs P P' k h => by
    unfold vAny at h ⊢
    revert h
    split
    · exact fun h => by obtain ⟨ns, e, z⟩ := asBs_out h; exact asBs_in e (k _ z)
    · exact id,
  fun {H xs vs Q} r h => by
    unfold vAny at h
    split at h
    · obtain ⟨v, rfl, r0⟩ := r.one
      obtain ⟨ns, e, h⟩ := asBs_out h
      obtain ⟨a, ys, fq, rfl, hs, hr⟩ := r0.seq e
      rw [hr.boolsV] at hs
      exact ⟨a, ns, rfl, hs, h _ H [] (Same.refl H) ⟨rfl, rfl⟩ Nw.nil⟩
    · exact h.elim⟩
theorem vAll_bools {ns : List Bool} {P : DK} : vAll [.lst (ns.map D.bl)] P ↔ P (.bl (ns.all id)) := by
  show (match toBools (ns.map D.bl) with | some ns => P (.bl (ns.all id)) | none => False) ↔ _
  rw [toBools_map]
theorem vAny_bools {ns : List Bool} {P : DK} : vAny [.lst (ns.map D.bl)] P ↔ P (.bl (ns.any id)) := by
  show (match toBools (ns.map D.bl) with | some ns => P (.bl (ns.any id)) | none => False) ↔ _
  rw [toBools_map]
theorem vMinL_ints {ns : List Int} {P : DK} : vMinL [dI ns] P ↔ 0 < ns.length ∧ ∀ M, M ∈ ns → (∀ x ∈ ns, M ≤ x) → P (.int M) := asNs_ints
theorem vMaxL_ints {ns : List Int} {P : DK} : vMaxL [dI ns] P ↔ 0 < ns.length ∧ ∀ M, M ∈ ns → (∀ x ∈ ns, x ≤ M) → P (.int M) := asNs_ints
def rngI (n : Nat) : List Int := (List.range n).map fun (k : Nat) => (k : Int)
def vListRng (de : DE) (δ : Dl) (P : DK) : Prop := de δ fun x => asI [x] fun j => (j ≤ 100000 ∧ -(2 ^ 62) ≤ j) ∧ P (dI (rngI j.toNat))
theorem em_listRng (he : ER K Γ te de) : EM K Γ [] (tListRng te) (vListRng de) :=
  ⟨fun δ P P' k h => he.mono _ _ _ (fun x z => by obtain ⟨j, rfl, z⟩ := asI1_out z; exact ⟨z.1, k _ z.2⟩) h,
   fun {B0 fps δ σ H Q} o h => he.run o (he.mono _ _ _ (fun x z v H1 s1 r1 => by
    obtain ⟨j, ej, z'⟩ := asI1_out z
    subst ej
    refine ⟨j, r1.int, z'.1.1, z'.1.2, fun l hl => ?_⟩
    have e : rngV j.toNat = (rngI j.toNat).map V.int := by unfold rngV rngI; rw [List.map_map]; rfl
    rw [e]
    have s2 : Same H1 (upd H1 l (.lst ((rngI j.toNat).map V.int))) := Same.new' hl
    exact z'.2 _ _ [l] (s1.trans s2) (Rf.ofInts upd_same) ((Nw.one hl upd_same).any.later s1)) h)⟩
theorem Ok.dead (o : Ok K B0 Γ fps δ σ H) (j : Nat) (v : V) (hj : j ∉ Γ) : Ok K B0 Γ (fun i => if i = j then [] else fps i) (δ.set j none) (σ.set j (some v)) H := by
  refine ⟨by simp [o.len], o.b0, fun i d e => ?_, fun i h => ?_, fun i hi => ?_, fun i hi k hk a ha => ?_⟩
  · by_cases h : i = j
    · subst h
      rw [List.getElem?_set] at e
      by_cases hl : i < δ.length
      · simp [hl] at e
      · simp [hl] at e
    · rw [List.getElem?_set_ne (Ne.symm h)] at e
      rw [List.getElem?_set_ne (Ne.symm h), if_neg h]
      exact o.val i d e
  · by_cases h' : i = j
    · rw [if_pos h']
    · rw [if_neg h']; exact o.non i fun d z => h d (by rw [List.getElem?_set_ne (Ne.symm h')]; exact z)
  · have h : i ≠ j := fun z => hj (by rw [← z]; exact hi)
    rw [if_neg h]; exact o.own i hi
  · have h : i ≠ j := fun z => hj (by rw [← z]; exact hi)
    rw [if_neg h] at ha
    split
    · exact List.not_mem_nil
    · exact o.dj i hi k hk a ha
def vLine (i j : Nat) (f : Int → Int → Int) (d1 d2 de : DE) (E : DEnds) (δ : Dl) : Prop := slotL δ i fun ds => d1 δ fun k => asI [k] fun m => (0 ≤ m ∧ j < δ.length) ∧ asLst (ds[m.toNat]?) fun es => d2 (δ.set j none) fun k2 => asI [k2] fun m2 =>
  0 ≤ m2 ∧ asO (es[m2.toNat]?) fun x => asI [x] fun a => de (δ.set j none) fun y => asI [y] fun b => E.nx ((δ.set j none).set i (some (.lst (ds.set m.toNat (.lst (es.set m2.toNat (.int (f a b))))))))
theorem asO_out {o : Option D} {P : DK} (h : asO o P) : ∃ d, o = some d ∧ P d := by
  unfold asO at h; split at h
  · exact ⟨_, rfl, h⟩
  · exact h.elim
theorem aug_rest {i : Nat} {f : Int → Int → Int} (h2 : ER K Γ t2 d2) (he : ER K Γ te de) (hi : i ∈ Γ) {m : Nat} {ds es : List D} {a0 b : Addr} {xs : List V} {Dn : Ends} (o : Ok K B0 Γ fps δ σ H) (e : δ[i]? = some (some (.lst ds))) (ej : ds[m]? = some (.lst es))
    (g1 : σ[i]? = some (some (.ref a0))) (g2 : H a0 = some (.lst xs)) (g3 : xs[m]? = some (.ref b))
    (z2 : d2 δ fun k2 => asI [k2] fun m2 => 0 ≤ m2 ∧ asO (es[m2.toNat]?) fun x => asI [x] fun va => de δ fun y => asI [y] fun vb => ∀ fps' H' xs', Ok K B0 Γ fps' (δ.set i (some (.lst (ds.set m (.lst (es.set m2.toNat (.int (f va vb)))))))) σ H' → H' a0 = some (.lst xs') → xs'[m]? = some (.ref b) → Dn.nx σ H') :
    t2 σ H fun i H2 => rGetL K (.ref b) i H2 fun x H3 => te σ H3 fun y H4 => ipI f x y H4 fun z H5 => rSetL (.ref b) i z H5 fun H6 => Dn.nx σ H6 := by
  obtain ⟨a, xs1, b1, ys, fe, e1, e2, e3, e4, e5, e6, e7, e8, e9, e10, _⟩ := inner_ok (es' := []) o hi e ej
  rw [g1] at e1; cases e1
  rw [g2] at e2; cases e2
  rw [g3] at e4; cases e4
  refine h2.run o (h2.mono _ _ _ (fun y2 z w2 H3 s3 r3 => ?_) z2)
  obtain ⟨m2, em2, z4⟩ := asI1_out z
  subst em2
  obtain ⟨hm2, z4⟩ := z4
  obtain ⟨x0, ex0, z4⟩ := asO_out z4
  obtain ⟨va, eva, z4⟩ := asI1_out z4
  subst eva
  have o4 := o.same s3
  have r6 := e6.same s3
  obtain ⟨v0, f0, ev0, rv0, _⟩ := r6.get ex0
  obtain rfl : v0 = .int va := rv0.1
  refine ⟨b, ys, m2, .int va, rfl, r3.int, .inl (.inl (s3 _ _ e5)), hm2, ev0, he.run o4 (he.mono _ _ _ (fun y3 z w3 H4 s4 r4 => ?_) z4)⟩
  obtain ⟨vb, evb, z5⟩ := asI1_out z
  subst evb
  refine ⟨va, vb, rfl, r4.int, ?_⟩
  have o5 := o4.same s4
  obtain ⟨a', xs', b', ys', fe', f1, f2, f3, f4, f5, f6, f7, f8, f9, f10, KK⟩ := inner_ok (es' := es.set m2.toNat (.int (f va vb))) o5 hi e ej
  rw [g1] at f1; cases f1
  have hx := s4 _ _ (s3 _ _ g2)
  rw [hx] at f2; cases f2
  rw [g3] at f4; cases f4
  have hlt2 := (List.getElem?_eq_some_iff.mp ex0).1
  obtain ⟨fq', r', nd', k'⟩ := Rfs.set (Rf.ofScal (d := .int (f va vb)) rfl) List.nodup_nil f6 f7 (fun c hc => (nomatch hc)) hlt2
  have kk : ∀ c ∈ fq', c ∈ fe' := fun c hc => (k' c hc).elim id fun w => (nomatch w)
  obtain ⟨fps', o6⟩ := KK r' nd' (fun z => f8 (kk b z)) (fun c hc => ((o5.own i hi).2 c (f9 c (kk c hc))).2) (fun c hc => .inl (kk c hc))
  have hab : a0 ≠ b := fun z => by
    obtain ⟨_, _, fq, q1, _, q3, _⟩ := o5.ownL e
    rw [g1] at q1; cases q1
    have := (o5.own i hi).1
    rw [q3] at this f10
    obtain ⟨a2, xs2, b2, ys2, fe2, t1, t2, t3, t4, t5, t6, t7, t8, t9, t10, _⟩ := inner_ok (es' := []) o5 hi e ej
    obtain ⟨a3, xs3, fq3, u1, u2, u3, u4⟩ := o5.ownL e
    rw [g1] at u1; cases u1
    have nd3 := (o5.own i hi).1
    rw [u3] at nd3
    obtain ⟨b3, _, _, w1, _, _, w4, _⟩ := u4.inner (List.nodup_cons.mp nd3).2 ej
    rw [hx] at u2; cases u2
    rw [g3] at w1; cases w1
    exact (List.nodup_cons.mp nd3).1 (by rw [z]; exact w4)
  refine ⟨b, ys', m2, m2.toNat, rfl, r3.int, f5, ixN_nat hm2 (by rw [f6.length]; omega), z5 fps' _ xs o6 (by rw [upd_ne hab]; exact hx) g3⟩
theorem line_aug {i j : Nat} {f : Int → Int → Int} (h2 : ER K Γ t2 d2) (he : ER K Γ te de) (hi : i ∈ Γ) {m : Nat} {ds es : List D} {a0 b : Addr} {xs : List V} {Dn : Ends} (o : Ok K B0 Γ fps δ σ H) (e : δ[i]? = some (some (.lst ds))) (ej : ds[m]? = some (.lst es))
    (g1 : σ[i]? = some (some (.ref a0))) (g2 : H a0 = some (.lst xs)) (g3 : xs[m]? = some (.ref b)) (g4 : σ[j]? = some (some (.ref b)))
    (z2 : d2 δ fun k2 => asI [k2] fun m2 => 0 ≤ m2 ∧ asO (es[m2.toNat]?) fun x => asI [x] fun va => de δ fun y => asI [y] fun vb => ∀ fps' H' xs', Ok K B0 Γ fps' (δ.set i (some (.lst (ds.set m (.lst (es.set m2.toNat (.int (f va vb)))))))) σ H' → H' a0 = some (.lst xs') → xs'[m]? = some (.ref b) → Dn.nx σ H') :
    tAugS (tVar j) t2 te (rGetL K) (ipI f) rSetL Dn σ H := ⟨.ref b, g4, aug_rest h2 he hi o e ej g1 g2 g3 z2⟩
theorem line_get {i j : Nat} {k : EOk K ρ Γr Γl Γn B0 Dn' E'} {Dn : Ends} {R : TS} (h1 : ER K Γ t1 d1) (hi : i ∈ Γ) (hj : j ∉ Γ) (hij : i ≠ j) (o : Ok K B0 Γ fps δ σ H)
    (h : slotL δ i fun ds => d1 δ fun k => asI [k] fun m => (0 ≤ m ∧ j < δ.length) ∧ asLst (ds[m.toNat]?) fun es => ∀ (a0 b : Addr) xs σ' H' fps', Ok K B0 Γ fps' (δ.set j none) σ' H' → (δ.set j none)[i]? = some (some (.lst ds)) → ds[m.toNat]? = some (.lst es) → σ'[i]? = some (some (.ref a0)) → H' a0 = some (.lst xs) → xs[m.toNat]? = some (.ref b) → σ'[j]? = some (some (.ref b)) → R Dn σ' H') :
    tAsg (tOp (rIxL K) (tVar i) t1) (gName j) { Dn with nx := R Dn } σ H := by
  obtain ⟨ds, e, h⟩ := slotL_out h
  obtain ⟨a0, xs0, fq0, g1, _⟩ := o.ownL e
  refine ⟨.ref a0, g1, h1.run o (h1.mono _ _ _ (fun y z w H2 s2 r2 => ?_) h)⟩
  obtain ⟨m, em, z1⟩ := asI1_out z
  subst em
  obtain ⟨⟨hm0, hjl⟩, z1⟩ := z1
  obtain ⟨es, ej, z2⟩ := asLst_out z1
  have o2 := o.same s2
  have hlt := (List.getElem?_eq_some_iff.mp ej).1
  obtain ⟨a, xs, b, ys, fe, e1, e2, e3, e4, e5, e6, e7, e8, e9, e10, _⟩ := inner_ok (es' := []) o2 hi e ej
  rw [g1] at e1; cases e1
  refine ⟨a0, xs, m, .ref b, rfl, r2.int, .inl (.inl e2), by unfold atI; rw [ixN_nat hm0 (by rw [e3]; omega)]; exact e4, ?_⟩
  exact z2 a0 b xs _ _ _ (o2.dead j (.ref b) hj) (by rw [List.getElem?_set_ne (Ne.symm hij)]; exact e) ej (by rw [List.getElem?_set_ne (Ne.symm hij)]; exact g1) e2 e4 (by rw [List.getElem?_set]; simp [o.len, hjl])
theorem slotL_in {i : Nat} {ds : List D} {Q : List D → Prop} (e : δ[i]? = some (some (.lst ds))) (h : Q ds) : slotL δ i Q := (slotL_s e).mpr h
theorem asLst_in {o : Option D} {es : List D} {Q : List D → Prop} (e : o = some (.lst es)) (h : Q es) : asLst o Q := by rw [e]; exact h
theorem st_line (i j : Nat) {f : Int → Int → Int} (h1 : ER K Γ t1 d1) (h2 : ER K Γ t2 d2) (he : ER K Γ te de) (hi : i ∈ Γ := by decide) (hj : j ∉ Γ := by decide) (hij : i ≠ j := by decide) :
    ST K ρ Γr Γl (tSeq (tAsg (tOp (rIxL K) (tVar i) t1) (gName j)) (tAugS (tVar j) t2 te (rGetL K) (ipI f) rSetL)) Γ Γ (vLine i j f d1 d2 de) := by
  intro B0 Dn E fps δ σ H k o h
  refine line_get (k := k) h1 hi hj hij o ?_
  obtain ⟨ds, e, h⟩ := slotL_out h
  refine slotL_in e (h1.mono _ _ _ (fun x z => ?_) h)
  obtain ⟨m, em, z1⟩ := asI1_out z
  subst em
  refine ⟨z1.1, ?_⟩
  obtain ⟨es, ej, z2⟩ := asLst_out z1.2
  refine asLst_in ej fun a0 b xs σ' H' fps' o' e' ej' g1 g2 g3 g4 => ?_
  refine line_aug h2 he hi o' e' ej' g1 g2 g3 g4 (h2.mono _ _ _ (fun y z => ?_) z2)
  obtain ⟨m2, em2, z4⟩ := asI1_out z
  subst em2
  refine ⟨z4.1, ?_⟩
  obtain ⟨x0, ex0, z5⟩ := asO_out z4.2
  refine (asO_at ex0).mpr ?_
  obtain ⟨va, eva, z6⟩ := asI1_out z5
  subst eva
  refine he.mono _ _ _ (fun y z => ?_) z6
  obtain ⟨vb, evb, z7⟩ := asI1_out z
  subst evb
  exact fun fps' H' xs' o6 _ _ => k.nx o6 z7
theorem Rfs.drop : ∀ {ds : List D} {xs : List V} {fq : List Addr} (n : Nat), Rfs K H ds xs fq → ∃ fq', Rfs K H (ds.drop n) (xs.drop n) fq'
  | ds, xs, fq, 0, h => ⟨fq, h⟩
  | [], xs, fq, n + 1, h => by obtain ⟨rfl, rfl⟩ := h; exact ⟨[], rfl, rfl⟩
  | d :: ds, xs, fq, n + 1, h => by
    obtain ⟨x, r, f1, f2, rfl, rfl, h1, h2⟩ := h
    exact Rfs.drop n h2
theorem Rfs.take : ∀ {ds : List D} {xs : List V} {fq : List Addr} (n : Nat), Rfs K H ds xs fq → ∃ fq', Rfs K H (ds.take n) (xs.take n) fq'
  | ds, xs, fq, 0, h => ⟨[], rfl, rfl⟩
  | [], xs, fq, n + 1, h => by obtain ⟨rfl, rfl⟩ := h; exact ⟨[], rfl, rfl⟩
  | d :: ds, xs, fq, n + 1, h => by
    obtain ⟨x, r, f1, f2, rfl, rfl, h1, h2⟩ := h
    obtain ⟨fq', h3⟩ := Rfs.take n h2
    exact ⟨f1 ++ fq', x, r.take n, f1, fq', rfl, rfl, h1, h3⟩
theorem Rfs.cut {ds : List D} {xs : List V} {fq : List Addr} (lo hi : Option Int) (h : Rfs K H ds xs fq) : ∃ fq', Rfs K H (cutD ds lo hi) (cutV xs lo hi) fq' := by
  unfold cutD cutV
  rw [h.length]
  obtain ⟨f1, h1⟩ := h.drop (HT.sIx ds.length 0 lo)
  exact h1.take _
theorem rd_new {ds : List D} {xs : List V} {fq : List Addr} {p : Addr} (h : Rfs K H ds xs fq) (hp : H p = none) : Same H (upd H p (.lst xs)) ∧ Rp K (upd H p (.lst xs)) (.lst ds) (.ref p) :=
  have s : Same H (upd H p (.lst xs)) := Same.new' hp
  ⟨s, p :: fq, p, xs, fq, rfl, upd_same, rfl, h.same s⟩
def vSlR (de : DE) (dl dh : DO) (δ : Dl) (P : DK) : Prop := de δ fun x => dl δ fun l => dh δ fun u => asL x fun ds => P (.lst (cutD ds l u))
theorem er_sl {tl th : TO} {dl dh : DO} (he : ER K Γ te de) (hl : OR K Γ tl dl) (hh : OR K Γ th dh) : ER K Γ (tSl (rSlL K) te tl th) (vSlR de dl dh) :=
  ⟨fun δ P P' k h => he.mono _ _ _ (fun x z => hl.mono _ _ _ (fun l z => hh.mono _ _ _ (fun u z => by obtain ⟨ds, e, z⟩ := asL_out z; exact asL_in e (k _ z)) z) z) h,
   fun {B0 fps δ σ H Q} o h => he.run o (he.mono _ _ _ (fun x z v H1 s1 r1 => hl.run (o.same s1) (hl.mono _ _ _ (fun l z H2 s2 => hh.run ((o.same s1).same s2) (hh.mono _ _ _ (fun u z H3 s3 => by
    obtain ⟨ds, e, z⟩ := asL_out z
    obtain ⟨a, xs, fq, rfl, hs, hr⟩ := (r1.same (s2.trans s3)).seq e
    obtain ⟨fq', hr'⟩ := hr.cut l u
    refine ⟨a, _, rfl, hs, fun p hp => ?_⟩
    obtain ⟨n1, n2⟩ := rd_new hr' hp
    exact z _ _ (((s1.trans s2).trans s3).trans n1) n2) z)) z)) h)⟩
structure OpW (K : PySem.W.Frag) (r : R2) (rv : D2) : Prop where
  mono : ∀ x y (P P' : DK), (∀ z, P z → P' z) → rv x y P → rv x y P'
  run : ∀ {H x y v w Q}, Rp K H x v → Rp K H y w → rv x y (fun z => ∀ u H', Same H H' → Rp K H' z u → Q u H') → r v w H Q
theorem er_op {r : R2} {rv : D2} (ho : OpW K r rv) (ha : ER K Γ ta da) (hb : ER K Γ tb db) : ER K Γ (tOp r ta tb) (vOp rv da db) :=
  ⟨fun δ P P' k h => ha.mono _ _ _ (fun x z => hb.mono _ _ _ (fun y z => ho.mono x y _ _ k z) z) h,
   fun o q => ha.run o (ha.mono _ _ _ (fun x z v H1 s1 r1 => hb.run (o.same s1) (hb.mono _ _ _ (fun y z w H2 s2 r2 => ho.run (r1.same s2) r2 (ho.mono _ _ _ _ (fun u z u' H' s r => z u' H' ((s1.trans s2).trans s) r) z)) z)) q)⟩
def vCatR (x y : D) (P : DK) : Prop := match x, y with | .lst a, .lst b => a.length + b.length ≤ 1000 ∧ P (.lst (a ++ b)) | _, _ => False
theorem vCatR_lst {a b : List D} {P : DK} : vCatR (.lst a) (.lst b) P ↔ a.length + b.length ≤ 1000 ∧ P (.lst (a ++ b)) := Iff.rfl
theorem o_catR : OpW K rCat vCatR := ⟨fun x y P P' k h => by unfold vCatR at h ⊢; revert h; split <;> first | exact fun h => ⟨h.1, k _ h.2⟩ | exact id, fun {H x y v w Q} r1 r2 h => by
  unfold vCatR at h
  split at h
  · rename_i a b
    obtain ⟨hl, h⟩ := h
    obtain ⟨f1, l1, xs, q1, rfl, e1, _, hr1⟩ := r1
    obtain ⟨f2, l2, ys, q2, rfl, e2, _, hr2⟩ := r2
    refine ⟨l1, l2, _, _, rfl, rfl, e1, e2, by rw [hr1.length, hr2.length]; exact le1000 hl, fun p hp => ?_⟩
    obtain ⟨n1, n2⟩ := rd_new (hr1.append hr2) hp
    exact h _ _ n1 n2
  · exact h.elim⟩
def vRepR (x y : D) (P : DK) : Prop := match x, y with | .lst a, .int k => ((-(2 ^ 63) ≤ k ∧ k < 2 ^ 63) ∧ a.length * k.toNat ≤ 1000) ∧ P (.lst (repD a k.toNat)) | _, _ => False
theorem vRepR_lst {a : List D} {k : Int} {P : DK} : vRepR (.lst a) (.int k) P ↔ ((-(2 ^ 63) ≤ k ∧ k < 2 ^ 63) ∧ a.length * k.toNat ≤ 1000) ∧ P (.lst (repD a k.toNat)) := Iff.rfl
def vListR (xs : List D) (P : DK) : Prop := match xs with | [x] => asL x fun ds => P (.lst ds) | _ => False
theorem vListR_lst {ds : List D} {P : DK} : vListR [.lst ds] P ↔ P (.lst ds) := Iff.rfl
def vRevR (da : DE) (δ : Dl) (P : DK) : Prop := da δ fun x => asL x fun ds => P (.lst ds.reverse)
def vAppPop (i k : Nat) (dn : DE) (E : DEnds) (δ : Dl) : Prop := slotL δ i fun ds => slotL δ k fun es => dn δ fun x => asI [x] fun n => (ds.length < 1000 ∧ es.all D.scal = true ∧ 0 ≤ n ∧ n < 2 ^ 63) ∧ asO (es[n.toNat]?) fun y => E.nx ((δ.set k (some (.lst (es.eraseIdx n.toNat)))).set i (some (.lst (ds ++ [y]))))
theorem st_appPop (i k : Nat) {tn : TE} {dn : DE} (hn : ER K Γ tn dn) (hi : i ∈ Γ := by decide) (hk : k ∈ Γ := by decide) (hik : i ≠ k := by decide) :
    ST K ρ Γr Γl (tDrop (tBM K "list" rAppend (tVar i) (tCons (tBM K "list" rPopAt (tVar k) (tCons tn tNil)) tNil))) Γ Γ (vAppPop i k dn) := by
  intro B0 Dn E fps δ σ H kk o h
  obtain ⟨ds, e, h⟩ := slotL_out h
  obtain ⟨es, e', h⟩ := slotL_out h
  obtain ⟨a, xs, fq, h1, h2, h3, h4⟩ := o.ownL e
  obtain ⟨b, ys, fb, g1, g2, g3, g4⟩ := o.ownL e'
  refine ⟨.ref a, h1, .inl ⟨rfl, xs, .inl (.inl h2)⟩, .ref b, g1, .inl ⟨rfl, ys, .inl (.inl g2)⟩, hn.run o (hn.mono _ _ _ (fun x z v H1 s r => ?_) h)⟩
  obtain ⟨n, en, z1⟩ := asI1_out z
  subst en
  obtain ⟨⟨hl, hsc, h0, h63⟩, z1⟩ := z1
  obtain ⟨y, ey, z1⟩ := asO_out z1
  have o1 := o.same s
  have g4' := g4.same s
  obtain ⟨rfl, efb⟩ := g4'.scals hsc
  subst efb
  have hlt := (List.getElem?_eq_some_iff.mp ey).1
  have hy : y.scal = true := List.all_eq_true.mp hsc y (List.mem_of_getElem? ey)
  refine ⟨b, _, n, n.toNat, y.toV, rfl, by rw [r.int], s _ _ g2, by omega, h63, by rw [seqIndex_of h0 (by rw [List.length_map]; omega)], by rw [List.getElem?_map, ey]; rfl, ?_⟩
  have own := o1.own k hk
  rw [g3] at own
  have hsc' : (es.eraseIdx n.toNat).all D.scal = true := by
    rw [List.all_eq_true] at hsc ⊢
    exact fun q hq => hsc q (List.mem_of_mem_eraseIdx hq)
  have em : (es.map D.toV).eraseIdx n.toNat = (es.eraseIdx n.toNat).map D.toV := map_eraseIdx _ _
  rw [em]
  have o2 := o1.write (H' := upd H1 b (.lst ((es.eraseIdx n.toNat).map D.toV))) hk (d' := .lst (es.eraseIdx n.toNat)) (fp' := [b]) g1 ⟨b, _, [], rfl, upd_same, rfl, Rfs.ofScals hsc'⟩ (by simp) (fun c hc => by cases List.mem_singleton.mp hc; exact .inl ⟨_, upd_same⟩)
    (fun c hc => by cases List.mem_singleton.mp hc; rw [g3]; exact .inl List.mem_cons_self) (by rw [g3]; exact updKeep List.mem_cons_self)
  have e2 : (δ.set k (some (.lst (es.eraseIdx n.toNat))))[i]? = some (some (.lst ds)) := by rw [List.getElem?_set_ne (Ne.symm hik)]; exact e
  obtain ⟨a', xs', fq', h1', h2', h3', h4'⟩ := o2.ownL e2
  rw [h1] at h1'; cases h1'
  refine ⟨a, xs', y.toV, rfl, rfl, h2', by rw [h4'.length]; exact Nat.lt_of_lt_of_le hl (le1000 (Nat.le_refl _)), ?_⟩
  have own2 := o2.own i hi
  rw [h3'] at own2
  obtain ⟨nd2, hmu2⟩ := own2
  obtain ⟨na, ndq⟩ := List.nodup_cons.mp nd2
  have nt := (hmu2 a List.mem_cons_self).2.notup
  refine kk.nx (o2.write hi (d' := .lst (ds ++ [y])) (fp' := a :: fq') h1 ⟨a, xs' ++ [y.toV], fq', rfl, upd_same, rfl, ?_⟩ (List.nodup_cons.mpr ⟨na, ndq⟩) (fun c hc => ?_) (fun c hc => by rw [h3']; exact .inl hc) (by rw [h3']; exact updKeep List.mem_cons_self)) z1
  · have := (h4'.upd (o := .lst (xs' ++ [y.toV])) na nt).append (Rfs.one (Rf.ofScal (K := K) (H := upd (upd H1 b (.lst ((es.eraseIdx n.toNat).map D.toV))) a (.lst (xs' ++ [y.toV]))) hy))
    rwa [List.append_nil] at this
  · exact Mu.upd (hmu2 c hc).2 (.inl ⟨_, rfl⟩)
theorem vEqS_bl {neg : Bool} {i j : Bool} {P : DK} : vEqS neg (.bl i) (.bl j) P ↔ P (.bl (if neg then !decide (i = j) else decide (i = j))) := by
  unfold vEqS
  simp only [D.scal, D.toV, scal, true_and, V.bl.injEq]
theorem vEqS_str {neg : Bool} {i j : Str} {P : DK} : vEqS neg (.str i) (.str j) P ↔ P (.bl (if neg then !decide (i = j) else decide (i = j))) := by
  unfold vEqS
  simp only [D.scal, D.toV, scal, true_and, V.str.injEq]
end
end L3
set_option Elab.async false
set_option linter.all false
set_option maxRecDepth 100000
set_option maxHeartbeats 4000000
namespace L3
open PySem
open L2 hiding D Rf Rfs Rp dI dT
def Rect (n m : Nat) (t : List (List Int)) : Prop := t.length = n ∧ ∀ r ∈ t, r.length = m
abbrev rowAt (t : List (List Int)) (i : Nat) : List Int := t.getD i []
abbrev cellAt (t : List (List Int)) (i j : Nat) : Int := (t.getD i []).getD j 0
abbrev setCell (t : List (List Int)) (i j : Nat) (v : Int) : List (List Int) := t.set i ((t.getD i []).set j v)
theorem rowAt_mem {t : List (List Int)} {i : Nat} (h : i < t.length) : rowAt t i ∈ t := by
  unfold rowAt
  rw [List.getD_eq_getElem?_getD, List.getElem?_eq_getElem h]
  exact List.getElem_mem h
theorem Rect.row {n m : Nat} {t : List (List Int)} (h : Rect n m t) {i : Nat} (hi : i < n) : (rowAt t i).length = m := h.2 _ (rowAt_mem (by rw [h.1]; exact hi))
theorem Rect.set {n m : Nat} {t : List (List Int)} (h : Rect n m t) {i : Nat} {r : List Int} (hr : r.length = m) : Rect n m (t.set i r) := by
  refine ⟨by rw [List.length_set]; exact h.1, fun x hx => ?_⟩
  rcases List.mem_or_eq_of_mem_set hx with z | z
  · exact h.2 x z
  · rw [z]; exact hr
theorem Rect.setCell {n m : Nat} {t : List (List Int)} (h : Rect n m t) {i j : Nat} {v : Int} (hi : i < n) : Rect n m (setCell t i j v) := h.set (by rw [List.length_set]; exact h.row hi)
theorem get_dT {t : List (List Int)} {i : Nat} (h : i < t.length) : (t.map dI)[i]? = some (dI (rowAt t i)) := by
  unfold rowAt
  rw [List.getElem?_map, List.getD_eq_getElem?_getD, List.getElem?_eq_getElem h]
  rfl
theorem at_dT {t : List (List Int)} {i : Int} (h0 : 0 ≤ i) (h : i < t.length) : atI (t.map dI) i = some (dI (rowAt t i.toNat)) := by
  unfold atI
  rw [ixN_nat h0 (by rw [List.length_map]; exact h)]
  exact get_dT (by omega)
theorem get_dI {r : List Int} {i : Nat} (h : i < r.length) : (r.map D.int)[i]? = some (.int (r.getD i 0)) := by
  rw [List.getElem?_map, List.getD_eq_getElem?_getD, List.getElem?_eq_getElem h]
  rfl
theorem set_dT {t : List (List Int)} {i : Nat} {r : List Int} : (t.map dI).set i (dI r) = (t.set i r).map dI := (List.map_set ..).symm
section
variable {i j : Nat} {δ : Dl} {de d1 d2 dx : DE} {E : DEnds} {t : List (List Int)} {r : List Int} {a b v : Int}
theorem setItem2_tab (hs : δ[i]? = some (some (dT t))) (hde : ∀ R : DK, R (.int v) → de δ R) (h1 : ∀ R : DK, R (.int a) → d1 δ R) (h2 : ∀ R : DK, R (.int b) → d2 δ R) (ha : 0 ≤ a ∧ a < t.length) (hb : 0 ≤ b ∧ b < (rowAt t a.toNat).length)
    (h : E.nx (δ.set i (some (dT (setCell t a.toNat b.toNat v))))) : vSetItem2 i de d1 d2 E δ := by
  unfold vSetItem2
  refine hde _ ((slotL_s hs).mpr (h1 _ ?_))
  show asLst (atI (t.map dI) a) _
  rw [at_dT ha.1 ha.2]
  refine h2 _ ?_
  show match ixN (t.map dI).length a, ixN ((rowAt t a.toNat).map D.int).length b with | some j, some j2 => E.nx (δ.set i (some (.lst ((t.map dI).set j (.lst (((rowAt t a.toNat).map D.int).set j2 (.int v))))))) | _, _ => False
  rw [ixN_nat ha.1 (by rw [List.length_map]; exact ha.2), ixN_nat hb.1 (by rw [List.length_map]; exact hb.2)]
  show E.nx (δ.set i (some (.lst ((t.map dI).set a.toNat (.lst (((rowAt t a.toNat).map D.int).set b.toNat (.int v)))))))
  rw [set_dI, set_dT]; exact h
theorem line_tab {f : Int → Int → Int} (hs : δ[i]? = some (some (dT t))) (h1 : ∀ R : DK, R (.int a) → d1 δ R) (h2 : ∀ R : DK, R (.int b) → d2 (δ.set j none) R) (hde : ∀ R : DK, R (.int v) → de (δ.set j none) R) (hj : j < δ.length) (ha : 0 ≤ a ∧ a < t.length) (hb : 0 ≤ b ∧ b < (rowAt t a.toNat).length)
    (h : E.nx ((δ.set j none).set i (some (dT (setCell t a.toNat b.toNat (f (cellAt t a.toNat b.toNat) v)))))) : vLine i j f d1 d2 de E δ := by
  unfold vLine
  refine (slotL_s hs).mpr (h1 _ ⟨⟨ha.1, hj⟩, ?_⟩)
  refine asLst_in (get_dT (by omega)) (h2 _ ⟨hb.1, ?_⟩)
  refine (asO_at (get_dI (by omega))).mpr (hde _ ?_)
  show E.nx ((δ.set j none).set i (some (.lst ((t.map dI).set a.toNat (.lst (((rowAt t a.toNat).map D.int).set b.toNat (.int (f _ v))))))))
  rw [set_dI, set_dT]; exact h
end
theorem asO_ints {r : List Int} {a : Int} {P : DK} (ha : 0 ≤ a ∧ a < r.length) (h : P (.int (r.getD a.toNat 0))) : asO (atI (r.map D.int) a) P := (asO_at (at_dI ha.1 ha.2)).mpr h
theorem asO_rows {t : List (List Int)} {a : Int} {P : DK} (ha : 0 ≤ a ∧ a < t.length) (h : P (dI (rowAt t a.toNat))) : asO (atI (t.map dI) a) P := (asO_at (at_dT ha.1 ha.2)).mpr h
theorem rep_zero {n : Nat} {x : Int} : repD [D.int x] n = (List.replicate n x).map D.int := by
  unfold repD
  induction n with
  | zero => rfl
  | succ n ih => rw [List.replicate_succ, List.flatten_cons, ih, List.replicate_succ]; rfl
theorem map_dI {α : Type} {as : List α} {f : α → List Int} : as.map (fun a => dI (f a)) = (as.map f).map dI := by rw [List.map_map]; rfl
theorem map_int {α : Type} {as : List α} {f : α → Int} : as.map (fun a => D.int (f a)) = (as.map f).map D.int := by rw [List.map_map]; rfl
theorem am_cons0 {K : PySem.W.Frag} {Γ : List Nat} {ta : TE} {da : DE} {tr : TA} {dr : DA} (ha : EM K Γ [] ta da) (hr : AM K Γ [] tr dr) : AM K Γ [] (tCons ta tr) (vCons da dr) := am_cons ha hr (fun _ h => (nomatch h)) (fun _ h => (nomatch h))
theorem erase_perm {α : Type} : ∀ (l : List α) (i : Nat) (h : i < l.length), (l[i] :: l.eraseIdx i).Perm l
  | x :: l, 0, _ => List.Perm.refl _
  | x :: l, i + 1, h => by
    rw [List.eraseIdx_cons_succ, List.getElem_cons_succ]
    exact (List.Perm.swap _ _ _).trans ((erase_perm l i (by simpa using h)).cons x)
theorem comp_copy {di : DI} {dg : D → Dl → (Dl → Prop) → Prop} {dt : DT} {de : DE} {k : Nat} {idx : List Nat} {δ : Dl} {P : DK} {t : List (List Int)} (hdi : ∀ R : List D → Prop, R (t.map dI) → di δ R) (hl : t.length ≤ 1000)
    (hb : ∀ r ∈ t, ∀ R : List D → Prop, R [dI r] → vBody dg dt de (cbaseD k idx δ) (dI r) R) (h : P (dT t)) : vComp di dg dt de k idx δ P := comp_rows (g := dI) hdi hl hb h
theorem map_bl {α : Type} {as : List α} {f : α → Bool} : as.map (fun a => D.bl (f a)) = (as.map f).map D.bl := by rw [List.map_map]; rfl
theorem cat_dI {a b : List Int} : a.map D.int ++ b.map D.int = (a ++ b).map D.int := List.map_append.symm
theorem rng_len {n : Nat} : (rngI n).length = n := by unfold rngI; rw [List.length_map, List.length_range]
theorem rng_mem {n : Nat} {x : Int} : x ∈ rngI n ↔ 0 ≤ x ∧ x < n := by
  unfold rngI
  rw [List.mem_map]
  constructor
  · rintro ⟨k, hk, rfl⟩
    have := List.mem_range.mp hk
    omega
  · rintro ⟨h0, h1⟩
    exact ⟨x.toNat, List.mem_range.mpr (by omega), by omega⟩
theorem perm_at {n i : Nat} {p : List Int} (h : p.Perm (rngI n)) (hi : i < n) : i < p.length ∧ 0 ≤ p.getD i 0 ∧ p.getD i 0 < n := by
  have hl : p.length = n := by rw [h.length_eq, rng_len]
  have hlt : i < p.length := by omega
  have : p.getD i 0 ∈ rngI n := h.mem_iff.mp (by rw [List.getD_eq_getElem?_getD, List.getElem?_eq_getElem hlt]; exact List.getElem_mem hlt)
  exact ⟨hlt, rng_mem.mp this⟩
def colOf (t : List (List Int)) (j : Nat) : List Int := t.map fun r => r.getD j 0
theorem len_colOf {t : List (List Int)} {j : Nat} : (colOf t j).length = t.length := by unfold colOf; rw [List.length_map]
end L3
namespace L3
open PySem
open L2 hiding D Rf Rfs Rp dI dT
def vInts (ns : List Int) (δ : Dl) (P : List D → Prop) : Prop := P (ns.map D.int)
theorem am_consts {K : PySem.W.Frag} {Γ : List Nat} : ∀ {ns : List Int}, AM K Γ [] (tInts ns) (vInts ns)
  | [] => ⟨fun _ _ _ k h => k _ h, fun {_ _ _ _ H _} o q => q [] H [] (Same.refl H) ⟨rfl, rfl⟩ Nw.nil⟩
  | n :: ns => ⟨fun _ _ _ k h => k _ h, fun {B0 fps δ σ H Q} o q => (am_consts (ns := ns)).run o fun vs H' fp s r nw => q (.int n :: vs) H' fp s ⟨.int n, vs, [], fp, rfl, rfl, ⟨rfl, rfl⟩, r⟩ nw⟩
end L3
namespace L3
open PySem
open L2 hiding D Rf Rfs Rp dI dT
theorem cutD_to {ds : List D} {k : Int} (h : 0 ≤ k) : cutD ds none (some k) = ds.take k.toNat := by
  obtain ⟨n, rfl⟩ := Int.eq_ofNat_of_zero_le h
  unfold cutD
  rw [HT.sIx_nat, HT.sIx_none, Nat.sub_zero, List.drop_zero, ← List.take_eq_take_min]
  rfl
theorem cutD_from {ds : List D} {k : Int} (h : 0 ≤ k) (h2 : k ≤ ds.length) : cutD ds (some k) none = ds.drop k.toNat := by
  obtain ⟨n, rfl⟩ := Int.eq_ofNat_of_zero_le h
  unfold cutD
  rw [HT.sIx_nat, HT.sIx_none, Nat.min_eq_left (by omega), List.take_of_length_le (by rw [List.length_drop]; exact Nat.le_refl _)]
  rfl
theorem asO_end {α : Type} {as : List α} {f : α → D} {i : Int} {P : DK} (hne : 1 ≤ as.length) (hi : i = 0 ∨ i = -1) (h : ∀ a ∈ as, P (f a)) : asO (atI (as.map f) i) P := by
  have key : ∀ j, j < as.length → asO ((as.map f)[j]?) P := fun j hj => by
    rw [List.getElem?_map, List.getElem?_eq_getElem hj]
    exact h _ (List.getElem_mem hj)
  unfold atI
  rcases hi with rfl | rfl
  · rw [ixN_nat (by omega) (by rw [List.length_map]; omega)]
    exact key 0 (by omega)
  · have : ixN (as.map f).length (-1) = some (as.length - 1) := by
      unfold ixN
      rw [List.length_map, if_neg (by omega), if_pos (by omega)]
      congr 1; omega
    rw [this]
    exact key _ (by omega)
theorem atI_c0 {a : D} {ds : List D} : atI (a :: ds) 0 = some a := by
  unfold atI; rw [ixN_nat (by omega) (by rw [List.length_cons]; omega)]; rfl
theorem atI_c1 {a b : D} {ds : List D} : atI (a :: b :: ds) 1 = some b := by
  unfold atI; rw [ixN_nat (by omega) (by rw [List.length_cons, List.length_cons]; omega)]; rfl
theorem atI_c2 {a b c : D} {ds : List D} : atI (a :: b :: c :: ds) 2 = some c := by
  unfold atI; rw [ixN_nat (by omega) (by rw [List.length_cons, List.length_cons, List.length_cons]; omega)]; rfl
theorem atI_c3 {a b c d : D} {ds : List D} : atI (a :: b :: c :: d :: ds) 3 = some d := by
  unfold atI; rw [ixN_nat (by omega) (by rw [List.length_cons, List.length_cons, List.length_cons, List.length_cons]; omega)]; rfl
end L3
set_option Elab.async false
set_option linter.all false
set_option maxRecDepth 100000
set_option maxHeartbeats 4000000
namespace Maj
open L2 (fall fall_perm fall_desc fall_length)
def topk (xs : List Int) (k : Nat) : Int := ((fall xs).take k).sum
theorem sum_set : ∀ {xs : List Int} {i : Nat} {v : Int}, i < xs.length → (xs.set i v).sum = xs.sum + v - xs.getD i 0
  | x :: xs, 0, v, _ => by simp; omega
  | x :: xs, i + 1, v, h => by
    have := sum_set (xs := xs) (i := i) (v := v) (by simpa using h)
    simp [this]; omega
  | [], _, _, h => by simp at h
def above (one other : List Int) : List Nat := (List.range one.length).filter fun p => decide (topk other (p + 1) < topk one (p + 1))
end Maj
namespace L3
open PySem
open L2 hiding D Rf Rfs Rp dI dT
section
variable {K : PySem.W.Frag} {ρ : Bool} {Γr Γl Γ Γn : List Nat} {te : TE} {de : DE}
def vgLst (n : Nat) (dg : List D → Dl → (Dl → Prop) → Prop) (x : D) (δ : Dl) (P : Dl → Prop) : Prop := asL x fun ds => ds.length = n ∧ dg ds δ P
theorem ER.es0 (h : ER K [] te de) : ES K [] te de := ⟨h.mono, fun o q => h.run o (h.mono _ _ _ (fun x z v H' s r => let ⟨fp, r⟩ := r; z v H' fp s r fun j hj => (nomatch hj)) q)⟩
def vPar (i j : Nat) (da : DA) (E : DEnds) (δ : Dl) : Prop := da δ fun xs => match xs with | [x, y] => E.nx ((δ.set i (some x)).set j (some y)) | _ => False
end
end L3
set_option Elab.async false
set_option linter.all false
set_option maxRecDepth 100000
set_option maxHeartbeats 4000000
namespace L3
open PySem L2
section
variable {K : PySem.W.Frag}
def asIB (xs : List D) (P : Int → Prop) : Prop := match xs with | [.int j] => P j | [.bl b] => P (if b then 1 else 0) | _ => False
theorem asIB_int {i : Int} {P : Int → Prop} : asIB [.int i] P ↔ P i := Iff.rfl
theorem asIB_bl {b : Bool} {P : Int → Prop} : asIB [.bl b] P ↔ P (if b then 1 else 0) := Iff.rfl
def vIntB (xs : List D) (P : DK) : Prop := asIB xs fun i => P (.int i)
end
end L3
namespace L3
open PySem
open L2 hiding D Rf Rfs Rp dI dT
end L3
set_option Elab.async false
set_option linter.all false
set_option maxRecDepth 100000
set_option maxHeartbeats 4000000
namespace L3
open PySem L2
section
variable {K : PySem.W.Frag} {ρ : Bool} {Γr Γl Γ : List Nat} {B0 : Hp} {i j m : Nat} {a0 : Addr} {fps : Nat → List Addr} {δ : Dl} {σ : St} {H H' : Hp} {t u : TS} {d e : Nat → DS} {te tx t1 : TE} {de dx d1 : DE}
end
end L3
namespace L3
open PySem
open L2 hiding D Rf Rfs Rp dI dT
section
variable {δ : Dl} {i j : Nat} {t : List (List Int)} {a b v : Int} {d1 de dx : DE} {d : Nat → DS} {E : DEnds}
end
end L3
set_option Elab.async false
set_option linter.all false
set_option maxRecDepth 100000
set_option maxHeartbeats 4000000
namespace L3
open PySem L2
def D.flat : D → Bool
  | .tup ds => ds.all D.scal
  | d => d.scal
theorem Rf.flat {K : PySem.W.Frag} {H : Hp} {d : D} {v : V} {fp : List Addr} (h : Rf K H d v fp) (s : d.flat = true) : fp = [] := by
  cases d with
  | tup ds =>
    obtain ⟨a, xs, rfl, h2, h3⟩ := h
    exact (h3.scals s).2
  | _ => first | exact (h.scal s).2 | cases s
theorem flat_int {i : Int} : (D.int i).flat = true := rfl
theorem flat_bl {b : Bool} : (D.bl b).flat = true := rfl
theorem flat_tup4 {a b c d : Int} : (D.tup [.int a, .int b, .int c, .int d]).flat = true := rfl
theorem flat_tup3 {a b c : Int} : (D.tup [.int a, .int b, .int c]).flat = true := rfl
theorem flat_tup2 {a b : Int} : (D.tup [.int a, .int b]).flat = true := rfl
def vFlat (d : DE) (δ : Dl) (P : DK) : Prop := d δ fun x => x.flat = true ∧ P x
theorem ER.flat {K : PySem.W.Frag} {Γ : List Nat} {t : TE} {d : DE} (h : ER K Γ t d) : EM K Γ [] t (vFlat d) := ⟨fun δ P P' k q => h.mono _ _ _ (fun x z => ⟨z.1, k x z.2⟩) q, fun o q => h.run o (h.mono _ _ _ (fun x z v H' s r => by
  obtain ⟨fp, r⟩ := r
  have e := r.flat z.1
  subst e
  exact z.2 v H' [] s r Nw.nil) q)⟩
end L3
namespace L3
open PySem
open L2 hiding D Rf Rfs Rp dI dT
theorem cell_set {t : List (List Int)} {n m a b c d : Nat} {v : Int} (hR : Rect n m t) (ha : a < n) (hb : b < m) : cellAt (setCell t a b v) c d = if a = c ∧ b = d then v else cellAt t c d := by
  have hl := hR.1
  have hr := hR.row ha
  unfold setCell cellAt
  by_cases h : a = c
  · subst h
    rw [List.getD_eq_getElem?_getD (l := t.set a _), List.getElem?_set_self (by omega), Option.getD_some]
    by_cases h2 : b = d
    · subst h2
      rw [if_pos ⟨rfl, rfl⟩, List.getD_eq_getElem?_getD, List.getElem?_set_self (by rw [show (t.getD a []).length = m from hr]; exact hb), Option.getD_some]
    · rw [if_neg (fun z => h2 z.2), List.getD_eq_getElem?_getD, List.getElem?_set_ne h2, ← List.getD_eq_getElem?_getD]
  · rw [if_neg (fun z => h z.1), List.getD_eq_getElem?_getD (l := t.set a _), List.getElem?_set_ne h, ← List.getD_eq_getElem?_getD]
theorem Rect.ext {t u : List (List Int)} {n m : Nat} (h1 : Rect n m t) (h2 : Rect n m u) (h : ∀ a b, a < n → b < m → cellAt t a b = cellAt u a b) : t = u := by
  refine List.ext_getElem (by rw [h1.1, h2.1]) fun a ha hb => ?_
  have la := h1.2 _ (List.getElem_mem ha)
  have lb := h2.2 _ (List.getElem_mem hb)
  refine List.ext_getElem (by rw [la, lb]) fun b hc hd => ?_
  have := h a b (by rw [← h1.1]; exact ha) (by rw [← la]; exact hc)
  unfold cellAt at this
  rw [List.getD_eq_getElem?_getD, List.getD_eq_getElem?_getD (l := t), List.getD_eq_getElem?_getD, List.getD_eq_getElem?_getD (l := u), List.getElem?_eq_getElem ha, List.getElem?_eq_getElem hb, Option.getD_some, Option.getD_some, List.getElem?_eq_getElem hc, List.getElem?_eq_getElem hd] at this
  exact this
def Ones (n m : Nat) (t : List (List Int)) : Prop := Rect n m t ∧ ∀ r ∈ t, ∀ x ∈ r, x = 0 ∨ x = 1
theorem Ones.set {n m a b : Nat} {t : List (List Int)} {v : Int} (h : Ones n m t) (ha : a < n) (hv : v = 0 ∨ v = 1) : Ones n m (setCell t a b v) := by
  refine ⟨h.1.setCell ha, fun r hr x hx => ?_⟩
  have hl := h.1.1
  rcases List.mem_or_eq_of_mem_set hr with z | z
  · exact h.2 r z x hx
  · rw [z] at hx
    rcases List.mem_or_eq_of_mem_set hx with w | w
    · exact h.2 _ (rowAt_mem (by omega)) x w
    · rw [w]; exact hv
def CanSwap (n m : Nat) (t : List (List Int)) (i j k l : Int) : Prop := (0 ≤ i ∧ i < n) ∧ (0 ≤ k ∧ k < n) ∧ (0 ≤ j ∧ j < m) ∧ (0 ≤ l ∧ l < m) ∧ cellAt t i.toNat j.toNat = 1 ∧ cellAt t i.toNat l.toNat = 0 ∧ cellAt t k.toNat j.toNat = 0 ∧ cellAt t k.toNat l.toNat = 1
instance {n m : Nat} {t : List (List Int)} {i j k l : Int} : Decidable (CanSwap n m t i j k l) := by unfold CanSwap; infer_instance
end L3
set_option Elab.async false
set_option linter.all false
set_option maxRecDepth 100000
set_option maxHeartbeats 4000000
namespace L3
open PySem L2
def ST0 (K : PySem.W.Frag) (t : TS) (Γ Γn : List Nat) (d : DS) : Prop :=
  ∀ ⦃B0 : Hp⦄ ⦃Dn : Ends⦄ ⦃E : DEnds⦄ ⦃fps : Nat → List Addr⦄ ⦃δ : Dl⦄ ⦃σ : St⦄ ⦃H : Hp⦄, (∀ {fps δ H}, Ok K B0 Γn fps δ σ H → E.nx δ → Dn.nx σ H) → Ok K B0 Γ fps δ σ H → d E δ → t Dn σ H
section
variable {K : PySem.W.Frag} {ρ : Bool} {Γr Γl Γ Γ1 Γ2 Γn M : List Nat} {t u : TS} {te ta tb tx t1 t2 : TE} {de da db dx d1 d2 : DE} {d e : DS}
variable {B0 : Hp} {fps : Nat → List Addr} {δ : Dl} {σ : St} {H H' : Hp}
theorem ST0.st (h : ST0 K t Γ Γn d) : ST K ρ Γr Γl t Γ Γn d := fun _ _ _ _ _ _ _ k o q => h (fun o' z => k.nx o' z) o q
theorem st0_setItem (i : Nat) (he : EM K Γ [] te de) (hx : ER K Γ tx dx) (hi : i ∈ Γ := by decide) : ST0 K (tAsg te (gSub (tVar i) tx rSetL)) Γ Γ (vSetItem i de dx) := by
  intro B0 Dn E fps δ σ H k o h
  refine he.run o (he.mono _ _ _ (fun x z v H1 fp s r n => ?_) h)
  obtain ⟨ds, e, z⟩ := slotL_out z
  obtain ⟨a0, _, _, h1, _⟩ := (o.same s).ownL e
  refine ⟨.ref a0, h1, hx.run (o.same s) (hx.mono _ _ _ (fun y z w H2 s2 r2 => ?_) z)⟩
  obtain ⟨m, em, z9⟩ := asI1_out z
  subst em
  cases ej : ixN ds.length m with
  | none => rw [ej] at z9; exact z9.elim
  | some j =>
    rw [ej] at z9
    obtain ⟨a, xs, e1, e2, e3, fps', o'⟩ := setItem_ok ((o.same s).same s2) hi e (r.same s2) n.nd (fun a ha => (n.mu a ha).same s2) (fun a ha => ⟨o.b0.free (n.fresh a ha), fun j z => o.dom z (n.fresh a ha)⟩) (ixN_lt ej)
    rw [h1] at e1; cases e1
    exact ⟨a0, xs, m, j, rfl, r2.int, e2, by rw [e3]; exact ej, k o' z9⟩
theorem st0_setItem2 (i : Nat) (he : EM K Γ [] te de) (h1 : ER K Γ t1 d1) (h2 : ER K Γ t2 d2) (hi : i ∈ Γ := by decide) : ST0 K (tAsg te (gSub (tOp (rIxL K) (tVar i) t1) t2 rSetL)) Γ Γ (vSetItem2 i de d1 d2) := by
  intro B0 Dn E fps δ σ H k o h
  refine he.run o (he.mono _ _ _ (fun x z v H1 fp s r n => ?_) h)
  obtain ⟨ds, e, z⟩ := slotL_out z
  obtain ⟨a0, xs0, fq0, g1, _⟩ := (o.same s).ownL e
  refine ⟨.ref a0, g1, h1.run (o.same s) (h1.mono _ _ _ (fun y z w H2 s2 r2 => ?_) z)⟩
  obtain ⟨m, em, z8⟩ := asI1_out z
  subst em
  obtain ⟨es, ej, z8⟩ := asLst_out z8
  cases ejj : ixN ds.length m with
  | none => unfold atI at ej; rw [ejj] at ej; cases ej
  | some j =>
    have o2 := (o.same s).same s2
    have ej' : ds[j]? = some (.lst es) := by unfold atI at ej; rw [ejj] at ej; exact ej
    obtain ⟨a, xs, b, ys, fe, e1, e2, e3, e4, e5, e6, e7, e8, e9, _, KK⟩ := inner_ok (es' := []) o2 hi e ej'
    rw [g1] at e1; cases e1
    refine ⟨a0, xs, m, .ref b, rfl, r2.int, .inl (.inl e2), by unfold atI; rw [e3, ejj]; exact e4, h2.run o2 (h2.mono _ _ _ (fun y2 z w2 H3 s3 r3 => ?_) z8)⟩
    obtain ⟨m2, em2, z9⟩ := asI1_out z
    subst em2
    rw [ejj] at z9
    cases ej2 : ixN es.length m2 with
    | none => rw [ej2] at z9; exact z9.elim
    | some j2 =>
      rw [ej2] at z9
      have o3 := o2.same s3
      obtain ⟨a', xs', b', ys', fe', f1, f2, f3, f4, f5, f6, f7, f8, f9, f10, KK⟩ := inner_ok (es' := es.set j2 x) o3 hi e ej'
      rw [g1] at f1; cases f1
      rw [s3 _ _ e2] at f2; cases f2
      rw [e4] at f4; cases f4
      have r4 := r.same (s2.trans s3)
      have src : ∀ c ∈ fp, B0 c = none ∧ ∀ j, c ∉ fps j := fun a ha => ⟨o.b0.free (n.fresh a ha), fun j z => o.dom z (n.fresh a ha)⟩
      obtain ⟨fq', r', nd', k'⟩ := Rfs.set r4 n.nd f6 f7 (fun c hc z => (src c hc).2 i (f9 c z)) (ixN_lt ej2)
      have mu' : ∀ c ∈ fq', Mu H3 c := fun c hc => by
        rcases k' c hc with w | w
        · exact ((o3.own i hi).2 c (f9 c w)).2
        · exact (n.mu c w).same (s2.trans s3)
      obtain ⟨fps', o'⟩ := KK r' nd' (fun z => (k' b z).elim f8 fun w => (src b w).2 i f10) mu' (fun c hc => (k' c hc).imp id fun w => src c w)
      exact ⟨b, ys', m2, j2, rfl, r3.int, f5, by rw [f6.length]; exact ej2, k o' z9⟩
def slotP (δ : Dl) (i : Nat) (P : Addr → D → Prop) : Prop := match δ[i]? with | some (some (.pin a d)) => P a d | _ => False
theorem slotP_out {i : Nat} {P : Addr → D → Prop} (h : slotP δ i P) : ∃ a d, δ[i]? = some (some (.pin a d)) ∧ P a d := by
  unfold slotP at h; split at h
  · exact ⟨_, _, by assumption, h⟩
  · exact h.elim
theorem slotP_in {i : Nat} {P : Addr → D → Prop} {a : Addr} {x : D} (e : δ[i]? = some (some (.pin a x))) (h : P a x) : slotP δ i P := by unfold slotP; rw [e]; exact h
theorem Ok.redata (o : Ok K B0 Γ fps δ σ H) {i : Nat} {x y : D} (e : δ[i]? = some (some x)) (h : ∀ v, σ[i]? = some (some v) → Rf K H x v (fps i) → Rf K H y v (fps i)) : Ok K B0 Γ fps (δ.set i (some y)) σ H := by
  have hl : i < δ.length := (List.getElem?_eq_some_iff.mp e).1
  refine ⟨by rw [List.length_set]; exact o.len, o.b0, fun j d q => ?_, fun j q => ?_, o.own, o.dj⟩
  · by_cases hj : j = i
    · subst hj
      rw [List.getElem?_set_self hl] at q; cases q
      obtain ⟨v, h1, h2⟩ := o.val j x e
      exact ⟨v, h1, h v h1 h2⟩
    · rw [List.getElem?_set_ne (Ne.symm hj)] at q
      exact o.val j d q
  · by_cases hj : j = i
    · subst hj
      exact absurd (List.getElem?_set_self hl) (q y)
    · exact o.non j fun d z => q d (by rw [List.getElem?_set_ne (Ne.symm hj)]; exact z)
def vPin (i : Nat) (d : DS) (E : DEnds) (δ : Dl) : Prop := slotP δ i fun a x => d { E with nx := fun δ' => vVar i δ' fun x' => E.nx (δ'.set i (some (.pin a x'))) } (δ.set i (some x))
theorem st0_pin (i : Nat) (h : ST0 K t Γ Γn d) : ST0 K t Γ Γn (vPin i d) := by
  intro B0 Dn E fps δ σ H k o q
  obtain ⟨a, x, e, q⟩ := slotP_out q
  obtain ⟨v, h1, h2⟩ := o.val i _ e
  obtain rfl : v = .ref a := h2.1
  have o1 : Ok K B0 Γ fps (δ.set i (some x)) σ H := o.redata e fun _ _ z => z.2
  refine h (E := { E with nx := fun δ' => vVar i δ' fun x' => E.nx (δ'.set i (some (.pin a x'))) }) (fun {fps2 δ2 H2} o2 z => ?_) o1 q
  obtain ⟨x', e2, z⟩ := vVar_out z
  exact k (o2.redata (y := .pin a x') e2 fun v hv r => ⟨by rw [h1] at hv; cases hv; rfl, r⟩) z
theorem st_pin (i : Nat) (h : ST0 K t Γ Γn d) : ST K ρ Γr Γl t Γ Γn (vPin i d) := (st0_pin i h).st
def vVarP (i : Nat) (δ : Dl) (P : DK) : Prop := slotP δ i fun _ x => P x
theorem er_varP (i : Nat) : ER K Γ (tVar i) (vVarP i) := ⟨fun δ P P' k h => by obtain ⟨a, x, e, z⟩ := slotP_out h; exact slotP_in e (k _ z), fun {B0 fps δ σ H Q} o q => by
  obtain ⟨a, x, e, q⟩ := slotP_out q
  obtain ⟨v, e1, r⟩ := o.val i _ e
  exact ⟨v, e1, q v H (Same.refl H) ⟨_, r.2⟩⟩⟩
def D.isRef : D → Bool | .lst _ => true | .dic _ => true | .pin _ _ => true | .ins _ _ _ => true | _ => false
theorem Rf.isRef {x : D} {v : V} {fp : List Addr} (h : Rf K H x v fp) (e : x.isRef = true) : ∃ a, v = .ref a := by
  cases x with
  | lst ds => obtain ⟨a, xs, fq, rfl, _⟩ := h; exact ⟨a, rfl⟩
  | dic ds => obtain ⟨a, rfl, _⟩ := h; exact ⟨a, rfl⟩
  | pin a d => exact ⟨a, h.1⟩
  | ins C ns ds => obtain ⟨a, dx, xs, fq, rfl, _⟩ := h; exact ⟨a, rfl⟩
  | _ => cases e
abbrev DSI := List D → (D → D → Prop) → Prop
def DMonoI (S : DSI) : Prop := ∀ xs (P P' : D → D → Prop), (∀ r x, P r x → P' r x) → S xs P → S xs P'
def PostI (K : PySem.W.Frag) (p : Nat) (vs : List V) (B : Hp) (Q : VK) (r x' : D) : Prop :=
  ∀ w H' fp' fpw v, Same B H' → vs[p]? = some v → Rf K H' x' v fp' → fp'.Nodup → (∀ b ∈ fp', B b = none ∧ Mu H' b) → Rf K H' r w fpw → fpw.Nodup → (∀ b ∈ fpw, B b = none ∧ Mu H' b ∧ b ∉ fp') → Q w H'
def spI (K : PySem.W.Frag) (p : Nat) (S : DSI) : Sp := fun vs H Q _ => ∃ B fv ds, Ok K B [p] fv (ds.map some) (vs.map some) H ∧ (∃ a, vs[p]? = some (.ref a)) ∧ S ds (PostI K p vs B Q)
theorem spI_len {p : Nat} {S : DSI} {n : Nat} (hS : ∀ ds P, S ds P → ds.length = n) {vs : List V} {H : Hp} {Q : VK} {E : XK} (h : spI K p S vs H Q E) : vs.length = n := by
  obtain ⟨B, fv, ds, o, _, h⟩ := h
  have := o.len
  rw [List.length_map, List.length_map] at this
  rw [this]; exact hS _ _ h
abbrev endsI (p : Nat) (a : Addr) (P : D → D → Prop) : DEnds := ⟨fun δ => slotP δ p fun a' x => a' = a ∧ P .non x, fun r δ => slotP δ p fun a' x => a' = a ∧ P r x, fun _ => False, fun _ => False⟩
theorem startI_ok {p : Nat} {N : List Str} {ds : List D} {vs : List V} {fv : Nat → List Addr} {a : Addr} (o : Ok K B0 [p] fv (ds.map some) (vs.map some) H) (ha : vs[p]? = some (.ref a)) {x : D} (hx : ds[p]? = some x) :
    Ok K B0 [p] fv (startD N (ds.set p (.pin a x))) (L2.start N vs) H := by
  have hl : vs.length = ds.length := by have := o.len; rwa [List.length_map, List.length_map] at this
  have hp : p < ds.length := (List.getElem?_eq_some_iff.mp hx).1
  have o1 : Ok K B0 [p] fv ((ds.map some).set p (some (.pin a x))) (vs.map some) H := o.redata (x := x) (by rw [List.getElem?_map, hx]; rfl) fun v hv r => ⟨by rw [List.getElem?_map, ha] at hv; cases hv; rfl, r⟩
  have e : (ds.map some).set p (some (.pin a x)) = (ds.set p (.pin a x)).map some := by rw [List.map_set]
  rw [e] at o1
  have hl1 : (ds.set p (.pin a x)).length = ds.length := List.length_set
  generalize ds.set p (.pin a x) = ds1 at *
  unfold startD L2.start
  refine ⟨by rw [List.length_append, List.length_append, List.length_map, List.length_map, List.length_replicate, List.length_replicate]; omega, o1.b0, fun i d q => ?_, fun i q => ?_, o1.own, o1.dj⟩
  · by_cases hi : i < ds1.length
    · rw [List.getElem?_append_left (by simpa using hi)] at q
      rw [List.getElem?_append_left (by rw [List.length_map]; omega)]
      exact o1.val i d q
    · rw [List.getElem?_append_right (by simpa using hi), List.getElem?_replicate] at q
      split at q <;> cases q
  · refine o1.non i fun d z => q d ?_
    have : i < ds1.length := by simpa using (List.getElem?_eq_some_iff.mp z).1
    rw [List.getElem?_append_left (by simpa using this)]
    exact z
theorem fn_valI {N : List Str} {p : Nat} {S : DSI} (hs : ST K true [p] [] t [p] Γn d) (hd : ∀ ds P a x, S ds P → ds[p]? = some x → d (endsI p a P) (startD N (ds.set p (.pin a x)))) (hΓ : p ∈ Γn := by decide) (hS : ∀ ds P, S ds P → p < ds.length) :
    ∀ {vs H Q E}, spI K p S vs H Q E → t { nx := fun _ H' => Q .non H', rt := Q } (L2.start N vs) H := by
  rintro vs H Q E ⟨B, fv, ds, o, ⟨a, ha⟩, h⟩
  have hlt := hS _ _ h
  obtain ⟨x, hx⟩ : ∃ x, ds[p]? = some x := ⟨_, List.getElem?_eq_getElem hlt⟩
  have fin : ∀ {Γ' fps δ σ H' r w fpw}, p ∈ Γ' → Ok K B Γ' fps δ σ H' → Rf K H' r w fpw → fpw.Nodup → (∀ b ∈ fpw, B b = none ∧ Mu H' b ∧ b ∉ fps p) → (slotP δ p fun a' x => a' = a ∧ PostI K p vs B Q r x) → Q w H' := by
    intro Γ' fps δ σ H' r w fpw hp o' rr nd fr z
    obtain ⟨a', x', e, ea, z2⟩ := slotP_out z
    subst ea
    obtain ⟨v, h1, h2⟩ := o'.val p _ e
    obtain rfl : v = .ref a' := h2.1
    exact z2 w H' (fps p) fpw (.ref a') o'.b0 ha h2.2 (o'.own p hp).1 (fun b hb => (o'.own p hp).2 b hb) rr nd fr
  refine hs (E := endsI p a (PostI K p vs B Q)) ⟨fun o' z => ?_, fun _ (z : False) => z.elim, fun _ (z : False) => z.elim, fun o' r i z => ?_⟩ (startI_ok o ha hx) (hd ds _ a x h hx)
  · exact fin (r := .non) (w := .non) (fpw := []) hΓ o' ⟨rfl, rfl⟩ List.nodup_nil (fun b hb => (nomatch hb)) z
  · exact fin (List.mem_singleton.mpr rfl) o' r (i rfl).nd (fun b hb => ⟨(i rfl).nw b hb, (i rfl).mu b hb, (i rfl).dj p (List.mem_singleton.mpr rfl) b hb⟩) z
theorem Rfs.split' {H : Hp} : ∀ {ds : List D} {vs : List V} {fp : List Addr}, Rfs K H ds vs fp → ∃ fps : Nat → List Addr, (∀ i d, ds[i]? = some d → ∃ v, vs[i]? = some v ∧ Rf K H d v (fps i)) ∧ (∀ i, ds.length ≤ i → fps i = []) ∧ ∀ i a, a ∈ fps i → a ∈ fp
  | [], vs, fp, h => ⟨fun _ => [], fun i d e => by simp at e, fun _ _ => rfl, fun _ _ h => (nomatch h)⟩
  | d :: ds, vs, fp, h => by
    obtain ⟨x, r, f1, f2, rfl, rfl, h1, h2⟩ := h
    obtain ⟨fps, k1, k2, k3⟩ := Rfs.split' h2
    refine ⟨fun i => match i with | 0 => f1 | j + 1 => fps j, fun i d' e => ?_, fun i hi => ?_, fun i a hm => ?_⟩
    · cases i with
      | zero => simp at e; subst e; exact ⟨x, rfl, h1⟩
      | succ j => simpa using k1 j d' (by simpa using e)
    · cases i with
      | zero => simp at hi
      | succ j => exact k2 j (by simpa using hi)
    · cases i with
      | zero => exact List.mem_append_left _ hm
      | succ j => exact List.mem_append_right _ (k3 j a hm)
structure AI (K : PySem.W.Frag) (Γ : List Nat) (i p : Nat) (t : TA) (d : DA) : Prop where
  mono : ∀ δ (P P' : List D → Prop), (∀ x, P x → P' x) → d δ P → d δ P'
  run : ∀ {B0 fps δ σ H Q}, Ok K B0 Γ fps δ σ H → d δ (fun xs => ∀ vs H' (fv : Nat → List Addr), Same H H' → vs.length = xs.length → (∀ l x, xs[l]? = some x → ∃ v, vs[l]? = some v ∧ Rf K H' x v (fv l)) → (∀ l, xs.length ≤ l → fv l = []) → fv p = fps i → p < xs.length → (∃ v, vs[p]? = some v ∧ σ[i]? = some (some v)) →
    (∀ l, l ≠ p → ∀ a ∈ fv l, a ∉ fps i) → Q vs H') → t σ H Q
structure EX (K : PySem.W.Frag) (Γ : List Nat) (i : Nat) (t : TE) (d : DE) : Prop where
  mono : ∀ δ (P P' : DK), (∀ x, P x → P' x) → d δ P → d δ P'
  run : ∀ {B0 fps δ σ H Q}, Ok K B0 Γ fps δ σ H → d δ (fun x => ∀ v H' fp, Same H H' → Rf K H' x v fp → (∀ a ∈ fp, a ∉ fps i) → Q v H') → t σ H Q
theorem ex_es {i : Nat} (h : ES K Γ te de) (hi : i ∈ Γ := by decide) : EX K Γ i te de := ⟨h.mono, fun o q => h.run o (h.mono _ _ _ (fun x z v H' fp s r n => z v H' fp s r fun a ha => n i hi a ha) q)⟩
theorem ex_var {i : Nat} (j : Nat) (hi : i ∈ Γ := by decide) (hj : j ≠ i := by decide) : EX K Γ i (tVar j) (vVar j) := ⟨vVar_mono, fun {B0 fps δ σ H Q} o q => by
  obtain ⟨d, e, q⟩ := vVar_out q
  obtain ⟨v, e1, r⟩ := o.val j d e
  exact ⟨v, e1, q v H _ (Same.refl H) r fun a ha z => o.dj i hi j hj a z ha⟩⟩
structure AX (K : PySem.W.Frag) (Γ : List Nat) (i : Nat) (t : TA) (d : DA) : Prop where
  mono : ∀ δ (P P' : List D → Prop), (∀ x, P x → P' x) → d δ P → d δ P'
  run : ∀ {B0 fps δ σ H Q}, Ok K B0 Γ fps δ σ H → d δ (fun xs => ∀ vs H' fp, Same H H' → Rfs K H' xs vs fp → (∀ a ∈ fp, a ∉ fps i) → Q vs H') → t σ H Q
theorem ax_nil {i : Nat} : AX K Γ i tNil vNil := ⟨fun _ _ _ k h => k _ h, fun {_ _ _ _ H _} o q => q [] H [] (Same.refl H) ⟨rfl, rfl⟩ fun _ h => (nomatch h)⟩
theorem ax_cons {i : Nat} {ta : TA} {da : DA} (he : EX K Γ i te de) (ha : AX K Γ i ta da) : AX K Γ i (tCons te ta) (vCons de da) :=
  ⟨fun δ P P' k h => he.mono _ _ _ (fun x z => ha.mono _ _ _ (fun xs z => k _ z) z) h, fun {B0 fps δ σ H Q} o q =>
    he.run o (he.mono _ _ _ (fun x z v H1 fp s1 r n => ha.run (o.same s1) (ha.mono _ _ _ (fun xs z vs H' fq s2 rs ns => z (v :: vs) H' (fp ++ fq) (s1.trans s2) ⟨v, vs, fp, fq, rfl, rfl, r.same s2, rs⟩ fun a ha => (List.mem_append.mp ha).elim (n a) (ns a)) z)) q)⟩
theorem ai_here (i : Nat) {ta : TA} {da : DA} (ha : AX K Γ i ta da) : AI K Γ i 0 (tCons (tVar i) ta) (vCons (vVar i) da) :=
  ⟨fun δ P P' k h => vVar_mono _ _ _ (fun x z => ha.mono _ _ _ (fun xs z => k _ z) z) h, fun {B0 fps δ σ H Q} o q => by
    obtain ⟨x, e, q⟩ := vVar_out q
    obtain ⟨v, h1, h2⟩ := o.val i x e
    refine ⟨v, h1, ha.run o (ha.mono _ _ _ (fun xs z vs H' fp s r n => ?_) q)⟩
    obtain ⟨fv, k1, k2, k3⟩ := r.split'
    refine z (v :: vs) H' (fun l => match l with | 0 => fps i | l + 1 => fv l) s (by rw [List.length_cons, List.length_cons, r.length]) (fun l y ey => ?_) (fun l hl => ?_) rfl (by rw [List.length_cons]; omega) ⟨v, rfl, h1⟩ (fun l hl a hm => ?_)
    · cases l with
      | zero => simp at ey; subst ey; exact ⟨v, rfl, h2.same s⟩
      | succ l => simpa using k1 l y (by simpa using ey)
    · cases l with
      | zero => simp at hl
      | succ l => exact k2 l (by simpa using hl)
    · cases l with
      | zero => exact absurd rfl hl
      | succ l =>
        exact n a (k3 l a hm)⟩
theorem ai_next {i p : Nat} {te : TE} {de : DE} {ta : TA} {da : DA} (he : EX K Γ i te de) (ha : AI K Γ i p ta da) : AI K Γ i (p + 1) (tCons te ta) (vCons de da) :=
  ⟨fun δ P P' k h => he.mono _ _ _ (fun x z => ha.mono _ _ _ (fun xs z => k _ z) z) h, fun {B0 fps δ σ H Q} o q => by
    refine he.run o (he.mono _ _ _ (fun x z v H1 fp s1 r n => ?_) q)
    refine ha.run (o.same s1) (ha.mono _ _ _ (fun xs z vs H' fv s hl k1 k2 k3 hp hv k4 => ?_) z)
    obtain ⟨v0, hv1, hv2⟩ := hv
    refine z (v :: vs) H' (fun l => match l with | 0 => fp | l + 1 => fv l) (s1.trans s) (by rw [List.length_cons, List.length_cons, hl]) (fun l y ey => ?_) (fun l hl => ?_) k3 (by rw [List.length_cons]; omega) ⟨v0, by simpa using hv1, hv2⟩ (fun l hl a hm => ?_)
    · cases l with
      | zero => simp at ey; subst ey; exact ⟨v, rfl, r.same s⟩
      | succ l => simpa using k1 l y (by simpa using ey)
    · cases l with
      | zero => simp at hl
      | succ l => exact k2 l (by simpa using hl)
    · cases l with
      | zero => exact n a hm
      | succ l => exact k4 l (fun z => hl (by rw [z])) a hm⟩
theorem callI_run {Ex : XK} {i p : Nat} {S : DSI} {ta : TA} {da : DA} (hS : DMonoI S) (ha : AI K Γ i p ta da) (hi : i ∈ Γ) (o : Ok K B0 Γ fps δ σ H) {Q : VK}
    (h : da δ fun xs => (∀ x, xs[p]? = some x → x.isRef = true) ∧ S xs fun r x' => ∀ w H' fps' fpw, Ok K B0 Γ fps' (δ.set i (some x')) σ H' → Rf K H' r w fpw → fpw.Nodup → (∀ b ∈ fpw, B0 b = none ∧ Mu H' b ∧ ∀ j, b ∉ fps' j) → Q w H') :
    tCall (spI K p S) [] Ex ta σ H Q := by
  refine ha.run o (ha.mono _ _ _ (fun xs z vs H1 fv s hl k1 k2 k3 hp hv k4 => ?_) h)
  rw [List.append_nil]
  obtain ⟨z1, z2⟩ := z
  obtain ⟨v0, hv1, hv2⟩ := hv
  have o1 := o.same s
  obtain ⟨x, hx⟩ : ∃ x, xs[p]? = some x := ⟨_, List.getElem?_eq_getElem hp⟩
  obtain ⟨v, e1, e2⟩ := k1 p x hx
  rw [hv1] at e1; cases e1
  obtain ⟨a, rfl⟩ := e2.isRef (z1 x hx)
  have hown := o1.own i hi
  refine ⟨fun b => if b ∈ fps i then none else H1 b, fv, xs, ⟨by rw [List.length_map, List.length_map, hl], fun b u e => ?_, fun l d e => ?_, fun l e => ?_, fun l hl' => ?_, fun l hl' j hj b hb => ?_⟩, ⟨a, hv1⟩, hS _ _ _ (fun r x' z => ?_) z2⟩
  · split at e
    · cases e
    · exact e
  · rw [List.getElem?_map] at e
    cases q : xs[l]? with
    | none => rw [q] at e; cases e
    | some y =>
      rw [q] at e; cases e
      obtain ⟨v, e3, e4⟩ := k1 l d q
      exact ⟨v, by rw [List.getElem?_map, e3]; rfl, e4⟩
  · by_cases hlt : l < xs.length
    · exact absurd (by rw [List.getElem?_map, List.getElem?_eq_getElem hlt]; rfl) (e (xs[l]))
    · exact k2 l (by omega)
  · cases List.mem_singleton.mp hl'
    rw [k3]
    exact ⟨hown.1, fun b hb => ⟨if_pos hb, (hown.2 b hb).2⟩⟩
  · cases List.mem_singleton.mp hl'
    rw [k3] at hb
    exact fun w => k4 j hj b w hb
  · intro w H' fp' fpw v sB hv r' nd mu rr ndw frw
    rw [hv1] at hv; cases hv
    have fresh : ∀ b, (if b ∈ fps i then none else H1 b) = none → b ∈ fps i ∨ (B0 b = none ∧ ∀ j, b ∉ fps j) := fun b hb => by
      by_cases q : b ∈ fps i
      · exact .inl q
      · rw [if_neg q] at hb
        exact .inr ⟨o1.b0.free hb, fun j z => o1.dom z hb⟩
    have o2 := o1.write hi (fp' := fp') (d' := x') hv2 r' nd (fun b hb => (mu b hb).2) (fun b hb => fresh b (mu b hb).1) (fun b u hb e => sB b u (by show (if b ∈ fps i then none else H1 b) = some u; rw [if_neg hb]; exact e))
    refine z w H' _ fpw o2 rr ndw fun b hb => ⟨?_, (frw b hb).2.1, fun j => ?_⟩
    · rcases fresh b (frw b hb).1 with q | q
      · exact (hown.2 b q).1
      · exact q.1
    · by_cases hj : j = i
      · rw [if_pos hj]; exact (frw b hb).2.2
      · rw [if_neg hj]
        rcases fresh b (frw b hb).1 with q | q
        · exact o1.dj i hi j hj b q
        · exact q.2 j
theorem Ok.setNew (o : Ok K B0 Γ fps δ σ H) (j : Nat) {x : D} {v : V} {fp : List Addr} (r : Rf K H x v fp) (nd : fp.Nodup) (fr : ∀ b ∈ fp, B0 b = none ∧ Mu H b ∧ ∀ l, b ∉ fps l) :
    Ok K B0 (j :: minus (minus Γ []) [j]) (fun l => if l = j then (if j < δ.length then fp else []) else fps l) (δ.set j (some x)) (σ.set j (some v)) H := by
  have mem : ∀ l, l ∈ j :: minus (minus Γ []) [j] → l ≠ j → l ∈ Γ := fun l hl hn => by
    rcases List.mem_cons.mp hl with z | z
    · exact absurd z hn
    · exact (mem_minus.mp (mem_minus.mp z).1).1
  refine ⟨by simp [o.len], o.b0, fun l d e => ?_, fun l h => ?_, fun l hl => ?_, fun l hl k hk a ha => ?_⟩
  · by_cases h : l = j
    · subst h
      rw [List.getElem?_set] at e
      by_cases hlt : l < δ.length
      · simp [hlt] at e
        subst e
        exact ⟨v, by rw [List.getElem?_set_self (by rw [o.len]; exact hlt)], by rw [if_pos rfl, if_pos hlt]; exact r⟩
      · simp [hlt] at e
    · rw [List.getElem?_set_ne (Ne.symm h)] at e
      rw [List.getElem?_set_ne (Ne.symm h), if_neg h]
      exact o.val l d e
  · by_cases h' : l = j
    · subst h'
      rw [if_pos rfl]
      by_cases hlt : l < δ.length
      · exact absurd (List.getElem?_set_self hlt) (h x)
      · rw [if_neg hlt]
    · rw [if_neg h']
      exact o.non l fun d z => h d (by rw [List.getElem?_set_ne (Ne.symm h')]; exact z)
  · by_cases h : l = j
    · subst h
      rw [if_pos rfl]
      split
      · exact ⟨nd, fun a ha => ⟨(fr a ha).1, (fr a ha).2.1⟩⟩
      · exact ⟨List.nodup_nil, fun a ha => (nomatch ha)⟩
    · rw [if_neg h]
      exact o.own l (mem l hl h)
  · by_cases h : l = j
    · subst h
      rw [if_pos rfl] at ha
      rw [if_neg hk]
      split at ha
      · exact (fr a ha).2.2 k
      · exact (nomatch ha)
    · rw [if_neg h] at ha
      by_cases h2 : k = j
      · rw [if_pos h2]
        split
        · exact fun z => (fr a z).2.2 l ha
        · exact List.not_mem_nil
      · rw [if_neg h2]
        exact o.dj l (mem l hl h) k hk a ha
def vCallI (i p : Nat) (S : DSI) (da : DA) (E : DEnds) (δ : Dl) : Prop := da δ fun xs => (∀ x, xs[p]? = some x → x.isRef = true) ∧ S xs fun _ x' => E.nx (δ.set i (some x'))
theorem st0_callI {Ex : XK} {S : DSI} {ta : TA} {da : DA} (i p : Nat) (hS : DMonoI S) (ha : AI K Γ i p ta da) (hi : i ∈ Γ := by decide) : ST0 K (tDrop (tCall (spI K p S) [] Ex ta)) Γ Γ (vCallI i p S da) :=
  fun {B0 Dn E fps δ σ H} k o h => callI_run hS ha hi o (ha.mono _ _ _ (fun xs z => ⟨z.1, hS _ _ _ (fun r x' z w H' fps' fpw o' _ _ _ => k o' z) z.2⟩) h)
def vSetI (i p j : Nat) (S : DSI) (da : DA) (E : DEnds) (δ : Dl) : Prop := da δ fun xs => (∀ x, xs[p]? = some x → x.isRef = true) ∧ S xs fun r x' => E.nx ((δ.set i (some x')).set j (some r))
theorem st_setI {Ex : XK} {S : DSI} {ta : TA} {da : DA} (i p j : Nat) (hS : DMonoI S) (ha : AI K Γ i p ta da) (hi : i ∈ Γ := by decide) : ST K ρ Γr Γl (tAsg (tCall (spI K p S) [] Ex ta) (gName j)) Γ (j :: minus (minus Γ []) [j]) (vSetI i p j S da) :=
  fun {B0 Dn E fps δ σ H} k o h => callI_run hS ha hi o (ha.mono _ _ _ (fun xs z => ⟨z.1, hS _ _ _ (fun r x' z w H' fps' fpw o' rr nd fr => k.nx (o'.setNew j rr nd fr) z) z.2⟩) h)
end
end L3
set_option Elab.async false
set_option linter.all false
set_option maxRecDepth 100000
set_option maxHeartbeats 4000000
namespace L2
open PySem PySem.Spec PyProof.Rows
end L2
namespace L3
open PySem L2
section
variable {K : PySem.W.Frag} {ρ : Bool} {Γr Γl Γ Γ1 Γ2 Γn M : List Nat} {t u : TS} {te ta tb td ty tv : TE} {de da db dd dk dv : DE} {d e : DS}
def ofV : V → D | .non => .non | .bl b => .bl b | .int i => .int i | .str x => .str x | _ => .non
theorem Rf.ofV {H : Hp} {v : V} (h : flatV v = true) : Rf K H (ofV v) v [] := by
  cases v <;> first | exact ⟨rfl, rfl⟩ | cases h
theorem em_dnew : EM K Γ [] tDNewK (vC (.dic [])) := ⟨fun _ _ _ k h => k _ h, fun {B0 fps δ σ H Q} o q p hp => q (.ref p) _ [p] (Same.new' hp) ⟨p, rfl, upd_same, fun _ h => (nomatch h), rfl⟩
  ⟨by simp, fun a ha => by cases List.mem_singleton.mp ha; exact .inr (.inl ⟨_, upd_same⟩), fun a ha => by cases List.mem_singleton.mp ha; exact .inl hp⟩⟩
def asDic (x : D) (P : List (Key × V) → Prop) : Prop := match x with | .dic kvs => P kvs | _ => False
theorem asDic_out {x : D} {P : List (Key × V) → Prop} (h : asDic x P) : ∃ kvs, x = .dic kvs ∧ P kvs := by
  unfold asDic at h; split at h
  · exact ⟨_, rfl, h⟩
  · exact h.elim
theorem asDic_dic {kvs : List (Key × V)} {P : List (Key × V) → Prop} : asDic (.dic kvs) P ↔ P kvs := Iff.rfl
def asV (o : Option V) (P : V → Prop) : Prop := match o with | some v => P v | none => False
theorem asV_out {o : Option V} {P : V → Prop} (h : asV o P) : ∃ v, o = some v ∧ P v := by
  unfold asV at h; split at h
  · exact ⟨_, rfl, h⟩
  · exact h.elim
theorem asV_in {o : Option V} {v : V} {P : V → Prop} (e : o = some v) (h : P v) : asV o P := by rw [e]; exact h
def vDGet (dd dk : DE) (δ : Dl) (P : DK) : Prop := dd δ fun x => dk δ fun y => asI [y] fun n => asDic x fun kvs => asV (valV kvs (.inl n)) fun v => P (ofV v)
theorem valV_mem {kvs : List (Key × V)} {k : Key} {v : V} (h : valV kvs k = some v) : ∃ p ∈ kvs, p.2 = v := by
  unfold valV at h
  cases q : kvs.find? fun kv => decide (kv.1 = k) with
  | none => rw [q] at h; cases h
  | some p => rw [q] at h; cases h; exact ⟨p, List.mem_of_find?_eq_some q, rfl⟩
theorem er_dget (hd : ER K Γ td dd) (hk : ER K Γ ty dk) : ER K Γ (tDGet td ty) (vDGet dd dk) :=
  ⟨fun δ P P' k h => hd.mono _ _ _ (fun x z => hk.mono _ _ _ (fun y z => by
      obtain ⟨n, rfl, z⟩ := asI1_out z
      obtain ⟨kvs, rfl, z⟩ := asDic_out z
      obtain ⟨v, e, z⟩ := asV_out z
      exact asV_in e (k _ z)) z) h,
   fun {B0 fps δ σ H Q} o h => hd.run o (hd.mono _ _ _ (fun x z v H1 s1 r1 => hk.run (o.same s1) (hk.mono _ _ _ (fun y z w H2 s2 r2 => by
      obtain ⟨n, rfl, z⟩ := asI1_out z
      obtain ⟨kvs, rfl, z⟩ := asDic_out z
      obtain ⟨u, e, z⟩ := asV_out z
      obtain ⟨fp, a, rfl, ha, hf, _⟩ := r1
      obtain ⟨p, hp, rfl⟩ := valV_mem e
      refine ⟨a, p.2, rfl, ?_, z _ H2 (s1.trans s2) ⟨[], Rf.ofV (hf p hp)⟩⟩
      rw [r2.int]
      have := DGet.k (k := Sum.inl n) (s2 _ _ ha)
      rw [e] at this
      exact this) z)) h)⟩
def vDIn (neg : Bool) (dk dd : DE) (δ : Dl) (P : DK) : Prop := dk δ fun y => dd δ fun x => asI [y] fun n => asDic x fun kvs => P (.bl (if neg then !(valV kvs (.inl n)).isSome else (valV kvs (.inl n)).isSome))
theorem em_dnotin (hk : ER K Γ ty dk) (hd : ER K Γ td dd) : EM K Γ [] (tDNotIn ty td) (vDIn true dk dd) :=
  ⟨fun δ P P' k h => hk.mono _ _ _ (fun x z => hd.mono _ _ _ (fun y z => by
      obtain ⟨n, rfl, z⟩ := asI1_out z
      obtain ⟨kvs, rfl, z⟩ := asDic_out z
      exact k _ z) z) h,
   fun {B0 fps δ σ H Q} o h => hk.run o (hk.mono _ _ _ (fun x z v H1 s1 r1 => hd.run (o.same s1) (hd.mono _ _ _ (fun y z w H2 s2 r2 => by
      obtain ⟨n, rfl, z⟩ := asI1_out z
      obtain ⟨kvs, rfl, z⟩ := asDic_out z
      obtain ⟨fp, a, rfl, ha, hf, _⟩ := r2
      rw [r1.int]
      exact ⟨a, _, rfl, DGet.k (k := Sum.inl n) ha, z _ H2 [] (s1.trans s2) ⟨rfl, rfl⟩ Nw.nil⟩) z)) h)⟩
theorem putK_flat {kvs : List (Key × V)} {k : Key} {v : V} (h : ∀ p ∈ kvs, flatV p.2 = true) (hv : flatV v = true) : ∀ p ∈ putK kvs k v, flatV p.2 = true := by
  intro p hp
  unfold putK at hp
  split at hp
  · obtain ⟨q, hq, rfl⟩ := List.mem_map.mp hp
    split
    · exact hv
    · exact h q hq
  · rcases List.mem_append.mp hp with z | z
    · exact h p z
    · cases List.mem_singleton.mp z; exact hv
def slotD (δ : Dl) (i : Nat) (P : List (Key × V) → Prop) : Prop := vVar i δ fun x => asDic x P
def vDPut (i : Nat) (dk dv : DE) (E : DEnds) (δ : Dl) : Prop := dv δ fun x => x.scal = true ∧ slotD δ i fun kvs => dk δ fun y => asI [y] fun n => kvs.length < 1000 ∧ E.nx (δ.set i (some (.dic (putK kvs (.inl n) x.toV))))
theorem st0_dput (i : Nat) (hk : ER K Γ ty dk) (hv : ER K Γ tv dv) (hi : i ∈ Γ := by decide) : ST0 K (sDPut (tVar i) ty tv) Γ Γ (vDPut i dk dv) := by
  intro B0 Dn E fps δ σ H k o h
  refine hv.run o (hv.mono _ _ _ (fun x z v H1 s1 r => ?_) h)
  obtain ⟨zs, z⟩ := z
  obtain ⟨fp, r⟩ := r
  obtain ⟨rfl, rfl⟩ := r.scal zs
  obtain ⟨d, e, z⟩ := vVar_out z
  obtain ⟨kvs, rfl, z⟩ := asDic_out z
  have o1 := o.same s1
  obtain ⟨v, h1, h2⟩ := o1.val i _ e
  obtain ⟨a, rfl, ha, hf, hfp⟩ := id h2
  refine ⟨.ref a, h1, hk.run o1 (hk.mono _ _ _ (fun y z w H2 s2 r2 => ?_) z)⟩
  obtain ⟨n, rfl, z⟩ := asI1_out z
  have o2 := o1.same s2
  refine ⟨a, upd H2 a (.dK (putK kvs (.inl n) x.toV)), rfl, ?_, k (o2.write hi (d' := .dic (putK kvs (.inl n) x.toV)) (fp' := [a]) h1 ⟨a, rfl, upd_same, putK_flat hf (flat_scal zs), rfl⟩ (by simp) (fun b hb => ?_) (fun b hb => ?_) ?_) z.2⟩
  · rw [r2.int]
    exact DPut.k (k := Sum.inl n) (s2 _ _ ha) (small1000 (Nat.le_of_lt z.1))
  · cases List.mem_singleton.mp hb; exact .inr (.inl ⟨_, upd_same⟩)
  · cases List.mem_singleton.mp hb; rw [hfp]; exact .inl (List.mem_singleton.mpr rfl)
  · rw [hfp]; exact updKeep (List.mem_singleton.mpr rfl)
def vIndex (da dk : DE) (δ : Dl) (P : DK) : Prop := da δ fun x => asLst (some x) fun ds => ds.all D.scal = true ∧ dk δ fun y => y.scal = true ∧ ∃ j : Nat, (∃ z, ds[j]? = some z ∧ eqV z.toV y.toV = true) ∧ (∀ m z, m < j → ds[m]? = some z → eqV z.toV y.toV = false) ∧ P (.int j)
theorem em_index (ha : ER K Γ ta da) (hk : ER K Γ ty dk) : EM K Γ [] (tBM K "list" (rIndex K) ta (tCons ty tNil)) (vIndex da dk) :=
  ⟨fun δ P P' k h => ha.mono _ _ _ (fun x z => by
      obtain ⟨ds, e, z1, z⟩ := asLst_out z
      refine asLst_in e ⟨z1, hk.mono _ _ _ (fun y z => ?_) z⟩
      obtain ⟨z0, j, z2, z3, z4⟩ := z
      exact ⟨z0, j, z2, z3, k _ z4⟩) h,
   fun {B0 fps δ σ H Q} o h => by
    refine ha.run o (ha.mono _ _ _ (fun x z v H1 s1 r1 => ?_) h)
    obtain ⟨ds, e, z1, z'⟩ := asLst_out z
    clear z
    cases e
    obtain ⟨fp, a, xs, fq, rfl, hl, _, rs⟩ := r1
    obtain ⟨rfl, _⟩ := rs.scals z1
    refine ⟨.inl ⟨rfl, _, .inl (.inl hl)⟩, hk.run (o.same s1) (hk.mono _ _ _ (fun y z w H2 s2 r2 => ?_) z')⟩
    obtain ⟨z0, j, ⟨u, hu, eu⟩, z3, z4⟩ := z
    obtain ⟨fp2, r2⟩ := r2
    obtain ⟨rfl, _⟩ := r2.scal z0
    refine ⟨a, _, _, j, rfl, rfl, s2 _ _ hl, flat_scal z0, ?_, ⟨u.toV, by rw [List.getElem?_map, hu]; rfl, eu⟩, fun m w hm hw => ?_, z4 _ H2 [] (s1.trans s2) ⟨rfl, rfl⟩ Nw.nil⟩
    · rw [List.all_map, List.all_eq_true]
      rw [List.all_eq_true] at z1
      exact fun y hy => flat_scal (z1 y hy)
    · rw [List.getElem?_map] at hw
      cases q : ds[m]? with
      | none => rw [q] at hw; cases hw
      | some d => rw [q] at hw; cases hw; exact z3 m d hm q⟩
def vSort (xs : List D) (P : DK) : Prop := match xs with | [x] => asNs x fun ns => ns.length < 64 ∧ ∀ ms : List Int, ms.Perm ns → ms.Pairwise (· ≤ ·) → P (dI ms) | _ => False
theorem vSort_ints {ns : List Int} {P : DK} : vSort [dI ns] P ↔ ns.length < 64 ∧ ∀ ms : List Int, ms.Perm ns → ms.Pairwise (· ≤ ·) → P (dI ms) := asNs_ints
theorem c_sort : CallV K (fun xs H Q => ∃ (a : Addr) (ns : List Int), xs = [.ref a] ∧ SqL K H a (ns.map V.int) ∧ ns.length < 64 ∧ ∀ (l : Addr) (ms : List Int), H l = none → ms.Perm ns → ms.Pairwise (· ≤ ·) → Q (.ref l) (upd H l (.lst (ms.map V.int)))) vSort :=
  ⟨fun xs P P' k h => by
    unfold vSort at h ⊢
    revert h
    split
    · exact fun h => by obtain ⟨ns, e, z⟩ := asNs_out h; exact asNs_in e ⟨z.1, fun ms a b => k _ (z.2 ms a b)⟩
    · exact id,
   fun {H xs vs Q} r h => by
    unfold vSort at h
    split at h
    · obtain ⟨v, rfl, r0⟩ := r.one
      obtain ⟨ns, e, z⟩ := asNs_out h
      obtain ⟨a, ys, fq, rfl, hs, hr⟩ := r0.seq e
      rw [hr.intsV] at hs
      exact ⟨a, ns, rfl, hs, z.1, fun l ms hl hp ho => z.2 ms hp ho _ _ [l] (Same.new' hl) (Rf.ofInts upd_same) (Nw.one hl upd_same).any⟩
    · exact h.elim⟩
def slotT (δ : Dl) (i : Nat) (P : List D → Prop) : Prop := match δ[i]? with | some (some (.tup ds)) => P ds | _ => False
def vClearT (i : Nat) (dk : DE) (E : DEnds) (δ : Dl) : Prop := slotT δ i fun ds => dk δ fun y => asI [y] fun m => 0 ≤ m ∧ asLst (ds[m.toNat]?) fun _ => E.nx (δ.set i none)
theorem isRef_lst {ds : List D} : (D.lst ds).isRef = true := rfl
theorem isRef_dic {ds : List (Key × V)} : (D.dic ds).isRef = true := rfl
theorem ofV_int {i : Int} : ofV (.int i) = .int i := rfl
theorem ofV_bl {b : Bool} : ofV (.bl b) = .bl b := rfl
theorem ofV_non : ofV .non = .non := rfl
def vLenD (xs : List D) (P : DK) : Prop := match xs with | [.dic kvs] => P (.int kvs.length) | _ => False
theorem vLenD_dic {kvs : List (Key × V)} {P : DK} : vLenD [.dic kvs] P ↔ P (.int kvs.length) := Iff.rfl
end
end L3
set_option Elab.async false
set_option linter.all false
set_option maxRecDepth 100000
set_option maxHeartbeats 4000000
namespace Mat
theorem nodup_sub : ∀ {l l' : List Nat}, l.Nodup → (∀ x ∈ l, x ∈ l') → l.length ≤ l'.length
  | [], _, _, _ => Nat.zero_le _
  | x :: l, l', h, s => by
    obtain ⟨h1, h2⟩ := List.nodup_cons.mp h
    have hx := s x List.mem_cons_self
    have := nodup_sub (l' := l'.erase x) h2 fun y hy => (List.mem_erase_of_ne (fun z => h1 (by rw [← z]; exact hy))).mpr (s y (List.mem_cons_of_mem _ hy))
    rw [List.length_erase_of_mem hx] at this
    have : 0 < l'.length := List.length_pos_of_mem hx
    rw [List.length_cons]; omega
theorem nodup_lt {l : List Nat} {n : Nat} (h : l.Nodup) (hl : ∀ x ∈ l, x < n) : l.length ≤ n := by
  have := nodup_sub h (l' := List.range n) fun x hx => List.mem_range.mpr (hl x hx)
  rwa [List.length_range] at this
abbrev Mk := Nat → Nat → Prop
structure Mt (n : Nat) (M : Mk) (ms : List (Option Nat)) : Prop where
  len : ms.length = n
  ok : ∀ (i c : Nat), ms[i]? = some (some c) → c < n ∧ M i c
  inj : ∀ (i j c : Nat), ms[i]? = some (some c) → ms[j]? = some (some c) → i = j
structure Fo (n : Nat) (M : Mk) (ms : List (Option Nat)) (src : Nat → Option Nat) (rs : List Nat) (row : Nat) : Prop where
  nd : rs.Nodup
  lt : ∀ r ∈ rs, r < n
  hd : rs[0]? = some row
  root : ms[row]? = some none
  up : ∀ (k r : Nat), 0 < k → rs[k]? = some r → ∃ c, ms[r]? = some (some c) ∧ ∃ k' r', k' < k ∧ rs[k']? = some r' ∧ src c = some r'
  col : ∀ c s, src c = some s → c < n ∧ M s c
def Dom (ms : List (Option Nat)) (i : Nat) : Prop := ∃ c, ms[i]? = some (some c)
theorem get_of {ms : List (Option Nat)} {i : Nat} (h : i < ms.length) : ∃ o, ms[i]? = some o := ⟨_, List.getElem?_eq_getElem h⟩
structure Sh (n : Nat) (M : Mk) (ms ms' : List (Option Nat)) (src : Nat → Option Nat) (rs : List Nat) (c k : Nat) : Prop where
  mt : Mt n M ms'
  fr : ∀ (i : Nat), ms'[i]? ≠ some (some c)
  at_ : ∃ r, rs[k]? = some r ∧ src c = some r
  ag : ∀ (k' r : Nat), k' ≤ k → rs[k']? = some r → ms'[r]? = ms[r]?
  dom : ∀ i, Dom ms' i ↔ Dom ms i
theorem set_mt {n : Nat} {M : Mk} {ms : List (Option Nat)} {r c : Nat} (h : Mt n M ms) (hr : r < n) (hc : c < n) (hm : M r c) (fr : ∀ (i : Nat), ms[i]? ≠ some (some c)) : Mt n M (ms.set r (some c)) := by
  have hl := h.len
  refine ⟨by rw [List.length_set]; exact hl, fun i d e => ?_, fun i j d e1 e2 => ?_⟩
  · by_cases hi : r = i
    · subst hi
      rw [List.getElem?_set_self (by omega)] at e; cases e
      exact ⟨hc, hm⟩
    · rw [List.getElem?_set_ne hi] at e
      exact h.ok i d e
  · by_cases hi : r = i
    · by_cases hj : r = j
      · omega
      · subst hi
        rw [List.getElem?_set_self (by omega)] at e1; cases e1
        rw [List.getElem?_set_ne hj] at e2
        exact absurd e2 (fr j)
    · rw [List.getElem?_set_ne hi] at e1
      by_cases hj : r = j
      · subst hj
        rw [List.getElem?_set_self (by omega)] at e2; cases e2
        exact absurd e1 (fr i)
      · rw [List.getElem?_set_ne hj] at e2
        exact h.inj i j d e1 e2
theorem sh_turn {n : Nat} {M : Mk} {ms ms' : List (Option Nat)} {src : Nat → Option Nat} {rs : List Nat} {row c k r : Nat} (F : Fo n M ms src rs row) (h : Sh n M ms ms' src rs c k) (hr : src c = some r) (hlm : ms.length = n) :
    r < n ∧ ((ms'[r]? = some none ∧ Mt n M (ms'.set r (some c)) ∧ ∀ i, Dom (ms'.set r (some c)) i ↔ Dom ms i ∨ i = row) ∨ (∃ c1 k1, ms'[r]? = some (some c1) ∧ k1 < k ∧ Sh n M ms (ms'.set r (some c)) src rs c1 k1)) := by
  obtain ⟨r', e1, e2⟩ := h.at_
  rw [hr] at e2; cases e2
  have hrn : r < n := F.lt r (List.mem_of_getElem? e1)
  obtain ⟨hc, hM⟩ := F.col c r hr
  have hl := h.mt.len
  have hmt := set_mt h.mt hrn hc hM h.fr
  have hag := h.ag k r (Nat.le_refl _) e1
  refine ⟨hrn, ?_⟩
  by_cases hk : k = 0
  · subst hk
    rw [F.hd] at e1; cases e1
    refine .inl ⟨by rw [hag]; exact F.root, hmt, fun i => ?_⟩
    constructor
    · rintro ⟨d, e⟩
      by_cases hi : row = i
      · exact .inr hi.symm
      · rw [List.getElem?_set_ne hi] at e
        exact .inl ((h.dom i).mp ⟨d, e⟩)
    · rintro (z | z)
      · by_cases hi : row = i
        · subst hi; exact ⟨c, List.getElem?_set_self (by omega)⟩
        · obtain ⟨d, e⟩ := (h.dom i).mpr z
          exact ⟨d, by rw [List.getElem?_set_ne hi]; exact e⟩
      · subst z; exact ⟨c, List.getElem?_set_self (by omega)⟩
  · obtain ⟨c1, e3, k1, r1, hk1, e4, e5⟩ := F.up k r (by omega) e1
    have e3' : ms'[r]? = some (some c1) := by rw [hag]; exact e3
    refine .inr ⟨c1, k1, e3', hk1, hmt, fun i e => ?_, ⟨r1, e4, e5⟩, fun k' r2 hk' e => ?_, fun i => ?_⟩
    · by_cases hi : r = i
      · subst hi
        rw [List.getElem?_set_self (by omega)] at e
        cases e
        exact h.fr r e3'
      · rw [List.getElem?_set_ne hi] at e
        exact hi (h.mt.inj r i c1 e3' e)
    · have hne : r ≠ r2 := fun z => by
        subst z
        have h1 := (List.getElem?_eq_some_iff.mp e1)
        have h2 := (List.getElem?_eq_some_iff.mp e)
        have := (List.getElem_inj F.nd).mp (h1.2.trans h2.2.symm)
        omega
      rw [List.getElem?_set_ne hne]
      exact h.ag k' r2 (by omega) e
    · rw [← h.dom i]
      constructor
      · rintro ⟨d, e⟩
        by_cases hi : r = i
        · subst hi; exact ⟨c1, e3'⟩
        · rw [List.getElem?_set_ne hi] at e; exact ⟨d, e⟩
      · rintro ⟨d, e⟩
        by_cases hi : r = i
        · subst hi; exact ⟨c, List.getElem?_set_self (by omega)⟩
        · exact ⟨d, by rw [List.getElem?_set_ne hi]; exact e⟩
structure Se (n : Nat) (M : Mk) (ms : List (Option Nat)) (src : Nat → Option Nat) (rs : List Nat) (row q : Nat) (ks : List Nat) : Prop where
  fo : Fo n M ms src rs row
  ma : ∀ (c : Nat), src c ≠ none → ∃ i, ms[i]? = some (some c) ∧ i ∈ rs
  kn : ks.Nodup
  ki : ∀ c, c ∈ ks ↔ src c ≠ none
  kl : ks.length + 1 = rs.length
  cl : ∀ (k r : Nat), k < q → rs[k]? = some r → ∀ c, c < n → M r c → src c ≠ none
def put (src : Nat → Option Nat) (c s : Nat) : Nat → Option Nat := fun d => if d = c then some s else src d
theorem se_start {n : Nat} {M : Mk} {ms : List (Option Nat)} {row : Nat} (hr : row < n) (h : ms[row]? = some none) : Se n M ms (fun _ => none) [row] row 0 [] :=
  ⟨⟨by simp, by simpa using hr, rfl, h, fun k r hk e => by
    cases k with
    | zero => omega
    | succ k => simp at e, fun c s e => by cases e⟩, fun c h => absurd rfl h, by simp, fun c => by simp, rfl, fun k r hk => by omega⟩
theorem se_step {n : Nat} {M : Mk} {ms : List (Option Nat)} {src : Nat → Option Nat} {rs ks : List Nat} {row q c s i : Nat} (S : Se n M ms src rs row q ks) (hl : ms.length = n) (hs : rs[q]? = some s) (hc : c < n) (hM : M s c) (hn : src c = none) (hi : ms[i]? = some (some c)) :
    Se n M ms (put src c s) (rs ++ [i]) row q (ks ++ [c]) := by
  have hin : i < n := by rw [← hl]; exact (List.getElem?_eq_some_iff.mp hi).1
  have hq : q < rs.length := (List.getElem?_eq_some_iff.mp hs).1
  have nin : i ∉ rs := fun z => by
    obtain ⟨k, hk⟩ := List.getElem?_of_mem z
    by_cases h0 : k = 0
    · subst h0
      rw [S.fo.hd] at hk; cases hk
      rw [S.fo.root] at hi; cases hi
    · obtain ⟨c1, e1, k1, r1, _, _, e3⟩ := S.fo.up k i (by omega) hk
      rw [hi] at e1; cases e1
      rw [hn] at e3; cases e3
  have keep : ∀ d r, src d = some r → put src c s d = some r := fun d r e => by
    unfold put
    rw [if_neg (fun z => by rw [z, hn] at e; cases e)]; exact e
  refine ⟨⟨?_, ?_, ?_, S.fo.root, fun k r hk e => ?_, fun d r e => ?_⟩, fun d hd => ?_, ?_, fun d => ?_, ?_, fun k r hk e d hd hm => ?_⟩
  · rw [List.nodup_append]
    exact ⟨S.fo.nd, by simp, fun a ha b hb => by rw [List.mem_singleton.mp hb]; exact fun z => nin (z ▸ ha)⟩
  · intro r hr
    rcases List.mem_append.mp hr with z | z
    · exact S.fo.lt r z
    · rw [List.mem_singleton.mp z]; exact hin
  · rw [List.getElem?_append_left (by omega)]; exact S.fo.hd
  · by_cases hlt : k < rs.length
    · rw [List.getElem?_append_left hlt] at e
      obtain ⟨c1, e1, k1, r1, h1, h2, h3⟩ := S.fo.up k r hk e
      exact ⟨c1, e1, k1, r1, h1, by rw [List.getElem?_append_left (by omega)]; exact h2, keep _ _ h3⟩
    · have hk2 : k = rs.length := by
        have := (List.getElem?_eq_some_iff.mp e).1
        rw [List.length_append] at this
        simp at this; omega
      subst hk2
      rw [List.getElem?_append_right (Nat.le_refl _)] at e
      simp at e
      subst e
      exact ⟨c, hi, q, s, hq, by rw [List.getElem?_append_left hq]; exact hs, by unfold put; rw [if_pos rfl]⟩
  · unfold put at e
    split at e
    · rename_i z; cases e; subst z; exact ⟨hc, hM⟩
    · exact S.fo.col d r e
  · unfold put at hd
    split at hd
    · rename_i z; subst z; exact ⟨i, hi, by simp⟩
    · obtain ⟨j, h1, h2⟩ := S.ma d hd
      exact ⟨j, h1, List.mem_append_left _ h2⟩
  · rw [List.nodup_append]
    exact ⟨S.kn, by simp, fun a ha b hb => by rw [List.mem_singleton.mp hb]; exact fun z => (S.ki a).mp ha (by rw [z]; exact hn)⟩
  · rw [List.mem_append, S.ki, List.mem_singleton]
    unfold put
    by_cases z : d = c
    · rw [if_pos z]; simp [z]
    · rw [if_neg z]; simp [z]
  · rw [List.length_append, List.length_append, ← S.kl]; simp
  · have hlt : k < rs.length := by omega
    rw [List.getElem?_append_left hlt] at e
    have := S.cl k r hk e d hd hm
    unfold put
    split
    · simp
    · exact this
structure Lies (n : Nat) (M : Mk) (p : List Nat) : Prop where
  len : p.length = n
  ok : ∀ (i c : Nat), p[i]? = some c → c < n ∧ M i c
  nd : p.Nodup
structure Short (n : Nat) (M : Mk) (s : List Nat) : Prop where
  ne : s ≠ []
  up : s.Pairwise (· < ·)
  lt : ∀ r ∈ s, r < n
  few : ∃ ks : List Nat, ks.Nodup ∧ ks.length < s.length ∧ ∀ r ∈ s, ∀ c, c < n → M r c → c ∈ ks
theorem se_short {n : Nat} {M : Mk} {ms : List (Option Nat)} {src : Nat → Option Nat} {rs ks s : List Nat} {row : Nat} (S : Se n M ms src rs row rs.length ks) (hp : s.Perm rs) (ho : s.Pairwise (· ≤ ·)) : Short n M s := by
  have hl := hp.length_eq
  have kl := S.kl
  refine ⟨fun z => by rw [z] at hl; simp at hl; omega, ?_, fun r hr => S.fo.lt r (hp.mem_iff.mp hr), ks, S.kn, by omega, fun r hr c hc hm => ?_⟩
  · have nd : s.Nodup := hp.nodup_iff.mpr S.fo.nd
    exact (ho.and nd).imp fun h => by omega
  · obtain ⟨k, hk⟩ := List.getElem?_of_mem (hp.mem_iff.mp hr)
    exact (S.ki c).mpr (S.cl k r (List.getElem?_eq_some_iff.mp hk).1 hk c hc hm)
theorem mt_lies {n : Nat} {M : Mk} {ms : List (Option Nat)} (h : Mt n M ms) (hd : ∀ i, i < n → Dom ms i) : ∃ p, ms = p.map some ∧ Lies n M p := by
  have hl := h.len
  refine ⟨ms.map fun o => o.getD 0, ?_, ?_⟩
  · rw [List.map_map]
    refine (List.map_id ms).symm.trans (List.map_congr_left fun o ho => ?_)
    obtain ⟨i, hi⟩ := List.getElem?_of_mem ho
    obtain ⟨c, e⟩ := hd i (by rw [← hl]; exact (List.getElem?_eq_some_iff.mp hi).1)
    rw [hi] at e; cases e; rfl
  · have at_ : ∀ i c, (ms.map fun o => o.getD 0)[i]? = some c → ms[i]? = some (some c) := fun i c e => by
      rw [List.getElem?_map] at e
      cases q : ms[i]? with
      | none => rw [q] at e; cases e
      | some o =>
        obtain ⟨c', e'⟩ := hd i (by rw [← hl]; exact (List.getElem?_eq_some_iff.mp q).1)
        rw [q] at e'; cases e'
        rw [q] at e; cases e; rfl
    refine ⟨by rw [List.length_map]; exact hl, fun i c e => h.ok i c (at_ i c e), ?_⟩
    rw [List.Nodup, List.pairwise_iff_getElem]
    intro i j hi' hj hij e
    have e1 := at_ i _ (List.getElem?_eq_getElem hi')
    have e2 := at_ j _ (List.getElem?_eq_getElem hj)
    rw [← e] at e2
    have := h.inj i j _ e1 e2
    omega
end Mat
namespace Mat
theorem fo_put {n : Nat} {M : Mk} {ms : List (Option Nat)} {src : Nat → Option Nat} {rs : List Nat} {row c s : Nat} (F : Fo n M ms src rs row) (hn : src c = none) (hc : c < n) (hM : M s c) : Fo n M ms (put src c s) rs row := by
  refine ⟨F.nd, F.lt, F.hd, F.root, fun k r hk e => ?_, fun d r e => ?_⟩
  · obtain ⟨c1, e1, k1, r1, h1, h2, h3⟩ := F.up k r hk e
    refine ⟨c1, e1, k1, r1, h1, h2, ?_⟩
    unfold put
    rw [if_neg (fun z => by rw [z, hn] at h3; cases h3)]; exact h3
  · unfold put at e
    split at e
    · rename_i z; cases e; subst z; exact ⟨hc, hM⟩
    · exact F.col d r e
theorem se_next {n : Nat} {M : Mk} {ms : List (Option Nat)} {src : Nat → Option Nat} {rs ks : List Nat} {row q s : Nat} (S : Se n M ms src rs row q ks) (hs : rs[q]? = some s) (h : ∀ c, c < n → M s c → src c ≠ none) : Se n M ms src rs row (q + 1) ks :=
  ⟨S.fo, S.ma, S.kn, S.ki, S.kl, fun k r hk e c hc hm => by
    by_cases z : k = q
    · subst z; rw [hs] at e; cases e; exact h c hc hm
    · exact S.cl k r (by omega) e c hc hm⟩
theorem perm_nat {ns : List Int} {rs : List Nat} (h : ns.Perm (rs.map fun (r : Nat) => (r : Int))) : ∃ s : List Nat, ns = s.map (fun (r : Nat) => (r : Int)) ∧ s.Perm rs := by
  have nn : ∀ x ∈ ns, 0 ≤ x := fun x hx => by
    obtain ⟨r, _, rfl⟩ := List.mem_map.mp (h.mem_iff.mp hx)
    omega
  refine ⟨ns.map Int.toNat, ?_, ?_⟩
  · rw [List.map_map]
    refine (List.map_id ns).symm.trans (List.map_congr_left fun x hx => ?_)
    have := nn x hx
    show x = ((x.toNat : Nat) : Int)
    omega
  · have := h.map Int.toNat
    rw [List.map_map] at this
    have e : rs.map (Int.toNat ∘ fun (r : Nat) => (r : Int)) = rs := by
      refine (List.map_congr_left fun r _ => ?_).trans (List.map_id rs)
      show ((r : Int)).toNat = r
      omega
    rw [e] at this
    exact this
end Mat
namespace Mat
end Mat
set_option Elab.async false
set_option linter.all false
set_option maxRecDepth 100000
set_option maxHeartbeats 4000000
namespace L3
open PySem L2
section
variable {K : PySem.W.Frag} {ρ : Bool} {Γr Γl Γ Γ1 Γ2 Γn M : List Nat} {t u : TS} {te ta tb : TE} {de da db : DE} {d e : DS}
def vClearTs (i j : Nat) (k : Nat) (E : DEnds) (δ : Dl) : Prop := slotL δ i fun ds => j < δ.length ∧ (∀ (m : Nat) (d : D), ds[m]? = some d → ∃ (es e : List D), d = D.tup es ∧ es[k]? = some (D.lst e)) ∧ E.nx ((δ.set j none).set i (some (.lst [])))
end
end L3
namespace L3
open PySem L2
abbrev dPr (q : Int × List Int) : D := .tup [.int q.1, dI q.2]
abbrev oPr (q : Int × List Int) : L2.D := .tup [.int q.1, L2.dI q.2]
theorem old_pr {q : Int × List Int} : (dPr q).old = some (oPr q) := by
  rw [D.old, D.olds, D.olds, D.olds, D.old, old_dI]; rfl
theorem olds_prs : ∀ {ps : List (Int × List Int)}, D.olds (ps.map dPr) = some (ps.map oPr)
  | [] => by rw [List.map_nil, D.olds]; rfl
  | p :: ps => by rw [List.map_cons, D.olds, olds_prs, old_pr]; rfl
theorem plains_prs : ∀ (ps : List (Int × List Int)), L2.D.plains (ps.map oPr) = true
  | [] => rfl
  | p :: ps => by
    rw [List.map_cons, L2.D.plains, plains_prs ps, L2.D.plain, L2.D.plains, L2.D.plains, L2.D.plains, L2.D.plain, L2.D.plain, L2.D.plains_ints]; rfl
theorem depths_prs : ∀ (ps : List (Int × List Int)), L2.D.depths (ps.map oPr) ≤ 5
  | [] => by rw [List.map_nil, L2.D.depths]; omega
  | p :: ps => by
    have := depths_prs ps
    rw [List.map_cons, L2.D.depths, L2.D.depth, L2.D.depths, L2.D.depths, L2.D.depths, L2.D.depth, L2.D.depth, L2.D.depths_ints]
    · refine Nat.max_le.mpr ⟨?_, this⟩
      decide
    all_goals (intro ds h; cases h)
theorem eqbs_prs : ∀ (ps qs : List (Int × List Int)), L2.D.eqbs (ps.map oPr) (qs.map oPr) = decide (ps = qs)
  | [], [] => rfl
  | [], y :: ys => rfl
  | x :: xs, [] => rfl
  | (a, x) :: xs, (b, y) :: ys => by
    rw [List.map_cons, List.map_cons, L2.D.eqbs, eqbs_prs xs ys, L2.D.eqb, L2.D.eqbs, L2.D.eqbs, L2.D.eqbs, L2.D.eqb, L2.D.eqb, L2.D.eqbs_ints]
    by_cases h1 : a = b
    · subst h1
      by_cases h2 : x = y
      · subst h2; simp
      · simp [h2]
    · have : (a == b) = false := beq_eq_false_iff_ne.mpr h1
      simp [this, h1]
theorem vEqL_pairs {neg : Bool} {ps qs : List (Int × List Int)} {P : DK} (h : P (.bl (if neg then !decide (ps = qs) else decide (ps = qs)))) : vEqL neg (.lst (ps.map dPr)) (.lst (qs.map dPr)) P :=
  ⟨_, _, by rw [D.old, olds_prs]; rfl, by rw [D.old, olds_prs]; rfl, plains_prs _, plains_prs _, Nat.le_trans (depths_prs _) (by omega), by rw [eqbs_prs]; exact h⟩
theorem sorted_rng {ms : List Int} {n : Nat} (h : ms.Perm (rngI n)) (ho : ms.Pairwise (· ≤ ·)) : ms = rngI n := by
  refine List.Perm.eq_of_pairwise (fun a b _ _ h1 h2 => by omega) ho ?_ h
  unfold rngI
  rw [List.pairwise_map]
  exact (List.pairwise_lt_range (n := n)).imp fun h => by omega
def Tab (n : Nat) (ps : List (Int × List Int)) (t : List (List Int)) : Prop := Rect n n t ∧ ∀ k j : Nat, k < n → j < n → cellAt t k j = (ps.map fun q => if q.2.getD k 0 = (j : Int) then q.1 else 0).sum
theorem Tab.uniq {n : Nat} {ps : List (Int × List Int)} {t u : List (List Int)} (h1 : Tab n ps t) (h2 : Tab n ps u) : t = u := h1.1.ext h2.1 fun a b ha hb => by rw [h1.2 a b ha hb, h2.2 a b ha hb]
theorem Tab.snoc {n : Nat} {ps : List (Int × List Int)} {t u : List (List Int)} {q : Int × List Int} (h : Tab n ps t) (hu : Rect n n u) (hc : ∀ k j : Nat, k < n → j < n → cellAt u k j = cellAt t k j + if q.2.getD k 0 = (j : Int) then q.1 else 0) : Tab n (ps ++ [q]) u :=
  ⟨hu, fun k j hk hj => by rw [hc k j hk hj, h.2 k j hk hj, List.map_append, List.sum_append]; simp⟩
theorem cell_map {n : Nat} {t : List (List Int)} {f : Int → Int} (h : Rect n n t) {k j : Nat} (hk : k < n) (hj : j < n) : cellAt (t.map fun r => r.map f) k j = f (cellAt t k j) := by
  have hl := h.1
  have hr := h.row hk
  unfold cellAt
  rw [List.getD_eq_getElem?_getD (l := t.map _), List.getElem?_map, List.getElem?_eq_getElem (by omega), Option.map_some, Option.getD_some]
  have e : t.getD k [] = t[k]'(by omega) := by rw [List.getD_eq_getElem?_getD, List.getElem?_eq_getElem (by omega)]; rfl
  rw [e]
  rw [show rowAt t k = t[k]'(by omega) from e] at hr
  rw [List.getD_eq_getElem?_getD, List.getElem?_map, List.getElem?_eq_getElem (by omega), List.getD_eq_getElem?_getD, List.getElem?_eq_getElem (by omega)]; rfl
end L3
set_option Elab.async false
set_option linter.all false
set_option maxRecDepth 100000
set_option maxHeartbeats 4000000
namespace Bir
section
variable {κ : Type} [DecidableEq κ]
def dot (ks : List κ) (f v : κ → Int) : Int := (ks.map fun k => f k * v k).sum
theorem dot_zero {f v : κ → Int} : ∀ {ks : List κ}, (∀ k ∈ ks, f k = 0) → dot ks f v = 0
  | [], _ => rfl
  | k :: ks, h => by
    unfold dot
    rw [List.map_cons, List.sum_cons, h k List.mem_cons_self]
    have := dot_zero (v := v) (ks := ks) fun x hx => h x (List.mem_cons_of_mem _ hx)
    unfold dot at this
    rw [this]; omega
theorem dot_lin {f g v : κ → Int} {a b : Int} : ∀ {ks : List κ}, dot ks (fun x => a * g x - b * f x) v = a * dot ks g v - b * dot ks f v
  | [] => by simp [dot]
  | k :: ks => by
    have := dot_lin (f := f) (g := g) (v := v) (a := a) (b := b) (ks := ks)
    unfold dot at this ⊢
    rw [List.map_cons, List.map_cons, List.map_cons, List.sum_cons, List.sum_cons, List.sum_cons, this, Int.mul_add, Int.mul_add, Int.sub_mul, Int.mul_assoc, Int.mul_assoc]
    omega
theorem dot_erase {f v : κ → Int} {k : κ} : ∀ {ks : List κ}, f k = 0 → dot (ks.erase k) f v = dot ks f v
  | [], _ => rfl
  | x :: ks, h => by
    by_cases e : x = k
    · subst e
      rw [List.erase_cons_head]
      unfold dot
      rw [List.map_cons, List.sum_cons, h]; omega
    · rw [List.erase_cons_tail (by simpa using e)]
      have := dot_erase (f := f) (v := v) (ks := ks) h
      unfold dot at this ⊢
      rw [List.map_cons, List.map_cons, List.sum_cons, List.sum_cons, this]
theorem tri_le : ∀ (m : Nat) (l : List ((κ → Int) × (κ → Int))) (ks : List κ), l.length = m → (∀ p ∈ l, dot ks p.1 p.2 ≠ 0) → l.Pairwise (fun p q => dot ks p.1 q.2 = 0) → l.length ≤ ks.length
  | 0, l, ks, hm, _, _ => by omega
  | m + 1, [], ks, hm, _, _ => by simp
  | m + 1, (f, v) :: l, ks, hm, h1, h2 => by
    obtain ⟨h3, h4⟩ := List.pairwise_cons.mp h2
    have hne := h1 (f, v) List.mem_cons_self
    obtain ⟨k, hk, hf⟩ : ∃ k ∈ ks, f k ≠ 0 := by
      by_cases z : ∃ k ∈ ks, f k ≠ 0
      · exact z
      · refine absurd (dot_zero fun k hk => ?_) hne
        by_cases y : f k = 0
        · exact y
        · exact absurd ⟨k, hk, y⟩ z
    have key : ∀ (g w : κ → Int), dot ks f w = 0 → dot (ks.erase k) (fun x => f k * g x - g k * f x) w = f k * dot ks g w := fun g w hw => by
      rw [dot_erase (by rw [Int.mul_comm]; omega), dot_lin, hw]; omega
    have ih := tri_le m (l.map fun p => (fun x => f k * p.1 x - p.1 k * f x, p.2)) (ks.erase k) (by rw [List.length_map]; simpa using hm) (fun p hp => ?_) ?_
    · rw [List.length_map, List.length_erase_of_mem hk] at ih
      have : 0 < ks.length := List.length_pos_of_mem hk
      rw [List.length_cons]; omega
    · obtain ⟨q, hq, rfl⟩ := List.mem_map.mp hp
      show dot (ks.erase k) (fun x => f k * q.1 x - q.1 k * f x) q.2 ≠ 0
      rw [key q.1 q.2 (h3 q hq)]
      exact Int.mul_ne_zero hf (h1 q (List.mem_cons_of_mem _ hq))
    · rw [List.pairwise_map]
      refine List.Pairwise.imp_of_mem (fun {p q} hp hq h => ?_) h4
      show dot (ks.erase k) (fun x => f k * p.1 x - p.1 k * f x) q.2 = 0
      rw [key p.1 q.2 (h3 q hq), h]; omega
end
def S (m : Nat) (f : Nat → Int) : Int := ((List.range m).map f).sum
theorem S_succ {m : Nat} {f : Nat → Int} : S (m + 1) f = S m f + f m := by
  unfold S; rw [List.range_succ, List.map_append, List.sum_append]; simp
theorem S_zero {f : Nat → Int} : S 0 f = 0 := rfl
theorem S_congr {f g : Nat → Int} : ∀ {m : Nat}, (∀ i, i < m → f i = g i) → S m f = S m g
  | 0, _ => rfl
  | m + 1, h => by rw [S_succ, S_succ, S_congr fun i hi => h i (by omega), h m (by omega)]
theorem S_const {a : Int} : ∀ {m : Nat}, S m (fun _ => a) = (m : Int) * a
  | 0 => by rw [S_zero]; simp
  | m + 1 => by rw [S_succ, S_const, show ((m + 1 : Nat) : Int) = (m : Int) + 1 by omega, Int.add_mul]; omega
theorem S_sub {f g : Nat → Int} : ∀ {m : Nat}, S m (fun i => f i - g i) = S m f - S m g
  | 0 => by simp [S_zero]
  | m + 1 => by rw [S_succ, S_succ, S_succ, S_sub]; omega
theorem S_add {f g : Nat → Int} : ∀ {m : Nat}, S m (fun i => f i + g i) = S m f + S m g
  | 0 => by simp [S_zero]
  | m + 1 => by rw [S_succ, S_succ, S_succ, S_add]; omega
theorem S_neg {f : Nat → Int} : ∀ {m : Nat}, S m (fun i => - f i) = - S m f
  | 0 => by simp [S_zero]
  | m + 1 => by rw [S_succ, S_succ, S_neg]; omega
theorem S_one {f : Nat → Int} {c : Nat} : ∀ {m : Nat}, (∀ i, i < m → i ≠ c → f i = 0) → S m f = if c < m then f c else 0
  | 0, _ => by simp [S_zero]
  | m + 1, h => by
    rw [S_succ, S_one (m := m) fun i hi hn => h i (by omega) hn]
    by_cases h1 : c < m
    · rw [if_pos h1, if_pos (by omega), h m (by omega) (by omega)]; omega
    · rw [if_neg h1]
      by_cases h2 : c = m
      · subst h2; rw [if_pos (by omega)]; omega
      · rw [if_neg (by omega), h m (by omega) (Ne.symm h2)]; omega
theorem S_le {f g : Nat → Int} : ∀ {m : Nat}, (∀ i, i < m → f i ≤ g i) → S m f ≤ S m g
  | 0, _ => Int.le_refl _
  | m + 1, h => by
    rw [S_succ, S_succ]
    have := S_le (m := m) fun i hi => h i (by omega)
    have := h m (by omega)
    omega
theorem S_swap {f : Nat → Nat → Int} {n : Nat} : ∀ {m : Nat}, S m (fun i => S n (f i)) = S n fun j => S m fun i => f i j
  | 0 => by rw [S_zero, S_congr (g := fun _ => 0) (fun j _ => S_zero), S_const, Int.mul_zero]
  | m + 1 => by
    rw [S_succ, S_swap, ← S_add]
    exact S_congr fun j _ => S_succ.symm
abbrev Cd := Option (Nat × Nat)
def cds (m : Nat) : List Cd := none :: (List.range m).flatMap fun i => (List.range m).map fun j => some (i, j)
theorem cds_len {m : Nat} : (cds m).length = m * m + 1 := by
  unfold cds
  rw [List.length_cons, List.length_flatMap]
  congr 1
  have : ∀ k, ((List.range k).map fun i => ((List.range m).map fun j => (some (i, j) : Cd)).length).sum = k * m := by
    intro k
    induction k with
    | zero => simp
    | succ k ih => rw [List.range_succ, List.map_append, List.sum_append_nat, ih]; simp; rw [Nat.add_mul]; omega
  exact this m
theorem dot_cds {m : Nat} {f v : Cd → Int} : dot (cds m) f v = f none * v none + S m fun i => S m fun j => f (some (i, j)) * v (some (i, j)) := by
  unfold dot cds
  rw [List.map_cons, List.sum_cons]
  congr 1
  have : ∀ k, (((List.range k).flatMap fun i => (List.range m).map fun j => (some (i, j) : Cd)).map fun x => f x * v x).sum = S k fun i => S m fun j => f (some (i, j)) * v (some (i, j)) := by
    intro k
    induction k with
    | zero => rfl
    | succ k ih =>
      rw [List.range_succ, List.flatMap_append, List.map_append, List.sum_append, ih, S_succ]
      congr 1
      rw [List.flatMap_cons, List.flatMap_nil, List.append_nil, List.map_map]
      rfl
  exact this m
def e (p : List Nat) (i j : Nat) : Int := if p[i]? = some j then 1 else 0
def vec (p : List Nat) : Cd → Int | none => 1 | some (i, j) => e p i j
def fn (m r c : Nat) : Cd → Int
  | none => if r = m then (if c = m then 1 - (m : Int) else 1) else (if c = m then 1 else 0)
  | some (i, j) => if r = m then (if c = m then 1 else if j = c then -1 else 0) else (if c = m then (if i = r then -1 else 0) else if i = r ∧ j = c then 1 else 0)
structure Pm (n : Nat) (p : List Nat) : Prop where
  len : p.length = n
  lt : ∀ (i c : Nat), p[i]? = some c → c < n
  nd : p.Nodup
theorem Pm.row {n : Nat} {p : List Nat} (h : Pm n p) {i : Nat} (hi : i < n) : S n (e p i) = 1 := by
  obtain ⟨c, hc⟩ : ∃ c, p[i]? = some c := ⟨_, List.getElem?_eq_getElem (by rw [h.len]; exact hi)⟩
  rw [S_one (c := c) fun j hj hn => by unfold e; rw [if_neg (fun z => hn (by rw [hc] at z; exact (Option.some.inj z).symm))], if_pos (h.lt i c hc)]
  unfold e; rw [if_pos hc]
theorem Pm.sur {n : Nat} {p : List Nat} (h : Pm n p) {c : Nat} (hc : c < n) : ∃ i, i < n ∧ p[i]? = some c := by
  have hpl := h.len
  by_cases z : c ∈ p
  · obtain ⟨i, hi⟩ := List.getElem?_of_mem z
    exact ⟨i, by have := (List.getElem?_eq_some_iff.mp hi).1; omega, hi⟩
  · exfalso
    have hlt : ∀ x ∈ p, x < n := fun x hx => by
      obtain ⟨i, hi⟩ := List.getElem?_of_mem hx
      exact h.lt i x hi
    have := Mat.nodup_lt (l := c :: p) (n := n) (List.nodup_cons.mpr ⟨z, h.nd⟩) fun x hx => by
      rcases List.mem_cons.mp hx with rfl | hx
      · exact hc
      · exact hlt x hx
    rw [List.length_cons] at this
    omega
theorem Pm.col {n : Nat} {p : List Nat} (h : Pm n p) {c : Nat} (hc : c < n) : S n (fun i => e p i c) = 1 := by
  obtain ⟨i, hi, hp⟩ := h.sur hc
  rw [S_one (c := i) fun k hk hn => ?_, if_pos hi]
  · unfold e; rw [if_pos hp]
  · unfold e
    rw [if_neg fun z => hn ?_]
    have h1 := List.getElem?_eq_some_iff.mp z
    have h2 := List.getElem?_eq_some_iff.mp hp
    exact (List.getElem_inj h.nd).mp (h1.2.trans h2.2.symm)
theorem dot_cell {m r c : Nat} {p : List Nat} (h : Pm (m + 1) p) (hr : r ≤ m) (hc : c ≤ m) : dot (cds m) (fn m r c) (vec p) = e p r c := by
  rw [dot_cds]
  by_cases h1 : r = m
  · subst h1
    by_cases h2 : c = r
    · subst h2
      have : ∀ i, i < c → S c (fun j => fn c c c (some (i, j)) * vec p (some (i, j))) = 1 - e p i c := fun i hi => by
        have h3 := h.row (i := i) (by omega)
        rw [S_succ] at h3
        rw [S_congr (g := e p i) fun j _ => by simp [fn, vec]]
        omega
      rw [S_congr this, S_sub, S_const]
      have h4 := h.col (c := c) (by omega)
      rw [S_succ] at h4
      simp only [fn, vec, if_true]
      omega
    · have : ∀ i, i < r → S r (fun j => fn r r c (some (i, j)) * vec p (some (i, j))) = - e p i c := fun i hi => by
        rw [S_one (c := c) fun j _ hn => by simp [fn, h2, hn], if_pos (by omega)]
        simp [fn, h2, vec]
      rw [S_congr this, S_neg]
      have h4 := h.col (c := c) (by omega)
      rw [S_succ] at h4
      simp only [fn, vec, if_true, if_neg h2]
      omega
  · by_cases h2 : c = m
    · subst h2
      rw [S_one (c := r) (fun i _ hn => by
        rw [S_congr (g := fun _ => 0) fun j _ => by simp [fn, h1, hn], S_const]; omega), if_pos (by omega)]
      have h3 := h.row (i := r) (by omega)
      rw [S_succ] at h3
      rw [S_congr (g := fun j => - e p r j) fun j _ => by simp [fn, h1, vec], S_neg]
      simp only [fn, vec, if_true, if_neg h1]
      omega
    · rw [S_one (c := r) (fun i _ hn => by
        rw [S_congr (g := fun _ => 0) fun j _ => by simp [fn, h1, h2, hn], S_const]; omega), if_pos (by omega)]
      rw [S_one (c := c) (fun j _ hn => by simp [fn, h1, h2, hn]), if_pos (by omega)]
      simp [fn, h1, h2, vec]
theorem few {n : Nat} (hn : 1 ≤ n) (l : List (List Nat × Nat × Nat)) (hp : ∀ q ∈ l, Pm n q.1 ∧ q.2.1 < n ∧ q.1[q.2.1]? = some q.2.2) (ht : l.Pairwise fun q q' => q'.1[q.2.1]? ≠ some q.2.2) : l.length ≤ (n - 1) * (n - 1) + 1 := by
  obtain ⟨m, rfl⟩ : ∃ m, n = m + 1 := ⟨n - 1, by omega⟩
  have := tri_le l.length (l.map fun q => (fn m q.2.1 q.2.2, vec q.1)) (cds m) (by rw [List.length_map]) (fun p hm => ?_) ?_
  · rw [List.length_map, cds_len] at this
    simpa using this
  · obtain ⟨q, hq, rfl⟩ := List.mem_map.mp hm
    obtain ⟨h1, h2, h3⟩ := hp q hq
    have h4 := h1.lt _ _ h3
    show dot (cds m) (fn m q.2.1 q.2.2) (vec q.1) ≠ 0
    rw [dot_cell h1 (by omega) (by omega)]
    unfold e
    rw [if_pos h3]; decide
  · rw [List.pairwise_map]
    refine List.Pairwise.imp_of_mem (fun {p q} hp' hq' h => ?_) ht
    obtain ⟨h1, h2, h3⟩ := hp p hp'
    have h4 := h1.lt _ _ h3
    show dot (cds m) (fn m p.2.1 p.2.2) (vec q.1) = 0
    rw [dot_cell (hp q hq').1 (by omega) (by omega)]
    unfold e
    rw [if_neg h]
end Bir
set_option Elab.async false
set_option linter.all false
set_option maxRecDepth 100000
set_option maxHeartbeats 4000000
namespace Bir
open L3
structure Ev (n : Nat) (t : List (List Int)) (b : Int) : Prop where
  rect : Rect n n t
  nn : ∀ i j : Nat, i < n → j < n → 0 ≤ cellAt t i j
  row : ∀ i : Nat, i < n → S n (cellAt t i) = b
  col : ∀ j : Nat, j < n → S n (fun i => cellAt t i j) = b
theorem S_nonneg {f : Nat → Int} {m : Nat} (h : ∀ i, i < m → 0 ≤ f i) : 0 ≤ S m f := by
  have := S_le (f := fun _ => 0) (g := f) (m := m) h
  rw [S_const] at this
  omega
theorem S_term {f : Nat → Int} : ∀ {m : Nat}, (∀ i, i < m → 0 ≤ f i) → ∀ i, i < m → f i ≤ S m f
  | 0, _, i, hi => by omega
  | m + 1, h, i, hi => by
    rw [S_succ]
    have h1 := S_nonneg (m := m) fun i hi => h i (by omega)
    have h2 := h m (by omega)
    by_cases z : i = m
    · subst z; omega
    · have := S_term (m := m) (fun i hi => h i (by omega)) i (by omega)
      omega
theorem sum_S : ∀ {r : List Int} {n : Nat}, r.length = n → r.sum = S n fun j => r.getD j 0 := by
  intro r n h
  subst h
  unfold S
  congr 1
  refine List.ext_getElem (by simp) fun i h1 h2 => ?_
  simp [List.getD_eq_getElem?_getD, h1]
theorem ind_len : ∀ {s : List Nat} {n : Nat}, s.Nodup → (∀ x ∈ s, x < n) → S n (fun i => if i ∈ s then 1 else 0) = s.length
  | [], n, _, _ => by rw [S_congr (g := fun _ => 0) fun i _ => by simp, S_const]; simp
  | a :: s, n, h, hl => by
    obtain ⟨h1, h2⟩ := List.nodup_cons.mp h
    have ih := ind_len (n := n) h2 fun x hx => hl x (List.mem_cons_of_mem _ hx)
    have e : S n (fun i => if i ∈ a :: s then (1 : Int) else 0) = S n (fun i => (if i = a then 1 else 0) + if i ∈ s then 1 else 0) := S_congr fun i _ => by
      by_cases z : i = a
      · subst z; simp [h1]
      · simp [z]
    rw [e, S_add, ih, S_one (c := a) (fun i _ hn => if_neg hn), if_pos (hl a List.mem_cons_self), if_pos rfl, List.length_cons]
    omega
theorem ind_le : ∀ {s : List Nat} {n : Nat}, S n (fun i => if i ∈ s then 1 else 0) ≤ s.length
  | [], n => by rw [S_congr (g := fun _ => 0) fun i _ => by simp, S_const]; simp
  | a :: s, n => by
    have ih := ind_le (s := s) (n := n)
    have e : S n (fun i => if i ∈ a :: s then (1 : Int) else 0) ≤ S n (fun i => (if i = a then 1 else 0) + if i ∈ s then 1 else 0) := S_le fun i _ => by
      by_cases z : i = a
      · subst z; simp; split <;> omega
      · simp [z]
    rw [S_add, S_one (c := a) (fun i _ hn => if_neg hn), if_pos (rfl : a = a)] at e
    rw [List.length_cons]
    split at e <;> omega
theorem S_mul {f : Nat → Int} {a : Int} : ∀ {m : Nat}, S m (fun i => f i * a) = S m f * a
  | 0 => by simp [S_zero]
  | m + 1 => by rw [S_succ, S_succ, S_mul, Int.add_mul]
theorem ev_no_short {n : Nat} {t : List (List Int)} {b : Int} {s : List Nat} (h : Ev n t b) (hb : 0 < b) (hs : Mat.Short n (fun i c => 0 < cellAt t i c) s) : False := by
  obtain ⟨ks, nk, hl, hk⟩ := hs.few
  have nd : s.Nodup := hs.up.imp fun h => by omega
  have e1 : S n (fun i => (if i ∈ s then 1 else 0) * b) = s.length * b := by rw [S_mul, ind_len nd hs.lt]
  have e2 : S n (fun j => (if j ∈ ks then 1 else 0) * b) ≤ ks.length * b := by
    rw [S_mul]; exact Int.mul_le_mul_of_nonneg_right ind_le (by omega)
  have e3 : S n (fun i => (if i ∈ s then 1 else 0) * b) = S n fun i => S n fun j => (if i ∈ s then 1 else 0) * cellAt t i j := S_congr fun i hi => by
    by_cases z : i ∈ s
    · rw [S_congr (g := cellAt t i) (fun j _ => by simp [z]), h.row i hi]; simp [z]
    · rw [S_congr (g := fun _ => 0) (fun j _ => by simp [z]), S_const]; simp [z]
  have e4 : S n (fun j => (if j ∈ ks then 1 else 0) * b) = S n fun j => S n fun i => (if j ∈ ks then 1 else 0) * cellAt t i j := S_congr fun j hj => by
    by_cases z : j ∈ ks
    · rw [S_congr (g := fun i => cellAt t i j) (fun i _ => by simp [z]), h.col j hj]; simp [z]
    · rw [S_congr (g := fun _ => 0) (fun i _ => by simp [z]), S_const]; simp [z]
  have e5 : (S n fun i => S n fun j => (if i ∈ s then 1 else 0) * cellAt t i j) ≤ S n fun i => S n fun j => (if j ∈ ks then 1 else 0) * cellAt t i j := S_le fun i hi => S_le fun j hj => by
    have hnn := h.nn i j hi hj
    by_cases z : i ∈ s
    · by_cases y : 0 < cellAt t i j
      · have := hk i z j hj y
        simp [z, this]
      · have : cellAt t i j = 0 := by omega
        rw [this]; simp
    · simp only [z, if_false]
      split <;> omega
  rw [S_swap (f := fun i j => (if j ∈ ks then 1 else 0) * cellAt t i j)] at e5
  have : (s.length : Int) * b ≤ ks.length * b := by omega
  have := Int.le_of_mul_le_mul_right this hb
  omega
theorem Pm.of_lies {n : Nat} {M : Mat.Mk} {p : List Nat} (h : Mat.Lies n M p) : Pm n p := ⟨h.len, fun i c e => (h.ok i c e).1, h.nd⟩
theorem Pm.perm {n : Nat} {p : List Nat} (h : Pm n p) : (p.map fun (r : Nat) => (r : Int)).Perm (rngI n) := by
  unfold rngI
  refine List.Perm.map _ ((List.perm_ext_iff_of_nodup h.nd List.nodup_range).mpr fun a => ?_)
  rw [List.mem_range]
  constructor
  · intro z
    obtain ⟨i, hi⟩ := List.getElem?_of_mem z
    exact h.lt i a hi
  · intro z
    obtain ⟨i, _, hi⟩ := h.sur z
    exact List.mem_of_getElem? hi
theorem ev_step {n : Nat} {t u : List (List Int)} {b w : Int} {p : List Nat} (h : Ev n t b) (hp : Pm n p) (hw : ∀ i c : Nat, p[i]? = some c → w ≤ cellAt t i c) (hu : Rect n n u) (hc : ∀ k j : Nat, k < n → j < n → cellAt u k j = cellAt t k j - if p[k]? = some j then w else 0) : Ev n u (b - w) := by
  refine ⟨hu, fun i j hi hj => ?_, fun i hi => ?_, fun j hj => ?_⟩
  · rw [hc i j hi hj]
    have := h.nn i j hi hj
    split
    · rename_i z; have := hw i j z; omega
    · omega
  · rw [S_congr (g := fun j => cellAt t i j - e p i j * w) fun j hj => by rw [hc i j hi hj]; unfold e; split <;> omega, S_sub, S_mul, hp.row hi, h.row i hi]
    omega
  · rw [S_congr (g := fun i => cellAt t i j - e p i j * w) fun i hi => by rw [hc i j hi hj]; unfold e; split <;> omega, S_sub, S_mul, hp.col hj, h.col j hj]
    omega
theorem ev_zero {n : Nat} {t : List (List Int)} (h : Ev n t 0) : ∀ i j : Nat, i < n → j < n → cellAt t i j = 0 := fun i j hi hj => by
  have h1 := S_term (m := n) (f := cellAt t i) (fun j hj => h.nn i j hi hj) j hj
  rw [h.row i hi] at h1
  have := h.nn i j hi hj
  omega
abbrev Qd := Int × List Nat × Nat × Nat
structure Mo (n : Nat) (t L : List (List Int)) (b : Int) (qs : List Qd) : Prop where
  ev : Ev n L b
  ok : ∀ q ∈ qs, 1 ≤ q.1 ∧ Pm n q.2.1 ∧ q.2.2.1 < n ∧ q.2.1[q.2.2.1]? = some q.2.2.2 ∧ cellAt L q.2.2.1 q.2.2.2 = 0
  tri : qs.Pairwise fun q q' => q'.2.1[q.2.2.1]? ≠ some q.2.2.2
  sum : ∀ k j : Nat, k < n → j < n → cellAt t k j = cellAt L k j + (qs.map fun q => if q.2.1[k]? = some j then q.1 else 0).sum
def prOf (q : Qd) : Int × List Int := (q.1, q.2.1.map fun (r : Nat) => (r : Int))
theorem Mo.few {n : Nat} {t L : List (List Int)} {b : Int} {qs : List Qd} (h : Mo n t L b qs) (hn : 1 ≤ n) : qs.length ≤ (n - 1) * (n - 1) + 1 := by
  have := Bir.few hn (qs.map fun q => q.2) (fun q hq => by obtain ⟨q', h', rfl⟩ := List.mem_map.mp hq; exact ⟨(h.ok q' h').2.1, (h.ok q' h').2.2.1, (h.ok q' h').2.2.2.1⟩) (by rw [List.pairwise_map]; exact h.tri)
  rwa [List.length_map] at this
theorem getD_cast {p : List Nat} {k j : Nat} (hk : k < p.length) : (p.map fun (r : Nat) => (r : Int)).getD k 0 = (j : Int) ↔ p[k]? = some j := by
  rw [List.getD_eq_getElem?_getD, List.getElem?_map, List.getElem?_eq_getElem hk, Option.map_some, Option.getD_some]
  constructor
  · intro z; exact congrArg some (by omega)
  · intro z; have := Option.some.inj z; omega
theorem Mo.tab {n : Nat} {t L : List (List Int)} {qs : List Qd} (h : Mo n t L 0 qs) (ht : Rect n n t) : Tab n (qs.map prOf) t := ⟨ht, fun k j hk hj => by
  rw [h.sum k j hk hj, ev_zero h.ev k j hk hj, List.map_map, Int.zero_add]
  congr 1
  refine List.map_congr_left fun q hq => ?_
  have hl := (h.ok q hq).2.1.len
  show (if q.2.1[k]? = some j then q.1 else 0) = if (q.2.1.map fun (r : Nat) => (r : Int)).getD k 0 = (j : Int) then q.1 else 0
  by_cases z : q.2.1[k]? = some j
  · rw [if_pos z, if_pos ((getD_cast (by omega)).mpr z)]
  · rw [if_neg z, if_neg fun y => z ((getD_cast (by omega)).mp y)]⟩
theorem Mo.apart {n : Nat} {t L : List (List Int)} {b : Int} {qs : List Qd} (h : Mo n t L b qs) : (qs.map fun q => q.2.1).Nodup := by
  rw [List.Nodup, List.pairwise_map]
  refine List.Pairwise.imp_of_mem (fun {p q} hp hq hne z => hne ?_) h.tri
  rw [← z]; exact (h.ok p hp).2.2.2.1
theorem Mo.step {n : Nat} {t L u : List (List Int)} {b w : Int} {qs : List Qd} {p : List Nat} (h : Mo n t L b qs) (hL : Mat.Lies n (fun i c => 0 < cellAt L i c) p) (hw1 : ∃ i c : Nat, p[i]? = some c ∧ cellAt L i c = w) (hw : ∀ i c : Nat, p[i]? = some c → w ≤ cellAt L i c) (hu : Rect n n u)
    (hc : ∀ k j : Nat, k < n → j < n → cellAt u k j = cellAt L k j - if p[k]? = some j then w else 0) : ∃ r c, Mo n t u (b - w) (qs ++ [(w, p, r, c)]) := by
  have hp := Pm.of_lies hL
  obtain ⟨r, c, e1, e2⟩ := hw1
  have hr : r < n := by rw [← hp.len]; exact (List.getElem?_eq_some_iff.mp e1).1
  obtain ⟨hcn, hpos⟩ := hL.ok r c e1
  refine ⟨r, c, ev_step h.ev hp hw hu hc, fun q hq => ?_, ?_, fun k j hk hj => ?_⟩
  · rcases List.mem_append.mp hq with z | z
    · obtain ⟨a1, a2, a3, a4, a5⟩ := h.ok q z
      refine ⟨a1, a2, a3, a4, ?_⟩
      have h4 := a2.lt _ _ a4
      rw [hc _ _ a3 h4, a5]
      split
      · rename_i y
        have := (hL.ok _ _ y).2
        omega
      · rfl
    · cases List.mem_singleton.mp z
      refine ⟨by show 1 ≤ w; omega, hp, hr, e1, ?_⟩
      show cellAt u r c = 0
      rw [hc r c hr hcn, if_pos e1]; omega
  · rw [List.pairwise_append]
    refine ⟨h.tri, by simp, fun q hq q' hq' => ?_⟩
    cases List.mem_singleton.mp hq'
    obtain ⟨a1, a2, a3, a4, a5⟩ := h.ok q hq
    intro y
    have := (hL.ok _ _ y).2
    omega
  · rw [h.sum k j hk hj, hc k j hk hj, List.map_append, List.sum_append]
    simp only [List.map_cons, List.map_nil, List.sum_cons, List.sum_nil]
    split <;> omega
end Bir
set_option Elab.async false
set_option linter.all false
set_option maxRecDepth 100000
set_option maxHeartbeats 4000000
namespace L2
open PySem
end L2
namespace L3
open PySem L2
section
variable {K : PySem.W.Frag} {ρ : Bool} {Γr Γl Γ Γ1 Γ2 Γn M : List Nat} {t u : TS} {te ta tb td ty tv ti : TE} {de da db dd dk dv di : DE} {d e : DS}
theorem Rfs.getN {H : Hp} : ∀ {ds : List D} {vs : List V} {fp : List Addr} {i : Nat} {d : D}, Rfs K H ds vs fp → fp.Nodup → ds[i]? = some d → ∃ v f, vs[i]? = some v ∧ Rf K H d v f ∧ (∀ a ∈ f, a ∈ fp) ∧ f.Nodup
  | [], _, _, _, _, _, _, e => by simp at e
  | d :: ds, vs, fp, 0, d', h, n, e => by
    obtain ⟨x, r, f1, f2, rfl, rfl, h1, h2⟩ := h
    simp at e; subst e
    exact ⟨x, f1, rfl, h1, fun a ha => List.mem_append_left _ ha, (List.nodup_append.mp n).1⟩
  | d :: ds, vs, fp, i + 1, d', h, n, e => by
    obtain ⟨x, r, f1, f2, rfl, rfl, h1, h2⟩ := h
    obtain ⟨v, f, e1, h3, k, n'⟩ := Rfs.getN (i := i) h2 (List.nodup_append.mp n).2.1 (by simpa using e)
    exact ⟨v, f, by simpa using e1, h3, fun a ha => List.mem_append_right _ (k a ha), n'⟩
theorem vIxT_o {x y : D} {P : DK} (h : vIxT x y P) : ∃ ds i d, x = .tup ds ∧ y = .int i ∧ atI ds i = some d ∧ P d := by
  unfold vIxT at h
  split at h
  · split at h
    · exact ⟨_, _, _, rfl, rfl, by assumption, h⟩
    · exact h.elim
  · exact h.elim
theorem vIxT_i {ds : List D} {i : Int} {d : D} {P : DK} (e : atI ds i = some d) (h : P d) : vIxT (.tup ds) (.int i) P := by
  show (match atI ds i with | some d => P d | none => False)
  rw [e]; exact h
theorem em_ixT (ha : EM K Γ [] ta da) (hi : ER K Γ ti di) : EM K Γ [] (tOp (rIxT K) ta ti) (vOp vIxT da di) :=
  ⟨fun δ P P' k h => ha.mono _ _ _ (fun x z => hi.mono _ _ _ (fun y z => by
      obtain ⟨ds, i, d, rfl, rfl, e, z1⟩ := vIxT_o z
      exact vIxT_i e (k _ z1)) z) h,
   fun {B0 fps δ σ H Q} o h => ha.run o (ha.mono _ _ _ (fun x z v H1 fp s1 r1 n1 => hi.run (o.same s1) (hi.mono _ _ _ (fun y z w H2 s2 r2 => by
      obtain ⟨ds, i, d, rfl, rfl, ed, z1⟩ := vIxT_o z
      obtain ⟨a, xs, rfl, ha, hr⟩ := r1
      have ei : ∃ j, ixN ds.length i = some j ∧ ds[j]? = some d := by
        unfold atI at ed
        cases q : ixN ds.length i with
        | none => rw [q] at ed; cases ed
        | some j => rw [q] at ed; exact ⟨j, rfl, ed⟩
      obtain ⟨j, ej, edj⟩ := ei
      obtain ⟨u, f, hu, ru, hf, hn⟩ := hr.getN n1.nd edj
      exact ⟨a, xs, i, u, rfl, r2.int, .inl (.inl (s2 _ _ ha)), by unfold atI; rw [hr.length, ej]; exact hu, z1 u H2 f (s1.trans s2) (ru.same s2) ⟨hn, fun b hb => (n1.mu b (hf b hb)).same s2, fun b hb => n1.src b (hf b hb)⟩⟩) z)) h)⟩
def vTupOf (xs : List D) (P : DK) : Prop := match xs with | [x] => asL x fun ds => ds.all D.scal = true ∧ P (.tup ds) | _ => False
theorem vTupOf_lst {ds : List D} {P : DK} : vTupOf [.lst ds] P ↔ ds.all D.scal = true ∧ P (.tup ds) := Iff.rfl
def keyT (ns : List Int) : List Key := ns.map fun n => .inl n
def asTI (x : D) (P : List Int → Prop) : Prop := match x with | .tup ds => (match toInts ds with | some ns => P ns | none => False) | _ => False
theorem asTI_in {ns : List Int} {P : List Int → Prop} : asTI (.tup (ns.map D.int)) P ↔ P ns := by
  unfold asTI
  show (match toInts (ns.map D.int) with | some ns => P ns | none => False) ↔ P ns
  rw [toInts_map]
def asDit (x : D) (P : List (List Key × V) → Prop) : Prop := match x with | .dit kvs => P kvs | _ => False
theorem asDit_dit {kvs : List (List Key × V)} {P : List (List Key × V) → Prop} : asDit (.dit kvs) P ↔ P kvs := Iff.rfl
def vDInT (dk dd : DE) (δ : Dl) (P : DK) : Prop := dk δ fun y => dd δ fun x => asTI y fun ns => asDit x fun kvs => P (.bl (valV kvs (keyT ns)).isSome)
def vDPutT (i : Nat) (dk dv : DE) (E : DEnds) (δ : Dl) : Prop := dv δ fun x => x.scal = true ∧ vVar i δ fun d => asDit d fun kvs => dk δ fun y => asTI y fun ns => kvs.length < 1000 ∧ E.nx (δ.set i (some (.dit (putK kvs (keyT ns) x.toV))))
end
end L3
set_option Elab.async false
set_option linter.all false
set_option maxRecDepth 100000
set_option maxHeartbeats 4000000
namespace L3
open PySem L2
section
variable {K : PySem.W.Frag} {Γ : List Nat}
def vTupR (xs : List D) (P : DK) : Prop := match xs with | [x] => asL x fun ds => P (.tup ds) | _ => False
theorem vTupR_lst {ds : List D} {P : DK} : vTupR [.lst ds] P ↔ P (.tup ds) := Iff.rfl
end
def kn (d : D) : Bool := d.tyn.isSome
end L3
set_option Elab.async false
set_option linter.all false
set_option maxRecDepth 100000
set_option maxHeartbeats 4000000
namespace L3
open PySem L2
section
variable {K : PySem.W.Frag} {ρ : Bool} {Γr Γl Γ : List Nat}
def vClearTL (i j k : Nat) (E : DEnds) (δ : Dl) : Prop := slotT δ i fun es => j < δ.length ∧ asLst (es[k]?) fun ds => (∀ d ∈ ds, ∃ e, d = D.lst e) ∧ E.nx ((δ.set j none).set i none)
end
end L3
set_option Elab.async false
set_option linter.all false
set_option maxRecDepth 100000
set_option maxHeartbeats 4000000
namespace L3
open PySem L2
inductive Pth where | l (m : Nat) | t (m k : Nat)
  deriving DecidableEq
def pget (p : Pth) (d : D) : Option (List D) := match p, d with
  | .l m, .lst ds => (match ds[m]? with | some (.lst es) => some es | _ => none)
  | .t m k, .lst ds => (match ds[m]? with | some (.tup ts) => (match ts[k]? with | some (.lst es) => some es | _ => none) | _ => none)
  | _, _ => none
def pset (es : List D) (p : Pth) (d : D) : D := match p, d with
  | .l m, .lst ds => .lst (ds.set m (.lst es))
  | .t m k, .lst ds => (match ds[m]? with | some (.tup ts) => .lst (ds.set m (.tup (ts.set k (.lst es)))) | _ => .lst ds)
  | _, d => d
def Vat (H : Hp) (p : Pth) (v : V) : Option V := match p, v with
  | .l m, .ref a => (match H a with | some (.lst xs) => xs[m]? | _ => none)
  | .t m k, .ref a => (match H a with | some (.lst xs) => (match xs[m]? with | some (.ref c) => (match H c with | some (.tup ys) => ys[k]? | _ => none) | _ => none) | _ => none)
  | _, _ => none
theorem Vat_l {H : Hp} {m : Nat} {a : Addr} : Vat H (.l m) (.ref a) = (match H a with | some (.lst xs) => xs[m]? | _ => none) := rfl
theorem Vat_t {H : Hp} {m k : Nat} {a : Addr} : Vat H (.t m k) (.ref a) = (match H a with | some (.lst xs) => (match xs[m]? with | some (.ref c) => (match H c with | some (.tup ys) => ys[k]? | _ => none) | _ => none) | _ => none) := rfl
theorem pget_l {m : Nat} {d : D} {es : List D} (h : pget (.l m) d = some es) : ∃ ds, d = .lst ds ∧ ds[m]? = some (.lst es) := by
  unfold pget at h
  split at h
  · rename_i m' ds e
    cases e
    split at h
    · rename_i es' e2
      cases h
      exact ⟨ds, rfl, e2⟩
    · cases h
  · rename_i e; cases e
  · cases h
theorem pget_t {m k : Nat} {d : D} {es : List D} (h : pget (.t m k) d = some es) : ∃ ds ts, d = .lst ds ∧ ds[m]? = some (.tup ts) ∧ ts[k]? = some (.lst es) := by
  unfold pget at h
  split at h
  · rename_i e; cases e
  · rename_i m' k' ds e
    cases e
    split at h
    · rename_i ts e2
      split at h
      · rename_i es' e3
        cases h
        exact ⟨ds, ts, rfl, e2, e3⟩
      · cases h
    · cases h
  · cases h
theorem pget_l_in {m : Nat} {ds es : List D} (h : ds[m]? = some (.lst es)) : pget (.l m) (.lst ds) = some es := by unfold pget; simp only [h]
theorem pget_t_in {m k : Nat} {ds ts es : List D} (h : ds[m]? = some (.tup ts)) (h2 : ts[k]? = some (.lst es)) : pget (.t m k) (.lst ds) = some es := by unfold pget; simp only [h, h2]
theorem pset_t_in {m k : Nat} {ds ts es : List D} (h : ds[m]? = some (.tup ts)) : pset es (.t m k) (.lst ds) = .lst (ds.set m (.tup (ts.set k (.lst es)))) := by unfold pset; simp only [h]
theorem pget_pset {p q : Pth} {d : D} {es eq es' : List D} (h : pget p d = some es) (hq : pget q d = some eq) : pget q (pset es' p d) = some (if q = p then es' else eq) := by
  cases p with
  | l m =>
    obtain ⟨ds, rfl, e⟩ := pget_l h
    have hm : m < ds.length := (List.getElem?_eq_some_iff.mp e).1
    cases q with
    | l m2 =>
      obtain ⟨ds2, e0, e2⟩ := pget_l hq
      cases e0
      show pget (.l m2) (.lst (ds.set m (.lst es'))) = _
      by_cases hmm : m2 = m
      · subst hmm
        rw [if_pos rfl]
        exact pget_l_in (List.getElem?_set_self hm)
      · rw [if_neg (fun z => hmm (by cases z; rfl))]
        exact pget_l_in (by rw [List.getElem?_set_ne (Ne.symm hmm)]; exact e2)
    | t m2 k2 =>
      obtain ⟨ds2, ts, e0, e2, e3⟩ := pget_t hq
      cases e0
      rw [if_neg (fun z => by cases z)]
      have hmm : m ≠ m2 := fun z => by subst z; rw [e] at e2; cases e2
      exact pget_t_in (by rw [List.getElem?_set_ne hmm]; exact e2) e3
  | t m k =>
    obtain ⟨ds, ts, rfl, e, e'⟩ := pget_t h
    have hm : m < ds.length := (List.getElem?_eq_some_iff.mp e).1
    have hk : k < ts.length := (List.getElem?_eq_some_iff.mp e').1
    rw [pset_t_in e]
    cases q with
    | l m2 =>
      obtain ⟨ds2, e0, e2⟩ := pget_l hq
      cases e0
      rw [if_neg (fun z => by cases z)]
      have hmm : m ≠ m2 := fun z => by subst z; rw [e] at e2; cases e2
      exact pget_l_in (by rw [List.getElem?_set_ne hmm]; exact e2)
    | t m2 k2 =>
      obtain ⟨ds2, ts2, e0, e2, e3⟩ := pget_t hq
      cases e0
      by_cases hmm : m2 = m
      · subst hmm
        rw [e] at e2; cases e2
        by_cases hkk : k2 = k
        · subst hkk
          rw [if_pos rfl]
          exact pget_t_in (List.getElem?_set_self hm) (List.getElem?_set_self hk)
        · rw [if_neg (fun z => hkk (by cases z; rfl))]
          exact pget_t_in (List.getElem?_set_self hm) (by rw [List.getElem?_set_ne (Ne.symm hkk)]; exact e3)
      · rw [if_neg (fun z => hmm (by cases z; rfl))]
        exact pget_t_in (by rw [List.getElem?_set_ne (Ne.symm hmm)]; exact e2) e3
section
variable {K : PySem.W.Frag} {H : Hp}
theorem Rf.path {p : Pth} {d : D} {v : V} {fp : List Addr} {es : List D} (h : Rf K H d v fp) (e : pget p d = some es) : ∃ b ys fe, Vat H p v = some (.ref b) ∧ H b = some (.lst ys) ∧ Rfs K H es ys fe ∧ ∀ a ∈ b :: fe, a ∈ fp := by
  cases p with
  | l m =>
    obtain ⟨ds, rfl, em⟩ := pget_l e
    obtain ⟨a, xs, fq, rfl, ha, rfl, hr⟩ := h
    obtain ⟨w, f, e1, r, hf⟩ := hr.get em
    obtain ⟨b, ys, fe, rfl, hb, rfl, hes⟩ := r
    exact ⟨b, ys, fe, by unfold Vat; simp only [ha, e1], hb, hes, fun c hc => List.mem_cons_of_mem _ (hf c hc)⟩
  | t m k =>
    obtain ⟨ds, ts, rfl, em, ek⟩ := pget_t e
    obtain ⟨a, xs, fq, rfl, ha, rfl, hr⟩ := h
    obtain ⟨w, f, e1, r, hf⟩ := hr.get em
    obtain ⟨c, ys, rfl, hc, hts⟩ := r
    obtain ⟨w2, f2, e2, r2, hf2⟩ := hts.get ek
    obtain ⟨b, zs, fe, rfl, hb, rfl, hes⟩ := r2
    exact ⟨b, zs, fe, by unfold Vat; simp only [ha, e1, hc, e2], hb, hes, fun c hc => List.mem_cons_of_mem _ (hf c (hf2 c hc))⟩
theorem upd_im {b : Addr} {ys : List V} {o : HO} (hb : H b = some (.lst ys)) : ∀ a w, H a = some w → Im w → upd H b o a = some w := fun a w e hi => by
  have : a ≠ b := fun z => by
    subst z
    rw [hb] at e; cases e
    rcases hi with ⟨_, z⟩ | ⟨_, _, z⟩ <;> cases z
  rw [upd_ne this]; exact e
theorem Rfs.setAt {b : Addr} {ys : List V} {o : HO} {d d' : D} {x : V} (hb : H b = some (.lst ys)) (hd : ∀ f, Rf K H d x f → f.Nodup → b ∈ f → Rf K (L2.upd H b o) d' x f) :
    ∀ {ds : List D} {xs : List V} {fq : List Addr} {m : Nat}, Rfs K H ds xs fq → fq.Nodup → ds[m]? = some d → xs[m]? = some x → (∀ f, Rf K H d x f → b ∈ f) → Rfs K (L2.upd H b o) (ds.set m d') xs fq
  | [], _, _, m, _, _, e, _, _ => by simp at e
  | d0 :: ds, xs, fq, 0, h, nd, e, ex, hm => by
    obtain ⟨x0, r, f1, f2, rfl, rfl, h1, h2⟩ := h
    simp at e ex
    subst e; subst ex
    obtain ⟨n1, n2, n3⟩ := List.nodup_append.mp nd
    have hbf := hm f1 h1
    exact ⟨x0, r, f1, f2, rfl, rfl, hd f1 h1 n1 hbf, h2.mono (fun a ha w e => by rw [upd_ne (fun z => n3 b hbf a ha z.symm)]; exact e) (upd_im hb)⟩
  | d0 :: ds, xs, fq, m + 1, h, nd, e, ex, hm => by
    obtain ⟨x0, r, f1, f2, rfl, rfl, h1, h2⟩ := h
    simp only [List.getElem?_cons_succ] at e ex
    obtain ⟨n1, n2, n3⟩ := List.nodup_append.mp nd
    obtain ⟨w, f, e1, r1, hf⟩ := h2.get e
    rw [ex] at e1; cases e1
    have hb2 := hf b (hm f r1)
    exact ⟨x0, r, f1, f2, rfl, rfl, h1.mono (fun a ha w e => by rw [upd_ne (fun z => n3 a ha b hb2 z)]; exact e) (upd_im hb), Rfs.setAt hb hd h2 n2 e ex hm⟩
theorem Rf.putPath {p : Pth} {d : D} {v : V} {fp : List Addr} {es es' : List D} {b : Addr} (h : Rf K H d v fp) (nd : fp.Nodup) (e : pget p d = some es) (s : es.all D.scal = true) (s' : es'.all D.scal = true) (hv : Vat H p v = some (.ref b)) :
    Rf K (L2.upd H b (.lst (es'.map D.toV))) (pset es' p d) v fp := by
  have leaf : ∀ f, Rf K H (.lst es) (.ref b) f → f = [b] ∧ ∃ ys, H b = some (.lst ys) := fun f r => by
    obtain ⟨b', ys, fe, e1, hb, rfl, hes⟩ := r
    cases e1
    obtain ⟨_, rfl⟩ := hes.scals s
    exact ⟨rfl, ys, hb⟩
  have leaf' : Rf K (L2.upd H b (.lst (es'.map D.toV))) (.lst es') (.ref b) [b] := ⟨b, _, [], rfl, upd_same, rfl, Rfs.ofScals s'⟩
  cases p with
  | l m =>
    obtain ⟨ds, rfl, em⟩ := pget_l e
    obtain ⟨a, xs, fq, rfl, ha, rfl, hr⟩ := h
    have ex : xs[m]? = some (.ref b) := by unfold Vat at hv; simp only [ha] at hv; exact hv
    obtain ⟨w, f, e1, r, hf⟩ := hr.get em
    rw [ex] at e1; cases e1
    obtain ⟨rfl, ys, hb⟩ := leaf f r
    obtain ⟨na, nq⟩ := List.nodup_cons.mp nd
    have hab : a ≠ b := fun z => na (z ▸ hf b List.mem_cons_self)
    refine ⟨a, xs, fq, rfl, by rw [upd_ne hab]; exact ha, rfl, Rfs.setAt hb (fun f r _ _ => ?_) hr nq em ex fun f r => ?_⟩
    · rw [(leaf f r).1]; exact leaf'
    · rw [(leaf f r).1]; exact List.mem_cons_self
  | t m k =>
    obtain ⟨ds, ts, rfl, em, ek⟩ := pget_t e
    rw [pset_t_in em]
    obtain ⟨a, xs, fq, rfl, ha, rfl, hr⟩ := h
    obtain ⟨w, f, e1, r, hf⟩ := hr.get em
    obtain ⟨c, ys, rfl, hc, hts⟩ := id r
    have ex : ys[k]? = some (.ref b) := by unfold Vat at hv; simp only [ha, e1, hc] at hv; exact hv
    obtain ⟨w2, f2, e2, r2, hf2⟩ := hts.get ek
    rw [ex] at e2; cases e2
    obtain ⟨rfl, zs, hb⟩ := leaf f2 r2
    obtain ⟨na, nq⟩ := List.nodup_cons.mp nd
    have hbq : b ∈ fq := hf b (hf2 b List.mem_cons_self)
    have hab : a ≠ b := fun z => na (z ▸ hbq)
    have hcb : c ≠ b := fun z => by subst z; rw [hb] at hc; cases hc
    have key : ∀ f, Rf K H (.tup ts) (.ref c) f → b ∈ f := fun f r => by
      obtain ⟨c', ys', e1, hc', hts'⟩ := r
      cases e1
      rw [hc] at hc'; cases hc'
      obtain ⟨w3, f3, e3, r3, hf3⟩ := hts'.get ek
      rw [ex] at e3; cases e3
      obtain ⟨rfl, _⟩ := leaf f3 r3
      exact hf3 b List.mem_cons_self
    refine ⟨a, xs, fq, rfl, by rw [upd_ne hab]; exact ha, rfl, Rfs.setAt hb (fun f r nf' _ => ?_) hr nq em e1 key⟩
    obtain ⟨c', ys', e1, hc', hts'⟩ := r
    cases e1
    rw [hc] at hc'; cases hc'
    refine ⟨c, ys, rfl, by rw [upd_ne hcb]; exact hc, Rfs.setAt hb (fun f r _ _ => ?_) hts' nf' ek ex fun f r => ?_⟩
    · rw [(leaf f r).1]; exact leaf'
    · rw [(leaf f r).1]; exact List.mem_cons_self
theorem Rf.path_ne {p : Pth} {d : D} {v : V} {fp : List Addr} {es : List D} {b : Addr} (h : Rf K H d v fp) (nd : fp.Nodup) (e : pget p d = some es) (hv : Vat H p v = some (.ref b)) : ∀ a, v = .ref a → a ≠ b := by
  cases p with
  | l m =>
    obtain ⟨ds, rfl, em⟩ := pget_l e
    obtain ⟨a, xs, fq, rfl, ha, rfl, hr⟩ := h
    obtain ⟨w, f, e1, r, hf⟩ := hr.get em
    obtain ⟨b', ys, fe, rfl, hb, rfl, hes⟩ := r
    have : b' = b := by unfold Vat at hv; simp only [ha, e1] at hv; cases hv; rfl
    subst this
    intro c hc z
    cases hc
    exact (List.nodup_cons.mp nd).1 (z ▸ hf b' List.mem_cons_self)
  | t m k =>
    obtain ⟨ds, ts, rfl, em, ek⟩ := pget_t e
    obtain ⟨a, xs, fq, rfl, ha, rfl, hr⟩ := h
    obtain ⟨w, f, e1, r, hf⟩ := hr.get em
    obtain ⟨c, ys, rfl, hc, hts⟩ := r
    obtain ⟨w2, f2, e2, r2, hf2⟩ := hts.get ek
    obtain ⟨b', zs, fe, rfl, hb, rfl, hes⟩ := r2
    have : b' = b := by unfold Vat at hv; simp only [ha, e1, hc, e2] at hv; cases hv; rfl
    subst this
    intro c' hc' z
    cases hc'
    exact (List.nodup_cons.mp nd).1 (z ▸ hf b' (hf2 b' List.mem_cons_self))
theorem Vat.upd {q : Pth} {d : D} {v : V} {fp : List Addr} {eq : List D} {b : Addr} {o : HO} {ys : List V} (h : Rf K H d v fp) (nd : fp.Nodup) (e : pget q d = some eq) (hb : H b = some (.lst ys)) (hbh : ∀ a, v = .ref a → a ≠ b) : Vat (L2.upd H b o) q v = Vat H q v := by
  cases q with
  | l m =>
    obtain ⟨ds, rfl, em⟩ := pget_l e
    obtain ⟨a, xs, fq, rfl, ha, rfl, hr⟩ := h
    rw [Vat_l, Vat_l, upd_ne (hbh a rfl)]
  | t m k =>
    obtain ⟨ds, ts, rfl, em, ek⟩ := pget_t e
    obtain ⟨a, xs, fq, rfl, ha, rfl, hr⟩ := h
    obtain ⟨w, f, e1, r, hf⟩ := hr.get em
    obtain ⟨c, zs, rfl, hc, hts⟩ := r
    have hcb : c ≠ b := fun z => by subst z; rw [hb] at hc; cases hc
    unfold Vat
    simp only [upd_ne (hbh a rfl), ha, e1, upd_ne hcb]
end
abbrev Al := List (Nat × Pth)
structure POk (K : PySem.W.Frag) (B0 : Hp) (Γ : List Nat) (i : Nat) (al : Al) (fps : Nat → List Addr) (δ : Dl) (σ : St) (H : Hp) : Prop where
  ok : Ok K B0 Γ fps (kill (al.map (·.1)) δ) σ H
  hi : i ∈ Γ
  hj : ∀ p ∈ al, p.1 ∉ Γ
  nd : (al.map (·.1)).Nodup
  al : ∀ p ∈ al, ∃ d v es b, δ[i]? = some (some d) ∧ σ[i]? = some (some v) ∧ pget p.2 d = some es ∧ es.all D.scal = true ∧ δ[p.1]? = some (some (.lst es)) ∧ Vat H p.2 v = some (.ref b) ∧ σ[p.1]? = some (some (.ref b))
section
variable {K : PySem.W.Frag} {Γ : List Nat} {B0 : Hp} {i : Nat} {al : Al} {fps : Nat → List Addr} {δ : Dl} {σ : St} {H H' : Hp}
theorem POk.ni (o : POk K B0 Γ i al fps δ σ H) : i ∉ al.map (·.1) := fun h => by
  obtain ⟨p, hp, e⟩ := List.mem_map.mp h
  exact o.hj p hp (e ▸ o.hi)
theorem Vat.same {p : Pth} {v : V} {b : Addr} (s : Same H H') (h : Vat H p v = some (.ref b)) : Vat H' p v = some (.ref b) := by
  cases v with
  | ref a =>
    cases p with
    | l m =>
      rw [Vat_l] at h ⊢
      cases e : H a with
      | none => rw [e] at h; cases h
      | some o =>
        rw [s a o e]
        rw [e] at h
        exact h
    | t m k =>
      rw [Vat_t] at h ⊢
      cases e : H a with
      | none => rw [e] at h; cases h
      | some o =>
        rw [s a o e]
        rw [e] at h
        cases o with
        | lst xs =>
          dsimp only at h ⊢
          split at h
          · rename_i c ec
            cases e2 : H c with
            | none => rw [e2] at h; cases h
            | some o2 =>
              rw [e2] at h
              simp only [ec, s c o2 e2]
              exact h
          · cases h
        | _ => cases h
  | _ => cases p <;> cases h
theorem POk.same (o : POk K B0 Γ i al fps δ σ H) (s : Same H H') : POk K B0 Γ i al fps δ σ H' :=
  ⟨o.ok.same s, o.hi, o.hj, o.nd, fun p hp => by
    obtain ⟨d, v, es, b, h1, h2, h3, h4, h5, h6, h7⟩ := o.al p hp
    exact ⟨d, v, es, b, h1, h2, h3, h4, h5, Vat.same s h6, h7⟩⟩
theorem POk.own (o : POk K B0 Γ i al fps δ σ H) {d : D} (h : δ[i]? = some (some d)) : ∃ v, σ[i]? = some (some v) ∧ Rf K H d v (fps i) := o.ok.val i d (kill_get.mpr ⟨o.ni, h⟩)
theorem POk.rd (o : POk K B0 Γ i al fps δ σ H) : ∃ fps', Ok K B0 (minus Γ [i]) fps' δ σ H := by
  have hal : ∀ l ∈ al.map (·.1), ∃ es b, δ[l]? = some (some (.lst es)) ∧ es.all D.scal = true ∧ σ[l]? = some (some (.ref b)) ∧ b ∈ fps i ∧ Rf K H (.lst es) (.ref b) [b] := fun l hl => by
    obtain ⟨p, hp, rfl⟩ := List.mem_map.mp hl
    obtain ⟨d, v, es, b, h1, h2, h3, h4, h5, h6, h7⟩ := o.al p hp
    obtain ⟨v', g1, g2⟩ := o.own h1
    rw [h2] at g1; cases g1
    obtain ⟨b', ys, fe, k1, k2, k3, k4⟩ := g2.path h3
    rw [h6] at k1; cases k1
    obtain ⟨_, rfl⟩ := k3.scals h4
    exact ⟨es, b, h5, h4, h7, k4 b List.mem_cons_self, b, ys, [], rfl, k2, rfl, k3⟩
  refine ⟨fun l => if l ∈ al.map (·.1) then (match σ[l]? with | some (some (.ref b)) => [b] | _ => []) else fps l, by have := o.ok.len; rwa [kill_length] at this, o.ok.b0, fun l d e => ?_, fun l h => ?_, fun l hl => ?_, fun l hl k hk a ha => ?_⟩
  · by_cases hl : l ∈ al.map (·.1)
    · obtain ⟨es, b, h1, _, h2, _, h3⟩ := hal l hl
      rw [h1] at e; cases e
      rw [if_pos hl]
      simp only [h2]
      exact ⟨_, rfl, h3⟩
    · rw [if_neg hl]
      exact o.ok.val l d (kill_get.mpr ⟨hl, e⟩)
  · by_cases hl : l ∈ al.map (·.1)
    · obtain ⟨es, b, h1, _⟩ := hal l hl
      exact absurd h1 (h _)
    · rw [if_neg hl]
      exact o.ok.non l fun d z => h d (kill_get.mp z).2
  · obtain ⟨g1, _⟩ := mem_minus.mp hl
    have hn : l ∉ al.map (·.1) := fun z => by
      obtain ⟨p, hp, e⟩ := List.mem_map.mp z
      exact o.hj p hp (e ▸ g1)
    rw [if_neg hn]
    exact o.ok.own l g1
  · obtain ⟨g1, g2⟩ := mem_minus.mp hl
    have hn : l ∉ al.map (·.1) := fun z => by
      obtain ⟨p, hp, e⟩ := List.mem_map.mp z
      exact o.hj p hp (e ▸ g1)
    rw [if_neg hn] at ha
    by_cases hkl : k ∈ al.map (·.1)
    · obtain ⟨es, b, _, _, h2, h3, _⟩ := hal k hkl
      rw [if_pos hkl]
      simp only [h2]
      intro z
      rw [List.mem_singleton.mp z] at ha
      exact o.ok.dj l g1 i (fun z => g2 (by rw [z]; exact List.mem_singleton.mpr rfl)) b ha h3
    · rw [if_neg hkl]
      exact o.ok.dj l g1 k hk a ha
def refr (al : Al) (p : Pth) (es : List D) (δ : Dl) : Dl := al.foldl (fun δ q => if q.2 = p then δ.set q.1 (some (.lst es)) else δ) δ
theorem refr_len {p : Pth} {es : List D} : ∀ {al : Al} {δ : Dl}, (refr al p es δ).length = δ.length
  | [], _ => rfl
  | q :: al, δ => by
    show (refr al p es (if q.2 = p then δ.set q.1 (some (.lst es)) else δ)).length = _
    rw [refr_len]
    split
    · rw [List.length_set]
    · rfl
theorem refr_out {p : Pth} {es : List D} {l : Nat} : ∀ {al : Al} {δ : Dl}, l ∉ al.map (·.1) → (refr al p es δ)[l]? = δ[l]?
  | [], _, _ => rfl
  | q :: al, δ, h => by
    show (refr al p es (if q.2 = p then δ.set q.1 (some (.lst es)) else δ))[l]? = _
    rw [List.map_cons, List.mem_cons, not_or] at h
    rw [refr_out h.2]
    split
    · rw [List.getElem?_set_ne (Ne.symm h.1)]
    · rfl
theorem refr_in {p : Pth} {es : List D} {q : Nat × Pth} : ∀ {al : Al} {δ : Dl}, (al.map (·.1)).Nodup → q ∈ al → q.1 < δ.length → (refr al p es δ)[q.1]? = if q.2 = p then some (some (.lst es)) else δ[q.1]?
  | [], _, _, h, _ => nomatch h
  | r :: al, δ, nd, h, hl => by
    show (refr al p es (if r.2 = p then δ.set r.1 (some (.lst es)) else δ))[q.1]? = _
    rw [List.map_cons, List.nodup_cons] at nd
    rcases List.mem_cons.mp h with e | h'
    · subst e
      rw [refr_out nd.1]
      split
      · rw [List.getElem?_set_self hl]
      · rfl
    · have hne : r.1 ≠ q.1 := fun z => nd.1 (z ▸ List.mem_map_of_mem h')
      rw [refr_in nd.2 h' (by split; rw [List.length_set]; exact hl; exact hl)]
      split
      · rfl
      · split
        · rw [List.getElem?_set_ne hne]
        · rfl
theorem POk.write (o : POk K B0 Γ i al fps δ σ H) {j : Nat} {p : Pth} {d : D} {es es' : List D} {b : Addr} (hp : (j, p) ∈ al) (hd : δ[i]? = some (some d)) (he : δ[j]? = some (some (.lst es))) (s' : es'.all D.scal = true) (hb : σ[j]? = some (some (.ref b))) :
    H b = some (.lst (es.map D.toV)) ∧ POk K B0 Γ i al fps (refr al p es' (δ.set i (some (pset es' p d)))) σ (upd H b (.lst (es'.map D.toV))) := by
  obtain ⟨d0, v, es0, b0, h1, h2, h3, h4, h5, h6, h7⟩ := o.al _ hp
  rw [hd] at h1; cases h1
  rw [he] at h5; cases h5
  rw [hb] at h7; cases h7
  obtain ⟨v', g1, g2⟩ := o.own hd
  rw [h2] at g1; cases g1
  obtain ⟨b', ys, fe, k1, k2, k3, k4⟩ := g2.path h3
  rw [h6] at k1; cases k1
  obtain ⟨rfl, rfl⟩ := k3.scals h4
  obtain ⟨nd, hmu⟩ := o.ok.own i o.hi
  have hbi : b ∈ fps i := k4 b List.mem_cons_self
  have hil : i < δ.length := (List.getElem?_eq_some_iff.mp hd).1
  refine ⟨k2, ⟨?_, fun a w e => ?_, fun l dd e => ?_, fun l h => ?_, fun l hl => ⟨(o.ok.own l hl).1, fun a ha => ⟨((o.ok.own l hl).2 a ha).1, ((o.ok.own l hl).2 a ha).2.upd (.inl ⟨_, rfl⟩)⟩⟩, o.ok.dj⟩, o.hi, o.hj, o.nd, fun q hq => ?_⟩
  · have := o.ok.len
    rw [kill_length] at this ⊢
    rw [refr_len, List.length_set]; exact this
  · rw [upd_ne (fun z => by subst z; rw [(hmu a hbi).1] at e; cases e)]
    exact o.ok.b0 a w e
  · obtain ⟨g1, g3⟩ := kill_get.mp e
    rw [refr_out g1] at g3
    by_cases hli : l = i
    · subst hli
      rw [List.getElem?_set_self hil] at g3
      cases g3
      exact ⟨v, h2, g2.putPath nd h3 h4 s' h6⟩
    · rw [List.getElem?_set_ne (Ne.symm hli)] at g3
      obtain ⟨w, q1, q2⟩ := o.ok.val l dd (kill_get.mpr ⟨g1, g3⟩)
      exact ⟨w, q1, q2.mono (fun a ha w e => by rw [upd_ne (fun z => by rw [z] at ha; exact o.ok.dj i o.hi l hli b hbi ha)]; exact e) (upd_im k2)⟩
  · refine o.ok.non l fun dd z => ?_
    obtain ⟨g1, g3⟩ := kill_get.mp z
    by_cases hli : l = i
    · subst hli
      exact h (pset es' p d) (kill_get.mpr ⟨g1, by rw [refr_out g1, List.getElem?_set_self hil]⟩)
    · exact h dd (kill_get.mpr ⟨g1, by rw [refr_out g1, List.getElem?_set_ne (Ne.symm hli)]; exact g3⟩)
  · obtain ⟨d1, v1, es1, b1, m1, m2, m3, m4, m5, m6, m7⟩ := o.al q hq
    rw [hd] at m1; cases m1
    rw [h2] at m2; cases m2
    have hqi : q.1 ≠ i := fun z => o.hj q hq (z ▸ o.hi)
    have hql : q.1 < (δ.set i (some (pset es' p d))).length := by rw [List.length_set]; exact (List.getElem?_eq_some_iff.mp m5).1
    refine ⟨pset es' p d, v, if q.2 = p then es' else es1, b1, by rw [refr_out o.ni, List.getElem?_set_self hil], h2, pget_pset h3 m3, by split <;> assumption, ?_, ?_, m7⟩
    · rw [refr_in o.nd hq hql, List.getElem?_set_ne (Ne.symm hqi), m5]
      split <;> rfl
    · rw [Vat.upd g2 nd m3 k2 (g2.path_ne nd h3 h6)]
      exact m6
theorem kill_set {j : Nat} : ∀ {M : List Nat} {δ : Dl}, L3.kill M (δ.set j none) = (L3.kill M δ).set j none
  | [], _ => rfl
  | m :: M, δ => by
    show L3.kill M ((δ.set j none).set m none) = (L3.kill M (δ.set m none)).set j none
    rw [← kill_set]
    by_cases h : j = m
    · subst h; rfl
    · rw [List.set_comm _ _ h]
theorem kill_cons {j : Nat} {M : List Nat} {δ : Dl} {x : Option D} : L3.kill (j :: M) (δ.set j x) = (L3.kill M δ).set j none := by
  show L3.kill M ((δ.set j x).set j none) = _
  rw [List.set_set, kill_set]
theorem POk.add (o : POk K B0 Γ i al fps δ σ H) {j : Nat} {p : Pth} {d : D} {v : V} {es : List D} {b : Addr} (hj : j ∉ Γ) (hja : j ∉ al.map (·.1)) (hl : j < δ.length) (hd : δ[i]? = some (some d)) (hv : σ[i]? = some (some v)) (he : pget p d = some es) (s : es.all D.scal = true) (hb : Vat H p v = some (.ref b)) :
    ∃ fps', POk K B0 Γ i ((j, p) :: al) fps' (δ.set j (some (.lst es))) (σ.set j (some (.ref b))) H := by
  have hji : j ≠ i := fun z => hj (z ▸ o.hi)
  have hls : j < σ.length := by have := o.ok.len; rw [kill_length] at this; omega
  refine ⟨_, ⟨by rw [List.map_cons, kill_cons]; exact o.ok.dead j (.ref b) hj, o.hi, fun q hq => ?_, by rw [List.map_cons, List.nodup_cons]; exact ⟨hja, o.nd⟩, fun q hq => ?_⟩⟩
  · rcases List.mem_cons.mp hq with e | h
    · rw [e]; exact hj
    · exact o.hj q h
  · rcases List.mem_cons.mp hq with e | h
    · rw [e]
      exact ⟨d, v, es, b, by rw [List.getElem?_set_ne hji]; exact hd, by rw [List.getElem?_set_ne hji]; exact hv, he, s, List.getElem?_set_self hl, hb, List.getElem?_set_self hls⟩
    · obtain ⟨d1, v1, es1, b1, m1, m2, m3, m4, m5, m6, m7⟩ := o.al q h
      have hq : j ≠ q.1 := fun z => hja (z ▸ List.mem_map_of_mem h)
      exact ⟨d1, v1, es1, b1, by rw [List.getElem?_set_ne hji]; exact m1, by rw [List.getElem?_set_ne hji]; exact m2, m3, m4, by rw [List.getElem?_set_ne hq]; exact m5, m6, by rw [List.getElem?_set_ne hq]; exact m7⟩
theorem POk.setS (o : POk K B0 Γ i al fps δ σ H) {a : Nat} {x : D} (hx : x.scal = true) (ha : a ∉ Γ) (haa : a ∉ al.map (·.1)) : ∃ fps', POk K B0 Γ i al fps' (δ.set a (some x)) (σ.set a (some x.toV)) H := by
  have hai : a ≠ i := fun z => ha (z ▸ o.hi)
  have o2 := (o.ok.setSh (x := x) (v := x.toV) (fp := []) a (Same.refl H) (Rf.ofScal hx) (fun _ _ _ w => (nomatch w))).sub (Γ' := Γ) fun l hl => mem_minus.mpr ⟨hl, fun q => ha (by rw [← List.mem_singleton.mp q]; exact hl)⟩
  have hk : ∀ {M : List Nat} {δ : Dl}, a ∉ M → L3.kill M (δ.set a (some x)) = (L3.kill M δ).set a (some x) := by
    intro M
    induction M with
    | nil => intro δ _; rfl
    | cons m M ih =>
      intro δ h
      rw [List.mem_cons, not_or] at h
      show L3.kill M ((δ.set a (some x)).set m none) = (L3.kill M (δ.set m none)).set a (some x)
      rw [← ih h.2, List.set_comm _ _ h.1]
  refine ⟨_, ⟨by rw [hk haa]; exact o2, o.hi, o.hj, o.nd, fun q hq => ?_⟩⟩
  obtain ⟨d1, v1, es1, b1, m1, m2, m3, m4, m5, m6, m7⟩ := o.al q hq
  have hq' : a ≠ q.1 := fun z => haa (z ▸ List.mem_map_of_mem hq)
  exact ⟨d1, v1, es1, b1, by rw [List.getElem?_set_ne hai]; exact m1, by rw [List.getElem?_set_ne hai]; exact m2, m3, m4, by rw [List.getElem?_set_ne hq']; exact m5, m6, by rw [List.getElem?_set_ne hq']; exact m7⟩
end
def STP (K : PySem.W.Frag) (i : Nat) (t : TS) (Γ : List Nat) (d : Al → DS) : Prop :=
  ∀ ⦃B0 : Hp⦄ ⦃Dn : Ends⦄ ⦃E : DEnds⦄ ⦃al : Al⦄ ⦃fps : Nat → List Addr⦄ ⦃δ : Dl⦄ ⦃σ : St⦄ ⦃H : Hp⦄, (∀ {fps δ σ H}, POk K B0 Γ i al fps δ σ H → E.nx δ → Dn.nx σ H) → (∀ {fps δ σ H x v fp}, Ok K B0 [] fps δ σ H → Rf K H x v fp → E.rt x δ → Dn.rt v H) → POk K B0 Γ i al fps δ σ H → d al E δ → t Dn σ H
section
variable {K : PySem.W.Frag} {Γ Γl Γn : List Nat} {i j : Nat} {t u : TS} {d e : Al → DS} {te tx t1 : TE} {de dx d1 : DE}
theorem st_region (i : Nat) (h : STP K i t Γ d) (hi : i ∈ Γ := by decide) : ST K false [] Γl t Γ Γ (d []) :=
  fun {B0 Dn E fps δ σ H} k o q => h (al := []) (fun o z => k.nx o.ok z) (fun o r z => k.rt o r (fun w => by cases w) z) ⟨o, hi, fun _ h => (nomatch h), List.nodup_nil, fun _ h => (nomatch h)⟩ q
theorem stp_next : STP K i tNext Γ (fun _ => vNext) := fun _ _ _ _ _ _ _ _ k _ o h => k o h
theorem stp_seq (h1 : STP K i t Γ d) (h2 : STP K i u Γ e) : STP K i (tSeq t u) Γ (fun al => vSeq (d al) (e al)) :=
  fun {B0 Dn E al fps δ σ H} k kr o h => h1 (Dn := { Dn with nx := u Dn }) (E := { E with nx := e al E }) (fun o h => h2 k kr o h) kr o h
theorem stp_if {c : TT} {dc : DT} (hc : TR K (minus Γ [i]) c dc) (h1 : STP K i t Γ d) (h2 : STP K i u Γ e) : STP K i (tIfS c t u) Γ (fun al => vIfS dc (d al) (e al)) :=
  fun {B0 Dn E al fps δ σ H} k kr o h => by
    obtain ⟨fps', o'⟩ := o.rd
    exact hc.run o' (hc.mono _ _ _ (fun b z H' s => ite_imp (fun z => h1 k kr (o.same s) z) (fun z => h2 k kr (o.same s) z) z) h)
theorem stp_ret (he : ER K (minus Γ [i]) te de) : STP K i (tRet te) Γ (fun _ => vRet [] de) :=
  fun {B0 Dn E al fps δ σ H} k kr o h => by
    obtain ⟨fps', o'⟩ := o.rd
    refine he.run o' (he.mono _ _ _ (fun x z v H' s r => ?_) h)
    obtain ⟨fp, r⟩ := r
    exact kr ((o'.same s).sub (Γ' := []) fun _ h => (nomatch h)) r z
def vSetP (a : Nat) (de : DE) (al : Al) (E : DEnds) (δ : Dl) : Prop := de δ fun x => (x.scal = true ∧ a ∉ al.map (·.1)) ∧ E.nx (δ.set a (some x))
theorem stp_set (a : Nat) (he : ER K (minus Γ [i]) te de) (ha : a ∉ Γ := by decide) : STP K i (tAsg te (gName a)) Γ (vSetP a de) :=
  fun {B0 Dn E al fps δ σ H} k kr o h => by
    obtain ⟨fps', o'⟩ := o.rd
    refine he.run o' (he.mono _ _ _ (fun x z v H' s r => ?_) h)
    obtain ⟨fp, r⟩ := r
    obtain ⟨rfl, rfl⟩ := r.scal z.1.1
    obtain ⟨fps2, o2⟩ := (o.same s).setS z.1.1 ha z.1.2
    exact k o2 z.2
def asA (al : Al) (n j : Nat) (P : Pth → Prop) : Prop := match al[n]? with | some q => q.1 = j ∧ P q.2 | none => False
theorem asA_out {al : Al} {n j : Nat} {P : Pth → Prop} (h : asA al n j P) : ∃ p, (j, p) ∈ al ∧ P p := by
  unfold asA at h
  split at h
  · rename_i q e
    obtain ⟨rfl, h⟩ := h
    exact ⟨q.2, List.mem_of_getElem? e, h⟩
  · exact h.elim
def slotX (δ : Dl) (i : Nat) (P : DK) : Prop := match δ[i]? with | some (some d) => P d | _ => False
theorem slotX_out {δ : Dl} {i : Nat} {P : DK} (h : slotX δ i P) : ∃ d, δ[i]? = some (some d) ∧ P d := by
  unfold slotX at h
  split at h
  · exact ⟨_, by assumption, h⟩
  · exact h.elim
def vWr (i j n : Nat) (al : Al) (δ : Dl) (f : List D → Option (List D)) (P : Dl → Prop) : Prop := asA al n j fun p => slotX δ i fun d => slotL δ j fun es => match f es with | some es' => es'.all D.scal = true ∧ P (refr al p es' (δ.set i (some (pset es' p d)))) | none => False
theorem vWr_out {n : Nat} {al : Al} {δ : Dl} {f : List D → Option (List D)} {P : Dl → Prop} (h : vWr i j n al δ f P) : ∃ p d es es', (j, p) ∈ al ∧ δ[i]? = some (some d) ∧ δ[j]? = some (some (.lst es)) ∧ f es = some es' ∧ es'.all D.scal = true ∧ P (refr al p es' (δ.set i (some (pset es' p d)))) := by
  obtain ⟨p, h1, h⟩ := asA_out h
  obtain ⟨d, h2, h⟩ := slotX_out h
  obtain ⟨es, h3, h⟩ := slotL_out h
  cases e : f es with
  | none => rw [e] at h; exact h.elim
  | some es' =>
    rw [e] at h
    exact ⟨p, d, es, es', h1, h2, h3, e, h.1, h.2⟩
theorem POk.at {B0 : Hp} {al : Al} {fps : Nat → List Addr} {δ : Dl} {σ : St} {H : Hp} (o : POk K B0 Γ i al fps δ σ H) {p : Pth} (hp : (j, p) ∈ al) : ∃ b, σ[j]? = some (some (.ref b)) := by
  obtain ⟨_, _, _, b, _, _, _, _, _, _, h⟩ := o.al _ hp
  exact ⟨b, h⟩
def isA (al : Al) (n j : Nat) : Prop := match al[n]? with | some q => q.1 = j | none => False
theorem POk.isA {B0 : Hp} {al : Al} {fps : Nat → List Addr} {δ : Dl} {σ : St} {H : Hp} (o : POk K B0 Γ i al fps δ σ H) {n : Nat} (h : isA al n j) : ∃ b, σ[j]? = some (some (.ref b)) := by
  unfold L3.isA at h
  split at h
  · rename_i q e
    subst h
    exact o.at (p := q.2) (List.mem_of_getElem? e)
  · exact h.elim
def vPutP (i j n : Nat) (de dx : DE) (al : Al) (E : DEnds) (δ : Dl) : Prop := isA al n j ∧ de δ fun x => x.scal = true ∧ dx δ fun k => asI [k] fun q => vWr i j n al δ (fun es => (ixN es.length q).map fun m => es.set m x) E.nx
theorem stp_put (j n : Nat) (he : ER K (minus Γ [i]) te de) (hx : ER K (minus Γ [i]) tx dx) : STP K i (tAsg te (gSub (tVar j) tx rSetL)) Γ (vPutP i j n de dx) :=
  fun {B0 Dn E al fps δ σ H} k kr o h => by
    obtain ⟨fps', o'⟩ := o.rd
    obtain ⟨b, hb⟩ := o.isA h.1
    refine he.run o' (he.mono _ _ _ (fun x z v H1 s1 r => ?_) h.2)
    obtain ⟨zs, z⟩ := z
    obtain ⟨fp, r⟩ := r
    obtain ⟨rfl, rfl⟩ := r.scal zs
    obtain ⟨fps2, o2⟩ := (o.same s1).rd
    refine ⟨.ref b, hb, hx.run o2 (hx.mono _ _ _ (fun y z w H2 s2 r2 => ?_) z)⟩
    obtain ⟨q, eq, z⟩ := asI1_out z
    subst eq
    obtain ⟨p, d, es, es', hp, hd, hes, ef, s', z⟩ := vWr_out z
    cases em : ixN es.length q with
    | none => rw [em] at ef; cases ef
    | some m =>
      rw [em] at ef
      cases ef
      obtain ⟨g1, g2⟩ := ((o.same s1).same s2).write hp hd hes s' hb
      refine ⟨b, _, q, m, rfl, r2.int, g1, by rw [List.length_map]; exact em, ?_⟩
      rw [List.map_set] at g2
      exact k g2 z
def vAugP (i j n : Nat) (f : Int → Int → Int) (dx de : DE) (al : Al) (E : DEnds) (δ : Dl) : Prop := isA al n j ∧ dx δ fun k => asI [k] fun q => 0 ≤ q ∧ slotL δ j fun es0 => asO (es0[q.toNat]?) fun x => asI [x] fun a => de δ fun y => asI [y] fun c => vWr i j n al δ (fun es => some (es.set q.toNat (.int (f a c)))) E.nx
theorem stp_aug (j n : Nat) {f : Int → Int → Int} (hx : ER K (minus Γ [i]) tx dx) (he : ER K (minus Γ [i]) te de) : STP K i (tAugS (tVar j) tx te (rGetL K) (ipI f) rSetL) Γ (vAugP i j n f dx de) :=
  fun {B0 Dn E al fps δ σ H} k kr o h => by
    obtain ⟨fps', o'⟩ := o.rd
    obtain ⟨b, hb⟩ := o.isA h.1
    refine ⟨.ref b, hb, hx.run o' (hx.mono _ _ _ (fun y z w H1 s1 r1 => ?_) h.2)⟩
    obtain ⟨q, eq, z⟩ := asI1_out z
    subst eq
    obtain ⟨hq, z⟩ := z
    obtain ⟨es0, he0, z⟩ := slotL_out z
    obtain ⟨x, ex, z⟩ := asO_out z
    obtain ⟨a, ea, z⟩ := asI1_out z
    subst ea
    have o1 := o.same s1
    obtain ⟨fps1, or1⟩ := o1.rd
    obtain ⟨v0, q1, q2⟩ := or1.val j _ he0
    rw [hb] at q1; cases q1
    obtain ⟨b', ys, fe, e1, hbl, _, hr⟩ := q2
    cases e1
    obtain ⟨v1, f1, e2, r2, _⟩ := hr.get ex
    have e3 : v1 = .int a := r2.1
    subst e3
    refine ⟨b, ys, q, .int a, rfl, r1.int, .inl (.inl hbl), hq, e2, he.run or1 (he.mono _ _ _ (fun y z w2 H2 s2 r3 => ?_) z)⟩
    obtain ⟨c, ec, z9⟩ := asI1_out z
    subst ec
    obtain ⟨p, d, es, es', hp, hd, hes, ef, s', z9⟩ := vWr_out z9
    cases ef
    rw [he0] at hes; cases hes
    obtain ⟨g1, g2⟩ := (o1.same s2).write hp hd he0 s' hb
    have hlt := (List.getElem?_eq_some_iff.mp ex).1
    refine ⟨a, c, rfl, r3.int, b, _, q, q.toNat, rfl, r1.int, g1, by rw [List.length_map]; exact ixN_nat hq (by omega), ?_⟩
    rw [List.map_set] at g2
    exact k g2 z9
def vAppP (i j n : Nat) (de : DE) (al : Al) (E : DEnds) (δ : Dl) : Prop := isA al n j ∧ de δ fun x => x.scal = true ∧ slotL δ j fun es0 => es0.length < 1000 ∧ vWr i j n al δ (fun es => some (es ++ [x])) E.nx
theorem stp_app (j n : Nat) (he : ER K (minus Γ [i]) te de) : STP K i (tDrop (tBM K "list" rAppend (tVar j) (tCons te tNil))) Γ (vAppP i j n de) :=
  fun {B0 Dn E al fps δ σ H} k kr o h => by
    obtain ⟨fps', o'⟩ := o.rd
    obtain ⟨b, hb⟩ := o.isA h.1
    have hty : ∃ ys, H b = some (.lst ys) := by
      have h1 := h.1
      unfold isA at h1
      split at h1
      · rename_i q e
        subst h1
        obtain ⟨d, v, es, b', m1, m2, m3, m4, m5, m6, m7⟩ := o.al q (List.mem_of_getElem? e)
        rw [hb] at m7; cases m7
        exact ⟨_, (o.write (es' := []) (p := q.2) (j := q.1) (List.mem_of_getElem? e) m1 m5 rfl hb).1⟩
      · exact h1.elim
    obtain ⟨ys, hys⟩ := hty
    refine ⟨.ref b, hb, .inl ⟨rfl, ys, .inl (.inl hys)⟩, he.run o' (he.mono _ _ _ (fun x z v H1 s1 r => ?_) h.2)⟩
    obtain ⟨zs, z⟩ := z
    obtain ⟨fp, r⟩ := r
    obtain ⟨rfl, rfl⟩ := r.scal zs
    obtain ⟨es0, he0, hl, z⟩ := slotL_out z
    obtain ⟨p, d, es, es', hp, hd, hes, ef, s', z⟩ := vWr_out z
    cases ef
    rw [he0] at hes; cases hes
    obtain ⟨g1, g2⟩ := (o.same s1).write hp hd he0 s' hb
    refine ⟨b, _, x.toV, rfl, rfl, g1, by rw [List.length_map]; exact Nat.lt_of_lt_of_le hl (le1000 (Nat.le_refl _)), ?_⟩
    rw [List.map_append] at g2
    exact k g2 z
def vPopP (i j n : Nat) (dx : DE) (al : Al) (E : DEnds) (δ : Dl) : Prop := isA al n j ∧ dx δ fun k => asI [k] fun q => slotL δ j fun es0 => (0 ≤ q ∧ q < es0.length ∧ es0.length < 1000) ∧ vWr i j n al δ (fun es => some (es.eraseIdx q.toNat)) E.nx
theorem stp_pop (j n : Nat) (hx : ER K (minus Γ [i]) tx dx) : STP K i (tDrop (tBM K "list" rPopAt (tVar j) (tCons tx tNil))) Γ (vPopP i j n dx) :=
  fun {B0 Dn E al fps δ σ H} k kr o h => by
    obtain ⟨fps', o'⟩ := o.rd
    obtain ⟨b, hb⟩ := o.isA h.1
    have hty : ∃ ys, H b = some (.lst ys) := by
      have h1 := h.1
      unfold isA at h1
      split at h1
      · rename_i q e
        subst h1
        obtain ⟨d, v, es, b', m1, m2, m3, m4, m5, m6, m7⟩ := o.al q (List.mem_of_getElem? e)
        rw [hb] at m7; cases m7
        exact ⟨_, (o.write (es' := []) (p := q.2) (j := q.1) (List.mem_of_getElem? e) m1 m5 rfl hb).1⟩
      · exact h1.elim
    obtain ⟨ys, hys⟩ := hty
    refine ⟨.ref b, hb, .inl ⟨rfl, ys, .inl (.inl hys)⟩, hx.run o' (hx.mono _ _ _ (fun y z v H1 s1 r => ?_) h.2)⟩
    obtain ⟨q, eq, z⟩ := asI1_out z
    subst eq
    obtain ⟨es0, he0, ⟨h0, hlt, hl⟩, z⟩ := slotL_out z
    obtain ⟨p, d, es, es', hp, hd, hes, ef, s', z⟩ := vWr_out z
    cases ef
    rw [he0] at hes; cases hes
    obtain ⟨g1, g2⟩ := (o.same s1).write hp hd he0 s' hb
    have hi : q.toNat < (es0.map D.toV).length := by rw [List.length_map]; omega
    refine ⟨b, _, q, q.toNat, (es0.map D.toV)[q.toNat], rfl, by rw [r.int], g1, by omega, by omega, by rw [seqIndex_of h0 (by rw [List.length_map]; omega)], List.getElem?_eq_getElem hi, ?_⟩
    rw [show (es0.eraseIdx q.toNat).map D.toV = (es0.map D.toV).eraseIdx q.toNat from (map_eraseIdx _ _).symm] at g2
    exact k g2 z
def vClearP (i j n : Nat) (al : Al) (E : DEnds) (δ : Dl) : Prop := isA al n j ∧ vWr i j n al δ (fun _ => some []) E.nx
theorem stp_clear (j n : Nat) : STP K i (tDrop (tBM0 K "list" rClear (tVar j))) Γ (vClearP i j n) :=
  fun {B0 Dn E al fps δ σ H} k kr o h => by
    obtain ⟨b, hb⟩ := o.isA h.1
    obtain ⟨p, d, es, es', hp, hd, hes, ef, s', z⟩ := vWr_out h.2
    cases ef
    obtain ⟨g1, g2⟩ := o.write hp hd hes s' hb
    exact ⟨.ref b, hb, .inl ⟨rfl, _, .inl (.inl g1)⟩, b, _, rfl, rfl, g1, k g2 z⟩
def vNameP (i j : Nat) (d1 : DE) (d : Al → DS) (al : Al) (E : DEnds) (δ : Dl) : Prop := slotL δ i fun ds => d1 δ fun k => asI [k] fun m => (0 ≤ m ∧ j < δ.length ∧ j ∉ al.map (·.1)) ∧ asLst (ds[m.toNat]?) fun es => es.all D.scal = true ∧ d ((j, .l m.toNat) :: al) { E with nx := fun _ => False } (δ.set j (some (.lst es)))
theorem stp_name (j : Nat) (h1 : ER K (minus Γ [i]) t1 d1) (hb : STP K i t Γ d) (hj : j ∉ Γ := by decide) : STP K i (tSeq (tAsg (tOp (rIxL K) (tVar i) t1) (gName j)) t) Γ (vNameP i j d1 d) :=
  fun {B0 Dn E al fps δ σ H} k kr o h => by
    obtain ⟨ds, e, h⟩ := slotL_out h
    obtain ⟨v, q1, q2⟩ := o.own e
    obtain ⟨fps', o'⟩ := o.rd
    obtain ⟨a, xs, fq, rfl, ha, e3, hr⟩ := q2
    refine ⟨.ref a, q1, h1.run o' (h1.mono _ _ _ (fun y z w H1 s1 r1 => ?_) h)⟩
    obtain ⟨m, em, z1⟩ := asI1_out z
    subst em
    obtain ⟨⟨hm, hjl, hja⟩, z1⟩ := z1
    obtain ⟨es, ees, hs, z2⟩ := asLst_out z1
    obtain ⟨w', f, e1, r, hf⟩ := hr.get ees
    obtain ⟨b, ys, fe, rfl, hbl, _, _⟩ := r
    have hlt := (List.getElem?_eq_some_iff.mp e1).1
    refine ⟨a, xs, m, .ref b, rfl, r1.int, .inl (.inl (s1 _ _ ha)), by unfold atI; rw [ixN_nat hm (by omega)]; exact e1, ?_⟩
    obtain ⟨fps2, o2⟩ := (o.same s1).add hj hja hjl e q1 (pget_l_in ees) hs (b := b) (by rw [Vat_l, s1 _ _ ha]; exact e1)
    exact hb (E := { E with nx := fun _ => False }) (fun _ z => z.elim) kr o2 z2
def asTP (o : Option D) (P : D → List D → Prop) : Prop := match o with | some (.tup [x, .lst es]) => P x es | _ => False
theorem asTP_out {o : Option D} {P : D → List D → Prop} (h : asTP o P) : ∃ x es, o = some (.tup [x, .lst es]) ∧ P x es := by
  unfold asTP at h
  split at h
  · exact ⟨_, _, rfl, h⟩
  · exact h.elim
def vNameT (i a j : Nat) (d1 : DE) (d : Al → DS) (al : Al) (E : DEnds) (δ : Dl) : Prop := slotL δ i fun ds => d1 δ fun k => asI [k] fun m => (0 ≤ m ∧ j < δ.length ∧ j ∉ al.map (·.1) ∧ a ∉ al.map (·.1)) ∧ asTP (ds[m.toNat]?) fun x es => (x.scal = true ∧ es.all D.scal = true) ∧ d ((j, .t m.toNat 1) :: al) { E with nx := fun _ => False } ((δ.set a (some x)).set j (some (.lst es)))
theorem stp_nameT (a j : Nat) (h1 : ER K (minus Γ [i]) t1 d1) (hb : STP K i t Γ d) (hj : j ∉ Γ := by decide) (ha : a ∉ Γ := by decide) : STP K i (tSeq (tAsg (tOp (rIxL K) (tVar i) t1) (gTup K 2 (gCons (gName a) (gCons (gName j) gNil)))) t) Γ (vNameT i a j d1 d) :=
  fun {B0 Dn E al fps δ σ H} k kr o h => by
    obtain ⟨ds, e, h⟩ := slotL_out h
    obtain ⟨v, q1, q2⟩ := o.own e
    obtain ⟨fps', o'⟩ := o.rd
    obtain ⟨a0, xs, fq, rfl, ha0, e3, hr⟩ := q2
    refine ⟨.ref a0, q1, h1.run o' (h1.mono _ _ _ (fun y z w H1 s1 r1 => ?_) h)⟩
    obtain ⟨m, em, z1⟩ := asI1_out z
    subst em
    obtain ⟨⟨hm, hjl, hja, haa⟩, z1⟩ := z1
    obtain ⟨x, es, ees, ⟨hx, hs⟩, z2⟩ := asTP_out z1
    obtain ⟨w', f, e1, r, hf⟩ := hr.get ees
    obtain ⟨c, ys, rfl, hc, hts⟩ := r
    obtain ⟨x1, r1', f1, f2, rfl, _, hx1, hts2⟩ := hts
    obtain ⟨x2, r2', f3, f4, rfl, _, hx2, hts3⟩ := hts2
    obtain ⟨rfl, _⟩ := hts3
    obtain ⟨rfl, _⟩ := hx1.scal hx
    obtain ⟨b, zs, fe, rfl, hbl, _, _⟩ := hx2
    have hlt := (List.getElem?_eq_some_iff.mp e1).1
    have hai : a ≠ i := fun z => ha (z ▸ o.hi)
    refine ⟨a0, xs, m, .ref c, rfl, r1.int, .inl (.inl (s1 _ _ ha0)), by unfold atI; rw [ixN_nat hm (by omega)]; exact e1, c, _, rfl, .inl (.inl (s1 _ _ hc)), rfl, x.toV, _, rfl, .ref b, _, rfl, rfl, ?_⟩
    obtain ⟨fps1, o1⟩ := (o.same s1).setS hx ha haa
    obtain ⟨fps2, o2⟩ := o1.add hj hja (by rw [List.length_set]; exact hjl) (by rw [List.getElem?_set_ne hai]; exact e) (by rw [List.getElem?_set_ne hai]; exact q1) (pget_t_in ees (k := 1) rfl) hs (b := b) (by rw [Vat_t, s1 _ _ ha0]; simp only [e1, s1 _ _ hc]; rfl)
    exact hb (E := { E with nx := fun _ => False }) (fun _ z => z.elim) kr o2 z2
end
end L3
set_option Elab.async false
set_option linter.all false
set_option maxRecDepth 100000
set_option maxHeartbeats 4000000
namespace L2
open PySem PySem.Spec PyProof.Rows
end L2
namespace L3
open PySem L2
section
variable {K : PySem.W.Frag} {Γ M : List Nat} {t u ta tb : TE} {d e da db : DE} {C : Addr} {ns : List Str} {f : Str}
end
end L3
set_option Elab.async false
set_option linter.all false
set_option maxRecDepth 100000
set_option maxHeartbeats 4000000
namespace L3
open PySem L2
abbrev DSX := List D → DK → (Addr → Prop) → Prop
def DMonoX (S : DSX) : Prop := ∀ xs (P P' : DK) (R R' : Addr → Prop), (∀ z, P z → P' z) → (∀ C, R C → R' C) → S xs P R → S xs P' R'
def spX (K : PySem.W.Frag) (S : DSX) : Sp := fun vs H Q E => ∃ ds, Rps K H ds vs ∧ S ds (fun x => ∀ v H' fp, Same H H' → Rf K H' x v fp → Nw H H' nf [] fp → Q v H') (fun C => ∀ H', Same H H' → E (.ref C) none H')
def SX (K : PySem.W.Frag) (ρ : Bool) (Γr Γl : List Nat) (R : Addr → Prop) (t : XK → TS) (Γ Γn : List Nat) (d : DS) : Prop :=
  ∀ ⦃B0 : Hp⦄ ⦃Dn : Ends⦄ ⦃E : DEnds⦄ ⦃Ex : XK⦄ ⦃fps : Nat → List Addr⦄ ⦃δ : Dl⦄ ⦃σ : St⦄ ⦃H : Hp⦄, (∀ C H', Same B0 H' → R C → Ex (.ref C) none H') → EOk K ρ Γr Γl Γn B0 Dn E → Ok K B0 Γ fps δ σ H → d E δ → t Ex Dn σ H
section
variable {K : PySem.W.Frag} {ρ : Bool} {Γr Γl Γ Γ1 Γ2 Γn M : List Nat} {R : Addr → Prop} {t u : XK → TS} {t0 : TS} {d e : DS} {C : Addr} {S : DSX} {ta : TA} {da : DA}
theorem ST.sx (h : ST K ρ Γr Γl t0 Γ Γn d) : SX K ρ Γr Γl R (fun _ => t0) Γ Γn d := fun _ _ _ _ _ _ _ _ _ k o q => h k o q
theorem sx_seq (h1 : SX K ρ Γr Γl R t Γ Γ1 d) (h2 : SX K ρ Γr Γl R u Γ1 Γ2 e) : SX K ρ Γr Γl R (fun Ex => tSeq (t Ex) (u Ex)) Γ Γ2 (vSeq d e) :=
  fun {B0 Dn E Ex fps δ σ H} x k o h => h1 (Dn := { Dn with nx := u Ex Dn }) (E := { E with nx := e E }) x ⟨fun o h => h2 x k o h, k.bk, k.ct, k.rt⟩ o h
theorem sx_if {c : TT} {dc : DT} (hc : TR K Γ c dc) (h1 : SX K ρ Γr Γl R t Γ Γn d) (h2 : SX K ρ Γr Γl R u Γ Γn e) : SX K ρ Γr Γl R (fun Ex => tIfS c (t Ex) (u Ex)) Γ Γn (vIfS dc d e) :=
  fun _ _ _ _ _ _ _ _ x k o h => hc.run o (hc.mono _ _ _ (fun b z H' s => ite_imp (fun z => h1 x k (o.same s) z) (fun z => h2 x k (o.same s) z) z) h)
def vRaise (C : Addr) (R : Addr → Prop) (da : DA) (_ : DEnds) (δ : Dl) : Prop := da δ fun xs => xs.length ≤ 1000 ∧ R C
theorem sx_raise (ha : AR K Γ ta da) : SX K ρ Γr Γl R (fun Ex => tRaise C Ex ta) Γ Γn (vRaise C R da) :=
  fun {B0 Dn E Ex fps δ σ H} x k o h => ha.run o (ha.mono _ _ _ (fun xs z vs H' s r => by
    obtain ⟨fp, r⟩ := r
    exact ⟨by rw [r.length]; exact z.1, x C H' (o.b0.trans s) z.2⟩) h)
def vDropX (S : DSX) (R : Addr → Prop) (da : DA) (E : DEnds) (δ : Dl) : Prop := da δ fun xs => S xs (fun _ => E.nx δ) R
def vSetX (S : DSX) (R : Addr → Prop) (i : Nat) (da : DA) (E : DEnds) (δ : Dl) : Prop := da δ fun xs => S xs (fun x => E.nx (δ.set i (some x))) R
theorem em_callX {Ex : XK} {B0 : Hp} {fps : Nat → List Addr} {δ : Dl} {σ : St} {H : Hp} {Q : VK} (hS : DMonoX S) (ha : AR K Γ ta da) (x : ∀ C H', Same B0 H' → R C → Ex (.ref C) none H') (o : Ok K B0 Γ fps δ σ H)
    (h : da δ fun xs => S xs (fun z => ∀ v H' fp, Same H H' → Rf K H' z v fp → Nw H H' fps [] fp → Q v H') R) : tCall (spX K S) [] Ex ta σ H Q :=
  ha.run o (ha.mono _ _ _ (fun xs z vs H1 s1 r1 => ⟨xs, by rw [List.append_nil]; exact r1, hS _ _ _ _ _ (fun u z u' H' fp s r n => z u' H' fp (s1.trans s) r (n.any.later s1)) (fun C z H2 s2 => x C H2 (o.b0.trans (s1.trans s2)) z) z⟩) h)
def vRetX (S : DSX) (R : Addr → Prop) (da : DA) (E : DEnds) (δ : Dl) : Prop := da δ fun xs => S xs (fun x => E.rt x δ) R
theorem fn_valX {N : List Str} {dR : (Addr → Prop) → DS} (hs : ∀ R, SX K true [] [] R t [] Γn (dR R)) (hd : ∀ ds P R, S ds P R → dR R (endsD P) (startD N ds)) :
    ∀ {vs H Q E}, spX K S vs H Q E → t E { nx := fun _ H' => Q .non H', rt := Q } (L2.start N vs) H := by
  rintro vs H Q E ⟨ds, r, h⟩
  obtain ⟨fps, o⟩ := start_ok (N := N) r
  refine hs _ (E := endsD _) (Ex := E) (fun C H' s z => z H' s) ⟨fun {fps δ σ H'} o z => ?_, fun o (z : False) => z.elim, fun o (z : False) => z.elim, fun o r i z => ?_⟩ o (hd ds _ _ h)
  · exact z _ H' [] o.b0 ⟨rfl, rfl⟩ Nw.nil
  · exact z _ _ _ o.b0 r ⟨(i rfl).nd, (i rfl).mu, fun a ha => .inl ((i rfl).nw a ha)⟩
def noX (S : DSX) : DSp := fun ds P => S ds P fun _ => False
theorem noX_mono (hS : DMonoX S) : DMono (noX S) := fun xs P P' k h => hS _ _ _ _ _ k (fun _ z => z) h
theorem em_noX {Ex : XK} (hS : DMonoX S) (ha : AR K Γ ta da) : EM K Γ [] (tCall (spX K S) [] Ex ta) (vCall (noX S) da) :=
  ⟨fun δ P P' k h => ha.mono _ _ _ (fun y z => noX_mono hS _ _ _ k z) h, fun {B0 fps δ σ H Q} o q => em_callX (R := fun _ => False) hS ha (fun _ _ _ z => z.elim) o q⟩
theorem Ok.gone {B0 : Hp} {fps : Nat → List Addr} {δ : Dl} {σ : St} {H : Hp} (o : Ok K B0 Γ fps δ σ H) (j : Nat) (hj : j ∉ Γ) : Ok K B0 Γ (fun i => if i = j then [] else fps i) (δ.set j none) (σ.set j none) H := by
  have o1 := o.dead j .non hj
  refine ⟨by simp [o.len], o.b0, fun i d e => ?_, o1.non, o1.own, o1.dj⟩
  obtain ⟨v, h1, h2⟩ := o1.val i d e
  refine ⟨v, ?_, h2⟩
  by_cases h : i = j
  · subst h
    rw [List.getElem?_set] at e
    by_cases hl : i < δ.length
    · simp [hl] at e
    · simp [hl] at e
  · rw [List.getElem?_set_ne (Ne.symm h)] at h1 ⊢
    exact h1
def vTry (i : Nat) (C : Addr) (S : DSX) (da : DA) (dh : DS) (E : DEnds) (δ : Dl) : Prop :=
  da δ fun xs => S xs (fun _ => E.nx δ) fun C' => C' = C ∧ dh { nx := fun δ' => E.nx (δ'.set i none), rt := fun _ _ => False, bk := fun _ => False, ct := fun _ => False } (δ.set i none)
end
end L3
set_option Elab.async false
set_option linter.all false
set_option maxRecDepth 100000
set_option maxHeartbeats 4000000
namespace L3
open PySem L2
def STi (K : PySem.W.Frag) (i : Nat) (t : Addr → TS) (Γ : List Nat) (d : DS) : Prop :=
  ∀ ⦃a : Addr⦄ ⦃B0 : Hp⦄ ⦃Dn : Ends⦄ ⦃E : DEnds⦄ ⦃fps : Nat → List Addr⦄ ⦃δ : Dl⦄ ⦃σ : St⦄ ⦃H : Hp⦄, (∀ {fps δ σ H}, Ok K B0 Γ fps δ σ H → σ[i]? = some (some (.ref a)) → E.nx δ → Dn.nx σ H) →
    Ok K B0 Γ fps δ σ H → σ[i]? = some (some (.ref a)) → d E δ → t a Dn σ H
section
variable {K : PySem.W.Frag} {ρ : Bool} {Γr Γl Γ : List Nat} {i : Nat} {t u : Addr → TS} {d e : DS} {C : Addr} {S : DSX} {ta : TA} {da : DA}
theorem sti_next : STi K i (fun _ => tNext) Γ vNext := fun _ _ _ _ _ _ _ _ k o hi h => k o hi h
theorem sti_seq (h1 : STi K i t Γ d) (h2 : STi K i u Γ e) : STi K i (fun a => tSeq (t a) (u a)) Γ (vSeq d e) :=
  fun {a B0 Dn E fps δ σ H} k o hi h => h1 (Dn := { Dn with nx := u a Dn }) (E := { E with nx := e E }) (fun o hi h => h2 k o hi h) o hi h
theorem sti_set (j : Nat) {te : TE} {de : DE} (he : ES K Γ te de) (hj : j ∉ Γ := by decide) (hij : j ≠ i := by decide) : STi K i (fun _ => tAsg te (gName j)) Γ (vSet j de) :=
  fun {a B0 Dn E fps δ σ H} k o hi h => he.run o (he.mono _ _ _ (fun x z v H' fp s r n => k ((o.setSh j s r n).sub fun l hl => mem_minus.mpr ⟨hl, fun q => hj (by rw [← List.mem_singleton.mp q]; exact hl)⟩)
    (by rw [List.getElem?_set_ne hij]; exact hi) z) h)
def vKnow (j : Nat) (n : Int) (E : DEnds) (δ : Dl) : Prop := E.nx (δ.set j (some (.int n)))
theorem sti_know (j : Nat) {te : Addr → TE} {n : Int} (he : ∀ a σ H (Q : VK), σ[i]? = some (some (.ref a)) → (∀ H', Same H H' → Q (.int n) H') → te a σ H Q) (hj : j ∉ Γ := by decide) (hij : j ≠ i := by decide) :
    STi K i (fun a => tAsg (te a) (gName j)) Γ (vKnow j n) :=
  fun {a B0 Dn E fps δ σ H} k o hi h => he a σ H _ hi fun H' s => k ((o.setSh j s (Rf.ofScal (d := .int n) rfl) (fun _ _ _ z => (nomatch z))).sub fun l hl => mem_minus.mpr ⟨hl, fun q => hj (by rw [← List.mem_singleton.mp q]; exact hl)⟩)
    (by rw [List.getElem?_set_ne hij]; exact hi) h
def vWhen (b : Bool) (d e : DS) (E : DEnds) (δ : Dl) : Prop := if b = true then d E δ else e E δ
theorem sti_if {c : Addr → TT} {b : Bool} (hc : ∀ a σ H (Q : Bool → Hp → Prop), σ[i]? = some (some (.ref a)) → (∀ H', Same H H' → Q b H') → c a σ H Q) (h1 : STi K i t Γ d) (h2 : STi K i u Γ e) :
    STi K i (fun a => tIfS (c a) (t a) (u a)) Γ (vWhen b d e) :=
  fun {a B0 Dn E fps δ σ H} k o hi h => hc a σ H _ hi fun H' s => ite_imp (fun z => h1 k (o.same s) hi z) (fun z => h2 k (o.same s) hi z) h
def vTryI (i : Nat) (C : Addr) (S : DSX) (da : DA) (dh : DS) (E : DEnds) (δ : Dl) : Prop := i < δ.length ∧ vTry i C S da dh E δ
theorem st_tryI {dh : DS} (i : Nat) (hS : DMonoX S) (ha : AR K Γ ta da) (hh : STi K i t Γ dh) (hi : i ∉ Γ := by decide) : ST K ρ Γr Γl (tTry i C (spX K S) ta t) Γ Γ (vTryI i C S da dh) :=
  fun {B0 Dn E fps δ σ H} k o h => ha.run o (ha.mono _ _ _ (fun xs z vs H1 s1 r1 => ⟨xs, r1, hS _ _ _ _ _ (fun _ z v H2 fp s2 _ _ => k.nx (o.same (s1.trans s2)) z)
    (fun C' z H2 s2 => ⟨congrArg Value.ref z.1, fun a _ => hh (E := { nx := fun δ' => E.nx (δ'.set i none), rt := fun _ _ => False, bk := fun _ => False, ct := fun _ => False })
      (fun o3 _ z3 => k.nx (o3.gone i hi) z3) ((o.same (s1.trans s2)).dead i (.ref a) hi) (List.getElem?_set_self (by rw [o.len]; exact h.1)) z.2⟩) z⟩) h.2)
theorem isx_tup {Q : VK} {b : Bool} {a : Addr} {cs : List Addr} {v : TA} {σ : St} {H : Hp} (hv : ∀ σ H (Q : List V → Hp → Prop), Q (cs.map V.ref) H → v σ H Q) (hl : cs.length ≤ 1000) (e : PySem.W.kitAny K (.ref C) (cs.map Value.ref) = some b)
    (hi : σ[i]? = some (some (.ref a))) (q : ∀ H', Same H H' → Q (.bl b) H') : tCB (isxR K a C) (tCons (tVar i) (tCons (tTup v) tNil)) σ H Q :=
  ⟨_, hi, hv _ _ _ ⟨by rw [List.length_map]; exact Nat.le_of_lt (small1000 hl), fun p hp => ⟨b, q _ (Same.new hp), .inl ⟨p, cs, rfl, upd_same, e⟩⟩⟩⟩
theorem isx_one {Q : VK} {b : Bool} {a : Addr} {T : String} {σ : St} {H : Hp} (e : PySem.W.kitOne K (.ref C) (.type T) = some b)
    (hi : σ[i]? = some (some (.ref a))) (q : Q (.bl b) H) : tCB (isxR K a C) (tCons (tVar i) (tCons (tC (.ty T)) tNil)) σ H Q := ⟨_, hi, b, q, .inr ⟨T, rfl, e⟩⟩
end
theorem spX_len {K : PySem.W.Frag} {S : DSX} {n : Nat} (hS : ∀ ds P R, S ds P R → ds.length = n) {vs : List V} {H : Hp} {Q : VK} {E : XK} (h : spX K S vs H Q E) : vs.length = n := by
  obtain ⟨ds, ⟨fp, r⟩, h⟩ := h
  rw [r.length]; exact hS _ _ _ h
end L3
set_option Elab.async false
set_option linter.all false
set_option maxRecDepth 100000
set_option maxHeartbeats 4000000
namespace L2
open PySem
end L2
set_option Elab.async false
set_option linter.all false
set_option maxRecDepth 100000
namespace L3
open PySem L2
section
variable {K : PySem.W.Frag} {Γ : List Nat} {t : TA} {d : DA}
def vDef (d : DA) (z : Int) : DA := fun δ P => d δ fun xs => P (xs ++ [.int z])
end
end L3
set_option Elab.async false
set_option linter.all false
set_option maxRecDepth 100000
set_option maxHeartbeats 4000000
namespace Mine
open PySem L3
open L2 hiding D Rf Rfs Rp dI dT
open PyProof.Rows hiding St
local macro_rules | `(tactic| walk_at "v1") => `(tactic| simp only [vSetP, vNameP, vNameT, asTP, vNext, vSeq, vSetM, vSet, vDrop, vRet, vRetN, vIfS, vAsg, vgName, vgTup2, vgCons_c, vgNil_n, vFor, vIf, vVar, vC, vOp, vUn, vI0_int, vI_int, vU_int, vTest, asB_bl, vAnd, vOr, vNot, vAndV, vOrV, vNotV, vChain, vNil, vCons, vInts, vLst, vTup, vCall, vItL, vRng1, vRng2, asI_int, asII_int, asL_lst, asL_scr, vIxL_lst, vIxL_scr, vIxT_tup, vNoPart, vPart, vLen_lst, vLen_scr, vLen_tup, slotL, vAppend, vClear, vIs, tyn_int, tyn_bl, tyn_lst, tyn_tup, tyn_str, tyn_non, isB_ii, isB_ib, isB_ll, isB_tt, isB_ss, isB_bb, isB_bi, isB_il, isB_nl, vIsN_non, D.isNon, vScal, D.scal, vFlat, flat_int, flat_bl, flat_tup2, flat_tup3, flat_tup4, vAbs, vIntB, asIB_int, asIB_bl, vMax2, vMin2, vYes, vCat_lst, vRep_lst, vList_lst, vList_scr, vSum_ints, asNs_ints, vSorted, vRev, vSl, vSlR, vCatR_lst, vRepR_lst, vListR_lst, vRevR, vAll_bools, vAny_bools, vMinL_ints, vMaxL_ints, vListRng, vAppPop, vPin, slotP, vVarP, vCallI, vSetI, vDGet, vDIn, vDPut, slotD, asDic_dic, vIndex, vSort_ints, vLenD_dic, vClearTs, vClearTL, vTupOf_lst, vTupR_lst, asTI_in, asDit_dit, vDInT, vDPutT, vClearT, slotT, isRef_lst, isRef_dic, ofV_int, ofV_bl, ofV_non, D.toV, Option.some.injEq, forall_eq', vEqS_bl, vEqS_str, vPar, vgLst, vTryI, vTry, vKnow, vWhen, vRaise, vDropX, vSetX, vRetX, noX, vDef, atI_c0, atI_c1, atI_c2, atI_c3, asO_some, kill, List.foldl_nil, List.foldl_cons, List.set_cons_zero, List.set_cons_succ, List.getElem?_cons_zero, List.getElem?_cons_succ, List.getElem?_nil, endsD, vEqS_int, Bool.false_eq_true, Bool.not_false, Bool.not_true, if_true, if_false, ite_true, ite_false, true_and, and_true, List.length_cons, List.length_nil, decide_eq_true_eq, Bool.not_eq_true', decide_eq_false_iff_not, List.length_map, Bool.true_eq_false, eq_self, not_true_eq_false, not_false_eq_true, Int.reduceToNat, Int.reduceEq, Int.reduceLT, Int.reduceLE, Int.reducePow, Int.reduceAdd, Int.reduceMul, Int.reduceSub, Int.reduceNeg, Int.toNat_natCast])
local macro_rules | `(tactic| walk_at "vb1") => `(tactic| simp only [vSetP, vNameP, vNameT, asTP, vNext, vSeq, vSetM, vSet, vDrop, vRet, vRetN, vIfS, vAsg, vgName, vgTup2, vgCons_c, vgNil_n, vFor, vIf, vVar, vC, vOp, vUn, vI0_int, vI_int, vU_int, vTest, asB_bl, vAnd, vOr, vNot, vAndV, vOrV, vNotV, vChain, vNil, vCons, vInts, vLst, vTup, vCall, vItL, vRng1, vRng2, asI_int, asII_int, asL_lst, asL_scr, vIxL_lst, vIxL_scr, vIxT_tup, vNoPart, vPart, vLen_lst, vLen_scr, vLen_tup, slotL, vAppend, vClear, vIs, tyn_int, tyn_bl, tyn_lst, tyn_tup, tyn_str, tyn_non, isB_ii, isB_ib, isB_ll, isB_tt, isB_ss, isB_bb, isB_bi, isB_il, isB_nl, vIsN_non, D.isNon, vScal, D.scal, vFlat, flat_int, flat_bl, flat_tup2, flat_tup3, flat_tup4, vAbs, vIntB, asIB_int, asIB_bl, vMax2, vMin2, vYes, vCat_lst, vRep_lst, vList_lst, vList_scr, vSum_ints, asNs_ints, vSorted, vRev, vSl, vSlR, vCatR_lst, vRepR_lst, vListR_lst, vRevR, vAll_bools, vAny_bools, vMinL_ints, vMaxL_ints, vListRng, vAppPop, vPin, slotP, vVarP, vCallI, vSetI, vDGet, vDIn, vDPut, slotD, asDic_dic, vIndex, vSort_ints, vLenD_dic, vClearTs, vClearTL, vTupOf_lst, vTupR_lst, asTI_in, asDit_dit, vDInT, vDPutT, vClearT, slotT, isRef_lst, isRef_dic, ofV_int, ofV_bl, ofV_non, D.toV, Option.some.injEq, forall_eq', vEqS_bl, vEqS_str, vPar, vgLst, vTryI, vTry, vKnow, vWhen, vRaise, vDropX, vSetX, vRetX, noX, vDef, atI_c0, atI_c1, atI_c2, atI_c3, asO_some, kill, List.foldl_nil, List.foldl_cons, List.set_cons_zero, List.set_cons_succ, List.getElem?_cons_zero, List.getElem?_cons_succ, List.getElem?_nil, endsD, vEqS_int, Bool.false_eq_true, Bool.not_false, Bool.not_true, if_true, if_false, ite_true, ite_false, true_and, and_true, List.length_cons, List.length_nil, decide_eq_true_eq, Bool.not_eq_true', decide_eq_false_iff_not, List.length_map, Bool.true_eq_false, eq_self, not_true_eq_false, not_false_eq_true, Int.reduceToNat, Int.reduceEq, Int.reduceLT, Int.reduceLE, Int.reducePow, Int.reduceAdd, Int.reduceMul, Int.reduceSub, Int.reduceNeg, Int.toNat_natCast, vBody, cbaseD, List.reduceReplicate, List.replicate_succ, List.replicate_zero, List.map_cons, List.map_nil, Option.getD_some, List.cons_append, List.nil_append, Nat.reduceAdd])
local macro_rules | `(tactic| walk_at "v") => `(tactic| try (walk_at "v1"))
local macro_rules | `(tactic| walk_at "vb") => `(tactic| try (walk_at "vb1"))
local macro_rules | `(tactic| walk_at "cd") => `(tactic| first | exact ⟨by decide, 100, by decide, by decide⟩ | exact ⟨by omega, 100, by omega, by decide⟩ | omega | decide | rfl | exact ⟨by decide, by decide, by decide⟩ | exact ⟨64, 64, by omega, by omega, by decide⟩ | exact ⟨200, 200, by omega, by omega, by decide⟩ | exact scal_ints)
local macro_rules | `(tactic| walk_at "go") => `(tactic| repeat (first | (walk_at "v1") | ((with_reducible refine And.intro ?k1 ?_); (case k1 => walk_at "cd"))))
local macro_rules | `(tactic| walk_at "gb") => `(tactic| repeat (first | (walk_at "vb1") | ((with_reducible refine And.intro ?k1 ?_); (case k1 => walk_at "cd"))))
def top (i : Nat) : Stmt := PySem.Challenge.pw_evenmix_k27_not_even_and_no_mix.main.body.getD i (.Pass ⟨0, 0, 0, 0⟩)
abbrev s_dealing_in : Stmt := top 1
abbrev N_dealing_in : List Str := ["marks", "dealing", "row", "short"]
abbrev P_dealing_in : List Str := ["marks"]
theorem sc_dealing_in : FnScope N_dealing_in P_dealing_in (defScope s_dealing_in) := ⟨rfl, rfl, rfl, by decide +kernel, rfl, by decide +kernel, by decide +kernel⟩
abbrev s_deal_row : Stmt := top 2
abbrev N_deal_row : List Str := ["marks", "dealing", "row", "rows", "sources", "reached", "source", "columns", "column"]
abbrev P_deal_row : List Str := ["marks", "dealing", "row"]
theorem sc_deal_row : FnScope N_deal_row P_deal_row (defScope s_deal_row) := ⟨rfl, rfl, rfl, by decide +kernel, rfl, by decide +kernel, by decide +kernel⟩
abbrev s_columns_from : Stmt := top 3
abbrev N_columns_from : List Str := ["line", "sources"]
abbrev P_columns_from : List Str := ["line", "sources"]
theorem sc_columns_from : FnScope N_columns_from P_columns_from (defScope s_columns_from) := ⟨rfl, rfl, rfl, by decide +kernel, rfl, by decide +kernel, by decide +kernel⟩
abbrev s_shift_dealing : Stmt := top 4
abbrev N_shift_dealing : List Str := ["dealing", "sources", "column", "row", "freed"]
abbrev P_shift_dealing : List Str := ["dealing", "sources", "column"]
theorem sc_shift_dealing : FnScope N_shift_dealing P_shift_dealing (defScope s_shift_dealing) := ⟨rfl, rfl, rfl, by decide +kernel, rfl, by decide +kernel, by decide +kernel⟩
abbrev s_copied_table : Stmt := top 22
abbrev N_copied_table : List Str := ["table"]
abbrev P_copied_table : List Str := ["table"]
theorem sc_copied_table : FnScope N_copied_table P_copied_table (defScope s_copied_table) := ⟨rfl, rfl, rfl, by decide +kernel, rfl, by decide +kernel, by decide +kernel⟩
abbrev s_sums_of_rows : Stmt := top 23
abbrev N_sums_of_rows : List Str := ["table"]
abbrev P_sums_of_rows : List Str := ["table"]
theorem sc_sums_of_rows : FnScope N_sums_of_rows P_sums_of_rows (defScope s_sums_of_rows) := ⟨rfl, rfl, rfl, by decide +kernel, rfl, by decide +kernel, by decide +kernel⟩
abbrev s_sums_of_columns : Stmt := top 24
abbrev N_sums_of_columns : List Str := ["table"]
abbrev P_sums_of_columns : List Str := ["table"]
theorem sc_sums_of_columns : FnScope N_sums_of_columns P_sums_of_columns (defScope s_sums_of_columns) := ⟨rfl, rfl, rfl, by decide +kernel, rfl, by decide +kernel, by decide +kernel⟩
abbrev s_turned_table : Stmt := top 25
abbrev N_turned_table : List Str := ["table"]
abbrev P_turned_table : List Str := ["table"]
theorem sc_turned_table : FnScope N_turned_table P_turned_table (defScope s_turned_table) := ⟨rfl, rfl, rfl, by decide +kernel, rfl, by decide +kernel, by decide +kernel⟩
abbrev s_column_of : Stmt := top 26
abbrev N_column_of : List Str := ["table", "place"]
abbrev P_column_of : List Str := ["table", "place"]
theorem sc_column_of : FnScope N_column_of P_column_of (defScope s_column_of) := ⟨rfl, rfl, rfl, by decide +kernel, rfl, by decide +kernel, by decide +kernel⟩
abbrev s_is_even : Stmt := top 28
abbrev N_is_even : List Str := ["table", "sums"]
abbrev P_is_even : List Str := ["table"]
theorem sc_is_even : FnScope N_is_even P_is_even (defScope s_is_even) := ⟨rfl, rfl, rfl, by decide +kernel, rfl, by decide +kernel, by decide +kernel⟩
abbrev s_is_mixture : Stmt := top 29
abbrev N_is_mixture : List Str := ["pairs", "many"]
abbrev P_is_mixture : List Str := ["pairs"]
theorem sc_is_mixture : FnScope N_is_mixture P_is_mixture (defScope s_is_mixture) := ⟨rfl, rfl, rfl, by decide +kernel, rfl, by decide +kernel, by decide +kernel⟩
abbrev s_is_pair : Stmt := top 30
abbrev N_is_pair : List Str := ["pair", "many"]
abbrev P_is_pair : List Str := ["pair", "many"]
theorem sc_is_pair : FnScope N_is_pair P_is_pair (defScope s_is_pair) := ⟨rfl, rfl, rfl, by decide +kernel, rfl, by decide +kernel, by decide +kernel⟩
abbrev s_told_by : Stmt := top 31
abbrev N_told_by : List Str := ["pairs", "many", "table", "pair"]
abbrev P_told_by : List Str := ["pairs"]
theorem sc_told_by : FnScope N_told_by P_told_by (defScope s_told_by) := ⟨rfl, rfl, rfl, by decide +kernel, rfl, by decide +kernel, by decide +kernel⟩
abbrev s_add_dealing : Stmt := top 32
abbrev N_add_dealing : List Str := ["table", "parts", "dealing", "row"]
abbrev P_add_dealing : List Str := ["table", "parts", "dealing"]
theorem sc_add_dealing : FnScope N_add_dealing P_add_dealing (defScope s_add_dealing) := ⟨rfl, rfl, rfl, by decide +kernel, rfl, by decide +kernel, by decide +kernel⟩
abbrev s_mixture_of : Stmt := top 33
abbrev N_mixture_of : List Str := ["table", "left", "pairs", "dealing", "parts"]
abbrev P_mixture_of : List Str := ["table"]
theorem sc_mixture_of : FnScope N_mixture_of P_mixture_of (defScope s_mixture_of) := ⟨rfl, rfl, rfl, by decide +kernel, rfl, by decide +kernel, by decide +kernel⟩
abbrev s_marks_of : Stmt := top 34
abbrev N_marks_of : List Str := ["table"]
abbrev P_marks_of : List Str := ["table"]
theorem sc_marks_of : FnScope N_marks_of P_marks_of (defScope s_marks_of) := ⟨rfl, rfl, rfl, by decide +kernel, rfl, by decide +kernel, by decide +kernel⟩
abbrev s_marked_row : Stmt := top 35
abbrev N_marked_row : List Str := ["row"]
abbrev P_marked_row : List Str := ["row"]
theorem sc_marked_row : FnScope N_marked_row P_marked_row (defScope s_marked_row) := ⟨rfl, rfl, rfl, by decide +kernel, rfl, by decide +kernel, by decide +kernel⟩
abbrev s_law_cell_at : Stmt := top 37
abbrev N_law_cell_at : List Str := ["_law_script", "_law_k"]
abbrev P_law_cell_at : List Str := ["_law_script", "_law_k"]
theorem sc_law_cell_at : FnScope N_law_cell_at P_law_cell_at (defScope s_law_cell_at) := ⟨rfl, rfl, rfl, by decide +kernel, rfl, by decide +kernel, by decide +kernel⟩
abbrev s_law_whole : Stmt := top 38
abbrev N_law_whole : List Str := ["_law_found"]
abbrev P_law_whole : List Str := ["_law_found"]
theorem sc_law_whole : FnScope N_law_whole P_law_whole (defScope s_law_whole) := ⟨rfl, rfl, rfl, by decide +kernel, rfl, by decide +kernel, by decide +kernel⟩
abbrev s_law_mixed : Stmt := top 39
abbrev N_law_mixed : List Str := ["_law_script", "_law_number", "_law_cell"]
abbrev P_law_mixed : List Str := ["_law_script", "_law_number"]
theorem sc_law_mixed : FnScope N_law_mixed P_law_mixed (defScope s_law_mixed) := ⟨rfl, rfl, rfl, by decide +kernel, rfl, by decide +kernel, by decide +kernel⟩
abbrev s_law_size : Stmt := top 40
abbrev N_law_size : List Str := ["_law_script", "_law_first"]
abbrev P_law_size : List Str := ["_law_script"]
theorem sc_law_size : FnScope N_law_size P_law_size (defScope s_law_size) := ⟨rfl, rfl, rfl, by decide +kernel, rfl, by decide +kernel, by decide +kernel⟩
abbrev s_law_dealing : Stmt := top 41
abbrev N_law_dealing : List Str := ["_law_number", "_law_size_here", "_law_left", "_law_found"]
abbrev P_law_dealing : List Str := ["_law_number", "_law_size_here"]
theorem sc_law_dealing : FnScope N_law_dealing P_law_dealing (defScope s_law_dealing) := ⟨rfl, rfl, rfl, by decide +kernel, rfl, by decide +kernel, by decide +kernel⟩
abbrev s_law_dealt : Stmt := top 42
abbrev N_law_dealt : List Str := ["_law_script", "_law_size_here", "_law_found", "_law_cells", "_law_cell", "_law_number"]
abbrev P_law_dealt : List Str := ["_law_script", "_law_size_here"]
theorem sc_law_dealt : FnScope N_law_dealt P_law_dealt (defScope s_law_dealt) := ⟨rfl, rfl, rfl, by decide +kernel, rfl, by decide +kernel, by decide +kernel⟩
abbrev s_law_tops : Stmt := top 43
abbrev N_law_tops : List Str := ["_law_dealt_here", "_law_size_here", "_law_tops_here", "_law_weight", "_law_dealing_here", "_law_row", "_law_line"]
abbrev P_law_tops : List Str := ["_law_dealt_here", "_law_size_here"]
theorem sc_law_tops : FnScope N_law_tops P_law_tops (defScope s_law_tops) := ⟨rfl, rfl, rfl, by decide +kernel, rfl, by decide +kernel, by decide +kernel⟩
abbrev s_law_bad_table : Stmt := top 44
abbrev N_law_bad_table : List Str := ["_law_tops_here", "_law_mixed_here", "_law_way", "_law_size_here", "_law_found", "_law_i", "_law_j", "_law_push", "_law_line", "_law_other", "_law_l"]
abbrev P_law_bad_table : List Str := ["_law_tops_here", "_law_mixed_here"]
theorem sc_law_bad_table : FnScope N_law_bad_table P_law_bad_table (defScope s_law_bad_table) := ⟨rfl, rfl, rfl, by decide +kernel, rfl, by decide +kernel, by decide +kernel⟩
abbrev s_law_bad_pairs : Stmt := top 45
abbrev N_law_bad_pairs : List Str := ["_law_pairs", "_law_way", "_law_at", "_law_mixed_here", "_law_found", "_law_parts", "_law_dealing_here", "_law_size_here", "_law_place"]
abbrev P_law_bad_pairs : List Str := ["_law_pairs", "_law_way", "_law_at", "_law_mixed_here"]
theorem sc_law_bad_pairs : FnScope N_law_bad_pairs P_law_bad_pairs (defScope s_law_bad_pairs) := ⟨rfl, rfl, rfl, by decide +kernel, rfl, by decide +kernel, by decide +kernel⟩
abbrev s_law_refused_table : Stmt := top 46
abbrev N_law_refused_table : List Str := ["_law_table", "_law_word", "error"]
abbrev P_law_refused_table : List Str := ["_law_table"]
theorem sc_law_refused_table : FnScope N_law_refused_table P_law_refused_table (defScope s_law_refused_table) := ⟨rfl, rfl, rfl, by decide +kernel, rfl, by decide +kernel, by decide +kernel⟩
abbrev s_law_refused_pairs : Stmt := top 47
abbrev N_law_refused_pairs : List Str := ["_law_pairs", "_law_word", "error"]
abbrev P_law_refused_pairs : List Str := ["_law_pairs"]
theorem sc_law_refused_pairs : FnScope N_law_refused_pairs P_law_refused_pairs (defScope s_law_refused_pairs) := ⟨rfl, rfl, rfl, by decide +kernel, rfl, by decide +kernel, by decide +kernel⟩
abbrev s_law_copies : Stmt := top 48
abbrev N_law_copies : List Str := ["_law_pairs"]
abbrev P_law_copies : List Str := ["_law_pairs"]
theorem sc_law_copies : FnScope N_law_copies P_law_copies (defScope s_law_copies) := ⟨rfl, rfl, rfl, by decide +kernel, rfl, by decide +kernel, by decide +kernel⟩
abbrev s_law : Stmt := top 49
abbrev N_law : List Str := ["_law_script", "_law_size_here", "_law_dealt_here", "_law_tops_here", "_law_mixed_here", "_law_table", "_law_handed", "_law_bad", "_law_given"]
abbrev P_law : List Str := ["_law_script"]
theorem sc_law : FnScope N_law P_law (defScope s_law) := ⟨rfl, rfl, rfl, by decide +kernel, rfl, by decide +kernel, by decide +kernel⟩
structure Txt (K : PySem.W.Frag) (mg : Str → Option Value) : Prop where
  len_ : mg "len" = none
  isinstance_ : mg "isinstance" = none
  int_ : mg "int" = none
  bool_ : mg "bool" = none
  list_ : mg "list" = none
  range_ : mg "range" = none
  sorted_ : mg "sorted" = none
  sum_ : mg "sum" = none
  min_ : mg "min" = none
  any_ : mg "any" = none
  all_ : mg "all" = none
  ValueError_ : mg "ValueError" = none
  MOST_ : ∃ t, mg "MOST" = some (Value.int 8 t)
structure Fns (K : PySem.W.Frag) (mg : Str → Option Value) : Prop where
  h_dealing_in : ∃ f fd, FnAt K mg "dealing_in" s_dealing_in P_dealing_in f fd
  h_deal_row : ∃ f fd, FnAt K mg "deal_row" s_deal_row P_deal_row f fd
  h_columns_from : ∃ f fd, FnAt K mg "columns_from" s_columns_from P_columns_from f fd
  h_shift_dealing : ∃ f fd, FnAt K mg "shift_dealing" s_shift_dealing P_shift_dealing f fd
  h_copied_table : ∃ f fd, FnAt K mg "copied_table" s_copied_table P_copied_table f fd
  h_sums_of_rows : ∃ f fd, FnAt K mg "sums_of_rows" s_sums_of_rows P_sums_of_rows f fd
  h_sums_of_columns : ∃ f fd, FnAt K mg "sums_of_columns" s_sums_of_columns P_sums_of_columns f fd
  h_turned_table : ∃ f fd, FnAt K mg "turned_table" s_turned_table P_turned_table f fd
  h_column_of : ∃ f fd, FnAt K mg "column_of" s_column_of P_column_of f fd
  h_is_even : ∃ f fd, FnAt K mg "is_even" s_is_even P_is_even f fd
  h_is_mixture : ∃ f fd, FnAt K mg "is_mixture" s_is_mixture P_is_mixture f fd
  h_is_pair : ∃ f fd, FnAt K mg "is_pair" s_is_pair P_is_pair f fd
  h_told_by : ∃ f fd, FnAt K mg "told_by" s_told_by P_told_by f fd
  h_add_dealing : ∃ f fd, FnAt K mg "add_dealing" s_add_dealing P_add_dealing f fd
  h_mixture_of : ∃ f fd, FnAt K mg "mixture_of" s_mixture_of P_mixture_of f fd
  h_marks_of : ∃ f fd, FnAt K mg "marks_of" s_marks_of P_marks_of f fd
  h_marked_row : ∃ f fd, FnAt K mg "marked_row" s_marked_row P_marked_row f fd
  h_law_cell_at : ∃ f fd, FnAt K mg "_law_cell_at" s_law_cell_at P_law_cell_at f fd
  h_law_mixed : ∃ f fd, FnAt K mg "_law_mixed" s_law_mixed P_law_mixed f fd
  h_law_size : ∃ f fd, FnAt K mg "_law_size" s_law_size P_law_size f fd
  h_law_dealing : ∃ f fd, FnAt K mg "_law_dealing" s_law_dealing P_law_dealing f fd
  h_law_dealt : ∃ f fd, FnAt K mg "_law_dealt" s_law_dealt P_law_dealt f fd
  h_law_tops : ∃ f fd, FnAt K mg "_law_tops" s_law_tops P_law_tops f fd
  h_law_bad_table : ∃ f fd, FnAt K mg "_law_bad_table" s_law_bad_table P_law_bad_table f fd
  h_law_bad_pairs : ∃ f fd, FnAt K mg "_law_bad_pairs" s_law_bad_pairs P_law_bad_pairs f fd
  h_law_refused_table : ∃ f fd, FnAt K mg "_law_refused_table" s_law_refused_table P_law_refused_table f fd
  h_law_refused_pairs : ∃ f fd, FnAt K mg "_law_refused_pairs" s_law_refused_pairs P_law_refused_pairs f fd
  h_law_copies : ∃ f fd, FnAt K mg "_law_copies" s_law_copies P_law_copies f fd
  h_law : ∃ f fd, FnAt K mg "law" s_law P_law f fd
structure Cs where
  (MixError NoTable NoBottom NotAlike NoStep NoMix NotEven NoSwap NoBounds NoPlace NoSums TooGreat NoNumber NoText : Addr)
structure Exs (K : PySem.W.Frag) (mg : Str → Option Value) (base : Heap) (c : Cs) : Prop where
  m_MixError : mg "MixError" = some (.ref c.MixError)
  m_NoTable : mg "NoTable" = some (.ref c.NoTable)
  m_NoBottom : mg "NoBottom" = some (.ref c.NoBottom)
  m_NotAlike : mg "NotAlike" = some (.ref c.NotAlike)
  m_NoStep : mg "NoStep" = some (.ref c.NoStep)
  m_NoMix : mg "NoMix" = some (.ref c.NoMix)
  m_NotEven : mg "NotEven" = some (.ref c.NotEven)
  m_NoSwap : mg "NoSwap" = some (.ref c.NoSwap)
  m_NoBounds : mg "NoBounds" = some (.ref c.NoBounds)
  m_NoPlace : mg "NoPlace" = some (.ref c.NoPlace)
  m_NoSums : mg "NoSums" = some (.ref c.NoSums)
  m_TooGreat : mg "TooGreat" = some (.ref c.TooGreat)
  m_NoNumber : mg "NoNumber" = some (.ref c.NoNumber)
  m_NoText : mg "NoText" = some (.ref c.NoText)
  o_MixError : ExcObj base c.MixError []
  o_NoMix : ExcObj base c.NoMix [c.MixError]
  k_NoMix : PySem.W.ExcK K c.NoMix
  o_NotEven : ExcObj base c.NotEven [c.MixError]
  k_NotEven : PySem.W.ExcK K c.NotEven
  t1 : PySem.W.kitAny K (.ref c.NotEven) ([c.NoTable, c.NotAlike, c.NoStep, c.NoMix, c.NoBottom, c.NoSwap].map Value.ref) = some false
  t2 : PySem.W.kitAny K (.ref c.NotEven) ([c.NoBounds, c.NoPlace, c.NoSums, c.TooGreat, c.NoNumber, c.NoText].map Value.ref) = some false
  t3 : PySem.W.kitAny K (.ref c.NoMix) ([c.NoTable, c.NotAlike, c.NoStep, c.NotEven, c.NoBottom, c.NoSwap].map Value.ref) = some false
  t4 : PySem.W.kitAny K (.ref c.NoMix) ([c.NoBounds, c.NoPlace, c.NoSums, c.TooGreat, c.NoNumber, c.NoText].map Value.ref) = some false
  v_NotEven : PySem.W.kitOne K (.ref c.NotEven) (.type "ValueError") = some true
  v_NoMix : PySem.W.kitOne K (.ref c.NoMix) (.type "ValueError") = some true
section
variable {P : Program} {w : World} {K : PySem.W.Frag} {mg : Str → Option Value} {base : Heap}
def oD : Option Nat → D
  | none => .non
  | some c => .int (c : Int)
abbrev dM (ms : List (Option Nat)) : D := .lst (ms.map oD)
abbrev dN (rs : List Nat) : D := dI (rs.map fun (r : Nat) => (r : Int))
def Dc (kvs : List (Key × V)) (src : Nat → Option Nat) : Prop := ∀ c : Nat, valV kvs (.inl (c : Int)) = (src c).map fun (s : Nat) => V.int (s : Int)
def MkT (t : List (List Int)) : Mat.Mk := fun i c => cellAt t i c = 1
theorem oD_scal : ∀ {ms : List (Option Nat)}, (ms.map oD).all L3.D.scal = true
  | [] => rfl
  | none :: ms => by rw [List.map_cons, List.all_cons, oD_scal]; rfl
  | some c :: ms => by rw [List.map_cons, List.all_cons, oD_scal]; rfl
theorem Dc.put {kvs : List (Key × V)} {src : Nat → Option Nat} (h : Dc kvs src) (c s : Nat) : Dc (putK kvs (.inl (c : Int)) (.int (s : Int))) (Mat.put src c s) := fun d => by
  rw [valV_put]
  unfold Mat.put
  by_cases z : d = c
  · subst z; rw [if_pos rfl, if_pos rfl]; rfl
  · rw [if_neg (fun q => z (by have := Sum.inl.inj q; omega)), if_neg z]; exact h d
def colsL (r : List Int) (src : Nat → Option Nat) : List Nat := (List.range r.length).filter fun c => decide (r.getD c 0 = 1) && (src c).isNone
def S_columns_from : DSp := fun ds P => ∃ (r : List Int) (kvs : List (Key × V)) (src : Nat → Option Nat), ds = [dI r, .dic kvs] ∧ r.length ≤ 1000 ∧ Dc kvs src ∧ P (dN (colsL r src))
theorem mono_columns_from : DMono S_columns_from := by
  intro xs P P' k h
  unfold S_columns_from at h ⊢
  grind
theorem len_columns_from : ∀ ds P, S_columns_from ds P → ds.length = 2 := by
  intro ds P h
  obtain ⟨_, _, _, e, _⟩ := h
  rw [e]; rfl
theorem ok_columns_from {f : Addr} {fd : FuncData} (F : FnAt K mg "columns_from" s_columns_from P_columns_from f fd) (A_ : Fns K mg) (T : Txt K mg) {c : Cs} (xs : Exs K mg base c) : FnOk P w K mg base CX0 1 f fd P_columns_from (spP K S_columns_from) := by
  refine F.fn.ok sc_columns_from (fun vs H Q E h => spP_len len_columns_from h) (fun cdv A outer s H vs Q E hr h => ?_)
  refine ⟨_, (pss_one (ps_ret (pe_comp rfl (CompScope.of (sc0 := (defScope s_columns_from)) (tn := ["column"]) (cap := ["line", "sources"]) (idx := [0, 1]) (by decide +kernel) rfl rfl) (pi_range1 rfl T.range_ (pa_cons (pe_callB (call_lenK (K := K) rfl) (by rfl) T.len_ PySem.boot_len (pa_cons (pv 0) pa_nil)) pa_nil)) (GSet.name (by decide)) (fun _ _ _ _ _ => pg_name (i := 0) (nodupB_iff (l := ["column", "line", "sources"]) (by decide +kernel)) rfl (by first | exact Or.inl rfl | exact Or.inr rfl) (by first | exact .inl rfl | exact .inr rfl)) (fun _ _ _ _ _ => pts_one (PW.pt (pw_and (pt_cmpR op_eq (pe_ix (ix_listK (K := K) rfl) (pv 1) (pv 0) (fun _ _ => rfl)) pe_int (nomark _)) (pw_and1 (pt_cmp (pc_dnotin (hu_of hr) (pv 0) (pv 2)) (by with_unfolding_all rfl)))))) (fun _ _ _ _ _ => (pv 0)) (by intro _; rfl)))), fn_val (Γn := []) (N := N_columns_from) (st_ret (M := []) (em_comp (it_rng1 (ar_cons (EM.er (em_cb c_len (ar_cons (ES.er (es_var 0)) ar_nil))) ar_nil)) (gt_name 0) (tr_and (tr_test (EM.er (em_op o_eq (ES.er (es_ixL (es_var 1) (ES.er (es_var 0)))) (EM.er em_int)))) (tr_b (EM.er (em_dnotin (ES.er (es_var 0)) (ES.er (es_var 2)))))) (ER.scal (ES.er (es_var 0))))) (fun ds P hS => ?_) h⟩
  obtain ⟨r, kvs, src, rfl, hl, hD, hP⟩ := hS
  rw [show startD N_columns_from [dI r, .dic kvs] = [some (dI r), some (.dic kvs)] from rfl]
  walk_at "v"
  refine comp_rngF (lo := 0) (n := r.length) (p := fun c => decide (r.getD c 0 = 1) && (src c).isNone) (g := fun (p : Nat) => .int (p : Int)) (fun R h => ?_) hl (fun i hi R h => ?_) ?_
  · walk_at "go"; exact h
  · walk_at "gb"
    rw [Int.zero_add]
    refine asO_ints (by omega) ?_
    walk_at "gb"
    have e1 := hD i
    rw [e1]
    by_cases c1 : r.getD i 0 = 1
    · rw [if_pos c1]
      rw [decide_eq_true c1, Bool.true_and] at h
      cases q : src i with
      | none =>
        rw [q] at h
        rw [Option.map_none]
        exact h
      | some s =>
        rw [q] at h
        rw [Option.map_some]
        exact h
    · rw [if_neg c1]
      rw [decide_eq_false c1, Bool.false_and] at h
      exact h
  · rw [map_int]; exact hP
theorem asO_M {ms : List (Option Nat)} {r : Nat} {o : Option Nat} {P : DK} (h : ms[r]? = some o) (k : P (oD o)) : asO (atI (ms.map oD) (r : Int)) P := by
  have hl := (List.getElem?_eq_some_iff.mp h).1
  refine (asO_at ?_).mpr k
  unfold atI
  rw [ixN_nat (by omega) (by rw [List.length_map]; omega), Int.toNat_natCast]
  show (ms.map oD)[r]? = _
  rw [List.getElem?_map, h]; rfl
theorem setItem_M {i : Nat} {δ : Dl} {ms : List (Option Nat)} {c r : Nat} {de dx : DE} {E : DEnds} (hs : δ[i]? = some (some (dM ms))) (hde : ∀ R : DK, R (.int (c : Int)) → de δ R) (hdx : ∀ R : DK, R (.int (r : Int)) → dx δ R) (hr : r < ms.length) (h : E.nx (δ.set i (some (dM (ms.set r (some c)))))) : vSetItem i de dx E δ := by
  unfold vSetItem
  refine hde _ ((slotL_s hs).mpr (hdx _ ?_))
  show match ixN (ms.map oD).length (r : Int) with | some j => E.nx (δ.set i (some (.lst ((ms.map oD).set j (.int (c : Int)))))) | none => False
  rw [ixN_nat (by omega) (by rw [List.length_map]; omega), Int.toNat_natCast]
  have e : (ms.map oD).set r (.int (c : Int)) = (ms.set r (some c)).map oD := by rw [List.map_set]; rfl
  show E.nx (δ.set i (some (.lst ((ms.map oD).set r (.int (c : Int))))))
  rw [e]; exact h
def S_shift_dealing : DSI := fun ds P => ∃ (ms : List (Option Nat)) (kvs : List (Key × V)) (src : Nat → Option Nat) (rs : List Nat) (row c k n : Nat) (M : Mat.Mk), ds = [dM ms, .dic kvs, .int (c : Int)] ∧ Dc kvs src ∧ Mat.Fo n M ms src rs row ∧ Mat.Sh n M ms ms src rs c k ∧
  ∀ ms', Mat.Mt n M ms' → (∀ i, Mat.Dom ms' i ↔ Mat.Dom ms i ∨ i = row) → P .non (dM ms')
theorem mono_shift_dealing : DMonoI S_shift_dealing := by
  intro xs P P' k h
  unfold S_shift_dealing at h ⊢
  grind
theorem len_shift_dealing : ∀ ds P, S_shift_dealing ds P → ds.length = 3 := by
  intro ds P h
  unfold S_shift_dealing at h
  grind
theorem ok_shift_dealing {f : Addr} {fd : FuncData} (F : FnAt K mg "shift_dealing" s_shift_dealing P_shift_dealing f fd) (A_ : Fns K mg) (T : Txt K mg) {c : Cs} (xs : Exs K mg base c) : FnOk P w K mg base CX0 1 f fd P_shift_dealing (spI K 0 S_shift_dealing) := by
  refine F.fn.ok sc_shift_dealing (fun vs H Q E h => spI_len len_shift_dealing h) (fun cdv A outer s H vs Q E hr h => ?_)
  refine ⟨_, (pss_one (ps_while PassesOwn.never (pt_cmpR op_notN (pv 2) pe_non (nomark _)) (pss_cons (ps_set (i := 3) sc_shift_dealing.nd rfl (by first | exact Or.inl rfl | exact Or.inr rfl) (pe_dget (hu_of hr) (pv 1) (pv 2) (fun _ _ => rfl)))
      (pss_cons (ps_set (i := 4) sc_shift_dealing.nd rfl (by first | exact Or.inl rfl | exact Or.inr rfl) (pe_ix (ix_listK (K := K) rfl) (pv 0) (pv 3) (fun _ _ => rfl)))
      (pss_cons (ps_asg (pv 2) (pg_sub (pv 0) (pv 3) set_list))
      (pss_one (ps_set (i := 2) sc_shift_dealing.nd rfl (by first | exact Or.inl rfl | exact Or.inr rfl) (pv 4)))))))), fn_valI (Γn := [0]) (N := N_shift_dealing) (p := 0) (st_while (tr_test (EM.er (em_op o_notN (ES.er (es_var 2)) (EM.er em_non)))) (st_seq (ST.post (Γn := [0]) (st_setS 3 (EM.es (ER.scal (er_dget (ES.er (es_var 1)) (ES.er (es_var 2)))))))
      (st_seq (ST.post (Γn := [0]) (st_setS 4 (EM.es (ER.scal (er_ixL (er_varP 0) (ES.er (es_var 3)))))))
      (st_seq (st_pin 0 (st0_setItem 0 (ER.scal (ES.er (es_var 2))) (ES.er (es_var 3))))
      (ST.post (Γn := [0]) (st_setS 2 (es_var 4))))))) (fun ds P a x hS hx => ?_) (by decide) (fun ds P h => by have := len_shift_dealing ds P h; omega) h⟩
  obtain ⟨ms, kvs, src, rs, row, c, k, n, M, rfl, hD, hF, hSh, hP⟩ := hS
  have hlm : ms.length = n := hSh.mt.len
  cases hx
  simp only [List.set_cons_zero, List.set_cons_succ]
  rw [show startD N_shift_dealing [.pin a (dM ms), .dic kvs, .int (c : Int)] = [some (.pin a (dM ms)), some (.dic kvs), some (.int (c : Int)), none, none] from rfl]
  refine ⟨fun m δ => (∃ (ms' : List (Option Nat)) (o3 o4 : Option D), m = 0 ∧ δ = [some (.pin a (dM ms')), some (.dic kvs), some .non, o3, o4] ∧ Mat.Mt n M ms' ∧ ∀ i, Mat.Dom ms' i ↔ Mat.Dom ms i ∨ i = row) ∨ (∃ (ms' : List (Option Nat)) (c k : Nat) (o3 o4 : Option D), m = k + 1 ∧ δ = [some (.pin a (dM ms')), some (.dic kvs), some (.int (c : Int)), o3, o4] ∧ Mat.Sh n M ms ms' src rs c k), ⟨k + 1, .inr ⟨ms, c, k, none, none, rfl, rfl, hSh⟩⟩, ?_⟩
  rintro m δ (⟨ms', o3, o4, rfl, rfl, hmt, hdom⟩ | ⟨ms', c', k', o3, o4, rfl, rfl, h⟩)
  · walk_at "v"
    exact hP ms' hmt hdom
  · obtain ⟨r, er, hr⟩ := h.at_
    obtain ⟨hrn, hturn⟩ := Mat.sh_turn hF h hr hlm
    have hl' := h.mt.len
    walk_at "v"
    refine asV_in (v := .int (r : Int)) (by rw [hD c', hr]; rfl) ?_
    walk_at "v"
    obtain ⟨o, ho⟩ := Mat.get_of (ms := ms') (i := r) (by omega)
    show asO (atI (ms'.map oD) (r : Int)) _
    refine asO_M ho ?_
    have hsc : (oD o).scal = true := by cases o <;> rfl
    refine ⟨hsc, ?_⟩
    walk_at "v"
    refine setItem_M (ms := ms') (c := c') (r := r) rfl (fun R h => ?_) (fun R h => ?_) (by omega) ?_
    · walk_at "v"; exact h
    · walk_at "v"; exact h
    walk_at "v"
    rcases hturn with ⟨h1, h2, h3⟩ | ⟨c1, k1, h1, h2, h3⟩
    · rw [ho] at h1; cases h1
      exact ⟨0, by omega, .inl ⟨_, _, _, rfl, rfl, h2, h3⟩⟩
    · rw [ho] at h1; cases h1
      exact ⟨k1 + 1, by omega, .inr ⟨_, c1, k1, _, _, rfl, rfl, h3⟩⟩
theorem inD_M {ms : List (Option Nat)} {c : Nat} : inD (.int (c : Int)) (ms.map oD) = true ↔ ∃ i : Nat, ms[i]? = some (some c) := by
  unfold inD inV
  rw [List.any_eq_true]
  constructor
  · rintro ⟨v, hv, e⟩
    obtain ⟨d, hd, rfl⟩ := List.mem_map.mp hv
    obtain ⟨o, ho, rfl⟩ := List.mem_map.mp hd
    obtain ⟨i, hi⟩ := List.getElem?_of_mem ho
    cases o with
    | none => exact absurd (show false = true from e) Bool.false_ne_true
    | some b =>
      have e' : ((b : Int) == (c : Int)) = true := e
      have : b = c := by have := eq_of_beq e'; omega
      subst this
      exact ⟨i, hi⟩
  · rintro ⟨i, hi⟩
    refine ⟨.int (c : Int), List.mem_map.mpr ⟨.int (c : Int), List.mem_map.mpr ⟨some c, List.mem_of_getElem? hi, rfl⟩, rfl⟩, ?_⟩
    show ((c : Int) == (c : Int)) = true
    exact beq_self_eq_true _
theorem vIn_M {neg : Bool} {c : Nat} {ms : List (Option Nat)} {P : DK} (h : P (.bl (if neg then !inD (.int (c : Int)) (ms.map oD) else inD (.int (c : Int)) (ms.map oD)))) : vIn neg (.int (c : Int)) (dM ms) P := ⟨rfl, oD_scal, h⟩
theorem asO_N {rs : List Nat} {k s : Nat} {P : DK} (h : rs[k]? = some s) (hk : P (.int (s : Int))) : asO (atI ((rs.map fun (r : Nat) => (r : Int)).map L3.D.int) (k : Int)) P := by
  have hl := (List.getElem?_eq_some_iff.mp h).1
  refine asO_ints ⟨by omega, by rw [List.length_map]; omega⟩ ?_
  have e : (rs.map fun (r : Nat) => (r : Int)).getD (k : Int).toNat 0 = (s : Int) := by
    rw [Int.toNat_natCast, List.getD_eq_getElem?_getD, List.getElem?_map, h]; rfl
  rw [e]; exact hk
def S_deal_row : DSI := fun ds P => ∃ (t : List (List Int)) (ms : List (Option Nat)) (n row : Nat), ds = [dT t, dM ms, .int (row : Int)] ∧ Rect n n t ∧ n ≤ 8 ∧ Mat.Mt n (MkT t) ms ∧ row < n ∧ ms[row]? = some none ∧
  (∀ ms', Mat.Mt n (MkT t) ms' → (∀ i, Mat.Dom ms' i ↔ Mat.Dom ms i ∨ i = row) → P (dI []) (dM ms')) ∧ (∀ s, Mat.Short n (MkT t) s → P (dN s) (dM ms))
theorem mono_deal_row : DMonoI S_deal_row := by
  intro xs P P' k h
  unfold S_deal_row at h ⊢
  grind
theorem len_deal_row : ∀ ds P, S_deal_row ds P → ds.length = 3 := by
  intro ds P h
  unfold S_deal_row at h
  grind
theorem ok_deal_row {f : Addr} {fd : FuncData} (F : FnAt K mg "deal_row" s_deal_row P_deal_row f fd) (A_ : Fns K mg) (T : Txt K mg) {c : Cs} (xs : Exs K mg base c) : FnOk P w K mg base CX0 2 f fd P_deal_row (spI K 1 S_deal_row) := by
  obtain ⟨f0, d0, E_columns_from⟩ := A_.h_columns_from
  have G_columns_from : FnOk P w K mg base CX0 1 f0 d0 P_columns_from (spP K S_columns_from) := ok_columns_from E_columns_from A_ T xs
  obtain ⟨f1, d1, E_shift_dealing⟩ := A_.h_shift_dealing
  have G_shift_dealing : FnOk P w K mg base CX0 1 f1 d1 P_shift_dealing (spI K 0 S_shift_dealing) := ok_shift_dealing E_shift_dealing A_ T xs
  refine F.fn.ok sc_deal_row (fun vs H Q E h => spI_len len_deal_row h) (fun cdv A outer s H vs Q E hr h => ?_)
  refine ⟨_, (pss_cons (ps_set (i := 3) sc_deal_row.nd rfl (by first | exact Or.inl rfl | exact Or.inr rfl) (pe_lst (pa_cons (pv 2) pa_nil)))
      (pss_cons (ps_set (i := 4) sc_deal_row.nd rfl (by first | exact Or.inl rfl | exact Or.inr rfl) pe_dnewK)
      (pss_cons (ps_set (i := 5) sc_deal_row.nd rfl (by first | exact Or.inl rfl | exact Or.inr rfl) pe_int)
      (pss_cons (ps_while PassesOwn.never (pt_cmpR op_lt (pv 5) (pe_callB (call_lenK (K := K) rfl) (by rfl) T.len_ PySem.boot_len (pa_cons (pv 3) pa_nil)) (nomark _)) (pss_cons (ps_set (i := 6) sc_deal_row.nd rfl (by first | exact Or.inl rfl | exact Or.inr rfl) (pe_ix (ix_listK (K := K) rfl) (pv 3) (pv 5) (fun _ _ => rfl)))
      (pss_cons (ps_set (i := 7) sc_deal_row.nd rfl (by first | exact Or.inl rfl | exact Or.inr rfl) (pe_call G_columns_from (hr.mono (by decide)) rfl E_columns_from.mg E_columns_from.fn.kp E_columns_from.bd .nil pass0 (pa_cons (pe_ix (ix_listK (K := K) rfl) (pv 0) (pv 6) (fun _ _ => rfl)) (pa_cons (pv 4) pa_nil))))
      (pss_cons (ps_for PassesOwn.never rfl (pi_listK (K := K) rfl (pv 7)) (pg_name (i := 8) sc_deal_row.nd rfl (by first | exact Or.inl rfl | exact Or.inr rfl)) (pss_cons (ps_dput (hu_of hr) (pv 4) (pv 8) (pv 6) rfl)
      (pss_cons (ps_if (pt_cmpR (op_notInK (K := K) rfl) (pv 8) (pv 1) (by with_unfolding_all rfl)) (pss_cons (ps_expr (pe_call G_shift_dealing (hr.mono (by decide)) rfl E_shift_dealing.mg E_shift_dealing.fn.kp E_shift_dealing.bd .nil pass0 (pa_cons (pv 1) (pa_cons (pv 4) (pa_cons (pv 8) pa_nil)))))
      (pss_one (ps_ret (pe_lst pa_nil)))) pss_nil)
      (pss_one (ps_expr (pe_bm PySem.F.plainAttrs_list PySem.F.slot_list_append PySem.F.type_list_append mt_append (pv 3) (pa_cons (pe_bm PySem.F.plainAttrs_list PySem.F.slot_list_index PySem.F.type_list_index mt_index (pv 1) (pa_cons (pv 8) pa_nil)) pa_nil)))))))
      (pss_one (ps_set (i := 5) sc_deal_row.nd rfl (by first | exact Or.inl rfl | exact Or.inr rfl) (pe_op op_add (pv 5) pe_int)))))))
      (pss_one (ps_ret (pe_callB (call_sortedK (K := K) rfl) (by rfl) T.sorted_ boot_sorted (pa_cons (pv 3) pa_nil)))))))), fn_valI (Γn := [4, 3, 1]) (N := N_deal_row) (p := 1) (st_seq (ST.post (Γn := [3, 1]) (st_setM (M := []) 3 (em_lst (am_cons0 (ER.scal (ES.er (es_var 2))) am_nil))))
      (st_seq (ST.post (Γn := [4, 3, 1]) (st_setM (M := []) 4 em_dnew))
      (st_seq (ST.post (Γn := [4, 3, 1]) (st_setS 5 (EM.es em_int)))
      (st_seq (st_while (tr_test (EM.er (em_op o_bl (ES.er (es_var 5)) (EM.er (em_cb c_len (ar_cons (er_var 3) ar_nil)))))) (st_seq (ST.post (Γn := [4, 3, 1]) (st_setS 6 (EM.es (ER.scal (er_ixL (er_var 3) (ES.er (es_var 5)))))))
      (st_seq (ST.post (Γn := [4, 3, 1]) (st_setS 7 (EM.es (em_call (S := S_columns_from) mono_columns_from (ar_cons (ES.er (es_ixL (es_var 0) (ES.er (es_var 6)))) (ar_cons (er_var 4) ar_nil))))))
      (st_seq (st_for (it_list (es_var 7)) (gt_name 8) (st_seq (ST0.st (st0_dput 4 (ES.er (es_var 8)) (ES.er (es_var 6))))
      (st_seq (st_if (tr_test (EM.er (em_op o_in (ES.er (es_var 8)) (er_varP 1)))) (st_seq (st_pin 1 (st0_callI 1 0 mono_shift_dealing (ai_here 1 (ax_cons (ex_var 4) (ax_cons (ex_es (es_var 8)) ax_nil)))))
      (st_ret (M := []) (em_lst am_nil))) st_next)
      (ST.post (Γn := [4, 3, 1]) (st_append (M := []) 3 (em_index (er_varP 1) (ES.er (es_var 8))))))))
      (ST.post (Γn := [4, 3, 1]) (st_setS 5 (EM.es (em_op o_int (ES.er (es_var 5)) (EM.er em_int)))))))))
      (st_ret (M := []) (em_cb c_sort (ar_cons (er_var 3) ar_nil))))))) (fun ds P a x hS hx => ?_) (by decide) (fun ds P h => by have := len_deal_row ds P h; omega) h⟩
  obtain ⟨t, ms, n, row, rfl, hR, hn8, hM, hrow, hnone, hP1, hP2⟩ := hS
  have hlm := hM.len
  have hlt := hR.1
  cases hx
  simp only [List.set_cons_zero, List.set_cons_succ]
  rw [show startD N_deal_row [dT t, .pin a (dM ms), .int (row : Int)] = [some (dT t), some (.pin a (dM ms)), some (.int (row : Int)), none, none, none, none, none, none] from rfl]
  walk_at "go"
  have rsn : ∀ {src rs q ks}, Mat.Se n (MkT t) ms src rs row q ks → rs.length ≤ n := fun S => Mat.nodup_lt S.fo.nd S.fo.lt
  refine ⟨fun m δ => ∃ (rs ks : List Nat) (kvs : List (Key × V)) (src : Nat → Option Nat) (q : Nat) (o6 o7 o8 : Option D), m = n - q ∧ δ = [some (dT t), some (.pin a (dM ms)), some (.int (row : Int)), some (dN rs), some (.dic kvs), some (.int (q : Int)), o6, o7, o8] ∧ Mat.Se n (MkT t) ms src rs row q ks ∧ Dc kvs src ∧ kvs.length ≤ ks.length ∧ q ≤ rs.length, ⟨n, [row], [], [], fun _ => none, 0, none, none, none, by omega, rfl, Mat.se_start hrow hnone, fun c => rfl, Nat.le_refl _, by simp⟩, ?_⟩
  rintro m δ ⟨rs, ks, kvs, src, q, o6, o7, o8, rfl, rfl, hSe, hD, hkl, hq⟩
  have hrn := rsn hSe
  walk_at "v"
  split
  · rename_i hql
    have hql' : q < rs.length := by omega
    obtain ⟨s, hs⟩ : ∃ s, rs[q]? = some s := ⟨_, List.getElem?_eq_getElem hql'⟩
    have hsn : s < n := hSe.fo.lt s (List.mem_of_getElem? hs)
    refine asO_N hs ?_
    walk_at "v"
    refine asO_rows (by omega) ?_
    have hrow' := hR.row hsn
    rw [Int.toNat_natCast]
    refine ⟨rowAt t s, kvs, src, rfl, by omega, hD, ?_⟩
    have hmem : ∀ c, c ∈ colsL (rowAt t s) src ↔ c < n ∧ MkT t s c ∧ src c = none := fun c => by
      unfold colsL MkT
      rw [List.mem_filter, List.mem_range, hrow', Bool.and_eq_true, decide_eq_true_eq, Option.isNone_iff_eq_none]
    have hcn : (colsL (rowAt t s) src).Nodup := List.nodup_range.filter _
    generalize colsL (rowAt t s) src = cs at *
    walk_at "v"
    rw [show (cs.map (fun (r : Nat) => (r : Int))).map L3.D.int = cs.map fun (c : Nat) => L3.D.int (c : Int) by rw [List.map_map]; rfl]
    refine loop_any (as := cs) (f := fun (c : Nat) => L3.D.int (c : Int)) (fun x δ => ∃ (rs' ks' : List Nat) (kvs' : List (Key × V)) (src' : Nat → Option Nat) (o8 : Option D), δ = [some (dT t), some (.pin a (dM ms)), some (.int (row : Int)), some (dN rs'), some (.dic kvs'), some (.int (q : Int)), some (.int (s : Int)), some (dN cs), o8] ∧ Mat.Se n (MkT t) ms src' rs' row q ks' ∧ Dc kvs' src' ∧ kvs'.length ≤ ks'.length ∧ rs'[q]? = some s ∧ (∀ y c, y < x → cs[y]? = some c → src' c ≠ none) ∧ (∀ y c, x ≤ y → cs[y]? = some c → src' c = none) ∧ (∀ c, src c ≠ none → src' c ≠ none)) ⟨rs, ks, kvs, src, _, rfl, hSe, hD, hkl, hs, fun y c hy => by omega, fun y c _ hy => ((hmem c).mp (List.mem_of_getElem? hy)).2.2, fun c h => h⟩ ?_ ?_
    · rintro x c δ N e ⟨rs', ks', kvs', src', o8', rfl, hS', hD', hkl', hs', hb, hf, hk⟩ hN
      have hrn' := rsn hS'
      have kl' := hS'.kl
      obtain ⟨hc1, hc2, hc3⟩ := (hmem c).mp (List.mem_of_getElem? e)
      have hcf := hf x c (Nat.le_refl _) e
      walk_at "v"
      refine ⟨by omega, vIn_M ?_⟩
      have hDp := hD'.put c s
      walk_at "v"
      by_cases hin : ∃ i : Nat, ms[i]? = some (some c)
      · rw [if_neg (fun z => by rw [inD_M.mpr hin] at z; cases z)]
        walk_at "v"
        obtain ⟨i, hi⟩ := hin
        refine asLst_in (es := ms.map oD) rfl ⟨oD_scal, i, ⟨oD (some c), by rw [List.getElem?_map, hi]; rfl, by show ((c : Int) == (c : Int)) = true; exact beq_self_eq_true _⟩, fun j z hj hz => ?_, ?_⟩
        · rw [List.getElem?_map] at hz
          cases w : ms[j]? with
          | none => rw [w] at hz; cases hz
          | some o =>
            rw [w] at hz; cases hz
            cases o with
            | none => rfl
            | some b =>
              show ((b : Int) == (c : Int)) = false
              refine beq_eq_false_iff_ne.mpr fun z => ?_
              have : b = c := by omega
              subst this
              have := hM.inj j i b w hi
              omega
        · have hst := Mat.se_step hS' hlm hs' hc1 hc2 hcf hi
          have hl2 := length_putK kvs' (.inl (c : Int)) (.int (s : Int))
          walk_at "v"
          refine ⟨by omega, hN _ ⟨rs' ++ [i], ks' ++ [c], _, _, _, by rw [show dN (rs' ++ [i]) = .lst ((rs'.map fun (r : Nat) => (r : Int)).map L3.D.int ++ [.int (i : Int)]) from (by show L3.D.lst (((rs' ++ [i]).map fun (r : Nat) => (r : Int)).map L3.D.int) = _; rw [List.map_append, List.map_append]; rfl)], hst, hDp, by rw [List.length_append]; simp only [List.length_cons, List.length_nil]; omega, by rw [List.getElem?_append_left (by have := (List.getElem?_eq_some_iff.mp hs').1; exact this)]; exact hs', fun y d hy hd => ?_, fun y d hy hd => ?_, fun d hd => ?_⟩⟩
          · unfold Mat.put
            split
            · simp
            · rename_i hne
              refine hb y d ?_ hd
              by_cases hyx : y = x
              · subst hyx; rw [e] at hd; cases hd; exact absurd rfl hne
              · omega
          · unfold Mat.put
            split
            · rename_i z
              subst z
              have h1 := List.getElem?_eq_some_iff.mp e
              have h2 := List.getElem?_eq_some_iff.mp hd
              have := (List.getElem_inj hcn).mp (h1.2.trans h2.2.symm)
              omega
            · exact hf y d (by omega) hd
          · unfold Mat.put
            split
            · simp
            · exact hk d hd
      · rw [if_pos (by
          cases w : inD (.int (c : Int)) (ms.map oD) with
          | false => rfl
          | true => exact absurd (inD_M.mp w) hin)]
        walk_at "v"
        refine ⟨ms, _, Mat.put src' c s, rs', row, c, q, n, MkT t, rfl, hDp, Mat.fo_put hS'.fo hcf hc1 hc2, ⟨hM, fun i hi => hin ⟨i, hi⟩, ⟨s, hs', by unfold Mat.put; rw [if_pos rfl]⟩, fun _ _ _ _ => rfl, fun _ => Iff.rfl⟩, fun ms' hm hd => ?_⟩
        walk_at "go"
        exact hP1 ms' hm hd
    · rintro δ ⟨rs', ks', kvs', src', o8', rfl, hS', hD', hkl', hs', hb, hf, hk⟩
      have hrn' := rsn hS'
      have hq' := (List.getElem?_eq_some_iff.mp hs').1
      walk_at "v"
      refine ⟨n - (q + 1), by omega, rs', ks', kvs', src', q + 1, _, _, _, rfl, by rw [show ((q + 1 : Nat) : Int) = (q : Int) + 1 by omega], Mat.se_next hS' hs' fun c hc hm => ?_, hD', hkl', by omega⟩
      by_cases z : src c = none
      · have hmc : c ∈ cs := (hmem c).mpr ⟨hc, hm, z⟩
        obtain ⟨y, hy⟩ := List.getElem?_of_mem hmc
        exact hb y c (List.getElem?_eq_some_iff.mp hy).1 hy
      · exact hk c z
  · rename_i hql
    have hql' : q = rs.length := by omega
    subst hql'
    walk_at "v"
    refine ⟨by omega, fun ns hp ho => ?_⟩
    obtain ⟨s, rfl, hps⟩ := Mat.perm_nat hp
    have ho' : s.Pairwise (· ≤ ·) := by
      rw [List.pairwise_map] at ho
      exact ho.imp fun h => by omega
    exact hP2 s (Mat.se_short hSe hps ho')
theorem rep_none : ∀ {n : Nat}, repD [L3.D.non] n = (List.replicate n none).map oD := fun {n} => by
  unfold repD
  induction n with
  | zero => rfl
  | succ n ih => rw [List.replicate_succ, List.flatten_cons, ih, List.replicate_succ, List.map_cons]; rfl
theorem dM_some {p : List Nat} : dM (p.map some) = dN p := by
  show L3.D.lst ((p.map some).map oD) = L3.D.lst ((p.map fun (r : Nat) => (r : Int)).map L3.D.int)
  rw [List.map_map, List.map_map]; rfl
def S_dealing_in : DSp := fun ds P => ∃ (t : List (List Int)) (n : Nat), ds = [dT t] ∧ Rect n n t ∧ 1 ≤ n ∧ n ≤ 8 ∧ (∀ p, Mat.Lies n (MkT t) p → P (.tup [.str "dealing", dN p])) ∧ (∀ s, Mat.Short n (MkT t) s → P (.tup [.str "short", dN s]))
theorem mono_dealing_in : DMono S_dealing_in := by
  intro xs P P' k h
  unfold S_dealing_in at h ⊢
  grind
theorem len_dealing_in : ∀ ds P, S_dealing_in ds P → ds.length = 1 := by
  intro ds P h
  obtain ⟨_, _, e, _⟩ := h
  rw [e]; rfl
theorem ok_dealing_in {f : Addr} {fd : FuncData} (F : FnAt K mg "dealing_in" s_dealing_in P_dealing_in f fd) (A_ : Fns K mg) (T : Txt K mg) {c : Cs} (xs : Exs K mg base c) : FnOk P w K mg base CX0 3 f fd P_dealing_in (spP K S_dealing_in) := by
  obtain ⟨f0, d0, E_deal_row⟩ := A_.h_deal_row
  have G_deal_row : FnOk P w K mg base CX0 2 f0 d0 P_deal_row (spI K 1 S_deal_row) := ok_deal_row E_deal_row A_ T xs
  refine F.fn.ok sc_dealing_in (fun vs H Q E h => spP_len len_dealing_in h) (fun cdv A outer s H vs Q E hr h => ?_)
  refine ⟨_, (pss_cons (ps_set (i := 1) sc_dealing_in.nd rfl (by first | exact Or.inl rfl | exact Or.inr rfl) (pe_op op_rep (pe_lst (pa_cons pe_non pa_nil)) (pe_callB (call_lenK (K := K) rfl) (by rfl) T.len_ PySem.boot_len (pa_cons (pv 0) pa_nil))))
      (pss_cons (ps_for PassesOwn.never rfl (pi_range1 rfl T.range_ (pa_cons (pe_callB (call_lenK (K := K) rfl) (by rfl) T.len_ PySem.boot_len (pa_cons (pv 0) pa_nil)) pa_nil)) (pg_name (i := 2) sc_dealing_in.nd rfl (by first | exact Or.inl rfl | exact Or.inr rfl)) (pss_cons (ps_set (i := 3) sc_dealing_in.nd rfl (by first | exact Or.inl rfl | exact Or.inr rfl) (pe_call G_deal_row (hr.mono (by decide)) rfl E_deal_row.mg E_deal_row.fn.kp E_deal_row.bd .nil pass0 (pa_cons (pv 0) (pa_cons (pv 1) (pa_cons (pv 2) pa_nil)))))
      (pss_one (ps_if (pt_cmpR (op_neL hr.units) (pv 3) (pe_lst pa_nil) (nomark _)) (pss_one (ps_ret (pe_tup (pa_cons pe_str (pa_cons (pv 3) pa_nil))))) pss_nil))))
      (pss_one (ps_ret (pe_tup (pa_cons pe_str (pa_cons (pv 1) pa_nil))))))), fn_val (Γn := [1]) (N := N_dealing_in) (st_seq (ST.post (Γn := [1]) (st_setM (M := []) 1 (em_op o_rep (EM.er (em_lst (am_cons0 em_non am_nil))) (EM.er (em_cb c_len (ar_cons (ES.er (es_var 0)) ar_nil))))))
      (st_seq (st_for (it_rng1 (ar_cons (EM.er (em_cb c_len (ar_cons (ES.er (es_var 0)) ar_nil))) ar_nil)) (gt_name 2) (ST.post (Γn := [1]) (st_seq (ST.post (Γn := [3, 1]) (st_setI 1 1 3 mono_deal_row (ai_next (ex_es (es_var 0)) (ai_here 1 (ax_cons (ex_es (es_var 2)) ax_nil)))))
      (st_if (tr_test (EM.er (em_op o_neL (er_var 3) (EM.er (em_lst am_nil))))) (st_ret (M := [3]) (em_tup (am_cons em_str (am_cons (em_var 3) am_nil)))) st_next))))
      (st_ret (M := [1]) (em_tup (am_cons em_str (am_cons (em_var 1) am_nil)))))) (fun ds P hS => ?_) h⟩
  obtain ⟨t, n, rfl, hR, hn1, hn8, hP1, hP2⟩ := hS
  have hlt := hR.1
  rw [show startD N_dealing_in [dT t] = [some (dT t), none, none, none] from rfl]
  walk_at "go"
  rw [hlt, rep_none]
  refine ⟨⟨rfl, by omega, by omega⟩, ?_⟩
  walk_at "go"
  refine loop_rng (fun i δ => ∃ (ms : List (Option Nat)) (o2 o3 : Option D), δ = [some (dT t), some (dM ms), o2, o3] ∧ Mat.Mt n (MkT t) ms ∧ ∀ j, Mat.Dom ms j ↔ j < i) ⟨List.replicate n none, none, none, rfl, ⟨List.length_replicate, fun i c e => ?_, fun i j c e => ?_⟩, fun j => ⟨fun ⟨c, e⟩ => ?_, fun h => by omega⟩⟩ ?_ ?_
  · rw [List.getElem?_replicate] at e; split at e <;> cases e
  · rw [List.getElem?_replicate] at e; split at e <;> cases e
  · rw [List.getElem?_replicate] at e; split at e <;> cases e
  · rintro i δ N hi ⟨ms, o2, o3, rfl, hM, hd⟩ hN
    have hlm := hM.len
    walk_at "go"
    rw [Int.zero_add]
    have hnone : ms[i]? = some none := by
      obtain ⟨o, ho⟩ := Mat.get_of (ms := ms) (i := i) (by omega)
      cases o with
      | none => exact ho
      | some c => exact absurd ((hd i).mp ⟨c, ho⟩) (by omega)
    refine ⟨t, ms, n, i, rfl, hR, hn8, hM, by omega, hnone, fun ms' hm hd' => ?_, fun s hs => ?_⟩
    · walk_at "go"
      refine vEqL_ints (ys := []) ?_
      walk_at "v"
      exact hN _ ⟨ms', _, _, rfl, hm, fun j => by rw [hd' j, hd j]; omega⟩
    · walk_at "go"
      refine vEqL_ints (ys := []) ?_
      walk_at "v"
      rw [if_pos (fun z => hs.ne (List.map_eq_nil_iff.mp z))]
      walk_at "go"
      exact hP2 s hs
  · rintro δ ⟨ms, o2, o3, rfl, hM, hd⟩
    walk_at "go"
    obtain ⟨p, rfl, hp⟩ := Mat.mt_lies hM fun i hi => (hd i).mpr hi
    rw [dM_some]
    exact hP1 p hp
def S_copied_table : DSp := fun ds P => ∃ t, ds = [dT t] ∧ t.length ≤ 1000 ∧ P (dT t)
theorem mono_copied_table : DMono S_copied_table := by
  intro xs P P' k h
  unfold S_copied_table at h ⊢
  grind
theorem len_copied_table : ∀ ds P, S_copied_table ds P → ds.length = 1 := by
  intro ds P h
  obtain ⟨_, e, _⟩ := h
  rw [e]; rfl
theorem ok_copied_table {f : Addr} {fd : FuncData} (F : FnAt K mg "copied_table" s_copied_table P_copied_table f fd) (A_ : Fns K mg) (T : Txt K mg) {c : Cs} (xs : Exs K mg base c) : FnOk P w K mg base CX0 1 f fd P_copied_table (spP K S_copied_table) := by
  refine F.fn.ok sc_copied_table (fun vs H Q E h => spP_len len_copied_table h) (fun cdv A outer s H vs Q E hr h => ?_)
  refine ⟨_, (pss_one (ps_ret (pe_comp0 (CompScope.of (sc0 := (defScope s_copied_table)) (tn := ["row"]) (cap := []) (idx := []) (by decide +kernel) rfl rfl) (pi_listK (K := K) rfl (pv 0)) (GSet.name (by decide)) (fun _ _ _ _ _ => pg_name (i := 0) (nodupB_iff (l := ["row"]) (by decide +kernel)) rfl (by first | exact Or.inl rfl | exact Or.inr rfl) (by first | exact .inl rfl | exact .inr rfl)) (fun _ _ _ _ _ => (pe_callTy (call_listK (K := K) rfl) (by rfl) T.list_ boot_list (pa_cons (pv 0) pa_nil)))))), fn_val (Γn := []) (N := N_copied_table) (st_ret (M := []) (em_comp0 (it_list (es_var 0)) (gt_name 0) (em_cb c_list (ar_cons (ES.er (es_var 0)) ar_nil)))) (fun ds P hS => ?_) h⟩
  obtain ⟨t, rfl, hl, hP⟩ := hS
  rw [show startD N_copied_table [dT t] = [some (dT t)] from rfl]
  walk_at "v"
  refine comp_copy (t := t) (fun R h => h) hl (fun r hr R h => by walk_at "gb"; exact h) ?_
  exact hP
def S_sums_of_rows : DSp := fun ds P => ∃ t, ds = [dT t] ∧ t.length ≤ 1000 ∧ P (dI (t.map List.sum))
theorem mono_sums_of_rows : DMono S_sums_of_rows := by
  intro xs P P' k h
  unfold S_sums_of_rows at h ⊢
  grind
theorem len_sums_of_rows : ∀ ds P, S_sums_of_rows ds P → ds.length = 1 := by
  intro ds P h
  obtain ⟨_, e, _⟩ := h
  rw [e]; rfl
theorem ok_sums_of_rows {f : Addr} {fd : FuncData} (F : FnAt K mg "sums_of_rows" s_sums_of_rows P_sums_of_rows f fd) (A_ : Fns K mg) (T : Txt K mg) {c : Cs} (xs : Exs K mg base c) : FnOk P w K mg base CX0 1 f fd P_sums_of_rows (spP K S_sums_of_rows) := by
  refine F.fn.ok sc_sums_of_rows (fun vs H Q E h => spP_len len_sums_of_rows h) (fun cdv A outer s H vs Q E hr h => ?_)
  refine ⟨_, (pss_one (ps_ret (pe_comp0 (CompScope.of (sc0 := (defScope s_sums_of_rows)) (tn := ["row"]) (cap := []) (idx := []) (by decide +kernel) rfl rfl) (pi_listK (K := K) rfl (pv 0)) (GSet.name (by decide)) (fun _ _ _ _ _ => pg_name (i := 0) (nodupB_iff (l := ["row"]) (by decide +kernel)) rfl (by first | exact Or.inl rfl | exact Or.inr rfl) (by first | exact .inl rfl | exact .inr rfl)) (fun _ _ _ _ _ => (pe_callB (call_sumK (K := K) rfl rfl) (by rfl) T.sum_ boot_sum (pa_cons (pv 0) pa_nil)))))), fn_val (Γn := []) (N := N_sums_of_rows) (st_ret (M := []) (em_comp0 (it_list (es_var 0)) (gt_name 0) (em_cb c_sum (ar_cons (ES.er (es_var 0)) ar_nil)))) (fun ds P hS => ?_) h⟩
  obtain ⟨t, rfl, hl, hP⟩ := hS
  rw [show startD N_sums_of_rows [dT t] = [some (dT t)] from rfl]
  walk_at "v"
  refine comp_rows (t := t) (g := fun r => .int r.sum) (fun R h => h) hl (fun r hr R h => ?_) ?_
  · walk_at "gb"
    exact h
  · rw [map_int]; exact hP
def S_column_of : DSp := fun ds P => ∃ (t : List (List Int)) (j : Nat), ds = [dT t, .int j] ∧ t.length ≤ 1000 ∧ (∀ r ∈ t, j < r.length) ∧ P (dI (colOf t j))
theorem mono_column_of : DMono S_column_of := by
  intro xs P P' k h
  unfold S_column_of at h ⊢
  grind
theorem len_column_of : ∀ ds P, S_column_of ds P → ds.length = 2 := by
  intro ds P h
  obtain ⟨_, _, e, _⟩ := h
  rw [e]; rfl
theorem ok_column_of {f : Addr} {fd : FuncData} (F : FnAt K mg "column_of" s_column_of P_column_of f fd) (A_ : Fns K mg) (T : Txt K mg) {c : Cs} (xs : Exs K mg base c) : FnOk P w K mg base CX0 1 f fd P_column_of (spP K S_column_of) := by
  refine F.fn.ok sc_column_of (fun vs H Q E h => spP_len len_column_of h) (fun cdv A outer s H vs Q E hr h => ?_)
  refine ⟨_, (pss_one (ps_ret (pe_comp0 (CompScope.of (sc0 := (defScope s_column_of)) (tn := ["row"]) (cap := ["place"]) (idx := [1]) (by decide +kernel) rfl rfl) (pi_listK (K := K) rfl (pv 0)) (GSet.name (by decide)) (fun _ _ _ _ _ => pg_name (i := 0) (nodupB_iff (l := ["row", "place"]) (by decide +kernel)) rfl (by first | exact Or.inl rfl | exact Or.inr rfl) (by first | exact .inl rfl | exact .inr rfl)) (fun _ _ _ _ _ => (pe_ix (ix_listK (K := K) rfl) (pv 0) (pv 1) (fun _ _ => rfl)))))), fn_val (Γn := []) (N := N_column_of) (st_ret (M := []) (em_comp0 (it_list (es_var 0)) (gt_name 0) (ER.scal (ES.er (es_ixL (es_var 0) (ES.er (es_var 1))))))) (fun ds P hS => ?_) h⟩
  obtain ⟨t, j, rfl, hl, hj, hP⟩ := hS
  rw [show startD N_column_of [dT t, .int j] = [some (dT t), some (.int j)] from rfl]
  walk_at "v"
  refine comp_rows (t := t) (g := fun r => .int (r.getD j 0)) (fun R h => h) hl (fun r hr R h => ?_) ?_
  · walk_at "gb"
    have := hj r hr
    refine asO_ints (by omega) ?_
    rw [Int.toNat_natCast]
    exact ⟨rfl, h⟩
  · rw [map_int]; exact hP
def turned (m : Nat) (t : List (List Int)) : List (List Int) := (List.range m).map fun (j : Nat) => colOf t j
def S_turned_table : DSp := fun ds P => ∃ (t : List (List Int)) (n m : Nat), ds = [dT t] ∧ Rect n m t ∧ 1 ≤ n ∧ n ≤ 1000 ∧ m ≤ 1000 ∧ P (dT (turned m t))
theorem mono_turned_table : DMono S_turned_table := by
  intro xs P P' k h
  unfold S_turned_table at h ⊢
  grind
theorem len_turned_table : ∀ ds P, S_turned_table ds P → ds.length = 1 := by
  intro ds P h
  obtain ⟨_, _, _, e, _⟩ := h
  rw [e]; rfl
theorem ok_turned_table {f : Addr} {fd : FuncData} (F : FnAt K mg "turned_table" s_turned_table P_turned_table f fd) (A_ : Fns K mg) (T : Txt K mg) {c : Cs} (xs : Exs K mg base c) : FnOk P w K mg base CX0 2 f fd P_turned_table (spP K S_turned_table) := by
  obtain ⟨f0, d0, E_column_of⟩ := A_.h_column_of
  have G_column_of : FnOk P w K mg base CX0 1 f0 d0 P_column_of (spP K S_column_of) := ok_column_of E_column_of A_ T xs
  refine F.fn.ok sc_turned_table (fun vs H Q E h => spP_len len_turned_table h) (fun cdv A outer s H vs Q E hr h => ?_)
  refine ⟨_, (pss_one (ps_ret (pe_comp0 (CompScope.of (sc0 := (defScope s_turned_table)) (tn := ["place"]) (cap := ["table"]) (idx := [0]) (by decide +kernel) rfl rfl) (pi_range1 rfl T.range_ (pa_cons (pe_callB (call_lenK (K := K) rfl) (by rfl) T.len_ PySem.boot_len (pa_cons (pe_ix (ix_listK (K := K) rfl) (pv 0) pe_int (fun _ _ => rfl)) pa_nil)) pa_nil)) (GSet.name (by decide)) (fun _ _ _ _ _ => pg_name (i := 0) (nodupB_iff (l := ["place", "table"]) (by decide +kernel)) rfl (by first | exact Or.inl rfl | exact Or.inr rfl) (by first | exact .inl rfl | exact .inr rfl)) (fun _ _ _ _ _ => (pe_call G_column_of (hr.mono (by decide)) rfl E_column_of.mg E_column_of.fn.kp E_column_of.bd .nil pass0 (pa_cons (pv 1) (pa_cons (pv 0) pa_nil))))))), fn_val (Γn := []) (N := N_turned_table) (st_ret (M := []) (em_comp0 (it_rng1 (ar_cons (EM.er (em_cb c_len (ar_cons (ES.er (es_ixL (es_var 0) (EM.er em_int))) ar_nil))) ar_nil)) (gt_name 0) (em_call (S := S_column_of) mono_column_of (ar_cons (ES.er (es_var 1)) (ar_cons (ES.er (es_var 0)) ar_nil))))) (fun ds P hS => ?_) h⟩
  obtain ⟨t, n, m, rfl, hR, hn, hn2, hm, hP⟩ := hS
  rw [show startD N_turned_table [dT t] = [some (dT t)] from rfl]
  have ht := hR.1
  have h0 := hR.row (i := 0) (by omega)
  walk_at "v"
  refine comp_rng (lo := 0) (n := m) (g := fun (j : Nat) => dI (colOf t j)) (fun R h => ?_) hm (fun j hj R h => ?_) ?_
  · walk_at "v"
    refine asO_rows (by omega) ?_
    walk_at "v"
    rw [h0]
    exact ⟨by omega, h⟩
  · walk_at "gb"
    rw [Int.zero_add]
    exact ⟨t, j, rfl, by omega, fun r hr => by rw [hR.2 r hr]; exact hj, h⟩
  · rw [map_dI]; exact hP
def S_sums_of_columns : DSp := fun ds P => ∃ (t : List (List Int)) (n m : Nat), ds = [dT t] ∧ Rect n m t ∧ 1 ≤ n ∧ n ≤ 1000 ∧ m ≤ 1000 ∧ P (dI ((turned m t).map List.sum))
theorem mono_sums_of_columns : DMono S_sums_of_columns := by
  intro xs P P' k h
  unfold S_sums_of_columns at h ⊢
  grind
theorem len_sums_of_columns : ∀ ds P, S_sums_of_columns ds P → ds.length = 1 := by
  intro ds P h
  obtain ⟨_, _, _, e, _⟩ := h
  rw [e]; rfl
theorem ok_sums_of_columns {f : Addr} {fd : FuncData} (F : FnAt K mg "sums_of_columns" s_sums_of_columns P_sums_of_columns f fd) (A_ : Fns K mg) (T : Txt K mg) {c : Cs} (xs : Exs K mg base c) : FnOk P w K mg base CX0 3 f fd P_sums_of_columns (spP K S_sums_of_columns) := by
  obtain ⟨f0, d0, E_sums_of_rows⟩ := A_.h_sums_of_rows
  have G_sums_of_rows : FnOk P w K mg base CX0 1 f0 d0 P_sums_of_rows (spP K S_sums_of_rows) := ok_sums_of_rows E_sums_of_rows A_ T xs
  obtain ⟨f1, d1, E_turned_table⟩ := A_.h_turned_table
  have G_turned_table : FnOk P w K mg base CX0 2 f1 d1 P_turned_table (spP K S_turned_table) := ok_turned_table E_turned_table A_ T xs
  refine F.fn.ok sc_sums_of_columns (fun vs H Q E h => spP_len len_sums_of_columns h) (fun cdv A outer s H vs Q E hr h => ?_)
  refine ⟨_, (pss_one (ps_ret (pe_call G_sums_of_rows (hr.mono (by decide)) rfl E_sums_of_rows.mg E_sums_of_rows.fn.kp E_sums_of_rows.bd .nil pass0 (pa_cons (pe_call G_turned_table (hr.mono (by decide)) rfl E_turned_table.mg E_turned_table.fn.kp E_turned_table.bd .nil pass0 (pa_cons (pv 0) pa_nil)) pa_nil)))), fn_val (Γn := []) (N := N_sums_of_columns) (st_ret (M := []) (em_call (S := S_sums_of_rows) mono_sums_of_rows (ar_cons (EM.er (em_call (S := S_turned_table) mono_turned_table (ar_cons (ES.er (es_var 0)) ar_nil))) ar_nil))) (fun ds P hS => ?_) h⟩
  obtain ⟨t, n, m, rfl, hR, hn, hn2, hm, hP⟩ := hS
  rw [show startD N_sums_of_columns [dT t] = [some (dT t)] from rfl]
  walk_at "v"
  refine ⟨t, n, m, rfl, hR, hn, hn2, hm, ?_⟩
  exact ⟨turned m t, rfl, by unfold turned; rw [List.length_map, List.length_range]; exact hm, hP⟩
def EvenT (n m : Nat) (t : List (List Int)) : Prop := n = m ∧ (∀ r ∈ t, ∀ x ∈ r, 0 ≤ x) ∧ 1 ≤ (rowAt t 0).sum ∧ (∀ r ∈ t, r.sum = (rowAt t 0).sum) ∧ ∀ j, j < m → (colOf t j).sum = (rowAt t 0).sum
theorem min_neg {r : List Int} {M : Int} (h1 : M ∈ r) (h2 : ∀ x ∈ r, M ≤ x) : decide (M < 0) = r.any fun x => decide (x < 0) := by
  rw [Bool.eq_iff_iff, decide_eq_true_eq, List.any_eq_true]
  constructor
  · exact fun h => ⟨M, h1, decide_eq_true h⟩
  · rintro ⟨x, hx, h⟩
    have := h2 x hx
    have := of_decide_eq_true h
    omega
def S_is_even : DSp := fun ds P => ∃ (t : List (List Int)) (n m : Nat), ds = [dT t] ∧ Rect n m t ∧ 1 ≤ n ∧ n ≤ 9 ∧ 1 ≤ m ∧ m ≤ 9 ∧ ∀ b : Bool, (b = true ↔ EvenT n m t) → P (.bl b)
theorem mono_is_even : DMono S_is_even := by
  intro xs P P' k h
  unfold S_is_even at h ⊢
  grind
theorem len_is_even : ∀ ds P, S_is_even ds P → ds.length = 1 := by
  intro ds P h
  obtain ⟨_, _, _, e, _⟩ := h
  rw [e]; rfl
theorem ok_is_even {f : Addr} {fd : FuncData} (F : FnAt K mg "is_even" s_is_even P_is_even f fd) (A_ : Fns K mg) (T : Txt K mg) {c : Cs} (xs : Exs K mg base c) : FnOk P w K mg base CX0 4 f fd P_is_even (spP K S_is_even) := by
  obtain ⟨f0, d0, E_sums_of_rows⟩ := A_.h_sums_of_rows
  have G_sums_of_rows : FnOk P w K mg base CX0 1 f0 d0 P_sums_of_rows (spP K S_sums_of_rows) := ok_sums_of_rows E_sums_of_rows A_ T xs
  obtain ⟨f1, d1, E_sums_of_columns⟩ := A_.h_sums_of_columns
  have G_sums_of_columns : FnOk P w K mg base CX0 3 f1 d1 P_sums_of_columns (spP K S_sums_of_columns) := ok_sums_of_columns E_sums_of_columns A_ T xs
  refine F.fn.ok sc_is_even (fun vs H Q E h => spP_len len_is_even h) (fun cdv A outer s H vs Q E hr h => ?_)
  refine ⟨_, (pss_cons (ps_if (pt_cmpR op_ne (pe_callB (call_lenK (K := K) rfl) (by rfl) T.len_ PySem.boot_len (pa_cons (pe_ix (ix_listK (K := K) rfl) (pv 0) pe_int (fun _ _ => rfl)) pa_nil)) (pe_callB (call_lenK (K := K) rfl) (by rfl) T.len_ PySem.boot_len (pa_cons (pv 0) pa_nil)) (nomark _)) (pss_one (ps_ret pe_bl)) pss_nil)
      (pss_cons (ps_if (pt_val (pe_callB (call_anyL (K := K) rfl rfl) (by rfl) T.any_ boot_any (pa_cons (pe_comp0 (CompScope.of (sc0 := (defScope s_is_even)) (tn := ["row"]) (cap := []) (idx := []) (by decide +kernel) rfl rfl) (pi_listK (K := K) rfl (pv 0)) (GSet.name (by decide)) (fun _ _ _ _ _ => pg_name (i := 0) (nodupB_iff (l := ["row"]) (by decide +kernel)) rfl (by first | exact Or.inl rfl | exact Or.inr rfl) (by first | exact .inl rfl | exact .inr rfl)) (fun _ _ _ _ _ => (pe_cmpR op_lt (pe_callB (call_minL (K := K) rfl rfl) (by rfl) T.min_ boot_min (pa_cons (pv 0) pa_nil)) pe_int (nomark _)))) pa_nil))) (pss_one (ps_ret pe_bl)) pss_nil)
      (pss_cons (ps_set (i := 1) sc_is_even.nd rfl (by first | exact Or.inl rfl | exact Or.inr rfl) (pe_op op_cat (pe_call G_sums_of_rows (hr.mono (by decide)) rfl E_sums_of_rows.mg E_sums_of_rows.fn.kp E_sums_of_rows.bd .nil pass0 (pa_cons (pv 0) pa_nil)) (pe_call G_sums_of_columns (hr.mono (by decide)) rfl E_sums_of_columns.mg E_sums_of_columns.fn.kp E_sums_of_columns.bd .nil pass0 (pa_cons (pv 0) pa_nil))))
      (pss_one (ps_ret (pe_and (pe_cmpR op_ge (pe_ix (ix_listK (K := K) rfl) (pv 1) pe_int (fun _ _ => rfl)) pe_int (nomark _)) (pe_one (pe_callB (call_allL (K := K) rfl rfl) (by rfl) T.all_ boot_all (pa_cons (pe_comp0 (CompScope.of (sc0 := (defScope s_is_even)) (tn := ["number"]) (cap := ["sums"]) (idx := [1]) (by decide +kernel) rfl rfl) (pi_listK (K := K) rfl (pv 1)) (GSet.name (by decide)) (fun _ _ _ _ _ => pg_name (i := 0) (nodupB_iff (l := ["number", "sums"]) (by decide +kernel)) rfl (by first | exact Or.inl rfl | exact Or.inr rfl) (by first | exact .inl rfl | exact .inr rfl)) (fun _ _ _ _ _ => (pe_cmpR op_eq (pv 0) (pe_ix (ix_listK (K := K) rfl) (pv 1) pe_int (fun _ _ => rfl)) (nomark _)))) pa_nil))))))))), fn_val (Γn := []) (N := N_is_even) (st_seq (st_if (tr_test (EM.er (em_op o_ne (EM.er (em_cb c_len (ar_cons (ES.er (es_ixL (es_var 0) (EM.er em_int))) ar_nil))) (EM.er (em_cb c_len (ar_cons (ES.er (es_var 0)) ar_nil)))))) (st_ret (M := []) em_bl) st_next)
      (st_seq (st_if (tr_b (EM.er (em_cb c_anyL (ar_cons (EM.er (em_comp0 (it_list (es_var 0)) (gt_name 0) (em_op o_bl (EM.er (em_cb c_minL (ar_cons (ES.er (es_var 0)) ar_nil))) (EM.er em_int)))) ar_nil)))) (st_ret (M := []) em_bl) st_next)
      (st_seq (ST.post (Γn := []) (st_setS 1 (EM.es (em_op o_cat (EM.er (em_call (S := S_sums_of_rows) mono_sums_of_rows (ar_cons (ES.er (es_var 0)) ar_nil))) (EM.er (em_call (S := S_sums_of_columns) mono_sums_of_columns (ar_cons (ES.er (es_var 0)) ar_nil)))))))
      (st_ret (M := []) (em_andV (EM.er (em_op o_bl (ES.er (es_ixL (es_var 1) (EM.er em_int))) (EM.er em_int))) (em_cb c_allL (ar_cons (EM.er (em_comp0 (it_list (es_var 1)) (gt_name 0) (em_op o_eq (ES.er (es_var 0)) (ES.er (es_ixL (es_var 1) (EM.er em_int)))))) ar_nil))))))) (fun ds P hS => ?_) h⟩
  obtain ⟨t, n, m, rfl, hR, hn1, hn9, hm1, hm9, hP⟩ := hS
  rw [show startD N_is_even [dT t] = [some (dT t), none] from rfl]
  have hl := hR.1
  have h0 := hR.row (i := 0) (by omega)
  walk_at "v"
  refine asO_rows (by omega) ?_
  walk_at "v"
  rw [h0, hl]
  split
  · rename_i c
    exact hP false ⟨fun z => (by cases z), fun z => absurd (by rw [z.1] : (m : Int) = n) c⟩
  rename_i c
  have emn : n = m := by omega
  refine comp_rows (t := t) (g := fun r => .bl (r.any fun x => decide (x < 0))) (fun R h => h) (by omega) (fun r hr R h => ?_) ?_
  · walk_at "gb"
    refine ⟨by rw [hR.2 r hr]; omega, fun M h1 h2 => ?_⟩
    walk_at "gb"
    rw [min_neg h1 h2]
    exact h
  rw [map_bl]
  walk_at "v"
  split
  · rename_i c2
    refine hP false ⟨fun z => (by cases z), fun z => ?_⟩
    rw [List.any_map, List.any_eq_true] at c2
    obtain ⟨r, hr, h⟩ := c2
    obtain ⟨x, hx, h⟩ := List.any_eq_true.mp h
    have := z.2.1 r hr x hx
    have := of_decide_eq_true h
    omega
  rename_i c2
  have nonneg : ∀ r ∈ t, ∀ x ∈ r, 0 ≤ x := fun r hr x hx => by
    by_cases h : 0 ≤ x
    · exact h
    · refine absurd ?_ c2
      rw [List.any_map, List.any_eq_true]
      exact ⟨r, hr, List.any_eq_true.mpr ⟨x, hx, decide_eq_true (by omega)⟩⟩
  refine ⟨t, rfl, by omega, ?_⟩
  refine ⟨t, n, m, rfl, hR, by omega, by omega, by omega, ?_⟩
  have hlt : (turned m t).length = m := by unfold turned; rw [List.length_map, List.length_range]
  walk_at "go"
  refine ⟨⟨scal_ints, scal_ints, by omega⟩, ?_⟩
  rw [cat_dI]
  generalize hs : t.map List.sum ++ (turned m t).map List.sum = sums
  have hs0 : sums.getD 0 0 = (rowAt t 0).sum := by
    rw [← hs, rowAt, List.getD_eq_getElem?_getD, List.getD_eq_getElem?_getD, List.getElem?_append_left (by rw [List.length_map]; omega), List.getElem?_map, List.getElem?_eq_getElem (by omega)]
    rfl
  have hsl : sums.length = n + m := by rw [← hs, List.length_append, List.length_map, List.length_map, hl, hlt]
  refine asO_ints (by omega) ?_
  walk_at "v"
  rw [hs0]
  have all : (∀ x ∈ sums, x = (rowAt t 0).sum) ↔ (∀ r ∈ t, r.sum = (rowAt t 0).sum) ∧ ∀ j, j < m → (colOf t j).sum = (rowAt t 0).sum := by
    rw [← hs]
    constructor
    · intro h
      refine ⟨fun r hr => h _ (List.mem_append_left _ (List.mem_map_of_mem hr)), fun j hj => h _ (List.mem_append_right _ (List.mem_map.mpr ⟨colOf t j, ?_, rfl⟩))⟩
      exact List.mem_map.mpr ⟨j, List.mem_range.mpr hj, rfl⟩
    · rintro ⟨h1, h2⟩ x hx
      rcases List.mem_append.mp hx with z | z
      · obtain ⟨r, hr, rfl⟩ := List.mem_map.mp z; exact h1 r hr
      · obtain ⟨r, hr, rfl⟩ := List.mem_map.mp z
        obtain ⟨j, hj, rfl⟩ := List.mem_map.mp hr
        exact h2 j (List.mem_range.mp hj)
  split
  · rename_i c3
    refine comp_ints (ns := sums) (g := fun x => .bl (decide (x = (rowAt t 0).sum))) (fun R h => h) (by omega) (fun x hx R h => ?_) ?_
    · walk_at "gb"
      refine asO_ints (by omega) ?_
      walk_at "gb"
      rw [hs0]
      exact h
    rw [map_bl]
    walk_at "v"
    refine hP _ ?_
    rw [List.all_map, List.all_eq_true]
    constructor
    · intro h
      exact ⟨emn, nonneg, c3, all.mp fun x hx => of_decide_eq_true (h x hx)⟩
    · intro h x hx
      exact decide_eq_true (all.mpr h.2.2.2 x hx)
  · rename_i c3
    exact hP false ⟨fun z => (by cases z), fun z => absurd z.2.2.1 c3⟩
def S_is_pair : DSp := fun ds P => ∃ (w : Int) (d : List Int) (n : Nat), ds = [.tup [.int w, dI d], .int n] ∧ n ≤ 64 ∧ d.length < 64 ∧ ∀ b : Bool, (b = true ↔ 1 ≤ w ∧ d.Perm (rngI n)) → P (.bl b)
theorem mono_is_pair : DMono S_is_pair := by
  intro xs P P' k h
  unfold S_is_pair at h ⊢
  grind
theorem len_is_pair : ∀ ds P, S_is_pair ds P → ds.length = 2 := by
  intro ds P h
  obtain ⟨_, _, _, e, _⟩ := h
  rw [e]; rfl
theorem ok_is_pair {f : Addr} {fd : FuncData} (F : FnAt K mg "is_pair" s_is_pair P_is_pair f fd) (A_ : Fns K mg) (T : Txt K mg) {c : Cs} (xs : Exs K mg base c) : FnOk P w K mg base CX0 1 f fd P_is_pair (spP K S_is_pair) := by
  refine F.fn.ok sc_is_pair (fun vs H Q E h => spP_len len_is_pair h) (fun cdv A outer s H vs Q E hr h => ?_)
  refine ⟨_, (pss_one (ps_ret (pe_and (pe_cmpR op_ge (pe_ix (ix_tupK (K := K) rfl) (pv 0) pe_int (fun _ _ => rfl)) pe_int (nomark _)) (pe_and (pe_cmpR op_eq (pe_callB (call_lenK (K := K) rfl) (by rfl) T.len_ PySem.boot_len (pa_cons (pe_ix (ix_tupK (K := K) rfl) (pv 0) pe_int (fun _ _ => rfl)) pa_nil)) (pv 1) (nomark _)) (pe_one (pe_cmpR (op_eqL hr.units) (pe_callB (call_sortedK (K := K) rfl) (by rfl) T.sorted_ boot_sorted (pa_cons (pe_ix (ix_tupK (K := K) rfl) (pv 0) pe_int (fun _ _ => rfl)) pa_nil)) (pe_listRngK rfl rfl T.list_ rfl T.range_ (pv 1)) (nomark _))))))), fn_val (Γn := []) (N := N_is_pair) (st_ret (M := []) (em_andV (EM.er (em_op o_bl (ES.er (es_ixT (es_var 0) (EM.er em_int))) (EM.er em_int))) (em_andV (EM.er (em_op o_eq (EM.er (em_cb c_len (ar_cons (ES.er (es_ixT (es_var 0) (EM.er em_int))) ar_nil))) (ES.er (es_var 1)))) (em_op o_eqL (EM.er (em_cb c_sort (ar_cons (ES.er (es_ixT (es_var 0) (EM.er em_int))) ar_nil))) (EM.er (em_listRng (ES.er (es_var 1)))))))) (fun ds P hS => ?_) h⟩
  obtain ⟨w, d, n, rfl, hn, hl, hP⟩ := hS
  have hlr : (rngI n).length = n := by unfold rngI; rw [List.length_map, List.length_range]
  have no : ¬ (1 ≤ w ∧ d.Perm (rngI n)) → P (.bl false) := fun h => hP false ⟨fun z => (by cases z), fun z => absurd z h⟩
  rw [show startD N_is_pair [.tup [.int w, dI d], .int n] = [some (.tup [.int w, dI d]), some (.int n)] from rfl]
  walk_at "go"
  split
  · rename_i c1
    split
    · rename_i c2
      refine ⟨by omega, fun ms hm ho => ?_⟩
      walk_at "go"
      refine vEqL_ints ?_
      simp only [Bool.false_eq_true, if_false]
      refine hP _ ⟨fun z => ⟨by omega, ?_⟩, fun z => decide_eq_true (sorted_rng (hm.trans z.2) ho)⟩
      have := of_decide_eq_true z
      rw [← show ms = rngI n from this]
      exact hm.symm
    · rename_i c2
      exact no fun z => c2 (by have := z.2.length_eq; omega)
  · rename_i c1
    exact no fun z => c1 (by omega)
def Mix (n : Nat) (ps : List (Int × List Int)) : Prop := 1 ≤ n ∧ n ≤ 8 ∧ 1 ≤ ps.length ∧ ps.length ≤ 200 ∧ ∀ q ∈ ps, 1 ≤ q.1 ∧ q.2.Perm (rngI n)
theorem Mix.len {n : Nat} {ps : List (Int × List Int)} (h : Mix n ps) {q : Int × List Int} (hq : q ∈ ps) : q.2.length = n := by
  have := (h.2.2.2.2 q hq).2.length_eq
  rw [this]; unfold rngI; rw [List.length_map, List.length_range]
theorem asO_P {ps : List (Int × List Int)} {P : DK} (h : 1 ≤ ps.length) (k : ∀ q ∈ ps, P (dPr q)) : asO (atI (ps.map dPr) 0) P := asO_end h (.inl rfl) k
noncomputable def pairB (n : Nat) (q : Int × List Int) : Bool := @decide (1 ≤ q.1 ∧ q.2.Perm (rngI n)) (Classical.propDecidable _)
def S_is_mixture : DSp := fun ds P => ∃ (ps : List (Int × List Int)), ds = [.lst (ps.map dPr)] ∧ ps.length ≤ 200 ∧ (∀ q ∈ ps, q.2.length < 64) ∧ ∀ b : Bool, (b = true ↔ ∃ n, Mix n ps) → P (.bl b)
theorem mono_is_mixture : DMono S_is_mixture := by
  intro xs P P' k h
  unfold S_is_mixture at h ⊢
  grind
theorem len_is_mixture : ∀ ds P, S_is_mixture ds P → ds.length = 1 := by
  intro ds P h
  obtain ⟨_, e, _⟩ := h
  rw [e]; rfl
theorem ok_is_mixture {f : Addr} {fd : FuncData} (F : FnAt K mg "is_mixture" s_is_mixture P_is_mixture f fd) (A_ : Fns K mg) (T : Txt K mg) {c : Cs} (xs : Exs K mg base c) : FnOk P w K mg base CX0 2 f fd P_is_mixture (spP K S_is_mixture) := by
  obtain ⟨f0, d0, E_is_pair⟩ := A_.h_is_pair
  have G_is_pair : FnOk P w K mg base CX0 1 f0 d0 P_is_pair (spP K S_is_pair) := ok_is_pair E_is_pair A_ T xs
  refine F.fn.ok sc_is_mixture (fun vs H Q E h => spP_len len_is_mixture h) (fun cdv A outer s H vs Q E hr h => ?_)
  refine ⟨_, (pss_cons (ps_if (pt_cmpR (op_eqL hr.units) (pv 0) (pe_lst pa_nil) (nomark _)) (pss_one (ps_ret pe_bl)) pss_nil)
      (pss_cons (ps_set (i := 1) sc_is_mixture.nd rfl (by first | exact Or.inl rfl | exact Or.inr rfl) (pe_callB (call_lenK (K := K) rfl) (by rfl) T.len_ PySem.boot_len (pa_cons (pe_ix (ix_tupK (K := K) rfl) (pe_ix (ix_listK (K := K) rfl) (pv 0) pe_int (fun _ _ => rfl)) pe_int (fun _ _ => rfl)) pa_nil)))
      (pss_one (ps_ret (pe_and (pe_chain op_le op_le pe_int (pv 1) (pe_glob (v := .int 8) rfl T.MOST_.choose_spec ⟨_, rfl⟩)) (pe_one (pe_callB (call_allL (K := K) rfl rfl) (by rfl) T.all_ boot_all (pa_cons (pe_comp0 (CompScope.of (sc0 := (defScope s_is_mixture)) (tn := ["pair"]) (cap := ["many"]) (idx := [1]) (by decide +kernel) rfl rfl) (pi_listK (K := K) rfl (pv 0)) (GSet.name (by decide)) (fun _ _ _ _ _ => pg_name (i := 0) (nodupB_iff (l := ["pair", "many"]) (by decide +kernel)) rfl (by first | exact Or.inl rfl | exact Or.inr rfl) (by first | exact .inl rfl | exact .inr rfl)) (fun _ _ _ _ _ => (pe_call G_is_pair (hr.mono (by decide)) rfl E_is_pair.mg E_is_pair.fn.kp E_is_pair.bd .nil pass0 (pa_cons (pv 0) (pa_cons (pv 1) pa_nil))))) pa_nil)))))))), fn_val (Γn := []) (N := N_is_mixture) (st_seq (st_if (tr_test (EM.er (em_op o_eqL (ES.er (es_var 0)) (EM.er (em_lst am_nil))))) (st_ret (M := []) em_bl) st_next)
      (st_seq (ST.post (Γn := []) (st_setS 1 (EM.es (em_cb c_len (ar_cons (ES.er (es_ixT (es_ixL (es_var 0) (EM.er em_int)) (EM.er em_int))) ar_nil)))))
      (st_ret (M := []) (em_andV (EM.er (em_chain o_bl o_bl (EM.er em_int) (ES.er (es_var 1)) (EM.er em_int))) (em_cb c_allL (ar_cons (EM.er (em_comp0 (it_list (es_var 0)) (gt_name 0) (em_call (S := S_is_pair) mono_is_pair (ar_cons (ES.er (es_var 0)) (ar_cons (ES.er (es_var 1)) ar_nil))))) ar_nil)))))) (fun ds P hS => ?_) h⟩
  obtain ⟨ps, rfl, p2, h64, hP⟩ := hS
  have no : (∀ n, ¬ Mix n ps) → P (.bl false) := fun h => hP false ⟨fun z => (by cases z), fun ⟨n, z⟩ => absurd z (h n)⟩
  rw [show startD N_is_mixture [.lst (ps.map dPr)] = [some (.lst (ps.map dPr)), none] from rfl]
  walk_at "go"
  refine vEqL_pairs (qs := []) ?_
  walk_at "v"
  by_cases p0 : ps = []
  · rw [if_pos p0]
    refine no fun n h => ?_
    have := h.2.2.1
    rw [p0] at this
    exact absurd this (by decide)
  rw [if_neg p0]
  have p1 : 1 ≤ ps.length := by
    cases ps with
    | nil => exact absurd rfl p0
    | cons a l => simp
  refine asO_P p1 fun q hq0 => ?_
  walk_at "go"
  split
  · rename_i c1
    walk_at "go"
    split
    · rename_i c2
      have hq64 := h64 q hq0
      refine comp_any (as := ps) (f := dPr) (p := fun _ => true) (g := fun q' => .bl (pairB q.2.length q')) (fun R h => h) (by omega) (fun q' hq' R h => ?_) ?_
      · walk_at "gb"
        refine ⟨q'.1, q'.2, q.2.length, rfl, by omega, h64 q' hq', fun b hb => ?_⟩
        have e : b = pairB q.2.length q' := by
          rw [Bool.eq_iff_iff, hb]
          unfold pairB
          exact (@decide_eq_true_iff _ (Classical.propDecidable _)).symm
        rw [e]
        exact h
      rw [show (ps.filter fun _ => true) = ps from List.filter_eq_self.mpr fun _ _ => rfl, show ps.map (fun q' => L3.D.bl (pairB q.2.length q')) = (ps.map fun q' => pairB q.2.length q').map L3.D.bl by rw [List.map_map]; rfl]
      walk_at "v"
      refine hP _ ?_
      rw [List.all_map, List.all_eq_true]
      constructor
      · intro h
        exact ⟨q.2.length, by omega, by omega, p1, p2, fun q' hq' => (@of_decide_eq_true _ (Classical.propDecidable _) (h q' hq'))⟩
      · rintro ⟨n, hM⟩ q' hq'
        have e := hM.len hq0
        show pairB q.2.length q' = true
        unfold pairB
        rw [e]
        exact (@decide_eq_true _ (Classical.propDecidable _) (hM.2.2.2.2 q' hq'))
    · rename_i c2
      refine no fun n h => ?_
      have := h.len hq0
      have := h.2.1
      omega
  · rename_i c1
    refine no fun n h => ?_
    have := h.len hq0
    have := h.1
    omega
def S_add_dealing : DSI := fun ds P => ∃ (t : List (List Int)) (n : Nat) (w : Int) (d : List Int), ds = [dT t, .int w, dI d] ∧ Rect n n t ∧ n ≤ 8 ∧ d.Perm (rngI n) ∧ ∀ u, Rect n n u → (∀ k j : Nat, k < n → j < n → cellAt u k j = cellAt t k j + if d.getD k 0 = (j : Int) then w else 0) → P .non (dT u)
theorem mono_add_dealing : DMonoI S_add_dealing := by
  intro xs P P' k h
  unfold S_add_dealing at h ⊢
  grind
theorem len_add_dealing : ∀ ds P, S_add_dealing ds P → ds.length = 3 := by
  intro ds P h
  unfold S_add_dealing at h
  grind
theorem ok_add_dealing {f : Addr} {fd : FuncData} (F : FnAt K mg "add_dealing" s_add_dealing P_add_dealing f fd) (A_ : Fns K mg) (T : Txt K mg) {c : Cs} (xs : Exs K mg base c) : FnOk P w K mg base CX0 1 f fd P_add_dealing (spI K 0 S_add_dealing) := by
  refine F.fn.ok sc_add_dealing (fun vs H Q E h => spI_len len_add_dealing h) (fun cdv A outer s H vs Q E hr h => ?_)
  refine ⟨_, (pss_one (ps_for PassesOwn.never rfl (pi_range1 rfl T.range_ (pa_cons (pe_callB (call_lenK (K := K) rfl) (by rfl) T.len_ PySem.boot_len (pa_cons (pv 2) pa_nil)) pa_nil)) (pg_name (i := 3) sc_add_dealing.nd rfl (by first | exact Or.inl rfl | exact Or.inr rfl)) (pss_one (ps_asg (pe_op op_add (pe_ix (ix_listK (K := K) rfl) (pe_ix (ix_listK (K := K) rfl) (pv 0) (pv 3) (fun _ _ => rfl)) (pe_ix (ix_listK (K := K) rfl) (pv 2) (pv 3) (fun _ _ => rfl)) (fun _ _ => rfl)) (pv 1)) (pg_sub (pe_ix (ix_listK (K := K) rfl) (pv 0) (pv 3) (fun _ _ => rfl)) (pe_ix (ix_listK (K := K) rfl) (pv 2) (pv 3) (fun _ _ => rfl)) set_list))))), fn_valI (Γn := [0]) (N := N_add_dealing) (p := 0) (st_for (it_rng1 (ar_cons (EM.er (em_cb c_len (ar_cons (ES.er (es_var 2)) ar_nil))) ar_nil)) (gt_name 3) (st_pin 0 (st0_setItem2 0 (em_op o_int (er_ixL (er_ixL (er_var 0) (ES.er (es_var 3))) (ES.er (es_ixL (es_var 2) (ES.er (es_var 3))))) (ES.er (es_var 1))) (ES.er (es_var 3)) (ES.er (es_ixL (es_var 2) (ES.er (es_var 3))))))) (fun ds P a x hS hx => ?_) (by decide) (fun ds P h => by have := len_add_dealing ds P h; omega) h⟩
  obtain ⟨t, n, w, d, rfl, hR, n8, hp, hP⟩ := hS
  have hlr : (rngI n).length = n := by unfold rngI; rw [List.length_map, List.length_range]
  have hdl : d.length = n := by rw [hp.length_eq]; exact hlr
  cases hx
  simp only [List.set_cons_zero, List.set_cons_succ]
  rw [show startD N_add_dealing [.pin a (dT t), .int w, dI d] = [some (.pin a (dT t)), some (.int w), some (dI d), none] from rfl]
  walk_at "go"
  refine loop_rng (fun i δ => ∃ (u : List (List Int)) (o3 : Option D), δ = [some (.pin a (dT u)), some (.int w), some (dI d), o3] ∧ Rect n n u ∧ ∀ k j : Nat, k < n → j < n → cellAt u k j = cellAt t k j + if k < i ∧ d.getD k 0 = (j : Int) then w else 0) ⟨t, none, rfl, hR, fun k j _ _ => by simp⟩ ?_ ?_
  · rintro i δ N hi ⟨u, o3, rfl, hU, hc⟩ hN
    obtain ⟨p1, p2, p3⟩ := perm_at hp (show i < n by omega)
    have hl := hU.1
    have hrow := hU.row (i := i) (by omega)
    obtain ⟨c, ec⟩ : ∃ c : Nat, d.getD i 0 = (c : Int) := ⟨(d.getD i 0).toNat, by omega⟩
    walk_at "v"
    rw [Int.zero_add]
    refine setItem2_tab (t := u) (a := (i : Int)) (b := (c : Int)) (v := cellAt u i c + w) rfl (fun R h => ?_) (fun R h => ?_) (fun R h => ?_) (by omega) (by rw [Int.toNat_natCast, hrow]; omega) ?_
    · walk_at "v"
      refine asO_rows (by omega) ?_
      walk_at "v"
      refine asO_ints (by omega) ?_
      rw [Int.toNat_natCast, ec]
      walk_at "v"
      refine asO_ints (by rw [hrow]; omega) ?_
      rw [Int.toNat_natCast]
      walk_at "v"
      exact h
    · walk_at "v"; exact h
    · walk_at "v"
      refine asO_ints (by omega) ?_
      rw [Int.toNat_natCast, ec]
      exact h
    rw [Int.toNat_natCast, Int.toNat_natCast]
    walk_at "v"
    refine hN _ ⟨_, _, rfl, hU.setCell (by omega), fun k j hk hj => ?_⟩
    rw [cell_set hU (by omega) (by omega)]
    by_cases q : i = k ∧ c = j
    · obtain ⟨rfl, rfl⟩ := q
      rw [if_pos ⟨rfl, rfl⟩, hc i c hk hj, if_neg (fun z => by omega), if_pos ⟨by omega, ec⟩]
      omega
    · rw [if_neg q, hc k j hk hj]
      congr 1
      by_cases h1 : k < i ∧ d.getD k 0 = (j : Int)
      · rw [if_pos h1, if_pos ⟨by omega, h1.2⟩]
      · rw [if_neg h1, if_neg (fun z => ?_)]
        by_cases z1 : k = i
        · subst z1
          rw [ec] at z
          exact q ⟨rfl, by omega⟩
        · exact h1 ⟨by omega, z.2⟩
  · rintro δ ⟨u, o3, rfl, hU, hc⟩
    walk_at "v"
    exact hP u hU fun k j hk hj => by rw [hc k j hk hj, hdl]; simp [hk]
def S_told_by (c : Cs) : DSX := fun ds P R => ∃ (ps : List (Int × List Int)), ds = [.lst (ps.map dPr)] ∧ ps.length ≤ 200 ∧ (∀ q ∈ ps, q.2.length < 64) ∧ (∀ n, Mix n ps → ∀ t, Tab n ps t → P (dT t)) ∧ ((∀ n, ¬ Mix n ps) → R c.NoMix)
theorem mono_told_by {c : Cs} : DMonoX (S_told_by c) := by
  intro xs P P' R R' k kr h
  obtain ⟨ps, e, h0, h1, h2, h3⟩ := h
  exact ⟨ps, e, h0, h1, fun n a t b => k _ (h2 n a t b), fun z => kr _ (h3 z)⟩
theorem len_told_by {c : Cs} : ∀ ds P R, S_told_by c ds P R → ds.length = 1 := by
  intro ds P R h
  obtain ⟨ps, e, _⟩ := h
  rw [e]; rfl
theorem ok_told_by {f : Addr} {fd : FuncData} (F : FnAt K mg "told_by" s_told_by P_told_by f fd) (A_ : Fns K mg) (T : Txt K mg) {c : Cs} (xs : Exs K mg base c) : FnOk P w K mg base (CXR P w) 3 f fd P_told_by (spX K (S_told_by c)) := by
  obtain ⟨f0, d0, E_is_mixture⟩ := A_.h_is_mixture
  have G_is_mixture : FnOk P w K mg base CX0 2 f0 d0 P_is_mixture (spP K S_is_mixture) := ok_is_mixture E_is_mixture A_ T xs
  obtain ⟨f1, d1, E_add_dealing⟩ := A_.h_add_dealing
  have G_add_dealing : FnOk P w K mg base CX0 1 f1 d1 P_add_dealing (spI K 0 S_add_dealing) := ok_add_dealing E_add_dealing A_ T xs
  refine F.fn.okX sc_told_by (fun vs H Q E h => spX_len len_told_by h) (fun cdv A outer s H vs Q E hr h => ?_)
  refine ⟨_, (pss_cons (ps_if (PT.nox (pt_not (pt_val (pe_call G_is_mixture (hr.mono (by decide)) rfl E_is_mixture.mg E_is_mixture.fn.kp E_is_mixture.bd .nil pass0 (pa_cons (pv 0) pa_nil))))) (pss_one (ps_raise (xs.o_NoMix.own xs.m_NoMix) PySem.F.excBase_ValueError rfl rfl raise_x (pa_cons pe_str pa_nil))) pss_nil)
      (PSs.nox (pss_cons (ps_set (i := 1) sc_told_by.nd rfl (by first | exact Or.inl rfl | exact Or.inr rfl) (pe_callB (call_lenK (K := K) rfl) (by rfl) T.len_ PySem.boot_len (pa_cons (pe_ix (ix_tupK (K := K) rfl) (pe_ix (ix_listK (K := K) rfl) (pv 0) pe_int (fun _ _ => rfl)) pe_int (fun _ _ => rfl)) pa_nil)))
      (pss_cons (ps_setC0 (i := 2) (CompScope.of (sc0 := (defScope s_told_by)) (tn := ["row"]) (cap := ["many"]) (idx := [1]) (by decide +kernel) rfl rfl) sc_told_by.nd rfl (by first | exact Or.inl rfl | exact Or.inr rfl) (pi_range1 rfl T.range_ (pa_cons (pv 1) pa_nil)) (GSet.name (by decide)) (fun _ _ _ _ _ => pg_name (i := 0) (nodupB_iff (l := ["row", "many"]) (by decide +kernel)) rfl (by first | exact Or.inl rfl | exact Or.inr rfl) (by first | exact .inl rfl | exact .inr rfl)) (fun _ _ _ _ _ => (pe_op op_rep (pe_lst (pa_cons pe_int pa_nil)) (pv 1))))
      (pss_cons (ps_for PassesOwn.never rfl (pi_listK (K := K) rfl (pv 0)) (pg_name (i := 3) sc_told_by.nd rfl (by first | exact Or.inl rfl | exact Or.inr rfl)) (pss_one (ps_expr (pe_call G_add_dealing (hr.mono (by decide)) rfl E_add_dealing.mg E_add_dealing.fn.kp E_add_dealing.bd .nil pass0 (pa_cons (pv 2) (pa_cons (pe_ix (ix_tupK (K := K) rfl) (pv 3) pe_int (fun _ _ => rfl)) (pa_cons (pe_ix (ix_tupK (K := K) rfl) (pv 3) pe_int (fun _ _ => rfl)) pa_nil)))))))
      (pss_one (ps_ret (pv 2)))))))), fn_valX (Γn := [2]) (N := N_told_by) (fun R => (sx_seq (sx_if (tr_not (tr_b (EM.er (em_call (S := S_is_mixture) mono_is_mixture (ar_cons (ES.er (es_var 0)) ar_nil))))) (sx_raise (ar_cons (EM.er em_str) ar_nil)) (ST.sx st_next))
      (ST.sx (st_seq (ST.post (Γn := []) (st_setS 1 (EM.es (em_cb c_len (ar_cons (ES.er (es_ixT (es_ixL (es_var 0) (EM.er em_int)) (EM.er em_int))) ar_nil)))))
      (st_seq (ST.post (Γn := [2]) (st_setM (M := []) 2 (em_comp0 (it_rng1 (ar_cons (ES.er (es_var 1)) ar_nil)) (gt_name 0) (em_op o_rep (EM.er (em_lst (am_cons0 em_int am_nil))) (ES.er (es_var 1))))))
      (st_seq (st_for (it_list (es_var 0)) (gt_name 3) (ST0.st (st0_callI 2 0 mono_add_dealing (ai_here 2 (ax_cons (ex_es (es_ixT (es_var 3) (EM.er em_int))) (ax_cons (ex_es (es_ixT (es_var 3) (EM.er em_int))) ax_nil))))))
      (st_ret (M := [2]) (em_var 2)))))))) (fun ds P R hS => ?_) h⟩
  obtain ⟨ps, rfl, p2, h64, hP, hX⟩ := hS
  rw [show startD N_told_by [.lst (ps.map dPr)] = [some (.lst (ps.map dPr)), none, none, none] from rfl]
  walk_at "v"
  refine ⟨ps, rfl, p2, h64, fun b hb => ?_⟩
  by_cases hm : ∃ n, Mix n ps
  case neg =>
    have hb0 : b = false := by
      cases b with
      | false => rfl
      | true => exact absurd (hb.mp rfl) hm
    subst hb0
    walk_at "v"
    exact ⟨by decide, hX fun n h => hm ⟨n, h⟩⟩
  rw [hb.mpr hm]
  obtain ⟨n, hM⟩ := hm
  have hP := hP n hM
  obtain ⟨n1, n8, p1, _, hq⟩ := id hM
  walk_at "go"
  refine asO_P p1 fun q hq0 => ?_
  walk_at "go"
  rw [hM.len hq0]
  refine comp_rng (lo := 0) (n := n) (g := fun _ => dI (List.replicate n 0)) (fun R h => ?_) (by omega) (fun i hi R h => ?_) ?_
  · walk_at "go"; exact h
  · walk_at "gb"
    rw [rep_zero]
    exact ⟨⟨rfl, by omega, by omega⟩, h⟩
  rw [map_dI]
  walk_at "go"
  have h0 : Rect n n ((List.range n).map fun _ => List.replicate n (0 : Int)) := ⟨by rw [List.length_map, List.length_range], fun r hr => by
    obtain ⟨_, _, rfl⟩ := List.mem_map.mp hr
    exact List.length_replicate⟩
  have c0 : ∀ k j : Nat, k < n → j < n → cellAt ((List.range n).map fun _ => List.replicate n (0 : Int)) k j = 0 := fun k j hk hj => by
    unfold cellAt
    rw [List.getD_eq_getElem?_getD (l := (List.range n).map _), List.getElem?_map, List.getElem?_range hk, Option.map_some, Option.getD_some, List.getD_eq_getElem?_getD, List.getElem?_replicate, if_pos hj]; rfl
  refine loop_any (as := ps) (f := dPr) (fun i δ => ∃ (t : List (List Int)) (o3 : Option D), δ = [some (.lst (ps.map dPr)), some (.int n), some (dT t), o3] ∧ Tab n (ps.take i) t) ⟨_, none, rfl, h0, fun k j hk hj => by rw [c0 k j hk hj, List.take_zero]; rfl⟩ ?_ ?_
  · rintro i q' δ N e ⟨t, o3, rfl, hT⟩ hN
    have hq' := hq q' (List.mem_of_getElem? e)
    walk_at "go"
    refine ⟨t, n, q'.1, q'.2, rfl, hT.1, n8, hq'.2, fun u hU hc => ?_⟩
    walk_at "v"
    refine hN _ ⟨u, _, rfl, ?_⟩
    rw [List.take_add_one, e]
    exact hT.snoc hU hc
  · rintro δ ⟨t, o3, rfl, hT⟩
    rw [List.take_length] at hT
    walk_at "v"
    exact hP t hT
def mk1 (x : Int) : Int := if 0 < x then 1 else 0
def S_marked_row : DSp := fun ds P => ∃ r, ds = [dI r] ∧ r.length ≤ 1000 ∧ P (dI (r.map mk1))
theorem mono_marked_row : DMono S_marked_row := by
  intro xs P P' k h
  unfold S_marked_row at h ⊢
  grind
theorem len_marked_row : ∀ ds P, S_marked_row ds P → ds.length = 1 := by
  intro ds P h
  obtain ⟨_, e, _⟩ := h
  rw [e]; rfl
theorem ok_marked_row {f : Addr} {fd : FuncData} (F : FnAt K mg "marked_row" s_marked_row P_marked_row f fd) (A_ : Fns K mg) (T : Txt K mg) {c : Cs} (xs : Exs K mg base c) : FnOk P w K mg base CX0 1 f fd P_marked_row (spP K S_marked_row) := by
  refine F.fn.ok sc_marked_row (fun vs H Q E h => spP_len len_marked_row h) (fun cdv A outer s H vs Q E hr h => ?_)
  refine ⟨_, (pss_one (ps_ret (pe_comp0 (CompScope.of (sc0 := (defScope s_marked_row)) (tn := ["cell"]) (cap := []) (idx := []) (by decide +kernel) rfl rfl) (pi_listK (K := K) rfl (pv 0)) (GSet.name (by decide)) (fun _ _ _ _ _ => pg_name (i := 0) (nodupB_iff (l := ["cell"]) (by decide +kernel)) rfl (by first | exact Or.inl rfl | exact Or.inr rfl) (by first | exact .inl rfl | exact .inr rfl)) (fun _ _ _ _ _ => (pe_ifExp (pt_cmpR op_gt (pv 0) pe_int (nomark _)) pe_int pe_int))))), fn_val (Γn := []) (N := N_marked_row) (st_ret (M := []) (em_comp0 (it_list (es_var 0)) (gt_name 0) (em_if (tr_test (EM.er (em_op o_bl (ES.er (es_var 0)) (EM.er em_int)))) em_int em_int))) (fun ds P hS => ?_) h⟩
  obtain ⟨r, rfl, hl, hP⟩ := hS
  rw [show startD N_marked_row [dI r] = [some (dI r)] from rfl]
  walk_at "v"
  refine comp_ints (ns := r) (g := fun x => .int (mk1 x)) (fun R h => h) hl (fun x hx R h => ?_) ?_
  · walk_at "gb"
    unfold mk1 at h
    split
    · rename_i c; rw [if_pos c] at h; exact h
    · rename_i c; rw [if_neg c] at h; exact h
  · rw [map_int]; exact hP
def S_marks_of : DSp := fun ds P => ∃ t : List (List Int), ds = [dT t] ∧ t.length ≤ 1000 ∧ (∀ r ∈ t, r.length ≤ 1000) ∧ P (dT (t.map fun r => r.map mk1))
theorem mono_marks_of : DMono S_marks_of := by
  intro xs P P' k h
  unfold S_marks_of at h ⊢
  grind
theorem len_marks_of : ∀ ds P, S_marks_of ds P → ds.length = 1 := by
  intro ds P h
  obtain ⟨_, e, _⟩ := h
  rw [e]; rfl
theorem ok_marks_of {f : Addr} {fd : FuncData} (F : FnAt K mg "marks_of" s_marks_of P_marks_of f fd) (A_ : Fns K mg) (T : Txt K mg) {c : Cs} (xs : Exs K mg base c) : FnOk P w K mg base CX0 2 f fd P_marks_of (spP K S_marks_of) := by
  obtain ⟨f0, d0, E_marked_row⟩ := A_.h_marked_row
  have G_marked_row : FnOk P w K mg base CX0 1 f0 d0 P_marked_row (spP K S_marked_row) := ok_marked_row E_marked_row A_ T xs
  refine F.fn.ok sc_marks_of (fun vs H Q E h => spP_len len_marks_of h) (fun cdv A outer s H vs Q E hr h => ?_)
  refine ⟨_, (pss_one (ps_ret (pe_comp0 (CompScope.of (sc0 := (defScope s_marks_of)) (tn := ["row"]) (cap := []) (idx := []) (by decide +kernel) rfl rfl) (pi_listK (K := K) rfl (pv 0)) (GSet.name (by decide)) (fun _ _ _ _ _ => pg_name (i := 0) (nodupB_iff (l := ["row"]) (by decide +kernel)) rfl (by first | exact Or.inl rfl | exact Or.inr rfl) (by first | exact .inl rfl | exact .inr rfl)) (fun _ _ _ _ _ => (pe_call G_marked_row (hr.mono (by decide)) rfl E_marked_row.mg E_marked_row.fn.kp E_marked_row.bd .nil pass0 (pa_cons (pv 0) pa_nil)))))), fn_val (Γn := []) (N := N_marks_of) (st_ret (M := []) (em_comp0 (it_list (es_var 0)) (gt_name 0) (em_call (S := S_marked_row) mono_marked_row (ar_cons (ES.er (es_var 0)) ar_nil)))) (fun ds P hS => ?_) h⟩
  obtain ⟨t, rfl, hl, h2, hP⟩ := hS
  rw [show startD N_marks_of [dT t] = [some (dT t)] from rfl]
  walk_at "v"
  refine comp_rows (t := t) (g := fun r => dI (r.map mk1)) (fun R h => h) hl (fun r hr R h => ?_) ?_
  · walk_at "gb"
    exact ⟨r, rfl, h2 r hr, h⟩
  · rw [show t.map (fun r => dI (r.map mk1)) = (t.map fun r => r.map mk1).map dI by rw [List.map_map]; rfl]
    exact hP
structure MixOf (n : Nat) (t : List (List Int)) (qs : List Bir.Qd) : Prop where
  ne : 1 ≤ qs.length
  few : qs.length ≤ (n - 1) * (n - 1) + 1
  ok : ∀ q ∈ qs, 1 ≤ q.1 ∧ Bir.Pm n q.2.1
  apart : (qs.map fun q => q.2.1).Nodup
  tab : Tab n (qs.map Bir.prOf) t
def S_mixture_of (c : Cs) : DSX := fun ds P R => ∃ (t : List (List Int)) (n m : Nat), ds = [dT t] ∧ Rect n m t ∧ 1 ≤ n ∧ n ≤ 9 ∧ 1 ≤ m ∧ m ≤ 9 ∧ (EvenT n m t → n ≤ 8 ∧ ∃ b : Int, 1 ≤ b ∧ Bir.Ev n t b ∧ ∀ qs, MixOf n t qs → P (.lst ((qs.map Bir.prOf).map dPr))) ∧ (¬ EvenT n m t → R c.NotEven)
theorem ev_even {n : Nat} {t : List (List Int)} {b : Int} (h : Bir.Ev n t b) (hn : 1 ≤ n) (hb : 1 ≤ b) : EvenT n n t := by
  have hl := h.rect.1
  have rs : ∀ r ∈ t, r.sum = b := fun r hr => by
    obtain ⟨i, hi⟩ := List.getElem?_of_mem hr
    have hi1 := (List.getElem?_eq_some_iff.mp hi).1
    have e : rowAt t i = r := by unfold rowAt; rw [List.getD_eq_getElem?_getD, hi]; rfl
    rw [Bir.sum_S (h.rect.2 r hr), ← h.row i (by omega), ← e]
  have h0 : (rowAt t 0).sum = b := rs _ (rowAt_mem (by omega))
  refine ⟨rfl, fun r hr x hx => ?_, by omega, fun r hr => by rw [h0]; exact rs r hr, fun j hj => ?_⟩
  · obtain ⟨i, hi⟩ := List.getElem?_of_mem hr
    obtain ⟨k, hk⟩ := List.getElem?_of_mem hx
    have hi1 := (List.getElem?_eq_some_iff.mp hi).1
    have hk1 := (List.getElem?_eq_some_iff.mp hk).1
    have hrl := h.rect.2 r hr
    have := h.nn i k (by omega) (by omega)
    have e : cellAt t i k = x := by unfold cellAt; rw [List.getD_eq_getElem?_getD (l := t), hi, Option.getD_some, List.getD_eq_getElem?_getD, hk]; rfl
    rw [e] at this; exact this
  · rw [h0, ← h.col j hj, Bir.sum_S (n := n) (by unfold colOf; rw [List.length_map]; exact hl)]
    refine Bir.S_congr fun i hi => ?_
    unfold colOf cellAt
    rw [List.getD_eq_getElem?_getD, List.getElem?_map, List.getElem?_eq_getElem (by omega), Option.map_some, Option.getD_some, List.getD_eq_getElem?_getD (l := t), List.getElem?_eq_getElem (by omega), Option.getD_some]
theorem mono_mixture_of {c : Cs} : DMonoX (S_mixture_of c) := by
  intro xs P P' R R' k kr h
  obtain ⟨t, n, m, e, h0, h1, h2, h3, h4, h5, h6⟩ := h
  exact ⟨t, n, m, e, h0, h1, h2, h3, h4, fun a => by obtain ⟨g1, b, g2, g3, g4⟩ := h5 a; exact ⟨g1, b, g2, g3, fun qs q => k _ (g4 qs q)⟩, fun z => kr _ (h6 z)⟩
theorem len_mixture_of {c : Cs} : ∀ ds P R, S_mixture_of c ds P R → ds.length = 1 := by
  intro ds P R h
  obtain ⟨t, n, m, e, _⟩ := h
  rw [e]; rfl
theorem ok_mixture_of {f : Addr} {fd : FuncData} (F : FnAt K mg "mixture_of" s_mixture_of P_mixture_of f fd) (A_ : Fns K mg) (T : Txt K mg) {c : Cs} (xs : Exs K mg base c) : FnOk P w K mg base (CXR P w) 5 f fd P_mixture_of (spX K (S_mixture_of c)) := by
  obtain ⟨f0, d0, E_copied_table⟩ := A_.h_copied_table
  have G_copied_table : FnOk P w K mg base CX0 1 f0 d0 P_copied_table (spP K S_copied_table) := ok_copied_table E_copied_table A_ T xs
  obtain ⟨f1, d1, E_is_even⟩ := A_.h_is_even
  have G_is_even : FnOk P w K mg base CX0 4 f1 d1 P_is_even (spP K S_is_even) := ok_is_even E_is_even A_ T xs
  obtain ⟨f2, d2, E_add_dealing⟩ := A_.h_add_dealing
  have G_add_dealing : FnOk P w K mg base CX0 1 f2 d2 P_add_dealing (spI K 0 S_add_dealing) := ok_add_dealing E_add_dealing A_ T xs
  obtain ⟨f3, d3, E_dealing_in⟩ := A_.h_dealing_in
  have G_dealing_in : FnOk P w K mg base CX0 3 f3 d3 P_dealing_in (spP K S_dealing_in) := ok_dealing_in E_dealing_in A_ T xs
  obtain ⟨f4, d4, E_marks_of⟩ := A_.h_marks_of
  have G_marks_of : FnOk P w K mg base CX0 2 f4 d4 P_marks_of (spP K S_marks_of) := ok_marks_of E_marks_of A_ T xs
  refine F.fn.okX sc_mixture_of (fun vs H Q E h => spX_len len_mixture_of h) (fun cdv A outer s H vs Q E hr h => ?_)
  refine ⟨_, (pss_cons (ps_if (PT.nox (pt_not (pt_val (pe_call G_is_even (hr.mono (by decide)) rfl E_is_even.mg E_is_even.fn.kp E_is_even.bd .nil pass0 (pa_cons (pv 0) pa_nil))))) (pss_one (ps_raise (xs.o_NotEven.own xs.m_NotEven) PySem.F.excBase_ValueError rfl rfl raise_x (pa_cons pe_str pa_nil))) pss_nil)
      (PSs.nox (pss_cons (ps_set (i := 1) sc_mixture_of.nd rfl (by first | exact Or.inl rfl | exact Or.inr rfl) (pe_call G_copied_table (hr.mono (by decide)) rfl E_copied_table.mg E_copied_table.fn.kp E_copied_table.bd .nil pass0 (pa_cons (pv 0) pa_nil)))
      (pss_cons (ps_set (i := 2) sc_mixture_of.nd rfl (by first | exact Or.inl rfl | exact Or.inr rfl) (pe_lst pa_nil))
      (pss_cons (ps_while PassesOwn.never (pt_cmpR op_gt (pe_callB (call_sumK (K := K) rfl rfl) (by rfl) T.sum_ boot_sum (pa_cons (pe_ix (ix_listK (K := K) rfl) (pv 1) pe_int (fun _ _ => rfl)) pa_nil)) pe_int (nomark _)) (pss_cons (ps_set (i := 3) sc_mixture_of.nd rfl (by first | exact Or.inl rfl | exact Or.inr rfl) (pe_ix (ix_tupK (K := K) rfl) (pe_call G_dealing_in (hr.mono (by decide)) rfl E_dealing_in.mg E_dealing_in.fn.kp E_dealing_in.bd .nil pass0 (pa_cons (pe_call G_marks_of (hr.mono (by decide)) rfl E_marks_of.mg E_marks_of.fn.kp E_marks_of.bd .nil pass0 (pa_cons (pv 1) pa_nil)) pa_nil)) pe_int (fun _ _ => rfl)))
      (pss_cons (ps_set (i := 4) sc_mixture_of.nd rfl (by first | exact Or.inl rfl | exact Or.inr rfl) (pe_callB (call_minL (K := K) rfl rfl) (by rfl) T.min_ boot_min (pa_cons (pe_comp0 (CompScope.of (sc0 := (defScope s_mixture_of)) (tn := ["row"]) (cap := ["left", "dealing"]) (idx := [1, 3]) (by decide +kernel) rfl rfl) (pi_range1 rfl T.range_ (pa_cons (pe_callB (call_lenK (K := K) rfl) (by rfl) T.len_ PySem.boot_len (pa_cons (pv 1) pa_nil)) pa_nil)) (GSet.name (by decide)) (fun _ _ _ _ _ => pg_name (i := 0) (nodupB_iff (l := ["row", "left", "dealing"]) (by decide +kernel)) rfl (by first | exact Or.inl rfl | exact Or.inr rfl) (by first | exact .inl rfl | exact .inr rfl)) (fun _ _ _ _ _ => (pe_ix (ix_listK (K := K) rfl) (pe_ix (ix_listK (K := K) rfl) (pv 1) (pv 0) (fun _ _ => rfl)) (pe_ix (ix_listK (K := K) rfl) (pv 2) (pv 0) (fun _ _ => rfl)) (fun _ _ => rfl)))) pa_nil)))
      (pss_cons (ps_expr (pe_call G_add_dealing (hr.mono (by decide)) rfl E_add_dealing.mg E_add_dealing.fn.kp E_add_dealing.bd .nil pass0 (pa_cons (pv 1) (pa_cons (pe_un un_neg (pv 4)) (pa_cons (pv 3) pa_nil)))))
      (pss_one (ps_expr (pe_bm PySem.F.plainAttrs_list PySem.F.slot_list_append PySem.F.type_list_append mt_append (pv 2) (pa_cons (pe_tup (pa_cons (pv 4) (pa_cons (pv 3) pa_nil))) pa_nil))))))))
      (pss_one (ps_ret (pv 2)))))))), fn_valX (Γn := [2, 1]) (N := N_mixture_of) (fun R => (sx_seq (sx_if (tr_not (tr_b (EM.er (em_call (S := S_is_even) mono_is_even (ar_cons (ES.er (es_var 0)) ar_nil))))) (sx_raise (ar_cons (EM.er em_str) ar_nil)) (ST.sx st_next))
      (ST.sx (st_seq (ST.post (Γn := [1]) (st_setM (M := []) 1 (em_call (S := S_copied_table) mono_copied_table (ar_cons (ES.er (es_var 0)) ar_nil))))
      (st_seq (ST.post (Γn := [2, 1]) (st_setM (M := []) 2 (em_lst am_nil)))
      (st_seq (st_while (tr_test (EM.er (em_op o_bl (EM.er (em_cb c_sum (ar_cons (er_ixL (er_var 1) (EM.er em_int)) ar_nil))) (EM.er em_int)))) (st_seq (ST.post (Γn := [3, 2, 1]) (st_setM (M := []) 3 (em_ixT (em_call (S := S_dealing_in) mono_dealing_in (ar_cons (EM.er (em_call (S := S_marks_of) mono_marks_of (ar_cons (er_var 1) ar_nil))) ar_nil)) (EM.er em_int))))
      (st_seq (ST.post (Γn := [3, 2, 1]) (st_setS 4 (EM.es (em_cb c_minL (ar_cons (EM.er (em_comp0 (it_rng1 (ar_cons (EM.er (em_cb c_len (ar_cons (ES.er (es_var 1)) ar_nil))) ar_nil)) (gt_name 0) (ER.scal (ES.er (es_ixL (es_ixL (es_var 1) (ES.er (es_var 0))) (ES.er (es_ixL (es_var 2) (ES.er (es_var 0))))))))) ar_nil)))))
      (st_seq (ST0.st (st0_callI 1 0 mono_add_dealing (ai_here 1 (ax_cons (ex_es (EM.es (em_un u_int (ES.er (es_var 4))))) (ax_cons (ex_var 3) ax_nil)))))
      (ST.post (Γn := [2, 1]) (st_append (M := [3]) 2 (em_tup (am_cons (ER.scal (ES.er (es_var 4))) (am_cons (em_var 3) am_nil)))))))))
      (st_ret (M := [2]) (em_var 2)))))))) (fun ds P R hS => ?_) h⟩
  obtain ⟨t, n, m, rfl, hR, n1, n9, m1, m9, hP, hX⟩ := hS
  rw [show startD N_mixture_of [dT t] = [some (dT t), none, none, none, none] from rfl]
  walk_at "v"
  refine ⟨t, n, m, rfl, hR, n1, n9, m1, m9, fun bb hbb => ?_⟩
  by_cases hev : EvenT n m t
  case neg =>
    have hb0 : bb = false := by
      cases bb with
      | false => rfl
      | true => exact absurd (hbb.mp rfl) hev
    subst hb0
    walk_at "v"
    exact ⟨by decide, hX hev⟩
  obtain rfl : n = m := hev.1
  replace hP := hP hev
  obtain ⟨n8, b, hb, hE, hP⟩ := hP
  have hR := hE.rect
  have hl := hR.1
  rw [hbb.mpr hev]
  walk_at "go"
  refine ⟨t, rfl, by omega, ?_⟩
  walk_at "go"
  have sumB : ∀ {L : List (List Int)} {c : Int}, Bir.Ev n L c → (rowAt L 0).sum = c := fun {L c} h => by
    rw [Bir.sum_S (h.rect.row (by omega)), ← h.row 0 (by omega)]
  refine ⟨fun m δ => ∃ (Lf : List (List Int)) (c : Int) (qs : List Bir.Qd) (o3 o4 : Option D), m = c.toNat ∧ δ = [some (dT t), some (dT Lf), some (.lst ((qs.map Bir.prOf).map dPr)), o3, o4] ∧ Bir.Mo n t Lf c qs ∧ 0 ≤ c ∧ (c = b ∨ 1 ≤ qs.length), ⟨b.toNat, t, b, [], none, none, rfl, rfl, ⟨hE, fun q h => (nomatch h), List.Pairwise.nil, fun k j _ _ => by simp⟩, by omega, .inl rfl⟩, ?_⟩
  rintro m δ ⟨Lf, c, qs, o3, o4, rfl, rfl, hM, hc0, hcb⟩
  have hEL := hM.ev
  have hRL := hEL.rect
  have hlL := hRL.1
  have hs0 := sumB hEL
  have hfew := hM.few n1
  have hn2 : (n - 1) * (n - 1) ≤ 7 * 7 := Nat.mul_le_mul (by omega) (by omega)
  walk_at "v"
  refine asO_rows (by omega) ?_
  walk_at "v"
  rw [hs0]
  split
  · rename_i hc
    refine ⟨Lf, rfl, by omega, fun r hr => by rw [hRL.2 r hr]; omega, ?_⟩
    have hRm : Rect n n (Lf.map fun r => r.map mk1) := ⟨by rw [List.length_map]; exact hlL, fun r hr => by obtain ⟨r', hr', rfl⟩ := List.mem_map.mp hr; rw [List.length_map]; exact hRL.2 r' hr'⟩
    have hmk : ∀ i j : Nat, i < n → j < n → (MkT (Lf.map fun r => r.map mk1) i j ↔ 0 < cellAt Lf i j) := fun i j hi hj => by
      unfold MkT
      rw [cell_map hRL hi hj]
      unfold mk1
      split
      · exact ⟨fun _ => by assumption, fun _ => rfl⟩
      · exact ⟨fun z => (by cases z), fun z => by omega⟩
    refine ⟨_, n, rfl, hRm, n1, n8, fun p hp => ?_, fun s hs => ?_⟩
    case refine_2 =>
      exfalso
      refine Bir.ev_no_short (s := s) hEL (by omega) ⟨hs.ne, hs.up, hs.lt, ?_⟩
      obtain ⟨ks, a1, a2, a3⟩ := hs.few
      exact ⟨ks, a1, a2, fun r hr c hc hm => a3 r hr c hc ((hmk r c (hs.lt r hr) hc).mpr hm)⟩
    have hL : Mat.Lies n (fun i c => 0 < cellAt Lf i c) p := ⟨hp.len, fun i c e => by
      have hi : i < n := by rw [← hp.len]; exact (List.getElem?_eq_some_iff.mp e).1
      obtain ⟨h1, h2⟩ := hp.ok i c e
      exact ⟨h1, (hmk i c hi h1).mp h2⟩, hp.nd⟩
    have hpl := hp.len
    have hPm := Bir.Pm.of_lies hL
    walk_at "go"
    refine comp_rng (lo := 0) (n := n) (g := fun (i : Nat) => .int (cellAt Lf i (p.getD i 0))) (fun R h => ?_) (by omega) (fun i hi R h => ?_) ?_
    · walk_at "v"; rw [hlL]; exact ⟨by omega, h⟩
    · obtain ⟨x, ex⟩ : ∃ x, p[i]? = some x := ⟨_, List.getElem?_eq_getElem (by omega)⟩
      have hx := hPm.lt i x ex
      have e : p.getD i 0 = x := by rw [List.getD_eq_getElem?_getD, ex]; rfl
      rw [e] at h
      have hrow := hRL.row hi
      walk_at "gb"
      rw [Int.zero_add]
      refine asO_rows (by omega) ?_
      rw [Int.toNat_natCast]
      walk_at "gb"
      refine asO_N ex ?_
      refine asO_ints (by omega) ?_
      rw [Int.toNat_natCast]
      walk_at "gb"
      exact h
    rw [map_int]
    walk_at "go"
    refine ⟨by rw [List.length_range]; omega, fun w hw1 hw2 => ?_⟩
    obtain ⟨i0, hi0, ew⟩ := List.mem_map.mp hw1
    have hi0' := List.mem_range.mp hi0
    obtain ⟨x0, ex0⟩ : ∃ x, p[i0]? = some x := ⟨_, List.getElem?_eq_getElem (by omega)⟩
    have e0 : p.getD i0 0 = x0 := by rw [List.getD_eq_getElem?_getD, ex0]; rfl
    rw [e0] at ew
    have hwall : ∀ i c : Nat, p[i]? = some c → w ≤ cellAt Lf i c := fun i c e => by
      have hi : i < n := by rw [← hpl]; exact (List.getElem?_eq_some_iff.mp e).1
      refine hw2 _ (List.mem_map.mpr ⟨i, List.mem_range.mpr hi, ?_⟩)
      rw [List.getD_eq_getElem?_getD, e]; rfl
    have hwpos : 0 < w := by rw [← ew]; exact (hL.ok i0 x0 ex0).2
    walk_at "go"
    refine ⟨Lf, n, -w, _, rfl, hRL, n8, hPm.perm, fun u hU hcu => ?_⟩
    have hcu' : ∀ k j : Nat, k < n → j < n → cellAt u k j = cellAt Lf k j - if p[k]? = some j then w else 0 := fun k j hk hj => by
      rw [hcu k j hk hj]
      by_cases z : p[k]? = some j
      · rw [if_pos z, if_pos ((Bir.getD_cast (by omega)).mpr z)]; omega
      · rw [if_neg z, if_neg fun y => z ((Bir.getD_cast (by omega)).mp y)]; omega
    obtain ⟨r, x, hM'⟩ := hM.step hL ⟨i0, x0, ex0, ew⟩ hwall hU hcu'
    have hcw : 0 ≤ c - w := by
      have := Bir.S_nonneg (m := n) (f := cellAt u 0) fun j hj => hM'.ev.nn 0 j (by omega) hj
      rw [hM'.ev.row 0 (by omega)] at this
      exact this
    walk_at "go"
    refine ⟨(c - w).toNat, by omega, u, c - w, qs ++ [(w, p, r, x)], none, some (.int w), rfl, ?_, hM', hcw, .inr (by rw [List.length_append]; simp)⟩
    rw [List.map_append, List.map_append]
    rfl
  · rename_i hc
    have hc' : c = 0 := by omega
    subst hc'
    walk_at "v"
    exact hP qs ⟨by omega, hfew, fun q hq => ⟨(hM.ok q hq).1, (hM.ok q hq).2.1⟩, hM.apart, hM.tab hR⟩
def S_law_cell_at : DSp := fun ds P => ∃ (ns : List Int) (j : Nat), ds = [.scr ns, .int j] ∧ P (.int (ns.getD j 0))
theorem cell_at {ns : List Int} {x : Int} {P : DK} (h0 : 0 ≤ x) (h : P (.int (ns.getD x.toNat 0))) : S_law_cell_at [.scr ns, .int x] P := ⟨ns, x.toNat, by rw [Int.toNat_of_nonneg h0], h⟩
theorem mono_law_cell_at : DMono S_law_cell_at := by
  intro xs P P' k h
  unfold S_law_cell_at at h ⊢
  grind
theorem len_law_cell_at : ∀ ds P, S_law_cell_at ds P → ds.length = 2 := by
  intro ds P h
  obtain ⟨_, _, e, _⟩ := h
  rw [e]; rfl
theorem ok_law_cell_at {f : Addr} {fd : FuncData} (F : FnAt K mg "_law_cell_at" s_law_cell_at P_law_cell_at f fd) (A_ : Fns K mg) (T : Txt K mg) {c : Cs} (xs : Exs K mg base c) : FnOk P w K mg base CX0 1 f fd P_law_cell_at (spP K S_law_cell_at) := by
  refine F.fn.ok sc_law_cell_at (fun vs H Q E h => spP_len len_law_cell_at h) (fun cdv A outer s H vs Q E hr h => ?_)
  refine ⟨_, (pss_cons (ps_if (pt_cmpR op_lt (pv 1) (pe_callB (call_lenK (K := K) rfl) (by rfl) T.len_ PySem.boot_len (pa_cons (pv 0) pa_nil)) (nomark _)) (pss_one (ps_ret (pe_ix (ix_listK (K := K) rfl) (pv 0) (pv 1) (fun _ _ => rfl)))) pss_nil)
      (pss_one (ps_ret pe_int))), fn_val (Γn := []) (N := N_law_cell_at) (st_seq (st_if (tr_test (EM.er (em_op o_bl (ES.er (es_var 1)) (EM.er (em_cb c_len (ar_cons (ES.er (es_var 0)) ar_nil)))))) (st_ret (M := []) (ER.scal (ES.er (es_ixL (es_var 0) (ES.er (es_var 1)))))) st_next)
      (st_ret (M := []) em_int)) (fun ds P hS => ?_) h⟩
  obtain ⟨ns, j, rfl, hP⟩ := hS
  rw [show startD N_law_cell_at [.scr ns, .int j] = [some (.scr ns), some (.int j)] from rfl]
  walk_at "v"
  split
  · rename_i c
    rw [at_dI (by omega) c, asO_some, Int.toNat_natCast]
    exact ⟨rfl, hP⟩
  · rename_i c
    have e : ns.getD j 0 = 0 := by rw [List.getD_eq_getElem?_getD, List.getElem?_eq_none (by omega)]; rfl
    rw [e] at hP
    exact hP
def S_law_size : DSp := fun ds P => ∃ ns, ds = [.scr ns] ∧ ns.length ≤ 63 ∧ ∀ n : Nat, 1 ≤ n → n ≤ 8 → P (.int n)
theorem size_at {ns : List Int} {P : DK} : ∀ {i : Nat}, (∀ n ∈ ns, 1 ≤ n ∧ n ≤ 8) → i < ns.length → (∀ n : Nat, 1 ≤ n → n ≤ 8 → P (.int n)) → P (.int (ns.getD i 0)) := fun {i} h hi k => by
  rw [List.getD_eq_getElem?_getD, List.getElem?_eq_getElem hi, Option.getD_some]
  obtain ⟨h1, h2⟩ := h _ (List.getElem_mem hi)
  have := k (ns[i]).toNat (by omega) (by omega)
  rwa [Int.toNat_of_nonneg (by omega)] at this
theorem mono_law_size : DMono S_law_size := by
  intro xs P P' k h
  unfold S_law_size at h ⊢
  grind
theorem len_law_size : ∀ ds P, S_law_size ds P → ds.length = 1 := by
  intro ds P h
  obtain ⟨_, e, _⟩ := h
  rw [e]; rfl
theorem ok_law_size {f : Addr} {fd : FuncData} (F : FnAt K mg "_law_size" s_law_size P_law_size f fd) (A_ : Fns K mg) (T : Txt K mg) {c : Cs} (xs : Exs K mg base c) : FnOk P w K mg base CX0 2 f fd P_law_size (spP K S_law_size) := by
  obtain ⟨f0, d0, E_law_cell_at⟩ := A_.h_law_cell_at
  have G_law_cell_at : FnOk P w K mg base CX0 1 f0 d0 P_law_cell_at (spP K S_law_cell_at) := ok_law_cell_at E_law_cell_at A_ T xs
  refine F.fn.ok sc_law_size (fun vs H Q E h => spP_len len_law_size h) (fun cdv A outer s H vs Q E hr h => ?_)
  refine ⟨_, (pss_cons (ps_set (i := 1) sc_law_size.nd rfl (by first | exact Or.inl rfl | exact Or.inr rfl) (pe_call G_law_cell_at (hr.mono (by decide)) rfl E_law_cell_at.mg E_law_cell_at.fn.kp E_law_cell_at.bd .nil pass0 (pa_cons (pv 0) (pa_cons pe_int pa_nil))))
      (pss_cons (ps_if (pt_cmpR op_eq (pe_op op_mod (pe_op op_fdivB (pv 1) pe_int) pe_int) pe_int (nomark _)) (pss_one (ps_ret (pe_op op_add pe_int (pe_op op_mod (pe_op op_fdivB (pv 1) pe_int) pe_int)))) pss_nil)
      (pss_one (ps_ret (pe_ix (ix_listK (K := K) rfl) (pe_lst (pa_consts (ns := [3, 2, 4, 5, 1, 6, 4, 3]) rfl)) (pe_op op_mod (pv 1) pe_int) (fun _ _ => rfl)))))), fn_val (Γn := []) (N := N_law_size) (st_seq (ST.post (Γn := []) (st_setS 1 (EM.es (em_call (S := S_law_cell_at) mono_law_cell_at (ar_cons (ES.er (es_var 0)) (ar_cons (EM.er em_int) ar_nil))))))
      (st_seq (st_if (tr_test (EM.er (em_op o_eq (EM.er (em_op o_intC (EM.er (em_op o_intC (ES.er (es_var 1)) (EM.er em_int))) (EM.er em_int))) (EM.er em_int)))) (st_ret (M := []) (em_op o_int (EM.er em_int) (EM.er (em_op o_intC (EM.er (em_op o_intC (ES.er (es_var 1)) (EM.er em_int))) (EM.er em_int))))) st_next)
      (st_ret (M := []) (ER.scal (ES.er (es_ixL (EM.es (em_lst am_consts)) (EM.er (em_op o_intC (ES.er (es_var 1)) (EM.er em_int))))))))) (fun ds P hS => ?_) h⟩
  obtain ⟨ns, rfl, hz, hP⟩ := hS
  rw [show startD N_law_size [.scr ns] = [some (.scr ns), none] from rfl]
  walk_at "v"
  refine cell_at (by omega) ?_
  walk_at "go"
  split
  · walk_at "go"
    have h := emod_lt (x := ns.getD 0 0 / 128) (n := 2) (by omega)
    have := hP (7 + ns.getD 0 0 / 128 % 2).toNat (by omega) (by omega)
    rwa [Int.toNat_of_nonneg (by omega)] at this
  · walk_at "go"
    have h := emod_lt (x := ns.getD 0 0) (n := 8) (by omega)
    refine asO_ints (by simp only [List.length_cons, List.length_nil]; omega) ?_
    exact ⟨rfl, size_at (by decide) (by simp only [List.length_cons, List.length_nil]; omega) hP⟩
def S_law_dealing : DSp := fun ds P => ∃ (x : Int) (n : Nat), ds = [.int x, .int n] ∧ n ≤ 8 ∧ ∀ p : List Int, p.Perm (rngI n) → P (dI p)
theorem mono_law_dealing : DMono S_law_dealing := by
  intro xs P P' k h
  unfold S_law_dealing at h ⊢
  grind
theorem len_law_dealing : ∀ ds P, S_law_dealing ds P → ds.length = 2 := by
  intro ds P h
  obtain ⟨_, _, e, _⟩ := h
  rw [e]; rfl
theorem ok_law_dealing {f : Addr} {fd : FuncData} (F : FnAt K mg "_law_dealing" s_law_dealing P_law_dealing f fd) (A_ : Fns K mg) (T : Txt K mg) {c : Cs} (xs : Exs K mg base c) : FnOk P w K mg base CX0 1 f fd P_law_dealing (spP K S_law_dealing) := by
  refine F.fn.ok sc_law_dealing (fun vs H Q E h => spP_len len_law_dealing h) (fun cdv A outer s H vs Q E hr h => ?_)
  refine ⟨_, (pss_cons (ps_set (i := 2) sc_law_dealing.nd rfl (by first | exact Or.inl rfl | exact Or.inr rfl) (pe_listRngK rfl rfl T.list_ rfl T.range_ (pv 1)))
      (pss_cons (ps_set (i := 3) sc_law_dealing.nd rfl (by first | exact Or.inl rfl | exact Or.inr rfl) (pe_lst pa_nil))
      (pss_cons (ps_while PassesOwn.never (pt_cmpR op_gt (pe_callB (call_lenK (K := K) rfl) (by rfl) T.len_ PySem.boot_len (pa_cons (pv 2) pa_nil)) pe_int (nomark _)) (pss_cons (ps_expr (pe_bm PySem.F.plainAttrs_list PySem.F.slot_list_append PySem.F.type_list_append mt_append (pv 3) (pa_cons (pe_bm PySem.F.plainAttrs_list PySem.F.slot_list_pop PySem.F.type_list_pop mt_popAt (pv 2) (pa_cons (pe_op op_mod (pv 0) (pe_callB (call_lenK (K := K) rfl) (by rfl) T.len_ PySem.boot_len (pa_cons (pv 2) pa_nil))) pa_nil)) pa_nil)))
      (pss_one (ps_set (i := 0) sc_law_dealing.nd rfl (by first | exact Or.inl rfl | exact Or.inr rfl) (pe_op op_fdivB (pv 0) (pe_op op_add (pe_callB (call_lenK (K := K) rfl) (by rfl) T.len_ PySem.boot_len (pa_cons (pv 2) pa_nil)) pe_int))))))
      (pss_one (ps_ret (pv 3)))))), fn_val (Γn := [3, 2]) (N := N_law_dealing) (st_seq (ST.post (Γn := [2]) (st_setM (M := []) 2 (em_listRng (ES.er (es_var 1)))))
      (st_seq (ST.post (Γn := [3, 2]) (st_setM (M := []) 3 (em_lst am_nil)))
      (st_seq (st_while (tr_test (EM.er (em_op o_bl (EM.er (em_cb c_len (ar_cons (er_var 2) ar_nil))) (EM.er em_int)))) (st_seq (st_appPop 3 2 (EM.er (em_op o_intC (ES.er (es_var 0)) (EM.er (em_cb c_len (ar_cons (er_var 2) ar_nil))))))
      (ST.post (Γn := [3, 2]) (st_setS 0 (EM.es (em_op o_intC (ES.er (es_var 0)) (EM.er (em_op o_int (EM.er (em_cb c_len (ar_cons (er_var 2) ar_nil))) (EM.er em_int)))))))))
      (st_ret (M := [3]) (em_var 3))))) (fun ds P hS => ?_) h⟩
  obtain ⟨x, n, rfl, hn, hP⟩ := hS
  rw [show startD N_law_dealing [.int x, .int n] = [some (.int x), some (.int n), none, none] from rfl]
  have hlr : (rngI n).length = n := by unfold rngI; rw [List.length_map, List.length_range]
  walk_at "go"
  refine ⟨fun m δ => ∃ (x : Int) (left found : List Int), δ = [some (.int x), some (.int n), some (dI left), some (dI found)] ∧ left.length = m ∧ m ≤ 8 ∧ found.length ≤ 8 ∧ (found ++ left).Perm (rngI n), ⟨n, x, rngI n, [], rfl, hlr, hn, by simp, by simp⟩, ?_⟩
  rintro m δ ⟨x, left, found, rfl, hm, hm8, hf, hp⟩
  have hlp := hp.length_eq
  rw [List.length_append, hlr] at hlp
  walk_at "v"
  split
  · rename_i c
    walk_at "go"
    have h := emod_lt (x := x) (n := (left.length : Int)) (by omega)
    refine ⟨⟨by omega, scal_ints, by omega, by omega⟩, ?_⟩
    rw [get_dI (by omega), asO_some]
    walk_at "go"
    have hlt : (x % (left.length : Int)).toNat < left.length := by omega
    have he : ((left.eraseIdx (x % (left.length : Int)).toNat).length : Int) = (left.length : Int) - 1 := by rw [List.length_eraseIdx_of_lt hlt]; omega
    rw [snoc_dI, map_eraseIdx]
    walk_at "go"
    rw [he]
    refine ⟨left.length - 1, by omega, _, _, _, rfl, by rw [List.length_eraseIdx_of_lt hlt], by omega, by rw [List.length_append, List.length_singleton]; omega, ?_⟩
    refine List.Perm.trans ?_ hp
    rw [List.append_assoc, List.singleton_append]
    refine List.Perm.append_left _ ?_
    rw [List.getD_eq_getElem?_getD, List.getElem?_eq_getElem hlt, Option.getD_some]
    exact erase_perm left _ hlt
  · rename_i c
    walk_at "v"
    have e : left = [] := List.length_eq_zero_iff.mp (by omega)
    subst e
    rw [List.append_nil] at hp
    exact hP found hp
abbrev dP (q : Int × List Int) : D := .tup [.int q.1, dI q.2]
def S_law_dealt : DSp := fun ds P => ∃ (ns : List Int) (n : Nat), ds = [.scr ns, .int n] ∧ ns.length ≤ 63 ∧ n ≤ 8 ∧ ∀ prs : List (Int × List Int), 1 ≤ prs.length → prs.length ≤ 63 → (∀ q ∈ prs, 1 ≤ q.1 ∧ q.1 ≤ 10 ^ 12 ∧ q.2.Perm (rngI n)) → P (.lst (prs.map dP))
theorem mono_law_dealt : DMono S_law_dealt := by
  intro xs P P' k h
  unfold S_law_dealt at h ⊢
  grind
theorem len_law_dealt : ∀ ds P, S_law_dealt ds P → ds.length = 2 := by
  intro ds P h
  obtain ⟨_, _, e, _⟩ := h
  rw [e]; rfl
theorem ok_law_dealt {f : Addr} {fd : FuncData} (F : FnAt K mg "_law_dealt" s_law_dealt P_law_dealt f fd) (A_ : Fns K mg) (T : Txt K mg) {c : Cs} (xs : Exs K mg base c) : FnOk P w K mg base CX0 2 f fd P_law_dealt (spP K S_law_dealt) := by
  obtain ⟨f0, d0, E_law_cell_at⟩ := A_.h_law_cell_at
  have G_law_cell_at : FnOk P w K mg base CX0 1 f0 d0 P_law_cell_at (spP K S_law_cell_at) := ok_law_cell_at E_law_cell_at A_ T xs
  obtain ⟨f1, d1, E_law_dealing⟩ := A_.h_law_dealing
  have G_law_dealing : FnOk P w K mg base CX0 1 f1 d1 P_law_dealing (spP K S_law_dealing) := ok_law_dealing E_law_dealing A_ T xs
  refine F.fn.ok sc_law_dealt (fun vs H Q E h => spP_len len_law_dealt h) (fun cdv A outer s H vs Q E hr h => ?_)
  refine ⟨_, (pss_cons (ps_set (i := 2) sc_law_dealt.nd rfl (by first | exact Or.inl rfl | exact Or.inr rfl) (pe_lst pa_nil))
      (pss_cons (ps_set (i := 3) sc_law_dealt.nd rfl (by first | exact Or.inl rfl | exact Or.inr rfl) (pe_slice (sl_listK (K := K) rfl) (pv 0) (po_some pe_int) (po_some pe_int)))
      (pss_cons (ps_if (pt_cmpR op_eq (pe_callB (call_lenK (K := K) rfl) (by rfl) T.len_ PySem.boot_len (pa_cons (pv 3) pa_nil)) pe_int (nomark _)) (pss_one (ps_set (i := 3) sc_law_dealt.nd rfl (by first | exact Or.inl rfl | exact Or.inr rfl) (pe_lst (pa_cons (pe_call G_law_cell_at (hr.mono (by decide)) rfl E_law_cell_at.mg E_law_cell_at.fn.kp E_law_cell_at.bd .nil pass0 (pa_cons (pv 0) (pa_cons pe_int pa_nil))) pa_nil)))) pss_nil)
      (pss_cons (ps_for PassesOwn.never rfl (pi_listK (K := K) rfl (pv 3)) (pg_name (i := 4) sc_law_dealt.nd rfl (by first | exact Or.inl rfl | exact Or.inr rfl)) (pss_cons (ps_set (i := 5) sc_law_dealt.nd rfl (by first | exact Or.inl rfl | exact Or.inr rfl) (pe_op op_mod (pv 4) (pe_op op_pow pe_int pe_int)))
      (pss_one (ps_expr (pe_bm PySem.F.plainAttrs_list PySem.F.slot_list_append PySem.F.type_list_append mt_append (pv 2) (pa_cons (pe_tup (pa_cons (pe_op op_add pe_int (pe_op op_mod (pe_op op_fdivB (pv 5) pe_int) (pe_op op_pow pe_int pe_int))) (pa_cons (pe_call G_law_dealing (hr.mono (by decide)) rfl E_law_dealing.mg E_law_dealing.fn.kp E_law_dealing.bd .nil pass0 (pa_cons (pv 5) (pa_cons (pv 1) pa_nil))) pa_nil))) pa_nil))))))
      (pss_one (ps_ret (pv 2))))))), fn_val (Γn := [2]) (N := N_law_dealt) (st_seq (ST.post (Γn := [2]) (st_setM (M := []) 2 (em_lst am_nil)))
      (st_seq (ST.post (Γn := [2]) (st_setS 3 (EM.es (em_sl (ES.er (es_var 0)) (or_some (EM.er em_int)) (or_some (EM.er em_int))))))
      (st_seq (st_if (tr_test (EM.er (em_op o_eq (EM.er (em_cb c_len (ar_cons (ES.er (es_var 3)) ar_nil))) (EM.er em_int)))) (ST.post (Γn := [2]) (st_setS 3 (EM.es (em_lst (am_cons0 (em_call (S := S_law_cell_at) mono_law_cell_at (ar_cons (ES.er (es_var 0)) (ar_cons (EM.er em_int) ar_nil))) am_nil))))) st_next)
      (st_seq (st_for (it_list (es_var 3)) (gt_name 4) (st_seq (ST.post (Γn := [2]) (st_setS 5 (EM.es (em_op o_intC (ES.er (es_var 4)) (EM.er (em_op o_intC (EM.er em_int) (EM.er em_int)))))))
      (ST.post (Γn := [2]) (st_append (M := []) 2 (em_tup (am_cons0 (em_op o_int (EM.er em_int) (EM.er (em_op o_intC (EM.er (em_op o_intC (ES.er (es_var 5)) (EM.er em_int))) (EM.er (em_op o_intC (EM.er em_int) (EM.er em_int)))))) (am_cons0 (em_call (S := S_law_dealing) mono_law_dealing (ar_cons (ES.er (es_var 5)) (ar_cons (ES.er (es_var 1)) ar_nil))) am_nil)))))))
      (st_ret (M := [2]) (em_var 2)))))) (fun ds P hS => ?_) h⟩
  obtain ⟨ns, n, rfl, hz, hn, hP⟩ := hS
  rw [show startD N_law_dealt [.scr ns, .int n] = [some (.scr ns), some (.int n), none, none, none, none] from rfl]
  walk_at "go"
  obtain ⟨cs, ec, hc⟩ := cut_ints (ns := ns) (lo := some 1) (hi := some 63)
  have hcl : cs.length ≤ 63 := by rw [hc, List.length_take, List.length_drop]; omega
  rw [ec]
  have fin : ∀ (ms : List Int) (E : DEnds) (o : Option D), 1 ≤ ms.length → ms.length ≤ 63 → (∀ (δ : Dl) (prs : List (Int × List Int)), prs.length = ms.length → (∀ q ∈ prs, 1 ≤ q.1 ∧ q.1 ≤ 10 ^ 12 ∧ q.2.Perm (rngI n)) → (∃ o4 o5, δ = [some (.scr ns), some (.int n), some (.lst (prs.map dP)), o, o4, o5]) → E.nx δ) →
      vLoop (vgName 4) (vSeq (vSet 5 (vOp (vI (fun _ j => 0 < j) fun i j => L3.D.int (i % j)) (vVar 4) (vOp (vI CPow fun i j => L3.D.int (i ^ j.toNat)) (vC (.int 10)) (vC (.int 18))))) (vAppend [] 2 (vTup (vCons (vOp (vI0 fun i j => L3.D.int (i + j)) (vC (.int 1)) (vOp (vI (fun _ j => 0 < j) fun i j => L3.D.int (i % j)) (vOp (vI CDivB fun i j => L3.D.int (i / j)) (vVar 5) (vC (.int 40320))) (vOp (vI CPow fun i j => L3.D.int (i ^ j.toNat)) (vC (.int 10)) (vC (.int 12))))) (vCons (vCall S_law_dealing (vCons (vVar 5) (vCons (vVar 1) vNil))) vNil))))) E (ms.map L3.D.int) [some (.scr ns), some (.int n), some (.lst []), o, none, none] := by
    intro ms E o h1 h63 hE
    refine loop_any (as := ms) (f := L3.D.int) (fun i δ => ∃ (prs : List (Int × List Int)) (o4 o5 : Option D), δ = [some (.scr ns), some (.int n), some (.lst (prs.map dP)), o, o4, o5] ∧ prs.length = i ∧ ∀ q ∈ prs, 1 ≤ q.1 ∧ q.1 ≤ 10 ^ 12 ∧ q.2.Perm (rngI n)) ⟨[], none, none, rfl, rfl, fun q hq => (nomatch hq)⟩ ?_ ?_
    · rintro i a δ N e ⟨prs, o4, o5, rfl, hl, hq⟩ hN
      have hi := (List.getElem?_eq_some_iff.mp e).1
      walk_at "go"
      have h := emod_lt (x := a % 1000000000000000000 / 40320) (n := 1000000000000) (by decide)
      refine ⟨_, n, rfl, hn, fun p hp => ?_⟩
      walk_at "go"
      refine hN _ ⟨prs ++ [(1 + a % 1000000000000000000 / 40320 % 1000000000000, p)], _, _, by rw [List.map_append]; rfl, by rw [List.length_append, hl]; rfl, fun q hq' => ?_⟩
      rcases List.mem_append.mp hq' with z | z
      · exact hq q z
      · cases List.mem_singleton.mp z
        exact ⟨by have := h.1; show 1 ≤ 1 + _; omega, by have := h.2; show 1 + _ ≤ 10 ^ 12; omega, hp⟩
    · rintro δ ⟨prs, o4, o5, rfl, hl, hq⟩
      exact hE _ prs hl hq ⟨o4, o5, rfl⟩
  split
  · rename_i c
    refine cell_at (by omega) ?_
    walk_at "go"
    refine fin [_] _ _ (by simp) (by simp) fun δ prs hl hq hd => ?_
    obtain ⟨o4, o5, rfl⟩ := hd
    walk_at "v"
    exact hP prs (by simp only [List.length_cons, List.length_nil] at hl; omega) (by simp only [List.length_cons, List.length_nil] at hl; omega) hq
  · rename_i c
    walk_at "go"
    rw [List.length_map] at c
    refine fin cs _ _ (by omega) hcl fun δ prs hl hq hd => ?_
    obtain ⟨o4, o5, rfl⟩ := hd
    walk_at "v"
    exact hP prs (by omega) (by omega) hq
def S_law_tops : DSp := fun ds P => ∃ (ps : List (Int × List Int)) (n : Nat), ds = [.lst (ps.map dPr), .int n] ∧ Mix n ps ∧ ∀ t, Tab n ps t → P (dT t)
theorem mono_law_tops : DMono S_law_tops := by
  intro xs P P' k h
  unfold S_law_tops at h ⊢
  grind
theorem len_law_tops : ∀ ds P, S_law_tops ds P → ds.length = 2 := by
  intro ds P h
  obtain ⟨_, _, e, _⟩ := h
  rw [e]; rfl
theorem ok_law_tops {f : Addr} {fd : FuncData} (F : FnAt K mg "_law_tops" s_law_tops P_law_tops f fd) (A_ : Fns K mg) (T : Txt K mg) {c : Cs} (xs : Exs K mg base c) : FnOk P w K mg base CX0 1 f fd P_law_tops (spP K S_law_tops) := by
  refine F.fn.ok sc_law_tops (fun vs H Q E h => spP_len len_law_tops h) (fun cdv A outer s H vs Q E hr h => ?_)
  refine ⟨_, (pss_cons (ps_setC0 (i := 2) (CompScope.of (sc0 := (defScope s_law_tops)) (tn := ["_law_row"]) (cap := ["_law_size_here"]) (idx := [1]) (by decide +kernel) rfl rfl) sc_law_tops.nd rfl (by first | exact Or.inl rfl | exact Or.inr rfl) (pi_range1 rfl T.range_ (pa_cons (pv 1) pa_nil)) (GSet.name (by decide)) (fun _ _ _ _ _ => pg_name (i := 0) (nodupB_iff (l := ["_law_row", "_law_size_here"]) (by decide +kernel)) rfl (by first | exact Or.inl rfl | exact Or.inr rfl) (by first | exact .inl rfl | exact .inr rfl)) (fun _ _ _ _ _ => (pe_op op_rep (pe_lst (pa_cons pe_int pa_nil)) (pv 1))))
      (pss_cons (ps_for PassesOwn.never rfl (pi_listK (K := K) rfl (pv 0)) (pg_tupK (K := K) rfl rfl (pgs_cons (pg_name (i := 3) sc_law_tops.nd rfl (by first | exact Or.inl rfl | exact Or.inr rfl)) (pgs_cons (pg_name (i := 4) sc_law_tops.nd rfl (by first | exact Or.inl rfl | exact Or.inr rfl)) pgs_nil))) (pss_one (ps_for PassesOwn.never rfl (pi_range1 rfl T.range_ (pa_cons (pv 1) pa_nil)) (pg_name (i := 5) sc_law_tops.nd rfl (by first | exact Or.inl rfl | exact Or.inr rfl)) (pss_cons (ps_set (i := 6) sc_law_tops.nd rfl (by first | exact Or.inl rfl | exact Or.inr rfl) (pe_ix (ix_listK (K := K) rfl) (pv 2) (pv 5) (fun _ _ => rfl)))
      (pss_one (ps_augS (pv 6) (pe_ix (ix_listK (K := K) rfl) (pv 4) (pv 5) (fun _ _ => rfl)) (pget_list (K := K) rfl) (pv 3) ip_add set_list))))))
      (pss_one (ps_ret (pv 2))))), fn_val (Γn := [2]) (N := N_law_tops) (st_seq (ST.post (Γn := [2]) (st_setM (M := []) 2 (em_comp0 (it_rng1 (ar_cons (ES.er (es_var 1)) ar_nil)) (gt_name 0) (em_op o_rep (EM.er (em_lst (am_cons0 em_int am_nil))) (ES.er (es_var 1))))))
      (st_seq (st_for (it_list (es_var 0)) (gt_tup (gts_cons (gt_name 3) (gts_cons (gt_name 4) gts_nil))) (st_for (it_rng1 (ar_cons (ES.er (es_var 1)) ar_nil)) (gt_name 5) (st_line 2 6 (ES.er (es_var 5)) (ES.er (es_ixL (es_var 4) (ES.er (es_var 5)))) (ES.er (es_var 3)))))
      (st_ret (M := [2]) (em_var 2)))) (fun ds P hS => ?_) h⟩
  obtain ⟨ps, n, rfl, hM, hP⟩ := hS
  obtain ⟨n1, n8, p1, p2, hq⟩ := id hM
  rw [show startD N_law_tops [.lst (ps.map dPr), .int n] = [some (.lst (ps.map dPr)), some (.int n), none, none, none, none, none] from rfl]
  walk_at "go"
  refine comp_rng (lo := 0) (n := n) (g := fun _ => dI (List.replicate n 0)) (fun R h => ?_) (by omega) (fun i hi R h => ?_) ?_
  · walk_at "go"; exact h
  · walk_at "gb"
    rw [rep_zero]
    exact ⟨⟨rfl, by omega, by omega⟩, h⟩
  rw [map_dI]
  walk_at "go"
  have h0 : Rect n n ((List.range n).map fun _ => List.replicate n (0 : Int)) := ⟨by rw [List.length_map, List.length_range], fun r hr => by
    obtain ⟨_, _, rfl⟩ := List.mem_map.mp hr
    exact List.length_replicate⟩
  have c0 : ∀ k j : Nat, k < n → j < n → cellAt ((List.range n).map fun _ => List.replicate n (0 : Int)) k j = 0 := fun k j hk hj => by
    unfold cellAt
    rw [List.getD_eq_getElem?_getD (l := (List.range n).map _), List.getElem?_map, List.getElem?_range hk, Option.map_some, Option.getD_some, List.getD_eq_getElem?_getD, List.getElem?_replicate, if_pos hj]; rfl
  refine loop_any (as := ps) (f := dPr) (fun i δ => ∃ (t : List (List Int)) (o3 o4 o5 o6 : Option D), δ = [some (.lst (ps.map dPr)), some (.int n), some (dT t), o3, o4, o5, o6] ∧ Tab n (ps.take i) t) ⟨_, none, none, none, none, rfl, h0, fun k j hk hj => by rw [c0 k j hk hj, List.take_zero]; rfl⟩ ?_ ?_
  · rintro i q δ N e ⟨t, o3, o4, o5, o6, rfl, hT⟩ hN
    obtain ⟨hw, hp⟩ := hq q (List.mem_of_getElem? e)
    walk_at "go"
    refine loop_rng (fun x δ => ∃ (u : List (List Int)) (o5 o6 : Option D), δ = [some (.lst (ps.map dPr)), some (.int n), some (dT u), some (.int q.1), some (dI q.2), o5, o6] ∧ Rect n n u ∧ ∀ k j : Nat, k < n → j < n → cellAt u k j = cellAt t k j + if k < x ∧ q.2.getD k 0 = (j : Int) then q.1 else 0) ⟨t, _, _, rfl, hT.1, fun k j _ _ => by simp⟩ ?_ ?_
    · rintro x δ N' hi ⟨u, o5, o6, rfl, hU, hc⟩ hN'
      obtain ⟨p1', p2', p3⟩ := perm_at hp hi
      have hlr := hU.row hi
      have hl1 := hU.1
      obtain ⟨c, ec⟩ : ∃ c : Nat, q.2.getD x 0 = (c : Int) := ⟨(q.2.getD x 0).toNat, by omega⟩
      walk_at "v"
      refine line_tab (t := u) (a := 0 + (x : Int)) (b := (c : Int)) (v := q.1) rfl (fun R h => h) (fun R h => ?_) (fun R h => h) (by simp only [List.length_cons, List.length_nil]; omega) (by omega) (by rw [Int.zero_add, Int.toNat_natCast, hlr]; omega) ?_
      · walk_at "v"
        refine asO_ints (by omega) ?_
        rw [Int.zero_add, Int.toNat_natCast, ec]; exact h
      · rw [Int.zero_add, Int.toNat_natCast, Int.toNat_natCast]
        refine hN' _ ⟨_, _, _, rfl, hU.setCell hi, fun k j hk hj => ?_⟩
        rw [cell_set hU hi (by omega)]
        by_cases z : x = k ∧ c = j
        · obtain ⟨rfl, rfl⟩ := z
          rw [if_pos ⟨rfl, rfl⟩, hc x c hk hj, if_neg (fun z => by omega), if_pos ⟨by omega, ec⟩]
          omega
        · rw [if_neg z, hc k j hk hj]
          congr 1
          by_cases h1 : k < x ∧ q.2.getD k 0 = (j : Int)
          · rw [if_pos h1, if_pos ⟨by omega, h1.2⟩]
          · rw [if_neg h1, if_neg (fun y => ?_)]
            by_cases z1 : k = x
            · subst z1
              rw [ec] at y
              exact z ⟨rfl, by omega⟩
            · exact h1 ⟨by omega, y.2⟩
    · rintro δ ⟨u, o5, o6, rfl, hU, hc⟩
      refine hN _ ⟨u, _, _, _, _, rfl, ?_⟩
      rw [List.take_add_one, e]
      exact hT.snoc hU fun k j hk hj => by rw [hc k j hk hj]; simp [hk]
  · rintro δ ⟨t, o3, o4, o5, o6, rfl, hT⟩
    rw [List.take_length] at hT
    walk_at "v"
    exact hP t hT
def S_law_mixed : DSp := fun ds P => ∃ (ns : List Int) (x : Int), ds = [.scr ns, .int x] ∧ ns.length ≤ 63 ∧ 0 ≤ x ∧ x < 2 ^ 60 ∧ ∀ y : Int, 0 ≤ y → P (.int y)
theorem mono_law_mixed : DMono S_law_mixed := by
  intro xs P P' k h
  unfold S_law_mixed at h ⊢
  grind
theorem len_law_mixed : ∀ ds P, S_law_mixed ds P → ds.length = 2 := by
  intro ds P h
  obtain ⟨_, _, e, _⟩ := h
  rw [e]; rfl
theorem ok_law_mixed {f : Addr} {fd : FuncData} (F : FnAt K mg "_law_mixed" s_law_mixed P_law_mixed f fd) (A_ : Fns K mg) (T : Txt K mg) {c : Cs} (xs : Exs K mg base c) : FnOk P w K mg base CX0 1 f fd P_law_mixed (spP K S_law_mixed) := by
  refine F.fn.ok sc_law_mixed (fun vs H Q E h => spP_len len_law_mixed h) (fun cdv A outer s H vs Q E hr h => ?_)
  refine ⟨_, (pss_cons (ps_for PassesOwn.never rfl (pi_listK (K := K) rfl (pv 0)) (pg_name (i := 2) sc_law_mixed.nd rfl (by first | exact Or.inl rfl | exact Or.inr rfl)) (pss_one (ps_set (i := 1) sc_law_mixed.nd rfl (by first | exact Or.inl rfl | exact Or.inr rfl) (pe_op op_mod (pe_op op_add (pe_op op_mulB (pv 1) pe_int) (pv 2)) (pe_op op_add (pe_op op_pow pe_int pe_int) pe_int)))))
      (pss_one (ps_ret (pv 1)))), fn_val (Γn := []) (N := N_law_mixed) (st_seq (st_for (it_list (es_var 0)) (gt_name 2) (ST.post (Γn := []) (st_setS 1 (EM.es (em_op o_intC (EM.er (em_op o_int (EM.er (em_op o_intC (ES.er (es_var 1)) (EM.er em_int))) (ES.er (es_var 2)))) (EM.er (em_op o_int (EM.er (em_op o_intC (EM.er em_int) (EM.er em_int))) (EM.er em_int))))))))
      (st_ret (M := []) (ER.scal (ES.er (es_var 1))))) (fun ds P hS => ?_) h⟩
  obtain ⟨ns, x, rfl, hz, h0, h1, hP⟩ := hS
  rw [show startD N_law_mixed [.scr ns, .int x] = [some (.scr ns), some (.int x), none] from rfl]
  walk_at "v"
  refine loop_any (as := ns) (f := L3.D.int) (fun i δ => ∃ (y : Int) (o : Option D), δ = [some (.scr ns), some (.int y), o] ∧ 0 ≤ y ∧ y < 2 ^ 60) ⟨x, none, rfl, h0, h1⟩ ?_ ?_
  · rintro i a δ N e ⟨y, o, rfl, h0, h1⟩ hN
    walk_at "go"
    have h := emod_lt (x := y * 48271 + a) (n := 1000000000000000009) (by decide)
    exact hN _ ⟨_, _, rfl, h.1, by have := h.2; omega⟩
  · rintro δ ⟨y, o, rfl, h0, h1⟩
    walk_at "v"
    exact hP y h0
theorem vAugP_in {i j n : Nat} {f : Int → Int → Int} {dx de : DE} {al : Al} {E : DEnds} {δ : Dl} {p : Pth} {d : D} {ns : List Int} {q c : Int} (h1 : al[n]? = some (j, p)) (h2 : δ[i]? = some (some d)) (h3 : δ[j]? = some (some (dI ns)))
    (hx : ∀ R : DK, R (.int q) → dx δ R) (he : ∀ R : DK, R (.int c) → de δ R) (hq : 0 ≤ q ∧ q < ns.length)
    (h : E.nx (refr al p ((ns.set q.toNat (f (ns.getD q.toNat 0) c)).map L3.D.int) (δ.set i (some (pset ((ns.set q.toNat (f (ns.getD q.toNat 0) c)).map L3.D.int) p d))))) : vAugP i j n f dx de al E δ := by
  refine ⟨by unfold isA; rw [h1], hx _ ?_⟩
  refine ⟨hq.1, (slotL_s h3).mpr ?_⟩
  have hl : q.toNat < ns.length := by omega
  rw [show (ns.map L3.D.int)[q.toNat]? = some (.int (ns.getD q.toNat 0)) by rw [List.getElem?_map, List.getElem?_eq_getElem hl, List.getD_eq_getElem?_getD, List.getElem?_eq_getElem hl]; rfl]
  refine he _ ?_
  show vWr i j n al δ (fun es => some (es.set q.toNat (.int (f (ns.getD q.toNat 0) c)))) E.nx
  unfold vWr asA slotX
  rw [h1]
  refine ⟨rfl, ?_⟩
  rw [h2]
  refine (slotL_s h3).mpr ?_
  show ((ns.map L3.D.int).set q.toNat (.int (f (ns.getD q.toNat 0) c))).all L3.D.scal = true ∧ _
  rw [show (ns.map L3.D.int).set q.toNat (.int (f (ns.getD q.toNat 0) c)) = (ns.set q.toNat (f (ns.getD q.toNat 0) c)).map L3.D.int from List.map_set.symm]
  exact ⟨scal_ints, h⟩
theorem refr_2 {j1 j2 i k : Nat} {es : List D} {δ : Dl} (h : k ≠ i) : refr [(j1, .l k), (j2, .l i)] (.l i) es δ = δ.set j2 (some (.lst es)) := by
  have : Pth.l k ≠ Pth.l i := fun z => h (by cases z; rfl)
  simp [refr, this]
theorem refr_1 {j1 j2 i k : Nat} {es : List D} {δ : Dl} (h : k ≠ i) : refr [(j1, .l k), (j2, .l i)] (.l k) es δ = δ.set j1 (some (.lst es)) := by
  have : Pth.l i ≠ Pth.l k := fun z => h (by cases z; rfl)
  simp [refr, this]
theorem pset_dT {t : List (List Int)} {i : Nat} {r : List Int} : pset (r.map L3.D.int) (.l i) (dT t) = dT (t.set i r) := by
  show L3.D.lst ((t.map dI).set i (dI r)) = dT (t.set i r)
  rw [← List.map_set]
theorem row_get {t : List (List Int)} {i : Nat} (h : i < t.length) : (t.map dI)[i]? = some (.lst ((rowAt t i).map L3.D.int)) := by
  rw [List.getElem?_map, List.getElem?_eq_getElem h, rowAt, List.getD_eq_getElem?_getD, List.getElem?_eq_getElem h]
  rfl
theorem rect_set {n m i : Nat} {t : List (List Int)} {r : List Int} (h : Rect n m t) (hr : r.length = m) : Rect n m (t.set i r) := ⟨by rw [List.length_set]; exact h.1, fun q hq => by
  rcases List.mem_or_eq_of_mem_set hq with z | z
  · exact h.2 q z
  · rw [z]; exact hr⟩
theorem getD_set_same {α : Type} {xs : List α} {i : Nat} {v d : α} (h : i < xs.length) : (xs.set i v).getD i d = v := by rw [List.getD_eq_getElem?_getD, List.getElem?_set_self h]; rfl
theorem getD_set_other {α : Type} {xs : List α} {i k : Nat} {v d : α} (h : i ≠ k) : (xs.set i v).getD k d = xs.getD k d := by rw [List.getD_eq_getElem?_getD, List.getElem?_set_ne h, ← List.getD_eq_getElem?_getD]
theorem col_set {t : List (List Int)} {i j : Nat} {r : List Int} : colOf (t.set i r) j = (colOf t j).set i (r.getD j 0) := by unfold colOf; rw [List.map_set]
theorem sum_rep0 : ∀ n : Nat, (List.replicate n (0 : Int)).sum = 0
  | 0 => rfl
  | n + 1 => by rw [List.replicate_succ, List.sum_cons, sum_rep0 n]; rfl
theorem mem_set_self {t : List (List Int)} {i : Nat} {r : List Int} (h : i < t.length) : r ∈ t.set i r := List.mem_of_getElem? (List.getElem?_set_self h)
theorem mem_set_other {t : List (List Int)} {i k : Nat} {r : List Int} (h : k < t.length) (hk : k ≠ i) : rowAt t k ∈ t.set i r := by
  refine List.mem_of_getElem? (i := k) ?_
  rw [List.getElem?_set_ne (Ne.symm hk), rowAt, List.getD_eq_getElem?_getD, List.getElem?_eq_getElem h]
  rfl
def S_law_bad_table : DSp := fun ds P => ∃ (t : List (List Int)) (n : Nat) (x : Int), ds = [dT t, .int x] ∧ 1 ≤ n ∧ n ≤ 8 ∧ EvenT n n t ∧ Rect n n t ∧ 0 ≤ x ∧ ∀ (u : List (List Int)) (n' m' : Nat), Rect n' m' u → 1 ≤ n' → n' ≤ 9 → 1 ≤ m' → m' ≤ 9 → ¬ EvenT n' m' u → P (dT u)
theorem mono_law_bad_table : DMono S_law_bad_table := by
  intro xs P P' k h
  obtain ⟨t, n, x, e, h1, h2, h3, h4, h5, h6⟩ := h
  exact ⟨t, n, x, e, h1, h2, h3, h4, h5, fun u a b c1 c2 c3 c4 c5 c6 => k _ (h6 u a b c1 c2 c3 c4 c5 c6)⟩
theorem len_law_bad_table : ∀ ds P, S_law_bad_table ds P → ds.length = 2 := by
  intro ds P h
  obtain ⟨_, _, _, e, _⟩ := h
  rw [e]; rfl
theorem ok_law_bad_table {f : Addr} {fd : FuncData} (F : FnAt K mg "_law_bad_table" s_law_bad_table P_law_bad_table f fd) (A_ : Fns K mg) (T : Txt K mg) {c : Cs} (xs : Exs K mg base c) : FnOk P w K mg base CX0 1 f fd P_law_bad_table (spR K S_law_bad_table) := by
  refine F.fn.ok sc_law_bad_table (fun vs H Q E h => spR_len len_law_bad_table h) (fun cdv A outer s H vs Q E hr h => ?_)
  refine ⟨_, (pss_cons (ps_set (i := 2) sc_law_bad_table.nd rfl (by first | exact Or.inl rfl | exact Or.inr rfl) (pe_op op_mod (pv 1) pe_int))
      (pss_cons (ps_set (i := 1) sc_law_bad_table.nd rfl (by first | exact Or.inl rfl | exact Or.inr rfl) (pe_op op_fdivB (pv 1) pe_int))
      (pss_cons (ps_set (i := 3) sc_law_bad_table.nd rfl (by first | exact Or.inl rfl | exact Or.inr rfl) (pe_callB (call_lenK (K := K) rfl) (by rfl) T.len_ PySem.boot_len (pa_cons (pv 0) pa_nil)))
      (pss_cons (ps_setC0 (i := 4) (CompScope.of (sc0 := (defScope s_law_bad_table)) (tn := ["_law_row"]) (cap := []) (idx := []) (by decide +kernel) rfl rfl) sc_law_bad_table.nd rfl (by first | exact Or.inl rfl | exact Or.inr rfl) (pi_listK (K := K) rfl (pv 0)) (GSet.name (by decide)) (fun _ _ _ _ _ => pg_name (i := 0) (nodupB_iff (l := ["_law_row"]) (by decide +kernel)) rfl (by first | exact Or.inl rfl | exact Or.inr rfl) (by first | exact .inl rfl | exact .inr rfl)) (fun _ _ _ _ _ => (pe_callTy (call_listK (K := K) rfl) (by rfl) T.list_ boot_list (pa_cons (pv 0) pa_nil))))
      (pss_cons (ps_set (i := 5) sc_law_bad_table.nd rfl (by first | exact Or.inl rfl | exact Or.inr rfl) (pe_op op_mod (pv 1) (pv 3)))
      (pss_cons (ps_set (i := 6) sc_law_bad_table.nd rfl (by first | exact Or.inl rfl | exact Or.inr rfl) (pe_op op_mod (pe_op op_fdivB (pv 1) pe_int) (pv 3)))
      (pss_cons (ps_set (i := 7) sc_law_bad_table.nd rfl (by first | exact Or.inl rfl | exact Or.inr rfl) (pe_op op_add pe_int (pe_ix (ix_listK (K := K) rfl) (pe_ix (ix_listK (K := K) rfl) (pv 4) (pv 5) (fun _ _ => rfl)) (pv 6) (fun _ _ => rfl))))
      (pss_cons (ps_set (i := 8) sc_law_bad_table.nd rfl (by first | exact Or.inl rfl | exact Or.inr rfl) (pe_ix (ix_listK (K := K) rfl) (pv 4) (pv 5) (fun _ _ => rfl)))
      (pss_cons (ps_set (i := 9) sc_law_bad_table.nd rfl (by first | exact Or.inl rfl | exact Or.inr rfl) (pe_ix (ix_listK (K := K) rfl) (pv 4) (pe_op op_mod (pe_op op_add (pv 5) pe_int) (pv 3)) (fun _ _ => rfl)))
      (pss_cons (ps_set (i := 10) sc_law_bad_table.nd rfl (by first | exact Or.inl rfl | exact Or.inr rfl) (pe_op op_mod (pe_op op_add (pv 6) pe_int) (pv 3)))
      (pss_cons (ps_if (PW.pt (pw_and (pt_cmpR op_eq (pv 2) pe_int (nomark _)) (pw_and1 (pt_cmpR op_gt (pv 3) pe_int (nomark _))))) (pss_cons (ps_augS (pv 8) (pv 6) (pget_list (K := K) rfl) (pv 7) ip_add set_list)
      (pss_cons (ps_augS (pv 8) (pv 10) (pget_list (K := K) rfl) (pv 7) ip_sub set_list)
      (pss_one (ps_ret (pv 4))))) pss_nil)
      (pss_cons (ps_if (PW.pt (pw_and (pt_cmpR op_eq (pv 2) pe_int (nomark _)) (pw_and1 (pt_cmpR op_gt (pv 3) pe_int (nomark _))))) (pss_cons (ps_augS (pv 8) (pv 6) (pget_list (K := K) rfl) (pv 7) ip_sub set_list)
      (pss_cons (ps_augS (pv 8) (pv 10) (pget_list (K := K) rfl) (pv 7) ip_add set_list)
      (pss_cons (ps_augS (pv 9) (pv 6) (pget_list (K := K) rfl) (pv 7) ip_add set_list)
      (pss_cons (ps_augS (pv 9) (pv 10) (pget_list (K := K) rfl) (pv 7) ip_sub set_list)
      (pss_one (ps_ret (pv 4))))))) pss_nil)
      (pss_cons (ps_if (PW.pt (pw_and (pt_cmpR op_eq (pv 2) pe_int (nomark _)) (pw_and1 (pt_cmpR op_gt (pv 3) pe_int (nomark _))))) (pss_one (ps_ret (pe_op op_cat (pe_slice (sl_listK (K := K) rfl) (pv 4) po_none (po_some (pv 5))) (pe_slice (sl_listK (K := K) rfl) (pv 4) (po_some (pe_op op_add (pv 5) pe_int)) po_none)))) pss_nil)
      (pss_cons (ps_if (PW.pt (pw_and (pt_cmpR op_eq (pv 2) pe_int (nomark _)) (pw_and1 (pt_cmpR op_gt (pv 3) pe_int (nomark _))))) (pss_one (ps_ret (pe_comp0 (CompScope.of (sc0 := (defScope s_law_bad_table)) (tn := ["_law_row"]) (cap := ["_law_j"]) (idx := [6]) (by decide +kernel) rfl rfl) (pi_listK (K := K) rfl (pv 4)) (GSet.name (by decide)) (fun _ _ _ _ _ => pg_name (i := 0) (nodupB_iff (l := ["_law_row", "_law_j"]) (by decide +kernel)) rfl (by first | exact Or.inl rfl | exact Or.inr rfl) (by first | exact .inl rfl | exact .inr rfl)) (fun _ _ _ _ _ => (pe_op op_cat (pe_slice (sl_listK (K := K) rfl) (pv 0) po_none (po_some (pv 1))) (pe_slice (sl_listK (K := K) rfl) (pv 0) (po_some (pe_op op_add (pv 1) pe_int)) po_none)))))) pss_nil)
      (pss_cons (ps_if (PW.pt (pw_or (pt_cmpR op_eq (pv 2) pe_int (nomark _)) (pw_or1 (pt_cmpR op_eq (pv 3) pe_int (nomark _))))) (pss_one (ps_ret (pe_comp0 (CompScope.of (sc0 := (defScope s_law_bad_table)) (tn := ["_law_row"]) (cap := ["_law_size_here"]) (idx := [3]) (by decide +kernel) rfl rfl) (pi_range1 rfl T.range_ (pa_cons (pv 3) pa_nil)) (GSet.name (by decide)) (fun _ _ _ _ _ => pg_name (i := 0) (nodupB_iff (l := ["_law_row", "_law_size_here"]) (by decide +kernel)) rfl (by first | exact Or.inl rfl | exact Or.inr rfl) (by first | exact .inl rfl | exact .inr rfl)) (fun _ _ _ _ _ => (pe_op op_rep (pe_lst (pa_cons pe_int pa_nil)) (pv 1)))))) pss_nil)
      (pss_cons (ps_augS (pv 8) (pv 6) (pget_list (K := K) rfl) (pe_ix (ix_listK (K := K) rfl) (pe_lst (pa_cons pe_int (pa_cons (pe_un un_neg pe_int) pa_nil))) (pe_op op_mod (pe_op op_fdivB (pv 1) pe_int) pe_int) (fun _ _ => rfl)) ip_add set_list)
      (pss_one (ps_ret (pv 4))))))))))))))))))), fn_valR (Γn := [4]) (N := N_law_bad_table) (st_seq (ST.post (Γn := []) (st_setS 2 (EM.es (em_op o_intC (ES.er (es_var 1)) (EM.er em_int)))))
      (st_seq (ST.post (Γn := []) (st_setS 1 (EM.es (em_op o_intC (ES.er (es_var 1)) (EM.er em_int)))))
      (st_seq (ST.post (Γn := []) (st_setS 3 (EM.es (em_cb c_len (ar_cons (ES.er (es_var 0)) ar_nil)))))
      (st_seq (ST.post (Γn := [4]) (st_setM (M := []) 4 (em_comp0 (it_list (es_var 0)) (gt_name 0) (em_cb c_list (ar_cons (ES.er (es_var 0)) ar_nil)))))
      (st_seq (ST.post (Γn := [4]) (st_setS 5 (EM.es (em_op o_intC (ES.er (es_var 1)) (ES.er (es_var 3))))))
      (st_seq (ST.post (Γn := [4]) (st_setS 6 (EM.es (em_op o_intC (EM.er (em_op o_intC (ES.er (es_var 1)) (EM.er em_int))) (ES.er (es_var 3))))))
      (st_seq (ST.post (Γn := [4]) (st_setS 7 (EM.es (em_op o_int (EM.er em_int) (er_ixL (er_ixL (er_var 4) (ES.er (es_var 5))) (ES.er (es_var 6)))))))
      (st_region 4 (stp_name 8 (ES.er (es_var 5))
      (stp_name 9 (EM.er (em_op o_intC (EM.er (em_op o_int (ES.er (es_var 5)) (EM.er em_int))) (ES.er (es_var 3))))
      (stp_seq (stp_set 10 (EM.er (em_op o_intC (EM.er (em_op o_int (ES.er (es_var 6)) (EM.er em_int))) (ES.er (es_var 3)))))
      (stp_seq (stp_if (tr_and (tr_test (EM.er (em_op o_eq (ES.er (es_var 2)) (EM.er em_int)))) (tr_test (EM.er (em_op o_bl (ES.er (es_var 3)) (EM.er em_int))))) (stp_seq (stp_aug 8 1 (ES.er (es_var 6)) (ES.er (es_var 7)))
      (stp_seq (stp_aug 8 1 (ES.er (es_var 10)) (ES.er (es_var 7)))
      (stp_ret (ES.er (es_var 4))))) stp_next)
      (stp_seq (stp_if (tr_and (tr_test (EM.er (em_op o_eq (ES.er (es_var 2)) (EM.er em_int)))) (tr_test (EM.er (em_op o_bl (ES.er (es_var 3)) (EM.er em_int))))) (stp_seq (stp_aug 8 1 (ES.er (es_var 6)) (ES.er (es_var 7)))
      (stp_seq (stp_aug 8 1 (ES.er (es_var 10)) (ES.er (es_var 7)))
      (stp_seq (stp_aug 9 0 (ES.er (es_var 6)) (ES.er (es_var 7)))
      (stp_seq (stp_aug 9 0 (ES.er (es_var 10)) (ES.er (es_var 7)))
      (stp_ret (ES.er (es_var 4))))))) stp_next)
      (stp_seq (stp_if (tr_and (tr_test (EM.er (em_op o_eq (ES.er (es_var 2)) (EM.er em_int)))) (tr_test (EM.er (em_op o_bl (ES.er (es_var 3)) (EM.er em_int))))) (stp_ret (er_op o_catR (er_sl (ES.er (es_var 4)) or_none (or_some (ES.er (es_var 5)))) (er_sl (ES.er (es_var 4)) (or_some (EM.er (em_op o_int (ES.er (es_var 5)) (EM.er em_int)))) or_none))) stp_next)
      (stp_seq (stp_if (tr_and (tr_test (EM.er (em_op o_eq (ES.er (es_var 2)) (EM.er em_int)))) (tr_test (EM.er (em_op o_bl (ES.er (es_var 3)) (EM.er em_int))))) (stp_ret (EM.er (em_comp0 (it_list (es_var 4)) (gt_name 0) (em_op o_cat (EM.er (em_sl (ES.er (es_var 0)) or_none (or_some (ES.er (es_var 1))))) (EM.er (em_sl (ES.er (es_var 0)) (or_some (EM.er (em_op o_int (ES.er (es_var 1)) (EM.er em_int)))) or_none)))))) stp_next)
      (stp_seq (stp_if (tr_or (tr_test (EM.er (em_op o_eq (ES.er (es_var 2)) (EM.er em_int)))) (tr_test (EM.er (em_op o_eq (ES.er (es_var 3)) (EM.er em_int))))) (stp_ret (EM.er (em_comp0 (it_rng1 (ar_cons (ES.er (es_var 3)) ar_nil)) (gt_name 0) (em_op o_rep (EM.er (em_lst (am_cons0 em_int am_nil))) (ES.er (es_var 1)))))) stp_next)
      (stp_seq (stp_aug 8 1 (ES.er (es_var 6)) (ES.er (es_ixL (EM.es (em_lst (am_cons0 em_int (am_cons0 (em_un u_int (EM.er em_int)) am_nil)))) (EM.er (em_op o_intC (EM.er (em_op o_intC (ES.er (es_var 1)) (EM.er em_int))) (EM.er em_int))))))
      (stp_ret (ES.er (es_var 4)))))))))))))))))))) (fun ds P hS => ?_) h⟩
  obtain ⟨t, n, x, rfl, n1, n8, hE, hR, hx, hP⟩ := hS
  have hl := hR.1
  rw [show startD N_law_bad_table [dT t, .int x] = [some (dT t), some (.int x), none, none, none, none, none, none, none, none, none] from rfl]
  walk_at "go"
  rw [hl]
  refine comp_copy (t := t) (fun R h => h) (by omega) (fun r hr R h => by walk_at "gb"; exact h) ?_
  walk_at "go"
  have a1 := emod_lt (x := x / 6) (n := (n : Int)) (by omega)
  have a2 := emod_lt (x := x / 6 / 8) (n := (n : Int)) (by omega)
  obtain ⟨i, ei⟩ : ∃ i : Nat, x / 6 % (n : Int) = i := ⟨(x / 6 % (n : Int)).toNat, by omega⟩
  obtain ⟨j, ej⟩ : ∃ j : Nat, x / 6 / 8 % (n : Int) = j := ⟨(x / 6 / 8 % (n : Int)).toNat, by omega⟩
  have hi : i < n := by omega
  have hj : j < n := by omega
  rw [ei, ej]
  have a3 := emod_lt (x := (i : Int) + 1) (n := (n : Int)) (by omega)
  have a4 := emod_lt (x := (j : Int) + 1) (n := (n : Int)) (by omega)
  obtain ⟨k, ek⟩ : ∃ k : Nat, ((i : Int) + 1) % (n : Int) = k := ⟨(((i : Int) + 1) % (n : Int)).toNat, by omega⟩
  obtain ⟨l, el⟩ : ∃ l : Nat, ((j : Int) + 1) % (n : Int) = l := ⟨(((j : Int) + 1) % (n : Int)).toNat, by omega⟩
  have hk : k < n := by omega
  have hl' : l < n := by omega
  have hki : 1 < n → k ≠ i := fun h z => by
    subst z
    by_cases c : k + 1 < n
    · rw [Int.emod_eq_of_lt (by omega) (by omega)] at ek; omega
    · have : (k : Int) + 1 = n := by omega
      rw [this, Int.emod_self] at ek; omega
  have hlj : 1 < n → l ≠ j := fun h z => by
    subst z
    by_cases c : l + 1 < n
    · rw [Int.emod_eq_of_lt (by omega) (by omega)] at el; omega
    · have : (l : Int) + 1 = n := by omega
      rw [this, Int.emod_self] at el; omega
  rw [ek, el]
  have hri := hR.row hi
  have hrk := hR.row hk
  refine asO_rows (by omega) ?_
  rw [Int.toNat_natCast, vIxL_lst]
  refine asO_ints (by omega) ?_
  rw [Int.toNat_natCast, vI0_int]
  refine ⟨⟨by omega, by decide, by simp⟩, ?_⟩
  rw [Int.toNat_natCast, row_get (by omega)]
  refine ⟨scal_ints, by omega, ⟨by omega, by decide, by simp⟩, ?_⟩
  rw [row_get (by omega)]
  refine ⟨scal_ints, by omega, by simp, ?_⟩
  have S0 := hE.2.2.1
  have hmi : rowAt t i ∈ t := rowAt_mem (by omega)
  have hmk : rowAt t k ∈ t := rowAt_mem (by omega)
  have hsi := hE.2.2.2.1 _ hmi
  have hsk := hE.2.2.2.1 _ hmk
  have hc0 : 0 ≤ (rowAt t i).getD j 0 := hE.2.1 _ hmi _ (by
    rw [List.getD_eq_getElem?_getD, List.getElem?_eq_getElem (by omega), Option.getD_some]
    exact List.getElem_mem _)
  have zb : P (dT ((List.range n).map fun _ => List.replicate n 0)) := by
    have hz : Rect n n ((List.range n).map fun _ => List.replicate n (0 : Int)) := ⟨by rw [List.length_map, List.length_range], fun r hr => by
      obtain ⟨_, _, rfl⟩ := List.mem_map.mp hr
      exact List.length_replicate⟩
    refine hP _ n n hz n1 (by omega) n1 (by omega) fun h => ?_
    have h1 := h.2.2.1
    obtain ⟨_, _, er⟩ := List.mem_map.mp (rowAt_mem (t := (List.range n).map fun _ => List.replicate n (0 : Int)) (i := 0) (by rw [hz.1]; omega))
    rw [← er, sum_rep0] at h1
    exact absurd h1 (by decide)
  by_cases hn : 1 < n
  case neg =>
    have en : n = 1 := by omega
    simp only [show ¬ (1 : Int) < (n : Int) by omega, if_false, ite_self]
    rw [if_pos (show (n : Int) = 1 by omega), ite_self]
    refine comp_rng (lo := 0) (n := n) (g := fun _ => dI (List.replicate n 0)) (fun R h => ?_) (by omega) (fun i hi R h => ?_) ?_
    · walk_at "go"; exact h
    · walk_at "gb"
      rw [rep_zero]
      exact ⟨⟨rfl, by omega, by omega⟩, h⟩
    rw [map_dI]
    exact zb
  have hki := hki hn
  have hlj := hlj hn
  simp only [show (1 : Int) < (n : Int) by omega, if_true]
  by_cases w1 : x % 6 = 1
  · rw [if_pos w1]
    refine vAugP_in (q := j) (c := 1 + (rowAt t i).getD j 0) rfl rfl rfl (fun R h => h) (fun R h => h) (by omega) ?_
    rw [Int.toNat_natCast, refr_2 hki, pset_dT]
    walk_at "v"
    generalize hr1 : (rowAt t i).set j ((rowAt t i).getD j 0 + (1 + (rowAt t i).getD j 0)) = r1
    have l1 : r1.length = n := by rw [← hr1, List.length_set]; exact hri
    refine vAugP_in (q := l) (c := 1 + (rowAt t i).getD j 0) rfl rfl rfl (fun R h => h) (fun R h => h) (by omega) ?_
    rw [Int.toNat_natCast, refr_2 hki, pset_dT]
    walk_at "v"
    generalize hr2 : r1.set l (r1.getD l 0 - (1 + (rowAt t i).getD j 0)) = r2
    have l2 : r2.length = n := by rw [← hr2, List.length_set]; exact l1
    refine hP _ n n (rect_set (rect_set hR l1) l2) n1 (by omega) n1 (by omega) fun h => ?_
    have hcol := h.2.2.2.2 j hj
    have s1 : r1.sum = (rowAt t i).sum + (1 + (rowAt t i).getD j 0) := by rw [← hr1, Maj.sum_set (by omega)]; omega
    have s2 : r2.sum = (rowAt t i).sum := by rw [← hr2, Maj.sum_set (by omega), s1]; omega
    have e0 : (rowAt ((t.set i r1).set i r2) 0).sum = (rowAt t 0).sum := by
      rw [List.set_set]
      by_cases h0 : i = 0
      · subst h0
        rw [rowAt, getD_set_same (by omega), s2]
      · rw [rowAt, getD_set_other h0]
    rw [e0, List.set_set, col_set, Maj.sum_set (by rw [len_colOf]; omega), hE.2.2.2.2 j hj, show r2.getD j 0 = (rowAt t i).getD j 0 + (1 + (rowAt t i).getD j 0) by rw [← hr2, getD_set_other hlj, ← hr1, getD_set_same (by omega)],
      show (colOf t j).getD i 0 = (rowAt t i).getD j 0 by unfold colOf; rw [List.getD_eq_getElem?_getD, List.getElem?_map, List.getElem?_eq_getElem (by omega), rowAt, List.getD_eq_getElem?_getD (l := t), List.getElem?_eq_getElem (by omega)]; rfl] at hcol
    omega
  rw [if_neg w1]
  by_cases w2 : x % 6 = 2
  · rw [if_pos w2]
    refine vAugP_in (q := j) (c := 1 + (rowAt t i).getD j 0) rfl rfl rfl (fun R h => h) (fun R h => h) (by omega) ?_
    rw [Int.toNat_natCast, refr_2 hki, pset_dT]
    walk_at "v"
    generalize hr1 : (rowAt t i).set j ((rowAt t i).getD j 0 - (1 + (rowAt t i).getD j 0)) = r1
    have l1 : r1.length = n := by rw [← hr1, List.length_set]; exact hri
    refine vAugP_in (q := l) (c := 1 + (rowAt t i).getD j 0) rfl rfl rfl (fun R h => h) (fun R h => h) (by omega) ?_
    rw [Int.toNat_natCast, refr_2 hki, pset_dT]
    walk_at "v"
    generalize hr2 : r1.set l (r1.getD l 0 + (1 + (rowAt t i).getD j 0)) = r2
    have l2 : r2.length = n := by rw [← hr2, List.length_set]; exact l1
    refine vAugP_in (q := j) (c := 1 + (rowAt t i).getD j 0) rfl rfl rfl (fun R h => h) (fun R h => h) (by omega) ?_
    rw [Int.toNat_natCast, refr_1 hki, pset_dT]
    walk_at "v"
    generalize hq1 : (rowAt t k).set j ((rowAt t k).getD j 0 + (1 + (rowAt t i).getD j 0)) = q1
    have l3 : q1.length = n := by rw [← hq1, List.length_set]; exact hrk
    refine vAugP_in (q := l) (c := 1 + (rowAt t i).getD j 0) rfl rfl rfl (fun R h => h) (fun R h => h) (by omega) ?_
    rw [Int.toNat_natCast, refr_1 hki, pset_dT]
    walk_at "v"
    generalize hq2 : q1.set l (q1.getD l 0 - (1 + (rowAt t i).getD j 0)) = q2
    have l4 : q2.length = n := by rw [← hq2, List.length_set]; exact l3
    refine hP _ n n (rect_set (rect_set (rect_set (rect_set hR l1) l2) l3) l4) n1 (by omega) n1 (by omega) fun h => ?_
    have hm : r2 ∈ (((t.set i r1).set i r2).set k q1).set k q2 := by
      have h0 : rowAt ((t.set i r1).set i r2) i = r2 := by rw [rowAt, getD_set_same (by rw [List.length_set]; omega)]
      rw [List.set_set (l := (t.set i r1).set i r2)]
      have := mem_set_other (t := (t.set i r1).set i r2) (i := k) (k := i) (r := q2) (by rw [List.length_set, List.length_set]; omega) (Ne.symm hki)
      rw [h0] at this
      exact this
    have := h.2.1 _ hm (r2.getD j 0) (by
      rw [List.getD_eq_getElem?_getD, List.getElem?_eq_getElem (by omega), Option.getD_some]
      exact List.getElem_mem _)
    rw [← hr2, getD_set_other hlj, ← hr1, getD_set_same (by omega)] at this
    omega
  rw [if_neg w2]
  by_cases w3 : x % 6 = 3
  · rw [if_pos w3, cutD_to (by omega), cutD_from (by omega) (by rw [List.length_map]; omega), Int.toNat_natCast, show ((i : Int) + 1).toNat = i + 1 by omega, ← List.map_take, ← List.map_drop, ← List.map_append]
    refine ⟨by simp only [List.length_map, List.length_take, List.length_drop]; omega, ?_⟩
    refine hP (t.take i ++ t.drop (i + 1)) (n - 1) n ⟨by rw [List.length_append, List.length_take, List.length_drop]; omega, fun r hr => ?_⟩ (by omega) (by omega) n1 (by omega) fun h => absurd h.1 (by omega)
    rcases List.mem_append.mp hr with z | z
    · exact hR.2 r (List.mem_of_mem_take z)
    · exact hR.2 r (List.mem_of_mem_drop z)
  rw [if_neg w3]
  by_cases w4 : x % 6 = 4
  · rw [if_pos w4]
    refine comp_rows (t := t) (g := fun r => dI (r.take j ++ r.drop (j + 1))) (fun R h => h) (by omega) (fun r hr R h => ?_) ?_
    · have hrl := hR.2 r hr
      walk_at "gb"
      rw [cutD_to (by omega), cutD_from (by omega) (by rw [List.length_map]; omega), Int.toNat_natCast, show ((j : Int) + 1).toNat = j + 1 by omega, ← List.map_take, ← List.map_drop, ← List.map_append]
      exact ⟨⟨scal_ints, scal_ints, by simp only [List.length_map, List.length_take, List.length_drop]; omega⟩, h⟩
    rw [map_dI]
    refine hP (t.map fun r => r.take j ++ r.drop (j + 1)) n (n - 1) ⟨by rw [List.length_map]; exact hl, fun r hr => ?_⟩ n1 (by omega) (by omega) (by omega) fun h => absurd h.1 (by omega)
    obtain ⟨r0, hr0, rfl⟩ := List.mem_map.mp hr
    have := hR.2 r0 hr0
    rw [List.length_append, List.length_take, List.length_drop]
    omega
  rw [if_neg w4]
  by_cases w5 : x % 6 = 5
  · rw [if_pos w5]
    refine comp_rng (lo := 0) (n := n) (g := fun _ => dI (List.replicate n 0)) (fun R h => ?_) (by omega) (fun i hi R h => ?_) ?_
    · walk_at "go"; exact h
    · walk_at "gb"
      rw [rep_zero]
      exact ⟨⟨rfl, by omega, by omega⟩, h⟩
    rw [map_dI]
    exact zb
  rw [if_neg w5, if_neg (by omega)]
  have fin : ∀ e : Int, e ≠ 0 → P (dT (t.set i ((rowAt t i).set j ((rowAt t i).getD j 0 + e)))) := fun e he => by
    refine hP _ n n (rect_set hR (by rw [List.length_set]; exact hri)) n1 (by omega) n1 (by omega) fun h => ?_
    have h1 := h.2.2.2.1 ((rowAt t i).set j ((rowAt t i).getD j 0 + e)) (mem_set_self (by omega))
    have h2 := h.2.2.2.1 (rowAt t k) (mem_set_other (by omega) hki)
    rw [Maj.sum_set (by omega)] at h1
    omega
  have par : x / 6 / 64 % 2 = 0 ∨ x / 6 / 64 % 2 = 1 := by omega
  rcases par with par | par
  · refine vAugP_in (q := j) (c := 1) rfl rfl rfl (fun R h => h) (fun R h => ?_) (by omega) ?_
    · walk_at "go"
      rw [par]
      exact h
    rw [Int.toNat_natCast, refr_2 hki, pset_dT]
    walk_at "v"
    exact fin 1 (by decide)
  · refine vAugP_in (q := j) (c := -1) rfl rfl rfl (fun R h => h) (fun R h => ?_) (by omega) ?_
    · walk_at "go"
      rw [par]
      exact h
    rw [Int.toNat_natCast, refr_2 hki, pset_dT]
    walk_at "v"
    exact fin (-1) (by decide)
theorem pr_get {ps : List (Int × List Int)} {a : Nat} (h : a < ps.length) : (ps.map dPr)[a]? = some (.tup [.int (ps[a]).1, .lst ((ps[a]).2.map L3.D.int)]) := by rw [List.getElem?_map, List.getElem?_eq_getElem h]; rfl
theorem pset_pr {ps : List (Int × List Int)} {a : Nat} {d : List Int} (h : a < ps.length) : pset (d.map L3.D.int) (.t a 1) (.lst (ps.map dPr)) = .lst ((ps.set a ((ps[a]).1, d)).map dPr) := by
  rw [pset_t_in (pr_get h), List.map_set]
  rfl
theorem refr_t {j : Nat} {p : Pth} {es : List D} {δ : Dl} : refr [(j, p)] p es δ = δ.set j (some (.lst es)) := by simp [refr]
theorem vWr_pr {i j a : Nat} {δ : Dl} {ps : List (Int × List Int)} {d d' : List Int} {f : List D → Option (List D)} {P : Dl → Prop} (ha : a < ps.length) (h2 : δ[i]? = some (some (.lst (ps.map dPr)))) (h3 : δ[j]? = some (some (dI d))) (hf : f (d.map L3.D.int) = some (d'.map L3.D.int))
    (h : P ((δ.set i (some (.lst ((ps.set a ((ps[a]).1, d')).map dPr)))).set j (some (dI d')))) : vWr i j 0 [(j, .t a 1)] δ f P := by
  refine ⟨rfl, ?_⟩
  unfold slotX
  rw [h2]
  refine (slotL_s h3).mpr ?_
  rw [hf]
  refine ⟨scal_ints, ?_⟩
  show P (refr [(j, .t a 1)] (.t a 1) (d'.map L3.D.int) (δ.set i (some (pset (d'.map L3.D.int) (.t a 1) (.lst (ps.map dPr))))))
  rw [refr_t, pset_pr ha]
  exact h
theorem noMix_parts {qs : List (Int × List Int)} {q : Int × List Int} (h : q ∈ qs) (h1 : q.1 < 1) : ∀ m, ¬ Mix m qs := fun m hM => by
  have := (hM.2.2.2.2 q h).1
  omega
theorem noMix_len {qs : List (Int × List Int)} {q r : Int × List Int} (h : q ∈ qs) (h' : r ∈ qs) (h1 : q.2.length ≠ r.2.length) : ∀ m, ¬ Mix m qs := fun m hM => h1 (by rw [hM.len h, hM.len h'])
theorem noMix_big {qs : List (Int × List Int)} {q : Int × List Int} (h : q ∈ qs) (h1 : q.2.length = 0 ∨ 8 < q.2.length) : ∀ m, ¬ Mix m qs := fun m hM => by
  have := hM.len h
  have := hM.1
  have := hM.2.1
  omega
theorem noMix_out {qs : List (Int × List Int)} {q : Int × List Int} {v : Int} (h : q ∈ qs) (hv : v ∈ q.2) (h1 : v < 0 ∨ (q.2.length : Int) ≤ v) : ∀ m, ¬ Mix m qs := fun m hM => by
  have hl := hM.len h
  have hm := ((hM.2.2.2.2 q h).2.mem_iff (a := v)).mp hv
  unfold rngI at hm
  obtain ⟨k, hk, e⟩ := List.mem_map.mp hm
  have := List.mem_range.mp hk
  omega
theorem noMix_dup {qs : List (Int × List Int)} {q : Int × List Int} (h : q ∈ qs) (h1 : ¬ q.2.Nodup) : ∀ m, ¬ Mix m qs := fun m hM => h1 ((hM.2.2.2.2 q h).2.nodup_iff.mpr (by
  unfold rngI
  exact List.Pairwise.map _ (fun a b hab z => hab (Int.ofNat.inj z)) List.nodup_range))
theorem vPutP_pr {i j a : Nat} {δ : Dl} {ps : List (Int × List Int)} {d : List Int} {v q : Int} {de dx : DE} {E : DEnds} (ha : a < ps.length) (h2 : δ[i]? = some (some (.lst (ps.map dPr)))) (h3 : δ[j]? = some (some (dI d))) (he : ∀ R : DK, R (.int v) → de δ R) (hx : ∀ R : DK, R (.int q) → dx δ R) (hq : 0 ≤ q ∧ q < d.length)
    (h : E.nx ((δ.set i (some (.lst ((ps.set a ((ps[a]).1, d.set q.toNat v)).map dPr)))).set j (some (dI (d.set q.toNat v))))) : vPutP i j 0 de dx [(j, .t a 1)] E δ := by
  refine ⟨rfl, he _ ⟨rfl, hx _ ?_⟩⟩
  show vWr i j 0 [(j, .t a 1)] δ (fun es => (ixN es.length q).map fun m => es.set m (.int v)) E.nx
  refine vWr_pr ha h2 h3 ?_ h
  show (ixN (d.map L3.D.int).length q).map (fun m => (d.map L3.D.int).set m (.int v)) = _
  rw [ixN_nat hq.1 (by rw [List.length_map]; exact hq.2), Option.map_some, List.map_set]
theorem vAppP_pr {i j a : Nat} {δ : Dl} {ps : List (Int × List Int)} {d : List Int} {v : Int} {de : DE} {E : DEnds} (ha : a < ps.length) (h2 : δ[i]? = some (some (.lst (ps.map dPr)))) (h3 : δ[j]? = some (some (dI d))) (he : ∀ R : DK, R (.int v) → de δ R) (hl : d.length < 1000)
    (h : E.nx ((δ.set i (some (.lst ((ps.set a ((ps[a]).1, d ++ [v])).map dPr)))).set j (some (dI (d ++ [v]))))) : vAppP i j 0 de [(j, .t a 1)] E δ := by
  refine ⟨rfl, he _ ⟨rfl, (slotL_s h3).mpr ⟨by rw [List.length_map]; exact hl, ?_⟩⟩⟩
  refine vWr_pr ha h2 h3 ?_ h
  show some (d.map L3.D.int ++ [.int v]) = _
  rw [List.map_append]
  rfl
theorem vPopP_pr {i j a : Nat} {δ : Dl} {ps : List (Int × List Int)} {d : List Int} {q : Int} {dx : DE} {E : DEnds} (ha : a < ps.length) (h2 : δ[i]? = some (some (.lst (ps.map dPr)))) (h3 : δ[j]? = some (some (dI d))) (hx : ∀ R : DK, R (.int q) → dx δ R) (hq : 0 ≤ q ∧ q < d.length) (hl : d.length < 1000)
    (h : E.nx ((δ.set i (some (.lst ((ps.set a ((ps[a]).1, d.eraseIdx q.toNat)).map dPr)))).set j (some (dI (d.eraseIdx q.toNat))))) : vPopP i j 0 dx [(j, .t a 1)] E δ := by
  refine ⟨rfl, hx _ ?_⟩
  show slotL δ j fun es0 => (0 ≤ q ∧ q < es0.length ∧ es0.length < 1000) ∧ vWr i j 0 [(j, .t a 1)] δ (fun es => some (es.eraseIdx q.toNat)) E.nx
  refine (slotL_s h3).mpr ⟨by rw [List.length_map]; exact ⟨hq.1, hq.2, hl⟩, ?_⟩
  refine vWr_pr ha h2 h3 ?_ h
  show some ((d.map L3.D.int).eraseIdx q.toNat) = _
  rw [show (d.map L3.D.int).eraseIdx q.toNat = (d.eraseIdx q.toNat).map L3.D.int from L2.map_eraseIdx _ _]
theorem vClearP_pr {i j a : Nat} {δ : Dl} {ps : List (Int × List Int)} {d : List Int} {E : DEnds} (ha : a < ps.length) (h2 : δ[i]? = some (some (.lst (ps.map dPr)))) (h3 : δ[j]? = some (some (dI d)))
    (h : E.nx ((δ.set i (some (.lst ((ps.set a ((ps[a]).1, [])).map dPr)))).set j (some (dI [])))) : vClearP i j 0 [(j, .t a 1)] E δ := ⟨rfl, vWr_pr (d' := []) ha h2 h3 rfl h⟩
theorem set_again {ps : List (Int × List Int)} {a : Nat} {d e : List Int} (ha : a < ps.length) (hb : a < (ps.set a ((ps[a]).1, d)).length) : (ps.set a ((ps[a]).1, d)).set a (((ps.set a ((ps[a]).1, d))[a]).1, e) = ps.set a ((ps[a]).1, e) := by
  rw [List.set_set]
  congr 1
  rw [List.getElem_set_self]
def S_law_bad_pairs : DSp := fun ds P => ∃ (ps : List (Int × List Int)) (n a : Nat) (w x : Int), ds = [.lst (ps.map dPr), .int w, .int a, .int x] ∧ Mix n ps ∧ ps.length ≤ 63 ∧ a < ps.length ∧ 0 ≤ x ∧ (∀ q ∈ ps, q.1 ≤ 10 ^ 12) ∧ ∀ qs : List (Int × List Int), qs.length ≤ 200 → (∀ q ∈ qs, q.2.length < 64) → (∀ m, ¬ Mix m qs) → P (.lst (qs.map dPr))
theorem mono_law_bad_pairs : DMono S_law_bad_pairs := by
  intro xs P P' k h
  obtain ⟨ps, n, a, w, x, e, h1, h2, h3, h4, h5, h6⟩ := h
  exact ⟨ps, n, a, w, x, e, h1, h2, h3, h4, h5, fun u c1 c2 c3 => k _ (h6 u c1 c2 c3)⟩
theorem len_law_bad_pairs : ∀ ds P, S_law_bad_pairs ds P → ds.length = 4 := by
  intro ds P h
  obtain ⟨_, _, _, _, _, e, _⟩ := h
  rw [e]; rfl
theorem ok_law_bad_pairs {f : Addr} {fd : FuncData} (F : FnAt K mg "_law_bad_pairs" s_law_bad_pairs P_law_bad_pairs f fd) (A_ : Fns K mg) (T : Txt K mg) {c : Cs} (xs : Exs K mg base c) : FnOk P w K mg base CX0 1 f fd P_law_bad_pairs (spR K S_law_bad_pairs) := by
  refine F.fn.ok sc_law_bad_pairs (fun vs H Q E h => spR_len len_law_bad_pairs h) (fun cdv A outer s H vs Q E hr h => ?_)
  refine ⟨_, (pss_cons (ps_setC0 (i := 4) (CompScope.of (sc0 := (defScope s_law_bad_pairs)) (tn := ["_law_parts", "_law_dealing_here"]) (cap := []) (idx := []) (by decide +kernel) rfl rfl) sc_law_bad_pairs.nd rfl (by first | exact Or.inl rfl | exact Or.inr rfl) (pi_listK (K := K) rfl (pv 0)) (GSet.tup (GSets.cons (by decide) (GSets.cons (by decide) GSets.nil))) (fun _ _ _ _ _ => pg_tupK (K := K) (n := 2) rfl rfl (pgs_cons (pg_name (i := 0) (nodupB_iff (l := ["_law_parts", "_law_dealing_here"]) (by decide +kernel)) rfl (by first | exact Or.inl rfl | exact Or.inr rfl) (by first | exact .inl rfl | exact .inr rfl)) (pgs_cons (pg_name (i := 1) (nodupB_iff (l := ["_law_parts", "_law_dealing_here"]) (by decide +kernel)) rfl (by first | exact Or.inl rfl | exact Or.inr rfl) (by first | exact .inl rfl | exact .inr rfl)) pgs_nil))) (fun _ _ _ _ _ => (pe_tup (pa_cons (pv 0) (pa_cons (pe_callTy (call_listK (K := K) rfl) (by rfl) T.list_ boot_list (pa_cons (pv 1) pa_nil)) pa_nil)))))
      (pss_cons (ps_asg (pe_ix (ix_listK (K := K) rfl) (pv 4) (pv 2) (fun _ _ => rfl)) (pg_tupK (K := K) rfl rfl (pgs_cons (pg_name (i := 5) sc_law_bad_pairs.nd rfl (by first | exact Or.inl rfl | exact Or.inr rfl)) (pgs_cons (pg_name (i := 6) sc_law_bad_pairs.nd rfl (by first | exact Or.inl rfl | exact Or.inr rfl)) pgs_nil))))
      (pss_cons (ps_set (i := 7) sc_law_bad_pairs.nd rfl (by first | exact Or.inl rfl | exact Or.inr rfl) (pe_callB (call_lenK (K := K) rfl) (by rfl) T.len_ PySem.boot_len (pa_cons (pv 6) pa_nil)))
      (pss_cons (ps_set (i := 8) sc_law_bad_pairs.nd rfl (by first | exact Or.inl rfl | exact Or.inr rfl) (pe_op op_mod (pv 3) (pv 7)))
      (pss_cons (ps_if (pt_cmpR op_eq (pv 1) pe_int (nomark _)) (pss_one (ps_ret (pe_lst pa_nil))) pss_nil)
      (pss_cons (ps_if (pt_cmpR op_eq (pv 1) pe_int (nomark _)) (pss_one (ps_ret (pe_op op_cat (pe_op op_cat (pe_slice (sl_listK (K := K) rfl) (pv 4) po_none (po_some (pv 2))) (pe_lst (pa_cons (pe_tup (pa_cons pe_int (pa_cons (pv 6) pa_nil))) pa_nil))) (pe_slice (sl_listK (K := K) rfl) (pv 4) (po_some (pv 2)) po_none)))) pss_nil)
      (pss_cons (ps_if (pt_cmpR op_eq (pv 1) pe_int (nomark _)) (pss_one (ps_ret (pe_op op_cat (pv 4) (pe_lst (pa_cons (pe_tup (pa_cons (pe_op op_sub pe_int (pv 5)) (pa_cons (pv 6) pa_nil))) (pa_cons (pe_tup (pa_cons (pe_op op_mulB pe_int (pv 5)) (pa_cons (pv 6) pa_nil))) pa_nil)))))) pss_nil)
      (pss_cons (ps_if (PW.pt (pw_and (pt_cmpR op_eq (pv 1) pe_int (nomark _)) (pw_and1 (pt_cmpR op_gt (pv 7) pe_int (nomark _))))) (pss_one (ps_asg (pe_ix (ix_listK (K := K) rfl) (pv 6) (pe_op op_mod (pe_op op_add (pv 8) pe_int) (pv 7)) (fun _ _ => rfl)) (pg_sub (pv 6) (pv 8) set_list))) (pss_one (ps_if (pt_cmpR op_eq (pv 1) pe_int (nomark _)) (pss_one (ps_asg (pe_op op_add (pv 7) (pe_op op_mod (pe_op op_fdivB (pv 3) pe_int) pe_int)) (pg_sub (pv 6) (pv 8) set_list))) (pss_one (ps_if (pt_cmpR op_eq (pv 1) pe_int (nomark _)) (pss_one (ps_asg (pe_op op_sub (pe_op op_sub pe_int pe_int) (pe_op op_mod (pe_op op_fdivB (pv 3) pe_int) pe_int)) (pg_sub (pv 6) (pv 8) set_list))) (pss_one (ps_if (PW.pt (pw_and (pt_cmpR op_eq (pv 1) pe_int (nomark _)) (pw_and1 (pt_cmpR op_gt (pv 7) pe_int (nomark _))))) (pss_cons (ps_expr (pe_bm PySem.F.plainAttrs_list PySem.F.slot_list_pop PySem.F.type_list_pop mt_popAt (pv 6) (pa_cons (pv 8) pa_nil)))
      (pss_one (ps_if (pt_cmpR op_eq (pe_callB (call_lenK (K := K) rfl) (by rfl) T.len_ PySem.boot_len (pa_cons (pv 4) pa_nil)) pe_int (nomark _)) (pss_one (ps_expr (pe_bm PySem.F.plainAttrs_list PySem.F.slot_list_append PySem.F.type_list_append mt_append (pv 6) (pa_cons (pv 7) pa_nil)))) pss_nil))) (pss_one (ps_if (PW.pt (pw_and (pt_cmpR op_eq (pv 1) pe_int (nomark _)) (pw_and1 (pt_cmpR op_gt (pe_callB (call_lenK (K := K) rfl) (by rfl) T.len_ PySem.boot_len (pa_cons (pv 4) pa_nil)) pe_int (nomark _))))) (pss_one (ps_expr (pe_bm PySem.F.plainAttrs_list PySem.F.slot_list_append PySem.F.type_list_append mt_append (pv 6) (pa_cons (pv 7) pa_nil)))) (pss_one (ps_if (pt_cmpR op_eq (pv 1) pe_int (nomark _)) (pss_one (ps_expr (pe_bm0 PySem.F.plainAttrs_list PySem.F.slot_list_clear PySem.F.type_list_clear mt_clear (pv 6)))) (pss_one (ps_ret (pe_comp0 (CompScope.of (sc0 := (defScope s_law_bad_pairs)) (tn := ["_law_pair"]) (cap := ["_law_place"]) (idx := [8]) (by decide +kernel) rfl rfl) (pi_listK (K := K) rfl (pv 4)) (GSet.name (by decide)) (fun _ _ _ _ _ => pg_name (i := 0) (nodupB_iff (l := ["_law_pair", "_law_place"]) (by decide +kernel)) rfl (by first | exact Or.inl rfl | exact Or.inr rfl) (by first | exact .inl rfl | exact .inr rfl)) (fun _ _ _ _ _ => (pe_tup (pa_cons (pe_ix (ix_tupK (K := K) rfl) (pv 0) pe_int (fun _ _ => rfl)) (pa_cons (pe_comp0 (CompScope.of (sc0 := (relabelS _ (defScope s_law_bad_pairs))) (tn := ["_law_k"]) (cap := ["_law_place"]) (idx := [1]) (by decide +kernel) rfl rfl) (pi_range1 rfl T.range_ (pa_cons pe_int pa_nil)) (GSet.name (by decide)) (fun _ _ _ _ _ => pg_name (i := 0) (nodupB_iff (l := ["_law_k", "_law_place"]) (by decide +kernel)) rfl (by first | exact Or.inl rfl | exact Or.inr rfl) (by first | exact .inl rfl | exact .inr rfl)) (fun _ _ _ _ _ => (pe_op op_mod (pe_op op_add (pv 0) (pv 1)) pe_int))) pa_nil))))))))))))))))))
      (pss_one (ps_ret (pv 4))))))))))), fn_valR (Γn := [4]) (N := N_law_bad_pairs) (st_seq (ST.post (Γn := [4]) (st_setM (M := []) 4 (em_comp0 (it_list (es_var 0)) (gt_tup (gts_cons (gt_name 0) (gts_cons (gt_name 1) gts_nil))) (em_tup (am_cons0 (ER.scal (ES.er (es_var 0))) (am_cons0 (em_cb c_list (ar_cons (ES.er (es_var 1)) ar_nil)) am_nil))))))
      (st_region 4 (stp_nameT 5 6 (ES.er (es_var 2))
      (stp_seq (stp_set 7 (EM.er (em_cb c_len (ar_cons (ES.er (es_var 6)) ar_nil))))
      (stp_seq (stp_set 8 (EM.er (em_op o_intC (ES.er (es_var 3)) (ES.er (es_var 7)))))
      (stp_seq (stp_if (tr_test (EM.er (em_op o_eq (ES.er (es_var 1)) (EM.er em_int)))) (stp_ret (EM.er (em_lst am_nil))) stp_next)
      (stp_seq (stp_if (tr_test (EM.er (em_op o_eq (ES.er (es_var 1)) (EM.er em_int)))) (stp_ret (er_op o_catR (er_op o_catR (er_sl (ES.er (es_var 4)) or_none (or_some (ES.er (es_var 2)))) (er_lst (ar_cons (er_tup (ar_cons (EM.er em_int) (ar_cons (ES.er (es_var 6)) ar_nil))) ar_nil))) (er_sl (ES.er (es_var 4)) (or_some (ES.er (es_var 2))) or_none))) stp_next)
      (stp_seq (stp_if (tr_test (EM.er (em_op o_eq (ES.er (es_var 1)) (EM.er em_int)))) (stp_ret (er_op o_catR (ES.er (es_var 4)) (er_lst (ar_cons (er_tup (ar_cons (EM.er (em_op o_int (EM.er em_int) (ES.er (es_var 5)))) (ar_cons (ES.er (es_var 6)) ar_nil))) (ar_cons (er_tup (ar_cons (EM.er (em_op o_intC (EM.er em_int) (ES.er (es_var 5)))) (ar_cons (ES.er (es_var 6)) ar_nil))) ar_nil))))) stp_next)
      (stp_seq (stp_if (tr_and (tr_test (EM.er (em_op o_eq (ES.er (es_var 1)) (EM.er em_int)))) (tr_test (EM.er (em_op o_bl (ES.er (es_var 7)) (EM.er em_int))))) (stp_put 6 0 (ES.er (es_ixL (es_var 6) (EM.er (em_op o_intC (EM.er (em_op o_int (ES.er (es_var 8)) (EM.er em_int))) (ES.er (es_var 7)))))) (ES.er (es_var 8))) (stp_if (tr_test (EM.er (em_op o_eq (ES.er (es_var 1)) (EM.er em_int)))) (stp_put 6 0 (EM.er (em_op o_int (ES.er (es_var 7)) (EM.er (em_op o_intC (EM.er (em_op o_intC (ES.er (es_var 3)) (EM.er em_int))) (EM.er em_int))))) (ES.er (es_var 8))) (stp_if (tr_test (EM.er (em_op o_eq (ES.er (es_var 1)) (EM.er em_int)))) (stp_put 6 0 (EM.er (em_op o_int (EM.er (em_op o_int (EM.er em_int) (EM.er em_int))) (EM.er (em_op o_intC (EM.er (em_op o_intC (ES.er (es_var 3)) (EM.er em_int))) (EM.er em_int))))) (ES.er (es_var 8))) (stp_if (tr_and (tr_test (EM.er (em_op o_eq (ES.er (es_var 1)) (EM.er em_int)))) (tr_test (EM.er (em_op o_bl (ES.er (es_var 7)) (EM.er em_int))))) (stp_seq (stp_pop 6 0 (ES.er (es_var 8)))
      (stp_if (tr_test (EM.er (em_op o_eq (EM.er (em_cb c_len (ar_cons (ES.er (es_var 4)) ar_nil))) (EM.er em_int)))) (stp_app 6 0 (ES.er (es_var 7))) stp_next)) (stp_if (tr_and (tr_test (EM.er (em_op o_eq (ES.er (es_var 1)) (EM.er em_int)))) (tr_test (EM.er (em_op o_bl (EM.er (em_cb c_len (ar_cons (ES.er (es_var 4)) ar_nil))) (EM.er em_int))))) (stp_app 6 0 (ES.er (es_var 7))) (stp_if (tr_test (EM.er (em_op o_eq (ES.er (es_var 1)) (EM.er em_int)))) (stp_clear 6 0) (stp_ret (EM.er (em_comp0 (it_list (es_var 4)) (gt_name 0) (em_tup (am_cons0 (ER.scal (ES.er (es_ixT (es_var 0) (EM.er em_int)))) (am_cons0 (em_comp0 (it_rng1 (ar_cons (EM.er em_int) ar_nil)) (gt_name 0) (em_op o_intC (EM.er (em_op o_int (ES.er (es_var 0)) (ES.er (es_var 1)))) (EM.er em_int))) am_nil))))))))))))
      (stp_ret (ES.er (es_var 4)))))))))))) (fun ds P hS => ?_) h⟩
  obtain ⟨ps, n, a, w, x, rfl, hM, p63, ha, hx, h12, hP⟩ := hS
  obtain ⟨n1, n8, p1, p2, hq⟩ := id hM
  rw [show startD N_law_bad_pairs [.lst (ps.map dPr), .int w, .int a, .int x] = [some (.lst (ps.map dPr)), some (.int w), some (.int a), some (.int x), none, none, none, none, none] from rfl]
  walk_at "go"
  refine comp_any (as := ps) (f := dPr) (p := fun _ => true) (g := dPr) (fun R h => h) (by omega) (fun q' hq' R h => ?_) ?_
  · walk_at "gb"
    exact h
  rw [show (ps.filter fun _ => true) = ps from List.filter_eq_self.mpr fun _ _ => rfl]
  have hqa : ps[a] ∈ ps := List.getElem_mem ha
  have hla : (ps[a]).2.length = n := hM.len hqa
  have b1 := emod_lt (x := x) (n := (n : Int)) (by omega)
  obtain ⟨j, ej⟩ : ∃ j : Nat, x % (n : Int) = j := ⟨(x % (n : Int)).toNat, by omega⟩
  have hj : j < n := by omega
  walk_at "go"
  refine ⟨⟨by omega, by decide, by simp, by simp⟩, ?_⟩
  rw [pr_get ha]
  refine ⟨⟨rfl, scal_ints⟩, by simp, by rw [List.length_map]; omega, by simp, ?_⟩
  rw [List.length_map, hla, ej]
  have memS : ∀ d' : List Int, ((ps[a]).1, d') ∈ ps.set a ((ps[a]).1, d') := fun d' => List.mem_of_getElem? (List.getElem?_set_self ha)
  have fin : ∀ d' : List Int, d'.length ≤ 9 → (∀ m, ¬ Mix m (ps.set a ((ps[a]).1, d'))) → P (.lst ((ps.set a ((ps[a]).1, d')).map dPr)) := fun d' h9 hno => hP _ (by rw [List.length_set]; omega) (fun q hq' => by
    rcases List.mem_or_eq_of_mem_set hq' with z | z
    · rw [hM.len z]; omega
    · rw [z]; show d'.length < 64; omega) hno
  have other : 1 < ps.length → ∃ r : Int × List Int, r.2.length = n ∧ ∀ d' : List Int, r ∈ ps.set a ((ps[a]).1, d') := fun h => by
    obtain ⟨e, he, hne⟩ : ∃ e, e < ps.length ∧ e ≠ a := by
      by_cases h0 : a = 0
      · exact ⟨1, h, by omega⟩
      · exact ⟨0, by omega, by omega⟩
    exact ⟨ps[e], hM.len (List.getElem_mem he), fun d' => List.mem_of_getElem? (i := e) (by rw [List.getElem?_set_ne (Ne.symm hne)]; exact List.getElem?_eq_getElem he)⟩
  have hpa := (hq _ hqa).1
  have hpp := (hq _ hqa).2
  have h12a := h12 _ hqa
  have nine : P (.lst (ps.map fun q => dPr (q.1, (List.range 9).map fun (k : Nat) => ((k : Int) + j) % 9))) := by
    obtain ⟨nn, hnn⟩ : ∃ nn : List Int, nn = (List.range 9).map fun (k : Nat) => ((k : Int) + j) % 9 := ⟨_, rfl⟩
    have hnl : nn.length = 9 := by rw [hnn, List.length_map, List.length_range]
    rw [← hnn]
    have := hP (ps.map fun q => (q.1, nn)) (by rw [List.length_map]; omega) (fun q hq' => by
      obtain ⟨q0, _, rfl⟩ := List.mem_map.mp hq'
      show nn.length < 64
      omega) (noMix_big (q := ((ps[a]).1, nn)) (List.mem_map.mpr ⟨ps[a], hqa, rfl⟩) (.inr (by show 8 < nn.length; omega)))
    rw [List.map_map] at this
    exact this
  by_cases w0 : w = 0
  · rw [if_pos w0]
    exact ⟨by decide, hP [] (by decide) (fun _ h => (nomatch h)) fun m h => absurd h.2.2.1 (by decide)⟩
  rw [if_neg w0]
  by_cases w1 : w = 1
  · rw [if_pos w1, cutD_to (by omega), cutD_from (by omega) (by rw [List.length_map]; omega), Int.toNat_natCast, ← List.map_take, ← List.map_drop]
    refine ⟨by decide, by decide, by simp only [List.length_map, List.length_take]; omega, by simp only [List.length_append, List.length_map, List.length_take, List.length_drop, List.length_singleton]; omega, ?_⟩
    have := hP (ps.take a ++ [(0, (ps[a]).2)] ++ ps.drop a) (by simp only [List.length_append, List.length_take, List.length_drop, List.length_singleton]; omega) (fun q hq' => by
      rcases List.mem_append.mp hq' with z | z
      · rcases List.mem_append.mp z with z | z
        · rw [hM.len (List.mem_of_mem_take z)]; omega
        · rw [List.mem_singleton.mp z]; show (ps[a]).2.length < 64; omega
      · rw [hM.len (List.mem_of_mem_drop z)]; omega) (noMix_parts (q := (0, (ps[a]).2)) (by simp) (by show (0 : Int) < 1; decide))
    rw [List.map_append, List.map_append] at this
    exact this
  rw [if_neg w1]
  by_cases w2 : w = 2
  · rw [if_pos w2, vI0_int]
    refine ⟨by decide, ?_⟩
    rw [vI_int]
    refine ⟨mulC ⟨64, 64, by decide, by omega, by decide⟩, by decide, by decide, by omega, ?_⟩
    have := hP (ps ++ [(0 - (ps[a]).1, (ps[a]).2), (2 * (ps[a]).1, (ps[a]).2)]) (by simp only [List.length_append, List.length_cons, List.length_nil]; omega) (fun q hq' => by
      rcases List.mem_append.mp hq' with z | z
      · rw [hM.len z]; omega
      · simp only [List.mem_cons, List.not_mem_nil, or_false] at z
        rcases z with z | z <;> (rw [z]; show (ps[a]).2.length < 64; omega)) (noMix_parts (q := (0 - (ps[a]).1, (ps[a]).2)) (by simp) (by show 0 - (ps[a]).1 < 1; omega))
    rw [List.map_append] at this
    exact this
  rw [if_neg w2]
  by_cases w3 : w = 3
  · rw [if_pos w3]
    by_cases hn : 1 < n
    · rw [if_pos (by omega)]
      have a3 := emod_lt (x := (j : Int) + 1) (n := (n : Int)) (by omega)
      obtain ⟨k, ek⟩ : ∃ k : Nat, ((j : Int) + 1) % (n : Int) = k := ⟨(((j : Int) + 1) % (n : Int)).toNat, by omega⟩
      have hkj : k ≠ j := fun z => by
        subst z
        by_cases c : k + 1 < n
        · rw [Int.emod_eq_of_lt (by omega) (by omega)] at ek; omega
        · have : (k : Int) + 1 = n := by omega
          rw [this, Int.emod_self] at ek; omega
      refine vPutP_pr (d := (ps[a]).2) (v := (ps[a]).2.getD k 0) (q := j) ha rfl rfl (fun R h => ?_) (fun R h => h) (by omega) ?_
      · walk_at "go"
        rw [ek]
        refine asO_ints (by omega) ?_
        rw [Int.toNat_natCast]
        exact h
      walk_at "v"
      refine fin _ (by rw [List.length_set]; omega) (noMix_dup (memS _) fun hnd => ?_)
      have hdj : ((ps[a]).2.set j ((ps[a]).2.getD k 0))[j]? = some ((ps[a]).2.getD k 0) := List.getElem?_set_self (by omega)
      have hdk : ((ps[a]).2.set j ((ps[a]).2.getD k 0))[k]? = some ((ps[a]).2.getD k 0) := by
        rw [List.getElem?_set_ne (Ne.symm hkj), List.getD_eq_getElem?_getD, List.getElem?_eq_getElem (by omega)]; rfl
      exact hkj ((List.getElem?_inj (i := k) (j := j) (by show k < ((ps[a]).2.set j ((ps[a]).2.getD k 0)).length; rw [List.length_set]; omega) hnd).mp (hdk.trans hdj.symm))
    · rw [if_neg (by omega), if_neg (by omega), if_neg (by omega), if_neg (by omega), if_neg (by omega), if_neg (by omega)]
      refine comp_any (as := ps) (f := dPr) (p := fun _ => true) (g := fun q => dPr (q.1, (List.range 9).map fun (k : Nat) => ((k : Int) + j) % 9)) (fun R h => h) (by omega) (fun q' hq' R h => ?_) ?_
      · walk_at "gb"
        refine comp_rng (lo := 0) (n := 9) (g := fun (k : Nat) => .int (((k : Int) + j) % 9)) (fun R h => ?_) (by omega) (fun k hk R h => ?_) ?_
        · walk_at "go"; exact h
        · walk_at "gb"
          rw [Int.zero_add]
          exact h
        rw [map_int]
        walk_at "gb"
        exact h
      rw [show (ps.filter fun _ => true) = ps from List.filter_eq_self.mpr fun _ _ => rfl]
      exact nine
  rw [if_neg w3]
  by_cases w4 : w = 4
  · rw [if_pos w4]
    have a4 := emod_lt (x := x / 8) (n := 3) (by decide)
    refine vPutP_pr (d := (ps[a]).2) (v := (n : Int) + x / 8 % 3) (q := j) ha rfl rfl (fun R h => ?_) (fun R h => h) (by omega) ?_
    · walk_at "go"
      exact h
    walk_at "v"
    refine fin _ (by rw [List.length_set]; omega) (noMix_out (v := (n : Int) + x / 8 % 3) (memS _) (List.mem_of_getElem? (List.getElem?_set_self (by omega))) (.inr (by rw [List.length_set]; omega)))
  rw [if_neg w4]
  by_cases w5 : w = 5
  · rw [if_pos w5]
    have a4 := emod_lt (x := x / 8) (n := 9) (by decide)
    refine vPutP_pr (d := (ps[a]).2) (v := 0 - 1 - x / 8 % 9) (q := j) ha rfl rfl (fun R h => ?_) (fun R h => h) (by omega) ?_
    · walk_at "go"
      exact h
    walk_at "v"
    refine fin _ (by rw [List.length_set]; omega) (noMix_out (v := 0 - 1 - x / 8 % 9) (memS _) (List.mem_of_getElem? (List.getElem?_set_self (by omega))) (.inl (by omega)))
  rw [if_neg w5]
  by_cases w6 : w = 6
  · rw [if_pos w6]
    by_cases hn : 1 < n
    · rw [if_pos (by omega)]
      refine vPopP_pr (d := (ps[a]).2) (q := j) ha rfl rfl (fun R h => h) (by omega) (by omega) ?_
      rw [Int.toNat_natCast]
      walk_at "v"
      have hle : ((ps[a]).2.eraseIdx j).length = n - 1 := by rw [List.length_eraseIdx_of_lt (by omega)]; omega
      by_cases hp : ps.length = 1
      · rw [if_pos (by rw [List.length_set]; omega)]
        refine vAppP_pr (ps := ps.set a ((ps[a]).1, (ps[a]).2.eraseIdx j)) (d := (ps[a]).2.eraseIdx j) (v := n) (by rw [List.length_set]; exact ha) rfl rfl (fun R h => h) (by omega) ?_
        rw [set_again ha]
        walk_at "v"
        refine fin _ (by rw [List.length_append, hle]; simp; omega) (noMix_out (v := n) (memS _) (by simp) (.inr (by show (((ps[a]).2.eraseIdx j ++ [(n : Int)]).length : Int) ≤ n; rw [List.length_append, hle]; simp; omega)))
      · rw [if_neg (by rw [List.length_set]; omega)]
        walk_at "v"
        obtain ⟨r, hr1, hr2⟩ := other (by omega)
        exact fin _ (by omega) (noMix_len (memS _) (hr2 _) (by show ((ps[a]).2.eraseIdx j).length ≠ _; omega))
    · rw [if_neg (by omega), if_neg (by omega), if_neg (by omega)]
      refine comp_any (as := ps) (f := dPr) (p := fun _ => true) (g := fun q => dPr (q.1, (List.range 9).map fun (k : Nat) => ((k : Int) + j) % 9)) (fun R h => h) (by omega) (fun q' hq' R h => ?_) ?_
      · walk_at "gb"
        refine comp_rng (lo := 0) (n := 9) (g := fun (k : Nat) => .int (((k : Int) + j) % 9)) (fun R h => ?_) (by omega) (fun k hk R h => ?_) ?_
        · walk_at "go"; exact h
        · walk_at "gb"
          rw [Int.zero_add]
          exact h
        rw [map_int]
        walk_at "gb"
        exact h
      rw [show (ps.filter fun _ => true) = ps from List.filter_eq_self.mpr fun _ _ => rfl]
      exact nine
  rw [if_neg w6]
  by_cases w7 : w = 7
  · rw [if_pos w7]
    by_cases hp : 1 < ps.length
    · rw [if_pos (by omega)]
      refine vAppP_pr (d := (ps[a]).2) (v := n) ha rfl rfl (fun R h => h) (by omega) ?_
      walk_at "v"
      obtain ⟨r, hr1, hr2⟩ := other (by omega)
      exact fin _ (by rw [List.length_append]; simp; omega) (noMix_len (memS _) (hr2 _) (by show ((ps[a]).2 ++ [(n : Int)]).length ≠ _; rw [List.length_append]; simp; omega))
    · rw [if_neg (by omega), if_neg (by omega)]
      refine comp_any (as := ps) (f := dPr) (p := fun _ => true) (g := fun q => dPr (q.1, (List.range 9).map fun (k : Nat) => ((k : Int) + j) % 9)) (fun R h => h) (by omega) (fun q' hq' R h => ?_) ?_
      · walk_at "gb"
        refine comp_rng (lo := 0) (n := 9) (g := fun (k : Nat) => .int (((k : Int) + j) % 9)) (fun R h => ?_) (by omega) (fun k hk R h => ?_) ?_
        · walk_at "go"; exact h
        · walk_at "gb"
          rw [Int.zero_add]
          exact h
        rw [map_int]
        walk_at "gb"
        exact h
      rw [show (ps.filter fun _ => true) = ps from List.filter_eq_self.mpr fun _ _ => rfl]
      exact nine
  rw [if_neg w7]
  by_cases w8 : w = 8
  · rw [if_pos w8]
    refine vClearP_pr (d := (ps[a]).2) ha rfl rfl ?_
    walk_at "v"
    exact fin [] (by decide) (noMix_big (memS _) (.inl rfl))
  rw [if_neg w8]
  refine comp_any (as := ps) (f := dPr) (p := fun _ => true) (g := fun q => dPr (q.1, (List.range 9).map fun (k : Nat) => ((k : Int) + j) % 9)) (fun R h => h) (by omega) (fun q' hq' R h => ?_) ?_
  · walk_at "gb"
    refine comp_rng (lo := 0) (n := 9) (g := fun (k : Nat) => .int (((k : Int) + j) % 9)) (fun R h => ?_) (by omega) (fun k hk R h => ?_) ?_
    · walk_at "go"; exact h
    · walk_at "gb"
      rw [Int.zero_add]
      exact h
    rw [map_int]
    walk_at "gb"
    exact h
  rw [show (ps.filter fun _ => true) = ps from List.filter_eq_self.mpr fun _ _ => rfl]
  exact nine
def S_law_refused_table : DSp := fun ds P => ∃ (t : List (List Int)) (n m : Nat), ds = [dT t] ∧ Rect n m t ∧ 1 ≤ n ∧ n ≤ 9 ∧ 1 ≤ m ∧ m ≤ 9 ∧ ¬ EvenT n m t ∧ P (.bl true)
theorem mono_law_refused_table : DMono S_law_refused_table := by
  intro xs P P' k h
  unfold S_law_refused_table at h ⊢
  grind
theorem len_law_refused_table : ∀ ds P, S_law_refused_table ds P → ds.length = 1 := by
  intro ds P h
  obtain ⟨_, _, _, e, _⟩ := h
  rw [e]; rfl
theorem ok_law_refused_table {f : Addr} {fd : FuncData} (F : FnAt K mg "_law_refused_table" s_law_refused_table P_law_refused_table f fd) (A_ : Fns K mg) (T : Txt K mg) {c : Cs} (xs : Exs K mg base c) : FnOk P w K mg base CX0 6 f fd P_law_refused_table (spP K S_law_refused_table) := by
  obtain ⟨f0, d0, E_mixture_of⟩ := A_.h_mixture_of
  have G_mixture_of : FnOk P w K mg base (CXR P w) 5 f0 d0 P_mixture_of (spX K (S_mixture_of c)) := ok_mixture_of E_mixture_of A_ T xs
  refine F.fn.ok sc_law_refused_table (fun vs H Q E h => spP_len len_law_refused_table h) (fun cdv A outer s H vs Q E hr h => ?_)
  refine ⟨_, (pss_cons (ps_set (i := 1) sc_law_refused_table.nd rfl (by first | exact Or.inl rfl | exact Or.inr rfl) pe_int)
      (pss_cons (ps_try (i := 2) rfl rfl G_mixture_of (hr.mono (by decide)) rfl E_mixture_of.mg E_mixture_of.fn.kp E_mixture_of.bd (pa_cons (pv 0) pa_nil) xs.o_NotEven xs.o_NotEven xs.m_NotEven rfl (by simp) sc_law_refused_table.nd rfl rfl (fun a oe hc => (pss_cons (ps_set (i := 1) sc_law_refused_table.nd rfl (by first | exact Or.inl rfl | exact Or.inr rfl) pe_int)
      (pss_cons (ps_if (pt_val (pe_callB (call_isx hc xs.k_NotEven) (by rfl) T.isinstance_ boot_isinstance (pa_cons (pv 2) (pa_cons (pe_tup (pa_cons (pe_glob (v := .ref c.NoTable) rfl xs.m_NoTable rfl) (pa_cons (pe_glob (v := .ref c.NotAlike) rfl xs.m_NotAlike rfl) (pa_cons (pe_glob (v := .ref c.NoStep) rfl xs.m_NoStep rfl) (pa_cons (pe_glob (v := .ref c.NoMix) rfl xs.m_NoMix rfl) (pa_cons (pe_glob (v := .ref c.NoBottom) rfl xs.m_NoBottom rfl) (pa_cons (pe_glob (v := .ref c.NoSwap) rfl xs.m_NoSwap rfl) pa_nil))))))) pa_nil)))) (pss_one (ps_set (i := 1) sc_law_refused_table.nd rfl (by first | exact Or.inl rfl | exact Or.inr rfl) pe_int)) pss_nil)
      (pss_one (ps_if (pt_val (pe_callB (call_isx hc xs.k_NotEven) (by rfl) T.isinstance_ boot_isinstance (pa_cons (pv 2) (pa_cons (pe_tup (pa_cons (pe_glob (v := .ref c.NoBounds) rfl xs.m_NoBounds rfl) (pa_cons (pe_glob (v := .ref c.NoPlace) rfl xs.m_NoPlace rfl) (pa_cons (pe_glob (v := .ref c.NoSums) rfl xs.m_NoSums rfl) (pa_cons (pe_glob (v := .ref c.TooGreat) rfl xs.m_TooGreat rfl) (pa_cons (pe_glob (v := .ref c.NoNumber) rfl xs.m_NoNumber rfl) (pa_cons (pe_glob (v := .ref c.NoText) rfl xs.m_NoText rfl) pa_nil))))))) pa_nil)))) (pss_one (ps_set (i := 1) sc_law_refused_table.nd rfl (by first | exact Or.inl rfl | exact Or.inr rfl) pe_int)) pss_nil))))))
      (pss_cons (ps_if (pt_cmpR op_ne (pv 1) pe_int (nomark _)) (pss_one (ps_ret pe_bl)) pss_nil)
      (pss_cons (ps_try (i := 2) rfl rfl G_mixture_of (hr.mono (by decide)) rfl E_mixture_of.mg E_mixture_of.fn.kp E_mixture_of.bd (pa_cons (pv 0) pa_nil) xs.o_NotEven xs.o_MixError xs.m_MixError rfl (by simp) sc_law_refused_table.nd rfl rfl (fun a oe hc => (pss_one (ps_set (i := 1) sc_law_refused_table.nd rfl (by first | exact Or.inl rfl | exact Or.inr rfl) (pe_op op_mulB pe_int (pe_callTy call_int1 (by rfl) T.int_ boot_int (pa_cons (pe_callB (call_isx hc xs.k_NotEven) (by rfl) T.isinstance_ boot_isinstance (pa_cons (pv 2) (pa_cons (pe_bltn (v := .ty "ValueError") rfl T.ValueError_ (by rfl) rfl) pa_nil))) pa_nil)))))))
      (pss_one (ps_ret (pe_cmpR op_eq (pv 1) pe_int (nomark _)))))))), fn_val (Γn := []) (N := N_law_refused_table) (st_seq (ST.post (Γn := []) (st_setS 1 (EM.es em_int)))
      (st_seq (st_tryI 2 mono_mixture_of (ar_cons (ES.er (es_var 0)) ar_nil) (sti_seq (sti_set 1 (EM.es em_int)) (sti_seq (sti_if (b := false) (fun a σ H Q hi q => isx_tup (fun _ _ _ h => h) (by simp) xs.t1 hi (fun H' s => ⟨_, rfl, q H' s⟩)) (sti_set 1 (EM.es em_int)) sti_next) (sti_if (b := false) (fun a σ H Q hi q => isx_tup (fun _ _ _ h => h) (by simp) xs.t2 hi (fun H' s => ⟨_, rfl, q H' s⟩)) (sti_set 1 (EM.es em_int)) sti_next))))
      (st_seq (st_if (tr_test (EM.er (em_op o_ne (ES.er (es_var 1)) (EM.er em_int)))) (st_ret (M := []) em_bl) st_next)
      (st_seq (st_tryI 2 mono_mixture_of (ar_cons (ES.er (es_var 0)) ar_nil) (sti_know 1 (n := 3) (fun a σ H Q hi q => isx_one xs.v_NotEven hi (.inr ⟨true, rfl, ⟨3, 1, rfl, rfl, ⟨64, 64, by decide, by decide, by decide⟩, q _ (Same.refl _)⟩⟩))))
      (st_ret (M := []) (em_op o_eq (ES.er (es_var 1)) (EM.er em_int))))))) (fun ds P hS => ?_) h⟩
  obtain ⟨t, n, m, rfl, hR, n1, n9, m1, m9, hno, hP⟩ := hS
  rw [show startD N_law_refused_table [dT t] = [some (dT t), none, none] from rfl]
  walk_at "go"
  refine ⟨t, n, m, rfl, hR, n1, n9, m1, m9, fun h => absurd h hno, fun _ => ⟨rfl, by omega, t, n, m, rfl, hR, n1, n9, m1, m9, fun h => absurd h hno, fun _ => ⟨rfl, ?_⟩⟩⟩
  rw [decide_true]
  exact hP
def S_law_refused_pairs : DSp := fun ds P => ∃ (ps : List (Int × List Int)), ds = [.lst (ps.map dPr)] ∧ ps.length ≤ 200 ∧ (∀ q ∈ ps, q.2.length < 64) ∧ (∀ n, ¬ Mix n ps) ∧ P (.bl true)
theorem mono_law_refused_pairs : DMono S_law_refused_pairs := by
  intro xs P P' k h
  unfold S_law_refused_pairs at h ⊢
  grind
theorem len_law_refused_pairs : ∀ ds P, S_law_refused_pairs ds P → ds.length = 1 := by
  intro ds P h
  obtain ⟨_, e, _⟩ := h
  rw [e]; rfl
theorem ok_law_refused_pairs {f : Addr} {fd : FuncData} (F : FnAt K mg "_law_refused_pairs" s_law_refused_pairs P_law_refused_pairs f fd) (A_ : Fns K mg) (T : Txt K mg) {c : Cs} (xs : Exs K mg base c) : FnOk P w K mg base CX0 4 f fd P_law_refused_pairs (spP K S_law_refused_pairs) := by
  obtain ⟨f0, d0, E_told_by⟩ := A_.h_told_by
  have G_told_by : FnOk P w K mg base (CXR P w) 3 f0 d0 P_told_by (spX K (S_told_by c)) := ok_told_by E_told_by A_ T xs
  refine F.fn.ok sc_law_refused_pairs (fun vs H Q E h => spP_len len_law_refused_pairs h) (fun cdv A outer s H vs Q E hr h => ?_)
  refine ⟨_, (pss_cons (ps_set (i := 1) sc_law_refused_pairs.nd rfl (by first | exact Or.inl rfl | exact Or.inr rfl) pe_int)
      (pss_cons (ps_try (i := 2) rfl rfl G_told_by (hr.mono (by decide)) rfl E_told_by.mg E_told_by.fn.kp E_told_by.bd (pa_cons (pv 0) pa_nil) xs.o_NoMix xs.o_NoMix xs.m_NoMix rfl (by simp) sc_law_refused_pairs.nd rfl rfl (fun a oe hc => (pss_cons (ps_set (i := 1) sc_law_refused_pairs.nd rfl (by first | exact Or.inl rfl | exact Or.inr rfl) pe_int)
      (pss_cons (ps_if (pt_val (pe_callB (call_isx hc xs.k_NoMix) (by rfl) T.isinstance_ boot_isinstance (pa_cons (pv 2) (pa_cons (pe_tup (pa_cons (pe_glob (v := .ref c.NoTable) rfl xs.m_NoTable rfl) (pa_cons (pe_glob (v := .ref c.NotAlike) rfl xs.m_NotAlike rfl) (pa_cons (pe_glob (v := .ref c.NoStep) rfl xs.m_NoStep rfl) (pa_cons (pe_glob (v := .ref c.NotEven) rfl xs.m_NotEven rfl) (pa_cons (pe_glob (v := .ref c.NoBottom) rfl xs.m_NoBottom rfl) (pa_cons (pe_glob (v := .ref c.NoSwap) rfl xs.m_NoSwap rfl) pa_nil))))))) pa_nil)))) (pss_one (ps_set (i := 1) sc_law_refused_pairs.nd rfl (by first | exact Or.inl rfl | exact Or.inr rfl) pe_int)) pss_nil)
      (pss_one (ps_if (pt_val (pe_callB (call_isx hc xs.k_NoMix) (by rfl) T.isinstance_ boot_isinstance (pa_cons (pv 2) (pa_cons (pe_tup (pa_cons (pe_glob (v := .ref c.NoBounds) rfl xs.m_NoBounds rfl) (pa_cons (pe_glob (v := .ref c.NoPlace) rfl xs.m_NoPlace rfl) (pa_cons (pe_glob (v := .ref c.NoSums) rfl xs.m_NoSums rfl) (pa_cons (pe_glob (v := .ref c.TooGreat) rfl xs.m_TooGreat rfl) (pa_cons (pe_glob (v := .ref c.NoNumber) rfl xs.m_NoNumber rfl) (pa_cons (pe_glob (v := .ref c.NoText) rfl xs.m_NoText rfl) pa_nil))))))) pa_nil)))) (pss_one (ps_set (i := 1) sc_law_refused_pairs.nd rfl (by first | exact Or.inl rfl | exact Or.inr rfl) pe_int)) pss_nil))))))
      (pss_cons (ps_if (pt_cmpR op_ne (pv 1) pe_int (nomark _)) (pss_one (ps_ret pe_bl)) pss_nil)
      (pss_cons (ps_try (i := 2) rfl rfl G_told_by (hr.mono (by decide)) rfl E_told_by.mg E_told_by.fn.kp E_told_by.bd (pa_cons (pv 0) pa_nil) xs.o_NoMix xs.o_MixError xs.m_MixError rfl (by simp) sc_law_refused_pairs.nd rfl rfl (fun a oe hc => (pss_one (ps_set (i := 1) sc_law_refused_pairs.nd rfl (by first | exact Or.inl rfl | exact Or.inr rfl) (pe_op op_mulB pe_int (pe_callTy call_int1 (by rfl) T.int_ boot_int (pa_cons (pe_callB (call_isx hc xs.k_NoMix) (by rfl) T.isinstance_ boot_isinstance (pa_cons (pv 2) (pa_cons (pe_bltn (v := .ty "ValueError") rfl T.ValueError_ (by rfl) rfl) pa_nil))) pa_nil)))))))
      (pss_one (ps_ret (pe_cmpR op_eq (pv 1) pe_int (nomark _)))))))), fn_val (Γn := []) (N := N_law_refused_pairs) (st_seq (ST.post (Γn := []) (st_setS 1 (EM.es em_int)))
      (st_seq (st_tryI 2 mono_told_by (ar_cons (ES.er (es_var 0)) ar_nil) (sti_seq (sti_set 1 (EM.es em_int)) (sti_seq (sti_if (b := false) (fun a σ H Q hi q => isx_tup (fun _ _ _ h => h) (by simp) xs.t3 hi (fun H' s => ⟨_, rfl, q H' s⟩)) (sti_set 1 (EM.es em_int)) sti_next) (sti_if (b := false) (fun a σ H Q hi q => isx_tup (fun _ _ _ h => h) (by simp) xs.t4 hi (fun H' s => ⟨_, rfl, q H' s⟩)) (sti_set 1 (EM.es em_int)) sti_next))))
      (st_seq (st_if (tr_test (EM.er (em_op o_ne (ES.er (es_var 1)) (EM.er em_int)))) (st_ret (M := []) em_bl) st_next)
      (st_seq (st_tryI 2 mono_told_by (ar_cons (ES.er (es_var 0)) ar_nil) (sti_know 1 (n := 3) (fun a σ H Q hi q => isx_one xs.v_NoMix hi (.inr ⟨true, rfl, ⟨3, 1, rfl, rfl, ⟨64, 64, by decide, by decide, by decide⟩, q _ (Same.refl _)⟩⟩))))
      (st_ret (M := []) (em_op o_eq (ES.er (es_var 1)) (EM.er em_int))))))) (fun ds P hS => ?_) h⟩
  obtain ⟨ps, rfl, p2, h64, hno, hP⟩ := hS
  rw [show startD N_law_refused_pairs [.lst (ps.map dPr)] = [some (.lst (ps.map dPr)), none, none] from rfl]
  walk_at "go"
  refine ⟨ps, rfl, p2, h64, fun n h => absurd h (hno n), fun _ => ⟨rfl, by omega, ps, rfl, p2, h64, fun n h => absurd h (hno n), fun _ => ⟨rfl, ?_⟩⟩⟩
  rw [decide_true]
  exact hP
def S_law_copies : DSp := fun ds P => ∃ (ps : List (Int × List Int)), ds = [.lst (ps.map dPr)] ∧ ps.length ≤ 200 ∧ P (.lst (ps.map dPr))
theorem mono_law_copies : DMono S_law_copies := by
  intro xs P P' k h
  unfold S_law_copies at h ⊢
  grind
theorem len_law_copies : ∀ ds P, S_law_copies ds P → ds.length = 1 := by
  intro ds P h
  obtain ⟨_, e, _⟩ := h
  rw [e]; rfl
theorem ok_law_copies {f : Addr} {fd : FuncData} (F : FnAt K mg "_law_copies" s_law_copies P_law_copies f fd) (A_ : Fns K mg) (T : Txt K mg) {c : Cs} (xs : Exs K mg base c) : FnOk P w K mg base CX0 1 f fd P_law_copies (spP K S_law_copies) := by
  refine F.fn.ok sc_law_copies (fun vs H Q E h => spP_len len_law_copies h) (fun cdv A outer s H vs Q E hr h => ?_)
  refine ⟨_, (pss_one (ps_ret (pe_comp0 (CompScope.of (sc0 := (defScope s_law_copies)) (tn := ["_law_parts", "_law_dealing_here"]) (cap := []) (idx := []) (by decide +kernel) rfl rfl) (pi_listK (K := K) rfl (pv 0)) (GSet.tup (GSets.cons (by decide) (GSets.cons (by decide) GSets.nil))) (fun _ _ _ _ _ => pg_tupK (K := K) (n := 2) rfl rfl (pgs_cons (pg_name (i := 0) (nodupB_iff (l := ["_law_parts", "_law_dealing_here"]) (by decide +kernel)) rfl (by first | exact Or.inl rfl | exact Or.inr rfl) (by first | exact .inl rfl | exact .inr rfl)) (pgs_cons (pg_name (i := 1) (nodupB_iff (l := ["_law_parts", "_law_dealing_here"]) (by decide +kernel)) rfl (by first | exact Or.inl rfl | exact Or.inr rfl) (by first | exact .inl rfl | exact .inr rfl)) pgs_nil))) (fun _ _ _ _ _ => (pe_tup (pa_cons (pv 0) (pa_cons (pe_callTy (call_listK (K := K) rfl) (by rfl) T.list_ boot_list (pa_cons (pv 1) pa_nil)) pa_nil))))))), fn_val (Γn := []) (N := N_law_copies) (st_ret (M := []) (em_comp0 (it_list (es_var 0)) (gt_tup (gts_cons (gt_name 0) (gts_cons (gt_name 1) gts_nil))) (em_tup (am_cons0 (ER.scal (ES.er (es_var 0))) (am_cons0 (em_cb c_list (ar_cons (ES.er (es_var 1)) ar_nil)) am_nil))))) (fun ds P hS => ?_) h⟩
  obtain ⟨ps, rfl, p2, hP⟩ := hS
  rw [show startD N_law_copies [.lst (ps.map dPr)] = [some (.lst (ps.map dPr))] from rfl]
  walk_at "go"
  refine comp_any (as := ps) (f := dPr) (p := fun _ => true) (g := dPr) (fun R h => h) (by omega) (fun q' hq' R h => ?_) ?_
  · walk_at "gb"
    exact h
  rw [show (ps.filter fun _ => true) = ps from List.filter_eq_self.mpr fun _ _ => rfl]
  exact hP
theorem tab_ev {n : Nat} {ps : List (Int × List Int)} {t : List (List Int)} (hM : Mix n ps) (hT : Tab n ps t) : ∃ b, 1 ≤ b ∧ Bir.Ev n t b := by
  have pm : ∀ q ∈ ps, ∃ p, q.2 = p.map (fun (r : Nat) => (r : Int)) ∧ Bir.Pm n p := fun q hq => by
    obtain ⟨p, e, hp⟩ := Mat.perm_nat (rs := List.range n) (hM.2.2.2.2 q hq).2
    have hpl := hp.length_eq
    rw [List.length_range] at hpl
    exact ⟨p, e, hpl, fun i c e => List.mem_range.mp (hp.mem_iff.mp (List.mem_of_getElem? e)), hp.nodup_iff.mpr List.nodup_range⟩
  have hw : ∀ q ∈ ps, 1 ≤ q.1 := fun q hq => (hM.2.2.2.2 q hq).1
  have main : ∀ l : List (Int × List Int), (∀ q ∈ l, ∃ p, q.2 = p.map (fun (r : Nat) => (r : Int)) ∧ Bir.Pm n p) → (∀ q ∈ l, 1 ≤ q.1) →
      (∀ i j : Nat, i < n → j < n → 0 ≤ (l.map fun q => if q.2.getD i 0 = (j : Int) then q.1 else 0).sum) ∧ (∀ i : Nat, i < n → Bir.S n (fun j => (l.map fun q => if q.2.getD i 0 = (j : Int) then q.1 else 0).sum) = (l.map (·.1)).sum) ∧ (∀ j : Nat, j < n → Bir.S n (fun i => (l.map fun q => if q.2.getD i 0 = (j : Int) then q.1 else 0).sum) = (l.map (·.1)).sum) ∧ (l.length : Int) ≤ (l.map (·.1)).sum := by
    intro l
    induction l with
    | nil =>
      intro _ _
      refine ⟨fun _ _ _ _ => by simp, fun i _ => ?_, fun j _ => ?_, by simp⟩
      · rw [Bir.S_congr (g := fun _ => 0) fun _ _ => by simp, Bir.S_const]; simp
      · rw [Bir.S_congr (g := fun _ => 0) fun _ _ => by simp, Bir.S_const]; simp
    | cons q l ih =>
      intro h1 h2
      obtain ⟨i1, i2, i3, i4⟩ := ih (fun q' h' => h1 q' (List.mem_cons_of_mem _ h')) (fun q' h' => h2 q' (List.mem_cons_of_mem _ h'))
      obtain ⟨p, ep, hp⟩ := h1 q List.mem_cons_self
      have hq1 := h2 q List.mem_cons_self
      have hpl := hp.len
      have key : ∀ i j : Nat, i < n → (if q.2.getD i 0 = (j : Int) then q.1 else 0) = Bir.e p i j * q.1 := fun i j hi => by
        unfold Bir.e
        rw [ep]
        by_cases z : p[i]? = some j
        · rw [if_pos z, if_pos ((Bir.getD_cast (by omega)).mpr z)]; omega
        · rw [if_neg z, if_neg fun y => z ((Bir.getD_cast (by omega)).mp y)]; omega
      refine ⟨fun i j hi hj => ?_, fun i hi => ?_, fun j hj => ?_, ?_⟩
      · rw [List.map_cons, List.sum_cons]
        have := i1 i j hi hj
        split <;> omega
      · rw [Bir.S_congr (g := fun j => Bir.e p i j * q.1 + (l.map fun q => if q.2.getD i 0 = (j : Int) then q.1 else 0).sum) fun j hj => by rw [List.map_cons, List.sum_cons, key i j hi], Bir.S_add, Bir.S_mul, hp.row hi, i2 i hi, List.map_cons, List.sum_cons]; omega
      · rw [Bir.S_congr (g := fun i => Bir.e p i j * q.1 + (l.map fun q => if q.2.getD i 0 = (j : Int) then q.1 else 0).sum) fun i hi => by rw [List.map_cons, List.sum_cons, key i j hi], Bir.S_add, Bir.S_mul, hp.col hj, i3 j hj, List.map_cons, List.sum_cons]; omega
      · rw [List.length_cons, List.map_cons, List.sum_cons]; omega
  obtain ⟨m1, m2, m3, m4⟩ := main ps pm hw
  have hp1 := hM.2.2.1
  refine ⟨(ps.map (·.1)).sum, by omega, hT.1, fun i j hi hj => ?_, fun i hi => ?_, fun j hj => ?_⟩
  · rw [hT.2 i j hi hj]; exact m1 i j hi hj
  · rw [← m2 i hi]; exact Bir.S_congr fun j hj => hT.2 i j hi hj
  · rw [← m3 j hj]; exact Bir.S_congr fun i hi => hT.2 i j hi hj
def S_law : DSp := fun ds P => ∃ ns, ds = [.scr ns] ∧ ns.length ≤ 63 ∧ P (.bl true)
theorem law_goal {ns : List Int} {P : DK} (hl : ns.length ≤ 63) (h : P (.bl true)) : S_law [.scr ns] P := ⟨ns, rfl, hl, h⟩
theorem mono_law : DMono S_law := by
  intro xs P P' k h
  unfold S_law at h ⊢
  grind
theorem len_law : ∀ ds P, S_law ds P → ds.length = 1 := by
  intro ds P h
  obtain ⟨_, e, _⟩ := h
  rw [e]; rfl
theorem ok_law {f : Addr} {fd : FuncData} (F : FnAt K mg "law" s_law P_law f fd) (A_ : Fns K mg) (T : Txt K mg) {c : Cs} (xs : Exs K mg base c) : FnOk P w K mg base CX0 7 f fd P_law (spP K S_law) := by
  obtain ⟨f0, d0, E_law_size⟩ := A_.h_law_size
  have G_law_size : FnOk P w K mg base CX0 2 f0 d0 P_law_size (spP K S_law_size) := ok_law_size E_law_size A_ T xs
  obtain ⟨f1, d1, E_law_dealt⟩ := A_.h_law_dealt
  have G_law_dealt : FnOk P w K mg base CX0 2 f1 d1 P_law_dealt (spP K S_law_dealt) := ok_law_dealt E_law_dealt A_ T xs
  obtain ⟨f2, d2, E_law_tops⟩ := A_.h_law_tops
  have G_law_tops : FnOk P w K mg base CX0 1 f2 d2 P_law_tops (spP K S_law_tops) := ok_law_tops E_law_tops A_ T xs
  obtain ⟨f3, d3, E_law_mixed⟩ := A_.h_law_mixed
  have G_law_mixed : FnOk P w K mg base CX0 1 f3 d3 P_law_mixed (spP K S_law_mixed) := ok_law_mixed E_law_mixed A_ T xs
  obtain ⟨f4, d4, E_law_bad_table⟩ := A_.h_law_bad_table
  have G_law_bad_table : FnOk P w K mg base CX0 1 f4 d4 P_law_bad_table (spR K S_law_bad_table) := ok_law_bad_table E_law_bad_table A_ T xs
  obtain ⟨f5, d5, E_law_bad_pairs⟩ := A_.h_law_bad_pairs
  have G_law_bad_pairs : FnOk P w K mg base CX0 1 f5 d5 P_law_bad_pairs (spR K S_law_bad_pairs) := ok_law_bad_pairs E_law_bad_pairs A_ T xs
  obtain ⟨f6, d6, E_law_copies⟩ := A_.h_law_copies
  have G_law_copies : FnOk P w K mg base CX0 1 f6 d6 P_law_copies (spP K S_law_copies) := ok_law_copies E_law_copies A_ T xs
  obtain ⟨f7, d7, E_told_by⟩ := A_.h_told_by
  have G_told_by : FnOk P w K mg base (CXR P w) 3 f7 d7 P_told_by (spX K (S_told_by c)) := ok_told_by E_told_by A_ T xs
  obtain ⟨f8, d8, E_law_refused_table⟩ := A_.h_law_refused_table
  have G_law_refused_table : FnOk P w K mg base CX0 6 f8 d8 P_law_refused_table (spP K S_law_refused_table) := ok_law_refused_table E_law_refused_table A_ T xs
  obtain ⟨f9, d9, E_law_refused_pairs⟩ := A_.h_law_refused_pairs
  have G_law_refused_pairs : FnOk P w K mg base CX0 4 f9 d9 P_law_refused_pairs (spP K S_law_refused_pairs) := ok_law_refused_pairs E_law_refused_pairs A_ T xs
  obtain ⟨f10, d10, E_mixture_of⟩ := A_.h_mixture_of
  have G_mixture_of : FnOk P w K mg base (CXR P w) 5 f10 d10 P_mixture_of (spX K (S_mixture_of c)) := ok_mixture_of E_mixture_of A_ T xs
  refine F.fn.ok sc_law (fun vs H Q E h => spP_len len_law h) (fun cdv A outer s H vs Q E hr h => ?_)
  refine ⟨_, (pss_cons (ps_set (i := 1) sc_law.nd rfl (by first | exact Or.inl rfl | exact Or.inr rfl) (pe_call G_law_size (hr.mono (by decide)) rfl E_law_size.mg E_law_size.fn.kp E_law_size.bd .nil pass0 (pa_cons (pv 0) pa_nil)))
      (pss_cons (ps_set (i := 2) sc_law.nd rfl (by first | exact Or.inl rfl | exact Or.inr rfl) (pe_call G_law_dealt (hr.mono (by decide)) rfl E_law_dealt.mg E_law_dealt.fn.kp E_law_dealt.bd .nil pass0 (pa_cons (pv 0) (pa_cons (pv 1) pa_nil))))
      (pss_cons (ps_set (i := 3) sc_law.nd rfl (by first | exact Or.inl rfl | exact Or.inr rfl) (pe_call G_law_tops (hr.mono (by decide)) rfl E_law_tops.mg E_law_tops.fn.kp E_law_tops.bd .nil pass0 (pa_cons (pv 2) (pa_cons (pv 1) pa_nil))))
      (pss_cons (ps_set (i := 4) sc_law.nd rfl (by first | exact Or.inl rfl | exact Or.inr rfl) (pe_call G_law_mixed (hr.mono (by decide)) rfl E_law_mixed.mg E_law_mixed.fn.kp E_law_mixed.bd .nil pass0 (pa_cons (pv 0) (pa_cons pe_int pa_nil))))
      (pss_cons (ps_set (i := 5) sc_law.nd rfl (by first | exact Or.inl rfl | exact Or.inr rfl) (pe_call G_law_bad_table (hr.mono (by decide)) rfl E_law_bad_table.mg E_law_bad_table.fn.kp E_law_bad_table.bd .nil pass0 (pa_cons (pv 3) (pa_cons (pv 4) pa_nil))))
      (pss_cons (ps_setC0 (i := 6) (CompScope.of (sc0 := (defScope s_law)) (tn := ["_law_row"]) (cap := []) (idx := []) (by decide +kernel) rfl rfl) sc_law.nd rfl (by first | exact Or.inl rfl | exact Or.inr rfl) (pi_listK (K := K) rfl (pv 5)) (GSet.name (by decide)) (fun _ _ _ _ _ => pg_name (i := 0) (nodupB_iff (l := ["_law_row"]) (by decide +kernel)) rfl (by first | exact Or.inl rfl | exact Or.inr rfl) (by first | exact .inl rfl | exact .inr rfl)) (fun _ _ _ _ _ => (pe_callTy (call_listK (K := K) rfl) (by rfl) T.list_ boot_list (pa_cons (pv 0) pa_nil))))
      (pss_cons (ps_set (i := 7) sc_law.nd rfl (by first | exact Or.inl rfl | exact Or.inr rfl) (pe_call G_law_bad_pairs (hr.mono (by decide)) rfl E_law_bad_pairs.mg E_law_bad_pairs.fn.kp E_law_bad_pairs.bd .nil pass0 (pa_cons (pv 2) (pa_cons (pe_op op_mod (pe_op op_fdivB (pv 4) pe_int) pe_int) (pa_cons (pe_op op_mod (pe_op op_fdivB (pv 4) pe_int) (pe_callB (call_lenK (K := K) rfl) (by rfl) T.len_ PySem.boot_len (pa_cons (pv 2) pa_nil))) (pa_cons (pe_op op_fdivB (pv 4) pe_int) pa_nil))))))
      (pss_cons (ps_set (i := 8) sc_law.nd rfl (by first | exact Or.inl rfl | exact Or.inr rfl) (pe_call G_law_copies (hr.mono (by decide)) rfl E_law_copies.mg E_law_copies.fn.kp E_law_copies.bd .nil pass0 (pa_cons (pv 7) pa_nil)))
      (pss_cons (ps_if (pt_cmpR (op_neL hr.units) (pe_call G_told_by (hr.mono (by decide)) rfl E_told_by.mg E_told_by.fn.kp E_told_by.bd .nil passN (pa_cons (pe_call G_law_copies (hr.mono (by decide)) rfl E_law_copies.mg E_law_copies.fn.kp E_law_copies.bd .nil pass0 (pa_cons (pv 2) pa_nil)) pa_nil)) (pv 3) (nomark _)) (pss_one (ps_ret pe_bl)) pss_nil)
      (pss_cons (ps_if (PW.pt (pw_or (pt_not (pt_val (pe_call G_law_refused_table (hr.mono (by decide)) rfl E_law_refused_table.mg E_law_refused_table.fn.kp E_law_refused_table.bd .nil pass0 (pa_cons (pv 6) pa_nil)))) (pw_or (pt_cmpR (op_neL hr.units) (pv 6) (pv 5) (nomark _)) (pw_or (pt_not (pt_val (pe_call G_law_refused_pairs (hr.mono (by decide)) rfl E_law_refused_pairs.mg E_law_refused_pairs.fn.kp E_law_refused_pairs.bd .nil pass0 (pa_cons (pv 8) pa_nil)))) (pw_or1 (pt_cmpR (op_neL hr.units) (pv 8) (pv 7) (nomark _))))))) (pss_one (ps_ret pe_bl)) pss_nil)
      (pss_one (ps_ret (pe_and (pe_cmpR op_gt (pe_callB (call_lenK (K := K) rfl) (by rfl) T.len_ PySem.boot_len (pa_cons (pe_call G_mixture_of (hr.mono (by decide)) rfl E_mixture_of.mg E_mixture_of.fn.kp E_mixture_of.bd .nil passN (pa_cons (pe_comp0 (CompScope.of (sc0 := (defScope s_law)) (tn := ["_law_row"]) (cap := []) (idx := []) (by decide +kernel) rfl rfl) (pi_listK (K := K) rfl (pv 3)) (GSet.name (by decide)) (fun _ _ _ _ _ => pg_name (i := 0) (nodupB_iff (l := ["_law_row"]) (by decide +kernel)) rfl (by first | exact Or.inl rfl | exact Or.inr rfl) (by first | exact .inl rfl | exact .inr rfl)) (fun _ _ _ _ _ => (pe_callTy (call_listK (K := K) rfl) (by rfl) T.list_ boot_list (pa_cons (pv 0) pa_nil)))) pa_nil)) pa_nil)) pe_int (nomark _)) (pe_one (pe_cmpR (op_eqL hr.units) (pe_call G_told_by (hr.mono (by decide)) rfl E_told_by.mg E_told_by.fn.kp E_told_by.bd .nil passN (pa_cons (pe_call G_law_copies (hr.mono (by decide)) rfl E_law_copies.mg E_law_copies.fn.kp E_law_copies.bd .nil pass0 (pa_cons (pv 2) pa_nil)) pa_nil)) (pv 3) (nomark _)))))))))))))))), fn_val (Γn := []) (N := N_law) (st_seq (ST.post (Γn := []) (st_setS 1 (EM.es (em_call (S := S_law_size) mono_law_size (ar_cons (ES.er (es_var 0)) ar_nil)))))
      (st_seq (ST.post (Γn := []) (st_setS 2 (EM.es (em_call (S := S_law_dealt) mono_law_dealt (ar_cons (ES.er (es_var 0)) (ar_cons (ES.er (es_var 1)) ar_nil))))))
      (st_seq (ST.post (Γn := []) (st_setS 3 (EM.es (em_call (S := S_law_tops) mono_law_tops (ar_cons (ES.er (es_var 2)) (ar_cons (ES.er (es_var 1)) ar_nil))))))
      (st_seq (ST.post (Γn := []) (st_setS 4 (EM.es (em_call (S := S_law_mixed) mono_law_mixed (ar_cons (ES.er (es_var 0)) (ar_cons (EM.er em_int) ar_nil))))))
      (st_seq (ST.post (Γn := []) (st_setS 5 (ER.es0 (er_call (S := S_law_bad_table) mono_law_bad_table (ar_cons (ES.er (es_var 3)) (ar_cons (ES.er (es_var 4)) ar_nil))))))
      (st_seq (ST.post (Γn := []) (st_setS 6 (EM.es (em_comp0 (it_list (es_var 5)) (gt_name 0) (em_cb c_list (ar_cons (ES.er (es_var 0)) ar_nil))))))
      (st_seq (ST.post (Γn := []) (st_setS 7 (ER.es0 (er_call (S := S_law_bad_pairs) mono_law_bad_pairs (ar_cons (ES.er (es_var 2)) (ar_cons (EM.er (em_op o_intC (EM.er (em_op o_intC (ES.er (es_var 4)) (EM.er em_int))) (EM.er em_int))) (ar_cons (EM.er (em_op o_intC (EM.er (em_op o_intC (ES.er (es_var 4)) (EM.er em_int))) (EM.er (em_cb c_len (ar_cons (ES.er (es_var 2)) ar_nil))))) (ar_cons (EM.er (em_op o_intC (ES.er (es_var 4)) (EM.er em_int))) ar_nil))))))))
      (st_seq (ST.post (Γn := []) (st_setS 8 (EM.es (em_call (S := S_law_copies) mono_law_copies (ar_cons (ES.er (es_var 7)) ar_nil)))))
      (st_seq (st_if (tr_test (EM.er (em_op o_neL (EM.er (em_noX mono_told_by (ar_cons (EM.er (em_call (S := S_law_copies) mono_law_copies (ar_cons (ES.er (es_var 2)) ar_nil))) ar_nil))) (ES.er (es_var 3))))) (st_ret (M := []) em_bl) st_next)
      (st_seq (st_if (tr_or (tr_not (tr_b (EM.er (em_call (S := S_law_refused_table) mono_law_refused_table (ar_cons (ES.er (es_var 6)) ar_nil))))) (tr_or (tr_test (EM.er (em_op o_neL (ES.er (es_var 6)) (ES.er (es_var 5))))) (tr_or (tr_not (tr_b (EM.er (em_call (S := S_law_refused_pairs) mono_law_refused_pairs (ar_cons (ES.er (es_var 8)) ar_nil))))) (tr_test (EM.er (em_op o_neL (ES.er (es_var 8)) (ES.er (es_var 7)))))))) (st_ret (M := []) em_bl) st_next)
      (st_ret (M := []) (em_andV (EM.er (em_op o_bl (EM.er (em_cb c_len (ar_cons (EM.er (em_noX mono_mixture_of (ar_cons (EM.er (em_comp0 (it_list (es_var 3)) (gt_name 0) (em_cb c_list (ar_cons (ES.er (es_var 0)) ar_nil)))) ar_nil))) ar_nil))) (EM.er em_int))) (em_op o_eqL (EM.er (em_noX mono_told_by (ar_cons (EM.er (em_call (S := S_law_copies) mono_law_copies (ar_cons (ES.er (es_var 2)) ar_nil))) ar_nil))) (ES.er (es_var 3))))))))))))))) (fun ds P hS => ?_) h⟩
  obtain ⟨ns, rfl, hz, hP⟩ := hS
  rw [show startD N_law [.scr ns] = [some (.scr ns), none, none, none, none, none, none, none, none] from rfl]
  walk_at "go"
  refine ⟨ns, rfl, hz, fun n n1 n8 => ?_⟩
  walk_at "go"
  refine ⟨ns, n, rfl, hz, n8, fun ps p1 p63 hq => ?_⟩
  have hM : Mix n ps := ⟨n1, n8, p1, by omega, fun q h => ⟨(hq q h).1, (hq q h).2.2⟩⟩
  walk_at "go"
  refine ⟨ps, n, rfl, hM, fun t hT => ?_⟩
  have hR := hT.1
  have hl := hR.1
  obtain ⟨b, hb, hE⟩ : ∃ b, 1 ≤ b ∧ Bir.Ev n t b := tab_ev hM hT
  have hev : EvenT n n t := ev_even hE n1 hb
  have h64 : ∀ q ∈ ps, q.2.length < 64 := fun q hq' => by rw [hM.len hq']; omega
  have told : ∀ n', Mix n' ps → ∀ t', Tab n' ps t' → t' = t := fun n' hM' t' hT' => by
    obtain ⟨q, hq'⟩ : ∃ q, q ∈ ps := by
      cases ps with
      | nil => exact absurd p1 (by decide)
      | cons a l => exact ⟨a, List.mem_cons_self⟩
    have e : n' = n := by rw [← hM'.len hq', hM.len hq']
    subst e
    exact hT'.uniq hT
  walk_at "go"
  refine ⟨ns, 53, rfl, hz, by omega, by omega, fun y hy => ?_⟩
  walk_at "go"
  refine ⟨t, n, y, rfl, n1, n8, hev, hR, hy, fun u n' m' hRu a1 a2 b1 b2 hnev => ?_⟩
  have hlu := hRu.1
  walk_at "go"
  refine comp_copy (t := u) (fun R h => h) (by omega) (fun r hr R h => by walk_at "gb"; exact h) ?_
  walk_at "go"
  have c1 := emod_lt (x := y / 60) (n := (ps.length : Int)) (by omega)
  obtain ⟨a, ea⟩ : ∃ a : Nat, y / 60 % (ps.length : Int) = a := ⟨(y / 60 % (ps.length : Int)).toNat, by omega⟩
  rw [ea]
  refine ⟨ps, n, a, y / 6 % 10, y / 3720, rfl, hM, p63, by omega, Int.ediv_nonneg hy (by decide), fun q hq' => (hq q hq').2.1, fun qs q1 q2 q3 => ?_⟩
  refine ⟨qs, rfl, q1, ?_⟩
  refine ⟨ps, rfl, by omega, ?_⟩
  refine ⟨ps, rfl, by omega, h64, fun n2 hM2 t2 hT2 => ?_, fun h => h n hM⟩
  rw [told n2 hM2 t2 hT2]
  refine vEqL_rows ?_
  simp only [if_true, decide_true, Bool.not_true]
  walk_at "go"
  refine ⟨u, n', m', rfl, hRu, a1, a2, b1, b2, hnev, ?_⟩
  walk_at "go"
  refine vEqL_rows ?_
  simp only [if_true, decide_true, Bool.not_true]
  walk_at "go"
  refine ⟨qs, rfl, q1, q2, q3, ?_⟩
  walk_at "go"
  refine vEqL_pairs ?_
  simp only [if_true, decide_true, Bool.not_true]
  walk_at "go"
  refine comp_copy (t := t) (fun R h => h) (by omega) (fun r hr R h => by walk_at "gb"; exact h) ?_
  refine ⟨t, n, n, rfl, hR, n1, by omega, n1, by omega, fun _ => ⟨n8, b, hb, hE, fun qq hqq => ?_⟩, fun h => absurd hev h⟩
  have hne := hqq.ne
  walk_at "go"
  rw [if_pos (by omega)]
  refine ⟨ps, rfl, by omega, ?_⟩
  refine ⟨ps, rfl, by omega, h64, fun n2 hM2 t2 hT2 => ?_, fun h => h n hM⟩
  rw [told n2 hM2 t2 hT2]
  refine vEqL_rows ?_
  simp only [Bool.false_eq_true, if_false, decide_true]
  exact hP
end
end Mine
set_option Elab.async false
set_option linter.all false
set_option maxRecDepth 100000
namespace Mine
open PySem L2 PyProof.Rows
theorem all_mk {l : PySem.W.OpenLaw} {w : World} {K : PySem.W.Frag} {h : Heap} {mg : Str → Option Value} {fa f0 f1 f2 f3 f4 f5 f6 f7 f8 f9 f10 f11 f12 f13 f14 f15 f16 f17 f18 f19 f20 f21 f22 f23 f24 f25 f26 f27 f28 : Addr} (X : K.In h) (G : h.Ns mainGlobals mg) (hfa : mg "law" = some (.ref fa))
    {od0 an0 od1 an1 od2 an2 od3 an3 od4 an4 od5 an5 od6 an6 od7 an7 od8 an8 od9 an9 od10 an10 od11 an11 od12 an12 od13 an13 od14 an14 od15 an15 od16 an16 od17 an17 od18 an18 od19 an19 od20 an20 od21 an21 od22 an22 od23 an23 od24 an24 od25 an25 od26 an26 od27 an27 od28 an28 : Option Addr} {sl0 sl1 sl2 sl3 sl4 sl5 sl6 sl7 sl8 sl9 sl10 sl11 sl12 sl13 sl14 sl15 sl16 sl17 sl18 sl19 sl20 sl21 sl22 sl23 sl24 sl25 sl26 sl27 sl28 : Array (Option Value)} {oc0 kV0 dc0 pm0 cd0 ct0 oc1 kV1 dc1 pm1 cd1 ct1 oc2 kV2 dc2 pm2 cd2 ct2 oc3 kV3 dc3 pm3 cd3 ct3 oc4 kV4 dc4 pm4 cd4 ct4 oc5 kV5 dc5 pm5 cd5 ct5 oc6 kV6 dc6 pm6 cd6 ct6 oc7 kV7 dc7 pm7 cd7 ct7 oc8 kV8 dc8 pm8 cd8 ct8 oc9 kV9 dc9 pm9 cd9 ct9 oc10 kV10 dc10 pm10 cd10 ct10 oc11 kV11 dc11 pm11 cd11 ct11 oc12 kV12 dc12 pm12 cd12 ct12 oc13 kV13 dc13 pm13 cd13 ct13 oc14 kV14 dc14 pm14 cd14 ct14 oc15 kV15 dc15 pm15 cd15 ct15 oc16 kV16 dc16 pm16 cd16 ct16 oc17 kV17 dc17 pm17 cd17 ct17 oc18 kV18 dc18 pm18 cd18 ct18 oc19 kV19 dc19 pm19 cd19 ct19 oc20 kV20 dc20 pm20 cd20 ct20 oc21 kV21 dc21 pm21 cd21 ct21 oc22 kV22 dc22 pm22 cd22 ct22 oc23 kV23 dc23 pm23 cd23 ct23 oc24 kV24 dc24 pm24 cd24 ct24 oc25 kV25 dc25 pm25 cd25 ct25 oc26 kV26 dc26 pm26 cd26 ct26 oc27 kV27 dc27 pm27 cd27 ct27 oc28 kV28 dc28 pm28 cd28 ct28 : Value}
    (a0 : PySem.W.nsIn K mainGlobals "dealing_in" = some (some (.ref f0))) (l0 : K.lookup f0 = some ⟨oc0, od0, .func (PySem.W.fnOf "dealing_in" "dealing_in" (defArgs s_dealing_in) (defBody s_dealing_in) (defScope s_dealing_in) .none kV0 dc0 pm0 an0 cd0 ct0), sl0⟩) (c0 : PySem.W.codeIn K cd0 "dealing_in" = true) (k0 : PySem.W.keepIn K (.ref f0) = true)
    (a1 : PySem.W.nsIn K mainGlobals "deal_row" = some (some (.ref f1))) (l1 : K.lookup f1 = some ⟨oc1, od1, .func (PySem.W.fnOf "deal_row" "deal_row" (defArgs s_deal_row) (defBody s_deal_row) (defScope s_deal_row) .none kV1 dc1 pm1 an1 cd1 ct1), sl1⟩) (c1 : PySem.W.codeIn K cd1 "deal_row" = true) (k1 : PySem.W.keepIn K (.ref f1) = true)
    (a2 : PySem.W.nsIn K mainGlobals "columns_from" = some (some (.ref f2))) (l2 : K.lookup f2 = some ⟨oc2, od2, .func (PySem.W.fnOf "columns_from" "columns_from" (defArgs s_columns_from) (defBody s_columns_from) (defScope s_columns_from) .none kV2 dc2 pm2 an2 cd2 ct2), sl2⟩) (c2 : PySem.W.codeIn K cd2 "columns_from" = true) (k2 : PySem.W.keepIn K (.ref f2) = true)
    (a3 : PySem.W.nsIn K mainGlobals "shift_dealing" = some (some (.ref f3))) (l3 : K.lookup f3 = some ⟨oc3, od3, .func (PySem.W.fnOf "shift_dealing" "shift_dealing" (defArgs s_shift_dealing) (defBody s_shift_dealing) (defScope s_shift_dealing) .none kV3 dc3 pm3 an3 cd3 ct3), sl3⟩) (c3 : PySem.W.codeIn K cd3 "shift_dealing" = true) (k3 : PySem.W.keepIn K (.ref f3) = true)
    (a4 : PySem.W.nsIn K mainGlobals "copied_table" = some (some (.ref f4))) (l4 : K.lookup f4 = some ⟨oc4, od4, .func (PySem.W.fnOf "copied_table" "copied_table" (defArgs s_copied_table) (defBody s_copied_table) (defScope s_copied_table) .none kV4 dc4 pm4 an4 cd4 ct4), sl4⟩) (c4 : PySem.W.codeIn K cd4 "copied_table" = true) (k4 : PySem.W.keepIn K (.ref f4) = true)
    (a5 : PySem.W.nsIn K mainGlobals "sums_of_rows" = some (some (.ref f5))) (l5 : K.lookup f5 = some ⟨oc5, od5, .func (PySem.W.fnOf "sums_of_rows" "sums_of_rows" (defArgs s_sums_of_rows) (defBody s_sums_of_rows) (defScope s_sums_of_rows) .none kV5 dc5 pm5 an5 cd5 ct5), sl5⟩) (c5 : PySem.W.codeIn K cd5 "sums_of_rows" = true) (k5 : PySem.W.keepIn K (.ref f5) = true)
    (a6 : PySem.W.nsIn K mainGlobals "sums_of_columns" = some (some (.ref f6))) (l6 : K.lookup f6 = some ⟨oc6, od6, .func (PySem.W.fnOf "sums_of_columns" "sums_of_columns" (defArgs s_sums_of_columns) (defBody s_sums_of_columns) (defScope s_sums_of_columns) .none kV6 dc6 pm6 an6 cd6 ct6), sl6⟩) (c6 : PySem.W.codeIn K cd6 "sums_of_columns" = true) (k6 : PySem.W.keepIn K (.ref f6) = true)
    (a7 : PySem.W.nsIn K mainGlobals "turned_table" = some (some (.ref f7))) (l7 : K.lookup f7 = some ⟨oc7, od7, .func (PySem.W.fnOf "turned_table" "turned_table" (defArgs s_turned_table) (defBody s_turned_table) (defScope s_turned_table) .none kV7 dc7 pm7 an7 cd7 ct7), sl7⟩) (c7 : PySem.W.codeIn K cd7 "turned_table" = true) (k7 : PySem.W.keepIn K (.ref f7) = true)
    (a8 : PySem.W.nsIn K mainGlobals "column_of" = some (some (.ref f8))) (l8 : K.lookup f8 = some ⟨oc8, od8, .func (PySem.W.fnOf "column_of" "column_of" (defArgs s_column_of) (defBody s_column_of) (defScope s_column_of) .none kV8 dc8 pm8 an8 cd8 ct8), sl8⟩) (c8 : PySem.W.codeIn K cd8 "column_of" = true) (k8 : PySem.W.keepIn K (.ref f8) = true)
    (a9 : PySem.W.nsIn K mainGlobals "is_even" = some (some (.ref f9))) (l9 : K.lookup f9 = some ⟨oc9, od9, .func (PySem.W.fnOf "is_even" "is_even" (defArgs s_is_even) (defBody s_is_even) (defScope s_is_even) .none kV9 dc9 pm9 an9 cd9 ct9), sl9⟩) (c9 : PySem.W.codeIn K cd9 "is_even" = true) (k9 : PySem.W.keepIn K (.ref f9) = true)
    (a10 : PySem.W.nsIn K mainGlobals "is_mixture" = some (some (.ref f10))) (l10 : K.lookup f10 = some ⟨oc10, od10, .func (PySem.W.fnOf "is_mixture" "is_mixture" (defArgs s_is_mixture) (defBody s_is_mixture) (defScope s_is_mixture) .none kV10 dc10 pm10 an10 cd10 ct10), sl10⟩) (c10 : PySem.W.codeIn K cd10 "is_mixture" = true) (k10 : PySem.W.keepIn K (.ref f10) = true)
    (a11 : PySem.W.nsIn K mainGlobals "is_pair" = some (some (.ref f11))) (l11 : K.lookup f11 = some ⟨oc11, od11, .func (PySem.W.fnOf "is_pair" "is_pair" (defArgs s_is_pair) (defBody s_is_pair) (defScope s_is_pair) .none kV11 dc11 pm11 an11 cd11 ct11), sl11⟩) (c11 : PySem.W.codeIn K cd11 "is_pair" = true) (k11 : PySem.W.keepIn K (.ref f11) = true)
    (a12 : PySem.W.nsIn K mainGlobals "told_by" = some (some (.ref f12))) (l12 : K.lookup f12 = some ⟨oc12, od12, .func (PySem.W.fnOf "told_by" "told_by" (defArgs s_told_by) (defBody s_told_by) (defScope s_told_by) .none kV12 dc12 pm12 an12 cd12 ct12), sl12⟩) (c12 : PySem.W.codeIn K cd12 "told_by" = true) (k12 : PySem.W.keepIn K (.ref f12) = true)
    (a13 : PySem.W.nsIn K mainGlobals "add_dealing" = some (some (.ref f13))) (l13 : K.lookup f13 = some ⟨oc13, od13, .func (PySem.W.fnOf "add_dealing" "add_dealing" (defArgs s_add_dealing) (defBody s_add_dealing) (defScope s_add_dealing) .none kV13 dc13 pm13 an13 cd13 ct13), sl13⟩) (c13 : PySem.W.codeIn K cd13 "add_dealing" = true) (k13 : PySem.W.keepIn K (.ref f13) = true)
    (a14 : PySem.W.nsIn K mainGlobals "mixture_of" = some (some (.ref f14))) (l14 : K.lookup f14 = some ⟨oc14, od14, .func (PySem.W.fnOf "mixture_of" "mixture_of" (defArgs s_mixture_of) (defBody s_mixture_of) (defScope s_mixture_of) .none kV14 dc14 pm14 an14 cd14 ct14), sl14⟩) (c14 : PySem.W.codeIn K cd14 "mixture_of" = true) (k14 : PySem.W.keepIn K (.ref f14) = true)
    (a15 : PySem.W.nsIn K mainGlobals "marks_of" = some (some (.ref f15))) (l15 : K.lookup f15 = some ⟨oc15, od15, .func (PySem.W.fnOf "marks_of" "marks_of" (defArgs s_marks_of) (defBody s_marks_of) (defScope s_marks_of) .none kV15 dc15 pm15 an15 cd15 ct15), sl15⟩) (c15 : PySem.W.codeIn K cd15 "marks_of" = true) (k15 : PySem.W.keepIn K (.ref f15) = true)
    (a16 : PySem.W.nsIn K mainGlobals "marked_row" = some (some (.ref f16))) (l16 : K.lookup f16 = some ⟨oc16, od16, .func (PySem.W.fnOf "marked_row" "marked_row" (defArgs s_marked_row) (defBody s_marked_row) (defScope s_marked_row) .none kV16 dc16 pm16 an16 cd16 ct16), sl16⟩) (c16 : PySem.W.codeIn K cd16 "marked_row" = true) (k16 : PySem.W.keepIn K (.ref f16) = true)
    (a17 : PySem.W.nsIn K mainGlobals "_law_cell_at" = some (some (.ref f17))) (l17 : K.lookup f17 = some ⟨oc17, od17, .func (PySem.W.fnOf "_law_cell_at" "_law_cell_at" (defArgs s_law_cell_at) (defBody s_law_cell_at) (defScope s_law_cell_at) .none kV17 dc17 pm17 an17 cd17 ct17), sl17⟩) (c17 : PySem.W.codeIn K cd17 "_law_cell_at" = true) (k17 : PySem.W.keepIn K (.ref f17) = true)
    (a18 : PySem.W.nsIn K mainGlobals "_law_mixed" = some (some (.ref f18))) (l18 : K.lookup f18 = some ⟨oc18, od18, .func (PySem.W.fnOf "_law_mixed" "_law_mixed" (defArgs s_law_mixed) (defBody s_law_mixed) (defScope s_law_mixed) .none kV18 dc18 pm18 an18 cd18 ct18), sl18⟩) (c18 : PySem.W.codeIn K cd18 "_law_mixed" = true) (k18 : PySem.W.keepIn K (.ref f18) = true)
    (a19 : PySem.W.nsIn K mainGlobals "_law_size" = some (some (.ref f19))) (l19 : K.lookup f19 = some ⟨oc19, od19, .func (PySem.W.fnOf "_law_size" "_law_size" (defArgs s_law_size) (defBody s_law_size) (defScope s_law_size) .none kV19 dc19 pm19 an19 cd19 ct19), sl19⟩) (c19 : PySem.W.codeIn K cd19 "_law_size" = true) (k19 : PySem.W.keepIn K (.ref f19) = true)
    (a20 : PySem.W.nsIn K mainGlobals "_law_dealing" = some (some (.ref f20))) (l20 : K.lookup f20 = some ⟨oc20, od20, .func (PySem.W.fnOf "_law_dealing" "_law_dealing" (defArgs s_law_dealing) (defBody s_law_dealing) (defScope s_law_dealing) .none kV20 dc20 pm20 an20 cd20 ct20), sl20⟩) (c20 : PySem.W.codeIn K cd20 "_law_dealing" = true) (k20 : PySem.W.keepIn K (.ref f20) = true)
    (a21 : PySem.W.nsIn K mainGlobals "_law_dealt" = some (some (.ref f21))) (l21 : K.lookup f21 = some ⟨oc21, od21, .func (PySem.W.fnOf "_law_dealt" "_law_dealt" (defArgs s_law_dealt) (defBody s_law_dealt) (defScope s_law_dealt) .none kV21 dc21 pm21 an21 cd21 ct21), sl21⟩) (c21 : PySem.W.codeIn K cd21 "_law_dealt" = true) (k21 : PySem.W.keepIn K (.ref f21) = true)
    (a22 : PySem.W.nsIn K mainGlobals "_law_tops" = some (some (.ref f22))) (l22 : K.lookup f22 = some ⟨oc22, od22, .func (PySem.W.fnOf "_law_tops" "_law_tops" (defArgs s_law_tops) (defBody s_law_tops) (defScope s_law_tops) .none kV22 dc22 pm22 an22 cd22 ct22), sl22⟩) (c22 : PySem.W.codeIn K cd22 "_law_tops" = true) (k22 : PySem.W.keepIn K (.ref f22) = true)
    (a23 : PySem.W.nsIn K mainGlobals "_law_bad_table" = some (some (.ref f23))) (l23 : K.lookup f23 = some ⟨oc23, od23, .func (PySem.W.fnOf "_law_bad_table" "_law_bad_table" (defArgs s_law_bad_table) (defBody s_law_bad_table) (defScope s_law_bad_table) .none kV23 dc23 pm23 an23 cd23 ct23), sl23⟩) (c23 : PySem.W.codeIn K cd23 "_law_bad_table" = true) (k23 : PySem.W.keepIn K (.ref f23) = true)
    (a24 : PySem.W.nsIn K mainGlobals "_law_bad_pairs" = some (some (.ref f24))) (l24 : K.lookup f24 = some ⟨oc24, od24, .func (PySem.W.fnOf "_law_bad_pairs" "_law_bad_pairs" (defArgs s_law_bad_pairs) (defBody s_law_bad_pairs) (defScope s_law_bad_pairs) .none kV24 dc24 pm24 an24 cd24 ct24), sl24⟩) (c24 : PySem.W.codeIn K cd24 "_law_bad_pairs" = true) (k24 : PySem.W.keepIn K (.ref f24) = true)
    (a25 : PySem.W.nsIn K mainGlobals "_law_refused_table" = some (some (.ref f25))) (l25 : K.lookup f25 = some ⟨oc25, od25, .func (PySem.W.fnOf "_law_refused_table" "_law_refused_table" (defArgs s_law_refused_table) (defBody s_law_refused_table) (defScope s_law_refused_table) .none kV25 dc25 pm25 an25 cd25 ct25), sl25⟩) (c25 : PySem.W.codeIn K cd25 "_law_refused_table" = true) (k25 : PySem.W.keepIn K (.ref f25) = true)
    (a26 : PySem.W.nsIn K mainGlobals "_law_refused_pairs" = some (some (.ref f26))) (l26 : K.lookup f26 = some ⟨oc26, od26, .func (PySem.W.fnOf "_law_refused_pairs" "_law_refused_pairs" (defArgs s_law_refused_pairs) (defBody s_law_refused_pairs) (defScope s_law_refused_pairs) .none kV26 dc26 pm26 an26 cd26 ct26), sl26⟩) (c26 : PySem.W.codeIn K cd26 "_law_refused_pairs" = true) (k26 : PySem.W.keepIn K (.ref f26) = true)
    (a27 : PySem.W.nsIn K mainGlobals "_law_copies" = some (some (.ref f27))) (l27 : K.lookup f27 = some ⟨oc27, od27, .func (PySem.W.fnOf "_law_copies" "_law_copies" (defArgs s_law_copies) (defBody s_law_copies) (defScope s_law_copies) .none kV27 dc27 pm27 an27 cd27 ct27), sl27⟩) (c27 : PySem.W.codeIn K cd27 "_law_copies" = true) (k27 : PySem.W.keepIn K (.ref f27) = true)
    (a28 : PySem.W.nsIn K mainGlobals "law" = some (some (.ref f28))) (l28 : K.lookup f28 = some ⟨oc28, od28, .func (PySem.W.fnOf "law" "law" (defArgs s_law) (defBody s_law) (defScope s_law) .none kV28 dc28 pm28 an28 cd28 ct28), sl28⟩) (c28 : PySem.W.codeIn K cd28 "law" = true) (k28 : PySem.W.keepIn K (.ref f28) = true)
    {C_MixError C_NoTable C_NoBottom C_NotAlike C_NoStep C_NoMix C_NotEven C_NoSwap C_NoBounds C_NoPlace C_NoSums C_TooGreat C_NoNumber C_NoText : Addr}
    {dd_MixError : Option Addr} {nm_MixError qn_MixError : Str} {bs_MixError : List Value} {ns_MixError : Addr} {hd_MixError : Bool} {sn_MixError : List Str} {sub_MixError : List Value} {ab_MixError : Bool} {col_MixError : Option Bool} {k0_MixError k1_MixError k2_MixError k3_MixError k5_MixError : Option Value}
    {dd_NoMix : Option Addr} {nm_NoMix qn_NoMix : Str} {bs_NoMix : List Value} {ns_NoMix : Addr} {hd_NoMix : Bool} {sn_NoMix : List Str} {sub_NoMix : List Value} {ab_NoMix : Bool} {col_NoMix : Option Bool} {k0_NoMix k1_NoMix k2_NoMix k3_NoMix k5_NoMix : Option Value}
    {dd_NotEven : Option Addr} {nm_NotEven qn_NotEven : Str} {bs_NotEven : List Value} {ns_NotEven : Addr} {hd_NotEven : Bool} {sn_NotEven : List Str} {sub_NotEven : List Value} {ab_NotEven : Bool} {col_NotEven : Option Bool} {k0_NotEven k1_NotEven k2_NotEven k3_NotEven k5_NotEven : Option Value}
    (e_MixError : PySem.W.nsIn K mainGlobals "MixError" = some (some (.ref C_MixError)))
    (e_NoTable : PySem.W.nsIn K mainGlobals "NoTable" = some (some (.ref C_NoTable)))
    (e_NoBottom : PySem.W.nsIn K mainGlobals "NoBottom" = some (some (.ref C_NoBottom)))
    (e_NotAlike : PySem.W.nsIn K mainGlobals "NotAlike" = some (some (.ref C_NotAlike)))
    (e_NoStep : PySem.W.nsIn K mainGlobals "NoStep" = some (some (.ref C_NoStep)))
    (e_NoMix : PySem.W.nsIn K mainGlobals "NoMix" = some (some (.ref C_NoMix)))
    (e_NotEven : PySem.W.nsIn K mainGlobals "NotEven" = some (some (.ref C_NotEven)))
    (e_NoSwap : PySem.W.nsIn K mainGlobals "NoSwap" = some (some (.ref C_NoSwap)))
    (e_NoBounds : PySem.W.nsIn K mainGlobals "NoBounds" = some (some (.ref C_NoBounds)))
    (e_NoPlace : PySem.W.nsIn K mainGlobals "NoPlace" = some (some (.ref C_NoPlace)))
    (e_NoSums : PySem.W.nsIn K mainGlobals "NoSums" = some (some (.ref C_NoSums)))
    (e_TooGreat : PySem.W.nsIn K mainGlobals "TooGreat" = some (some (.ref C_TooGreat)))
    (e_NoNumber : PySem.W.nsIn K mainGlobals "NoNumber" = some (some (.ref C_NoNumber)))
    (e_NoText : PySem.W.nsIn K mainGlobals "NoText" = some (some (.ref C_NoText)))
    (u_MixError : K.lookup C_MixError = some ⟨.type "type", dd_MixError, .cls ⟨nm_MixError, bs_MixError, .ref C_MixError :: VB, ns_MixError, qn_MixError, hd_MixError, sn_MixError, sub_MixError, ab_MixError, col_MixError, false⟩, #[k0_MixError, k1_MixError, k2_MixError, k3_MixError, some (.builtin "ValueError.__new__"), k5_MixError]⟩) (v_MixError : PySem.W.excIn K C_MixError VB "ValueError.__new__" = true)
    (u_NoMix : K.lookup C_NoMix = some ⟨.type "type", dd_NoMix, .cls ⟨nm_NoMix, bs_NoMix, .ref C_NoMix :: .ref C_MixError :: VB, ns_NoMix, qn_NoMix, hd_NoMix, sn_NoMix, sub_NoMix, ab_NoMix, col_NoMix, false⟩, #[k0_NoMix, k1_NoMix, k2_NoMix, k3_NoMix, some (.builtin "ValueError.__new__"), k5_NoMix]⟩) (v_NoMix : PySem.W.excIn K C_NoMix VB "ValueError.__new__" = true)
    (u_NotEven : K.lookup C_NotEven = some ⟨.type "type", dd_NotEven, .cls ⟨nm_NotEven, bs_NotEven, .ref C_NotEven :: .ref C_MixError :: VB, ns_NotEven, qn_NotEven, hd_NotEven, sn_NotEven, sub_NotEven, ab_NotEven, col_NotEven, false⟩, #[k0_NotEven, k1_NotEven, k2_NotEven, k3_NotEven, some (.builtin "ValueError.__new__"), k5_NotEven]⟩) (v_NotEven : PySem.W.excIn K C_NotEven VB "ValueError.__new__" = true)
    (ga_NoMix : PySem.W.findIn K (.ref C_NoMix) "__getattribute__" = some (some (.builtin "BaseException.__getattribute__"))) (ge_NoMix : PySem.W.findIn K (.ref C_NoMix) "__getattr__" = some none) (cl_NoMix : PySem.W.findIn K (.ref C_NoMix) "__class__" = some (some (.builtin "object.__class__"))) (ob_NoMix : PySem.W.mroIn K C_NoMix (.type "object") = some true) (be_NoMix : PySem.W.mroIn K C_NoMix (.type "BaseException") = some true)
    (ga_NotEven : PySem.W.findIn K (.ref C_NotEven) "__getattribute__" = some (some (.builtin "BaseException.__getattribute__"))) (ge_NotEven : PySem.W.findIn K (.ref C_NotEven) "__getattr__" = some none) (cl_NotEven : PySem.W.findIn K (.ref C_NotEven) "__class__" = some (some (.builtin "object.__class__"))) (ob_NotEven : PySem.W.mroIn K C_NotEven (.type "object") = some true) (be_NotEven : PySem.W.mroIn K C_NotEven (.type "BaseException") = some true)
    (kt1 : PySem.W.kitAny K (.ref C_NotEven) [.ref C_NoTable, .ref C_NotAlike, .ref C_NoStep, .ref C_NoMix, .ref C_NoBottom, .ref C_NoSwap] = some false)
    (kt2 : PySem.W.kitAny K (.ref C_NotEven) [.ref C_NoBounds, .ref C_NoPlace, .ref C_NoSums, .ref C_TooGreat, .ref C_NoNumber, .ref C_NoText] = some false)
    (kt3 : PySem.W.kitAny K (.ref C_NoMix) [.ref C_NoTable, .ref C_NotAlike, .ref C_NoStep, .ref C_NotEven, .ref C_NoBottom, .ref C_NoSwap] = some false)
    (kt4 : PySem.W.kitAny K (.ref C_NoMix) [.ref C_NoBounds, .ref C_NoPlace, .ref C_NoSums, .ref C_TooGreat, .ref C_NoNumber, .ref C_NoText] = some false)
    (kv_NotEven : PySem.W.kitOne K (.ref C_NotEven) (.type "ValueError") = some true)
    (kv_NoMix : PySem.W.kitOne K (.ref C_NoMix) (.type "ValueError") = some true)
    {tk_MOST : Tok} (g_MOST : PySem.W.nsIn K mainGlobals "MOST" = some (some (Value.int 8 tk_MOST)))
    (z_len : PySem.W.nsIn K mainGlobals "len" = some none) (z_isinstance : PySem.W.nsIn K mainGlobals "isinstance" = some none) (z_int : PySem.W.nsIn K mainGlobals "int" = some none) (z_bool : PySem.W.nsIn K mainGlobals "bool" = some none) (z_list : PySem.W.nsIn K mainGlobals "list" = some none) (z_range : PySem.W.nsIn K mainGlobals "range" = some none) (z_sorted : PySem.W.nsIn K mainGlobals "sorted" = some none) (z_sum : PySem.W.nsIn K mainGlobals "sum" = some none) (z_min : PySem.W.nsIn K mainGlobals "min" = some none) (z_any : PySem.W.nsIn K mainGlobals "any" = some none) (z_all : PySem.W.nsIn K mainGlobals "all" = some none) (z_ValueError : PySem.W.nsIn K mainGlobals "ValueError" = some none) :
    ∃ fd : FuncData, (∀ (s : Shared) (v : Value), BindsTo s fd ⟨[v], []⟩ [("_law_script", v)]) ∧ ∀ base : Heap, K.In base → base.Ns mainGlobals mg → FnOk l.prog w K mg base CX0 7 fa fd P_law (L3.spP K S_law) := by
  have e := hfa.symm.trans (PySem.W.mg_of X G a28)
  cases e
  have T : Txt K mg := ⟨PySem.W.mg_none_of X G z_len, PySem.W.mg_none_of X G z_isinstance, PySem.W.mg_none_of X G z_int, PySem.W.mg_none_of X G z_bool, PySem.W.mg_none_of X G z_list, PySem.W.mg_none_of X G z_range, PySem.W.mg_none_of X G z_sorted, PySem.W.mg_none_of X G z_sum, PySem.W.mg_none_of X G z_min, PySem.W.mg_none_of X G z_any, PySem.W.mg_none_of X G z_all, PySem.W.mg_none_of X G z_ValueError, ⟨_, PySem.W.mg_of X G g_MOST⟩⟩
  have F0 := fun_mk (st := s_dealing_in) l0 c0 k0
  have E0 : FnAt K mg "dealing_in" s_dealing_in P_dealing_in f0 _ := ⟨F0, PySem.W.mg_of X G a0, F0.binds (ps := P_dealing_in) fun _ _ _ _ _ _ us hl => match us, hl with | [_], _ => rfl⟩
  have F1 := fun_mk (st := s_deal_row) l1 c1 k1
  have E1 : FnAt K mg "deal_row" s_deal_row P_deal_row f1 _ := ⟨F1, PySem.W.mg_of X G a1, F1.binds (ps := P_deal_row) fun _ _ _ _ _ _ us hl => match us, hl with | [_, _, _], _ => rfl⟩
  have F2 := fun_mk (st := s_columns_from) l2 c2 k2
  have E2 : FnAt K mg "columns_from" s_columns_from P_columns_from f2 _ := ⟨F2, PySem.W.mg_of X G a2, F2.binds (ps := P_columns_from) fun _ _ _ _ _ _ us hl => match us, hl with | [_, _], _ => rfl⟩
  have F3 := fun_mk (st := s_shift_dealing) l3 c3 k3
  have E3 : FnAt K mg "shift_dealing" s_shift_dealing P_shift_dealing f3 _ := ⟨F3, PySem.W.mg_of X G a3, F3.binds (ps := P_shift_dealing) fun _ _ _ _ _ _ us hl => match us, hl with | [_, _, _], _ => rfl⟩
  have F4 := fun_mk (st := s_copied_table) l4 c4 k4
  have E4 : FnAt K mg "copied_table" s_copied_table P_copied_table f4 _ := ⟨F4, PySem.W.mg_of X G a4, F4.binds (ps := P_copied_table) fun _ _ _ _ _ _ us hl => match us, hl with | [_], _ => rfl⟩
  have F5 := fun_mk (st := s_sums_of_rows) l5 c5 k5
  have E5 : FnAt K mg "sums_of_rows" s_sums_of_rows P_sums_of_rows f5 _ := ⟨F5, PySem.W.mg_of X G a5, F5.binds (ps := P_sums_of_rows) fun _ _ _ _ _ _ us hl => match us, hl with | [_], _ => rfl⟩
  have F6 := fun_mk (st := s_sums_of_columns) l6 c6 k6
  have E6 : FnAt K mg "sums_of_columns" s_sums_of_columns P_sums_of_columns f6 _ := ⟨F6, PySem.W.mg_of X G a6, F6.binds (ps := P_sums_of_columns) fun _ _ _ _ _ _ us hl => match us, hl with | [_], _ => rfl⟩
  have F7 := fun_mk (st := s_turned_table) l7 c7 k7
  have E7 : FnAt K mg "turned_table" s_turned_table P_turned_table f7 _ := ⟨F7, PySem.W.mg_of X G a7, F7.binds (ps := P_turned_table) fun _ _ _ _ _ _ us hl => match us, hl with | [_], _ => rfl⟩
  have F8 := fun_mk (st := s_column_of) l8 c8 k8
  have E8 : FnAt K mg "column_of" s_column_of P_column_of f8 _ := ⟨F8, PySem.W.mg_of X G a8, F8.binds (ps := P_column_of) fun _ _ _ _ _ _ us hl => match us, hl with | [_, _], _ => rfl⟩
  have F9 := fun_mk (st := s_is_even) l9 c9 k9
  have E9 : FnAt K mg "is_even" s_is_even P_is_even f9 _ := ⟨F9, PySem.W.mg_of X G a9, F9.binds (ps := P_is_even) fun _ _ _ _ _ _ us hl => match us, hl with | [_], _ => rfl⟩
  have F10 := fun_mk (st := s_is_mixture) l10 c10 k10
  have E10 : FnAt K mg "is_mixture" s_is_mixture P_is_mixture f10 _ := ⟨F10, PySem.W.mg_of X G a10, F10.binds (ps := P_is_mixture) fun _ _ _ _ _ _ us hl => match us, hl with | [_], _ => rfl⟩
  have F11 := fun_mk (st := s_is_pair) l11 c11 k11
  have E11 : FnAt K mg "is_pair" s_is_pair P_is_pair f11 _ := ⟨F11, PySem.W.mg_of X G a11, F11.binds (ps := P_is_pair) fun _ _ _ _ _ _ us hl => match us, hl with | [_, _], _ => rfl⟩
  have F12 := fun_mk (st := s_told_by) l12 c12 k12
  have E12 : FnAt K mg "told_by" s_told_by P_told_by f12 _ := ⟨F12, PySem.W.mg_of X G a12, F12.binds (ps := P_told_by) fun _ _ _ _ _ _ us hl => match us, hl with | [_], _ => rfl⟩
  have F13 := fun_mk (st := s_add_dealing) l13 c13 k13
  have E13 : FnAt K mg "add_dealing" s_add_dealing P_add_dealing f13 _ := ⟨F13, PySem.W.mg_of X G a13, F13.binds (ps := P_add_dealing) fun _ _ _ _ _ _ us hl => match us, hl with | [_, _, _], _ => rfl⟩
  have F14 := fun_mk (st := s_mixture_of) l14 c14 k14
  have E14 : FnAt K mg "mixture_of" s_mixture_of P_mixture_of f14 _ := ⟨F14, PySem.W.mg_of X G a14, F14.binds (ps := P_mixture_of) fun _ _ _ _ _ _ us hl => match us, hl with | [_], _ => rfl⟩
  have F15 := fun_mk (st := s_marks_of) l15 c15 k15
  have E15 : FnAt K mg "marks_of" s_marks_of P_marks_of f15 _ := ⟨F15, PySem.W.mg_of X G a15, F15.binds (ps := P_marks_of) fun _ _ _ _ _ _ us hl => match us, hl with | [_], _ => rfl⟩
  have F16 := fun_mk (st := s_marked_row) l16 c16 k16
  have E16 : FnAt K mg "marked_row" s_marked_row P_marked_row f16 _ := ⟨F16, PySem.W.mg_of X G a16, F16.binds (ps := P_marked_row) fun _ _ _ _ _ _ us hl => match us, hl with | [_], _ => rfl⟩
  have F17 := fun_mk (st := s_law_cell_at) l17 c17 k17
  have E17 : FnAt K mg "_law_cell_at" s_law_cell_at P_law_cell_at f17 _ := ⟨F17, PySem.W.mg_of X G a17, F17.binds (ps := P_law_cell_at) fun _ _ _ _ _ _ us hl => match us, hl with | [_, _], _ => rfl⟩
  have F18 := fun_mk (st := s_law_mixed) l18 c18 k18
  have E18 : FnAt K mg "_law_mixed" s_law_mixed P_law_mixed f18 _ := ⟨F18, PySem.W.mg_of X G a18, F18.binds (ps := P_law_mixed) fun _ _ _ _ _ _ us hl => match us, hl with | [_, _], _ => rfl⟩
  have F19 := fun_mk (st := s_law_size) l19 c19 k19
  have E19 : FnAt K mg "_law_size" s_law_size P_law_size f19 _ := ⟨F19, PySem.W.mg_of X G a19, F19.binds (ps := P_law_size) fun _ _ _ _ _ _ us hl => match us, hl with | [_], _ => rfl⟩
  have F20 := fun_mk (st := s_law_dealing) l20 c20 k20
  have E20 : FnAt K mg "_law_dealing" s_law_dealing P_law_dealing f20 _ := ⟨F20, PySem.W.mg_of X G a20, F20.binds (ps := P_law_dealing) fun _ _ _ _ _ _ us hl => match us, hl with | [_, _], _ => rfl⟩
  have F21 := fun_mk (st := s_law_dealt) l21 c21 k21
  have E21 : FnAt K mg "_law_dealt" s_law_dealt P_law_dealt f21 _ := ⟨F21, PySem.W.mg_of X G a21, F21.binds (ps := P_law_dealt) fun _ _ _ _ _ _ us hl => match us, hl with | [_, _], _ => rfl⟩
  have F22 := fun_mk (st := s_law_tops) l22 c22 k22
  have E22 : FnAt K mg "_law_tops" s_law_tops P_law_tops f22 _ := ⟨F22, PySem.W.mg_of X G a22, F22.binds (ps := P_law_tops) fun _ _ _ _ _ _ us hl => match us, hl with | [_, _], _ => rfl⟩
  have F23 := fun_mk (st := s_law_bad_table) l23 c23 k23
  have E23 : FnAt K mg "_law_bad_table" s_law_bad_table P_law_bad_table f23 _ := ⟨F23, PySem.W.mg_of X G a23, F23.binds (ps := P_law_bad_table) fun _ _ _ _ _ _ us hl => match us, hl with | [_, _], _ => rfl⟩
  have F24 := fun_mk (st := s_law_bad_pairs) l24 c24 k24
  have E24 : FnAt K mg "_law_bad_pairs" s_law_bad_pairs P_law_bad_pairs f24 _ := ⟨F24, PySem.W.mg_of X G a24, F24.binds (ps := P_law_bad_pairs) fun _ _ _ _ _ _ us hl => match us, hl with | [_, _, _, _], _ => rfl⟩
  have F25 := fun_mk (st := s_law_refused_table) l25 c25 k25
  have E25 : FnAt K mg "_law_refused_table" s_law_refused_table P_law_refused_table f25 _ := ⟨F25, PySem.W.mg_of X G a25, F25.binds (ps := P_law_refused_table) fun _ _ _ _ _ _ us hl => match us, hl with | [_], _ => rfl⟩
  have F26 := fun_mk (st := s_law_refused_pairs) l26 c26 k26
  have E26 : FnAt K mg "_law_refused_pairs" s_law_refused_pairs P_law_refused_pairs f26 _ := ⟨F26, PySem.W.mg_of X G a26, F26.binds (ps := P_law_refused_pairs) fun _ _ _ _ _ _ us hl => match us, hl with | [_], _ => rfl⟩
  have F27 := fun_mk (st := s_law_copies) l27 c27 k27
  have E27 : FnAt K mg "_law_copies" s_law_copies P_law_copies f27 _ := ⟨F27, PySem.W.mg_of X G a27, F27.binds (ps := P_law_copies) fun _ _ _ _ _ _ us hl => match us, hl with | [_], _ => rfl⟩
  have F28 := fun_mk (st := s_law) l28 c28 k28
  have E28 : FnAt K mg "law" s_law P_law fa _ := ⟨F28, PySem.W.mg_of X G a28, F28.binds (ps := P_law) fun _ _ _ _ _ _ us hl => match us, hl with | [_], _ => rfl⟩
  have A_ : Fns K mg := ⟨⟨_, _, E0⟩, ⟨_, _, E1⟩, ⟨_, _, E2⟩, ⟨_, _, E3⟩, ⟨_, _, E4⟩, ⟨_, _, E5⟩, ⟨_, _, E6⟩, ⟨_, _, E7⟩, ⟨_, _, E8⟩, ⟨_, _, E9⟩, ⟨_, _, E10⟩, ⟨_, _, E11⟩, ⟨_, _, E12⟩, ⟨_, _, E13⟩, ⟨_, _, E14⟩, ⟨_, _, E15⟩, ⟨_, _, E16⟩, ⟨_, _, E17⟩, ⟨_, _, E18⟩, ⟨_, _, E19⟩, ⟨_, _, E20⟩, ⟨_, _, E21⟩, ⟨_, _, E22⟩, ⟨_, _, E23⟩, ⟨_, _, E24⟩, ⟨_, _, E25⟩, ⟨_, _, E26⟩, ⟨_, _, E27⟩, ⟨_, _, E28⟩⟩
  exact ⟨PySem.W.fnOf "law" "law" (defArgs s_law) (defBody s_law) (defScope s_law) .none kV28 dc28 pm28 an28 cd28 ct28, fun s v => .of_eq rfl, fun base hb _ => ok_law E28 A_ T (c := ⟨C_MixError, C_NoTable, C_NoBottom, C_NotAlike, C_NoStep, C_NoMix, C_NotEven, C_NoSwap, C_NoBounds, C_NoPlace, C_NoSums, C_TooGreat, C_NoNumber, C_NoText⟩) ⟨PySem.W.mg_of X G e_MixError, PySem.W.mg_of X G e_NoTable, PySem.W.mg_of X G e_NoBottom, PySem.W.mg_of X G e_NotAlike, PySem.W.mg_of X G e_NoStep, PySem.W.mg_of X G e_NoMix, PySem.W.mg_of X G e_NotEven, PySem.W.mg_of X G e_NoSwap, PySem.W.mg_of X G e_NoBounds, PySem.W.mg_of X G e_NoPlace, PySem.W.mg_of X G e_NoSums, PySem.W.mg_of X G e_TooGreat, PySem.W.mg_of X G e_NoNumber, PySem.W.mg_of X G e_NoText, ExcObj.of_lookup (ups := []) hb u_MixError rfl v_MixError, ExcObj.of_lookup (ups := [C_MixError]) hb u_NoMix rfl v_NoMix, ⟨ga_NoMix, ge_NoMix, cl_NoMix, ob_NoMix, be_NoMix, by unfold PySem.W.clsIn; rw [u_NoMix]; rfl⟩, ExcObj.of_lookup (ups := [C_MixError]) hb u_NotEven rfl v_NotEven, ⟨ga_NotEven, ge_NotEven, cl_NotEven, ob_NotEven, be_NotEven, by unfold PySem.W.clsIn; rw [u_NotEven]; rfl⟩, kt1, kt2, kt3, kt4, kv_NotEven, kv_NoMix⟩⟩
theorem walk {l : PySem.W.OpenLaw} {q : Program} {loose : List Str} {XP : (Str → Option Value) → Heap → Prop} {YP : World → Heap → Prop} {d : DefRec} {K : Params → PySem.W.Frag} (hn : l.most = some 63) (hdf : d.params.defaults = [])
    (hY : ∀ (w : World) (h : Heap), YP w h → (K w.params).In h)
    (F : ∀ (w : World) (mg : Str → Option Value) (fa : Addr) (h : Heap), (K w.params).In h → h.Ns mainGlobals mg → mg d.name = some (.ref fa) →
      ∃ fd : FuncData, (∀ (s : Shared) (u : Value), BindsTo s fd ⟨[u], []⟩ [("_law_script", u)]) ∧ ∀ base : Heap, (K w.params).In base → base.Ns mainGlobals mg → FnOk l.prog w (K w.params) mg base CX0 7 fa fd ["_law_script"] (L3.spP (K w.params) S_law)) :
    PySem.W.WalkO q loose XP YP l.row.toRowW d [] (fun f vs => PySem.call f vs) :=
  L2.walk_of (n := 63) (k := 7) (x := "_law_script") (CX := fun _ => CX0) (sp := fun w => L3.spP (K w.params) S_law) hn (by decide) hdf ⟨rfl, by decide, by decide⟩ hY F (fun w H a ns hl hO hS => ⟨[.scr ns], ⟨[], _, _, [], [], rfl, rfl, ⟨a, rfl, L3.sc_of hO hS, rfl⟩, rfl, rfl⟩, law_goal hl (fun v H' fp s r n => r.1)⟩) fun _ _ _ _ _ z => z
end Mine
open PySem PySem.W PyProof.Rows
def PySem.W.Fast.tw17087545046920558516 : Unit := ()
def PySem.W.Fast.tw14318446905465181217 : Unit := ()
def PySem.W.Fast.tw3571559808801331810 : Unit := ()
def PySem.W.Fast.tw17894432677164162769 : Unit := ()
def PySem.W.Fast.tw2423766121095854828 : Unit := ()
def PySem.W.Fast.tw13092186009622126087 : Unit := ()
def PySem.W.Fast.tw4571431348715426685 : Unit := ()
def PySem.W.Fast.tw15870467620050333177 : Unit := ()
def PySem.W.Fast.tw6300011425217457509 : Unit := ()
def PySem.W.Fast.tw15263980397747869100 : Unit := ()
def PySem.W.Fast.tw4193155436144071151 : Unit := ()
def PySem.W.Fast.tw4873646968663690364 : Unit := ()
def PySem.W.Fast.tw10789560405020249339 : Unit := ()
def PySem.W.Fast.tw6162598715657765917 : Unit := ()
def PySem.W.Fast.tw10671421923332724554 : Unit := ()
def PySem.W.Fast.tw2807567047025500403 : Unit := ()
def PySem.W.Fast.tw4828927552930152174 : Unit := ()
def PySem.W.Fast.tw17647518436061362585 : Unit := ()
def PySem.W.Fast.tw12177023952436390940 : Unit := ()
def PySem.W.Fast.tw12246562009629375085 : Unit := ()
set_option maxRecDepth 100000 in
set_option maxHeartbeats 0 in
theorem PySem.Challenge.cw_evenmix_k27_not_even_and_no_mix_holds : PySem.Challenge.rw_evenmix_k27_not_even_and_no_mix.Holds := by
  w_on; o_law; k_head; (case hw => w_witness2)
  k_fill
  refine Mine.walk (l := PySem.Challenge.rw_evenmix_k27_not_even_and_no_mix) rfl rfl (fun w h Y => PySem.W.kIn_of Y) ?F
  case F =>
    intro w mg fa h KX G hmg
    refine' Mine.all_mk KX G hmg ?a0 ?l0 ?c0 ?k0 ?a1 ?l1 ?c1 ?k1 ?a2 ?l2 ?c2 ?k2 ?a3 ?l3 ?c3 ?k3 ?a4 ?l4 ?c4 ?k4 ?a5 ?l5 ?c5 ?k5 ?a6 ?l6 ?c6 ?k6 ?a7 ?l7 ?c7 ?k7 ?a8 ?l8 ?c8 ?k8 ?a9 ?l9 ?c9 ?k9 ?a10 ?l10 ?c10 ?k10 ?a11 ?l11 ?c11 ?k11 ?a12 ?l12 ?c12 ?k12 ?a13 ?l13 ?c13 ?k13 ?a14 ?l14 ?c14 ?k14 ?a15 ?l15 ?c15 ?k15 ?a16 ?l16 ?c16 ?k16 ?a17 ?l17 ?c17 ?k17 ?a18 ?l18 ?c18 ?k18 ?a19 ?l19 ?c19 ?k19 ?a20 ?l20 ?c20 ?k20 ?a21 ?l21 ?c21 ?k21 ?a22 ?l22 ?c22 ?k22 ?a23 ?l23 ?c23 ?k23 ?a24 ?l24 ?c24 ?k24 ?a25 ?l25 ?c25 ?k25 ?a26 ?l26 ?c26 ?k26 ?a27 ?l27 ?c27 ?k27 ?a28 ?l28 ?c28 ?k28 ?e_MixError ?e_NoTable ?e_NoBottom ?e_NotAlike ?e_NoStep ?e_NoMix ?e_NotEven ?e_NoSwap ?e_NoBounds ?e_NoPlace ?e_NoSums ?e_TooGreat ?e_NoNumber ?e_NoText ?u_MixError ?v_MixError ?u_NoMix ?v_NoMix ?u_NotEven ?v_NotEven ?ga_NoMix ?ge_NoMix ?cl_NoMix ?ob_NoMix ?be_NoMix ?ga_NotEven ?ge_NotEven ?cl_NotEven ?ob_NotEven ?be_NotEven ?kt1 ?kt2 ?kt3 ?kt4 ?kv_NotEven ?kv_NoMix ?g_MOST ?z_len ?z_isinstance ?z_int ?z_bool ?z_list ?z_range ?z_sorted ?z_sum ?z_min ?z_any ?z_all ?z_ValueError
    (case a0 => k_is)
    (case l0 => k_is)
    (case c0 => k_is)
    (case k0 => k_is)
    (case a1 => k_is)
    (case l1 => k_is)
    (case c1 => k_is)
    (case k1 => k_is)
    (case a2 => k_is)
    (case l2 => k_is)
    (case c2 => k_is)
    (case k2 => k_is)
    (case a3 => k_is)
    (case l3 => k_is)
    (case c3 => k_is)
    (case k3 => k_is)
    (case a4 => k_is)
    (case l4 => k_is)
    (case c4 => k_is)
    (case k4 => k_is)
    (case a5 => k_is)
    (case l5 => k_is)
    (case c5 => k_is)
    (case k5 => k_is)
    (case a6 => k_is)
    (case l6 => k_is)
    (case c6 => k_is)
    (case k6 => k_is)
    (case a7 => k_is)
    (case l7 => k_is)
    (case c7 => k_is)
    (case k7 => k_is)
    (case a8 => k_is)
    (case l8 => k_is)
    (case c8 => k_is)
    (case k8 => k_is)
    (case a9 => k_is)
    (case l9 => k_is)
    (case c9 => k_is)
    (case k9 => k_is)
    (case a10 => k_is)
    (case l10 => k_is)
    (case c10 => k_is)
    (case k10 => k_is)
    (case a11 => k_is)
    (case l11 => k_is)
    (case c11 => k_is)
    (case k11 => k_is)
    (case a12 => k_is)
    (case l12 => k_is)
    (case c12 => k_is)
    (case k12 => k_is)
    (case a13 => k_is)
    (case l13 => k_is)
    (case c13 => k_is)
    (case k13 => k_is)
    (case a14 => k_is)
    (case l14 => k_is)
    (case c14 => k_is)
    (case k14 => k_is)
    (case a15 => k_is)
    (case l15 => k_is)
    (case c15 => k_is)
    (case k15 => k_is)
    (case a16 => k_is)
    (case l16 => k_is)
    (case c16 => k_is)
    (case k16 => k_is)
    (case a17 => k_is)
    (case l17 => k_is)
    (case c17 => k_is)
    (case k17 => k_is)
    (case a18 => k_is)
    (case l18 => k_is)
    (case c18 => k_is)
    (case k18 => k_is)
    (case a19 => k_is)
    (case l19 => k_is)
    (case c19 => k_is)
    (case k19 => k_is)
    (case a20 => k_is)
    (case l20 => k_is)
    (case c20 => k_is)
    (case k20 => k_is)
    (case a21 => k_is)
    (case l21 => k_is)
    (case c21 => k_is)
    (case k21 => k_is)
    (case a22 => k_is)
    (case l22 => k_is)
    (case c22 => k_is)
    (case k22 => k_is)
    (case a23 => k_is)
    (case l23 => k_is)
    (case c23 => k_is)
    (case k23 => k_is)
    (case a24 => k_is)
    (case l24 => k_is)
    (case c24 => k_is)
    (case k24 => k_is)
    (case a25 => k_is)
    (case l25 => k_is)
    (case c25 => k_is)
    (case k25 => k_is)
    (case a26 => k_is)
    (case l26 => k_is)
    (case c26 => k_is)
    (case k26 => k_is)
    (case a27 => k_is)
    (case l27 => k_is)
    (case c27 => k_is)
    (case k27 => k_is)
    (case a28 => k_is)
    (case l28 => k_is)
    (case c28 => k_is)
    (case k28 => k_is)
    (case e_MixError => k_is)
    (case e_NoTable => k_is)
    (case e_NoBottom => k_is)
    (case e_NotAlike => k_is)
    (case e_NoStep => k_is)
    (case e_NoMix => k_is)
    (case e_NotEven => k_is)
    (case e_NoSwap => k_is)
    (case e_NoBounds => k_is)
    (case e_NoPlace => k_is)
    (case e_NoSums => k_is)
    (case e_TooGreat => k_is)
    (case e_NoNumber => k_is)
    (case e_NoText => k_is)
    (case u_MixError => k_is)
    (case v_MixError => k_exc)
    (case u_NoMix => k_is)
    (case v_NoMix => k_exc)
    (case u_NotEven => k_is)
    (case v_NotEven => k_exc)
    (case ga_NoMix => k_is)
    (case ge_NoMix => k_is)
    (case cl_NoMix => k_is)
    (case ob_NoMix => k_is)
    (case be_NoMix => k_is)
    (case ga_NotEven => k_is)
    (case ge_NotEven => k_is)
    (case cl_NotEven => k_is)
    (case ob_NotEven => k_is)
    (case be_NotEven => k_is)
    (case kt1 => kit_is)
    (case kt2 => kit_is)
    (case kt3 => kit_is)
    (case kt4 => kit_is)
    (case kv_NotEven => kit_is)
    (case kv_NoMix => kit_is)
    (case g_MOST => k_is)
    (case z_len => k_is)
    (case z_isinstance => k_is)
    (case z_int => k_is)
    (case z_bool => k_is)
    (case z_list => k_is)
    (case z_range => k_is)
    (case z_sorted => k_is)
    (case z_sum => k_is)
    (case z_min => k_is)
    (case z_any => k_is)
    (case z_all => k_is)
    (case z_ValueError => k_is)
