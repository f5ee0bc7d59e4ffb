import PyProof.Rows.All
import Wide.All
import OpenK.AllK
import Wide.FinOn
import Lean
import PyProof.EqAt
import PyProof.EqKinds
import PyProof.TupleCall
import PyProof.NeKinds
import PyProof.ZipIter
import KE.KRevIter
import PyProof.ListRange
import KE.LcSums
import PyProof.Rows.MinMaxN
import KE.KSortKey
import KE.KLam
import KE.KNestM
import KE.KTryDeep
import PyProof.ExcArgsOwn
import PyProof.ExcAttrAll.ValueError
import KE.KIsAll
import KE.RegKIsAll
import PySem.Challenge.RW_evenmix_k16_whole_lead
set_option Elab.async false
set_option linter.all false
set_option maxRecDepth 100000
namespace L2
open PySem PySem.Spec PyProof.Rows
abbrev Key := Sum Int Str
def keyIs : Key → Value → Bool
  | .inl k, v => Value.isInt k v
  | .inr x, v => Value.isStrOf x v
def keyH (w : World) : Key → Int
  | .inl k => hashInt k
  | .inr x => hashStr w x
theorem keyIs_shape : ∀ {k : Key} {v : Value}, keyIs k v = true → (∃ i t, k = Sum.inl i ∧ v = Value.int i t) ∨ (∃ x t, k = Sum.inr x ∧ v = Value.str x t)
  | .inl i, v, h => by
    obtain ⟨t, e⟩ := Value.isInt_shape (k := i) (v := v) h
    exact .inl ⟨i, t, rfl, e⟩
  | .inr x, v, h => by
    obtain ⟨t, e⟩ := Value.isStrOf_shape (x := x) (v := v) h
    exact .inr ⟨x, t, rfl, e⟩
theorem key_ll (a b : Int) : decide ((Sum.inl a : Key) = Sum.inl b) = (a == b) := by
  by_cases e : a = b
  · subst e; simp
  · have h : ¬ (Sum.inl a : Key) = Sum.inl b := fun q => e (Sum.inl.inj q)
    rw [decide_eq_false h]
    exact (beq_eq_false_iff_ne.mpr e).symm
theorem key_rr (a b : Str) : decide ((Sum.inr a : Key) = Sum.inr b) = decide (a = b) := by
  by_cases e : a = b
  · subst e; simp
  · have h : ¬ (Sum.inr a : Key) = Sum.inr b := fun q => e (Sum.inr.inj q)
    rw [decide_eq_false h, decide_eq_false e]
theorem key_lr (a : Int) (b : Str) : decide ((Sum.inl a : Key) = Sum.inr b) = false := decide_eq_false (fun q => nomatch q)
theorem key_rl (a : Str) (b : Int) : decide ((Sum.inr a : Key) = Sum.inl b) = false := decide_eq_false (fun q => nomatch q)
def mixKind (prog : Program) (w : World) : PySem.KeyKind prog w Key where
  is := keyIs
  hash := keyH w
  inj := fun v a b ha hb => by
    rcases keyIs_shape ha with ⟨i, t, rfl, rfl⟩ | ⟨x, t, rfl, rfl⟩
    · rcases keyIs_shape hb with ⟨j, u, rfl, e⟩ | ⟨y, u, rfl, e⟩
      · injection e with e1 _; rw [e1]
      · exact nomatch e
    · rcases keyIs_shape hb with ⟨j, u, rfl, e⟩ | ⟨y, u, rfl, e⟩
      · exact nomatch e
      · injection e with e1 _; rw [e1]
  byValue := fun k v h => by
    rcases keyIs_shape h with ⟨i, t, rfl, rfl⟩ | ⟨x, t, rfl, rfl⟩ <;> rfl
  pyHash := fun hv h => by
    rcases keyIs_shape hv with ⟨i, t, rfl, rfl⟩ | ⟨x, t, rfl, rfl⟩
    · exact wpAny_pyHash_int h
    · exact wpAny_pyHash_str h
  eqBool := fun hu hv h => by
    rcases keyIs_shape hu with ⟨i, t, rfl, rfl⟩ | ⟨x, t, rfl, rfl⟩
    · rcases keyIs_shape hv with ⟨j, u, rfl, rfl⟩ | ⟨y, u, rfl, rfl⟩
      · rw [key_ll] at h; exact wpAny_eqBool_int h
      · rw [key_lr] at h; exact SeqAt.EqAt.int_str i t y u _ _ _ _ h
    · rcases keyIs_shape hv with ⟨j, u, rfl, rfl⟩ | ⟨y, u, rfl, rfl⟩
      · rw [key_rl] at h; exact SeqAt.EqAt.str_int x t j u _ _ _ _ h
      · rw [key_rr] at h; exact wpAny_eqBool_str h
  «strs» := fun k x t v h => by
    rcases keyIs_shape h with ⟨i, u, rfl, e⟩ | ⟨y, u, rfl, e⟩
    · exact nomatch e
    · injection e with e1 _
      subst e1
      cases v <;> rfl
end L2
namespace L2
open PySem PySem.Spec PyProof.Rows
inductive V where
  | non | bl (b : Bool) | int (i : Int) | str (x : Str) | byt (b : Array UInt8) | flt (b : UInt64) | ref (a : Addr) | ty (n : String)
  deriving DecidableEq
def RelV : V → Value → Prop
  | .non, u => u = Value.none
  | .bl b, u => u = Value.bool b
  | .int i, u => ∃ t, u = Value.int i t
  | .str x, u => ∃ t, u = Value.str x t
  | .byt b, u => ∃ t, u = Value.bytes b t
  | .flt b, u => ∃ t, u = Value.float b t
  | .ref a, u => u = Value.ref a
  | .ty n, u => u = Value.type n
abbrev Vals : List V → List Value → Prop := Paired RelV
theorem Vals.length {xs : List V} {us : List Value} (r : Vals xs us) : xs.length = us.length := Paired.length r
theorem Vals.get : ∀ {xs : List V} {us : List Value} {i : Nat} {x : V}, Vals xs us → xs[i]? = some x → ∃ u, us[i]? = some u ∧ RelV x u
  | _, _, _, _, .nil, e => by simp at e
  | _, _, 0, _, .cons r _, e => by simp at e; subst e; exact ⟨_, rfl, r⟩
  | _, _, i + 1, x, .cons _ t, e => by
    obtain ⟨u, h1, h2⟩ := Vals.get (i := i) (x := x) t (by simpa using e)
    exact ⟨u, by simpa using h1, h2⟩
theorem Vals.set {x : V} {u : Value} (r : RelV x u) : ∀ {xs : List V} {us : List Value} (i : Nat), Vals xs us → Vals (xs.set i x) (us.set i u)
  | _, _, _, .nil => .nil
  | _, _, 0, .cons _ t => .cons r t
  | _, _, i + 1, .cons q t => .cons q (Vals.set r i t)
theorem Vals.append : ∀ {xs ys : List V} {us ws : List Value}, Vals xs us → Vals ys ws → Vals (xs ++ ys) (us ++ ws)
  | _, _, _, _, .nil, s => s
  | _, _, _, _, .cons r t, s => .cons r (Vals.append t s)
theorem Vals.take : ∀ {xs : List V} {us : List Value} (n : Nat), Vals xs us → Vals (xs.take n) (us.take n)
  | _, _, 0, _ => .nil
  | _, _, _ + 1, .nil => .nil
  | _, _, n + 1, .cons r t => .cons r (Vals.take n t)
theorem Vals.drop : ∀ {xs : List V} {us : List Value} (n : Nat), Vals xs us → Vals (xs.drop n) (us.drop n)
  | _, _, 0, r => r
  | _, _, _ + 1, .nil => .nil
  | _, _, n + 1, .cons _ t => Vals.drop n t
def RelO : Option V → Option Value → Prop
  | some v, some u => RelV v u
  | none, none => True
  | _, _ => False
def KV {κ : Type} : List (κ × V) → List (κ × Value) → Prop := Paired fun (p : κ × V) (q : κ × Value) => p.1 = q.1 ∧ RelV p.2 q.2
def kV : Key → V
  | .inl i => .int i
  | .inr x => .str x
inductive HO where
    | lst (xs : List V)
    | tup (xs : List V)
    | dK (kvs : List (Key × V)) | dT (kvs : List (List Key × V))
    | set (S : Int → Bool) (n : Nat)
    | ins (C dx : Addr) (fs : List (Str × V))
    | own (x : Addr)
    | xd (fs : List (Str × V))
    | met (f x : Addr)
    | rng (lo hi : Int)
    | frz (o : Obj) (u : HO)
    | tbl (ps : Array Value)
    | ext (φ : Heap → Prop)
abbrev Hp := Addr → Option HO
def upd (H : Hp) (a : Addr) (o : HO) : Hp := fun b => if b = a then some o else H b
theorem upd_same {H : Hp} {a : Addr} {o : HO} : upd H a o a = some o := by unfold upd; rw [if_pos rfl]
theorem upd_ne {H : Hp} {a b : Addr} {o : HO} (h : b ≠ a) : upd H a o b = H b := by unfold upd; rw [if_neg h]
theorem ne_of_none {H : Hp} {a b : Addr} {o : HO} (h : H a = some o) (h' : H b = none) : a ≠ b := by
  intro e; subst e; rw [h] at h'; cases h'
section
variable (P : Program) (w : World)
def ObjOk (H : Hp) (h : Heap) (a : Addr) : HO → Prop
  | .lst xs => xs.length ≤ sizeLine ∧ ∃ (its : List Value) (n : Nat), Vals xs its ∧ h.get? a = some { cls := .type "list", data := .seq its.toArray n }
  | .tup xs => xs.length ≤ sizeLine ∧ ∃ its : List Value, Vals xs its ∧ IsTup h a its.toArray
  | .dK kvs => kvs.length ≤ sizeLine ∧ (a == sysModules) = false ∧ ∃ vs, KV kvs vs ∧ h.DictOf (mixKind P w) a vs
  | .dT kvs => kvs.length ≤ sizeLine ∧ (a == sysModules) = false ∧ ∃ xs : List (List Key × Addr × Value),
      Paired (fun (p : List Key × V) (q : List Key × Addr × Value) => p.1 = q.1 ∧ H q.2.1 = some (.tup (p.1.map kV)) ∧ RelV p.2 q.2.2) kvs xs ∧
      ∃ o es ep, h.get? a = some o ∧ o.ExactDict ∧ o.data = .dict es ep ∧ es.toList = xs.map (entryOfKey (tupleKind (mixKind P w))) ∧ (xs.map (·.1)).Nodup
  | .set S n => h.SetOf (intKind P w) a S n
  | .ins C dx fs => H dx = some (.own a) ∧ fs.length ≤ 1000 ∧ dx ≠ a ∧ h.get? a = some (PySem.W.instObj C dx) ∧
      ∃ mA, h.Ns1 dx mA ∧ (∀ f, RelO (fs.lookup f) (mA f)) ∧ PySem.Within mA (fs.map (·.1))
  | .own _ => ∃ o, h.get? a = some o
  | .xd fs => ∃ mA, h.Ns1 a mA ∧ ∀ f, RelO (fs.lookup f) (mA f)
  | .rng lo hi => ∃ t u v, h.get? a = some { cls := .type "range", data := .fields #[.int lo t, .int hi u, .int 1 v] }
  | .frz o u => h.get? a = some o ∧ ObjOk H h a u
  | .tbl ps => h.get? a = some { cls := .none, data := .fields ps }
  | .met f x => h.get? a = some (PySem.W.methodObj (.ref f) (.ref x))
  | .ext φ => φ h ∧ (∃ o, h.get? a = some o) ∧ ∀ h1 h2 : Heap, φ h1 → (∀ o, h1.get? a = some o → h2.get? a = some o) → φ h2
def HOk (H : Hp) (h : Heap) : Prop := ∀ a o, H a = some o → ObjOk P w H h a o
end
section
variable {P : Program} {w : World} {H H' : Hp} {h h' : Heap} {a : Addr} {o : HO}
theorem ObjOk.lt (x : ObjOk P w H h a o) : a < h.objs.size := by
  cases o with
  | lst xs => obtain ⟨_, _, _, _, e⟩ := x; exact Heap.lt_size e
  | tup xs => obtain ⟨_, _, _, p⟩ := x; exact p.lt
  | dK kvs => obtain ⟨_, _, _, _, o, _, _, e, _⟩ := x; exact Heap.lt_size e
  | dT kvs => obtain ⟨_, _, _, _, o, _, _, e, _⟩ := x; exact Heap.lt_size e
  | set S n => obtain ⟨o, _, _, _, e, _⟩ := x; exact Heap.lt_size e
  | ins C dx fs => obtain ⟨_, _, _, e, _⟩ := x; exact Heap.lt_size e
  | own y => obtain ⟨_, e⟩ := x; exact Heap.lt_size e
  | xd fs => obtain ⟨_, ⟨_, _, _, e, _⟩, _⟩ := x; exact Heap.lt_size e
  | rng lo hi => obtain ⟨_, _, _, e⟩ := x; exact Heap.lt_size e
  | frz ob u => obtain ⟨e, _⟩ := x; exact Heap.lt_size e
  | tbl ps => exact Heap.lt_size (show h.get? a = some _ from x)
  | met f y => exact Heap.lt_size (show h.get? a = some _ from x)
  | ext φ => obtain ⟨_, ⟨_, e⟩, _⟩ := x; exact Heap.lt_size e
theorem Paired.mapP {α β : Type} {F G : α → β → Prop} : ∀ {l₁ : List α} {l₂ : List β}, Paired F l₁ l₂ → (∀ a b, F a b → G a b) → Paired G l₁ l₂
  | _, _, .nil, _ => .nil
  | _, _, .cons r t, f => .cons (f _ _ r) (Paired.mapP t f)
theorem ObjOk.stay (x : ObjOk P w H h a o) (k : ∀ b u, (b = a ∨ H b = some (.own a)) → h.get? b = some u → h'.get? b = some u)
    (ho : ∀ b, H b = some (.own a) → H' b = some (.own a)) (ht : ∀ b xs, H b = some (.tup xs) → H' b = some (.tup xs)) : ObjOk P w H' h' a o := by
  induction o with
  | lst xs => obtain ⟨z, its, n, r, e⟩ := x; exact ⟨z, its, n, r, k _ _ (.inl rfl) e⟩
  | tup xs => obtain ⟨z, its, r, ob, e, c⟩ := x; exact ⟨z, its, r, ob, k _ _ (.inl rfl) e, c⟩
  | dK kvs => obtain ⟨z, y, vs, r, ob, es, ep, e, c⟩ := x; exact ⟨z, y, vs, r, ob, es, ep, k _ _ (.inl rfl) e, c⟩
  | dT kvs =>
    obtain ⟨z, y, xs, r, ob, es, ep, e, c⟩ := x
    exact ⟨z, y, xs, Paired.mapP r fun p q z => ⟨z.1, ht _ _ z.2.1, z.2.2⟩, ob, es, ep, k _ _ (.inl rfl) e, c⟩
  | set S n => obtain ⟨ob, es, ep, t, e, c⟩ := x; exact ⟨ob, es, ep, t, k _ _ (.inl rfl) e, c⟩
  | ins C dx fs =>
    obtain ⟨d, z, ne, e, mA, ⟨od, es, ep, e2, c⟩, r⟩ := x
    exact ⟨ho _ d, z, ne, k _ _ (.inl rfl) e, mA, ⟨od, es, ep, k _ _ (.inr d) e2, c⟩, r⟩
  | own y => obtain ⟨ob, e⟩ := x; exact ⟨ob, k _ _ (.inl rfl) e⟩
  | xd fs => obtain ⟨mA, ⟨od, es, ep, e, c⟩, r⟩ := x; exact ⟨mA, ⟨od, es, ep, k _ _ (.inl rfl) e, c⟩, r⟩
  | rng lo hi => obtain ⟨t, u, v, e⟩ := x; exact ⟨t, u, v, k _ _ (.inl rfl) e⟩
  | frz ob u ih => obtain ⟨e, q⟩ := x; exact ⟨k _ _ (.inl rfl) e, ih q⟩
  | tbl ps =>
    have e : h.get? a = some { cls := .none, data := .fields ps } := x
    show h'.get? a = some { cls := .none, data := .fields ps }
    exact k a _ (.inl rfl) e
  | met f y =>
    have e : h.get? a = some (PySem.W.methodObj (.ref f) (.ref y)) := x
    show h'.get? a = some (PySem.W.methodObj (.ref f) (.ref y))
    exact k a _ (.inl rfl) e
  | ext φ => obtain ⟨p, ⟨o, e⟩, st⟩ := x; exact ⟨st _ _ p fun o q => k _ _ (.inl rfl) q, ⟨o, k _ _ (.inl rfl) e⟩, st⟩
theorem HOk.lt (x : HOk P w H h) (e : H a = some o) : a < h.objs.size := (x a o e).lt
theorem HOk.fresh (x : HOk P w H h) (e : h.objs.size ≤ a) : H a = none := by
  cases q : H a with
  | none => rfl
  | some u => exact absurd (Nat.lt_of_lt_of_le (x.lt q) e) (Nat.lt_irrefl _)
theorem HOk.kept (x : HOk P w H h) (k : ∀ b u, h.get? b = some u → h'.get? b = some u) : HOk P w H h' := fun a o e =>
  (x a o e).stay (fun b u _ q => k b u q) (fun _ q => q) fun _ _ q => q
theorem HOk.laid (x : HOk P w H h) (k : ∀ b u, h.get? b = some u → h'.get? b = some u) (hp : h.objs.size ≤ a) (new : ObjOk P w (upd H a o) h' a o) : HOk P w (upd H a o) h' := fun b u e => by
  have hn := x.fresh hp
  by_cases hb : b = a
  · subst hb; rw [upd_same] at e; cases e; exact new
  · rw [upd_ne hb] at e
    exact (x b u e).stay (fun c v _ q => k c v q) (fun c q => by rw [upd_ne (ne_of_none q hn)]; exact q) fun c xs q => by rw [upd_ne (ne_of_none q hn)]; exact q
end
def Rd (H : Hp) (a : Addr) (u : HO) : Prop := H a = some u ∨ ∃ o, H a = some (.frz o u)
theorem Rd.ok {P : Program} {w : World} {H : Hp} {h : Heap} {a : Addr} {u : HO} (r : Rd H a u) (x : HOk P w H h) : ObjOk P w H h a u := by
  rcases r with r | ⟨o, r⟩
  · exact x a u r
  · obtain ⟨_, q⟩ := x a _ r
    exact q
def Mut : Option HO → Prop
  | some (.lst _) => True
  | some (.dK _) => True
  | some (.dT _) => True
  | some (.set _ _) => True
  | some (.ins _ _ _) => True
  | some (.ext _) => True
  | _ => False
section
variable {P : Program} {w : World} {H : Hp} {h h' : Heap} {x e : Addr} {o' : HO}
theorem HOk.write (ok : HOk P w H h) (mu : Mut (H x)) (he : e = x ∨ H e = some (.own x)) (k : ∀ b u, b ≠ e → h.get? b = some u → h'.get? b = some u) (heo : ∃ u, h'.get? e = some u)
    (new : ObjOk P w (upd H x o') h' x o') : HOk P w (upd H x o') h' := fun b u q => by
  have nown : ∀ c y, H c = some (.own y) → c ≠ x := fun c y r z => by subst z; rw [r] at mu; exact mu
  have ntup : ∀ c xs, H c = some (.tup xs) → c ≠ x := fun c xs r z => by subst z; rw [r] at mu; exact mu
  by_cases hb : b = x
  · subst hb; rw [upd_same] at q; cases q; exact new
  · rw [upd_ne hb] at q
    by_cases hbe : b = e
    · have q' : H b = some (.own x) := by
        rcases he with z | z
        · exact absurd (hbe.trans z) hb
        · rw [hbe]; exact z
      rw [q] at q'; cases q'
      obtain ⟨v, hv⟩ := heo
      exact ⟨v, by rw [hbe]; exact hv⟩
    · refine (ok b u q).stay (fun c v hc r => k c v ?_ r) (fun c r => by rw [upd_ne (nown c b r)]; exact r) fun c xs r => by rw [upd_ne (ntup c xs r)]; exact r
      rcases hc with rfl | hc
      · exact hbe
      · rintro rfl
        rcases he with z | z
        · exact nown c b hc z
        · rw [hc] at z; cases z; exact hb rfl
end
structure Un (fs ex : List Addr) (H H' : Hp) (h h' : Heap) : Prop where
  keep : ∀ b o, h.get? b = some o → H b = none → b ∉ fs → b ∉ ex → h'.get? b = some o
  slot : ∀ b o, h.get? b = some o → H b = none → b ∈ fs → b ∉ ex → ∃ sl, h'.get? b = some { o with slots := sl }
  free : ∀ b o, h.get? b = some o → H b = none → b ∉ ex → H' b = none
  there : ∀ b o, h.get? b = some o → b ∉ ex → ∃ o', h'.get? b = some o'
  tups : ∀ b xs, H b = some (.tup xs) → H' b = some (.tup xs)
  frzs : ∀ b o u, H b = some (.frz o u) → H' b = some (.frz o u)
  tbls : ∀ b ps, H b = some (.tbl ps) → ∃ more, H' b = some (.tbl (ps ++ more))
section
variable {fs fs' ex ex' : List Addr} {H H1 H2 : Hp} {h h1 h2 h' : Heap} {a x e : Addr} {o : HO}
theorem Un.any (u : Un fs ex H H1 h h1) {b : Addr} {ob : Obj} (q : h.get? b = some ob) (n : H b = none) (hx : b ∉ ex) : ∃ sl, h1.get? b = some { ob with slots := sl } := by
  by_cases hb : b ∈ fs
  · exact u.slot b ob q n hb hx
  · exact ⟨ob.slots, u.keep b ob q n hb hx⟩
theorem Un.kept (k : ∀ b u, h.get? b = some u → h'.get? b = some u) : Un fs ex H H h h' :=
  ⟨fun b ob q _ _ _ => k b ob q, fun b ob q _ _ _ => ⟨ob.slots, k b ob q⟩, fun _ _ _ n _ => n, fun b ob q _ => ⟨ob, k b ob q⟩, fun _ _ q => q, fun _ _ _ q => q, fun _ ps q => ⟨#[], by rw [q]; simp⟩⟩
theorem Un.refl : Un fs ex H H h h := Un.kept fun _ _ q => q
theorem Un.laid (k : ∀ b u, h.get? b = some u → h'.get? b = some u) (hp : h.objs.size ≤ a) (hn : H a = none) : Un fs ex H (upd H a o) h h' where
  keep := fun b u q _ _ _ => k b u q
  slot := fun b u q _ _ _ => ⟨u.slots, k b u q⟩
  free := fun b u q n _ => by rw [upd_ne (Nat.ne_of_lt (Nat.lt_of_lt_of_le (Heap.lt_size q) hp))]; exact n
  there := fun b u q _ => ⟨u, k b u q⟩
  tups := fun b xs q => by rw [upd_ne (ne_of_none q hn)]; exact q
  frzs := fun b u xs q => by rw [upd_ne (ne_of_none q hn)]; exact q
  tbls := fun b ps q => ⟨#[], by rw [upd_ne (ne_of_none q hn), q]; simp⟩
theorem Un.write (mu : Mut (H x)) (he : e = x ∨ H e = some (.own x)) (k : ∀ b u, b ≠ e → h.get? b = some u → h'.get? b = some u) (heo : ∃ u, h'.get? e = some u) : Un fs ex H (upd H x o) h h' := by
  have hx : ∀ b, H b = none → b ≠ x := fun b n z => by subst z; rw [n] at mu; exact mu
  have hb : ∀ b, H b = none → b ≠ e := fun b n z => by
    subst z
    rcases he with r | r
    · exact hx b n r
    · rw [n] at r; cases r
  have hm : ∀ b u, H b = some u → ¬ Mut (some u) → b ≠ x := fun b u q nm z => by subst z; rw [q] at mu; exact nm mu
  refine ⟨fun b u q n _ _ => k b u (hb b n) q, fun b u q n _ _ => ⟨u.slots, k b u (hb b n) q⟩, fun b u q n _ => by rw [upd_ne (hx b n)]; exact n, fun b u q _ => ?_,
    fun b xs q => by rw [upd_ne (hm b _ q fun z => z)]; exact q, fun b u xs q => by rw [upd_ne (hm b _ q fun z => z)]; exact q, fun b ps q => ⟨#[], by rw [upd_ne (hm b _ q fun z => z), q]; simp⟩⟩
  by_cases hbe : b = e
  · subst hbe; exact heo
  · exact ⟨u, k b u hbe q⟩
theorem Un.mono (u : Un fs ex H H1 h h1) (hs : ∀ b ∈ fs, b ∈ fs') (hx : ∀ b ∈ ex, b ∈ ex') : Un fs' ex' H H1 h h1 :=
  ⟨fun b ob q n hb he => u.keep b ob q n (fun z => hb (hs b z)) fun z => he (hx b z), fun _ _ q n _ he => u.any q n fun z => he (hx _ z), fun b ob q n he => u.free b ob q n fun z => he (hx b z), fun b ob q he => u.there b ob q fun z => he (hx b z), u.tups, u.frzs, u.tbls⟩
end
def trk (h : Heap) (H : Hp) : List Addr := (List.range h.objs.size).filter fun a => (H a).isSome
def hidT (h : Heap) (H : Hp) : Heap := PySem.W.hideAll h (trk h H)
theorem hidT_size (h : Heap) (H : Hp) : (hidT h H).objs.size = h.objs.size := PySem.W.hideAll_size _ _
theorem hidT_get {h : Heap} {H : Hp} {b : Addr} {o : Obj} (e : h.get? b = some o) (n : H b = none) : (hidT h H).get? b = some o :=
  PySem.W.hideAll_get _ e fun hm => by
    have q : (H b).isSome = true := (List.mem_filter.mp hm).2
    rw [n] at q; simp at q
theorem of_hidT {h : Heap} {H : Hp} {b : Addr} {o : Obj} (e : (hidT h H).get? b = some o) : h.get? b = some o ∧ H b = none := by
  have e' : h.get? b = some o := PySem.W.of_hideAll (trk h H) e
  refine ⟨e', ?_⟩
  cases q : H b with
  | none => rfl
  | some x =>
    have hm : b ∈ trk h H := List.mem_filter.mpr ⟨List.mem_range.mpr (Heap.lt_size e'), by simp [q]⟩
    have z : (hidT h H).get? b = none := PySem.W.hideAll_none (trk h H) hm
    rw [z] at e; cases e
def allNews (g h : Heap) (L : Addr) : List (Addr × Obj) := (List.range h.objs.size).filterMap fun a => if a = L ∨ (g.get? a).isSome = true then none else (h.get? a).map fun o => (a, o)
def rest (g h : Heap) (L d : Addr) : List (Addr × Obj) := (allNews g h L).filter fun p => decide (p.1 ≠ d)
end L2
namespace L2
open PySem PySem.Spec PyProof.Rows
structure Mod (K : PySem.W.Frag) (mg : Str → Option Value) (base : Heap) : Prop where
  kin : K.In base
  glob : base.Ns mainGlobals mg
  blt : ∃ mb, base.Ns builtinsNs mb ∧ ∀ x : Str, x ≠ "__name__" → mb x = bootBuiltins x
  nolimit : base.NoLimit
structure Cx where
  prog : Program
  w : World
  K : PySem.W.Frag
  mg : Str → Option Value
  base : Heap
  A : Around
  N : List Str
  s₀ : Shared
  H₀ : Hp
  env : Env
  outer : List Env
  stack : List Env
  ex : List Addr
  fn : Str → Bool
  calm : Bool
  pn : List (Addr × Obj)
  xe : Value → Shared → Prop
def frs (l : List Env) : List Addr := l.filterMap (·.frame)
abbrev Cx.fs (X : Cx) : List Addr := frs X.outer
def Vis (sc : Scope) (x : Str) : Prop := sc.names.lookup x = some .local ∨ sc.names.lookup x = some .cell ∨ sc.names.lookup x = some .free
def Loc (sc : Scope) (x : Str) : Prop := sc.names.lookup x = some .local ∨ sc.names.lookup x = some .cell
def Look (env : Env) (h : Heap) (m : Str → Option Value) (x : Str) (u : Value) : Prop :=
  (env.kindOf x = some .local ∧ m x = some u) ∨ ((env.kindOf x = some .cell ∨ env.kindOf x = some .free) ∧ ∃ c, env.cells.lookup x = some c ∧ h.IsCell c (some u))
structure Cx.Ok (X : Cx) : Prop where
  mod : Mod X.K X.mg X.base
  kind : X.env.scope.kind = .function
  glob : X.env.globals = mainGlobals
  blt : X.env.builtins = builtinsNs
  above : X.s₀.heap.objs.size ≤ X.env.locals
  inj : ∀ x y c, X.env.cells.lookup x = some c → X.env.cells.lookup y = some c → x = y
  has : ∀ x, (X.env.kindOf x = some .cell ∨ X.env.kindOf x = some .free) → ∃ c, X.env.cells.lookup x = some c
  cab : ∀ x c, X.fn x = true → X.env.cells.lookup x = some c → X.s₀.heap.objs.size ≤ c
  hd : X.calm = true → X.A.handled = none
  frames : X.A.frames = some X.stack
  stk : X.stack = X.outer ∨ (X.stack = X.env :: X.outer ∧ X.env.frame = some X.env.locals)
  exf : ∀ b ∈ X.ex, b ≠ X.env.locals ∧ ∀ x c, X.env.cells.lookup x = some c → c ≠ b
  bs : ∀ b o, X.base.get? b = some o → X.s₀.heap.get? b = some o ∧ X.H₀ b = none
  bsz : X.base.objs.size ≤ X.s₀.heap.objs.size
  noex : ∀ b o, X.base.get? b = some o → b ∉ X.ex
  exfs : ∀ b ∈ X.ex, b ∉ X.fs
  funs : X.s₀.heap.FunFrames X.base X.outer
  frf : ∀ b ∈ X.fs, X.H₀ b = none
structure Inv (X : Cx) (pins : List (Addr × Obj)) (σ : List (Option V)) (H : Hp) (s : Shared) : Prop where
  ok : X.Ok
  os : s.os = X.s₀.os
  bare : AllBare s.gens
  base : Un X.fs X.ex X.H₀ H X.s₀.heap s.heap
  loc : ∃ m, s.heap.Ns X.env.locals m ∧ ∀ (i : Nat) (x : Str) (v : V), X.N[i]? = some x → σ[i]? = some (some v) → Vis X.env.scope x → ∃ u, RelV v u ∧ Look X.env s.heap m x u
  cell : ∀ x c, X.env.cells.lookup x = some c → ∃ v, s.heap.IsCell c v
  free : H X.env.locals = none
  freeC : ∀ x c, X.env.cells.lookup x = some c → H c = none
  pin : ∀ p ∈ X.pn ++ pins, s.heap.get? p.1 = some p.2 ∧ H p.1 = none ∧ p.1 ≠ X.env.locals ∧ p.1 ∉ X.fs ∧ ∀ v, p.2.data ≠ .cell v
  hok : HOk X.prog X.w H s.heap
  len : σ.length = X.N.length
section
variable {X : Cx} {pins : List (Addr × Obj)} {σ : List (Option V)} {H H' : Hp} {s : Shared} {h' : Heap}
theorem Cx.Ok.nofr (ok : X.Ok) {b : Addr} {o : Obj} (e : X.base.get? b = some o) : b ∉ X.fs := fun hb => by
  have := (ok.funs.mem hb).1
  rw [e] at this; cases this
theorem Inv.bs (I : Inv X pins σ H s) : ∀ b o, X.base.get? b = some o → s.heap.get? b = some o ∧ H b = none := fun b o e =>
  ⟨I.base.keep b o (I.ok.bs b o e).1 (I.ok.bs b o e).2 (I.ok.nofr e) (I.ok.noex b o e), I.base.free b o (I.ok.bs b o e).1 (I.ok.bs b o e).2 (I.ok.noex b o e)⟩
theorem Inv.bk (I : Inv X pins σ H s) : ∀ b o, X.base.get? b = some o → s.heap.get? b = some o := fun b o e => (I.bs b o e).1
theorem Inv.mod (I : Inv X pins σ H s) : Mod X.K X.mg X.base := I.ok.mod
theorem Inv.kIn (I : Inv X pins σ H s) : X.K.In s.heap := I.ok.mod.kin.keeps I.bk
theorem Inv.fr (I : Inv X pins σ H s) : ∃ m, Fr X.base X.env.locals s.heap m :=
  let ⟨m, hn, _⟩ := I.loc
  ⟨m, hn, I.bk, Nat.le_trans I.ok.bsz I.ok.above⟩
theorem Inv.lt (I : Inv X pins σ H s) : X.env.locals < s.heap.objs.size := let ⟨_, hn, _⟩ := I.loc; hn.lt
theorem Inv.sz (I : Inv X pins σ H s) : X.s₀.heap.objs.size ≤ s.heap.objs.size := Nat.le_trans I.ok.above (Nat.le_of_lt I.lt)
theorem Inv.nofs (I : Inv X pins σ H s) {a : Addr} (h : s.heap.objs.size ≤ a) : a ∉ X.fs := fun hb => by
  obtain ⟨_, o, ho, _⟩ := I.ok.funs.mem hb
  exact absurd (Nat.lt_of_lt_of_le (Heap.lt_size ho) (Nat.le_trans I.sz h)) (Nat.lt_irrefl _)
theorem Inv.cne (I : Inv X pins σ H s) : ∀ x c, X.env.cells.lookup x = some c → c ≠ X.env.locals := fun x c e z => by
  obtain ⟨v, o, ho, hd⟩ := I.cell x c e
  obtain ⟨m, ⟨o', es, ep, ho', hd', _⟩, _⟩ := I.loc
  rw [z, ho'] at ho; cases ho; rw [hd'] at hd; cases hd
theorem Inv.funs (I : Inv X pins σ H s) : s.heap.FunFrames X.base X.outer := by
  have all : ∀ (l : List Env), (∀ b ∈ frs l, b ∈ X.fs) → X.s₀.heap.FunFrames X.base l → s.heap.FunFrames X.base l := by
    intro l
    induction l with
    | nil => intro _ _; trivial
    | cons env r ih =>
      intro hs hl
      obtain ⟨hk, ⟨L, o, hf, hn, ho, hd⟩, hr⟩ := hl
      have hL : L ∈ X.fs := hs L (by unfold frs; rw [List.filterMap_cons, hf]; exact List.mem_cons_self)
      obtain ⟨sl, e⟩ := I.base.slot L o ho (I.ok.frf L hL) hL fun z => I.ok.exfs L z hL
      exact ⟨hk, ⟨L, _, hf, hn, e, hd⟩, ih (fun b hb => hs b (by unfold frs; rw [List.filterMap_cons, hf]; exact List.mem_cons_of_mem _ hb)) hr⟩
  exact all X.outer (fun _ hb => hb) I.ok.funs
theorem Inv.stack (I : Inv X pins σ H s) : s.heap.FunFrames X.base X.stack := by
  rcases I.ok.stk with e | ⟨e, hf⟩
  · rw [e]; exact I.funs
  · rw [e]
    obtain ⟨m, hn, _⟩ := I.loc
    refine .cons (by rw [I.ok.kind]; decide) hf hn ?_ I.funs
    exact Heap.get?_none_of_le (Nat.le_trans I.ok.bsz I.ok.above)
theorem Inv.stkSub (I : Inv X pins σ H s) : ∀ b ∈ frs X.stack, b ∈ X.env.locals :: X.fs := fun b hb => by
  rcases I.ok.stk with e | ⟨e, hf⟩
  · rw [e] at hb; exact List.mem_cons_of_mem _ hb
  · rw [e] at hb
    unfold frs at hb
    rw [List.filterMap_cons, hf] at hb
    exact hb
theorem Inv.stkFree (I : Inv X pins σ H s) : ∀ b ∈ frs X.stack, H b = none := fun b hb => by
  rcases List.mem_cons.mp (I.stkSub b hb) with e | hb
  · rw [e]; exact I.free
  · obtain ⟨_, o, ho, _⟩ := I.ok.funs.mem hb
    exact I.base.free b o ho (I.ok.frf b hb) fun z => I.ok.exfs b z hb
theorem Inv.step {g' : Array GenState} {t' : Nat} {d' : Drawn} {ch : List Addr} (I : Inv X pins σ H s)
    (hch : ∀ b ∈ ch, (b ∈ X.ex ∨ X.s₀.heap.objs.size ≤ b) ∧ b ≠ X.env.locals ∧ (∀ x c, X.env.cells.lookup x = some c → c ≠ b) ∧ ∀ p ∈ X.pn ++ pins, p.1 ≠ b)
    (keep : ∀ b o, b ≠ X.env.locals → b ∉ X.fs → b ∉ ch → s.heap.get? b = some o → H b = none → h'.get? b = some o)
    (slot : ∀ b o, b ≠ X.env.locals → b ∈ X.fs → b ∉ ch → s.heap.get? b = some o → H b = none → ∃ sl, h'.get? b = some { o with slots := sl }) (free : ∀ b o, b ∉ ch → s.heap.get? b = some o → H b = none → H' b = none)
    (there : ∀ b o, b ∉ ch → s.heap.get? b = some o → ∃ o', h'.get? b = some o')
    (tups : ∀ b xs, H b = some (.tup xs) → H' b = some (.tup xs)) (frzs : ∀ b o u, H b = some (.frz o u) → H' b = some (.frz o u)) (tbls : ∀ b ps, H b = some (.tbl ps) → ∃ more, H' b = some (.tbl (ps ++ more)))
    (ns : ∀ m, s.heap.Ns X.env.locals m → h'.Ns X.env.locals m) (hok : HOk X.prog X.w H' h') (hg : AllBare g') :
    Inv X pins σ H' { s with heap := h', gens := g', drawn := d', toks := t' } := by
  have neL : ∀ b o, X.s₀.heap.get? b = some o → b ≠ X.env.locals := fun b o e => Nat.ne_of_lt (Nat.lt_of_lt_of_le (Heap.lt_size e) I.ok.above)
  have neC : ∀ b o, X.s₀.heap.get? b = some o → b ∉ X.ex → b ∉ ch := fun b o e hx hb => by
    rcases (hch b hb).1 with z | z
    · exact hx z
    · exact absurd (Nat.lt_of_lt_of_le (Heap.lt_size e) z) (Nat.lt_irrefl _)
  have cellK : ∀ x c, X.env.cells.lookup x = some c → ∀ v, s.heap.IsCell c v → h'.IsCell c v := fun x c e v ⟨o, ho, hd⟩ => by
    have nch : c ∉ ch := fun z => (hch c z).2.2.1 x c e rfl
    by_cases hc : c ∈ X.fs
    · obtain ⟨sl, q⟩ := slot c o (I.cne x c e) hc nch ho (I.freeC x c e)
      exact ⟨_, q, hd⟩
    · exact ⟨o, keep c o (I.cne x c e) hc nch ho (I.freeC x c e), hd⟩
  refine ⟨I.ok, I.os, hg, ⟨fun b o e n hb hx => ?_, fun b o e n hb hx => ?_, fun b o e n hx => ?_, fun b o e hx => ?_, fun b xs e => tups b xs (I.base.tups b xs e), fun b o xs e => frzs b o xs (I.base.frzs b o xs e), fun b ps e => ?_⟩, ?_, fun x c e => ?_, ?_, fun x c e => ?_, fun p hp => ?_, hok, I.len⟩
  · exact keep b o (neL b o e) hb (neC b o e hx) (I.base.keep b o e n hb hx) (I.base.free b o e n hx)
  · obtain ⟨sl, e1⟩ := I.base.slot b o e n hb hx
    obtain ⟨sl', e2⟩ := slot b _ (neL b o e) hb (neC b o e hx) e1 (I.base.free b o e n hx)
    exact ⟨sl', e2⟩
  · obtain ⟨o', e1⟩ := I.base.there b o e hx
    exact free b o' (neC b o e hx) e1 (I.base.free b o e n hx)
  · obtain ⟨o', e1⟩ := I.base.there b o e hx
    exact there b o' (neC b o e hx) e1
  · obtain ⟨m1, e1⟩ := I.base.tbls b ps e
    obtain ⟨m2, e2⟩ := tbls b _ e1
    exact ⟨m1 ++ m2, by rw [e2, Array.append_assoc]⟩
  · obtain ⟨m, hn, hl⟩ := I.loc
    refine ⟨m, ns m hn, fun i x v e1 e2 e3 => ?_⟩
    obtain ⟨u, r, l⟩ := hl i x v e1 e2 e3
    refine ⟨u, r, ?_⟩
    rcases l with l | ⟨k, c, e, z⟩
    · exact .inl l
    · exact .inr ⟨k, c, e, cellK x c e _ z⟩
  · obtain ⟨v, z⟩ := I.cell x c e
    exact ⟨v, cellK x c e v z⟩
  · obtain ⟨m, ⟨o, _, _, ho, _⟩, _⟩ := I.loc
    exact free _ o (fun z => (hch _ z).2.1 rfl) ho I.free
  · obtain ⟨v, o, ho, hd⟩ := I.cell x c e
    exact free c o (fun z => (hch c z).2.2.1 x c e rfl) ho (I.freeC x c e)
  · obtain ⟨e, n, ne, nf, d⟩ := I.pin p hp
    have nch : p.1 ∉ ch := fun z => (hch p.1 z).2.2.2 p hp rfl
    exact ⟨keep p.1 p.2 ne nf nch e n, free p.1 p.2 nch e n, ne, nf, d⟩
theorem Inv.un {t' : Nat} (I : Inv X pins σ H s) (u : Un X.fs [] H H' s.heap h') (hok : HOk X.prog X.w H' h') : Inv X pins σ H' { s with heap := h', toks := t' } := by
  obtain ⟨m, ⟨o, es, ep, ho, r⟩, _⟩ := id I.loc
  obtain ⟨sl, hL⟩ := u.any ho I.free (by simp)
  exact I.step (g' := s.gens) (d' := s.drawn) (ch := []) (fun _ z => nomatch z) (fun b o _ hb _ e n => u.keep b o e n hb (by simp)) (fun b o _ hb _ e n => u.slot b o e n hb (by simp)) (fun b o _ e n => u.free b o e n (by simp)) (fun b o _ e => u.there b o e (by simp)) u.tups u.frzs u.tbls (fun m' hm => by
    obtain ⟨o', es', ep', ho', r'⟩ := hm
    rw [ho] at ho'; cases ho'
    exact ⟨_, es', ep', hL, r'⟩) hok I.bare
theorem Inv.call {g' : Array GenState} {t' : Nat} {d' : Drawn} {ch : List Addr} (I : Inv X pins σ H s) (u : Un (frs X.stack) ch H H' s.heap h') (hok : HOk X.prog X.w H' h') (hg : AllBare g')
    (hch : ∀ b ∈ ch, (b ∈ X.ex ∨ X.s₀.heap.objs.size ≤ b) ∧ b ≠ X.env.locals ∧ (∀ x c, X.env.cells.lookup x = some c → c ≠ b) ∧ ∀ p ∈ X.pn ++ pins, p.1 ≠ b) :
    Inv X pins σ H' { s with heap := h', gens := g', drawn := d', toks := t' } := by
  obtain ⟨m, ⟨o, es, ep, ho, r⟩, _⟩ := id I.loc
  obtain ⟨sl, hL⟩ := u.any ho I.free fun z => (hch _ z).2.1 rfl
  exact I.step (ch := ch) hch (fun b o hL hb hc e n => u.keep b o e n (fun z => (List.mem_cons.mp (I.stkSub b z)).elim hL hb) hc) (fun b o _ _ hc e n => u.any e n hc) (fun b o hc e n => u.free b o e n hc) (fun b o hc e => u.there b o e hc) u.tups u.frzs u.tbls (fun m' hm => by
    obtain ⟨o', es', ep', ho', r'⟩ := hm
    rw [ho] at ho'; cases ho'
    exact ⟨_, es', ep', hL, r'⟩) hok hg
theorem Inv.turned {t' : Nat} {it : Addr} (I : Inv X pins σ H s) (k : ∀ b o, b ≠ it → s.heap.get? b = some o → h'.get? b = some o) (hn : H it = none) (hL : it ≠ X.env.locals)
    (h1 : it ∈ X.ex ∨ X.s₀.heap.objs.size ≤ it) (h2 : ∀ x c, X.env.cells.lookup x = some c → c ≠ it) (h3 : ∀ p ∈ X.pn ++ pins, p.1 ≠ it) : Inv X pins σ H { s with heap := h', toks := t' } := by
  have nit : ∀ b u, H b = some u → b ≠ it := fun b u e z => by rw [z, hn] at e; cases e
  refine I.step (g' := s.gens) (d' := s.drawn) (ch := [it]) (fun b hb => ?_) (fun b o _ _ hc e _ => k b o (fun z => hc (by simp [z])) e) (fun b o _ _ hc e _ => ⟨o.slots, k b o (fun z => hc (by simp [z])) e⟩) (fun _ _ _ _ n => n)
    (fun b o hc e => ⟨o, k b o (fun z => hc (by simp [z])) e⟩) (fun _ _ e => e) (fun _ _ _ e => e) (fun b ps e => ⟨#[], by rw [e]; simp⟩) (fun m hm => ?_) (fun b u e => ?_) I.bare
  · have e : b = it := by simpa using hb
    subst e
    exact ⟨h1, hL, h2, h3⟩
  · obtain ⟨o, es, ep, ho, r⟩ := hm
    exact ⟨o, es, ep, k _ o (Ne.symm hL) ho, r⟩
  · refine (I.hok b u e).stay (fun c v hc q => k c v ?_ q) (fun _ q => q) fun _ _ q => q
    rcases hc with z | z
    · rw [z]; exact nit b u e
    · exact nit c _ z
theorem Inv.tok (I : Inv X pins σ H s) (t : Nat) : Inv X pins σ H { s with toks := t } := I.un (h' := s.heap) (t' := t) Un.refl I.hok
theorem Inv.kept {t' : Nat} (I : Inv X pins σ H s) (k : ∀ b u, s.heap.get? b = some u → h'.get? b = some u) : Inv X pins σ H { s with heap := h', toks := t' } := I.un (Un.kept k) (I.hok.kept k)
theorem Inv.laid {a : Addr} {o : HO} {t' : Nat} (I : Inv X pins σ H s) (k : ∀ b u, s.heap.get? b = some u → h'.get? b = some u) (hp : s.heap.objs.size ≤ a) (new : ObjOk X.prog X.w (upd H a o) h' a o) :
    Inv X pins σ (upd H a o) { s with heap := h', toks := t' } := I.un (Un.laid k hp (I.hok.fresh hp)) (I.hok.laid k hp new)
theorem Inv.write {x e : Addr} {o : HO} {t' : Nat} (I : Inv X pins σ H s) (mu : Mut (H x)) (he : e = x ∨ H e = some (.own x)) (k : ∀ b u, b ≠ e → s.heap.get? b = some u → h'.get? b = some u) (heo : ∃ u, h'.get? e = some u)
    (new : ObjOk X.prog X.w (upd H x o) h' x o) : Inv X pins σ (upd H x o) { s with heap := h', toks := t' } := I.un (Un.write mu he k heo) (I.hok.write mu he k heo new)
theorem Inv.weak {σ' : List (Option V)} (I : Inv X pins σ H s) (hl : σ'.length = σ.length) (w : ∀ (i : Nat) v, σ'[i]? = some (some v) → σ[i]? = some (some v)) : Inv X pins σ' H s :=
  ⟨I.ok, I.os, I.bare, I.base, let ⟨m, hn, hl'⟩ := I.loc; ⟨m, hn, fun i x v e1 e2 e3 => hl' i x v e1 (w i v e2) e3⟩, I.cell, I.free, I.freeC, I.pin, I.hok, hl.trans I.len⟩
theorem Inv.pins_of {pins' : List (Addr × Obj)} (I : Inv X pins σ H s) (h : ∀ p ∈ pins', s.heap.get? p.1 = some p.2 ∧ H p.1 = none ∧ p.1 ≠ X.env.locals ∧ p.1 ∉ X.fs ∧ ∀ v, p.2.data ≠ .cell v) : Inv X pins' σ H s :=
  ⟨I.ok, I.os, I.bare, I.base, I.loc, I.cell, I.free, I.freeC, fun p hp => (List.mem_append.mp hp).elim (fun z => I.pin p (List.mem_append_left _ z)) (h p), I.hok, I.len⟩
theorem nodup_ix {N : List Str} (hN : N.Nodup) {i j : Nat} {x : Str} (a : N[i]? = some x) (b : N[j]? = some x) : i = j := by
  obtain ⟨h1, e1⟩ := List.getElem?_eq_some_iff.mp a
  obtain ⟨h2, e2⟩ := List.getElem?_eq_some_iff.mp b
  exact (List.getElem_inj hN).mp (e1.trans e2.symm)
theorem store_ok2 {M : Model} {A : Around} {E : Value → Shared → Prop} {i : Nat} {x : Str} {v : V} {u : Value} {Q : Unit → Shared → Prop} (I : Inv X pins σ H s) (hN : X.N.Nodup) (hi : X.N[i]? = some x) (hx : Loc X.env.scope x) (r : RelV v u)
    (h : ∀ s', Inv X pins (σ.set i (some v)) H s' → (∃ a, Heap.SameBut a s.heap s'.heap ∧ (a = X.env.locals ∨ X.env.cells.lookup x = some a)) → Q () s') (hf : X.fn x = true ∨ X.env.scope.names.lookup x = some .local := by first | exact .inl rfl | exact .inr rfl | assumption) : wpAny M A (storeName X.env x u) Q E s := by
  obtain ⟨m, hn, hl⟩ := id I.loc
  have hcls : (X.env.scope.kind == .class || (X.env.scope.kind == .module && X.env.locals != X.env.globals)) = false := by rw [I.ok.kind]; rfl
  have hiσ : i < σ.length := by rw [I.len]; exact (List.getElem?_eq_some_iff.mp hi).1
  have cne := I.cne
  have tracked : ∀ {a : Addr} {h' : Heap}, (∃ o, s.heap.get? a = some o ∧ H a = none) → Heap.SameBut a s.heap h' → HOk X.prog X.w H h' := fun {a h'} ha hs b ob e => by
    obtain ⟨_, _, hfree⟩ := ha
    refine (I.hok b ob e).stay (fun c w' hc q => (hs.2 c ?_).trans q) (fun _ q => q) fun _ _ q => q
    rintro rfl
    rcases hc with rfl | hc
    · rw [hfree] at e; cases e
    · rw [hfree] at hc; cases hc
  rcases hx with hk | hk
  · refine wpAny_storeName_local hk hn (fun h' hn' hs => ?_) hcls
    obtain ⟨oL, _, _, hoL, _⟩ := id hn
    refine h _ ⟨I.ok, I.os, I.bare, ⟨fun b o e n hb hx => ?_, fun b o e n hb hx => ?_, I.base.free, fun b o e hx => ?_, I.base.tups, I.base.frzs, I.base.tbls⟩, ⟨_, hn', fun j y v' e1 e2 e3 => ?_⟩, fun y c e => ?_, I.free, I.freeC, fun p hp => ?_, tracked ⟨oL, hoL, I.free⟩ hs, by simpa using I.len⟩ ⟨_, hs, .inl rfl⟩
    · exact (hs.2 b (Nat.ne_of_lt (Nat.lt_of_lt_of_le (Heap.lt_size e) I.ok.above))).trans (I.base.keep b o e n hb hx)
    · obtain ⟨sl, e1⟩ := I.base.slot b o e n hb hx
      exact ⟨sl, (hs.2 b (Nat.ne_of_lt (Nat.lt_of_lt_of_le (Heap.lt_size e) I.ok.above))).trans e1⟩
    · obtain ⟨o', e1⟩ := I.base.there b o e hx
      exact ⟨o', (hs.2 b (Nat.ne_of_lt (Nat.lt_of_lt_of_le (Heap.lt_size e) I.ok.above))).trans e1⟩
    · by_cases hj : j = i
      · subst hj
        rw [hi] at e1; cases e1
        rw [List.getElem?_set_self hiσ] at e2
        cases e2
        exact ⟨u, r, .inl ⟨hk, by simp⟩⟩
      · rw [List.getElem?_set_ne (Ne.symm hj)] at e2
        obtain ⟨u', r', q⟩ := hl j y v' e1 e2 e3
        refine ⟨u', r', ?_⟩
        rcases q with ⟨k, e⟩ | ⟨k, c, e, z⟩
        · refine .inl ⟨k, ?_⟩
          have : y ≠ x := fun e => hj (nodup_ix hN e1 (e ▸ hi))
          simp [this, e]
        · exact .inr ⟨k, c, e, z.sameBut hs (cne y c e)⟩
    · obtain ⟨w', z⟩ := I.cell y c e
      exact ⟨w', z.sameBut hs (cne y c e)⟩
    · obtain ⟨e, n, ne, nf, d⟩ := I.pin p hp
      exact ⟨(hs.2 p.1 ne).trans e, n, ne, nf, d⟩
  · have hfn : X.fn x = true := by
      rcases hf with z | z
      · exact z
      · rw [z] at hk; cases hk
    obtain ⟨c, hc⟩ := I.ok.has x (.inl hk)
    obtain ⟨w', z⟩ := I.cell x c hc
    refine wpAny_storeName_cell I.ok.kind hk hc z (fun h' hc' hs => ?_)
    obtain ⟨oc, hoc, hocd⟩ := id z
    refine h { s with heap := h' } ⟨I.ok, I.os, I.bare, ⟨fun b o e n hb hx => ?_, fun b o e n hb hx => ?_, I.base.free, fun b o e hx => ?_, I.base.tups, I.base.frzs, I.base.tbls⟩, ⟨m, hn.sameBut hs (Ne.symm (cne x c hc)), fun j y v' e1 e2 e3 => ?_⟩, fun y c' e => ?_, I.free, I.freeC, fun p hp => ?_, tracked ⟨oc, hoc, I.freeC x c hc⟩ hs, by simpa using I.len⟩ ⟨c, hs, .inr hc⟩
    · exact (hs.2 b (Nat.ne_of_lt (Nat.lt_of_lt_of_le (Heap.lt_size e) (I.ok.cab x c hfn hc)))).trans (I.base.keep b o e n hb hx)
    · obtain ⟨sl, e1⟩ := I.base.slot b o e n hb hx
      exact ⟨sl, (hs.2 b (Nat.ne_of_lt (Nat.lt_of_lt_of_le (Heap.lt_size e) (I.ok.cab x c hfn hc)))).trans e1⟩
    · obtain ⟨o', e1⟩ := I.base.there b o e hx
      exact ⟨o', (hs.2 b (Nat.ne_of_lt (Nat.lt_of_lt_of_le (Heap.lt_size e) (I.ok.cab x c hfn hc)))).trans e1⟩
    · by_cases hj : j = i
      · subst hj
        rw [hi] at e1; cases e1
        rw [List.getElem?_set_self hiσ] at e2
        cases e2
        exact ⟨u, r, .inr ⟨.inl hk, c, hc, hc'⟩⟩
      · rw [List.getElem?_set_ne (Ne.symm hj)] at e2
        obtain ⟨u', r', q⟩ := hl j y v' e1 e2 e3
        refine ⟨u', r', ?_⟩
        rcases q with q | ⟨k, c', e, z'⟩
        · exact .inl q
        · refine .inr ⟨k, c', e, z'.sameBut hs ?_⟩
          rintro rfl
          exact hj (nodup_ix hN e1 (I.ok.inj _ _ _ e hc ▸ hi))
    · by_cases hcc : c' = c
      · subst hcc; exact ⟨_, hc'⟩
      · obtain ⟨w2, z2⟩ := I.cell y c' e
        exact ⟨w2, z2.sameBut hs hcc⟩
    · obtain ⟨e, n, ne, nf, d⟩ := I.pin p hp
      refine ⟨(hs.2 p.1 ?_).trans e, n, ne, nf, d⟩
      intro q
      rw [q, hoc] at e
      have q' : oc = p.2 := Option.some.inj e
      exact d w' (by rw [← q']; exact hocd)
theorem store_ok {M : Model} {A : Around} {E : Value → Shared → Prop} {i : Nat} {x : Str} {v : V} {u : Value} {Q : Unit → Shared → Prop} (I : Inv X pins σ H s) (hN : X.N.Nodup) (hi : X.N[i]? = some x) (hx : Loc X.env.scope x) (r : RelV v u)
    (h : ∀ s', Inv X pins (σ.set i (some v)) H s' → Q () s') (hf : X.fn x = true ∨ X.env.scope.names.lookup x = some .local := by first | exact .inl rfl | exact .inr rfl | assumption) : wpAny M A (storeName X.env x u) Q E s :=
  store_ok2 I hN hi hx r (fun s' I' _ => h s' I') hf
theorem Inv.call' {s' : Shared} {ch : List Addr} (I : Inv X pins σ H s) (ho : s'.os = s.os) (u : Un (frs X.stack) ch H H' s.heap s'.heap) (hok : HOk X.prog X.w H' s'.heap) (hg : AllBare s'.gens)
    (hch : ∀ b ∈ ch, (b ∈ X.ex ∨ X.s₀.heap.objs.size ≤ b) ∧ b ≠ X.env.locals ∧ (∀ x c, X.env.cells.lookup x = some c → c ≠ b) ∧ ∀ p ∈ X.pn ++ pins, p.1 ≠ b) : Inv X pins σ H' s' := by
  obtain ⟨h', g', d', t', o'⟩ := s'
  have e : o' = s.os := ho
  subst e
  exact I.call (g' := g') (t' := t') (d' := d') u hok hg hch
end
abbrev XK := Value → Option Addr → Hp → Prop
abbrev St := List (Option V)
abbrev VK := V → Hp → Prop
abbrev TE := St → Hp → VK → Prop
abbrev TT := St → Hp → (Bool → Hp → Prop) → Prop
abbrev TA := St → Hp → (List V → Hp → Prop) → Prop
structure Ends where
  nx : St → Hp → Prop
  rt : VK
  bk : St → Hp → Prop := fun _ _ => False
  ct : St → Hp → Prop := fun _ _ => False
abbrev TS := Ends → St → Hp → Prop
def EP (X : Cx) (pins : List (Addr × Obj)) (σ : St) (Q : VK) (u : Value) (s' : Shared) : Prop := ∃ v H', Inv X pins σ H' s' ∧ RelV v u ∧ Q v H'
def TP (X : Cx) (pins : List (Addr × Obj)) (σ : St) (Q : Bool → Hp → Prop) (b : Bool) (s' : Shared) : Prop := ∃ H', Inv X pins σ H' s' ∧ Q b H'
def AP (X : Cx) (pins : List (Addr × Obj)) (σ : St) (Q : List V → Hp → Prop) (us : List Value) (s' : Shared) : Prop := ∃ vs H', Inv X pins σ H' s' ∧ Vals vs us ∧ Q vs H'
def SP (X : Cx) (pins : List (Addr × Obj)) (D : Ends) (f : Flow) (s' : Shared) : Prop :=
  match f with
  | .next => ∃ σ' H', Inv X pins σ' H' s' ∧ D.nx σ' H'
  | .brk => ∃ σ' H', Inv X pins σ' H' s' ∧ D.bk σ' H'
  | .cont => ∃ σ' H', Inv X pins σ' H' s' ∧ D.ct σ' H'
  | .ret u => ∃ v σ' H', Inv X pins σ' H' s' ∧ RelV v u ∧ D.rt v H'
def PE (X : Cx) (e : Expr) (t : TE) : Prop :=
  ∀ (pins : List (Addr × Obj)) (s : Shared) (σ : St) (H : Hp) (Q : VK), Inv X pins σ H s → t σ H Q → wpAny (model X.prog X.w) X.A (eval e X.env) (EP X pins σ Q) X.xe s
def PT (X : Cx) (e : Expr) (t : TT) : Prop :=
  ∀ (pins : List (Addr × Obj)) (s : Shared) (σ : St) (H : Hp) (Q : Bool → Hp → Prop), Inv X pins σ H s → t σ H Q → wpAny (model X.prog X.w) X.A (isTrue e X.env (eval e X.env)) (TP X pins σ Q) X.xe s
def PW (X : Cx) (e : Expr) (t : TT) : Prop :=
  ∀ (whole : Sem Value) (pins : List (Addr × Obj)) (s : Shared) (σ : St) (H : Hp) (Q : Bool → Hp → Prop), Inv X pins σ H s → t σ H Q → wpAny (model X.prog X.w) X.A (isTrue e X.env whole) (TP X pins σ Q) X.xe s
theorem PW.pt {X : Cx} {e : Expr} {t : TT} (h : PW X e t) : PT X e t := h _
def PA (X : Cx) (es : List Expr) (t : TA) : Prop :=
  ∀ (pos : Pos) (pins : List (Addr × Obj)) (s : Shared) (σ : St) (H : Hp) (Q : List V → Hp → Prop), Inv X pins σ H s → t σ H Q → wpAny (model X.prog X.w) X.A (spliced (backTo pos (starEach es X.env))) (AP X pins σ Q) X.xe s
def PS (X : Cx) (st : Stmt) (t : TS) : Prop :=
  ∀ (pins : List (Addr × Obj)) (s : Shared) (σ : St) (H : Hp) (D : Ends), Inv X pins σ H s → t D σ H → wpAny (model X.prog X.w) X.A (exec st X.env) (SP X pins D) X.xe s
def PSs (X : Cx) (st : List Stmt) (t : TS) : Prop :=
  ∀ (pins : List (Addr × Obj)) (s : Shared) (σ : St) (H : Hp) (D : Ends), Inv X pins σ H s → t D σ H → wpAny (model X.prog X.w) X.A (execs st X.env) (SP X pins D) X.xe s
theorem thn {α : Type} {t : Sem α} {Q Q' : α → Shared → Prop} {M : Model} {A : Around} {E : Value → Shared → Prop} {s : Shared} (h : wpAny M A t Q E s) (hQ : ∀ a s, Q a s → Q' a s) : wpAny M A t Q' E s := wpAny_mono h hQ fun _ _ x => x
end L2
namespace L2
open PySem PySem.Spec PyProof.Rows
section
variable {X : Cx}
theorem bin {a b : Expr} {ta tb : TE} (ha : PE X a ta) (hb : PE X b tb) {pins : List (Addr × Obj)} {s : Shared} {σ : St} {H : Hp} {R : V → V → Hp → Prop} (I : Inv X pins σ H s) (h : ta σ H fun x H1 => tb σ H1 fun y H2 => R x y H2)
    {α : Type} {Q : α → Shared → Prop} {f : Value → Value → Sem α}
    (hf : ∀ v u s2 x y H2, Inv X pins σ H2 s2 → RelV x v → RelV y u → R x y H2 → wpAny (model X.prog X.w) X.A (f v u) Q X.xe s2) :
    wpAny (model X.prog X.w) X.A (eval a X.env) (fun v s₁ => wpAny (model X.prog X.w) X.A (eval b X.env) (fun u s₂ => wpAny (model X.prog X.w) X.A (f v u) Q X.xe s₂) X.xe s₁) X.xe s := by
  refine thn (ha pins s σ H _ I h) fun v s1 ⟨x, H1, I1, r1, q1⟩ => ?_
  refine thn (hb pins s1 σ H1 _ I1 q1) fun u s2 ⟨y, H2, I2, r2, q2⟩ => ?_
  exact hf v u s2 x y H2 I2 r1 r2 q2
def tVar (i : Nat) : TE := fun σ H Q => ∃ v, σ[i]? = some (some v) ∧ Q v H
def tC (v : V) : TE := fun _ H Q => Q v H
theorem pe_var {i : Nat} {x : Str} {pos : Pos} (hN : X.N[i]? = some x) (hv : Vis X.env.scope x) (hd : (x == ("__debug__" : Str)) = false := by decide) (hcd : (x == ("__classdict__" : Str)) = false := by decide) : PE X (.Name x pos) (tVar i) := by
  intro pins s σ H Q I h
  obtain ⟨v, e, h⟩ := h
  obtain ⟨m, hn, hl⟩ := I.loc
  obtain ⟨u, r, l⟩ := hl i x v hN e hv
  have fin : EP X pins σ Q u s := ⟨v, H, I, r, h⟩
  rcases l with ⟨hk, hm⟩ | ⟨hk, c, hc, hcell⟩
  · exact wpAny_Name (wpAny_loadName_local I.ok.kind hk hn hm fin) hd
  · rcases hk with hk | hk
    · exact wpAny_Name (wpAny_loadName_cell I.ok.kind hk hc hcell fin) hd
    · exact wpAny_Name (wpAny_loadName_free I.ok.kind hk hc hcell fin hcd) hd
theorem pe_int {i j pos} : PE X (.Constant (.int i) j pos) (tC (.int i)) := fun _ _ _ H _ I h => wpAny_Constant_int ⟨.int i, H, I.tok _, ⟨_, rfl⟩, h⟩
theorem pe_bl {b j pos} : PE X (.Constant (.bool b) j pos) (tC (.bl b)) := fun _ _ _ H _ I h => Constant_bool ⟨.bl b, H, I, rfl, h⟩
theorem pe_non {j pos} : PE X (.Constant .none j pos) (tC .non) := fun _ _ _ H _ I h => Constant_none ⟨.non, H, I, rfl, h⟩
theorem pe_str {x j pos} : PE X (.Constant (.str x) j pos) (tC (.str x)) := fun _ _ _ H _ I h => Calls.Constant_str ⟨.str x, H, I.tok _, ⟨_, rfl⟩, h⟩
def Gl (X : Cx) (x : Str) : Prop := X.env.kindOf x = some .globalImplicit
theorem ld_glob {E : Value → Shared → Prop} {pins : List (Addr × Obj)} {s : Shared} {σ : St} {H : Hp} {x : Str} {u : Value} {pos : Pos} {Q : Value → Shared → Prop} (I : Inv X pins σ H s) (hg : Gl X x) (hm : X.mg x = some u) (h : Q u s)
    (hd : (x == ("__debug__" : Str)) = false := by decide) : wpAny (model X.prog X.w) X.A (eval (.Name x pos) X.env) Q E s :=
  Calls.Name_function_global I.ok.kind hg (Calls.loadGlobal_global (by rw [I.ok.glob]; exact I.mod.glob.keeps I.bk) hm h) hd
theorem ld_blt {E : Value → Shared → Prop} {pins : List (Addr × Obj)} {s : Shared} {σ : St} {H : Hp} {x : Str} {u : Value} {pos : Pos} {Q : Value → Shared → Prop} (I : Inv X pins σ H s) (hg : Gl X x) (hm : X.mg x = none) (hv : bootBuiltins x = some u) (h : Q u s)
    (hn : x ≠ "__name__" := by decide) (hd : (x == ("__debug__" : Str)) = false := by decide) : wpAny (model X.prog X.w) X.A (eval (.Name x pos) X.env) Q E s := by
  obtain ⟨mb, h1, h2⟩ := I.mod.blt
  exact Calls.Name_function_global I.ok.kind hg (Calls.loadGlobal_builtin (by rw [I.ok.glob]; exact I.mod.glob.keeps I.bk) hm (by rw [I.ok.blt]; exact h1.keeps I.bk) ((h2 x hn).trans hv) h) hd
theorem pe_glob {x : Str} {v : V} {u : Value} {pos : Pos} (hg : Gl X x) (hm : X.mg x = some u) (r : RelV v u) (hd : (x == ("__debug__" : Str)) = false := by decide) : PE X (.Name x pos) (tC v) :=
  fun _ _ _ H _ I h => ld_glob I hg hm ⟨v, H, I, r, h⟩ hd
theorem pe_bltn {x : Str} {v : V} {u : Value} {pos : Pos} (hg : Gl X x) (hm : X.mg x = none) (hv : bootBuiltins x = some u) (r : RelV v u) (hn : x ≠ "__name__" := by decide) (hd : (x == ("__debug__" : Str)) = false := by decide) : PE X (.Name x pos) (tC v) :=
  fun _ _ _ H _ I h => ld_blt I hg hm hv ⟨v, H, I, r, h⟩ hn hd
variable {a b : Expr} {ta tb : TE} {pos : Pos}
def PC (X : Cx) (op : CmpOp) (a b : Expr) (t : TE) : Prop :=
  ∀ (pins : List (Addr × Obj)) (s : Shared) (σ : St) (H : Hp) (Q : VK), Inv X pins σ H s → t σ H Q →
    wpAny (model X.prog X.w) X.A (eval a X.env) (fun v s₁ => wpAny (model X.prog X.w) X.A (eval b X.env) (fun u s₂ => wpAny (model X.prog X.w) X.A (compareOp op v u) (EP X pins σ Q) X.xe s₂) X.xe s₁) X.xe s
theorem nobehind (b : Expr) {op : CmpOp} (h : op ≠ .In) (h2 : op ≠ .NotIn) : behindInMarks op b = false := by
  have e1 : (op == CmpOp.In) = false := by cases op <;> first | rfl | exact absurd rfl h
  have e2 : (op == CmpOp.NotIn) = false := by cases op <;> first | rfl | exact absurd rfl h2
  cases b <;> simp [behindInMarks, e1, e2]
def tB (t : TE) : TT := fun σ H Q => t σ H fun x H1 => ∃ c, x = .bl c ∧ Q c H1
theorem pt_cmp {op : CmpOp} {t : TE} (h : PC X op a b t) (h1 : behindInMarks op b = false := by first | exact nobehind _ (by decide) (by decide) | rfl) : PT X (.Compare a [op] [b] pos) (tB t) := by
  intro pins s σ H Q I hw
  refine wpAny_isTrue_Compare1 (thn (h pins s σ H _ I hw) fun v s1 h1 => thn h1 fun u s2 h2 => thn h2 fun c s3 ⟨x, H1, I1, r1, q1⟩ => ?_) h1
  obtain ⟨d, rfl, q⟩ := q1
  cases r1
  exact wpAny_truthy_bool ⟨H1, I1, q⟩
theorem pt_val {e : Expr} {t : TE} (h : PE X e t) (he : ∀ whole, isTrue e X.env whole = (do let v ← whole; standAt e.pos; holding [v] (truthy v)) := by intro _; rfl) : PT X e (tB t) := by
  intro pins s σ H Q I hw
  refine isTrue_plain (thn (h pins s σ H _ I hw) fun v s1 ⟨x, H1, I1, r1, q1⟩ => ?_) (he _)
  obtain ⟨d, rfl, q⟩ := q1
  cases r1
  exact wpAny_truthy_bool ⟨H1, I1, q⟩
variable {tA tB' : TT} {rest : List Expr}
def tAnd (t u : TT) : TT := fun σ H Q => t σ H fun c H1 => if c = true then u σ H1 Q else Q false H1
def tOr (t u : TT) : TT := fun σ H Q => t σ H fun c H1 => if c = true then Q true H1 else u σ H1 Q
def tNot (t : TT) : TT := fun σ H Q => t σ H fun c H1 => Q (!c) H1
theorem pw_and1 (ha : PT X a tA) : PW X (.BoolOp .And [a] pos) tA := by
  intro wh pins s σ H Q I h
  refine isTrue_and (thn (ha pins s σ H Q I h) fun c s1 e => ?_)
  cases c with
  | true => exact isTrue_and_nil e
  | false => exact e
theorem pw_or1 (ha : PT X a tA) : PW X (.BoolOp .Or [a] pos) tA := by
  intro wh pins s σ H Q I h
  refine isTrue_or (thn (ha pins s σ H Q I h) fun c s1 e => ?_)
  cases c with
  | false => exact isTrue_or_nil e
  | true => exact e
theorem pw_and (ha : PT X a tA) (hb : PW X (.BoolOp .And (b :: rest) pos) tB') : PW X (.BoolOp .And (a :: b :: rest) pos) (tAnd tA tB') := by
  intro wh pins s σ H Q I h
  refine isTrue_and (thn (ha pins s σ H _ I h) fun c s1 ⟨H1, I1, q1⟩ => ?_)
  cases c with
  | true => exact hb wh pins s1 σ H1 Q I1 q1
  | false => exact ⟨H1, I1, q1⟩
theorem pw_or (ha : PT X a tA) (hb : PW X (.BoolOp .Or (b :: rest) pos) tB') : PW X (.BoolOp .Or (a :: b :: rest) pos) (tOr tA tB') := by
  intro wh pins s σ H Q I h
  refine isTrue_or (thn (ha pins s σ H _ I h) fun c s1 ⟨H1, I1, q1⟩ => ?_)
  cases c with
  | true => exact ⟨H1, I1, q1⟩
  | false => exact hb wh pins s1 σ H1 Q I1 q1
theorem pt_not (ha : PT X a tA) : PT X (.UnaryOp .Not a pos) (tNot tA) := by
  intro pins s σ H Q I h
  exact isTrue_not (ha pins s σ H (fun c H1 => Q (!c) H1) I h)
def tAndV (ta tb : TE) : TE := fun σ H Q => ta σ H fun x H1 => ∃ c, x = .bl c ∧ if c = true then tb σ H1 Q else Q (.bl false) H1
def tNotV (ta : TE) : TE := fun σ H Q => ta σ H fun x H1 => ∃ c, x = .bl c ∧ Q (.bl (!c)) H1
theorem pe_one {op} {t : TE} (h : PE X a t) : PE X (.BoolOp op [a] pos) t := fun pins s σ H Q I hw => BoolOp_one (h pins s σ H Q I hw)
theorem pe_and (ha : PE X a ta) (hb : PE X (.BoolOp .And (b :: rest) pos) tb) : PE X (.BoolOp .And (a :: b :: rest) pos) (tAndV ta tb) := by
  intro pins s σ H Q I h
  refine BoolOp_and (thn (ha pins s σ H _ I h) fun v s1 ⟨x, H1, I1, r1, q1⟩ => ?_)
  obtain ⟨c, rfl, q1⟩ := q1
  cases r1
  refine wpAny_truthy_bool ?_
  cases c with
  | true => exact hb pins s1 σ H1 Q I1 q1
  | false => exact ⟨.bl false, H1, I1, rfl, q1⟩
theorem pe_not (ha : PE X a ta) : PE X (.UnaryOp .Not a pos) (tNotV ta) := by
  intro pins s σ H Q I h
  refine UnaryOp_ (thn (ha pins s σ H _ I h) fun v s1 ⟨x, H1, I1, r1, q1⟩ => ?_)
  obtain ⟨c, rfl, q1⟩ := q1
  cases r1
  exact not_of (wpAny_truthy_bool ⟨.bl (!c), H1, I1, rfl, q1⟩)
def tIf (t : TT) (ta tb : TE) : TE := fun σ H Q => t σ H fun c H1 => if c = true then ta σ H1 Q else tb σ H1 Q
theorem pe_ifExp {c : Expr} (hc : PT X c tA) (ha : PE X a ta) (hb : PE X b tb) : PE X (.IfExp c a b pos) (tIf tA ta tb) := by
  intro pins s σ H Q I h
  refine wpAny_IfExp (thn (hc pins s σ H _ I h) fun d s1 ⟨H1, I1, q1⟩ => ?_)
  cases d with
  | true => exact ha pins s1 σ H1 Q I1 q1
  | false => exact hb pins s1 σ H1 Q I1 q1
end
end L2
namespace L2
open PySem PySem.Spec PyProof.Rows
def SqL (K : PySem.W.Frag) (H : Hp) (a : Addr) (xs : List V) : Prop :=
  Rd H a (.lst xs) ∨
    ∃ (o : Obj) (its : Array Value) (n : Nat), K.lookup a = some o ∧ o.cls = .type "list" ∧ o.dict = none ∧ o.data = .seq its n ∧ its.size ≤ sizeLine ∧ Vals xs its.toList
def SqT (K : PySem.W.Frag) (H : Hp) (a : Addr) (xs : List V) : Prop :=
  Rd H a (.tup xs) ∨
    ∃ (o : Obj) (its : Array Value) (n : Nat), K.lookup a = some o ∧ o.cls = .type "tuple" ∧ o.data = .seq its n ∧ its.size ≤ sizeLine ∧ Vals xs its.toList
def absV : Value → Option V
  | .none => some .non
  | .bool b => some (.bl b)
  | .int i _ => some (.int i)
  | .str x _ => some (.str x)
  | .bytes b _ => some (.byt b)
  | .float b _ => some (.flt b)
  | .ref a => some (.ref a)
  | .type n => some (.ty n)
  | _ => none
theorem RelV.abs {x : V} {u : Value} (r : RelV x u) : absV u = some x := by
  cases x with
  | non => cases r; rfl
  | bl _ => cases r; rfl
  | int _ => obtain ⟨t, rfl⟩ := r; rfl
  | str _ => obtain ⟨t, rfl⟩ := r; rfl
  | byt _ => obtain ⟨t, rfl⟩ := r; rfl
  | flt _ => obtain ⟨t, rfl⟩ := r; rfl
  | ref _ => cases r; rfl
  | ty _ => cases r; rfl
theorem RelV.inj {x y : V} {u : Value} (r : RelV x u) (q : RelV y u) : x = y := Option.some.inj (r.abs.symm.trans q.abs)
theorem Vals.inj : ∀ {xs ys : List V} {us : List Value}, Vals xs us → Vals ys us → xs = ys
  | _, _, _, .nil, .nil => rfl
  | _, _, _, .cons r t, .cons r' t' => by rw [r.inj r', Vals.inj t t']
section
variable {X : Cx} {pins : List (Addr × Obj)} {σ : St} {H : Hp} {s : Shared} {a : Addr} {xs ys : List V}
theorem SqL.of {K : PySem.W.Frag} (h : H a = some (.lst xs)) : SqL K H a xs := .inl (.inl h)
theorem SqT.of {K : PySem.W.Frag} (h : H a = some (.tup xs)) : SqT K H a xs := .inl (.inl h)
theorem Inv.list (I : Inv X pins σ H s) (h : SqL X.K H a xs) : ∃ its : List Value, Vals xs its ∧ PlainL s.heap a its.toArray ∧ xs.length ≤ sizeLine := by
  rcases h with h | ⟨o, its, n, hk, hc, hd, hs, hz, r⟩
  · obtain ⟨z, its, n, r, e⟩ := h.ok I.hok
    exact ⟨its, r, ⟨_, n, e, rfl, rfl, rfl⟩, z⟩
  · refine ⟨its.toList, r, ⟨o, n, I.kIn a o hk, hc, hd, by simpa using hs⟩, ?_⟩
    have e := r.length
    simp only [Array.length_toList] at e
    omega
theorem Inv.tuple (I : Inv X pins σ H s) (h : SqT X.K H a xs) : ∃ its : List Value, Vals xs its ∧ IsTup s.heap a its.toArray ∧ xs.length ≤ sizeLine := by
  rcases h with h | ⟨o, its, n, hk, hc, hs, hz, r⟩
  · obtain ⟨z, its, r, p⟩ := h.ok I.hok
    exact ⟨its, r, p, z⟩
  · refine ⟨its.toList, r, ⟨o, I.kIn a o hk, hc, n, by simpa using hs⟩, ?_⟩
    have e := r.length
    simp only [Array.length_toList] at e
    omega
theorem Inv.list_inj (I : Inv X pins σ H s) (h : SqL X.K H a xs) (h' : SqL X.K H a ys) : xs = ys := by
  obtain ⟨its, r, ⟨o, n, e, _, _, d⟩, _⟩ := I.list h
  obtain ⟨its', r', ⟨o', n', e', _, _, d'⟩, _⟩ := I.list h'
  rw [e] at e'; cases e'
  rw [d] at d'
  injection d' with d1 _
  have : its = its' := by simpa using congrArg Array.toList d1
  subst this
  exact r.inj r'
end
abbrev Cx.wish (X : Cx) (E : Value → Shared → Prop) : Cx := { X with xe := E }
abbrev Cx.nox (X : Cx) : Cx := X.wish fun _ _ => False
theorem Cx.Ok.wish {X : Cx} (ok : X.Ok) (E : Value → Shared → Prop) : (X.wish E).Ok :=
  ⟨ok.mod, ok.kind, ok.glob, ok.blt, ok.above, ok.inj, ok.has, ok.cab, ok.hd, ok.frames, ok.stk, ok.exf, ok.bs, ok.bsz, ok.noex, ok.exfs, ok.funs, ok.frf⟩
theorem Cx.Ok.unwish {X : Cx} {E : Value → Shared → Prop} (ok : (X.wish E).Ok) : X.Ok :=
  ⟨ok.mod, ok.kind, ok.glob, ok.blt, ok.above, ok.inj, ok.has, ok.cab, ok.hd, ok.frames, ok.stk, ok.exf, ok.bs, ok.bsz, ok.noex, ok.exfs, ok.funs, ok.frf⟩
section
variable {X : Cx} {pins : List (Addr × Obj)} {σ : St} {H : Hp} {s : Shared} {E : Value → Shared → Prop}
theorem Inv.wish (I : Inv X pins σ H s) (E : Value → Shared → Prop) : Inv (X.wish E) pins σ H s := ⟨I.ok.wish E, I.os, I.bare, I.base, I.loc, I.cell, I.free, I.freeC, I.pin, I.hok, I.len⟩
theorem Inv.unwish (I : Inv (X.wish E) pins σ H s) : Inv X pins σ H s := ⟨I.ok.unwish, I.os, I.bare, I.base, I.loc, I.cell, I.free, I.freeC, I.pin, I.hok, I.len⟩
theorem SP.unwish {D : Ends} {f : Flow} {s' : Shared} (h : SP (X.wish E) pins D f s') : SP X pins D f s' := by
  cases f with
  | next => obtain ⟨σ', H', I, q⟩ := h; exact ⟨σ', H', I.unwish, q⟩
  | brk => obtain ⟨σ', H', I, q⟩ := h; exact ⟨σ', H', I.unwish, q⟩
  | cont => obtain ⟨σ', H', I, q⟩ := h; exact ⟨σ', H', I.unwish, q⟩
  | ret u => obtain ⟨v, σ', H', I, r, q⟩ := h; exact ⟨v, σ', H', I.unwish, r, q⟩
theorem PT.nox {e : Expr} {t : TT} (h : PT X.nox e t) : PT X e t := fun pins s σ H Q I hw =>
  wpAny_mono (h pins s σ H Q (I.wish _) hw) (fun _ _ ⟨H', I', q⟩ => ⟨H', I'.unwish, q⟩) fun _ _ z => False.elim z
theorem PSs.nox {st : List Stmt} {t : TS} (h : PSs X.nox st t) : PSs X st t := fun pins s σ H D I hw =>
  wpAny_mono (h pins s σ H D (I.wish _) hw) (fun _ _ q => q.unwish) fun _ _ z => False.elim z
end
section
variable {X : Cx} {st : Stmt} {rest : List Stmt} {t u : TS} {e : Expr} {te : TE} {pos : Pos}
def tNext : TS := fun D σ H => D.nx σ H
def tSeq (t u : TS) : TS := fun D σ H => t { D with nx := u D } σ H
theorem pss_nil : PSs X [] tNext := fun _ _ σ H _ I h => wpAny_execs_nil ⟨σ, H, I, h⟩
theorem pss_cons (h1 : PS X st t) (h2 : PSs X rest u) : PSs X (st :: rest) (tSeq t u) := by
  intro pins s σ H D I h
  refine wpAny_execs_cons (thn (h1 pins s σ H { D with nx := u D } I h) fun f s1 q => ?_)
  cases f with
  | next =>
    obtain ⟨σ', H', I', q⟩ := q
    exact h2 pins s1 σ' H' D I' q
  | ret v => exact q
  | brk => exact q
  | cont => exact q
theorem pss_one (h1 : PS X st t) : PSs X [st] t := by
  intro pins s σ H D I h
  refine wpAny_execs_cons (thn (h1 pins s σ H D I h) fun f s1 q => ?_)
  cases f with
  | next => exact wpAny_execs_nil q
  | ret v => exact q
  | brk => exact q
  | cont => exact q
theorem Inv.quiet {pins : List (Addr × Obj)} {σ : St} {H : Hp} {s : Shared} (I : Inv X pins σ H s) : interactive X.env = false := by simp [interactive, I.ok.kind]
def tDrop (te : TE) : TS := fun D σ H => te σ H fun _ H1 => D.nx σ H1
theorem ps_expr (he : PE X e te) (hs : swapsWith e none pos.line X.env = pure false := by rfl) : PS X (.Expr e pos) (tDrop te) := by
  intro pins s σ H D I h
  exact wpAny_Expr_any (thn (he pins s σ H _ I h) fun v s1 ⟨x, H1, I1, r1, q1⟩ => ⟨σ, H1, I1, q1⟩) I.quiet hs
def tRet (te : TE) : TS := fun D σ H => te σ H D.rt
theorem ps_ret (he : PE X e te) : PS X (.Return (some e) pos) (tRet te) := by
  intro pins s σ H D I h
  exact wpAny_Return_some (thn (he pins s σ H _ I h) fun v s1 ⟨x, H1, I1, r1, q1⟩ => ⟨x, σ, H1, I1, r1, q1⟩)
def tRetN : TS := fun D _ H => D.rt .non H
def tIfS (c : TT) (t u : TS) : TS := fun D σ H => c σ H fun b H1 => if b = true then t D σ H1 else u D σ H1
theorem ps_if {c : Expr} {a b : List Stmt} {tc : TT} (hc : PT X c tc) (ha : PSs X a t) (hb : PSs X b u) : PS X (.If c a b pos) (tIfS tc t u) := by
  intro pins s σ H D I h
  refine wpAny_If (thn (hc pins s σ H _ I h) fun d s1 ⟨H1, I1, q1⟩ => ?_)
  cases d with
  | true => exact ha pins s1 σ H1 D I1 q1
  | false => exact hb pins s1 σ H1 D I1 q1
end
abbrev TG := V → St → Hp → (St → Hp → Prop) → Prop
abbrev TGs := List V → St → Hp → (St → Hp → Prop) → Prop
def PG (X : Cx) (target : Expr) (t : TG) : Prop :=
  ∀ (pins : List (Addr × Obj)) (s : Shared) (σ : St) (H : Hp) (v : V) (u : Value) (Q : St → Hp → Prop), Inv X pins σ H s → RelV v u → t v σ H Q →
    wpAny (model X.prog X.w) X.A (assign target X.env u) (fun _ s' => ∃ σ' H', Inv X pins σ' H' s' ∧ Q σ' H') X.xe s
def PGs (X : Cx) (ts : List Expr) (t : TGs) : Prop :=
  ∀ (pins : List (Addr × Obj)) (s : Shared) (σ : St) (H : Hp) (vs : List V) (us : List Value) (Q : St → Hp → Prop), Inv X pins σ H s → Vals vs us → t vs σ H Q →
    wpAny (model X.prog X.w) X.A (assignInOrder ((assignEach ts X.env).map (·.2)) us) (fun _ s' => ∃ σ' H', Inv X pins σ' H' s' ∧ Q σ' H') X.xe s
abbrev TSet := V → V → V → Hp → (Hp → Prop) → Prop
def PSet (X : Cx) (t : TSet) : Prop :=
  ∀ (pins : List (Addr × Obj)) (s : Shared) (σ : St) (H : Hp) (o i v : V) (ov iv u : Value) (Q : Hp → Prop), Inv X pins σ H s → RelV o ov → RelV i iv → RelV v u → t o i v H Q →
    wpAny (model X.prog X.w) X.A (setItem ov iv u) (fun _ s' => ∃ H', Inv X pins σ H' s' ∧ Q H') X.xe s
section
variable {X : Cx} {pos : Pos}
def gName (i : Nat) : TG := fun v σ H Q => Q (σ.set i (some v)) H
theorem pg_name {i : Nat} {x : Str} (hN : X.N.Nodup) (hi : X.N[i]? = some x) (hx : Loc X.env.scope x) (hf : X.fn x = true ∨ X.env.scope.names.lookup x = some .local := by first | exact .inl rfl | exact .inr rfl | assumption) : PG X (.Name x pos) (gName i) := by
  intro pins s σ H v u Q I r h
  exact wpAny_assign_Name (store_ok I hN hi hx r (fun s' I' => ⟨_, H, I', h⟩) hf)
def gNil : TGs := fun vs σ H Q => vs = [] ∧ Q σ H
def gCons (t : TG) (u : TGs) : TGs := fun vs σ H Q => ∃ v r, vs = v :: r ∧ t v σ H fun σ' H' => u r σ' H' Q
theorem pgs_nil : PGs X [] gNil := by
  intro pins s σ H vs us Q I r h
  obtain ⟨e, h⟩ := h
  subst e
  cases r
  exact assignInOrder_nil ⟨σ, H, I, h⟩
theorem pgs_cons {e : Expr} {es : List Expr} {t : TG} {u : TGs} (h1 : PG X e t) (h2 : PGs X es u)
    (hs : (assignEach (e :: es) X.env).map (·.2) = assign e X.env :: (assignEach es X.env).map (·.2) := by rfl) : PGs X (e :: es) (gCons t u) := by
  intro pins s σ H vs us Q I r h
  obtain ⟨v, vr, e1, h⟩ := h
  subst e1
  cases r with
  | cons r rr =>
    rw [hs]
    refine assignInOrder_cons (thn (h1 pins s σ H _ _ _ I r h) fun _ s1 ⟨σ1, H1, I1, q1⟩ => ?_)
    exact h2 pins s1 σ1 H1 _ _ Q I1 rr q1
def gTup (K : PySem.W.Frag) (n : Nat) (t : TGs) : TG := fun v σ H Q => ∃ a xs, v = .ref a ∧ SqT K H a xs ∧ xs.length = n ∧ t xs σ H Q
theorem pg_tup {es : List Expr} {k : Nat} {t : TGs} {n : Nat} (hc : X.calm = true) (h : PGs X es t)
    (hn : (assignEach es X.env).length = n := by rfl) (hst : (assignEach es X.env).findIdx? (·.1) = none := by rfl) : PG X (.Tuple es k pos) (gTup X.K n t) := by
  intro pins s σ H v u Q I r hw
  obtain ⟨a, xs, e1, hq, hl, hw⟩ := hw
  subst e1
  cases r
  obtain ⟨its, rv, ht, hz⟩ := I.tuple hq
  refine assign_Tuple_tuple (I.ok.hd hc) ht (by simp [hn, ← hl, rv.length]) hst fun h' hx => ?_
  have I1 : Inv X pins σ H { s with heap := h' } := I.kept (t' := s.toks) fun b o e => hx b o (Nat.ne_of_lt (Heap.lt_size e)) e
  exact h pins _ σ H xs _ Q I1 (by simpa using rv) hw
def gSub (to ti : TE) (t : TSet) : TG := fun v σ H Q => to σ H fun o H1 => ti σ H1 fun i H2 => t o i v H2 fun H3 => Q σ H3
theorem pg_sub {o i : Expr} {to ti : TE} {t : TSet} (ho : PE X o to) (hi : PE X i ti) (hs : PSet X t)
    (ha : ∀ v, assign (.Subscript o i pos) X.env v = (do
      let ov ← holding [v] (eval o X.env)
      let iv ← holding [v, ov] (eval i X.env)
      standAt pos
      holding [v, ov, iv] (setItem ov iv v)
      release [v, ov, iv] []) := by intro _; rfl) : PG X (.Subscript o i pos) (gSub to ti t) := by
  intro pins s σ H v u Q I r h
  rw [ha]
  refine wpAny_bind (wpAny_holding (thn (ho pins s σ H _ I h) fun ov s1 ⟨x, H1, I1, r1, q1⟩ => ?_))
  refine wpAny_bind (wpAny_holding (thn (hi pins s1 σ H1 _ I1 q1) fun iv s2 ⟨y, H2, I2, r2, q2⟩ => ?_))
  refine wpAny_bind (wpAny_standAt (wpAny_bind (wpAny_holding (thn (hs pins s2 σ H2 x y v ov iv u _ I2 r1 r2 r q2) fun _ s3 ⟨H3, I3, q3⟩ => ?_))))
  exact wpAny_release ⟨σ, H3, I3, q3⟩
def tAsg (te : TE) (g : TG) : TS := fun D σ H => te σ H fun x H1 => g x σ H1 D.nx
theorem ps_asg {tg e : Expr} {te : TE} {g : TG} (he : PE X e te) (hg : PG X tg g) (hs : swapsWithSole [tg] e pos.line X.env = pure false := by rfl) (hw : swappedStores [tg] e X.env = pure none := by rfl)
    (h1 : (assignEach [tg] X.env).map (·.2) = [assign tg X.env] := by rfl) : PS X (.Assign [tg] e pos) (tAsg te g) := by
  intro pins s σ H D I h
  refine wpAny_Assign_stores (thn (he pins s σ H _ I h) fun v s1 ⟨x, H1, I1, r1, q1⟩ => ?_) hs hw
  rw [h1]
  exact thn (hg pins s1 σ H1 x v _ I1 r1 q1) fun _ s2 q => q
theorem ps_set {i : Nat} {x : Str} {e : Expr} {te : TE} {pos' : Pos} (hN : X.N.Nodup) (hi : X.N[i]? = some x) (hx : Loc X.env.scope x) (he : PE X e te) (hs : swapsWith e (some (.Name x pos')) pos.line X.env = pure false := by rfl) (hf : X.fn x = true ∨ X.env.scope.names.lookup x = some .local := by first | exact .inl rfl | exact .inr rfl | assumption) :
    PS X (.Assign [.Name x pos'] e pos) (tAsg te (gName i)) := by
  intro pins s σ H D I h
  refine wpAny_Assign_Name (thn (he pins s σ H _ I h) fun v s1 ⟨y, H1, I1, r1, q1⟩ => ?_) hs
  exact store_ok I1 hN hi hx r1 (fun s2 I2 => ⟨_, H1, I2, q1⟩) hf
end
section
variable {X : Cx} {pos : Pos}
def tWhile (c : TT) (tb : TS) : TS := fun D σ H => ∃ W : Nat → St → Hp → Prop, (∃ m, W m σ H) ∧ ∀ m σ H, W m σ H →
  c σ H fun b H1 => if b = true then ∃ N : St → Hp → Prop, (∀ σ' H', N σ' H' → ∃ m', m' < m ∧ W m' σ' H') ∧ tb { D with nx := N, ct := N, bk := D.nx } σ H1 else D.nx σ H1
theorem ps_while {c : Expr} {body : List Stmt} {tc : TT} {tb : TS} (hp : PassesOwn (model X.prog X.w) X.A X.env X.xe) (hc : PT X c tc) (hb : PSs X body tb) : PS X (.While c body [] pos) (tWhile tc tb) := by
  intro pins s σ H D I h
  obtain ⟨W, ⟨m0, w0⟩, turn⟩ := h
  refine wpAny_While (codeAny_whileLoop (fun n s' => ∃ σ' H', Inv X pins σ' H' s' ∧ W n σ' H') ?_ m0 ⟨σ, H, I, w0⟩)
  rintro n s1 ⟨σ1, H1, I1, w1⟩
  refine wpAny_passesOwn hp (thn (hc pins s1 σ1 H1 _ I1 (turn n σ1 H1 w1)) fun b s2 ⟨H2, I2, q2⟩ => ?_)
  cases b with
  | true =>
    obtain ⟨N, hN, q2⟩ := q2
    rw [if_pos rfl]
    refine wpAny_passesOwn hp (thn (hb pins s2 σ1 H2 _ I2 q2) fun f s3 q3 => ?_)
    cases f with
    | next =>
      obtain ⟨σ3, H3, I3, n3⟩ := q3
      obtain ⟨m', hm, w3⟩ := hN σ3 H3 n3
      exact ⟨m', hm, σ3, H3, I3, w3⟩
    | cont =>
      obtain ⟨σ3, H3, I3, n3⟩ := q3
      obtain ⟨m', hm, w3⟩ := hN σ3 H3 n3
      exact ⟨m', hm, σ3, H3, I3, w3⟩
    | brk => exact q3
    | ret v => exact q3
  | false =>
    rw [if_neg Bool.false_ne_true]
    exact wpAny_execs_nil ⟨σ1, H2, I2, q2⟩
end
structure It where
  go : Nat → Hp → Prop
  yld : Nat → Hp → V → Hp → Prop
  stop : Nat → Hp → Prop
def FpOk (X : Cx) (pins : List (Addr × Obj)) (H : Hp) (b : Addr) : Prop :=
  H b = none ∧ b ≠ X.env.locals ∧ b ∉ X.fs ∧ (b ∈ X.ex ∨ X.s₀.heap.objs.size ≤ b) ∧ (∀ x c, X.env.cells.lookup x = some c → c ≠ b) ∧ ∀ p ∈ X.pn ++ pins, p.1 ≠ b
theorem Inv.fpOk {X : Cx} {pins : List (Addr × Obj)} {σ : St} {H H' : Hp} {s : Shared} {b : Addr} (I : Inv X pins σ H s) (hb : s.heap.objs.size ≤ b) (hn : H' b = none) : FpOk X pins H' b := by
  refine ⟨hn, Nat.ne_of_gt (Nat.lt_of_lt_of_le I.lt hb), I.nofs hb, .inr (Nat.le_trans I.sz hb), fun x c e z => ?_, fun p hp z => ?_⟩
  · obtain ⟨v, q⟩ := I.cell x c e
    exact absurd (Nat.lt_of_lt_of_le q.lt (by rw [z]; exact hb)) (Nat.lt_irrefl _)
  · exact absurd (Nat.lt_of_lt_of_le (Heap.lt_size (I.pin p hp).1) (by rw [z]; exact hb)) (Nat.lt_irrefl _)
structure Turn (P : Program) (w : World) (K : PySem.W.Frag) (tg : Expr) (J : It) (fp : List Addr) (it : Addr) (tn : Nat → Heap → Prop) : Prop where
  mem : it ∈ fp
  obj : ∀ i h, tn i h → ∀ b ∈ fp, ∃ o, h.get? b = some o ∧ ∀ v, o.data ≠ .cell v
  keep : ∀ i h h', tn i h → (∀ b ∈ fp, ∀ o, h.get? b = some o → h'.get? b = some o) → tn i h'
  item : ∀ (X : Cx), X.prog = P → X.w = w → X.K = K → X.calm = true → ∀ (i : Nat) (pins : List (Addr × Obj)) (s : Shared) (σ : St) (H : Hp) (E : Value → Shared → Prop), Inv X pins σ H s → (∀ b ∈ fp, FpOk X pins H b) → tn i s.heap → J.go i H →
    wpAny (model P w) X.A (pyNext (.ref it)) (fun r s1 => ∃ u, r = some u ∧
      wpAny (model P w) X.A (letOwnedTupleGo tg (.ref it) u) (fun _ s2 => ∃ x H', Inv X pins σ H' s2 ∧ RelV x u ∧ J.yld i H x H' ∧ tn (i + 1) s2.heap ∧ ∀ b ∈ fp, H' b = none) E s1) E s
  done : ∀ (X : Cx), X.prog = P → X.w = w → X.K = K → X.calm = true → ∀ (i : Nat) (pins : List (Addr × Obj)) (s : Shared) (σ : St) (H : Hp) (E : Value → Shared → Prop), Inv X pins σ H s → (∀ b ∈ fp, FpOk X pins H b) → tn i s.heap → J.stop i H →
    wpAny (model P w) X.A (pyNext (.ref it)) (fun r s1 => r = none ∧ Inv X pins σ H s1) E s
  self : ∀ (A : Around) (i : Nat) (s : Shared) (Q : Value → Shared → Prop) (E : Value → Shared → Prop), tn i s.heap → Q (.ref it) s → wpAny (model P w) A (pyIter (.ref it)) Q E s
abbrev TI := St → Hp → (It → Hp → Prop) → Prop
def PIE (X : Cx) (pins : List (Addr × Obj)) (σ : St) (tg : Expr) (R : It → Hp → Prop) (itv : Value) (s2 : Shared) : Prop :=
  ∃ (it : Addr) (fp : List Addr) (tn : Nat → Heap → Prop) (J : It) (H' : Hp), itv = .ref it ∧ Inv X pins σ H' s2 ∧ Turn X.prog X.w X.K tg J fp it tn ∧ tn 0 s2.heap ∧ (∀ b ∈ fp, FpOk X pins H' b) ∧ R J H'
def PI (X : Cx) (tg iter : Expr) (wi : TI) : Prop :=
  ∀ (pins : List (Addr × Obj)) (s : Shared) (σ : St) (H : Hp) (R : It → Hp → Prop), Inv X pins σ H s → wi σ H R →
    wpAny (model X.prog X.w) X.A (eval iter X.env) (fun v s1 => wpAny (model X.prog X.w) X.A (pyIter v) (PIE X pins σ tg R) X.xe s1) X.xe s
theorem go_of {M : Model} {A : Around} {E : Value → Shared → Prop} {s : Shared} {tg : Expr} {it : Addr} {u : Value} {o : Obj} {n : String} {vs : Array Value} {Q : Unit → Shared → Prop} (ho : s.heap.get? it = some o) (hc : o.cls = .type n) (hd : o.data = .fields vs)
    (hn : ["enumerate", "zip", "dict_itemiterator", "dict_reverseitemiterator", "odict_iterator", "itertools.zip_longest", "itertools.pairwise"].contains n = false) (hQ : Q () s) : wpAny M A (letOwnedTupleGo tg (.ref it) u) Q E s := by
  unfold letOwnedTupleGo
  cases tg <;> first
    | exact wpAny_pure hQ
    | (cases u <;> first
        | exact wpAny_pure hQ
        | (refine wpAny_bind (wpAny_load ho ?_)
           rw [hc, hd]
           show wpAny M A (if (["enumerate", "zip", "dict_itemiterator", "dict_reverseitemiterator", "odict_iterator", "itertools.zip_longest", "itertools.pairwise"].contains n && vs[0]? == some (rawInt _)) = true then _ else _) Q E s
           rw [if_neg (by intro h; rw [hn, Bool.false_and] at h; cases h)]
           exact wpAny_pure hQ))
def Itl (K : PySem.W.Frag) (a : Addr) : It :=
  ⟨fun i H => ∃ xs x, SqL K H a xs ∧ xs[i]? = some x, fun i H x H' => H' = H ∧ ∀ xs, SqL K H a xs → xs[i]? = some x, fun i H => ∃ xs, SqL K H a xs ∧ xs.length ≤ i⟩
def Itr (lo : Int) (n : Nat) : It := ⟨fun i _ => i < n, fun i H x H' => H' = H ∧ x = .int (lo + i), fun i _ => n ≤ i⟩
theorem turn_list {P : Program} {w : World} {K : PySem.W.Frag} {tg : Expr} (a it : Addr) : Turn P w K tg (Itl K a) [it] it (fun i h => h.IsListIter it a i) where
  mem := by simp
  obj := fun i h st b hb => by
    have e : b = it := by simpa using hb
    subst e
    obtain ⟨o, e, c, d⟩ := st
    exact ⟨o, e, fun v z => by rw [d] at z; cases z⟩
  keep := fun i h h' st k => st.at fun o e => k it (by simp) o e
  item := by
    intro X hP hw hK hc i pins s σ H E I hf st hg
    subst hP hw hK
    obtain ⟨xs, x, hq, hx⟩ := hg
    obtain ⟨its, rv, p, hz⟩ := I.list hq
    obtain ⟨u, hu, ru⟩ := rv.get hx
    obtain ⟨f0, f1, f2, f3, f4, f5⟩ := hf it (by simp)
    refine wpAny_pyNext_list_item st p.isList (x := u) (by simpa using hu) fun h' st' sb => ?_
    have I1 : Inv X pins σ H { s with heap := h' } := I.turned (t' := s.toks) (fun b o hb e => (sb.2 b hb).trans e) f0 f1 f3 f4 f5
    obtain ⟨o, e, c, d⟩ := id st'
    exact ⟨u, rfl, go_of (s := { s with heap := h' }) e c d (by decide) ⟨x, H, I1, ru, ⟨rfl, fun ys hy => by rw [I.list_inj hy hq]; exact hx⟩, st', fun b hb => (hf b hb).1⟩⟩
  done := by
    intro X hP hw hK hc i pins s σ H E I hf st hg
    subst hP hw hK
    obtain ⟨xs, hq, hx⟩ := hg
    obtain ⟨its, rv, p, hz⟩ := I.list hq
    obtain ⟨f0, f1, f2, f3, f4, f5⟩ := hf it (by simp)
    have hl := rv.length
    exact wpAny_pyNext_list_end (I.ok.hd hc) st p.isList (by simp; omega) fun h' eb => ⟨rfl, I.turned (t' := s.toks) (fun b o hb e => eb b o hb e) f0 f1 f3 f4 f5⟩
  self := fun _ _ _ _ _ st h => wpAny_pyIter_listiter st h
theorem turn_range {P : Program} {w : World} {K : PySem.W.Frag} {tg : Expr} (it : Addr) (lo : Int) (n : Nat) : Turn P w K tg (Itr lo n) [it] it (fun i h => IsRangeIter h it (lo + (i : Nat) * 1) ((n : Int) - (i : Nat)) 1) where
  mem := by simp
  obj := fun i h st b hb => by
    have e : b = it := by simpa using hb
    subst e
    exact ⟨_, st, fun v z => by
      have z' : Data.fields _ = Data.cell v := z
      cases z'⟩
  keep := fun i h h' st k => k it (by simp) _ st
  item := by
    intro X hP hw hK hc i pins s σ H E I hf st hg
    subst hP hw hK
    obtain ⟨f0, f1, f2, f3, f4, f5⟩ := hf it (by simp)
    have W := Walks.range (prog := X.prog) (w := X.w) (I.ok.hd hc) it lo 1 n
    refine W.item i s _ _ hg st fun v h' tk hv st' kk => ?_
    obtain ⟨t, rfl⟩ := hv
    have I1 : Inv X pins σ H { s with heap := h', toks := tk } := I.turned (fun b o hb e => kk b o (by simpa using hb) e) f0 f1 f3 f4 f5
    refine ⟨_, rfl, go_of (s := { s with heap := h', toks := tk }) (n := "range_iterator") st' rfl rfl (by decide) ⟨.int (lo + i), H, I1, ⟨t, ?_⟩, ⟨rfl, rfl⟩, st', fun b hb => (hf b hb).1⟩⟩
    rw [Int.mul_one]
  done := by
    intro X hP hw hK hc i pins s σ H E I hf st hg
    subst hP hw hK
    obtain ⟨f0, f1, f2, f3, f4, f5⟩ := hf it (by simp)
    exact wpAny_pyNext_range_end (I.ok.hd hc) st (by have : n ≤ i := hg; omega) fun h' eb => ⟨rfl, I.turned (t' := s.toks) (fun b o hb e => eb b o hb e) f0 f1 f3 f4 f5⟩
  self := fun _ _ _ _ _ st h => wpAny_pyIter_rangeiter st h
end L2
namespace L2
open PySem PySem.Spec PyProof.Rows
section
variable {X : Cx} {tg : Expr}
def iList (K : PySem.W.Frag) (tl : TE) : TI := fun σ H R => tl σ H fun x H1 => ∃ a, x = .ref a ∧ (∃ xs, SqL K H1 a xs) ∧ R (Itl K a) H1
theorem pi_list {l : Expr} {tl : TE} (hl : PE X l tl) : PI X tg l (iList X.K tl) := by
  intro pins s σ H R I h
  refine thn (hl pins s σ H _ I h) fun v s1 ⟨x, H1, I1, r1, q1⟩ => ?_
  obtain ⟨a, e, ⟨xs, hq⟩, q⟩ := q1
  subst e
  cases r1
  obtain ⟨its, rv, p, hz⟩ := I1.list hq
  refine wpAny_pyIter_list p.isList ?_
  refine ⟨s1.heap.objs.size, [s1.heap.objs.size], _, _, H1, rfl, I1.kept (t' := s1.toks) fun b o e => Heap.get?_push_of_some _ e, turn_list a _, ⟨_, Heap.get?_push_size _ rfl, rfl, rfl⟩, fun b hb => ?_, q⟩
  have e : b = s1.heap.objs.size := by simpa using hb
  subst e
  exact I1.fpOk (Nat.le_refl _) (I1.hok.fresh (Nat.le_refl _))
theorem range_it {pins : List (Addr × Obj)} {σ : St} {H : Hp} {s : Shared} {R : It → Hp → Prop} {E : Value → Shared → Prop} {lo hi : Int} {t u v : Tok} {tk : Nat} (I : Inv X pins σ H s) (h1 : -(2 ^ 62) ≤ lo) (h2 : lo < 2 ^ 62) (h3 : -(2 ^ 62) ≤ hi) (h4 : hi < 2 ^ 62)
    (q : R (Itr lo (hi - lo).toNat) H) : wpAny (model X.prog X.w) X.A (pyIter (.ref s.heap.objs.size)) (PIE X pins σ tg R) E { s with heap := s.heap.push { cls := .type "range", data := .fields #[.int lo t, .int hi u, .int 1 v] }, toks := tk } := by
  refine wpAny_pyIter_range (IsRange.new ..) (small_one h1 h2 h3 h4) ?_
  have I1 : Inv X pins σ H { s with heap := s.heap.push { cls := .type "range", data := .fields #[.int lo t, .int hi u, .int 1 v] }, toks := tk } := I.kept fun b o e => Heap.get?_push_of_some _ e
  refine ⟨(s.heap.push { cls := .type "range", data := .fields #[.int lo t, .int hi u, .int 1 v] }).objs.size, [(s.heap.push { cls := .type "range", data := .fields #[.int lo t, .int hi u, .int 1 v] }).objs.size], _, _, H, rfl,
    I1.kept (t' := tk) fun b o e => Heap.get?_push_of_some _ e, turn_range _ lo (hi - lo).toNat, ?_, fun b hb => ?_, q⟩
  · have e1 : lo + ((0 : Nat) : Int) * 1 = lo := by simp
    have e2 : (((hi - lo).toNat : Nat) : Int) - ((0 : Nat) : Int) = Builtin.Range.rangeSize lo hi 1 := by rw [rangeSize_one]; split <;> omega
    show IsRangeIter _ _ (lo + ((0 : Nat) : Int) * 1) ((((hi - lo).toNat : Nat) : Int) - ((0 : Nat) : Int)) 1
    rw [e1, e2]
    exact Heap.get?_push_size _ rfl
  · have e : b = (s.heap.push { cls := .type "range", data := .fields #[.int lo t, .int hi u, .int 1 v] }).objs.size := by simpa using hb
    subst e
    exact I1.fpOk (Nat.le_refl _) (I1.hok.fresh (Nat.le_refl _))
def iRng1 (ta : TA) : TI := fun σ H R => ta σ H fun vs H1 => ∃ j : Int, vs = [.int j] ∧ -(2 ^ 62) ≤ j ∧ j < 2 ^ 62 ∧ R (Itr 0 j.toNat) H1
theorem pi_range1 {a : Expr} {ta : TA} {p pos : Pos} (hg : Gl X "range") (hm : X.mg "range" = none) (ha : PA X [a] ta) (hs : starEach [a] X.env = [(false, eval a X.env)] := by rfl) : PI X tg (.Call (.Name "range" p) [a] [] pos) (iRng1 ta) := by
  intro pins s σ H R I h
  refine Call_ (ld_blt I hg hm boot_range (PyProof.Rows.callWith_type1 (thn (ha pos pins s σ H _ I h) fun us s1 ⟨vs, H1, I1, r1, q1⟩ => ?_) hs rfl))
  obtain ⟨j, e, q1, q2, q⟩ := q1
  subst e
  cases r1 with
  | cons r rr =>
    cases rr
    obtain ⟨t, rfl⟩ := r
    exact call_range_1 (range_it I1 (by omega) (by omega) q1 q2 (by simpa using q))
def tFor (wi : TI) (g : TG) (tb : TS) : TS := fun D σ H => wi σ H fun J H1 => ∃ W : Nat → Nat → St → Hp → Prop, (∃ m, W 0 m σ H1) ∧ ∀ i m σ H, W i m σ H →
  (J.stop i H ∧ D.nx σ H) ∨ (J.go i H ∧ ∃ N : St → Hp → Prop, (∀ σ' H', N σ' H' → ∃ m', m' < m ∧ W (i + 1) m' σ' H') ∧ ∀ x H', J.yld i H x H' → g x σ H' fun σ2 H2 => tb { D with nx := N, ct := N, bk := D.nx } σ2 H2)
def pinsAt (fp : List Addr) (h : Heap) : List (Addr × Obj) := fp.filterMap fun b => (h.get? b).map fun o => (b, o)
theorem mem_pinsAt {fp : List Addr} {h : Heap} {b : Addr} {o : Obj} (hb : b ∈ fp) (e : h.get? b = some o) : (b, o) ∈ pinsAt fp h := List.mem_filterMap.mpr ⟨b, hb, by rw [e]; rfl⟩
theorem of_pinsAt {fp : List Addr} {h : Heap} {p : Addr × Obj} (hp : p ∈ pinsAt fp h) : p.1 ∈ fp ∧ h.get? p.1 = some p.2 := by
  obtain ⟨b, hb, e⟩ := List.mem_filterMap.mp hp
  cases q : h.get? b with
  | none => rw [q] at e; cases e
  | some o =>
    rw [q] at e
    have e' : (b, o) = p := Option.some.inj e
    subst e'
    exact ⟨hb, q⟩
theorem Inv.pinned {pins : List (Addr × Obj)} {σ : St} {H : Hp} {s : Shared} {fp : List Addr} (I : Inv X pins σ H s) (hf : ∀ b ∈ fp, FpOk X pins H b) (ho : ∀ b ∈ fp, ∃ o, s.heap.get? b = some o ∧ ∀ v, o.data ≠ .cell v) : Inv X (pins ++ pinsAt fp s.heap) σ H s :=
  I.pins_of fun p hp => (List.mem_append.mp hp).elim (fun z => I.pin p (List.mem_append_right _ z)) fun z => by
    obtain ⟨hb, e⟩ := of_pinsAt z
    obtain ⟨f0, f1, f2, _⟩ := hf p.1 hb
    obtain ⟨o, e', d⟩ := ho p.1 hb
    rw [e] at e'; cases e'
    exact ⟨e, f0, f1, f2, d⟩
theorem Inv.unpinned {pins pl : List (Addr × Obj)} {σ : St} {H : Hp} {s : Shared} (I : Inv X (pins ++ pl) σ H s) : Inv X pins σ H s := I.pins_of fun p hp => I.pin p (List.mem_append_right _ (List.mem_append_left _ hp))
theorem ps_for {iter : Expr} {body : List Stmt} {wi : TI} {g : TG} {tb : TS} {pos : Pos} (hp : PassesOwn (model X.prog X.w) X.A X.env X.xe) (hc : X.calm = true) (hi : PI X tg iter wi) (hg : PG X tg g) (hb : PSs X body tb)
    (hs : ∀ x, foldedSetIterable iter X.env x = pure x := by intro _; rfl) : PS X (.For tg iter body [] pos) (tFor wi g tb) := by
  intro pins s σ H D I h
  refine wpAny_For (thn (hi pins s σ H _ I h) fun v s1 h1 => thn h1 fun itv s2 h2 => ?_) hs
  obtain ⟨it, fp, tn, J, H2, e, I2, T, st2, f2, W, ⟨m0, w0⟩, turn⟩ := h2
  subst e
  have stat : ∀ {H' : Hp}, (∀ b ∈ fp, H' b = none) → ∀ b ∈ fp, FpOk X pins H' b := fun hn b hb => ⟨hn b hb, (f2 b hb).2⟩
  refine codeAny_forLoop_any (fun n s' => ∃ i σ' H', Inv X pins σ' H' s' ∧ tn i s'.heap ∧ (∀ b ∈ fp, H' b = none) ∧ W i n σ' H') ?_ m0 ⟨0, σ, H2, I2, st2, fun b hb => (f2 b hb).1, w0⟩
  rintro n s3 ⟨i, σ3, H3, I3, st3, fr3, w3⟩
  rcases turn i n σ3 H3 w3 with ⟨stop, qn⟩ | ⟨go, N, hN, step⟩
  · refine wpAny_passesOwn hp (thn (T.done X rfl rfl rfl hc i pins s3 σ3 H3 X.xe I3 (stat fr3) st3 stop) fun r s4 ⟨hr, I4⟩ => ?_)
    subst hr
    exact wpAny_execs_nil ⟨σ3, H3, I4, qn⟩
  · refine wpAny_passesOwn hp (thn (T.item X rfl rfl rfl hc i pins s3 σ3 H3 X.xe I3 (stat fr3) st3 go) fun r s4 ⟨u, hr, h4⟩ => ?_)
    subst hr
    refine wpAny_passesOwn hp (thn h4 fun _ s5 ⟨x, H5, I5, r5, y5, st5, fr5⟩ => ?_)
    have I5' := I5.pinned (stat fr5) (T.obj _ _ st5)
    refine wpAny_passesOwn hp (thn (hg _ s5 σ3 H5 x u _ I5' r5 (step x H5 y5)) fun _ s6 ⟨σ6, H6, I6, q6⟩ => ?_)
    refine wpAny_passesOwn hp (thn (hb _ s6 σ6 H6 _ I6 q6) fun f s7 q7 => ?_)
    have again : ∀ {σ7 : St} {H7 : Hp}, Inv X (pins ++ pinsAt fp s5.heap) σ7 H7 s7 → N σ7 H7 → ∃ m, m < n ∧ ∃ i σ' H', Inv X pins σ' H' s7 ∧ tn i s7.heap ∧ (∀ b ∈ fp, H' b = none) ∧ W i m σ' H' := fun {σ7 H7} I7 n7 => by
      obtain ⟨m', hm, w7⟩ := hN σ7 H7 n7
      refine ⟨m', hm, i + 1, σ7, H7, I7.unpinned, T.keep _ _ _ st5 fun b hb o e => (I7.pin (b, o) (List.mem_append_right _ (List.mem_append_right _ (mem_pinsAt hb e)))).1, fun b hb => ?_, w7⟩
      obtain ⟨o, e, d⟩ := T.obj _ _ st5 b hb
      exact (I7.pin (b, o) (List.mem_append_right _ (List.mem_append_right _ (mem_pinsAt hb e)))).2.1
    cases f with
    | next => obtain ⟨σ7, H7, I7, n7⟩ := q7; exact again I7 n7
    | cont => obtain ⟨σ7, H7, I7, n7⟩ := q7; exact again I7 n7
    | brk => obtain ⟨σ7, H7, I7, q7⟩ := q7; exact ⟨σ7, H7, I7.unpinned, q7⟩
    | ret v => obtain ⟨x7, σ7, H7, I7, r7, q7⟩ := q7; exact ⟨x7, σ7, H7, I7.unpinned, r7, q7⟩
end
end L2
namespace L2
open PySem PySem.Spec PyProof.Rows
abbrev R2 := V → V → Hp → VK → Prop
def OpR (X : Cx) (f : Value → Value → Sem Value) (r : R2) : Prop :=
  ∀ (pins : List (Addr × Obj)) (s : Shared) (σ : St) (H : Hp) (x y : V) (v u : Value) (Q : VK), Inv X pins σ H s → RelV x v → RelV y u → r x y H Q →
    wpAny (model X.prog X.w) X.A (f v u) (EP X pins σ Q) X.xe s
def UnR (X : Cx) (f : Value → Sem Value) (r : V → Hp → VK → Prop) : Prop :=
  ∀ (pins : List (Addr × Obj)) (s : Shared) (σ : St) (H : Hp) (x : V) (v : Value) (Q : VK), Inv X pins σ H s → RelV x v → r x H Q →
    wpAny (model X.prog X.w) X.A (f v) (EP X pins σ Q) X.xe s
def CallR (X : Cx) (f : Value) (r : List V → Hp → VK → Prop) : Prop :=
  ∀ (pins : List (Addr × Obj)) (s : Shared) (σ : St) (H : Hp) (xs : List V) (us : List Value) (Q : VK), Inv X pins σ H s → Vals xs us → r xs H Q →
    wpAny (model X.prog X.w) X.A (call f us) (EP X pins σ Q) X.xe s
def tOp (r : R2) (ta tb : TE) : TE := fun σ H Q => ta σ H fun x H1 => tb σ H1 fun y H2 => r x y H2 Q
def tUn (r : V → Hp → VK → Prop) (ta : TE) : TE := fun σ H Q => ta σ H fun x H1 => r x H1 Q
def rI (C : Int → Int → Prop) (g : Int → Int → V) : R2 := fun x y H Q => ∃ i j, x = .int i ∧ y = .int j ∧ C i j ∧ Q (g i j) H
def rI0 (g : Int → Int → V) : R2 := fun x y H Q => ∃ i j, x = .int i ∧ y = .int j ∧ Q (g i j) H
def rU (g : Int → V) : V → Hp → VK → Prop := fun x H Q => ∃ i, x = .int i ∧ Q (g i) H
section
variable {X : Cx} {a b c : Expr} {ta tb tc : TE} {pos : Pos}
theorem binT (ha : PE X a ta) (hb : PE X b tb) {pins : List (Addr × Obj)} {s : Shared} {σ : St} {H : Hp} {R : V → V → Hp → Prop} (I : Inv X pins σ H s)
    (h : ta σ H fun x H1 => tb σ H1 fun y H2 => R x y H2) {Q : Value → Shared → Prop} {f : Value → Value → Sem Value}
    (hf : ∀ v u s2 x y H2, Inv X pins σ H2 s2 → RelV x v → RelV y u → R x y H2 → wpAny (model X.prog X.w) X.A (f v u) Q X.xe s2) :
    wpAny (model X.prog X.w) X.A (eval a X.env) (fun v s₁ => wpAny (model X.prog X.w) X.A (eval b X.env) (fun u s₂ => wpAny (model X.prog X.w) X.A (f v u) Q X.xe s₂) X.xe s₁) X.xe s := by
  refine thn (ha pins s σ H _ I h) fun v s1 ⟨x, H1, I1, r1, q1⟩ => ?_
  refine thn (hb pins s1 σ H1 _ I1 q1) fun u s2 ⟨y, H2, I2, r2, q2⟩ => ?_
  exact hf v u s2 x y H2 I2 r1 r2 q2
theorem pe_op {op : Operator} {r : R2} (ho : OpR X (binaryOp op) r) (ha : PE X a ta) (hb : PE X b tb) : PE X (.BinOp a op b pos) (tOp r ta tb) := by
  intro pins s σ H Q I h
  exact wpAny_BinOp (binT ha hb I h fun v u s2 x y H2 I2 rx ry q => ho pins s2 σ H2 x y v u Q I2 rx ry q)
theorem pe_un {op : UnaryOp} {r : V → Hp → VK → Prop} (ho : UnR X (unaryOp op) r) (ha : PE X a ta) : PE X (.UnaryOp op a pos) (tUn r ta) := by
  intro pins s σ H Q I h
  exact UnaryOp_ (thn (ha pins s σ H _ I h) fun v s1 ⟨x, H1, I1, r1, q1⟩ => ho pins s1 σ H1 x v Q I1 r1 q1)
theorem opI {f : Value → Value → Sem Value} {C : Int → Int → Prop} {g : Int → Int → Int}
    (rule : ∀ (i j : Int) (t u : Tok) (s : Shared) (Q : Value → Shared → Prop) (E : Value → Shared → Prop), C i j → Q (.int (g i j) s.toks) { s with toks := s.toks + 1 } → wpAny (model X.prog X.w) X.A (f (.int i t) (.int j u)) Q E s) :
    OpR X f (rI C fun i j => .int (g i j)) := by
  intro pins s σ H x y v u Q I rx ry h
  obtain ⟨i, j, rfl, rfl, hc, q⟩ := h
  obtain ⟨t, rfl⟩ := rx
  obtain ⟨t', rfl⟩ := ry
  exact rule i j t t' s _ _ hc ⟨.int (g i j), H, I.tok _, ⟨_, rfl⟩, q⟩
theorem opI0 {f : Value → Value → Sem Value} {g : Int → Int → Int}
    (rule : ∀ (i j : Int) (t u : Tok) (s : Shared) (Q : Value → Shared → Prop) (E : Value → Shared → Prop), Q (.int (g i j) s.toks) { s with toks := s.toks + 1 } → wpAny (model X.prog X.w) X.A (f (.int i t) (.int j u)) Q E s) :
    OpR X f (rI0 fun i j => .int (g i j)) := by
  intro pins s σ H x y v u Q I rx ry h
  obtain ⟨i, j, rfl, rfl, q⟩ := h
  obtain ⟨t, rfl⟩ := rx
  obtain ⟨t', rfl⟩ := ry
  exact rule i j t t' s _ _ ⟨.int (g i j), H, I.tok _, ⟨_, rfl⟩, q⟩
theorem opB0 {f : Value → Value → Sem Value} {g : Int → Int → Bool}
    (rule : ∀ (i j : Int) (t u : Tok) (s : Shared) (Q : Value → Shared → Prop) (E : Value → Shared → Prop), Q (.bool (g i j)) s → wpAny (model X.prog X.w) X.A (f (.int i t) (.int j u)) Q E s) :
    OpR X f (rI0 fun i j => .bl (g i j)) := by
  intro pins s σ H x y v u Q I rx ry h
  obtain ⟨i, j, rfl, rfl, q⟩ := h
  obtain ⟨t, rfl⟩ := rx
  obtain ⟨t', rfl⟩ := ry
  exact rule i j t t' s _ _ ⟨.bl (g i j), H, I, rfl, q⟩
def CPow (i j : Int) : Prop := 0 ≤ j ∧ j ≤ 1000000 ∧ i.natAbs < 2 ^ 64
theorem op_add : OpR X (binaryOp .Add) (rI0 fun i j => .int (i + j)) := opI0 fun _ _ _ _ _ _ _ q => add_int q
theorem op_sub : OpR X (binaryOp .Sub) (rI0 fun i j => .int (i - j)) := opI0 fun _ _ _ _ _ _ _ q => sub_int q
theorem op_mod : OpR X (binaryOp .Mod) (rI (fun _ j => 0 < j) fun i j => .int (i % j)) := opI fun i j _ _ _ _ _ hc q => by
  have h1 : (0 : Int) < j := hc
  exact mod_int' (by omega) (by rw [Int.fmod_eq_emod_of_nonneg i (by omega)]; exact q)
theorem op_pow : OpR X (binaryOp .Pow) (rI CPow fun i j => .int (i ^ j.toNat)) := opI fun _ _ _ _ _ _ _ hc q => pow_int_small hc.1 hc.2.1 hc.2.2 q
theorem unI {f : Value → Sem Value} {g : Int → Int}
    (rule : ∀ (i : Int) (t : Tok) (s : Shared) (Q : Value → Shared → Prop) (E : Value → Shared → Prop), Q (.int (g i) s.toks) { s with toks := s.toks + 1 } → wpAny (model X.prog X.w) X.A (f (.int i t)) Q E s) :
    UnR X f (rU fun i => .int (g i)) := by
  intro pins s σ H x v Q I rx h
  obtain ⟨i, rfl, q⟩ := h
  obtain ⟨t, rfl⟩ := rx
  exact rule i t s _ _ ⟨.int (g i), H, I.tok _, ⟨_, rfl⟩, q⟩
theorem un_neg : UnR X (unaryOp .USub) (rU fun i => .int (-i)) := unI fun _ _ _ _ _ q => neg_int q
end
def scal : V → V → Bool
  | .non, .non => true | .non, .int _ => true | .int _, .non => true | .non, .bl _ => true | .bl _, .non => true | .non, .str _ => true | .str _, .non => true
  | .int _, .int _ => true | .bl _, .bl _ => true | .str _, .str _ => true | .byt _, .byt _ => true
  | .int _, .str _ => true | .str _, .int _ => true | .bl _, .str _ => true | .str _, .bl _ => true
  | _, _ => false
def rEq : R2 := fun x y H Q => scal x y = true ∧ Q (.bl (decide (x = y))) H
def rNe : R2 := fun x y H Q => scal x y = true ∧ Q (.bl (!decide (x = y))) H
theorem dec_int {i j : Int} : decide (V.int i = V.int j) = (i == j) := by
  rw [Bool.eq_iff_iff]
  simp
theorem dec_bl {i j : Bool} : decide (V.bl i = V.bl j) = (i == j) := by
  rw [Bool.eq_iff_iff]
  simp
theorem dec_str {i j : Str} : decide (V.str i = V.str j) = (i == j) := by
  rw [Bool.eq_iff_iff]
  simp
theorem dec_byt {i j : Array UInt8} : decide (V.byt i = V.byt j) = (i.toList == j.toList) := by
  rw [Bool.eq_iff_iff]
  cases i
  cases j
  simp
section
variable {X : Cx} {a b c : Expr} {ta tb tc : TE} {pos : Pos}
theorem fin_bl {pins : List (Addr × Obj)} {σ : St} {H : Hp} {s : Shared} {Q : VK} {k k' : Bool} (I : Inv X pins σ H s) (q : Q (.bl k) H) (e : k = k') : EP X pins σ Q (.bool k') s := by
  subst e
  exact ⟨.bl k, H, I, rfl, q⟩
theorem op_eq : OpR X (compareOp .Eq) rEq := by
  intro pins s σ H x y v u Q I rx ry h
  obtain ⟨hs, q⟩ := h
  cases x with
  | non =>
    cases rx
    cases y with
    | non => cases ry; exact PySem.EqNone.eq_none_none (fin_bl I q (by simp))
    | bl j => cases ry; exact PySem.EqNone.eq_none_bool (fin_bl I q (by simp))
    | int j => obtain ⟨t', rfl⟩ := ry; exact PySem.EqNone.eq_none_int (fin_bl I q (by simp))
    | str j => obtain ⟨t', rfl⟩ := ry; exact PySem.EqNone.eq_none_str (fin_bl I q (by simp))
    | _ => exact absurd (show false = true from hs) Bool.false_ne_true
  | bl i =>
    cases rx
    cases y with
    | non => cases ry; exact PySem.EqNone.eq_bool_none (fin_bl I q (by simp))
    | bl j => cases ry; exact eq_bool (fin_bl I q dec_bl)
    | str j => obtain ⟨t', rfl⟩ := ry; exact PySem.EqMixed.eq_bool_str (fin_bl I q (by simp))
    | _ => exact absurd (show false = true from hs) Bool.false_ne_true
  | int i =>
    obtain ⟨t, rfl⟩ := rx
    cases y with
    | non => cases ry; exact PySem.EqNone.eq_int_none (fin_bl I q (by simp))
    | int j => obtain ⟨t', rfl⟩ := ry; exact eq_int (fin_bl I q dec_int)
    | str j => obtain ⟨t', rfl⟩ := ry; exact PySem.EqMixed.eq_int_str (fin_bl I q (by simp))
    | _ => exact absurd (show false = true from hs) Bool.false_ne_true
  | str i =>
    obtain ⟨t, rfl⟩ := rx
    cases y with
    | non => cases ry; exact PySem.EqNone.eq_str_none (fin_bl I q (by simp))
    | bl j => cases ry; exact PySem.EqMixed.eq_str_bool (fin_bl I q (by simp))
    | int j => obtain ⟨t', rfl⟩ := ry; exact PySem.EqMixed.eq_str_int (fin_bl I q (by simp))
    | str j => obtain ⟨t', rfl⟩ := ry; exact eq_str (fin_bl I q dec_str)
    | _ => exact absurd (show false = true from hs) Bool.false_ne_true
  | byt i =>
    obtain ⟨t, rfl⟩ := rx
    cases y with
    | byt j => obtain ⟨t', rfl⟩ := ry; exact PySem.W.eq_bytes (fin_bl I q dec_byt)
    | _ => exact absurd (show false = true from hs) Bool.false_ne_true
  | _ => cases y <;> exact absurd (show false = true from hs) Bool.false_ne_true
theorem op_ne : OpR X (compareOp .NotEq) rNe := by
  intro pins s σ H x y v u Q I rx ry h
  obtain ⟨hs, q⟩ := h
  cases x with
  | non =>
    cases rx
    cases y with
    | non => cases ry; exact PySem.EqNone.ne_none_none (fin_bl I q (by simp))
    | bl j => cases ry; exact PySem.EqNone.ne_none_bool (fin_bl I q (by simp))
    | int j => obtain ⟨t', rfl⟩ := ry; exact PySem.EqNone.ne_none_int (fin_bl I q (by simp))
    | str j => obtain ⟨t', rfl⟩ := ry; exact PySem.EqNone.ne_none_str (fin_bl I q (by simp))
    | _ => exact absurd (show false = true from hs) Bool.false_ne_true
  | bl i =>
    cases rx
    cases y with
    | non => cases ry; exact PySem.EqNone.ne_bool_none (fin_bl I q (by simp))
    | bl j => cases ry; exact ne_bool (fin_bl I q (congrArg not dec_bl))
    | str j => obtain ⟨t', rfl⟩ := ry; exact PySem.EqMixed.ne_bool_str (fin_bl I q (by simp))
    | _ => exact absurd (show false = true from hs) Bool.false_ne_true
  | int i =>
    obtain ⟨t, rfl⟩ := rx
    cases y with
    | non => cases ry; exact PySem.EqNone.ne_int_none (fin_bl I q (by simp))
    | int j => obtain ⟨t', rfl⟩ := ry; exact ne_int (fin_bl I q (congrArg not dec_int))
    | str j => obtain ⟨t', rfl⟩ := ry; exact PySem.EqMixed.ne_int_str (fin_bl I q (by simp))
    | _ => exact absurd (show false = true from hs) Bool.false_ne_true
  | str i =>
    obtain ⟨t, rfl⟩ := rx
    cases y with
    | non => cases ry; exact PySem.EqNone.ne_str_none (fin_bl I q (by simp))
    | bl j => cases ry; exact PySem.EqMixed.ne_str_bool (fin_bl I q (by simp))
    | int j => obtain ⟨t', rfl⟩ := ry; exact PySem.EqMixed.ne_str_int (fin_bl I q (by simp))
    | str j => obtain ⟨t', rfl⟩ := ry; exact ne_str (fin_bl I q (congrArg not dec_str))
    | _ => exact absurd (show false = true from hs) Bool.false_ne_true
  | byt i =>
    obtain ⟨t, rfl⟩ := rx
    cases y with
    | byt j => obtain ⟨t', rfl⟩ := ry; exact PySem.W.ne_bytes (fin_bl I q (congrArg not dec_byt))
    | _ => exact absurd (show false = true from hs) Bool.false_ne_true
  | _ => cases y <;> exact absurd (show false = true from hs) Bool.false_ne_true
theorem op_lt : OpR X (compareOp .Lt) (rI0 fun i j => .bl (decide (i < j))) := opB0 fun _ _ _ _ _ _ _ q => lt_int q
theorem op_le : OpR X (compareOp .LtE) (rI0 fun i j => .bl (decide (i ≤ j))) := opB0 fun _ _ _ _ _ _ _ q => le_int q
theorem op_gt : OpR X (compareOp .Gt) (rI0 fun i j => .bl (decide (j < i))) := opB0 fun _ _ _ _ _ _ _ q => gt_int q
theorem op_notN : OpR X (compareOp .IsNot) (fun x y H Q => y = .non ∧ Q (.bl (!decide (x = .non))) H) := by
  intro pins s σ H x y v u Q I rx ry h
  obtain ⟨rfl, q⟩ := h
  cases ry
  refine isnot_none_gen (fin_bl I q ?_)
  cases x <;> first
    | (cases rx; rfl)
    | (obtain ⟨t, rfl⟩ := rx; rfl)
theorem nomark (b : Expr) {op : CmpOp} (h : op ≠ .In := by decide) (h2 : op ≠ .NotIn := by decide) : behindInMarks op b = false := by
  have e1 : (op == CmpOp.In) = false := by cases op <;> first | rfl | exact absurd rfl h
  have e2 : (op == CmpOp.NotIn) = false := by cases op <;> first | rfl | exact absurd rfl h2
  cases b <;> simp [behindInMarks, e1, e2]
theorem pe_cmpR {op : CmpOp} {r : R2} (ho : OpR X (compareOp op) r) (ha : PE X a ta) (hb : PE X b tb) (hm : behindInMarks op b = false) : PE X (.Compare a [op] [b] pos) (tOp r ta tb) := by
  intro pins s σ H Q I h
  exact wpAny_Compare1 (binT ha hb I h fun v u s2 x y H2 I2 rx ry q => ho pins s2 σ H2 x y v u Q I2 rx ry q) hm
def tTest (t : TE) : TT := fun σ H Q => t σ H fun x H' => ∃ k, x = .bl k ∧ Q k H'
theorem pt_cmpR {op : CmpOp} {r : R2} (ho : OpR X (compareOp op) r) (ha : PE X a ta) (hb : PE X b tb) (hm : behindInMarks op b = false) : PT X (.Compare a [op] [b] pos) (tTest (tOp r ta tb)) := by
  intro pins s σ H Q I h
  refine wpAny_isTrue_Compare1 (thn (ha pins s σ H _ I h) fun v s1 ⟨x, H1, I1, r1, q1⟩ => thn (hb pins s1 σ H1 _ I1 q1) fun u s2 ⟨y, H2, I2, r2, q2⟩ =>
    thn (ho pins s2 σ H2 x y v u _ I2 r1 r2 q2) fun c s3 ⟨z, H3, I3, r3, k, e, q3⟩ => ?_) hm
  subst e
  cases r3
  exact wpAny_truthy_bool ⟨H3, I3, q3⟩
def tChain (r r' : R2) (ta tb tc : TE) : TE := fun σ H Q => ta σ H fun x H1 => tb σ H1 fun y H2 => r x y H2 fun z H3 => ∃ k, z = .bl k ∧
  (if k = true then tc σ H3 fun w' H4 => r' y w' H4 Q else Q (.bl false) H3)
theorem pe_chain {op op' : CmpOp} {r r' : R2} (ho : OpR X (compareOp op) r) (ho' : OpR X (compareOp op') r') (ha : PE X a ta) (hb : PE X b tb) (hc : PE X c tc)
    (hm : lastMarks [op, op'] [b, c] = false := by with_unfolding_all rfl) : PE X (.Compare a [op, op'] [b, c] pos) (tChain r r' ta tb tc) := by
  intro pins s σ H Q I h
  refine Compare_chain (thn (ha pins s σ H _ I h) fun v s1 ⟨x, H1, I1, r1, q1⟩ => chain_link (thn (hb pins s1 σ H1 _ I1 q1) fun u s2 ⟨y, H2, I2, r2, q2⟩ =>
    thn (ho pins s2 σ H2 x y v u _ I2 r1 r2 q2) fun d s3 ⟨z, H3, I3, r3, k, e, q3⟩ => ?_)) hm
  subst e
  cases r3
  refine wpAny_truthy_bool ?_
  cases k with
  | false => exact ite_ff ⟨.bl false, H3, I3, rfl, q3⟩
  | true => exact ite_tt (chain_last (thn (hc pins s3 σ H3 _ I3 q3) fun w' s4 ⟨z', H4, I4, r4, q4⟩ => ho' pins s4 σ H4 y z' u w' Q I4 r2 r4 q4))
theorem line63 : (sizeLine : Nat) < 2 ^ 63 := by rw [sizeLine_eq]; decide
theorem vals1 {x : V} {us : List Value} (r : Vals [x] us) : ∃ u, us = [u] ∧ RelV x u := by
  cases r with
  | cons r1 r2 => cases r2; exact ⟨_, rfl, r1⟩
theorem vals2 {x y : V} {us : List Value} (r : Vals [x, y] us) : ∃ u w', us = [u, w'] ∧ RelV x u ∧ RelV y w' := by
  cases r with
  | cons r1 r2 =>
    cases r2 with
    | cons r3 r4 => cases r4; exact ⟨_, _, rfl, r1, r3⟩
theorem call_abs : CallR X (.builtin "abs") (fun xs H Q => ∃ i, xs = [.int i] ∧ Q (.int (if i < 0 then -i else i)) H) := by
  intro pins s σ H xs us Q I r h
  obtain ⟨i, rfl, q⟩ := h
  obtain ⟨u, rfl, t, rfl⟩ := vals1 r
  exact call_abs_int fun u tk => ⟨.int (if i < 0 then -i else i), H, I.tok _, ⟨_, rfl⟩, q⟩
theorem call_min2 (hc : X.calm = true) : CallR X (.builtin "min") (fun xs H Q => ∃ i j, xs = [.int i, .int j] ∧ Q (.int (if j < i then j else i)) H) := by
  intro pins s σ H xs us Q I r h
  obtain ⟨i, j, rfl, q⟩ := h
  obtain ⟨u, w', rfl, ⟨t, rfl⟩, ⟨t', rfl⟩⟩ := vals2 r
  refine min_two_ints (I.ok.hd hc) fun h' tk k => ⟨_, H, I.kept k, ?_, q⟩
  by_cases hj : j < i
  · rw [if_pos hj, if_pos hj]; exact ⟨_, rfl⟩
  · rw [if_neg hj, if_neg hj]; exact ⟨_, rfl⟩
theorem call_int1 : CallR X (.type "int") (fun xs H Q => (∃ i, xs = [.int i] ∧ Q (.int i) H) ∨ ∃ k, xs = [.bl k] ∧ Q (.int (if k then 1 else 0)) H) := by
  intro pins s σ H xs us Q I r h
  rcases h with ⟨i, rfl, q⟩ | ⟨k, rfl, q⟩
  · obtain ⟨u, rfl, t, rfl⟩ := vals1 r
    exact call_int_int ⟨.int i, H, I, ⟨_, rfl⟩, q⟩
  · obtain ⟨u, rfl, r1⟩ := vals1 r
    cases r1
    exact call_int_bool ⟨.int (if k then 1 else 0), H, I.tok _, ⟨_, rfl⟩, q⟩
end
end L2
namespace L2
open PySem PySem.Spec PyProof.Rows
structure ObjM (h : Heap) (x dx C : Addr) (mA : Str → Option Value) : Prop where
  obj : h.get? x = some (PySem.W.instObj C dx)
  ns : h.Ns1 dx mA
  ne : dx ≠ x
theorem lookIn_ns {h : Heap} {dx : Addr} {mA : Str → Option Value} (n : h.Ns1 dx mA) : ∃ od, h.get? dx = some od ∧ ∀ name, PySem.W.lookIn name od = some (mA name) := by
  obtain ⟨o, es, ep, ho, hd, hk, _, hm⟩ := n
  refine ⟨o, ho, fun name => ?_⟩
  have e := hm name
  unfold nsFind findBy at e
  rw [← Array.find?_toList] at e
  unfold PySem.W.lookIn
  rw [hd]
  dsimp only
  split
  · rename_i y q
    rw [q] at e
    exact congrArg some e
  · rename_i q
    rw [q] at e
    have a : es.toList.any (·.refKey) = false := by
      rw [List.any_eq_false]
      intro y hy
      obtain ⟨z, t, hkey⟩ := hk y (Array.mem_toList_iff.mp hy)
      simp [DictEntry.refKey, hkey]
    have a' : ¬ es.toList.any (·.refKey) = true := by rw [a]; exact Bool.false_ne_true
    rw [if_neg a']
    exact congrArg some e
theorem ObjM.look {h : Heap} {x dx C : Addr} {mA : Str → Option Value} (I : ObjM h x dx C mA) : ∃ od, PySem.W.InstAt h x (PySem.W.instObj C dx) C (some od) ∧ ∀ name, PySem.W.lookIn name od = some (mA name) :=
  let ⟨od, ho, hl⟩ := lookIn_ns I.ns
  ⟨od, ⟨I.obj, rfl, rfl, ho⟩, hl⟩
section
variable {prog : Program} {w : World} {A : Around} {E : Value → Shared → Prop} {s : Shared} {K : PySem.W.Frag} {x dx C f : Addr} {mA : Str → Option Value} {name : Str} {v : Value}
end
section
variable {P : Program} {w : World} {H H' : Hp} {h h' : Heap} {a C dx : Addr} {fs fs' : List (Str × V)}
theorem ins_get (hok : HOk P w H h) (e : H a = some (.ins C dx fs)) : ∃ mA, ObjM h a dx C mA ∧ (∀ f, RelO (fs.lookup f) (mA f)) ∧ PySem.Within mA (fs.map (·.1)) ∧ fs.length ≤ 1000 ∧ H dx = some (.own a) := by
  obtain ⟨d, z, ne, ob, mA, n, r, q⟩ := (show ObjOk P w H h a (.ins C dx fs) from hok a _ e)
  exact ⟨mA, ⟨ob, n, ne⟩, r, q, z, d⟩
end
structure Cls (K : PySem.W.Frag) (C : Addr) : Prop where
  pg : PySem.W.plainGet K C Str.empty = true
  hd : PySem.W.hasDictIn K C = true
  po : PySem.W.plainOver K C = true
  sa : PySem.W.findIn K (.ref C) "__setattr__" = some (some (.builtin "object.__setattr__"))
theorem Cls.get {K : PySem.W.Frag} {C : Addr} (c : Cls K C) (f : Str) : PySem.W.plainGet K C f = true := c.pg
section
variable {X : Cx} {pins : List (Addr × Obj)} {σ : St} {H : Hp} {s : Shared} {a C dx : Addr} {fs : List (Str × V)} {f : Str} {v : V} {A : Around} {E : Value → Shared → Prop}
end
section
variable {X : Cx} {o e value : Expr} {f : Str} {pos pos' tpos : Pos} {ta tv : TE}
end
section
variable {X : Cx} {pins : List (Addr × Obj)} {σ : St} {H : Hp} {s : Shared} {A : Around} {E : Value → Shared → Prop} {Q : Value → Shared → Prop} {c : Value} {b : Bool}
inductive TyOf (K : PySem.W.Frag) (H : Hp) : V → Value → Prop where
  | non : TyOf K H .non (.type "NoneType")
  | bl (x : Bool) : TyOf K H (.bl x) (.type "bool")
  | int (i : Int) : TyOf K H (.int i) (.type "int")
  | str (x : Str) : TyOf K H (.str x) (.type "str")
  | flt (x : UInt64) : TyOf K H (.flt x) (.type "float")
  | lst {a : Addr} {xs : List V} (e : H a = some (.lst xs)) : TyOf K H (.ref a) (.type "list")
  | frz {a : Addr} {o : Obj} {xs : List V} (e : H a = some (.frz o (.lst xs))) : TyOf K H (.ref a) (.type "list")
  | tup {a : Addr} {xs : List V} (e : H a = some (.tup xs)) : TyOf K H (.ref a) (.type "tuple")
  | dK {a : Addr} {kvs : List (Key × V)} (e : H a = some (.dK kvs)) : TyOf K H (.ref a) (.type "dict")
  | dT {a : Addr} {kvs : List (List Key × V)} (e : H a = some (.dT kvs)) : TyOf K H (.ref a) (.type "dict")
  | ins {a C dx : Addr} {fs : List (Str × V)} (e : H a = some (.ins C dx fs)) (cl : Cls K C) (ha : PySem.W.findIn K (.ref C) "__class__" = some (some (.builtin "object.__class__")))
      (hn : PySem.W.specialIn K (.builtin "object.__class__") "__get__" = some (some (.builtin "getset_descriptor.__get__"))) (htk : PySem.W.takesIn K (.builtin "object.__class__") = some true)
      (hm : PySem.W.mroIn K C (.type "object") = some true) : TyOf K H (.ref a) (.ref C)
theorem isinst_ok {x : V} {u t : Value} (I : Inv X pins σ H s) (rx : RelV x u) (ty : TyOf X.K H x t) (e : PySem.W.kitOne X.K t c = some b) (h : ∀ tk, Q (.bool b) { s with toks := tk }) :
    wpAny (model X.prog X.w) A (call (.builtin "isinstance") [u, c]) Q E s := by
  cases ty with
  | non => cases (show u = Value.none from rx); exact PySem.W.kia_one PySem.W.kitx_none I.kIn True.intro e (fun z => nomatch z) h
  | bl y => cases (show u = Value.bool y from rx); exact PySem.W.kia_one PySem.W.kitx_bool I.kIn True.intro e (fun z => nomatch z) h
  | int i => obtain ⟨t, q⟩ := (show ∃ t, u = Value.int i t from rx); cases q; exact PySem.W.kia_one PySem.W.kitx_int I.kIn True.intro e (fun z => nomatch z) h
  | str y => obtain ⟨t, q⟩ := (show ∃ t, u = Value.str y t from rx); cases q; exact PySem.W.kia_one PySem.W.kitx_str I.kIn True.intro e (fun z => nomatch z) h
  | flt y => obtain ⟨t, q⟩ := (show ∃ t, u = Value.float y t from rx); cases q; exact PySem.W.kia_one PySem.W.kitx_float I.kIn True.intro e (fun z => nomatch z) h
  | @lst a xs ea =>
    cases (show u = Value.ref a from rx)
    obtain ⟨_, _, n, _, h1⟩ := (show ObjOk X.prog X.w H s.heap a (.lst xs) from I.hok a _ ea)
    exact PySem.W.kia_one PySem.W.kitx_list I.kIn ⟨_, h1, rfl⟩ e (fun z => nomatch z) h
  | @frz a ob xs ea =>
    cases (show u = Value.ref a from rx)
    obtain ⟨_, _, _, n, _, h1⟩ := (show ObjOk X.prog X.w H s.heap a (.frz ob (.lst xs)) from I.hok a _ ea)
    exact PySem.W.kia_one PySem.W.kitx_list I.kIn ⟨_, h1, rfl⟩ e (fun z => nomatch z) h
  | @tup a xs ea =>
    cases (show u = Value.ref a from rx)
    obtain ⟨_, _, _, p⟩ := (show ObjOk X.prog X.w H s.heap a (.tup xs) from I.hok a _ ea)
    obtain ⟨o, h1, h2, _⟩ := p
    exact PySem.W.kia_one PySem.W.kitx_tuple I.kIn ⟨o, h1, h2⟩ e (fun z => nomatch z) h
  | @dK a kvs ea =>
    cases (show u = Value.ref a from rx)
    obtain ⟨_, _, vs, _, p⟩ := (show ObjOk X.prog X.w H s.heap a (.dK kvs) from I.hok a _ ea)
    obtain ⟨o, es, ep, h1, h2, _⟩ := p
    exact PySem.W.kia_one PySem.W.kitx_dict I.kIn ⟨o, h1, h2.1⟩ e (fun z => nomatch z) h
  | @dT a kvs ea =>
    cases (show u = Value.ref a from rx)
    obtain ⟨_, _, xs, _, o, es, ep, h1, h2, _⟩ := (show ObjOk X.prog X.w H s.heap a (.dT kvs) from I.hok a _ ea)
    exact PySem.W.kia_one PySem.W.kitx_dict I.kIn ⟨o, h1, h2.1⟩ e (fun z => nomatch z) h
  | @ins a C dx fs ea cl ha hn htk hm =>
    cases (show u = Value.ref a from rx)
    obtain ⟨mA, O, _⟩ := ins_get I.hok ea
    obtain ⟨od, J, _⟩ := O.look
    exact PySem.W.kia_one (PySem.W.kitx_own (cl.get _) cl.hd ha hn htk hm) I.kIn J e (fun z => nomatch z) h
end
end L2
namespace L2
open PySem PySem.Spec PyProof.Rows
structure Room (k : Nat) (A : Around) : Prop where
  hd : A.handled = none
  dp : A.depth + 3 * k + 5 < recursionLimit
  un : A.units + 16 * k + 200 < cLine
theorem Room.mono {j k : Nat} {A : Around} (r : Room k A) (h : j ≤ k) : Room j A := ⟨r.hd, by have := r.dp; omega, by have := r.un; omega⟩
theorem Room.deeper {k : Nat} {A : Around} (r : Room (k + 1) A) (env : Env) : Room k (A.deeper env) :=
  ⟨r.hd, by have := r.dp; show A.depth + 1 + 3 * k + 5 < _; omega, by have := r.un; show A.units + 3 + 16 * k + 200 < _; omega⟩
theorem Room.depth {k : Nat} {A : Around} (r : Room k A) : A.depth < recursionLimit := by have := r.dp; omega
theorem Room.units {k : Nat} {A : Around} (r : Room k A) : A.units + 64 < cLine := by have := r.un; omega
def tNil : TA := fun _ H Q => Q [] H
def tCons (ta : TE) (tr : TA) : TA := fun σ H Q => ta σ H fun x H1 => tr σ H1 fun xs H2 => Q (x :: xs) H2
section
variable {X : Cx} {e : Expr} {es : List Expr} {te : TE} {t : TA} {pos : Pos}
theorem pa_nil : PA X [] tNil := fun _ _ _ _ H Q I h => Calls.spliced_nil ⟨[], H, I, .nil, h⟩
theorem pa_cons (ha : PE X e te) (hr : PA X es t) (hs : starEach (e :: es) X.env = (false, eval e X.env) :: starEach es X.env := by rfl) : PA X (e :: es) (tCons te t) := by
  intro pos pins s σ H Q I h
  rw [hs]
  show wpAny _ _ (spliced ((false, eval e X.env) :: backTo pos (starEach es X.env))) _ _ s
  refine Calls.spliced_cons (thn (ha pins s σ H _ I h) fun u s1 ⟨x, H1, I1, r1, q1⟩ => ?_)
  exact thn (hr pos pins s1 σ H1 _ I1 q1) fun us s2 ⟨xs, H2, I2, r2, q2⟩ => ⟨x :: xs, H2, I2, .cons r1 r2, q2⟩
def tTup (t : TA) : TE := fun σ H Q => t σ H fun xs H1 => xs.length ≤ sizeLine ∧ ∀ p, H1 p = none → Q (.ref p) (upd H1 p (.tup xs))
def tLst (t : TA) : TE := fun σ H Q => t σ H fun xs H1 => xs.length ≤ sizeLine ∧ ∀ p, H1 p = none → Q (.ref p) (upd H1 p (.lst xs))
theorem pe_tup {x1} (h : PA X es t) : PE X (.Tuple es x1 pos) (tTup t) := by
  intro pins s σ H Q I hq
  refine wpAny_Tuple_spliced (thn (h pos pins s σ H _ I hq) fun us s1 ⟨xs, H1, I1, r, z, q⟩ => ⟨by rw [← r.length]; exact z, ?_⟩)
  have hf : H1 s1.heap.objs.size = none := I1.hok.fresh (Nat.le_refl _)
  refine ⟨.ref s1.heap.objs.size, upd H1 s1.heap.objs.size (.tup xs), I1.laid (t' := s1.toks) (fun b u e => Heap.get?_push_of_some _ e) (Nat.le_refl _) ?_, rfl, q _ hf⟩
  exact ⟨z, us, r, ⟨_, Heap.get?_push_size _ rfl, rfl, _, rfl⟩⟩
theorem pe_lst (h : PA X es t) : PE X (.List es pos) (tLst t) := by
  intro pins s σ H Q I hq
  refine wpAny_List_spliced (thn (h pos pins s σ H _ I hq) fun us s1 ⟨xs, H1, I1, r, z, q⟩ => ⟨by rw [← r.length]; exact z, ?_⟩)
  have hf : H1 s1.heap.objs.size = none := I1.hok.fresh (Nat.le_refl _)
  refine ⟨.ref s1.heap.objs.size, upd H1 s1.heap.objs.size (.lst xs), I1.laid (t' := s1.toks) (fun b u e => Heap.get?_push_of_some _ e) (Nat.le_refl _) ?_, rfl, q _ hf⟩
  exact ⟨z, us, 0, r, Heap.get?_push_size _ rfl⟩
end
abbrev Sp := List V → Hp → VK → XK → Prop
abbrev CXT := List Env → Hp → Shared → XK → Value → Shared → Prop
structure Env0 (P : Program) (w : World) (K : PySem.W.Frag) (mg : Str → Option Value) (base : Heap) (A : Around) (outer : List Env) (s : Shared) (H : Hp) : Prop where
  frames : A.frames = some outer
  mod : Mod K mg base
  bs : ∀ b o, base.get? b = some o → s.heap.get? b = some o ∧ H b = none
  bsz : base.objs.size ≤ s.heap.objs.size
  funs : s.heap.FunFrames base outer
  frf : ∀ b ∈ frs outer, H b = none
  hok : HOk P w H s.heap
  bare : AllBare s.gens
def CE (outer : List Env) (P : Program) (w : World) (H : Hp) (s : Shared) (Q : VK) (u : Value) (s' : Shared) : Prop :=
  ∃ v H', s'.os = s.os ∧ AllBare s'.gens ∧ Un (frs outer) [] H H' s.heap s'.heap ∧ HOk P w H' s'.heap ∧ RelV v u ∧ Q v H'
def CR (CX : CXT) (outer : List Env) (P : Program) (w : World) (H : Hp) (s : Shared) (Q : VK) (E : XK) (r : Result) (s' : Shared) : Prop :=
  match r with
  | .ok (.ret u) => CE outer P w H s Q u s'
  | .ok _ => False
  | .error e => CX outer H s E e s'
structure FnOk (P : Program) (w : World) (K : PySem.W.Frag) (mg : Str → Option Value) (base : Heap) (CX : CXT) (k : Nat) (f : Addr) (fd : FuncData) (ps : List Str) (sp : Sp) : Prop where
  len : ∀ vs H Q E, sp vs H Q E → vs.length = ps.length
  run : ∀ (A : Around) (outer : List Env) (s : Shared) (H : Hp) (args : Args) (us : List Value) (vs : List V) (Q : VK) (E : XK), Room k A → Env0 P w K mg base A outer s H → BindsTo s fd args (ps.zip us) → Vals vs us → sp vs H Q E →
    codeAny (model P w) A (.call (.ref f) args) (CR CX outer P w H s Q E) s
theorem FnOk.mono {P : Program} {w : World} {K : PySem.W.Frag} {mg : Str → Option Value} {base : Heap} {CX : CXT} {j k : Nat} {f : Addr} {fd : FuncData} {ps : List Str} {sp : Sp} (F : FnOk P w K mg base CX j f fd ps sp) (h : j ≤ k) :
    FnOk P w K mg base CX k f fd ps sp := ⟨F.len, fun A outer s H args us vs Q E hr => F.run A outer s H args us vs Q E (hr.mono h)⟩
section
variable {X : Cx} {pins : List (Addr × Obj)} {σ : St} {H : Hp} {s s' : Shared}
theorem Inv.env0 (I : Inv X pins σ H s) : Env0 X.prog X.w X.K X.mg X.base X.A X.stack s H :=
  ⟨I.ok.frames, I.ok.mod, I.bs, Nat.le_trans I.ok.bsz I.sz, I.stack, I.stkFree, I.hok, I.bare⟩
theorem Inv.after {Q : VK} {u : Value} (I : Inv X pins σ H s) (h : CE X.stack X.prog X.w H s Q u s') : EP X pins σ Q u s' := by
  obtain ⟨v, H', os, bare, un, hok, r, q⟩ := h
  obtain ⟨hh, g, d, t, os'⟩ := s'
  obtain rfl : os' = s.os := os
  exact ⟨v, H', I.call (h' := hh) (g' := g) (d' := d) (t' := t) (ch := []) un hok bare (fun b z => absurd z (by simp)), r, q⟩
end
def tCall (sp : Sp) (dvs : List V) (E : XK) (t : TA) : TE := fun σ H Q => t σ H fun vs H1 => sp (vs ++ dvs) H1 Q E
def Binds (K : PySem.W.Frag) (fd : FuncData) (ps : List Str) (ds : List Value) : Prop :=
  ∀ (s : Shared) (us : List Value), K.In s.heap → (us ++ ds).length = ps.length → BindsTo s fd ⟨us, []⟩ (ps.zip (us ++ ds))
theorem Binds.all {K : PySem.W.Frag} {fd : FuncData} {ps : List Str} (h : ∀ us : List Value, us.length = ps.length → bindArgs fd ⟨us, []⟩ = pure (ps.zip us)) : Binds K fd ps [] := fun s us _ hl => by
  rw [List.append_nil] at hl ⊢
  exact .of_eq (h us hl)
def Passes (CX : CXT) (X : Cx) (E : XK) : Prop := ∀ (pins : List (Addr × Obj)) (σ : St) (H : Hp) (s : Shared) (e : Value) (s' : Shared), Inv X pins σ H s → CX X.stack H s E e s' → X.xe e s'
section
variable {X : Cx} {CX : CXT} {k : Nat} {f C : Addr} {fd : FuncData} {ps : List Str} {sp : Sp} {dvs : List V} {ds : List Value} {E : XK} {x m : Str} {p pos apos : Pos} {e o : Expr} {es : List Expr} {ta : TE} {t : TA}
theorem run_fn {pins : List (Addr × Obj)} {σ : St} {H : Hp} {s : Shared} {Q : VK} {us : List Value} {vs : List V} (F : FnOk X.prog X.w X.K X.mg X.base CX k f fd ps sp) (hr : Room k X.A) (hb : Binds X.K fd ps ds) (hd : Vals dvs ds) (hx : Passes CX X E)
    (I : Inv X pins σ H s) (r : Vals vs us) (h : sp (vs ++ dvs) H Q E) : wpAny (model X.prog X.w) X.A (call (.ref f) us) (EP X pins σ Q) X.xe s := by
  have r2 : Vals (vs ++ dvs) (us ++ ds) := r.append hd
  have hl : (us ++ ds).length = ps.length := by rw [← r2.length]; exact F.len _ _ _ _ h
  refine wpAny_call (codeAny_mono (F.run X.A X.stack s H ⟨us, []⟩ (us ++ ds) (vs ++ dvs) Q E hr I.env0 (hb s us I.kIn hl) r2 h) fun r s' hq => ?_)
  cases r with
  | error e => exact hx pins σ H s e s' I hq
  | ok fl =>
    cases fl with
    | ret u => exact I.after hq
    | next => exact False.elim hq
    | brk => exact False.elim hq
    | cont => exact False.elim hq
theorem pe_call (F : FnOk X.prog X.w X.K X.mg X.base CX k f fd ps sp) (hr : Room k X.A) (hg : Gl X x) (hm : X.mg x = some (.ref f)) (hk : PySem.W.keepIn X.K (.ref f) = true) (hb : Binds X.K fd ps ds) (hd : Vals dvs ds) (hx : Passes CX X E)
    (ha : PA X (e :: es) t) (hdb : (x == ("__debug__" : Str)) = false := by decide) (he : starEach (e :: es) X.env = (false, eval e X.env) :: starEach es X.env := by rfl) (hpl : (backTo pos (starEach es X.env)).any (·.1) = false := by rfl) :
    PE X (.Call (.Name x p) (e :: es) [] pos) (tCall sp dvs E t) := by
  intro pins s σ H Q I h
  refine wpAny_Call_Name_kw (ld_glob I hg hm ?_ hdb)
  refine PySem.W.callWith_K (h₀ := X.base) I.ok.mod.kin hk (thn (ha pos pins s σ H _ I h) fun us s1 ⟨vs, H1, I1, r, q⟩ => ⟨I1.kIn, ?_⟩) he hpl
  exact run_fn F hr hb hd hx I1 r q
end
def PK (X : Cx) (kws : List Keyword) (t : TA) : Prop :=
  ∀ (pos : Pos) (pins : List (Addr × Obj)) (s : Shared) (σ : St) (H : Hp) (Q : List V → Hp → Prop), Inv X pins σ H s → t σ H Q → wpAny (model X.prog X.w) X.A (evalAll ((backToKw pos (keywordEach kws X.env)).map (·.2))) (AP X pins σ Q) X.xe s
section
variable {X : Cx} {CX : CXT} {k : Nat} {f C : Addr} {fd : FuncData} {ps ks : List Str} {sp : Sp} {E : XK} {x m : Str} {p pos apos kpos : Pos} {e o : Expr} {es : List Expr} {kws : List Keyword} {te ta : TE} {t tk : TA} {nm : Option Str}
theorem pk_nil : PK X [] tNil := fun _ _ _ _ H Q I h => wpAny_evalAll_nil ⟨[], H, I, .nil, h⟩
theorem pk_cons (ha : PE X e te) (hr : PK X kws t) : PK X (⟨nm, e, kpos⟩ :: kws) (tCons te t) := by
  intro pos pins s σ H Q I h
  show wpAny _ _ (evalAll ((do let v ← eval e X.env; standAt pos; pure v) :: (backToKw pos (keywordEach kws X.env)).map (·.2))) _ _ s
  refine wpAny_evalAll_cons (wpAny_bind (thn (ha pins s σ H _ I h) fun u s1 ⟨x, H1, I1, r1, q1⟩ => wpAny_bind (wpAny_standAt (wpAny_pure ?_))))
  exact thn (hr pos pins s1 σ H1 _ I1 q1) fun us s2 ⟨xs, H2, I2, r2, q2⟩ => ⟨x :: xs, H2, I2, .cons r1 r2, q2⟩
variable {g : List Value → List Value → List Value} {gV : List V → List V → List V}
end
structure FnScope (N P : List Str) (sc : Scope) : Prop where
  kind : sc.kind = .function
  co : sc.isCoroutine = false
  gen : sc.isGenerator = false
  nd : N.Nodup
  pre : N.take P.length = P
  par : ∀ x ∈ P, sc.names.lookup x = some .local ∨ sc.names.lookup x = some .cell
  nofree : ∀ y ∈ sc.names, y.2 ≠ .free
theorem bindL_out {kindOf : Str → Option NameKind} {x : Str} : ∀ {binds : List (Str × Value)} {m : Str → Option Value}, (∀ v, (x, v) ∉ binds) → bindL kindOf binds m x = m x
  | [], _, _ => rfl
  | (n, v) :: r, m, h => by
    unfold bindL
    rw [bindL_out fun w hw => h w (List.mem_cons_of_mem _ hw)]
    split
    · have : x ≠ n := by rintro rfl; exact h v List.mem_cons_self
      simp [this]
    · rfl
theorem bindC_out {kindOf : Str → Option NameKind} {x : Str} : ∀ {binds : List (Str × Value)} {m : Str → Option Value}, (∀ v, (x, v) ∉ binds) → bindC kindOf binds m x = m x
  | [], _, _ => rfl
  | (n, v) :: r, m, h => by
    unfold bindC
    rw [bindC_out fun w hw => h w (List.mem_cons_of_mem _ hw)]
    split
    · rfl
    · have : x ≠ n := by rintro rfl; exact h v List.mem_cons_self
      simp [this]
theorem bindL_get {kindOf : Str → Option NameKind} {x : Str} {v : Value} : ∀ {P : List Str} {vs : List Value} {i : Nat} {m : Str → Option Value}, P.Nodup → P[i]? = some x → vs[i]? = some v → kindOf x = some .local →
    bindL kindOf (P.zip vs) m x = some v
  | [], _, _, _, _, h, _, _ => by simp at h
  | _ :: _, [], _, _, _, _, h, _ => by simp at h
  | p :: P, w :: vs, 0, m, nd, h1, h2, hk => by
    simp at h1 h2; subst h1; subst h2
    show bindL kindOf ((p, w) :: P.zip vs) m p = _
    unfold bindL
    rw [bindL_out fun v hv => (List.nodup_cons.mp nd).1 (List.of_mem_zip hv).1, if_pos hk]
    simp
  | p :: P, w :: vs, i + 1, m, nd, h1, h2, hk => by
    show bindL kindOf ((p, w) :: P.zip vs) m x = _
    unfold bindL
    exact bindL_get (i := i) (List.nodup_cons.mp nd).2 (by simpa using h1) (by simpa using h2) hk
theorem bindC_get {kindOf : Str → Option NameKind} {x : Str} {v : Value} : ∀ {P : List Str} {vs : List Value} {i : Nat} {m : Str → Option Value}, P.Nodup → P[i]? = some x → vs[i]? = some v → kindOf x ≠ some .local →
    bindC kindOf (P.zip vs) m x = some v
  | [], _, _, _, _, h, _, _ => by simp at h
  | _ :: _, [], _, _, _, _, h, _ => by simp at h
  | p :: P, w :: vs, 0, m, nd, h1, h2, hk => by
    simp at h1 h2; subst h1; subst h2
    show bindC kindOf ((p, w) :: P.zip vs) m p = _
    unfold bindC
    rw [bindC_out fun v hv => (List.nodup_cons.mp nd).1 (List.of_mem_zip hv).1, if_neg hk]
    simp
  | p :: P, w :: vs, i + 1, m, nd, h1, h2, hk => by
    show bindC kindOf ((p, w) :: P.zip vs) m x = _
    unfold bindC
    exact bindC_get (i := i) (List.nodup_cons.mp nd).2 (by simpa using h1) (by simpa using h2) hk
def start (N : List Str) (vs : List V) : St := vs.map some ++ List.replicate (N.length - vs.length) none
def cxOf (CX : CXT) (P : Program) (w : World) (K : PySem.W.Frag) (mg : Str → Option Value) (base : Heap) (N : List Str) (qual : Str) (scope : Scope) (f : Addr) (cd : Value) (A : Around) (outer : List Env) (s : Shared) (H : Hp) (E : XK) : Cx where
  prog := P
  w := w
  K := K
  mg := mg
  base := base
  A := A.deeper (envOfC qual scope s.heap.objs.size f cd)
  N := N
  s₀ := s
  H₀ := H
  env := envOfC qual scope s.heap.objs.size f cd
  outer := outer
  stack := envOfC qual scope s.heap.objs.size f cd :: outer
  ex := []
  calm := true
  fn := fun _ => true
  pn := []
  xe := fun e s' => wpAny (model P w) (A.deeper (envOfC qual scope s.heap.objs.size f cd)) (leaving (envOfC qual scope s.heap.objs.size f cd) e) (fun _ s'' => CX outer H s E e s'') (fun e' s'' => CX outer H s E e' s'') s'
theorem cell_has {sc : Scope} {n : Nat} {x : Str} (h : sc.names.lookup x = some .cell) : ∃ c, (cellsFrom n sc.names []).lookup x = some c := by
  have q := PySem.W.cellsFrom_some sc.names n [] (.inl h)
  exact Option.isSome_iff_exists.mp q
theorem inv_start {CX : CXT} {P : Program} {w : World} {K : PySem.W.Frag} {mg : Str → Option Value} {base : Heap} {N ps : List Str} {qual : Str} {scope : Scope} {f : Addr} {cd : Value} {A : Around} {outer : List Env} {s s1 : Shared} {H : Hp} {E : XK} {us : List Value} {vs : List V}
    (S : FnScope N ps scope) (hd : A.handled = none) (e0 : Env0 P w K mg base A outer s H) (hl : vs.length = ps.length) (r : Vals vs us)
    (x : InCallC s s.heap.objs.size (bindL (envOfC qual scope s.heap.objs.size f cd).kindOf (ps.zip us) fun _ => none) (cellsFrom (s.heap.objs.size + 1) scope.names []) (bindC (envOfC qual scope s.heap.objs.size f cd).kindOf (ps.zip us) fun _ => none) s1) :
    Inv (cxOf CX P w K mg base N qual scope f cd A outer s H E) [] (start N vs) H s1 := by
  have hpl : ps.length ≤ N.length := by have := congrArg List.length S.pre; rw [List.length_take] at this; omega
  obtain ⟨h1, tk, rfl, hk⟩ := x.done
  have noA : ∀ b : Addr, b ∉ (cxOf CX P w K mg base N qual scope f cd A outer s H E).ex := fun b z => absurd (show b ∈ ([] : List Addr) from z) (by simp)
  refine ⟨⟨e0.mod, S.kind, rfl, rfl, Nat.le_refl _, fun y z c h1 h2 => ?_, fun y hy => ?_, fun y c _ h => ?_, fun _ => hd, Around.frames_deeper e0.frames, .inr ⟨rfl, rfl⟩, fun b z => absurd z (noA b), e0.bs, e0.bsz, fun b _ _ => noA b, fun b z => absurd z (noA b), e0.funs, e0.frf⟩,
    rfl, e0.bare, Un.kept hk, ⟨_, x.toInCall.ns, fun i y v h1 h2 h3 => ?_⟩, fun y c h => ⟨_, x.cell y c h⟩, e0.hok.fresh (Nat.le_refl _), fun y c h => ?_, fun p hp => absurd (show p ∈ ([] : List (Addr × Obj)) from hp) (by simp), e0.hok.kept hk, ?_⟩
  · exact name_of_addr x.apart (PySem.mem_of_lookup h1) (PySem.mem_of_lookup h2)
  · have hy : scope.names.lookup y = some .cell ∨ scope.names.lookup y = some .free := hy
    rcases hy with hy | hy
    · exact cell_has hy
    · exact absurd rfl (S.nofree _ (PySem.mem_of_lookup hy))
  · exact Nat.le_of_lt (x.above y c (PySem.mem_of_lookup h))
  · have hi : i < vs.length := by
      unfold start at h2
      by_cases hi : i < vs.length
      · exact hi
      · rw [List.getElem?_append_right (by simpa using hi)] at h2
        rw [List.getElem?_replicate] at h2
        split at h2 <;> cases h2
    have ha : vs[i]? = some v := by
      unfold start at h2
      rw [List.getElem?_append_left (by simpa using hi), List.getElem?_map] at h2
      cases e : vs[i]? with
      | none => rw [e] at h2; cases h2
      | some a => rw [e] at h2; cases h2; rfl
    obtain ⟨u, hu, rv⟩ := r.get ha
    have hp : ps[i]? = some y := by
      rw [← S.pre, List.getElem?_take_of_lt (by omega)]; exact h1
    have ndP : ps.Nodup := by rw [← S.pre]; exact S.nd.sublist (List.take_sublist _ _)
    refine ⟨u, rv, ?_⟩
    rcases S.par y (List.mem_of_getElem? hp) with k | k
    · exact .inl ⟨k, bindL_get ndP hp hu k⟩
    · obtain ⟨c, e⟩ := cell_has (n := s.heap.objs.size + 1) k
      refine .inr ⟨.inl k, c, e, ?_⟩
      have q := x.cell y c e
      rw [bindC_get ndP hp hu (by show scope.names.lookup y ≠ _; rw [k]; decide)] at q
      exact q
  · exact e0.hok.fresh (Nat.le_of_lt (x.above y c (PySem.mem_of_lookup h)))
  · unfold start
    show _ = N.length
    rw [List.length_append, List.length_map, List.length_replicate]
    omega
theorem fn_of {CX : CXT} {P : Program} {w : World} {K : PySem.W.Frag} {mg : Str → Option Value} {base : Heap} {k : Nat} {f : Addr} {name qual : Str} {params : Arguments} {body : List Stmt} {scope : Scope} {dV kV doc pm cdv ct oc : Value} {an od : Option Addr}
    {osl : Array (Option Value)} {N ps : List Str} {sp : Sp} (lk : K.lookup f = some ⟨oc, od, .func (PySem.W.fnOf name qual params body scope dV kV doc pm an cdv ct), osl⟩) (hcd : PySem.W.codeIn K cdv qual = true) (S : FnScope N ps scope)
    (len : ∀ vs H Q E, sp vs H Q E → vs.length = ps.length)
    (hbody : ∀ (A : Around) (outer : List Env) (s : Shared) (H : Hp) (vs : List V) (Q : VK) (E : XK), Room k (A.deeper (envOfC qual scope s.heap.objs.size f cdv)) → sp vs H Q E →
      ∃ t, PSs (cxOf CX P w K mg base N qual scope f cdv A outer s H E) body t ∧ t { nx := fun _ H' => Q .non H', rt := Q } (start N vs) H) :
    FnOk P w K mg base CX (k + 1) f (PySem.W.fnOf name qual params body scope dV kV doc pm an cdv ct) ps sp := by
  refine ⟨len, fun A outer s H args us vs Q E hr e0 hb r hsp => ?_⟩
  have hl := len _ _ _ _ hsp
  have KX : K.In s.heap := e0.mod.kin.keeps fun b o e => (e0.bs b o e).1
  have lim : s.heap.NoLimit := e0.mod.nolimit.keeps fun b o e => (e0.bs b o e).1
  have hkind : ∀ y ∈ ps.zip us, scope.names.lookup y.1 = some .local ∨ (scope.names.lookup y.1 = some .cell ∧ ((cellsFrom (s.heap.objs.size + 1) scope.names []).lookup y.1).isSome = true) := fun ⟨n, v⟩ hy => by
    rcases S.par n (List.of_mem_zip hy).1 with q | q
    · exact .inl q
    · exact .inr ⟨q, PySem.W.cellsFrom_some _ _ _ (.inl q)⟩
  refine codeAny_call_function hr.depth (KX _ _ lk) rfl S.co S.gen rfl (PySem.W.codeRec_of KX hcd) (hb _ _ _ _ ?_)
  refine wpAny_newFunctionEnv_cells S.kind hkind fun env he s1 x => ?_
  subst he
  refine ⟨lim.keeps x.toInCall.keep, codeAny_func ?_⟩
  obtain ⟨t, ht, hq⟩ := hbody A outer s H vs Q E (hr.deeper _) hsp
  have I : Inv (cxOf CX P w K mg base N qual scope f cdv A outer s H E) [] (start N vs) H s1 := inv_start S hr.hd e0 hl r x
  refine wpAny_mono (ht [] s1 (start N vs) H _ I hq) (fun fl s' hs => ?_) fun e s' hs => hs
  have fin : ∀ {σ' : St} {H' : Hp} {v : V} {u : Value}, Inv (cxOf CX P w K mg base N qual scope f cdv A outer s H E) [] σ' H' s' → RelV v u → Q v H' → CE outer P w H s Q u s' :=
    fun {σ' H' v u} J rv q => ⟨v, H', J.os, J.bare, J.base, J.hok, rv, q⟩
  cases fl with
  | ret u =>
    obtain ⟨v, σ', H', J, rv, q⟩ := hs
    exact fin J rv q
  | next =>
    obtain ⟨σ', H', J, q⟩ := hs
    exact fin (v := V.non) (u := Value.none) J rfl q
  | brk =>
    obtain ⟨_, _, _, q⟩ := hs
    exact False.elim q
  | cont =>
    obtain ⟨_, _, _, q⟩ := hs
    exact False.elim q
end L2
namespace L2
open PySem PySem.Spec PyProof.Rows
section
variable {X : Cx} {x : Str} {p pos : Pos} {e : Expr} {es : List Expr} {t : TA} {id T : String} {r : List V → Hp → VK → Prop}
def tCB (r : List V → Hp → VK → Prop) (t : TA) : TE := fun σ H Q => t σ H fun vs H1 => r vs H1 Q
theorem pe_callB (hc : CallR X (.builtin id) r) (hg : Gl X x) (hm : X.mg x = none) (hv : bootBuiltins x = some (.builtin id)) (ha : PA X (e :: es) t) (hn : x ≠ "__name__" := by decide) (hdb : (x == ("__debug__" : Str)) = false := by decide)
    (he : starEach (e :: es) X.env = (false, eval e X.env) :: starEach es X.env := by rfl) (hpl : (backTo pos (starEach es X.env)).any (·.1) = false := by rfl) : PE X (.Call (.Name x p) (e :: es) [] pos) (tCB r t) := by
  intro pins s σ H Q I h
  refine wpAny_Call_Name_kw (ld_blt I hg hm hv ?_ hn hdb)
  exact PyProof.Rows.callWith_builtin1 (thn (ha pos pins s σ H _ I h) fun us s1 ⟨vs, H1, I1, r1, q1⟩ => hc pins s1 σ H1 vs us Q I1 r1 q1) he hpl
theorem pe_callTy (hc : CallR X (.type T) r) (hg : Gl X x) (hm : X.mg x = none) (hv : bootBuiltins x = some (.type T)) (ha : PA X (e :: es) t) (hn : x ≠ "__name__" := by decide) (hdb : (x == ("__debug__" : Str)) = false := by decide)
    (he : starEach (e :: es) X.env = (false, eval e X.env) :: starEach es X.env := by rfl) (hpl : (backTo pos (starEach es X.env)).any (·.1) = false := by rfl) : PE X (.Call (.Name x p) (e :: es) [] pos) (tCB r t) := by
  intro pins s σ H Q I h
  refine wpAny_Call_Name_kw (ld_blt I hg hm hv ?_ hn hdb)
  exact PyProof.Rows.callWith_type1 (thn (ha pos pins s σ H _ I h) fun us s1 ⟨vs, H1, I1, r1, q1⟩ => hc pins s1 σ H1 vs us Q I1 r1 q1) he hpl
end
end L2
namespace HT
open PySem PyProof.Rows
section
open PySem.SeqAt
open PySem.AutoSeq1 (wpAny_loadPart')
open PySem.MeetsSeq PySem.MeetsSeq2 PySem.MeetsSeq3
end
section
variable {prog : Program} {w : World} {A : Around} {E : Value → Shared → Prop} {s : Shared}
def sIx (n d : Nat) : Option Int → Nat
  | none => d
  | some v => if v < 0 then (v + (n : Int)).toNat else min v.toNat n
theorem sIx_none (n d : Nat) : sIx n d none = d := rfl
theorem sIx_nat (n d k : Nat) : sIx n d (some (k : Int)) = min k n := by
  show (if (k : Int) < 0 then ((k : Int) + (n : Int)).toNat else min (k : Int).toNat n) = min k n
  rw [if_neg (by omega), Int.toNat_natCast]
end
end HT
namespace L2
open PySem PySem.Spec PyProof.Rows
abbrev TO := St → Hp → (Option Int → Hp → Prop) → Prop
def PO (X : Cx) (e : Option Expr) (t : TO) : Prop :=
  ∀ (pins : List (Addr × Obj)) (s : Shared) (σ : St) (H : Hp) (Q : Option Int → Hp → Prop), Inv X pins σ H s → t σ H Q →
    wpAny (model X.prog X.w) X.A (evalPart e X.env) (fun u s' => ∃ o H', Inv X pins σ H' s' ∧ IsPart u o ∧ Q o H') X.xe s
def tNoPart : TO := fun _ H Q => Q none H
def tPart (t : TE) : TO := fun σ H Q => t σ H fun x H1 => ∃ i, x = .int i ∧ Q (some i) H1
section
variable {X : Cx} {e : Expr} {te : TE} {lo hi : Option Expr} {tl th : TO} {pos p2 : Pos}
theorem po_none : PO X none tNoPart := by
  intro pins s σ H Q I h
  rw [evalPart_none]
  exact wpAny_pure ⟨none, H, I, .none, h⟩
theorem po_some (h : PE X e te) : PO X (some e) (tPart te) := by
  intro pins s σ H Q I hw
  rw [evalPart_some]
  refine thn (h pins s σ H _ I hw) fun u s1 ⟨x, H1, I1, r1, q1⟩ => ?_
  obtain ⟨i, rfl, q⟩ := q1
  obtain ⟨t, rfl⟩ := r1
  exact ⟨some i, H1, I1, .int i t, q⟩
def SlR (X : Cx) (r : V → Option Int → Option Int → Hp → VK → Prop) : Prop :=
  ∀ (pins : List (Addr × Obj)) (s : Shared) (σ : St) (H : Hp) (x : V) (v vl vu : Value) (lo hi : Option Int) (sl : Addr) (Q : VK), Inv X pins σ H s → RelV x v → s.heap.IsSliceOf sl vl vu .none → IsPart vl lo → IsPart vu hi → r x lo hi H Q →
    ∃ T id, typeLookup (.type T) "__getitem__" = pure (some (.builtin id)) ∧ s.TypeIs v T ∧ wpAny (model X.prog X.w) X.A (getItem v (.ref sl)) (EP X pins σ Q) X.xe s
def tSl (r : V → Option Int → Option Int → Hp → VK → Prop) (te : TE) (tl th : TO) : TE := fun σ H Q => te σ H fun x H1 => tl σ H1 fun l H2 => th σ H2 fun u H3 => r x l u H3 Q
theorem pe_slice {r : V → Option Int → Option Int → Hp → VK → Prop} (hr : SlR X r) (he : PE X e te) (hl : PO X lo tl) (hu : PO X hi th) : PE X (.Subscript e (.Slice lo hi none p2) pos) (tSl r te tl th) := by
  intro pins s σ H Q I h
  refine Subscript_ (thn (he pins s σ H _ I h) fun v s1 ⟨x, H1, I1, r1, q1⟩ => ?_)
  refine wpAny_Slice (thn (hl pins s1 σ H1 _ I1 q1) fun vl s2 ⟨l, H2, I2, pl, q2⟩ => thn (hu pins s2 σ H2 _ I2 q2) fun vu s3 ⟨u, H3, I3, pu, q3⟩ => ?_)
  rw [evalPart_none]
  refine wpAny_pure ?_
  have I4 : Inv X pins σ H3 { s3 with heap := s3.heap.push { cls := .type "slice", data := .fields #[vl, vu, .none] } } := I3.kept (t' := s3.toks) fun b ob q => Heap.get?_push_of_some _ q
  obtain ⟨T, id, hT, ht, hg⟩ := hr pins { s3 with heap := s3.heap.push { cls := .type "slice", data := .fields #[vl, vu, .none] } } σ H3 x v vl vu l u s3.heap.objs.size Q I4 r1 (Heap.IsSliceOf.new ..) pl pu q3
  show wpAny (model X.prog X.w) X.A (subscriptTail e (.Slice lo hi none p2) v (.ref s3.heap.objs.size)) (EP X pins σ Q) X.xe { s3 with heap := s3.heap.push { cls := .type "slice", data := .fields #[vl, vu, .none] } }
  exact tail_any (ops := [.ref s3.heap.objs.size, v]) ht hT hg (by with_unfolding_all rfl)
def cutV (xs : List V) (lo hi : Option Int) : List V := (xs.drop (HT.sIx xs.length 0 lo)).take (HT.sIx xs.length xs.length hi - HT.sIx xs.length 0 lo)
theorem cutV_length (xs : List V) (lo hi : Option Int) : (cutV xs lo hi).length ≤ xs.length := by
  unfold cutV
  rw [List.length_take, List.length_drop]
  omega
end
end L2
namespace L2
open PySem PySem.Spec PyProof.Rows
def ixN (n : Nat) (i : Int) : Option Nat := if 0 ≤ i then (if i < n then some i.toNat else none) else if -(n : Int) ≤ i then some (i + n).toNat else none
def atI {α : Type} (xs : List α) (i : Int) : Option α := (ixN xs.length i).bind fun j => xs[j]?
theorem ixN_seq {n : Nat} {i : Int} {j : Nat} (h : ixN n i = some j) : seqIndex? i n = some j ∧ j < n ∧ -(n : Int) ≤ i ∧ i < n := by
  unfold ixN at h
  by_cases h0 : 0 ≤ i
  · rw [if_pos h0] at h
    by_cases h1 : i < n
    · rw [if_pos h1] at h
      have e : i.toNat = j := Option.some.inj h
      exact ⟨by rw [seqIndex_of h0 h1, e], by omega, by omega, h1⟩
    · rw [if_neg h1] at h; cases h
  · rw [if_neg h0] at h
    by_cases h1 : -(n : Int) ≤ i
    · rw [if_pos h1] at h
      have e : (i + n).toNat = j := Option.some.inj h
      exact ⟨by rw [seqIndex_neg (by omega) h1, e], by omega, h1, by omega⟩
    · rw [if_neg h1] at h; cases h
theorem atI_get {α : Type} {xs : List α} {i : Int} {v : α} (h : atI xs i = some v) : ∃ j, seqIndex? i xs.length = some j ∧ xs[j]? = some v ∧ j < xs.length ∧ -(xs.length : Int) ≤ i ∧ i < xs.length := by
  unfold atI at h
  cases e : ixN xs.length i with
  | none => rw [e] at h; cases h
  | some j =>
    rw [e] at h
    obtain ⟨h1, h2, h3, h4⟩ := ixN_seq e
    exact ⟨j, h1, h, h2, h3, h4⟩
def PlainIx (b : Expr) : Prop := ∀ o i, subscripted b false o i = operate [o, i] (getItem o i)
def IxR (X : Cx) (r : R2) : Prop :=
  ∀ (value slice : Expr) (pins : List (Addr × Obj)) (s : Shared) (σ : St) (H : Hp) (x y : V) (v u : Value) (Q : VK), Inv X pins σ H s → RelV x v → RelV y u → r x y H Q →
    subscripted slice false v u = operate [v, u] (getItem v u) → wpAny (model X.prog X.w) X.A (subscriptTail value slice v u) (EP X pins σ Q) X.xe s
def MtR (X : Cx) (id : String) (r : V → List V → Hp → VK → Prop) : Prop :=
  ∀ (pins : List (Addr × Obj)) (s : Shared) (σ : St) (H : Hp) (x : V) (xs : List V) (v : Value) (us : List Value) (Q : VK), Inv X pins σ H s → RelV x v → Vals xs us → r x xs H Q →
    wpAny (model X.prog X.w) X.A (call (.builtin id) (v :: us)) (EP X pins σ Q) X.xe s
section
variable {X : Cx} {a b : Expr} {ta tb : TE} {pos : Pos}
theorem pe_ix {r : R2} (hr : IxR X r) (ha : PE X a ta) (hb : PE X b tb) (hs : PlainIx b) : PE X (.Subscript a b pos) (tOp r ta tb) := by
  intro pins s σ H Q I h
  exact Subscript_ (binT ha hb I h fun v u s2 x y H2 I2 rx ry q => hr a b pins s2 σ H2 x y v u Q I2 rx ry q (hs _ _))
def rIxL (K : PySem.W.Frag) : R2 := fun x y H Q => ∃ p xs i v, x = .ref p ∧ y = .int i ∧ SqL K H p xs ∧ atI xs i = some v ∧ Q v H
def rIxT (K : PySem.W.Frag) : R2 := fun x y H Q => ∃ p xs i v, x = .ref p ∧ y = .int i ∧ SqT K H p xs ∧ atI xs i = some v ∧ Q v H
theorem ix_list : IxR X (rIxL X.K) := by
  intro value slice pins s σ H x y v u Q I rx ry h hs
  obtain ⟨p, xs, i, z, rfl, rfl, hq, he, q⟩ := h
  cases rx
  obtain ⟨t, rfl⟩ := ry
  obtain ⟨its, r, pl, hz⟩ := I.list hq
  obtain ⟨j, h1, h2, h3, h4, h5⟩ := atI_get he
  obtain ⟨w, ew, rw'⟩ := r.get h2
  have hl := r.length
  have hn := line63
  have fin : EP X pins σ Q w s := ⟨z, H, I, rw', q⟩
  by_cases h0 : 0 ≤ i
  · have hj : i.toNat = j := by
      rw [seqIndex_of h0 h5] at h1
      exact Option.some.inj h1
    exact item_listR pl.isList h0 (by omega) (by rw [hj]; simpa using ew) fin hs
  · have hj : (i + (its.toArray.size : Int)).toNat = j := by
      rw [seqIndex_neg (by omega) h4] at h1
      rw [List.size_toArray, ← hl]
      exact Option.some.inj h1
    exact subscriptTail_builtinR (x := w) pl.isList.typeIs slot_list_getitem.lookup
      (wpAny_getItem_list_neg (Q := fun r s' => r = w ∧ EP X pins σ Q r s') pl.isList (by omega) (by rw [List.size_toArray] <;> omega) (by omega) (by rw [hj]; simpa using ew) ⟨rfl, fin⟩) hs
theorem ix_tup : IxR X (rIxT X.K) := by
  intro value slice pins s σ H x y v u Q I rx ry h hs
  obtain ⟨p, xs, i, z, rfl, rfl, hq, he, q⟩ := h
  cases rx
  obtain ⟨t, rfl⟩ := ry
  obtain ⟨its, r, pl, hz⟩ := I.tuple hq
  obtain ⟨j, h1, h2, h3, h4, h5⟩ := atI_get he
  obtain ⟨w, ew, rw'⟩ := r.get h2
  have hl := r.length
  have hn := line63
  have fin : EP X pins σ Q w s := ⟨z, H, I, rw', q⟩
  exact subscriptTail_builtinR (x := w) pl.typeIs slot_tuple_getitem.lookup
    (getItem_tuple (j := j) (Q := fun r s' => r = w ∧ EP X pins σ Q r s') pl (by omega) (by omega) (by rw [List.size_toArray, ← hl]; exact h1) (by simpa using ew) ⟨rfl, fin⟩) hs
theorem mapSeq_set (its : List Value) (n j : Nat) (u : Value) : Obj.mapSeq (·.setIfInBounds j u) { cls := .type "list", data := .seq its.toArray n } = { cls := .type "list", data := .seq (its.set j u).toArray n } := by
  simp [Obj.mapSeq]
theorem Inv.lst {pins : List (Addr × Obj)} {σ : St} {H : Hp} {s : Shared} {p : Addr} {xs : List V} (I : Inv X pins σ H s) (h : H p = some (.lst xs)) :
    ∃ (its : List Value) (n : Nat), Vals xs its ∧ s.heap.get? p = some { cls := .type "list", data := .seq its.toArray n } ∧ xs.length ≤ sizeLine := by
  obtain ⟨z, its, n, r, e⟩ := I.hok p _ h
  exact ⟨its, n, r, e, z⟩
theorem Inv.lstUpd {pins : List (Addr × Obj)} {σ : St} {H : Hp} {s : Shared} {p : Addr} {xs ys : List V} {its its' : List Value} {n n' : Nat} {f : Obj → Obj} (I : Inv X pins σ H s) (h : H p = some (.lst xs))
    (ho : s.heap.get? p = some { cls := .type "list", data := .seq its.toArray n }) (hf : f { cls := .type "list", data := .seq its.toArray n } = { cls := .type "list", data := .seq its'.toArray n' }) (r : Vals ys its') (hz : ys.length ≤ sizeLine) (t : Nat) :
    Inv X pins σ (upd H p (.lst ys)) { s with heap := s.heap.update p f, toks := t } := by
  have e : (s.heap.update p f).get? p = some { cls := .type "list", data := .seq its'.toArray n' } := by
    rw [Heap.get?_update_self f ho (by rw [hf] <;> rfl), hf]
  refine I.write (x := p) (e := p) (by rw [h]; trivial) (.inl rfl) (fun b u hb q => (Heap.get?_update_other _ _ (Ne.symm hb)).trans q) ⟨_, e⟩ ?_
  exact ⟨hz, its', n', r, e⟩
def rSetL : V → V → V → Hp → (Hp → Prop) → Prop := fun o i v H Q => ∃ p xs k j, o = .ref p ∧ i = .int k ∧ H p = some (.lst xs) ∧ ixN xs.length k = some j ∧ Q (upd H p (.lst (xs.set j v)))
theorem set_list : PSet X rSetL := by
  intro pins s σ H o i v ov iv u Q I ro ri rv h
  obtain ⟨p, xs, k, j, rfl, rfl, hp, hj, q⟩ := h
  cases ro
  obtain ⟨t, rfl⟩ := ri
  obtain ⟨its, n, r, ho, hz⟩ := I.lst hp
  obtain ⟨h1, h2, h3, h4⟩ := ixN_seq hj
  have hl := r.length
  have hn := line63
  have I' : Inv X pins σ (upd H p (.lst (xs.set j v))) { s with heap := s.heap.update p (Obj.mapSeq (·.setIfInBounds j u)) } :=
    I.lstUpd hp ho (mapSeq_set its n j u) (r.set rv j) (by rw [List.length_set]; exact hz) s.toks
  by_cases h0 : 0 ≤ k
  · have hk : k.toNat = j := by
      rw [seqIndex_of h0 h4] at h1
      exact Option.some.inj h1
    exact PySem.W.ki_setAt ho h0 (by omega) (by rw [List.size_toArray, ← hl]; exact h4) (by rw [hk]; exact ⟨_, I', q⟩)
  · have hk : (k + (its.toArray.size : Int)).toNat = j := by
      rw [seqIndex_neg (by omega) h3] at h1
      rw [List.size_toArray, ← hl]
      exact Option.some.inj h1
    exact PySem.W.ki_setBack ho (by omega) (by rw [List.size_toArray, ← hl]; exact h3) (by omega) (by rw [hk]; exact ⟨_, I', q⟩)
theorem slice_bounds (lo hi : Option Int) (n : Nat) : (sliceBounds lo hi none n).1 = ((HT.sIx n 0 lo : Nat) : Int) ∧ (sliceBounds lo hi none n).2.1 = ((HT.sIx n n hi : Nat) : Int) ∧ (sliceBounds lo hi none n).2.2 = 1 := by
  refine ⟨?_, ?_, rfl⟩
  · cases lo with
    | none => simp [sliceBounds, HT.sIx]
    | some i =>
      simp only [sliceBounds, HT.sIx, Option.getD_none, show (1 : Int) > 0 by decide, if_true]
      by_cases h : i < 0
      · simp only [h, if_true] <;> omega
      · simp only [h, if_false] <;> omega
  · cases hi with
    | none => simp [sliceBounds, HT.sIx]
    | some i =>
      simp only [sliceBounds, HT.sIx, Option.getD_none, show (1 : Int) > 0 by decide, if_true]
      by_cases h : i < 0
      · simp only [h, if_true] <;> omega
      · simp only [h, if_false] <;> omega
theorem slicePick_cut (its : List Value) (lo hi : Option Int) : slicePick its.toArray lo hi none = ((its.drop (HT.sIx its.length 0 lo)).take (HT.sIx its.length its.length hi - HT.sIx its.length 0 lo)).toArray := by
  obtain ⟨h1, h2, h3⟩ := slice_bounds lo hi its.toArray.size
  unfold slicePick
  rw [h1, h2, h3]
  simp only [sliceRange_one, pick_run, List.size_toArray] <;> rfl
def rSlL (K : PySem.W.Frag) : V → Option Int → Option Int → Hp → VK → Prop := fun x lo hi H Q => ∃ a xs, x = .ref a ∧ SqL K H a xs ∧ ∀ p, H p = none → Q (.ref p) (upd H p (.lst (cutV xs lo hi)))
theorem sl_list : SlR X (rSlL X.K) := by
  intro pins s σ H x v vl vu lo hi sl Q I rx hs pl pu h
  obtain ⟨a, xs, rfl, hx, q⟩ := h
  cases rx
  obtain ⟨its, r, ht, hz⟩ := I.list hx
  have hlen := r.length
  refine ⟨"list", _, slot_list_getitem.lookup, ht.isList.typeIs, ?_⟩
  refine wpAny_getItem_list_slice ht.isList hs pl pu .none (by simp) ?_ (by rw [List.size_toArray] <;> omega)
  rw [slicePick_cut, ← hlen]
  refine ⟨.ref s.heap.objs.size, _, I.laid (t' := s.toks) (o := .lst (cutV xs lo hi)) (fun b ob q => Heap.get?_push_of_some _ q) (Nat.le_refl _) ?_, rfl, q _ (I.hok.fresh (Nat.le_refl _))⟩
  exact ⟨Nat.le_trans (cutV_length xs lo hi) hz, _, 0, (r.drop (HT.sIx xs.length 0 lo)).take (HT.sIx xs.length xs.length hi - HT.sIx xs.length 0 lo), Heap.get?_push_size _ rfl⟩
def flatV : V → Bool
  | .non => true
  | .bl _ => true
  | .int _ => true
  | .str _ => true
  | _ => false
def eqV : V → V → Bool
  | .non, .non => true
  | .bl a, .bl b => a == b
  | .bl a, .int b => (if a then 1 else 0) == b
  | .int a, .bl b => a == (if b then 1 else 0)
  | .int a, .int b => a == b
  | .str a, .str b => a == b
  | _, _ => false
theorem eqAt_V {A : Around} {s : Shared} {y x : V} {u v : Value} (ry : RelV y u) (rx : RelV x v) (fy : flatV y = true) (fx : flatV x = true) : SeqAt.EqAt A s u v (eqV y x) := by
  cases y with
  | non =>
    cases ry
    cases x with
    | non => cases rx; exact SeqAt.EqAt.same _
    | bl b => cases rx; exact SeqAt.EqAt.none_bool b
    | int b => obtain ⟨t, rfl⟩ := rx; exact SeqAt.EqAt.none_int b t
    | str b => obtain ⟨t, rfl⟩ := rx; exact SeqAt.EqAt.none_str b t
    | _ => exact absurd (show false = true from fx) Bool.false_ne_true
  | bl a =>
    cases ry
    cases x with
    | non => cases rx; exact SeqAt.EqAt.bool_none a
    | bl b => cases rx; exact SeqAt.EqAt.bool_bool a b
    | int b => obtain ⟨t, rfl⟩ := rx; exact SeqAt.EqAt.bool_int a b t
    | str b => obtain ⟨t, rfl⟩ := rx; exact SeqAt.EqAt.bool_str a b t
    | _ => exact absurd (show false = true from fx) Bool.false_ne_true
  | int a =>
    obtain ⟨t', rfl⟩ := ry
    cases x with
    | non => cases rx; exact SeqAt.EqAt.int_none a t'
    | bl b => cases rx; exact SeqAt.EqAt.int_bool a t' b
    | int b => obtain ⟨t, rfl⟩ := rx; exact SeqAt.EqAt.int_int a t' b t
    | str b => obtain ⟨t, rfl⟩ := rx; exact SeqAt.EqAt.int_str a t' b t
    | _ => exact absurd (show false = true from fx) Bool.false_ne_true
  | str a =>
    obtain ⟨t', rfl⟩ := ry
    cases x with
    | non => cases rx; exact SeqAt.EqAt.str_none a t'
    | bl b => cases rx; exact SeqAt.EqAt.str_bool a t' b
    | int b => obtain ⟨t, rfl⟩ := rx; exact SeqAt.EqAt.str_int a t' b t
    | str b => obtain ⟨t, rfl⟩ := rx; exact SeqAt.EqAt.str_str a t' b t
    | _ => exact absurd (show false = true from fx) Bool.false_ne_true
  | _ => exact absurd (show false = true from fy) Bool.false_ne_true
def eqU (x : V) (u : Value) : Bool := match u with
  | .none => eqV .non x
  | .bool b => eqV (.bl b) x
  | .int i _ => eqV (.int i) x
  | .str z _ => eqV (.str z) x
  | _ => false
theorem eqU_of {x y : V} {u : Value} (r : RelV y u) (f : flatV y = true) : eqU x u = eqV y x := by
  cases y with
  | non => cases r; rfl
  | bl b => cases r; rfl
  | int i => obtain ⟨t, rfl⟩ := r; rfl
  | str z => obtain ⟨t, rfl⟩ := r; rfl
  | _ => exact absurd (show false = true from f) Bool.false_ne_true
theorem mem_eqAt {A : Around} {s : Shared} {x : V} {v : Value} (rx : RelV x v) (fx : flatV x = true) : ∀ {xs : List V} {us : List Value}, Vals xs us → xs.all flatV = true → ∀ u ∈ us, SeqAt.EqAt A s u v (eqU x u)
  | _, _, .nil, _ => fun u hu => by cases hu
  | y :: xs, u :: us, .cons r t, f => fun u' hu => by
    rw [List.all_cons, Bool.and_eq_true] at f
    rcases List.mem_cons.mp hu with rfl | hu
    · rw [eqU_of r f.1]; exact eqAt_V r rx f.1 fx
    · exact mem_eqAt rx fx t f.2 u' hu
theorem call_len_seq : CallR X (.builtin "len") (fun xs H Q => ∃ p ys, xs = [.ref p] ∧ (SqL X.K H p ys ∨ SqT X.K H p ys) ∧ Q (.int ys.length) H) := by
  intro pins s σ H xs us Q I r h
  obtain ⟨p, ys, rfl, hq, q⟩ := h
  obtain ⟨u, rfl, rx⟩ := vals1 r
  cases rx
  have hn := line63
  rcases hq with hq | hq
  · obtain ⟨its, r', pl, hz⟩ := I.list hq
    have hlen := r'.length
    exact Calls.call_len_list pl.isList (by simp only [List.size_toArray] <;> omega) ⟨.int ys.length, H, I.tok _, ⟨s.toks + 1, by rw [List.size_toArray, hlen]⟩, q⟩
  · obtain ⟨its, r', pl, hz⟩ := I.tuple hq
    have hlen := r'.length
    exact len_tuple pl (by simp only [List.size_toArray] <;> omega) ⟨.int ys.length, H, I.tok _, ⟨s.toks + 1, by rw [List.size_toArray, hlen]⟩, q⟩
theorem call_list_of : CallR X (.type "list") (fun xs H Q => ∃ p ys, xs = [.ref p] ∧ (SqL X.K H p ys ∨ SqT X.K H p ys) ∧ ∀ l, H l = none → Q (.ref l) (upd H l (.lst ys))) := by
  intro pins s σ H xs us Q I r h
  obtain ⟨p, ys, rfl, hq, q⟩ := h
  obtain ⟨u, rfl, rx⟩ := vals1 r
  cases rx
  have fin : ∀ (its : List Value), Vals ys its → ys.length ≤ sizeLine → ∀ (h' : Heap) (c' : Nat), (∀ b o', s.heap.get? b = some o' → h'.get? b = some o') →
      h'.get? s.heap.objs.size = some { cls := .type "list", dict := none, data := .seq its.toArray c', slots := #[] } → EP X pins σ Q (.ref s.heap.objs.size) { s with heap := h' } := fun its r' hz h' c' kp e =>
    ⟨.ref s.heap.objs.size, _, I.laid (t' := s.toks) kp (Nat.le_refl _) (show ObjOk X.prog X.w _ h' _ (.lst ys) from ⟨hz, its, c', r', e⟩), rfl, q _ (I.hok.fresh (Nat.le_refl _))⟩
  rcases hq with hq | hq
  · obtain ⟨its, r', pl, hz⟩ := I.list hq
    have hlen := r'.length
    obtain ⟨o, ho, hc, n, hd⟩ := pl.isList
    exact call_list_seq p (.inl rfl) ho hc hd (fun h' c' kp e => fin its r' hz h' c' kp e) (by simp only [List.size_toArray] <;> omega)
  · obtain ⟨its, r', pl, hz⟩ := I.tuple hq
    have hlen := r'.length
    obtain ⟨o, ho, hc, n, hd⟩ := pl
    exact call_list_seq p (.inr rfl) ho hc hd (fun h' c' kp e => fin its r' hz h' c' kp e) (by simp only [List.size_toArray] <;> omega)
def tyV (K : PySem.W.Frag) (T : String) (x : V) (H : Hp) : Prop := match x with
  | .str _ => T = "str"
  | .int _ => T = "int"
  | .ref p => (T = "list" ∧ ∃ xs, SqL K H p xs) ∨ (T = "tuple" ∧ ∃ o, K.lookup p = some o ∧ o.cls = .type "tuple" ∧ o.dict = none) ∨
      (T = "dict" ∧ ((∃ kvs, H p = some (.dK kvs)) ∨ ∃ kvs, H p = some (.dT kvs))) ∨ (T = "set" ∧ ∃ S n, H p = some (.set S n))
  | _ => False
theorem tyV_is {pins : List (Addr × Obj)} {σ : St} {H : Hp} {s : Shared} {T : String} {x : V} {v : Value} (I : Inv X pins σ H s) (r : RelV x v) (ty : tyV X.K T x H) :
    s.TypeIs v T ∧ ∀ a, v = .ref a → ∃ ob, s.heap.get? a = some ob ∧ ob.dict = none := by
  cases x with
  | str z =>
    obtain ⟨t, rfl⟩ := r
    cases (show T = "str" from ty)
    exact ⟨typeIs_str s z t, fun _ e => nomatch e⟩
  | int i =>
    obtain ⟨t, rfl⟩ := r
    cases (show T = "int" from ty)
    exact ⟨typeIs_int s i t, fun _ e => nomatch e⟩
  | ref p =>
    cases r
    rcases ty with ⟨rfl, xs, hq⟩ | ⟨rfl, o, hk, hc, hd⟩ | ⟨rfl, hk⟩ | ⟨rfl, S, n, hk⟩
    · obtain ⟨its, _, pl, _⟩ := I.list hq
      refine ⟨pl.isList.typeIs, fun a e => ?_⟩
      cases e
      obtain ⟨o, n, e, c, hd, _⟩ := pl
      exact ⟨o, e, hd⟩
    · refine ⟨⟨o, I.kIn p o hk, hc⟩, fun a e => ?_⟩
      cases e
      exact ⟨o, I.kIn _ o hk, hd⟩
    · have z : ∃ o, s.heap.get? p = some o ∧ o.ExactDict := by
        rcases hk with ⟨kvs, hk⟩ | ⟨kvs, hk⟩
        · obtain ⟨_, _, _, _, o, _, _, e, ex, _⟩ := I.hok p _ hk
          exact ⟨o, e, ex⟩
        · obtain ⟨_, _, _, _, o, _, _, e, ex, _⟩ := I.hok p _ hk
          exact ⟨o, e, ex⟩
      obtain ⟨o, e, ex⟩ := z
      refine ⟨⟨o, e, ex.1⟩, fun a e2 => ?_⟩
      cases e2
      exact ⟨o, e, ex.2.1⟩
    · obtain ⟨o, _, _, _, e, ex, _⟩ := I.hok p _ hk
      refine ⟨⟨o, e, ex.1⟩, fun a e2 => ?_⟩
      cases e2
      exact ⟨o, e, ex.2.1⟩
  | _ => exact False.elim ty
def tBM0 (K : PySem.W.Frag) (T : String) (r : V → List V → Hp → VK → Prop) (to : TE) : TE := fun σ H Q => to σ H fun x H1 => tyV K T x H1 ∧ r x [] H1 Q
def tBM (K : PySem.W.Frag) (T : String) (r : V → List V → Hp → VK → Prop) (to : TE) (t : TA) : TE := fun σ H Q => to σ H fun x H1 => tyV K T x H1 ∧ t σ H1 fun xs H2 => r x xs H2 Q
variable {o e : Expr} {es : List Expr} {to : TE} {t : TA} {name : Str} {apos cpos : Pos} {T id : String} {r : V → List V → Hp → VK → Prop}
theorem pe_bm0 (pa : PlainAttrs T) (slot : Slot T name id) (hty : typeOf (.builtin id) = pure (.type "method_descriptor")) (hm : MtR X id r) (ho : PE X o to)
    (hbase : attributeBase o name X.env (eval o X.env) = eval o X.env := by rfl) (hline : (apos.endLine == cpos.line) = true := by rfl) : PE X (.Call (.Attribute o name apos) [] [] cpos) (tBM0 X.K T r to) := by
  intro pins s σ H Q I h
  refine wpAny_Call_method0_late hbase hline (thn (ho pins s σ H _ I h) fun v s1 ⟨x, H1, I1, r1, ty, q1⟩ => ?_)
  obtain ⟨h1, h2⟩ := tyV_is I1 r1 ty
  exact ⟨T, id, pa, slot, hty, h1, h2, Calls.callWith_builtin rfl (PySem.evalArgs_none (hm pins s1 σ H1 x [] v [] Q I1 r1 .nil q1))⟩
theorem pe_bm (pa : PlainAttrs T) (slot : Slot T name id) (hty : typeOf (.builtin id) = pure (.type "method_descriptor")) (hm : MtR X id r) (ho : PE X o to) (ha : PA X (e :: es) t)
    (hbase : attributeBase o name X.env (eval o X.env) = eval o X.env := by rfl)
    (hfew : ((backTo cpos (starEach (e :: es) X.env)).all (fun x => !x.1) && (backToKw cpos (keywordEach [] X.env)).all (fun x => x.1.isSome)
      && decide ((e :: es).length + ([] : List Keyword).length + (if ([] : List Keyword).isEmpty then 0 else 1) < 30)) = true := by rfl)
    (hline : (apos.endLine == cpos.line) = true := by rfl) (hs : starEach (e :: es) X.env = (false, eval e X.env) :: starEach es X.env := by rfl) (hplain : (backTo cpos (starEach es X.env)).any (·.1) = false := by rfl) :
    PE X (.Call (.Attribute o name apos) (e :: es) [] cpos) (tBM X.K T r to t) := by
  intro pins s σ H Q I h
  refine wpAny_Call_method_late hbase hfew hline rfl (thn (ho pins s σ H _ I h) fun v s1 ⟨x, H1, I1, r1, ty, q1⟩ => ?_)
  obtain ⟨h1, h2⟩ := tyV_is I1 r1 ty
  refine ⟨T, id, pa, slot, hty, h1, h2, ?_⟩
  have hA := ha cpos pins s1 σ H1 _ I1 q1
  rw [hs] at hA ⊢
  refine Calls.callWith_builtin (by show (false || (backTo cpos (starEach es X.env)).any (·.1)) = false; rw [hplain] <;> rfl) (Calls.evalArgs_plain ?_)
  exact thn hA fun us s2 ⟨vs, H2, I2, r2, q2⟩ => hm pins s2 σ H2 x vs v us Q I2 r1 r2 q2
/- xs.append(e), list.index on a module's tuple .. are MtR facts of 06m -/
end
end L2
namespace L2
open PySem PySem.Spec PyProof.Rows
def MtM (X : Cx) (id : String) (r : V → List V → Hp → VK → Prop) : Prop :=
  ∀ (pins : List (Addr × Obj)) (s : Shared) (σ : St) (H : Hp) (x : V) (xs : List V) (v : Value) (us : List Value) (Q : VK), Inv X pins σ H s → RelV x v → Vals xs us → r x xs H Q →
    wpAny (model X.prog X.w) X.A (call (.builtin id) (v :: us)) (EP X pins σ Q) X.xe s
theorem Vals.one : ∀ {x : V} {us : List Value}, Vals [x] us → ∃ u, us = [u] ∧ RelV x u
  | _, _, .cons r .nil => ⟨_, rfl, r⟩
theorem Vals.zero : ∀ {us : List Value}, Vals [] us → us = []
  | _, .nil => rfl
theorem Vals.dropLast {xs : List V} {us : List Value} (h : Vals xs us) : Vals xs.dropLast us.dropLast := by
  induction h with
  | nil => exact .nil
  | cons r t ih =>
    cases t with
    | nil => exact .nil
    | cons q t' => exact .cons r ih
theorem Vals.eraseIdx : ∀ {xs : List V} {us : List Value} (i : Nat), Vals xs us → Vals (xs.eraseIdx i) (us.eraseIdx i)
  | _, _, _, .nil => .nil
  | _, _, 0, .cons _ t => t
  | _, _, i + 1, .cons r t => .cons r (Vals.eraseIdx i t)
theorem Vals.reverse {xs : List V} {us : List Value} (h : Vals xs us) : Vals xs.reverse us.reverse := by
  induction h with
  | nil => exact .nil
  | cons r t ih => rw [List.reverse_cons, List.reverse_cons]; exact Vals.append ih (.cons r .nil)
theorem erase_last {α : Type} (l : List α) : l.eraseIdx (l.length - 1) = l.dropLast := by
  induction l with
  | nil => rfl
  | cons a r ih =>
    cases r with
    | nil => rfl
    | cons b r =>
      have e : (a :: b :: r).length - 1 = ((b :: r).length - 1) + 1 := by
        have h1 : (a :: b :: r).length = r.length + 2 := rfl
        have h2 : (b :: r).length = r.length + 1 := rfl
        omega
      rw [e, List.eraseIdx_cons_succ, ih]
      all_goals rfl
section
variable {X : Cx} {pins : List (Addr × Obj)} {σ : St} {H : Hp} {s : Shared} {l b : Addr} {xs ys zs : List V}
theorem Inv.lset {its its' : List Value} {n : Nat} {f : Array Value → Array Value} {t' : Nat} (I : Inv X pins σ H s) (hH : H l = some (.lst xs))
    (e : s.heap.get? l = some { cls := .type "list", data := .seq its.toArray n }) (hf : f its.toArray = its'.toArray) (hv : Vals ys its') (hz : ys.length ≤ sizeLine) :
    Inv X pins σ (upd H l (.lst ys)) { s with heap := s.heap.update l (Obj.mapSeq f), toks := t' } := by
  have q := PySem.IsL.update e f
  rw [hf] at q
  refine I.write (x := l) (e := l) (by rw [hH]; exact trivial) (.inl rfl) (fun b' u hb hu => (Heap.get?_update_other s.heap (Obj.mapSeq f) (Ne.symm hb)).trans hu) ⟨_, q⟩ ?_
  exact ⟨hz, its', _, hv, q⟩
theorem Inv.lnew {its : List Value} {t' : Nat} (I : Inv X pins σ H s) (hv : Vals ys its) (hz : ys.length ≤ sizeLine) :
    Inv X pins σ (upd H s.heap.objs.size (.lst ys)) { s with heap := s.heap.push { cls := .type "list", data := .seq its.toArray }, toks := t' } :=
  I.laid (fun _ _ q => Heap.get?_push_of_some _ q) (Nat.le_refl _) ⟨hz, its, 0, hv, Heap.get?_push_size _ rfl⟩
theorem Inv.fresh (I : Inv X pins σ H s) : H s.heap.objs.size = none := I.hok.fresh (Nat.le_refl _)
theorem Inv.lstM (I : Inv X pins σ H s) (hH : H l = some (.lst xs)) : xs.length ≤ sizeLine ∧ ∃ (its : List Value) (n : Nat), Vals xs its ∧ xs.length = its.length ∧ s.heap.get? l = some { cls := .type "list", data := .seq its.toArray n } := by
  obtain ⟨z, its, n, r, e⟩ := I.hok l _ hH
  exact ⟨z, its, n, r, r.length, e⟩
theorem notLongL {n : Nat} (h : n ≤ sizeLine) : Builtin.List.listTooLong n = false := by
  unfold Builtin.List.listTooLong
  exact decide_eq_false (by omega)
end
section
variable {X : Cx}
def rAppend : V → List V → Hp → VK → Prop := fun x vs H Q => ∃ l xs y, x = .ref l ∧ vs = [y] ∧ H l = some (.lst xs) ∧ xs.length < sizeLine ∧ Q .non (upd H l (.lst (xs ++ [y])))
theorem mt_append : MtM X "list.append" rAppend := by
  intro pins s σ H x vs v us Q I rx rv h
  obtain ⟨l, xs, y, rfl, rfl, hH, hz, q⟩ := h
  cases rx
  obtain ⟨u, rfl, ru⟩ := rv.one
  obtain ⟨z, its, n, r, hl, e⟩ := I.lstM hH
  refine call_meets F.slot_list_append ⟨_, e, rfl⟩ F.entry_list_append (F.args_list_append_2 _ _) (PySem.list_append l its.toArray n u (by rw [List.size_toArray]; omega)) ⟨e, ?_⟩
  refine ⟨.non, _, I.lset (its' := its ++ [u]) hH e (by simp) (r.append (.cons ru .nil)) ?_, rfl, q⟩
  rw [List.length_append, List.length_singleton]
  omega
def rExtend : V → List V → Hp → VK → Prop := fun x vs H Q => ∃ l b xs zs, x = .ref l ∧ vs = [.ref b] ∧ H l = some (.lst xs) ∧ H b = some (.lst zs) ∧ xs.length + zs.length ≤ sizeLine ∧ Q .non (upd H l (.lst (xs ++ zs)))
theorem mt_extend : MtM X "list.extend" rExtend := by
  intro pins s σ H x vs v us Q I rx rv h
  obtain ⟨l, b, xs, zs, rfl, rfl, hH, hB, hz, q⟩ := h
  cases rx
  obtain ⟨u, rfl, ru⟩ := rv.one
  cases ru
  obtain ⟨z, its, n, r, hl, e⟩ := I.lstM hH
  obtain ⟨z2, its2, n2, r2, hl2, e2⟩ := I.lstM hB
  have hsz : its.toArray.size + its2.toArray.size ≤ sizeLine := by rw [List.size_toArray, List.size_toArray]; omega
  have hlong : ¬ (!its.toArray.isEmpty && Builtin.List.listTooLong (its.toArray.size + its2.toArray.size)) = true := by
    rw [notLongL hsz, Bool.and_false]
    exact Bool.false_ne_true
  refine call_meets F.slot_list_extend ⟨_, e, rfl⟩ F.entry_list_extend (F.args_list_extend_2 _ _)
    (AutoSeq1.list_extend_list_list_0 l its.toArray n b its2.toArray n2 hlong (by rw [List.size_toArray]; omega) (by omega)) ⟨e, e2, ?_⟩
  refine ⟨.non, _, I.lset (its' := its ++ its2) hH e (by simp) (r.append r2) ?_, rfl, q⟩
  rw [List.length_append]
  omega
def rPop : V → List V → Hp → VK → Prop := fun x vs H Q => ∃ l xs y, x = .ref l ∧ vs = [] ∧ H l = some (.lst xs) ∧ xs[xs.length - 1]? = some y ∧ Q y (upd H l (.lst xs.dropLast))
theorem mt_pop : MtM X "list.pop" rPop := by
  intro pins s σ H x vs v us Q I rx rv h
  obtain ⟨l, xs, y, rfl, rfl, hH, hy, q⟩ := h
  cases rx
  have hus := rv.zero
  subst hus
  obtain ⟨z, its, n, r, hl, e⟩ := I.lstM hH
  obtain ⟨u, hu, ru⟩ := r.get hy
  have hy' : its.toArray[its.toArray.size - 1]? = some u := by
    show its.toArray[its.length - 1]? = some u
    rw [← Array.getElem?_toList, ← hl]
    exact hu
  refine call_meets F.slot_list_pop ⟨_, e, rfl⟩ F.entry_list_pop (F.args_list_pop_1 _) (MeetsSeq.list_pop_last l its.toArray n u hy' (by rw [List.size_toArray]; omega)) ⟨e, ?_⟩
  refine ⟨y, _, I.lset (its' := its.dropLast) hH e ?_ r.dropLast ?_, ru, q⟩
  · show its.toArray.eraseIdxIfInBounds (its.toArray.size - 1) = its.dropLast.toArray
    rw [List.size_toArray, List.eraseIdxIfInBounds_toArray, erase_last]
  · rw [List.length_dropLast]
    omega
def rClear : V → List V → Hp → VK → Prop := fun x vs H Q => ∃ l xs, x = .ref l ∧ vs = [] ∧ H l = some (.lst xs) ∧ Q .non (upd H l (.lst []))
theorem mt_clear : MtM X "list.clear" rClear := by
  intro pins s σ H x vs v us Q I rx rv h
  obtain ⟨l, xs, rfl, rfl, hH, q⟩ := h
  cases rx
  have hus := rv.zero
  subst hus
  obtain ⟨z, its, n, r, hl, e⟩ := I.lstM hH
  refine call_meets F.slot_list_clear ⟨_, e, rfl⟩ F.entry_list_clear (F.args_list_clear_1 _) (AutoSeq1.list_clear_list_0 l its.toArray n (by rw [List.size_toArray]; omega)) ⟨e, ?_⟩
  exact ⟨.non, _, I.lset (its' := []) (ys := []) hH e rfl .nil (Nat.zero_le _), rfl, q⟩
def rCat : R2 := fun x y H Q => ∃ l b xs zs, x = .ref l ∧ y = .ref b ∧ H l = some (.lst xs) ∧ H b = some (.lst zs) ∧ xs.length + zs.length ≤ sizeLine ∧ ∀ p, H p = none → Q (.ref p) (upd H p (.lst (xs ++ zs)))
theorem op_cat : OpR X (binaryOp .Add) rCat := by
  intro pins s σ H x y v u Q I rx ry h
  obtain ⟨l, b, xs, zs, rfl, rfl, hH, hB, hz, q⟩ := h
  cases rx
  cases ry
  obtain ⟨z, its, n, r, hl, e⟩ := I.lstM hH
  obtain ⟨z2, its2, n2, r2, hl2, e2⟩ := I.lstM hB
  refine PySem.P.add_list e e2 ?_ (by rw [List.size_toArray, List.size_toArray]; omega)
  have ea : its.toArray ++ its2.toArray = (its ++ its2).toArray := by simp
  rw [ea]
  exact ⟨.ref _, _, I.lnew (t' := s.toks) (r.append r2) (by rw [List.length_append]; omega), rfl, q _ I.fresh⟩
end
section
variable {prog : Program} {w : World} {A : Around} {E : Value → Shared → Prop} {s : Shared}
end
section
variable {X : Cx}
end
end L2
namespace Att
open PySem PySem.W PySem.Calls PyProof.Rows
theorem ints_of_wellAll {P : Params} {h : Heap} : ∀ (ns : List Int) (vs : List Value), WellAll P h vs (ns.map WData.int) → IntsAre vs ns := by
  intro ns
  induction ns with
  | nil =>
    intro vs w
    rw [List.map_nil] at w
    cases w
    exact .nil
  | cons n ns ih =>
    intro vs w
    rw [List.map_cons] at w
    cases w with
    | cons a b =>
      cases a
      exact .cons _ _ (ih _ b)
theorem script_of {l : OpenLaw} {n : Nat} (hn : l.most = some n) {P : Params} {h : Heap} {args : List WData} {vals : List Value}
    (hpre : l.row.toRowW.claim.pre args = true) (hwl : WellAll P h vals args) :
    ∃ a vs ns, vals = [Value.ref a] ∧ args = [WData.list (ns.map WData.int)] ∧ h.get? a = some { cls := .type "list", data := .seq vs.toArray } ∧ IntsAre vs ns ∧ ns.length ≤ n := by
  have hsh : WShape.hasAll [] args [.list .int] = true := (pre_splitW hpre).1
  have hc : l.pre.holds [] { args := args } = true := (pre_splitW hpre).2
  obtain ⟨d, r, rfl, h1, h2⟩ := hasAllW_cons hsh
  obtain rfl := hasAllW_nil h2
  obtain ⟨xs, rfl, h3⟩ := hasW_list h1
  obtain ⟨ns, rfl⟩ := items_int h3
  have hlen : ns.length ≤ n := by
    unfold OpenLaw.pre at hc
    have h4 : (WTm.not (.lt (.lit (.int (n : Int))) (.len (.arg 0)))).holds [] { args := [.list (ns.map .int)] } = true := by
      have h4 := (holds_andW hc).1
      rw [hn] at h4
      exact h4
    have h5 := condW_of h4 (w_not (w_lt w_lit (w_len_list (w_arg rfl))))
    rw [List.length_map] at h5
    refine Nat.le_of_not_lt fun q => ?_
    have q' : (n : Int) < ((ns.length : Nat) : Int) := by omega
    first
      | (rw [decide_eq_true q'] at h5; exact absurd h5 (by decide))
      | (simp at h5; omega)
  cases hwl with
  | cons w1 w2 =>
    cases w2
    cases w1 with
    | list ho hall => exact ⟨_, _, ns, rfl, rfl, ho, ints_of_wellAll ns _ hall, hlen⟩
theorem post_true (l : OpenLaw) (args : List WData) : l.row.toRowW.claim.post args (.bool true) args = true :=
  postW_of (r := l.row.toRowW) (X := (true == true))
    (show WShape.has [] (.bool true) .bool = true by first | rfl | decide | simp [WShape.has, WShape.arms, WShape.armsAll])
    (show (WTm.eq .res (.lit (.bool true))).value [] { args := args, res := some (.bool true), after := args } = some (.bool (true == true)) from w_eq_bool (w_res rfl) w_lit) rfl
theorem attach_call {l : OpenLaw} {n : Nat} {q : Program} {loose : List Str} {XP : (Str → Option Value) → Heap → Prop} {YP : World → Heap → Prop} {d : DefRec}
    (hn : l.most = some n) (hdf : d.params.defaults = [])
    (call : ∀ (w : World) (s₀ s₁ : Shared) (mg mb : Str → Option Value) (fa : Addr) (o : Obj) (pm cd doc : Value) (a : Addr) (vs : List Value) (ns : List Int),
      Ground q loose [] XP w s₀ mg mb s₁.heap → YP w s₁.heap →
      s₁.heap.get? fa = some o → o.data = .func (docDef d.name d.params d.body d.scope pm cd doc) → s₁.heap.CodeRec cd d.name → mg d.name = some (.ref fa) →
      s₁.heap.get? a = some { cls := .type "list", data := .seq vs.toArray } → IntsAre vs ns → ns.length ≤ n → s₁.gens = #[] →
      codeAny (model l.prog w) callerA (.call (.ref fa) ⟨[.ref a], []⟩) (fun r s' => r = .ok (.ret (.bool true)) ∧ OldK s₁.heap s'.heap ∧ s'.os = s₁.os ∧ AllBare s'.gens) s₁) :
    WalkO q loose XP YP l.row.toRowW d [] (fun f vs => PySem.call f vs) := by
  intro w s₀ s₁ mg mb G Y fa o pm cd doc dV kV ho hd hcd hD hmg hg args vals as hpre hlay hrd hwl hlo
  obtain rfl : dV = .none := Dflts.none hD hdf
  obtain rfl : kV = .none := Dflts.noKw hD
  obtain ⟨a, vs, ns, rfl, rfl, hobj, hints, hlen⟩ := script_of hn hpre hwl
  refine enter_call (codeAny_mono (call w s₀ s₁ mg mb fa o pm cd doc a vs ns G Y ho (fd_plain hd) hcd hmg hobj hints hlen hg) fun r s' hq => ?_)
  obtain ⟨rfl, h2, h3, h4⟩ := hq
  exact ⟨.inl ⟨.bool true, .bool true, [], rfl, fun _ => rfl, .bool true, post_true l _, fun _ => ⟨List.Pairwise.nil, fun _ hm => (nomatch hm)⟩⟩, h2, h3, h4⟩
section
variable {prog : Program} {w : World} {A : Around} {E : Value → Shared → Prop} {s : Shared} {K : Frag}
def ledger (h : Heap) (L d : Addr) : List (Addr × Obj) := (List.range h.objs.size).filterMap fun a => if a = L ∨ a = d then none else (h.get? a).map fun o => (a, o)
end
end Att
namespace L2
open PySem PySem.Spec PyProof.Rows
theorem vals_ints : ∀ {vs : List Value} {ns : List Int}, IntsAre vs ns → Vals (ns.map V.int) vs
  | _, _, .nil => .nil
  | _, _, .cons n t h => .cons ⟨t, rfl⟩ (vals_ints h)
end L2
namespace L2
open PySem PySem.Spec PyProof.Rows
end L2
/- THE LAST THEOREM (shape; LID, My.* are yours):
   My.Adr: a structure of the addresses that your layer names (classes, functions); My.Txt K t: a structure (Prop) of the equations over K;
   My.txt_mk : {K} {implicit addresses ..} (e1 : nsIn K mainGlobals "law" = some (some (.ref f))) (e2 : K.lookup f = some ⟨oc, od, .func (fnOf "law" "law" params body scope dV kV doc pm an cdv ct), sl⟩) (e3 : codeIn K cdv "law" = true) .. : ∃ t, My.Txt K t
set_option maxRecDepth 100000 in
set_option maxHeartbeats 0 in
theorem PySem.Challenge.cw_LID_holds : PySem.Challenge.rw_LID.Holds := by
  w_on; o_law; k_head; (case hw => w_witness2)
  k_fill
  refine L2.walk_of (l := PySem.Challenge.rw_LID) (n := 63) (k := 40) (x := "script") (CX := fun w => ..) (sp := fun _ => My.sp_law) rfl (by decide) rfl ⟨rfl, by decide, by decide⟩ (fun w h Y => PySem.W.kIn_of Y) ?F ?S ?C
  case F =>
    intro w mg fa h KX G hmg
    have T : ∃ t, My.Txt (L2.KOf KX) t := by
      dsimp only [L2.KOf]                          -- K must stand as «<heap const> w.params» for k_is
      refine' My.txt_mk ?e1 ?e2 ?e3 ..
      (case e1 => PySem.W.k_is)                    -- in the order: a name -> its address -> its object -> its parts
      (case e2 => PySem.W.k_is)
      ..
    obtain ⟨t, T⟩ := T
    have e0 := hmg.symm.trans (PySem.W.mg_of KX G T.law)
    cases e0                                       -- fa is the law's own address
    exact ⟨_, fun s u => .of_eq rfl, fun base kb nb => My.law_fn T kb nb⟩     -- if «.of_eq rfl» comes too early: refine' ⟨_, ?b, fun base kb nb => My.law_fn T kb nb⟩; exact fun s u => .of_eq rfl
  case S => exact fun w H a ns hl hO hS => ..
  case C => exact ..
(the tactic k_is has no namespace: write k_is) -/
namespace L2
open PySem PySem.Spec PyProof.Rows
def defArgs (s : Stmt) : Arguments := match s with
  | .FunctionDef _ a _ _ _ _ _ _ _ _ => a
  | _ => { posonlyargs := [], args := [], vararg := none, kwonlyargs := [], kw_defaults := [], kwarg := none, defaults := [] }
def defBody (s : Stmt) : List Stmt := match s with
  | .FunctionDef _ _ b _ _ _ _ _ _ _ => b
  | _ => []
def defScope (s : Stmt) : Scope := match s with
  | .FunctionDef _ _ _ _ _ _ sc _ _ _ => sc
  | _ => { kind := .function, names := [], isGenerator := false, isCoroutine := false }
abbrev CX0 : CXT := fun _ _ _ _ _ _ => False
abbrev E0 : XK := fun _ _ _ => False
theorem pass0 {X : Cx} : Passes CX0 X E0 := fun _ _ _ _ _ _ _ h => h.elim
structure Fun (K : PySem.W.Frag) (x qual : Str) (st : Stmt) (f : Addr) (fd : FuncData) : Prop where
  ex : ∃ (oc : Value) (od : Option Addr) (kV doc pm : Value) (an : Option Addr) (cdv ct : Value) (osl : Array (Option Value)),
    fd = PySem.W.fnOf x qual (defArgs st) (defBody st) (defScope st) .none kV doc pm an cdv ct ∧ K.lookup f = some ⟨oc, od, .func fd, osl⟩ ∧ PySem.W.codeIn K cdv qual = true
  kp : PySem.W.keepIn K (.ref f) = true
section
variable {P : Program} {w : World} {K : PySem.W.Frag} {mg : Str → Option Value} {base : Heap}
theorem Fun.ok {x qual : Str} {st : Stmt} {f : Addr} {fd : FuncData} {N ps : List Str} {k : Nat} {sp : Sp} (F : Fun K x qual st f fd) (S : FnScope N ps (defScope st)) (len : ∀ vs H Q E, sp vs H Q E → vs.length = ps.length)
    (hbody : ∀ (cdv : Value) (A : Around) (outer : List Env) (s : Shared) (H : Hp) (vs : List V) (Q : VK) (E : XK), Room k (A.deeper (envOfC qual (defScope st) s.heap.objs.size f cdv)) → sp vs H Q E →
      ∃ t, PSs (cxOf CX0 P w K mg base N qual (defScope st) f cdv A outer s H E).nox (defBody st) t ∧ t { nx := fun _ H' => Q .non H', rt := Q } (start N vs) H) : FnOk P w K mg base CX0 (k + 1) f fd ps sp := by
  obtain ⟨oc, od, kV, doc, pm, an, cdv, ct, osl, rfl, lk, hcd⟩ := F.ex
  refine fn_of lk hcd S len fun A outer s H vs Q E hr hsp => ?_
  obtain ⟨t, h, q⟩ := hbody cdv A outer s H vs Q E hr hsp
  exact ⟨t, h.nox, q⟩
theorem Fun.binds {x qual : Str} {st : Stmt} {f : Addr} {fd : FuncData} {ps : List Str} (F : Fun K x qual st f fd)
    (h : ∀ (kV doc pm : Value) (an : Option Addr) (cdv ct : Value) (us : List Value), us.length = ps.length → bindArgs (PySem.W.fnOf x qual (defArgs st) (defBody st) (defScope st) .none kV doc pm an cdv ct) ⟨us, []⟩ = pure (ps.zip us)) : Binds K fd ps [] := by
  obtain ⟨oc, od, kV, doc, pm, an, cdv, ct, osl, rfl, lk, hcd⟩ := F.ex
  exact .all (h kV doc pm an cdv ct)
theorem fun_mk {x qual : Str} {st : Stmt} {f : Addr} {oc : Value} {od an : Option Addr} {osl : Array (Option Value)} {kV doc pm cdv ct : Value} (l : K.lookup f = some ⟨oc, od, .func (PySem.W.fnOf x qual (defArgs st) (defBody st) (defScope st) .none kV doc pm an cdv ct), osl⟩)
    (c : PySem.W.codeIn K cdv qual = true) (k : PySem.W.keepIn K (.ref f) = true) : Fun K x qual st f (PySem.W.fnOf x qual (defArgs st) (defBody st) (defScope st) .none kV doc pm an cdv ct) := ⟨⟨oc, od, kV, doc, pm, an, cdv, ct, osl, rfl, l, c⟩, k⟩
end
theorem small1000 {n : Nat} (h : n ≤ 1000) : n < sizeLine := Nat.lt_of_le_of_lt h (by decide)
section
variable {X : Cx}
theorem pv (i : Nat) {x : Str} {pos : Pos} (hN : X.N[i]? = some x := by rfl) (hv : Vis X.env.scope x := by first | exact Or.inl rfl | exact Or.inr (Or.inl rfl) | exact Or.inr (Or.inr rfl)) (hd : (x == ("__debug__" : Str)) = false := by decide)
    (hcd : (x == ("__classdict__" : Str)) = false := by decide) : PE X (.Name x pos) (tVar i) := pe_var hN hv hd hcd
end
def Same (H H' : Hp) : Prop := ∀ b o, H b = some o → H' b = some o
theorem Same.refl (H : Hp) : Same H H := fun _ _ h => h
theorem Same.free {H H' : Hp} (e : Same H H') {l : Addr} (h : H' l = Option.none) : H l = Option.none := by
  cases q : H l with
  | none => rfl
  | some o =>
    rw [e l o q] at h
    cases h
end L2
set_option linter.all false
set_option maxRecDepth 100000
namespace L2
open PySem PySem.Spec PyProof.Rows
section
variable {κ : Type} [DecidableEq κ]
def valV (kvs : List (κ × V)) (k : κ) : Option V := (kvs.find? fun kv => decide (kv.1 = k)).map (·.2)
def putK (kvs : List (κ × V)) (k : κ) (v : V) : List (κ × V) :=
  if (kvs.any fun kv => decide (kv.1 = k)) = true then kvs.map (fun kv => if kv.1 = k then (kv.1, v) else kv) else kvs ++ [(k, v)]
theorem RelO.getD {o : Option V} {u : Option Value} {d : V} {d' : Value} (r : RelO o u) (rd : RelV d d') : RelV (o.getD d) (u.getD d') := by
  cases o with
  | none => cases u with
    | none => exact rd
    | some _ => exact (show False from r).elim
  | some _ => cases u with
    | none => exact (show False from r).elim
    | some _ => exact r
theorem KV.any {kvs : List (κ × V)} {vs : List (κ × Value)} (r : KV kvs vs) (k : κ) : (kvs.any fun kv => decide (kv.1 = k)) = vs.any fun kv => decide (kv.1 = k) := by
  unfold KV at r
  induction r with
  | nil => rfl
  | cons h t ih => rw [List.any_cons, List.any_cons, ih, h.1]
theorem KV.length {kvs : List (κ × V)} {vs : List (κ × Value)} (r : KV kvs vs) : kvs.length = vs.length := Paired.length r
end
section
variable {P : Program} {w : World} {H : Hp} {h : Heap} {a : Addr}
end
section
variable {X : Cx} {pins : List (Addr × Obj)} {σ : St} {H : Hp} {s : Shared} {a : Addr} {y v : V} {u r : Value} {o : Option V} {A : Around} {E : Value → Shared → Prop}
end
section
variable {X : Cx} {pins : List (Addr × Obj)} {σ : St} {H : Hp} {s : Shared} {a : Addr} {kvs : List (Key × V)} {k : Key} {u : Value} {A : Around} {E : Value → Shared → Prop}
end
section
variable {X : Cx} {o i e value : Expr} {pos pos' tpos : Pos} {td ty tv : TE}
end
section
variable {X : Cx} {pos : Pos}
end
section
variable {X : Cx} {pins : List (Addr × Obj)} {σ : St} {H : Hp} {s : Shared} {a : Addr} {y d : V} {u r : Value} {o : Option V} {A : Around} {E : Value → Shared → Prop}
end
section
variable {X : Cx} {o e f : Expr} {apos cpos : Pos} {td ty tx : TE}
end
section
variable {X : Cx} {pins : List (Addr × Obj)} {σ : St} {H : Hp} {s : Shared} {a : Addr} {kvs : List (Key × V)} {A : Around} {E : Value → Shared → Prop}
end
section
variable {X : Cx} {pins : List (Addr × Obj)} {σ : St} {H : Hp} {s : Shared} {a : Addr} {y : V} {u : Value} {A : Around} {E : Value → Shared → Prop}
end
end L2
set_option Elab.async false
set_option linter.all false
set_option maxRecDepth 100000
set_option maxHeartbeats 4000000
namespace L2
open PySem PySem.Spec PyProof.Rows
def clFrom (env : Env) : List (Str × NameKind) → List (Str × Addr) → List (Str × Addr)
  | [], acc => acc
  | (n, k) :: r, acc => clFrom env r (if k == .free then (n, (env.cells.lookup n).getD 0) :: acc else acc)
theorem closureFor_eq {scope : Scope} {env : Env} (h : ∀ n, (n, NameKind.free) ∈ scope.names → ∃ c, env.cells.lookup n = some c) : closureFor scope env = pure (clFrom env scope.names []) := by
  have go : ∀ (names : List (Str × NameKind)) (acc : List (Str × Addr)), (∀ n, (n, NameKind.free) ∈ names → ∃ c, env.cells.lookup n = some c) →
      (forIn names acc (fun (x : Str × NameKind) (cs : List (Str × Addr)) => match x with
        | (name, kind) => if (kind == .free) = true then (do let c ← cellOf env name; pure (ForInStep.yield ((name, c) :: cs))) else pure (ForInStep.yield cs)) : Sem (List (Str × Addr))) = pure (clFrom env names acc) := by
    intro names
    induction names with
    | nil => intro acc _; rfl
    | cons x r ih =>
      intro acc hn
      obtain ⟨n, k⟩ := x
      rw [List.forIn_cons]
      have hr : ∀ m, (m, NameKind.free) ∈ r → ∃ c, env.cells.lookup m = some c := fun m hm => hn m (List.mem_cons_of_mem _ hm)
      by_cases hk : k = .free
      · subst hk
        obtain ⟨c, hc⟩ := hn n List.mem_cons_self
        have e : cellOf env n = pure c := by unfold cellOf; rw [hc]
        have e2 : clFrom env ((n, NameKind.free) :: r) acc = clFrom env r ((n, c) :: acc) := by
          show clFrom env r (if (NameKind.free == NameKind.free) = true then (n, (env.cells.lookup n).getD 0) :: acc else acc) = _
          rw [if_pos (by decide), hc]; rfl
        rw [e2, ← ih _ hr]
        show (do let __do_lift ← (if (NameKind.free == NameKind.free) = true then (do let c ← cellOf env n; pure (ForInStep.yield ((n, c) :: acc))) else pure (ForInStep.yield acc) : Sem (ForInStep (List (Str × Addr)))); _) = _
        rw [if_pos (by decide), e]
        rfl
      · have hb : (k == NameKind.free) = false := by simpa using hk
        have e2 : clFrom env ((n, k) :: r) acc = clFrom env r acc := by
          show clFrom env r (if (k == NameKind.free) = true then (n, (env.cells.lookup n).getD 0) :: acc else acc) = _
          rw [hb]; rfl
        rw [e2, ← ih _ hr]
        show (do let __do_lift ← (if (k == NameKind.free) = true then (do let c ← cellOf env n; pure (ForInStep.yield ((n, c) :: acc))) else pure (ForInStep.yield acc) : Sem (ForInStep (List (Str × Addr)))); _) = _
        rw [hb]
        rfl
  have e := go scope.names [] h
  unfold closureFor
  exact congrArg (fun (m : Sem (List (Str × Addr))) => m >>= fun r => pure r) e
theorem clFrom_mem {env : Env} : ∀ {names : List (Str × NameKind)} {acc : List (Str × Addr)} {n : Str} {c : Addr}, (n, c) ∈ clFrom env names acc → (n, c) ∈ acc ∨ ((n, NameKind.free) ∈ names ∧ c = (env.cells.lookup n).getD 0)
  | [], acc, n, c, h => .inl h
  | (m, k) :: r, acc, n, c, h => by
    rcases clFrom_mem (names := r) h with h | ⟨h, e⟩
    · by_cases hk : k = .free
      · subst hk
        rw [if_pos (by decide)] at h
        rcases List.mem_cons.mp h with e | h
        · cases e; exact .inr ⟨List.mem_cons_self, rfl⟩
        · exact .inl h
      · have hb : (k == NameKind.free) = false := by simpa using hk
        rw [hb] at h
        exact .inl h
    · exact .inr ⟨List.mem_cons_of_mem _ h, e⟩
theorem lookup_of_mem {α : Type} : ∀ {l : List (Str × α)} {n : Str} {c : α}, (n, c) ∈ l → ∃ d, l.lookup n = some d
  | [], _, _, h => nomatch h
  | (k, v) :: r, n, c, h => by
    rw [List.lookup_cons]
    cases hb : n == k with
    | true => exact ⟨v, rfl⟩
    | false =>
      rcases List.mem_cons.mp h with e | h
      · cases e; simp at hb
      · exact lookup_of_mem h
theorem clFrom_acc {env : Env} : ∀ {names : List (Str × NameKind)} {acc : List (Str × Addr)} {n : Str} {c : Addr}, (n, c) ∈ acc → (n, c) ∈ clFrom env names acc
  | [], acc, n, c, h => h
  | (m, k) :: r, acc, n, c, h => by
    refine clFrom_acc (names := r) ?_
    split
    · exact List.mem_cons_of_mem _ h
    · exact h
theorem clFrom_has {env : Env} : ∀ {names : List (Str × NameKind)} {acc : List (Str × Addr)} {n : Str}, (n, NameKind.free) ∈ names → (n, (env.cells.lookup n).getD 0) ∈ clFrom env names acc
  | [], acc, n, h => nomatch h
  | (m, k) :: r, acc, n, h => by
    rcases List.mem_cons.mp h with e | h
    · cases e
      refine clFrom_acc (names := r) ?_
      rw [if_pos (by decide)]
      exact List.mem_cons_self
    · exact clFrom_has (names := r) h
theorem cellsFrom_mem : ∀ {names : List (Str × NameKind)} {n : Nat} {acc : List (Str × Addr)} {x : Str} {c : Addr}, (x, c) ∈ cellsFrom n names acc → (x, c) ∈ acc ∨ ((x, NameKind.cell) ∈ names ∧ n ≤ c)
  | [], n, acc, x, c, h => .inl h
  | (m, k) :: r, n, acc, x, c, h => by
    unfold cellsFrom at h
    by_cases hk : k = .cell
    · subst hk
      rw [if_pos (by decide)] at h
      rcases cellsFrom_mem (names := r) h with h | ⟨h, e⟩
      · rcases List.mem_cons.mp h with e | h
        · cases e; exact .inr ⟨List.mem_cons_self, Nat.le_refl _⟩
        · exact .inl h
      · exact .inr ⟨List.mem_cons_of_mem _ h, by omega⟩
    · have hb : (k == NameKind.cell) = false := by simpa using hk
      rw [hb] at h
      rcases cellsFrom_mem (names := r) h with h | ⟨h, e⟩
      · exact .inl h
      · exact .inr ⟨List.mem_cons_of_mem _ h, e⟩
theorem cellsFrom_acc : ∀ {names : List (Str × NameKind)} {n : Nat} {acc : List (Str × Addr)} {x : Str} {c : Addr}, (x, c) ∈ acc → (x, c) ∈ cellsFrom n names acc
  | [], n, acc, x, c, h => h
  | (m, k) :: r, n, acc, x, c, h => by
    unfold cellsFrom
    split
    · exact cellsFrom_acc (names := r) (List.mem_cons_of_mem _ h)
    · exact cellsFrom_acc (names := r) h
theorem cellsFrom_has : ∀ {names : List (Str × NameKind)} {n : Nat} {acc : List (Str × Addr)} {x : Str}, (x, NameKind.cell) ∈ names → ∃ c, (x, c) ∈ cellsFrom n names acc
  | [], n, acc, x, h => nomatch h
  | (m, k) :: r, n, acc, x, h => by
    unfold cellsFrom
    rcases List.mem_cons.mp h with e | h
    · cases e
      rw [if_pos (by decide)]
      exact ⟨n, cellsFrom_acc (names := r) List.mem_cons_self⟩
    · split
      · exact cellsFrom_has (names := r) h
      · exact cellsFrom_has (names := r) h
theorem pushCells_cell : ∀ {names : List (Str × NameKind)} {h : Heap} {acc : List (Str × Addr)} {x : Str} {c : Addr}, (x, c) ∈ cellsFrom h.objs.size names acc → (x, c) ∈ acc ∨ (pushCells h names).IsCell c none
  | [], h, acc, x, c, m => .inl m
  | (n, k) :: r, h, acc, x, c, m => by
    unfold cellsFrom at m
    unfold pushCells
    split at m
    · rename_i hk
      rw [if_pos hk]
      have m' : (x, c) ∈ cellsFrom (h.push { cls := .type "cell", data := .cell none }).objs.size r ((n, h.objs.size) :: acc) := by rw [Heap.size_push]; exact m
      rcases pushCells_cell (names := r) m' with z | z
      · rcases List.mem_cons.mp z with e | z
        · cases e
          exact .inr ⟨_, pushCells_keeps _ _ _ _ (Heap.get?_push_size _ rfl), rfl⟩
        · exact .inl z
      · exact .inr z
    · rename_i hk
      rw [if_neg hk]
      exact pushCells_cell (names := r) m
theorem cellsFrom_inj : ∀ {names : List (Str × NameKind)} {n : Nat} {acc : List (Str × Addr)}, (∀ x c, (x, c) ∈ acc → c < n) → (∀ x y c, (x, c) ∈ acc → (y, c) ∈ acc → x = y) →
    ∀ x y c, (x, c) ∈ cellsFrom n names acc → (y, c) ∈ cellsFrom n names acc → x = y
  | [], n, acc, lt, inj, x, y, c, h, h' => inj x y c h h'
  | (m, k) :: r, n, acc, lt, inj, x, y, c, h, h' => by
    unfold cellsFrom at h h'
    split at h
    · rename_i hk
      rw [if_pos hk] at h'
      refine cellsFrom_inj (names := r) (n := n + 1) (acc := (m, n) :: acc) (fun x c hm => ?_) (fun x y c hm hm' => ?_) x y c h h'
      · rcases List.mem_cons.mp hm with e | hm
        · cases e; exact Nat.lt_succ_self _
        · exact Nat.lt_succ_of_lt (lt _ _ hm)
      · rcases List.mem_cons.mp hm with e | hm <;> rcases List.mem_cons.mp hm' with e' | hm'
        · cases e; cases e'; rfl
        · cases e; exact absurd (lt _ _ hm') (Nat.lt_irrefl _)
        · cases e'; exact absurd (lt _ _ hm) (Nat.lt_irrefl _)
        · exact inj _ _ _ hm hm'
    · rename_i hk
      rw [if_neg hk] at h'
      exact cellsFrom_inj (names := r) lt inj x y c h h'
theorem lookup_relabel {env : Env} : ∀ {names : List (Str × NameKind)} {x : Str},
    (names.map fun (n, k) => if (k == NameKind.free && env.scope.kind == .function && env.kindOf n == some .cell) then (n, NameKind.cell) else (n, k)).lookup x =
      (names.lookup x).map fun k => if (k == NameKind.free && env.scope.kind == .function && env.kindOf x == some .cell) = true then NameKind.cell else k
  | [], x => rfl
  | (n, k) :: r, x => by
    have ih := @lookup_relabel env r x
    show List.lookup x ((if (k == NameKind.free && env.scope.kind == .function && env.kindOf n == some .cell) = true then (n, NameKind.cell) else (n, k)) :: _) = _
    have e : (if (k == NameKind.free && env.scope.kind == .function && env.kindOf n == some .cell) = true then (n, NameKind.cell) else (n, k)) = (n, if (k == NameKind.free && env.scope.kind == .function && env.kindOf n == some .cell) = true then NameKind.cell else k) := by split <;> rfl
    rw [e, List.lookup_cons, List.lookup_cons]
    cases hx : x == n with
    | true =>
      have hx' := beq_iff_eq.mp hx
      subst hx'
      rfl
    | false => exact ih
structure CompScope (X : Cx) (scope : Scope) (tn cap : List Str) (idx : List Nat) : Prop where
  kind : scope.kind = .function
  nd : (scope.names.map (·.1)).Nodup
  tnd : (tn ++ cap).Nodup
  ct : ∀ y ∈ cap, scope.names.lookup y = some .free
  ci : idx.map (fun i => X.N[i]?) = cap.map some
  fr : ∀ y ∈ scope.names, y.2 = .free → X.env.scope.names.lookup y.1 = some .cell ∨ X.env.scope.names.lookup y.1 = some .free
theorem lookup_nd {α : Type} : ∀ {l : List (Str × α)} {n : Str} {c : α}, (l.map (·.1)).Nodup → (n, c) ∈ l → l.lookup n = some c
  | [], _, _, _, h => nomatch h
  | (k, v) :: r, n, c, nd, h => by
    obtain ⟨h1, h2⟩ := List.nodup_cons.mp nd
    rw [List.lookup_cons]
    rcases List.mem_cons.mp h with e | hm
    · cases e; simp
    · have hne : n ≠ k := fun e => h1 (List.mem_map.mpr ⟨_, hm, e⟩)
      have hb : (n == k) = false := beq_eq_false_iff_ne.mpr hne
      rw [hb]
      exact lookup_nd h2 hm
def caps (σ : St) (idx : List Nat) : St := idx.map fun i => (σ[i]?).getD none
def cbase (k : Nat) (idx : List Nat) (σ : St) : St := List.replicate k none ++ caps σ idx
def cxC (X : Cx) (N' : List Str) (scope : Scope) (cs : List (Str × Addr)) (C : Addr) (fp : List Addr) (s₀ : Shared) (H₀ : Hp) : Cx where
  prog := X.prog
  w := X.w
  K := X.K
  mg := X.mg
  base := X.base
  A := X.A
  N := N'
  s₀ := s₀
  H₀ := H₀
  env := compEnvC scope cs C X.env
  outer := X.stack
  stack := X.stack
  ex := fp
  fn := fun x => scope.names.lookup x == some .local || scope.names.lookup x == some .cell
  calm := X.calm
  pn := []
  xe := fun _ _ => False
theorem wpAny_newEnv_comp {M : Model} {A : Around} {E : Value → Shared → Prop} {s : Shared} {scope : Scope} {globals : Addr} {cl : List (Str × Addr)} {qual : Str} {env0 : Env} {Q : Env → Shared → Prop}
    (hQ : Q { scope := scope, locals := s.heap.objs.size, globals := globals, cells := cellsFrom (s.heap.objs.size + 1) scope.names cl, qual := qual, func := none, code := env0.code, frame := env0.frame, builtins := env0.builtins }
      { s with heap := pushCells (s.heap.push { cls := .type "dict", data := .dict #[] }) scope.names }) :
    wpAny M A (newFunctionEnv scope globals cl [] qual none .none (some env0)) Q E s := by
  simp only [newFunctionEnv, Option.isSome_some, if_true]
  refine wpAny_bind (wpAny_alloc ?_)
  refine wpAny_bind (wpAny_layCells _ (fun name kind cells => by cases hkc : kind == NameKind.cell <;> simp [hkc]) _ _ _ _ ?_)
  rw [show ({ s with heap := s.heap.push { cls := .type "dict", data := .dict #[] } } : Shared).heap.objs.size = s.heap.objs.size + 1 from Heap.size_push ..]
  exact wpAny_bind (wpAny_pure (wpAny_pure hQ))
section
variable {prog : Program} {w : World} {A : Around} {R : Result → Shared → Prop} {s : Shared}
theorem compLoop_any {elt target iter : Expr} {ifs : List Expr} {scope : Scope} {pos : Pos} {it acc : Value} {env : Env} (I : Nat → Shared → Prop)
    (turn : ∀ n s, I n s → wpAny (model prog w) A (pyNext it) (fun r s₁ => match r with
      | none => R (.ok .next) s₁
      | some v => wpAny (model prog w) A (letOwnedTupleGo target it v) (fun _ s₁' => wpAny (model prog w) A (assign target env v) (fun _ s₂ =>
          wpAny (model prog w) A (forIn ifs true fun c r => if r = true then do let ok ← isTrue c env (eval c env); pure (ForInStep.yield ok) else pure (ForInStep.yield r)) (fun ok s₃ =>
            if ok = true then wpAny (model prog w) A (eval elt env) (fun x s₄ =>
              wpAny (model prog w) A (call (.builtin "list.append") [acc, x]) (fun _ s₅ => ∃ m, m < n ∧ I m s₅) (fun _ _ => False) s₄) (fun _ _ => False) s₃
            else ∃ m, m < n ∧ I m s₃) (fun _ _ => False) s₂) (fun _ _ => False) s₁') (fun _ _ => False) s₁) (fun _ _ => False) s)
    (n : Nat) (h : I n s) :
    codeAny (model prog w) A (.compLoop (.ListComp elt [⟨target, iter, ifs, 0⟩] scope pos) 0 it acc env) R s := by
  refine codeAny_loop rfl I (fun n s hI => ?_) n h
  show wpAny _ A ((compTurn (.ListComp elt [⟨target, iter, ifs, 0⟩] scope pos) 0 it acc env).onRaise (fun x => do noteFrame x env; theTreesLotGoes x)) _ _ s
  refine wpAny_noted ?_
  rw [compTurn_list]
  refine wpAny_bind (wpAny_standAt (wpAny_bind (wpAny_mono (turn n s hI) (fun r s₁ h₁ => ?_) fun _ _ h' => h'.elim)))
  cases r with
  | none => exact wpAny_pure h₁
  | some v =>
    refine wpAny_bind (wpAny_mono h₁ (fun _ s₁' h₁' => ?_) fun _ _ h' => h'.elim)
    refine wpAny_bind (wpAny_mono h₁' (fun _ s₂ h₂ => wpAny_bind (wpAny_mono h₂ (fun ok s₃ h₃ => ?_) fun _ _ h' => h'.elim)) fun _ _ h' => h'.elim)
    cases ok with
    | false => exact wpAny_pure ⟨rfl, h₃⟩
    | true =>
      exact wpAny_bind (wpAny_bind (wpAny_mono h₃ (fun x s₄ h₄ => wpAny_bind (wpAny_mono h₄ (fun _ s₅ h₅ => wpAny_pure (wpAny_pure ⟨rfl, h₅⟩)) fun _ _ h' => h'.elim)) fun _ _ h' => h'.elim))
end
section
variable {X : Cx} {pins : List (Addr × Obj)} {σ : St} {H : Hp} {s2 : Shared} {scope : Scope} {tn cap : List Str} {idx : List Nat} {fp : List Addr}
abbrev cObjL : Obj := { cls := .type "list", data := .seq ([] : List Value).toArray }
abbrev cObjF : Obj := { cls := .type "dict", data := .dict #[] }
abbrev cHeap (h : Heap) (scope : Scope) : Heap := pushCells ((h.push cObjL).push cObjF) scope.names
abbrev cCells (X : Cx) (h : Heap) (scope : Scope) : List (Str × Addr) := cellsFrom (h.objs.size + 1 + 1) scope.names (clFrom X.env scope.names [])
theorem caps_get {σ : St} {idx : List Nat} {j : Nat} {v : V} (h : (caps σ idx)[j]? = some (some v)) : ∃ i, idx[j]? = some i ∧ σ[i]? = some (some v) := by
  unfold caps at h
  rw [List.getElem?_map] at h
  cases e : idx[j]? with
  | none => rw [e] at h; cases h
  | some i =>
    rw [e] at h
    have h' : (σ[i]?).getD none = some v := Option.some.inj h
    refine ⟨i, rfl, ?_⟩
    cases q : σ[i]? with
    | none => rw [q] at h'; cases h'
    | some o => rw [q] at h'; have h'' : o = some v := h'; rw [h'']
theorem comp_start (I : Inv X pins σ H s2) (S : CompScope X scope tn cap idx) (hf : ∀ b ∈ fp, FpOk X pins H b) (hfl : ∀ b ∈ fp, b < s2.heap.objs.size) :
    Inv (cxC X (tn ++ cap) scope (cCells X s2.heap scope) (s2.heap.objs.size + 1) fp s2 H) [(s2.heap.objs.size, cObjL)] (cbase tn.length idx σ) H { s2 with heap := cHeap s2.heap scope } := by
  have old : ∀ b o, s2.heap.get? b = some o → (cHeap s2.heap scope).get? b = some o := fun b o e => pushCells_keeps _ _ _ _ (Heap.get?_push_of_some _ (Heap.get?_push_of_some _ e))
  have hsz : ((s2.heap.push cObjL).push cObjF).objs.size = s2.heap.objs.size + 1 + 1 := by rw [Heap.size_push, Heap.size_push]
  have hacc : (cHeap s2.heap scope).get? s2.heap.objs.size = some cObjL := pushCells_keeps _ _ _ _ (Heap.get?_push_of_some _ (Heap.get?_push_size _ rfl))
  have hns : (cHeap s2.heap scope).Ns (s2.heap.objs.size + 1) (fun _ => none) := by
    have e := (Heap.Ns.new (s2.heap.push cObjL) (.type "dict")).keeps (pushCells_keeps scope.names _)
    rw [Heap.size_push] at e
    exact e
  have clm : ∀ x c, (x, c) ∈ clFrom X.env scope.names [] → X.env.cells.lookup x = some c ∧ (x, NameKind.free) ∈ scope.names := fun x c h => by
    rcases clFrom_mem h with z | ⟨z, e⟩
    · nomatch z
    · obtain ⟨d, hd⟩ := I.ok.has x (S.fr _ z rfl)
      rw [hd] at e
      have e' : c = d := e
      subst e'
      exact ⟨hd, z⟩
  have csm : ∀ x c, (x, c) ∈ cCells X s2.heap scope → (X.env.cells.lookup x = some c ∧ (x, NameKind.free) ∈ scope.names) ∨ ((x, NameKind.cell) ∈ scope.names ∧ s2.heap.objs.size + 1 + 1 ≤ c) := fun x c h => by
    rcases cellsFrom_mem h with z | z
    · exact .inl (clm x c z)
    · exact .inr z
  have clt : ∀ x c, X.env.cells.lookup x = some c → c < s2.heap.objs.size := fun x c h => by
    obtain ⟨v, q⟩ := I.cell x c h
    exact q.lt
  have freeK : ∀ x, (x, NameKind.free) ∈ scope.names → scope.names.lookup x = some .free := fun x h => lookup_nd S.nd h
  have cellK : ∀ x, (x, NameKind.cell) ∈ scope.names → scope.names.lookup x = some .cell := fun x h => lookup_nd S.nd h
  refine ⟨⟨I.ok.mod, S.kind, I.ok.glob, I.ok.blt, Nat.le_succ _, fun x y c h1 h2 => ?_, fun x hx => ?_, fun x c hfn h => ?_, I.ok.hd, I.ok.frames, .inl rfl, fun b hb => ⟨?_, fun x c h => ?_⟩, I.bs, Nat.le_trans I.ok.bsz I.sz, fun b o e hb => ?_, fun b hb z => ?_, I.stack, I.stkFree⟩,
    rfl, I.bare, Un.kept old, ⟨_, hns, fun i x v e1 e2 e3 => ?_⟩, fun x c h => ?_, I.hok.fresh (Nat.le_succ _), fun x c h => ?_, fun p hp => ?_, I.hok.kept old, ?_⟩
  · exact cellsFrom_inj (fun x c h => Nat.lt_succ_of_lt (Nat.lt_succ_of_lt (clt x c (clm x c h).1))) (fun x y c h h' => I.ok.inj x y c (clm x c h).1 (clm y c h').1) x y c (PySem.mem_of_lookup h1) (PySem.mem_of_lookup h2)
  · have hx : (relabel scope X.env).names.lookup x = some .cell ∨ (relabel scope X.env).names.lookup x = some .free := hx
    have e := @lookup_relabel X.env scope.names x
    have hk : ∃ k, scope.names.lookup x = some k ∧ (k = .cell ∨ k = .free) := by
      cases q : scope.names.lookup x with
      | none =>
        rw [q] at e
        rcases hx with z | z
        · have z' := e.symm.trans z; cases z'
        · have z' := e.symm.trans z; cases z'
      | some k =>
        rw [q] at e
        refine ⟨k, rfl, ?_⟩
        cases k with
        | cell => exact .inl rfl
        | free => exact .inr rfl
        | _ =>
          exfalso
          rcases hx with z | z
          · have z' := e.symm.trans z; cases z'
          · have z' := e.symm.trans z; cases z'
    obtain ⟨k, hk, hk2⟩ := hk
    have hm := PySem.mem_of_lookup hk
    rcases hk2 with rfl | rfl
    · obtain ⟨c, hc⟩ := cellsFrom_has (n := s2.heap.objs.size + 1 + 1) (acc := clFrom X.env scope.names []) hm
      exact lookup_of_mem hc
    · exact lookup_of_mem (cellsFrom_acc (clFrom_has (env := X.env) (acc := []) hm))
  · rcases csm x c (PySem.mem_of_lookup h) with ⟨_, z⟩ | ⟨_, z⟩
    · have hfn : (scope.names.lookup x == some .local || scope.names.lookup x == some .cell) = true := hfn
      rw [freeK x z] at hfn
      exact absurd hfn (by decide)
    · show s2.heap.objs.size ≤ c
      omega
  · -- b is not the block's frame
    intro z
    have z' : b = s2.heap.objs.size + 1 := z
    exact absurd (hfl b hb) (by rw [z']; exact Nat.not_lt.mpr (Nat.le_succ _))
  · rcases csm x c (PySem.mem_of_lookup h) with ⟨z, _⟩ | ⟨_, z⟩
    · exact (hf b hb).2.2.2.2.1 x c z
    · intro e
      exact absurd (hfl b hb) (by rw [← e]; exact Nat.not_lt.mpr (Nat.le_trans (Nat.le_trans (Nat.le_succ _) (Nat.le_succ _)) z))
  · rcases (hf b hb).2.2.2.1 with z | z
    · exact I.ok.noex b o e z
    · exact absurd (Nat.lt_of_lt_of_le (Heap.lt_size e) (Nat.le_trans I.ok.bsz z)) (Nat.lt_irrefl _)
  · obtain ⟨_, f1, f2, _⟩ := hf b hb
    rcases List.mem_cons.mp (I.stkSub b z) with e | e
    · exact f1 e
    · exact f2 e
  · -- the names
    have e1 : (tn ++ cap)[i]? = some x := e1
    have e2 : (cbase tn.length idx σ)[i]? = some (some v) := e2
    unfold cbase at e2
    by_cases hi : i < tn.length
    · rw [List.getElem?_append_left (by rw [List.length_replicate]; exact hi), List.getElem?_replicate, if_pos hi] at e2
      cases e2
    · rw [List.getElem?_append_right (by rw [List.length_replicate]; omega), List.length_replicate] at e2
      rw [List.getElem?_append_right (by omega)] at e1
      obtain ⟨i0, h1, h2⟩ := caps_get e2
      have hN : X.N[i0]? = some x := by
        have q := congrArg (fun l => l[i - tn.length]?) S.ci
        simp only [List.getElem?_map, h1, e1, Option.map_some] at q
        exact Option.some.inj q
      have hfr := S.ct x (List.mem_of_getElem? e1)
      have hmem := PySem.mem_of_lookup hfr
      have hk := S.fr _ hmem rfl
      obtain ⟨m, hn, hl⟩ := I.loc
      obtain ⟨u, r, l⟩ := hl i0 x v hN h2 (hk.elim (fun z => .inr (.inl z)) fun z => .inr (.inr z))
      refine ⟨u, r, .inr ⟨?_, ?_⟩⟩
      · show (relabel scope X.env).names.lookup x = some .cell ∨ (relabel scope X.env).names.lookup x = some .free
        have e := @lookup_relabel X.env scope.names x
        rw [hfr] at e
        have e' : (relabel scope X.env).names.lookup x = some (if (NameKind.free == NameKind.free && X.env.scope.kind == .function && X.env.kindOf x == some .cell) = true then NameKind.cell else NameKind.free) := e
        rw [e']
        split
        · exact .inl rfl
        · exact .inr rfl
      · rcases l with ⟨hk', _⟩ | ⟨_, c, hc, z⟩
        · exfalso
          have hk' : X.env.scope.names.lookup x = some .local := hk'
          rcases hk with q | q
          · have q : X.env.scope.names.lookup x = some .cell := q
            rw [q] at hk'; cases hk'
          · have q : X.env.scope.names.lookup x = some .free := q
            rw [q] at hk'; cases hk'
        · obtain ⟨d, hd⟩ := lookup_of_mem (cellsFrom_acc (names := scope.names) (n := s2.heap.objs.size + 1 + 1) (clFrom_has (env := X.env) (acc := []) hmem))
          refine ⟨c, ?_, z.keeps old⟩
          rcases csm x d (PySem.mem_of_lookup hd) with ⟨q, _⟩ | ⟨q, _⟩
          · rw [hc] at q; cases q; exact hd
          · have := cellK x q; rw [hfr] at this; cases this
  · have hm : (x, c) ∈ cellsFrom ((s2.heap.push cObjL).push cObjF).objs.size scope.names (clFrom X.env scope.names []) := by rw [hsz]; exact PySem.mem_of_lookup h
    rcases pushCells_cell hm with z | z
    · obtain ⟨v, q⟩ := I.cell x c (clm x c z).1
      exact ⟨v, q.keeps old⟩
    · exact ⟨_, z⟩
  · rcases csm x c (PySem.mem_of_lookup h) with ⟨z, _⟩ | ⟨_, z⟩
    · exact I.freeC x c z
    · exact I.hok.fresh (by omega)
  · have hp' : p ∈ [(s2.heap.objs.size, cObjL)] := hp
    obtain rfl := List.mem_singleton.mp hp'
    refine ⟨hacc, I.hok.fresh (Nat.le_refl _), Nat.ne_of_lt (Nat.lt_succ_self _), fun z => ?_, fun v z => ?_⟩
    · rcases List.mem_cons.mp (I.stkSub _ z) with e | e
      · exact absurd I.lt (by rw [← e]; exact Nat.lt_irrefl _)
      · exact I.nofs (Nat.le_refl _) e
    · have z' : Data.seq _ _ = Data.cell v := z
      cases z'
  · show (cbase tn.length idx σ).length = (tn ++ cap).length
    have := congrArg List.length S.ci
    unfold cbase caps
    simp only [List.length_append, List.length_replicate, List.length_map] at this ⊢
    omega
theorem comp_back {N' : List Str} {cs : List (Str × Addr)} {C D : Addr} {pins' : List (Addr × Obj)} {σ' : St} {H8 : Hp} {s8 : Shared} {vs : List V} {its : List Value} {n : Nat} (I : Inv X pins σ H s2) (hf : ∀ b ∈ fp, FpOk X pins H b)
    (J : Inv (cxC X N' scope cs C fp s2 H) pins' σ' H8 s8) (hD : s2.heap.objs.size ≤ D) (hD8 : H8 D = none) (hget : s8.heap.get? D = some { cls := .type "list", data := .seq its.toArray n }) (r : Vals vs its) (hz : vs.length ≤ sizeLine) :
    Inv X pins σ (upd H8 D (.lst vs)) s8 := by
  have u := J.base
  have hb : ∀ b o, s2.heap.get? b = some o → b ≠ D := fun b o e => Nat.ne_of_lt (Nat.lt_of_lt_of_le (Heap.lt_size e) hD)
  refine I.call' (ch := fp) J.os ⟨u.keep, u.slot, fun b o e n hx => ?_, u.there, fun b xs e => ?_, fun b o xs e => ?_, fun b ps e => ?_⟩ (fun b o e => ?_) J.bare fun b hbf => ?_
  · rw [upd_ne (hb b o e)]; exact u.free b o e n hx
  · have q := u.tups b xs e
    rw [upd_ne (ne_of_none q hD8)]; exact q
  · have q := u.frzs b o xs e
    rw [upd_ne (ne_of_none q hD8)]; exact q
  · obtain ⟨m, q⟩ := u.tbls b ps e
    exact ⟨m, by rw [upd_ne (ne_of_none q hD8)]; exact q⟩
  · by_cases e1 : b = D
    · subst e1
      rw [upd_same] at e
      cases e
      exact ⟨hz, its, n, r, hget⟩
    · rw [upd_ne e1] at e
      exact (J.hok b o e).stay (fun _ _ _ q => q) (fun c q => by rw [upd_ne (ne_of_none q hD8)]; exact q) fun c xs q => by rw [upd_ne (ne_of_none q hD8)]; exact q
  · obtain ⟨_, f1, _, f3, f4, f5⟩ := hf b hbf
    exact ⟨f3, f1, f4, f5⟩
def PTs (X : Cx) (ifs : List Expr) (tt : TT) : Prop :=
  ∀ (pins : List (Addr × Obj)) (s : Shared) (σ : St) (H : Hp) (Q : Bool → Hp → Prop), Inv X pins σ H s → tt σ H Q →
    wpAny (model X.prog X.w) X.A (forIn ifs true fun c r => if r = true then do let ok ← isTrue c X.env (eval c X.env); pure (ForInStep.yield ok) else pure (ForInStep.yield r)) (TP X pins σ Q) X.xe s
def tYes : TT := fun _ H Q => Q true H
theorem pts_nil : PTs X [] tYes := fun _ _ _ H _ I h => wpAny_tests_nil ⟨H, I, h⟩
theorem pts_one {c : Expr} {tc : TT} (h : PT X c tc) : PTs X [c] tc := fun pins s σ H Q I q => wpAny_tests_one (h pins s σ H Q I q)
def tComp (wi : TI) (g : TG) (tt : TT) (te : TE) (k : Nat) (idx : List Nat) : TE := fun σ H Q => wi σ H fun J H1 =>
  ∃ W : Nat → Nat → List V → Hp → Prop, (∃ m, W 0 m [] H1) ∧ ∀ i m vs H, W i m vs H →
    (J.stop i H ∧ vs.length ≤ sizeLine ∧ ∀ p, H p = none → Q (.ref p) (upd H p (.lst vs))) ∨
    (J.go i H ∧ vs.length ≤ sizeLine ∧ ∃ N : List V → Hp → Prop, (∀ vs' H', N vs' H' → ∃ m', m' < m ∧ W (i + 1) m' vs' H') ∧ ∀ x H', J.yld i H x H' → g x (cbase k idx σ) H' fun σ2 H2 => tt σ2 H2 fun b H3 =>
      if b = true then te σ2 H3 fun v H4 => N (vs ++ [v]) H4 else N vs H3)
def GSet (k : Nat) (g : TG) : Prop := ∀ x σ H Q, g x σ H Q → g x σ H fun σ2 H2 => Q σ2 H2 ∧ σ2.length = σ.length ∧ ∀ j, k ≤ j → σ2[j]? = σ[j]?
theorem GSet.name {i k : Nat} (h : i < k) : GSet k (gName i) := fun x σ H Q q => ⟨q, by simp, fun j hj => by rw [List.getElem?_set_ne (by omega)]⟩
theorem cbase_low {k j : Nat} {idx : List Nat} {σ : St} {v : V} (h : (cbase k idx σ)[j]? = some (some v)) : k ≤ j := by
  by_cases hj : j < k
  · unfold cbase at h
    rw [List.getElem?_append_left (by rw [List.length_replicate]; exact hj), List.getElem?_replicate, if_pos hj] at h
    cases h
  · omega
theorem comp_block {elt target iter : Expr} {ifs : List Expr} {pos : Pos} {g : TG} {tt : TT} {te : TE} {E : Value → Shared → Prop} {it : Addr} {tnn : Nat → Heap → Prop} {J : It} {Q : VK} {RR : Value → Addr → Result → Shared → Prop}
    (hcalm : X.calm = true) (S : CompScope X scope tn cap idx) (hgs : GSet tn.length g)
    (hg : ∀ cs C fp s₀ H₀, PG (cxC X (tn ++ cap) scope cs C fp s₀ H₀) target g) (ht : ∀ cs C fp s₀ H₀, PTs (cxC X (tn ++ cap) scope cs C fp s₀ H₀) ifs tt)
    (he : ∀ cs C fp s₀ H₀, PE (cxC X (tn ++ cap) scope cs C fp s₀ H₀) elt te)
    (I : Inv X pins σ H s2) (T : Turn X.prog X.w X.K target J fp it tnn) (st2 : tnn 0 s2.heap) (f2 : ∀ b ∈ fp, FpOk X pins H b)
    (hW : ∃ W : Nat → Nat → List V → Hp → Prop, (∃ m, W 0 m [] H) ∧ ∀ i m vs H, W i m vs H →
      (J.stop i H ∧ vs.length ≤ sizeLine ∧ ∀ p, H p = none → Q (.ref p) (upd H p (.lst vs))) ∨
      (J.go i H ∧ vs.length ≤ sizeLine ∧ ∃ N : List V → Hp → Prop, (∀ vs' H', N vs' H' → ∃ m', m' < m ∧ W (i + 1) m' vs' H') ∧ ∀ x H', J.yld i H x H' → g x (cbase tn.length idx σ) H' fun σ2 H2 => tt σ2 H2 fun b H3 =>
        if b = true then te σ2 H3 fun v H4 => N (vs ++ [v]) H4 else N vs H3))
    (hRR : ∀ (s8 : Shared) (H8 : Hp) (C D : Addr) (m : Str → Option Value), Inv X pins σ H8 s8 → s8.heap.Ns C m → H8 C = none → s2.heap.objs.size ≤ C → Q (.ref D) H8 → RR (.ref D) C (.ok .next) s8) :
    wpAny (model X.prog X.w) X.A (newList []) (fun acc s₃ => wpAny (model X.prog X.w) X.A (newFunctionEnv scope X.env.globals (clFrom X.env scope.names []) [] X.env.qual none .none (some X.env)) (fun cenv s₄ =>
      codeAny (model X.prog X.w) X.A (.compStart (.ListComp elt [⟨target, iter, ifs, 0⟩] scope pos) 0 (.ref it) acc { cenv with scope := relabel scope X.env }) (RR acc cenv.locals) s₄) E s₃) E s2 := by
  obtain ⟨W, ⟨m0, w0⟩, turn⟩ := hW
  have hfl : ∀ b ∈ fp, b < s2.heap.objs.size := fun b hb => by
    obtain ⟨o, e, _⟩ := T.obj _ _ st2 b hb
    exact Heap.lt_size e
  have I4 := comp_start I S f2 hfl
  refine wpAny_newObj_type (wpAny_newEnv_comp ?_)
  have e1 : ({ s2 with heap := s2.heap.push cObjL } : Shared).heap.objs.size = s2.heap.objs.size + 1 := Heap.size_push ..
  rw [e1]
  generalize hX' : cxC X (tn ++ cap) scope (cCells X s2.heap scope) (s2.heap.objs.size + 1) fp s2 H = X' at I4
  have hA : X'.A = X.A := by subst hX'; rfl
  have hprog : X'.prog = X.prog := by subst hX'; rfl
  have hw : X'.w = X.w := by subst hX'; rfl
  have hK : X'.K = X.K := by subst hX'; rfl
  have hcal : X'.calm = true := by subst hX'; exact hcalm
  have hxe : X'.xe = fun _ _ => False := by subst hX'; rfl
  have hloc : X'.env.locals = s2.heap.objs.size + 1 := by subst hX'; rfl
  have hpn : X'.pn = [] := by subst hX'; rfl
  have hex : X'.ex = fp := by subst hX'; rfl
  have hs0 : X'.s₀ = s2 := by subst hX'; rfl
  have hg' : PG X' target g := by subst hX'; exact hg _ _ _ _ _
  have ht' : PTs X' ifs tt := by subst hX'; exact ht _ _ _ _ _
  have he' : PE X' elt te := by subst hX'; exact he _ _ _ _ _
  have henv : X'.env = { scope := relabel scope X.env, locals := s2.heap.objs.size + 1, globals := X.env.globals, cells := cCells X s2.heap scope, qual := X.env.qual, func := none, code := X.env.code, frame := X.env.frame, builtins := X.env.builtins } := by subst hX'; rfl
  let lo : List Value → Nat → Obj := fun its n => { cls := .type "list", data := .seq its.toArray n }
  have stat : ∀ {H' : Hp} {pl : List (Addr × Obj)}, (∀ b ∈ fp, H' b = none) → (∀ p ∈ pl, p.1 ∉ fp) → ∀ b ∈ fp, FpOk X' pl H' b := fun {H' pl} hn hp b hb => by
    have q := I4.ok.exf b (by rw [hex]; exact hb)
    have q2 := I4.ok.exfs b (by rw [hex]; exact hb)
    refine ⟨hn b hb, q.1, q2, .inl (by rw [hex]; exact hb), q.2, fun p hp' z => ?_⟩
    rw [hpn] at hp'
    exact hp p hp' (by rw [z]; exact hb)
  have Dfp : s2.heap.objs.size ∉ fp := fun z => Nat.lt_irrefl _ (hfl _ z)
  have D1 : ∀ (o : Obj), ∀ p ∈ [((s2.heap.objs.size : Addr), o)], p.1 ∉ fp := fun o p hp => by
    obtain rfl := List.mem_singleton.mp hp
    exact Dfp
  have loop : ∀ s3 : Shared, s3 = { s2 with heap := cHeap s2.heap scope } →
      codeAny (model X.prog X.w) X.A (.compLoop (.ListComp elt [⟨target, iter, ifs, 0⟩] scope pos) 0 (.ref it) (.ref s2.heap.objs.size) X'.env) (RR (.ref s2.heap.objs.size) (s2.heap.objs.size + 1)) s3 := by
    intro s3 hs3
    subst hs3
    refine compLoop_any (fun n s' => ∃ i vs its nn σ' H', Inv X' [(s2.heap.objs.size, lo its nn)] σ' H' s' ∧ (∀ (j : Nat) v, (cbase tn.length idx σ)[j]? = some (some v) → σ'[j]? = some (some v)) ∧ σ'.length = (cbase tn.length idx σ).length ∧ tnn i s'.heap ∧ (∀ b ∈ fp, H' b = none) ∧ Vals vs its ∧ W i n vs H') ?_ m0
      ⟨0, [], [], 0, _, H, I4, fun _ _ z => z, rfl, T.keep _ _ _ st2 (fun b hb o e => pushCells_keeps _ _ _ _ (Heap.get?_push_of_some _ (Heap.get?_push_of_some _ e))), fun b hb => (f2 b hb).1, .nil, w0⟩
    rintro n s' ⟨i, vs, its, nn, σ', H', I', hσ, hσl, st', fr', rv, w'⟩
    have I5 : Inv X' [(s2.heap.objs.size, lo its nn)] (cbase tn.length idx σ) H' s' := I'.weak hσl.symm hσ
    rcases turn i n vs H' w' with ⟨stop, hz, q⟩ | ⟨go, hz, N, hN, step⟩
    · -- it ends
      have td := T.done X' hprog hw hK hcal i _ s' _ H' (fun _ _ => False) I5 (stat fr' (D1 _)) st' stop
      rw [hA] at td
      refine thn td fun r s8 ⟨hr, I8⟩ => ?_
      subst hr
      obtain ⟨hp1, hp2, _⟩ := I8.pin (s2.heap.objs.size, lo its nn) (by rw [hpn]; exact List.mem_singleton.mpr rfl)
      have J8 : Inv X pins σ (upd H' s2.heap.objs.size (.lst vs)) s8 := by
        subst hX'
        exact comp_back I f2 I8 (Nat.le_refl _) hp2 hp1 rv hz
      obtain ⟨m, hm, _⟩ := I8.loc
      rw [hloc] at hm
      have hCf : H' (s2.heap.objs.size + 1) = none := by have := I8.free; rw [hloc] at this; exact this
      refine hRR s8 _ _ _ m J8 hm ?_ (Nat.le_succ _) (q _ hp2)
      rw [upd_ne (Nat.ne_of_gt (Nat.lt_succ_self _))]
      exact hCf
    · -- a turn
      have ti := T.item X' hprog hw hK hcal i _ s' _ H' (fun _ _ => False) I5 (stat fr' (D1 _)) st' go
      rw [hA] at ti
      refine thn ti fun r s5 ⟨u, hr, h5⟩ => ?_
      subst hr
      refine thn h5 fun _ s6 ⟨x, H6, I6, r6, y6, st6, fr6⟩ => ?_
      have I6' := I6.pinned (stat fr6 (D1 _)) (T.obj _ _ st6)
      have ag := hg' _ s6 _ H6 x u _ I6' r6 (hgs _ _ _ _ (step x H6 y6))
      rw [hprog, hw, hA, hxe] at ag
      refine thn ag fun _ s7 ⟨σ7, H7, I7, q7, hl7, hj7⟩ => ?_
      have at7 := ht' _ s7 σ7 H7 _ I7 q7
      rw [hprog, hw, hA, hxe] at at7
      refine thn at7 fun b s8 ⟨H8, I8, q8⟩ => ?_
      have again : ∀ {s9 : Shared} {H9 : Hp} {vs9 : List V} {its9 : List Value} {n9 : Nat}, Inv X' ([(s2.heap.objs.size, lo its9 n9)] ++ pinsAt fp s6.heap) σ7 H9 s9 → Vals vs9 its9 → N vs9 H9 →
          ∃ m, m < n ∧ ∃ i vs its nn σ' H', Inv X' [(s2.heap.objs.size, lo its nn)] σ' H' s9 ∧ (∀ (j : Nat) v, (cbase tn.length idx σ)[j]? = some (some v) → σ'[j]? = some (some v)) ∧ σ'.length = (cbase tn.length idx σ).length ∧ tnn i s9.heap ∧ (∀ b ∈ fp, H' b = none) ∧ Vals vs its ∧ W i m vs H' := by
        intro s9 H9 vs9 its9 n9 I9 r9 n9'
        obtain ⟨m', hm', w9⟩ := hN _ _ n9'
        refine ⟨m', hm', i + 1, vs9, its9, n9, σ7, H9, I9.unpinned, fun j v e => by rw [hj7 j (cbase_low e)]; exact e, hl7, T.keep _ _ _ st6 fun b hb o e => (I9.pin (b, o) (List.mem_append_right _ (List.mem_append_right _ (mem_pinsAt hb e)))).1, fun b hb => ?_, r9, w9⟩
        obtain ⟨o, e, d⟩ := T.obj _ _ st6 b hb
        exact (I9.pin (b, o) (List.mem_append_right _ (List.mem_append_right _ (mem_pinsAt hb e)))).2.1
      cases b with
      | false =>
        exact again I8 rv q8
      | true =>
        have ae := he' _ s8 σ7 H8 _ I8 q8
        rw [hprog, hw, hA, hxe] at ae
        refine thn ae fun xv s9 ⟨v9, H9, I9, r9, q9⟩ => ?_
        obtain ⟨hp1, hp2, hp3, hp4, _⟩ := I9.pin (s2.heap.objs.size, lo its nn) (List.mem_append_right _ (List.mem_append_left _ (List.mem_singleton.mpr rfl)))
        have rvl := rv.length
        refine append_at (hsz := by rw [List.size_toArray]; omega) hp1 fun h' hs' ho' => ?_
        have nfp : ∀ p ∈ pinsAt fp s6.heap, p.1 ≠ s2.heap.objs.size := fun p hp z => Dfp (by rw [← z]; exact (of_pinsAt hp).1)
        have I10 : Inv X' (pinsAt fp s6.heap) σ7 H9 s9 := I9.pins_of fun p hp => I9.pin p (List.mem_append_right _ (List.mem_append_right _ hp))
        have I11 : Inv X' (pinsAt fp s6.heap) σ7 H9 { s9 with heap := h' } := I10.turned (t' := s9.toks) (it := s2.heap.objs.size) (fun b o hb e => hs'.extBut b o hb e) hp2 hp3 (.inr (by rw [hs0]; exact Nat.le_refl _))
          (fun x c e z => by
            obtain ⟨v, o, q1, q2⟩ := I9.cell x c e
            rw [z, hp1] at q1
            cases q1
            cases q2) (fun p hp => by rw [hpn] at hp; exact nfp p hp)
        have eo : ({ cls := .type "list", data := .seq (its.toArray.push xv) (nn + 1) } : Obj) = lo (its ++ [xv]) (nn + 1) := by
          show ({ cls := .type "list", data := .seq (its.toArray.push xv) (nn + 1) } : Obj) = { cls := .type "list", data := .seq (its ++ [xv]).toArray (nn + 1) }
          rw [List.push_toArray]
        refine again (vs9 := vs ++ [v9]) (its9 := its ++ [xv]) (n9 := nn + 1) (I11.pins_of fun p hp => ?_) (rv.append (.cons r9 .nil)) q9
        rcases List.mem_append.mp hp with hp | hp
        · obtain rfl := List.mem_singleton.mp hp
          refine ⟨ho'.trans (congrArg some eo), hp2, hp3, hp4, fun v z => ?_⟩
          have z' : Data.seq _ _ = Data.cell v := z
          cases z'
        · exact I11.pin p (List.mem_append_right _ hp)
  refine codeAny_compStart_list ?_ ?_
  · have := loop _ rfl
    rw [henv] at this
    exact this
  · refine T.self _ 0 _ _ _ (T.keep _ _ _ st2 (fun b hb o e => pushCells_keeps _ _ _ _ (Heap.get?_push_of_some _ (Heap.get?_push_of_some _ e)))) ?_
    have := loop _ rfl
    rw [henv] at this
    exact this
theorem clos_eq (I : Inv X pins σ H s2) (S : CompScope X scope tn cap idx) : closureFor scope X.env = pure (clFrom X.env scope.names []) :=
  closureFor_eq fun n hm => I.ok.has n (S.fr _ hm rfl)
theorem names_ok (S : CompScope X scope tn cap idx) : ∀ x ∈ scope.names, x.2 = .local → scope.names.lookup x.1 = some .local := fun x hx e => by
  obtain ⟨n, k⟩ := x
  have e' : k = NameKind.local := e
  subst e'
  exact lookup_nd S.nd hx
theorem pe_comp {elt target iter : Expr} {ifs : List Expr} {pos : Pos} {wi : TI} {g : TG} {tt : TT} {te : TE} (hcalm : X.calm = true) (S : CompScope X scope tn cap idx) (hi : PI X target iter wi) (hgs : GSet tn.length g)
    (hg : ∀ cs C fp s₀ H₀, PG (cxC X (tn ++ cap) scope cs C fp s₀ H₀) target g) (ht : ∀ cs C fp s₀ H₀, PTs (cxC X (tn ++ cap) scope cs C fp s₀ H₀) ifs tt)
    (he : ∀ cs C fp s₀ H₀, PE (cxC X (tn ++ cap) scope cs C fp s₀ H₀) elt te) (hs : ∀ x, foldedSetIterable iter X.env x = pure x := by intro _; rfl) :
    PE X (.ListComp elt [⟨target, iter, ifs, 0⟩] scope pos) (tComp wi g tt te tn.length idx) := by
  intro pins s σ H Q I h
  rw [eval_ListComp]
  refine wpAny_comprehension_free (use := none) rfl hs (clos_eq I S) S.kind (names_ok S) (thn (hi pins s σ H _ I h) fun v s1 h1 => thn h1 fun itv s2 h2 => ?_)
  obtain ⟨it, fp, tnn, J, H2, e, I2, T, st2, f2, hW⟩ := h2
  subst e
  refine comp_block hcalm S hgs hg ht he I2 T st2 f2 hW fun s8 H8 C D m I8 hm hC hsz q => ?_
  refine ⟨m, hm, fun h' hs' => ⟨.ref D, H8, ?_, rfl, q⟩⟩
  exact I8.turned (t' := s8.toks) (it := C) (fun b o hb e => hs'.extBut b o hb e) hC (fun z => absurd I2.lt (by rw [← z]; exact Nat.not_lt.mpr hsz)) (.inr (Nat.le_trans I2.sz hsz))
    (fun x c e z => by
      obtain ⟨v, q⟩ := I2.cell x c e
      exact absurd q.lt (by rw [z]; exact Nat.not_lt.mpr hsz)) (fun p hp z => absurd (Heap.lt_size (I2.pin p hp).1) (by rw [z]; exact Nat.not_lt.mpr hsz))
theorem ps_setC {elt target iter : Expr} {ifs : List Expr} {pos spos py : Pos} {wi : TI} {g : TG} {tt : TT} {te : TE} {i : Nat} {y : Str} (hcalm : X.calm = true) (S : CompScope X scope tn cap idx) (hN : X.N.Nodup) (hy : X.N[i]? = some y) (hx : Loc X.env.scope y)
    (hi : PI X target iter wi) (hgs : GSet tn.length g)
    (hg : ∀ cs C fp s₀ H₀, PG (cxC X (tn ++ cap) scope cs C fp s₀ H₀) target g) (ht : ∀ cs C fp s₀ H₀, PTs (cxC X (tn ++ cap) scope cs C fp s₀ H₀) ifs tt)
    (he : ∀ cs C fp s₀ H₀, PE (cxC X (tn ++ cap) scope cs C fp s₀ H₀) elt te)
    (hsw : swapsWith (.ListComp elt [⟨target, iter, ifs, 0⟩] scope pos) (some (.Name y py)) spos.line X.env = pure true := by rfl) (hs : ∀ x, foldedSetIterable iter X.env x = pure x := by intro _; rfl)
    (hf : X.fn y = true ∨ X.env.scope.names.lookup y = some .local := by first | exact .inl rfl | exact .inr rfl | assumption) :
    PS X (.Assign [.Name y py] (.ListComp elt [⟨target, iter, ifs, 0⟩] scope pos) spos) (tAsg (tComp wi g tt te tn.length idx) (gName i)) := by
  intro pins s σ H D I h
  rw [exec_Assign_Name_used _ _ _ _ hsw]
  refine wpAny_bind (wpAny_standAt (wpAny_bind ?_))
  show wpAny _ X.A (do let _ ← comprehension (.ListComp elt [⟨target, iter, ifs, 0⟩] scope pos) scope X.env _ (newList []) false (eval iter X.env) (some (assign (.Name y py) X.env))) _ _ s
  refine wpAny_bind (wpAny_mono (wpAny_comprehension_free (use := some (assign (.Name y py) X.env)) (Q := fun _ s' => SP X pins D .next s') rfl hs (clos_eq I S) S.kind (names_ok S)
    (thn (hi pins s σ H _ I h) fun v s1 h1 => thn h1 fun itv s2 h2 => ?_)) (fun _ s' hq => wpAny_pure (wpAny_pure hq)) fun _ _ e => e)
  obtain ⟨it, fp, tnn, J, H2, e, I2, T, st2, f2, hW⟩ := h2
  subst e
  refine comp_block (Q := fun x H1 => gName i x σ H1 D.nx) hcalm S hgs hg ht he I2 T st2 f2 hW fun s8 H8 C DD m I8 hm hC hsz q => ?_
  show wpAny _ X.A (assign (.Name y py) X.env (.ref DD)) _ _ _
  have CL : C ≠ X.env.locals := fun z => absurd I2.lt (by rw [← z]; exact Nat.not_lt.mpr hsz)
  have CC : ∀ x c, X.env.cells.lookup x = some c → c ≠ C := fun x c e z => by
    obtain ⟨v, q⟩ := I2.cell x c e
    exact absurd q.lt (by rw [z]; exact Nat.not_lt.mpr hsz)
  refine wpAny_assign_Name (store_ok2 (v := .ref DD) I8 hN hy hx rfl (fun s9 I9 ⟨a, hsb, ha⟩ => ?_) hf)
  have aC : C ≠ a := fun z => by
    rcases ha with e | e
    · exact CL (z.trans e)
    · exact CC _ _ e z.symm
  refine ⟨m, hm.sameBut hsb aC, fun h' hs' => ⟨_, H8, ?_, q⟩⟩
  exact I9.turned (t' := s9.toks) (it := C) (fun b o hb e => hs'.extBut b o hb e) hC CL (.inr (Nat.le_trans I2.sz hsz)) CC (fun p hp z => absurd (Heap.lt_size (I2.pin p hp).1) (by rw [z]; exact Nat.not_lt.mpr hsz))
end
def CompGo (J : It) (g : TG) (te : TE) (k : Nat) (idx : List Nat) (σ : St) (H1 : Hp) (Q : VK) : Prop :=
  ∃ W : Nat → Nat → List V → Hp → Prop, (∃ m, W 0 m [] H1) ∧ ∀ i m vs H, W i m vs H →
    (J.stop i H ∧ vs.length ≤ sizeLine ∧ ∀ p, H p = none → Q (.ref p) (upd H p (.lst vs))) ∨
    (J.go i H ∧ vs.length ≤ sizeLine ∧ ∃ N : List V → Hp → Prop, (∀ vs' H', N vs' H' → ∃ m', m' < m ∧ W (i + 1) m' vs' H') ∧ ∀ x H', J.yld i H x H' → g x (cbase k idx σ) H' fun σ2 H2 => te σ2 H2 fun v H4 => N (vs ++ [v]) H4)
def tComp0 (wi : TI) (g : TG) (te : TE) (k : Nat) (idx : List Nat) : TE := fun σ H Q => wi σ H fun J H1 => CompGo J g te k idx σ H1 Q
theorem tComp0_eq {wi : TI} {g : TG} {te : TE} {k : Nat} {idx : List Nat} : tComp0 wi g te k idx = tComp wi g tYes te k idx := by
  have e : ∀ (A B : Prop), (if true = true then A else B) = A := fun A B => if_pos rfl
  unfold tComp0 CompGo tComp tYes
  simp only [if_true]
section
variable {X : Cx} {scope : Scope} {tn cap : List Str} {idx : List Nat}
theorem pe_comp0 {elt target iter : Expr} {pos : Pos} {wi : TI} {g : TG} {te : TE} (S : CompScope X scope tn cap idx) (hi : PI X target iter wi) (hgs : GSet tn.length g)
    (hg : ∀ cs C fp s₀ H₀, PG (cxC X (tn ++ cap) scope cs C fp s₀ H₀) target g)
    (he : ∀ cs C fp s₀ H₀, PE (cxC X (tn ++ cap) scope cs C fp s₀ H₀) elt te) (hcalm : X.calm = true := by rfl) (hs : ∀ x, foldedSetIterable iter X.env x = pure x := by intro _; rfl) :
    PE X (.ListComp elt [⟨target, iter, [], 0⟩] scope pos) (tComp0 wi g te tn.length idx) := by
  rw [tComp0_eq]
  exact pe_comp hcalm S hi hgs hg (fun _ _ _ _ _ => pts_nil) he hs
theorem ps_setC0 {elt target iter : Expr} {pos spos py : Pos} {wi : TI} {g : TG} {te : TE} {i : Nat} {y : Str} (S : CompScope X scope tn cap idx) (hN : X.N.Nodup) (hy : X.N[i]? = some y) (hx : Loc X.env.scope y)
    (hi : PI X target iter wi) (hgs : GSet tn.length g)
    (hg : ∀ cs C fp s₀ H₀, PG (cxC X (tn ++ cap) scope cs C fp s₀ H₀) target g)
    (he : ∀ cs C fp s₀ H₀, PE (cxC X (tn ++ cap) scope cs C fp s₀ H₀) elt te) (hcalm : X.calm = true := by rfl)
    (hsw : swapsWith (.ListComp elt [⟨target, iter, [], 0⟩] scope pos) (some (.Name y py)) spos.line X.env = pure true := by rfl) (hs : ∀ x, foldedSetIterable iter X.env x = pure x := by intro _; rfl)
    (hf : X.fn y = true ∨ X.env.scope.names.lookup y = some .local := by first | exact .inl rfl | exact .inr rfl | assumption) :
    PS X (.Assign [.Name y py] (.ListComp elt [⟨target, iter, [], 0⟩] scope pos) spos) (tAsg (tComp0 wi g te tn.length idx) (gName i)) := by
  rw [tComp0_eq]
  exact ps_setC hcalm S hN hy hx hi hgs hg (fun _ _ _ _ _ => pts_nil) he hsw hs hf
end
end L2
set_option Elab.async false
set_option linter.all false
set_option maxRecDepth 100000
set_option maxHeartbeats 4000000
namespace L2
open PySem PySem.Spec PyProof.Rows
inductive D where
  | non | bl (b : Bool) | int (i : Int) | str (x : Str) | lst (ds : List D) | tup (ds : List D)
mutual
def Rf (H : Hp) : D → V → List Addr → Prop
  | .non, v, fp => v = .non ∧ fp = []
  | .bl b, v, fp => v = .bl b ∧ fp = []
  | .int i, v, fp => v = .int i ∧ fp = []
  | .str x, v, fp => v = .str x ∧ fp = []
  | .lst ds, v, fp => ∃ a xs fq, v = .ref a ∧ H a = some (.lst xs) ∧ fp = a :: fq ∧ Rfs H ds xs fq
  | .tup ds, v, fp => ∃ a xs, v = .ref a ∧ H a = some (.tup xs) ∧ Rfs H ds xs fp
def Rfs (H : Hp) : List D → List V → List Addr → Prop
  | [], xs, fp => xs = [] ∧ fp = []
  | d :: ds, xs, fp => ∃ x r f1 f2, xs = x :: r ∧ fp = f1 ++ f2 ∧ Rf H d x f1 ∧ Rfs H ds r f2
end
def Rp (H : Hp) (d : D) (v : V) : Prop := ∃ fp, Rf H d v fp
mutual
theorem Rf.mono {H H' : Hp} : ∀ {d : D} {v : V} {fp : List Addr}, Rf H d v fp → (∀ a ∈ fp, ∀ o, H a = some o → H' a = some o) → (∀ a xs, H a = some (.tup xs) → H' a = some (.tup xs)) → Rf H' d v fp
  | .non, _, _, h, _, _ => h
  | .bl _, _, _, h, _, _ => h
  | .int _, _, _, h, _, _ => h
  | .str _, _, _, h, _, _ => h
  | .lst ds, v, fp, h, k, t => by
    obtain ⟨a, xs, fq, e1, e2, e3, h⟩ := h
    subst e3
    exact ⟨a, xs, fq, e1, k a List.mem_cons_self _ e2, rfl, Rfs.mono h (fun b hb => k b (List.mem_cons_of_mem _ hb)) t⟩
  | .tup ds, v, fp, h, k, t => by
    obtain ⟨a, xs, e1, e2, h⟩ := h
    exact ⟨a, xs, e1, t a xs e2, Rfs.mono h k t⟩
theorem Rfs.mono {H H' : Hp} : ∀ {ds : List D} {vs : List V} {fp : List Addr}, Rfs H ds vs fp → (∀ a ∈ fp, ∀ o, H a = some o → H' a = some o) → (∀ a xs, H a = some (.tup xs) → H' a = some (.tup xs)) → Rfs H' ds vs fp
  | [], _, _, h, _, _ => h
  | d :: ds, vs, fp, h, k, t => by
    obtain ⟨x, r, f1, f2, e1, e2, h1, h2⟩ := h
    subst e2
    exact ⟨x, r, f1, f2, e1, rfl, Rf.mono h1 (fun b hb => k b (List.mem_append_left _ hb)) t, Rfs.mono h2 (fun b hb => k b (List.mem_append_right _ hb)) t⟩
end
mutual
theorem Rf.dom {H : Hp} : ∀ {d : D} {v : V} {fp : List Addr}, Rf H d v fp → ∀ a ∈ fp, ∃ xs, H a = some (.lst xs)
  | .non, _, _, h, a, ha => by obtain ⟨_, rfl⟩ := h; nomatch ha
  | .bl _, _, _, h, a, ha => by obtain ⟨_, rfl⟩ := h; nomatch ha
  | .int _, _, _, h, a, ha => by obtain ⟨_, rfl⟩ := h; nomatch ha
  | .str _, _, _, h, a, ha => by obtain ⟨_, rfl⟩ := h; nomatch ha
  | .lst ds, v, fp, h, b, hb => by
    obtain ⟨a, xs, fq, e1, e2, e3, h⟩ := h
    subst e3
    rcases List.mem_cons.mp hb with e | hb
    · subst e; exact ⟨xs, e2⟩
    · exact Rfs.dom h b hb
  | .tup ds, v, fp, h, b, hb => by
    obtain ⟨a, xs, e1, e2, h⟩ := h
    exact Rfs.dom h b hb
theorem Rfs.dom {H : Hp} : ∀ {ds : List D} {vs : List V} {fp : List Addr}, Rfs H ds vs fp → ∀ a ∈ fp, ∃ xs, H a = some (.lst xs)
  | [], _, _, h, a, ha => by obtain ⟨_, rfl⟩ := h; nomatch ha
  | d :: ds, vs, fp, h, b, hb => by
    obtain ⟨x, r, f1, f2, e1, e2, h1, h2⟩ := h
    subst e2
    rcases List.mem_append.mp hb with hb | hb
    · exact Rf.dom h1 b hb
    · exact Rfs.dom h2 b hb
end
theorem Rf.upd {H : Hp} {d : D} {v : V} {fp : List Addr} {l : Addr} {o : HO} (h : Rf H d v fp) (hl : l ∉ fp) (hm : ∀ xs, H l ≠ some (.tup xs)) : Rf (upd H l o) d v fp :=
  h.mono (fun a ha u e => by rw [upd_ne (fun z => hl (by rw [← z]; exact ha))]; exact e) fun a xs e => by rw [upd_ne (fun z => hm xs (by rw [← z]; exact e))]; exact e
theorem Rfs.length {H : Hp} : ∀ {ds : List D} {vs : List V} {fp : List Addr}, Rfs H ds vs fp → vs.length = ds.length
  | [], _, _, h => by obtain ⟨rfl, _⟩ := h; rfl
  | d :: ds, vs, fp, h => by
    obtain ⟨x, r, f1, f2, e1, e2, h1, h2⟩ := h
    subst e1
    rw [List.length_cons, List.length_cons, Rfs.length h2]
theorem Rfs.get {H : Hp} : ∀ {ds : List D} {vs : List V} {fp : List Addr} {i : Nat} {d : D}, Rfs H ds vs fp → ds[i]? = some d → ∃ v f, vs[i]? = some v ∧ Rf H d v f ∧ (∀ a ∈ f, a ∈ fp)
  | [], _, _, _, _, _, e => by simp at e
  | d :: ds, vs, fp, 0, d', h, e => by
    obtain ⟨x, r, f1, f2, rfl, rfl, h1, h2⟩ := h
    simp at e; subst e
    exact ⟨x, f1, rfl, h1, fun a ha => List.mem_append_left _ ha⟩
  | d :: ds, vs, fp, i + 1, d', h, e => by
    obtain ⟨x, r, f1, f2, rfl, rfl, h1, h2⟩ := h
    obtain ⟨v, f, e1, h3, k⟩ := Rfs.get (i := i) h2 (by simpa using e)
    exact ⟨v, f, by simpa using e1, h3, fun a ha => List.mem_append_right _ (k a ha)⟩
abbrev dI (xs : List Int) : D := .lst (xs.map D.int)
abbrev dT (t : List (List Int)) : D := .lst (t.map dI)
theorem Rfs.ints {H : Hp} : ∀ {xs : List Int} {vs : List V} {fp : List Addr}, Rfs H (xs.map D.int) vs fp ↔ vs = xs.map V.int ∧ fp = []
  | [], vs, fp => Iff.rfl
  | x :: xs, vs, fp => by
    constructor
    · rintro ⟨y, r, f1, f2, rfl, rfl, ⟨rfl, rfl⟩, h⟩
      obtain ⟨rfl, rfl⟩ := Rfs.ints.mp h
      exact ⟨rfl, rfl⟩
    · rintro ⟨rfl, rfl⟩
      exact ⟨_, _, [], [], rfl, rfl, ⟨rfl, rfl⟩, Rfs.ints.mpr ⟨rfl, rfl⟩⟩
theorem Rf.row {H : Hp} {xs : List Int} {v : V} {fp : List Addr} : Rf H (dI xs) v fp ↔ ∃ a, v = .ref a ∧ H a = some (.lst (xs.map V.int)) ∧ fp = [a] := by
  constructor
  · rintro ⟨a, ys, fq, rfl, e, rfl, h⟩
    obtain ⟨rfl, rfl⟩ := Rfs.ints.mp h
    exact ⟨a, rfl, e, rfl⟩
  · rintro ⟨a, rfl, e, rfl⟩
    exact ⟨a, _, [], rfl, e, rfl, Rfs.ints.mpr ⟨rfl, rfl⟩⟩
theorem Rp.row {H : Hp} {xs : List Int} {v : V} : Rp H (dI xs) v ↔ ∃ a, v = .ref a ∧ H a = some (.lst (xs.map V.int)) := by
  constructor
  · rintro ⟨fp, h⟩
    obtain ⟨a, h1, h2, _⟩ := Rf.row.mp h
    exact ⟨a, h1, h2⟩
  · rintro ⟨a, h1, h2⟩
    exact ⟨[a], Rf.row.mpr ⟨a, h1, h2, rfl⟩⟩
inductive Rows (H : Hp) : List (List Int) → List Addr → Prop where
  | nil : Rows H [] []
  | cons {xs : List Int} {t : List (List Int)} {a : Addr} {as : List Addr} : H a = some (.lst (xs.map V.int)) → Rows H t as → Rows H (xs :: t) (a :: as)
theorem Rows.length {H : Hp} {t : List (List Int)} {as : List Addr} (h : Rows H t as) : as.length = t.length := by
  induction h with
  | nil => rfl
  | cons _ _ ih => rw [List.length_cons, List.length_cons, ih]
theorem Rows.mono {H H' : Hp} {t : List (List Int)} {as : List Addr} (h : Rows H t as) (k : ∀ a ∈ as, ∀ o, H a = some o → H' a = some o) : Rows H' t as := by
  induction h with
  | nil => exact .nil
  | cons e _ ih => exact .cons (k _ List.mem_cons_self _ e) (ih fun a ha => k a (List.mem_cons_of_mem _ ha))
end L2
set_option Elab.async false
set_option linter.all false
set_option maxRecDepth 100000
set_option maxHeartbeats 4000000
namespace L2
open PySem PySem.Spec PyProof.Rows
section
variable {X : Cx}
theorem call_isinst : CallR X (.builtin "isinstance") (fun xs H Q => ∃ x n t b, xs = [x, .ty n] ∧ TyOf X.K H x t ∧ PySem.W.kitOne X.K t (.type n) = some b ∧ Q (.bl b) H) := by
  intro pins s σ H xs us Q I r h
  obtain ⟨x, n, t, b, rfl, ty, e, q⟩ := h
  obtain ⟨u, w', rfl, rx, rn⟩ := vals2 r
  obtain rfl : w' = Value.type n := rn
  exact isinst_ok I rx ty e fun tk => ⟨.bl b, H, I.tok _, rfl, q⟩
theorem ints_are : ∀ {xs : List Int} {us : List Value}, Vals (xs.map V.int) us → IntsAre us xs
  | [], us, r => by cases r; exact .nil
  | x :: xs, us, r => by
    cases r with
    | cons r rr =>
      obtain ⟨t, rfl⟩ := r
      exact .cons _ _ (ints_are rr)
theorem call_sum (hc : X.calm = true) : CallR X (.builtin "sum") (fun xs H Q => ∃ (a : Addr) (ns : List Int), xs = [.ref a] ∧ SqL X.K H a (ns.map V.int) ∧ Q (.int ns.sum) H) := by
  intro pins s σ H xs us Q I r h
  obtain ⟨a, ns, rfl, hS, q⟩ := h
  obtain ⟨u, rfl, ru⟩ := vals1 r
  obtain rfl : u = Value.ref a := ru
  obtain ⟨its, rv, pl, hz⟩ := I.list hS
  have hi := ints_are rv
  obtain ⟨xs', e⟩ := hi.allInts.items
  have hl : s.heap.IsList a (intItems xs') := by rw [← e]; exact pl.isList
  refine sum_intListG (I.ok.hd hc) hl fun h' tk t' hk => ⟨.int ns.sum, H, I.kept hk, ⟨t', ?_⟩, q⟩
  have e2 : numsOf its.toArray.toList = ns := hi.numsOf
  rw [e, nums_intItems] at e2
  rw [preSum_eq, List.take_of_length_le (by simp), e2]
end
def Itz (K : PySem.W.Frag) (a b : Addr) : It :=
  ⟨fun i H => ∃ xs ys x y, SqL K H a xs ∧ SqL K H b ys ∧ xs[i]? = some x ∧ ys[i]? = some y,
   fun i H v H' => ∃ p x y, v = .ref p ∧ H p = none ∧ H' = upd H p (.tup [x, y]) ∧ (∀ xs, SqL K H a xs → xs[i]? = some x) ∧ ∀ ys, SqL K H b ys → ys[i]? = some y,
   fun i H => ∃ xs ys, SqL K H a xs ∧ SqL K H b ys ∧ (xs.length ≤ i ∨ ys.length ≤ i)⟩
def ZipSt (a b z TI TO i1 i2 : Addr) (i : Nat) (h : Heap) : Prop :=
  IsZip h z TI TO .none ∧ IsPair h TI (.ref i1) (.ref i2) ∧ (∃ u v, IsPair h TO u v) ∧ h.IsListIter i1 a i ∧ h.IsListIter i2 b i
theorem cls_ne {h : Heap} {a b : Addr} {o u : Obj} {c d : String} (e1 : h.get? a = some o) (e2 : h.get? b = some u) (c1 : o.cls = .type c) (c2 : u.cls = .type d) (n : c ≠ d) : a ≠ b := fun z => by
  subst z; rw [e1] at e2; cases e2; rw [c1] at c2; cases c2; exact n rfl
theorem zip_apart {h : Heap} {a b z TI TO i1 i2 : Addr} {i : Nat} {xs ys : Array Value} (st : ZipSt a b z TI TO i1 i2 i h) (h1 : h.IsList a xs) (h2 : h.IsList b ys) (d1 : TI ≠ TO) (d2 : i1 ≠ i2) : ZipApart z TI TO i1 i2 a b := by
  obtain ⟨sz, sI, ⟨u, v, sO⟩, ⟨o1, e1, c1, _⟩, ⟨o2, e2, c2, _⟩⟩ := st
  obtain ⟨oa, ea, ca, _⟩ := h1
  obtain ⟨ob, eb, cb, _⟩ := h2
  exact ⟨cls_ne sI sz rfl rfl (by decide), cls_ne sO sz rfl rfl (by decide), cls_ne e1 sz c1 rfl (by decide), cls_ne e2 sz c2 rfl (by decide), d1, cls_ne sI e1 rfl c1 (by decide), cls_ne sI e2 rfl c2 (by decide), cls_ne sO e1 rfl c1 (by decide), cls_ne sO e2 rfl c2 (by decide), d2,
    cls_ne ea sz ca rfl (by decide), cls_ne ea sO ca rfl (by decide), cls_ne ea e1 ca c1 (by decide), cls_ne ea e2 ca c2 (by decide), cls_ne eb sz cb rfl (by decide), cls_ne eb sO cb rfl (by decide), cls_ne eb e1 cb c1 (by decide), cls_ne eb e2 cb c2 (by decide)⟩
theorem Inv.turnedL {X : Cx} {pins : List (Addr × Obj)} {σ : St} {H H' : Hp} {s : Shared} {h' : Heap} {fp : List Addr} {t' : Nat} (I : Inv X pins σ H s) (hf : ∀ b ∈ fp, FpOk X pins H b) (k : ∀ b o, b ∉ fp → s.heap.get? b = some o → h'.get? b = some o)
    (free : ∀ b o, s.heap.get? b = some o → H b = none → H' b = none) (sm : Same H H') (hok : HOk X.prog X.w H' h') : Inv X pins σ H' { s with heap := h', toks := t' } := by
  have nL : X.env.locals ∉ fp := fun z => (hf _ z).2.1 rfl
  refine I.step (g' := s.gens) (d' := s.drawn) (ch := fp) (fun b hb => ?_) (fun b o _ _ hc e _ => k b o hc e) (fun b o _ _ hc e _ => ⟨o.slots, k b o hc e⟩) (fun b o _ e n => free b o e n) (fun b o hc e => ⟨o, k b o hc e⟩)
    (fun b xs e => sm b _ e) (fun b o u e => sm b _ e) (fun b ps e => ⟨#[], by rw [sm b _ e]; simp⟩) (fun m hm => ?_) hok I.bare
  · obtain ⟨_, f1, _, f3, f4, f5⟩ := hf b hb
    exact ⟨f3, f1, f4, f5⟩
  · obtain ⟨o, es, ep, ho, r⟩ := hm
    exact ⟨o, es, ep, k _ o nL ho, r⟩
theorem turn_zip {P : Program} {w : World} {K : PySem.W.Frag} {elts : List Expr} {x1 : Nat} {pos : Pos} (a b z TI TO i1 i2 : Addr) (d1 : TI ≠ TO) (d2 : i1 ≠ i2) : Turn P w K (.Tuple elts x1 pos) (Itz K a b) [z, TI, TO, i1, i2] z (ZipSt a b z TI TO i1 i2) where
  mem := by simp
  obj := fun i h st c hc => by
    obtain ⟨sz, sI, ⟨u, v, sO⟩, ⟨o1, e1, c1, q1⟩, ⟨o2, e2, c2, q2⟩⟩ := st
    simp only [List.mem_cons, List.not_mem_nil, or_false] at hc
    rcases hc with rfl | rfl | rfl | rfl | rfl
    · exact ⟨_, sz, fun v z => by cases z⟩
    · exact ⟨_, sI, fun v z => by cases z⟩
    · exact ⟨_, sO, fun v z => by cases z⟩
    · exact ⟨_, e1, fun v z => by rw [q1] at z; cases z⟩
    · exact ⟨_, e2, fun v z => by rw [q2] at z; cases z⟩
  keep := fun i h h' st k => by
    obtain ⟨sz, sI, ⟨u, v, sO⟩, s1, s2⟩ := st
    exact ⟨k _ (by simp) _ sz, k _ (by simp) _ sI, ⟨u, v, k _ (by simp) _ sO⟩, s1.at fun o e => k _ (by simp) o e, s2.at fun o e => k _ (by simp) o e⟩
  item := by
    intro X hP hw hK hc i pins s σ H E I hf st hg
    subst hP hw hK
    obtain ⟨xs, ys, x, y, hq1, hq2, hx, hy⟩ := hg
    obtain ⟨its1, rv1, p1, hz1⟩ := I.list hq1
    obtain ⟨its2, rv2, p2, hz2⟩ := I.list hq2
    obtain ⟨u, hu, ru⟩ := rv1.get hx
    obtain ⟨v, hv, rv⟩ := rv2.get hy
    have Dp := zip_apart st p1.isList p2.isList d1 d2
    obtain ⟨sz, sI, ⟨ua, ub, sO⟩, s1, s2⟩ := st
    refine wpAny_pyNext_zip_item Dp sz sI sO s1 s2 p1.isList p2.isList (x := u) (y := v) (by simpa using hu) (by simpa using hv) fun h1 z1 O1 t1 t2 pr hsz kk => ?_
    refine ⟨.ref s.heap.objs.size, rfl, wpAny_letOwnedTupleGo_zip z1 fun h2 z2 sb => ?_⟩
    have zlt : z < s.heap.objs.size := Heap.lt_size sz
    have pz : s.heap.objs.size ≠ z := Nat.ne_of_gt zlt
    have hn : H s.heap.objs.size = none := I.hok.fresh (Nat.le_refl _)
    have k2 : ∀ c o, c ∉ [z, TI, TO, i1, i2] → s.heap.get? c = some o → h2.get? c = some o := fun c o hc e => by
      simp only [List.mem_cons, List.not_mem_nil, or_false, not_or] at hc
      exact sb.extBut c o hc.1 (kk c o hc.1 hc.2.2.1 hc.2.2.2.1 hc.2.2.2.2 e)
    have sm : Same H (upd H s.heap.objs.size (.tup [x, y])) := fun c o e => by rw [upd_ne (ne_of_none e hn)]; exact e
    refine ⟨.ref s.heap.objs.size, upd H s.heap.objs.size (.tup [x, y]), ?_, rfl, ⟨s.heap.objs.size, x, y, rfl, hn, rfl, fun zs hz => by rw [I.list_inj hz hq1]; exact hx, fun zs hz => by rw [I.list_inj hz hq2]; exact hy⟩,
      ⟨z2, sb.extBut _ _ Dp.TIz (kk _ _ Dp.TIz Dp.TITO Dp.TIi1 Dp.TIi2 sI), ⟨u, v, sb.extBut _ _ Dp.TOz O1⟩, t1.at fun o e => sb.extBut _ _ Dp.i1z e, t2.at fun o e => sb.extBut _ _ Dp.i2z e⟩, fun c hc => ?_⟩
    · refine I.turnedL (t' := s.toks) hf k2 (fun c o e n => by rw [upd_ne (Nat.ne_of_lt (Heap.lt_size e))]; exact n) sm fun c o e => ?_
      by_cases ec : c = s.heap.objs.size
      · subst ec
        rw [upd_same] at e
        cases e
        exact ⟨by simp only [List.length_cons, List.length_nil]; rw [sizeLine_eq]; decide, [u, v], .cons ru (.cons rv .nil), ⟨_, sb.extBut _ _ pz pr, rfl, 0, rfl⟩⟩
      · rw [upd_ne ec] at e
        refine (I.hok c o e).stay (fun d w' hd q => k2 d w' (fun hm => ?_) q) (fun d q => sm d _ q) fun d ds q => sm d _ q
        have hdn := (hf d hm).1
        rcases hd with rfl | hd
        · rw [hdn] at e; cases e
        · rw [hdn] at hd; cases hd
    · have := (hf c hc).1
      by_cases ec : c = s.heap.objs.size
      · exfalso
        subst ec
        obtain ⟨_, e1, _⟩ := s1
        obtain ⟨_, e2, _⟩ := s2
        simp only [List.mem_cons, List.not_mem_nil, or_false] at hc
        rcases hc with q | q | q | q | q
        · exact pz q
        · exact absurd (Heap.lt_size sI) (by rw [← q]; exact Nat.lt_irrefl _)
        · exact absurd (Heap.lt_size sO) (by rw [← q]; exact Nat.lt_irrefl _)
        · exact absurd (Heap.lt_size e1) (by rw [← q]; exact Nat.lt_irrefl _)
        · exact absurd (Heap.lt_size e2) (by rw [← q]; exact Nat.lt_irrefl _)
      · rw [upd_ne ec]; exact this
  done := by
    intro X hP hw hK hc i pins s σ H E I hf st hg
    subst hP hw hK
    obtain ⟨xs, ys, hq1, hq2, hle⟩ := hg
    obtain ⟨its1, rv1, p1, hz1⟩ := I.list hq1
    obtain ⟨its2, rv2, p2, hz2⟩ := I.list hq2
    have l1 := rv1.length
    have l2 := rv2.length
    have Dp := zip_apart st p1.isList p2.isList d1 d2
    obtain ⟨sz, sI, ⟨ua, ub, sO⟩, s1, s2⟩ := st
    refine wpAny_pyNext_zip_end (I.ok.hd hc) Dp sz sI sO s1 s2 p1.isList p2.isList (hle.elim (fun q => .inl (by simp; omega)) fun q => .inr (by simp; omega)) fun h1 kk => ⟨rfl, ?_⟩
    have k2 : ∀ c o, c ∉ [z, TI, TO, i1, i2] → s.heap.get? c = some o → h1.get? c = some o := fun c o hc e => by
      simp only [List.mem_cons, List.not_mem_nil, or_false, not_or] at hc
      exact kk c o hc.1 hc.2.2.1 hc.2.2.2.1 hc.2.2.2.2 e
    refine I.turnedL (t' := s.toks) hf k2 (fun _ _ _ n => n) (Same.refl H) fun c o e => ?_
    refine (I.hok c o e).stay (fun d w' hd q => k2 d w' (fun hm => ?_) q) (fun d q => q) fun d ds q => q
    have hdn := (hf d hm).1
    rcases hd with rfl | hd
    · rw [hdn] at e; cases e
    · rw [hdn] at hd; cases hd
  self := fun _ _ _ _ _ st h => wpAny_pyIter_zip st.1 h
section
variable {X : Cx}
def iZip (K : PySem.W.Frag) (ta : TA) : TI := fun σ H R => ta σ H fun vs H1 => ∃ a b, vs = [.ref a, .ref b] ∧ (∃ xs, SqL K H1 a xs) ∧ (∃ ys, SqL K H1 b ys) ∧ R (Itz K a b) H1
theorem pi_zip {elts : List Expr} {x1 : Nat} {tp : Pos} {a b : Expr} {ta : TA} {p pos : Pos} (hg : Gl X "zip") (hm : X.mg "zip" = none) (ha : PA X [a, b] ta) (hs : starEach [a, b] X.env = [(false, eval a X.env), (false, eval b X.env)] := by rfl) (hs2 : starEach [b] X.env = [(false, eval b X.env)] := by rfl) :
    PI X (.Tuple elts x1 tp) (.Call (.Name "zip" p) [a, b] [] pos) (iZip X.K ta) := by
  intro pins s σ H R I h
  refine Call_ (ld_blt I hg hm boot_zip (PyProof.Rows.callWith_type1 (thn (ha pos pins s σ H _ I h) fun us s1 ⟨vs, H1, I1, r1, q1⟩ => ?_) (by rw [hs, hs2]) (by rw [hs2]; rfl)))
  obtain ⟨l1, l2, rfl, ⟨xs, hx⟩, ⟨ys, hy⟩, q⟩ := q1
  obtain ⟨u1, u2, rfl, r2, r3⟩ := vals2 r1
  obtain rfl : u1 = Value.ref l1 := r2
  obtain rfl : u2 = Value.ref l2 := r3
  obtain ⟨its1, rv1, p1, hz1⟩ := I1.list hx
  obtain ⟨its2, rv2, p2, hz2⟩ := I1.list hy
  refine call_zip_2 p1.isList p2.isList fun h' sz sI sO t1 t2 hsz kk => ?_
  have I2 : Inv X pins σ H1 { s1 with heap := h' } := I1.kept (t' := s1.toks) kk
  refine wpAny_pyIter_zip sz ⟨_, _, ZipSt l1 l2 (s1.heap.objs.size + 4) (s1.heap.objs.size + 2) (s1.heap.objs.size + 3) s1.heap.objs.size (s1.heap.objs.size + 1), Itz X.K l1 l2, H1, rfl, I2, turn_zip _ _ _ _ _ _ _ (Nat.ne_of_lt (Nat.lt_succ_self _)) (Nat.ne_of_lt (Nat.lt_succ_self _)), ⟨sz, sI, ⟨_, _, sO⟩, t1, t2⟩, fun c hc => ?_, q⟩
  simp only [List.mem_cons, List.not_mem_nil, or_false] at hc
  have hge : s1.heap.objs.size ≤ c := by rcases hc with rfl | rfl | rfl | rfl | rfl <;> first | exact Nat.le_add_right _ _ | exact Nat.le_refl _
  obtain ⟨g0, g1, g2, g3, g4, g5⟩ := I1.fpOk (H' := H1) hge (I1.hok.fresh hge)
  exact ⟨g0, g1, g2, g3, g4, g5⟩
end
mutual
def D.plain : D → Bool
  | .non => true | .bl _ => false | .int _ => true | .str _ => true
  | .lst ds => D.plains ds | .tup ds => D.plains ds
def D.plains : List D → Bool
  | [] => true
  | d :: ds => D.plain d && D.plains ds
end
mutual
def D.depth : D → Nat
  | .lst ds => D.depths ds + 1 | .tup ds => D.depths ds + 1
  | _ => 0
def D.depths : List D → Nat
  | [] => 0
  | d :: ds => max (D.depth d) (D.depths ds)
end
mutual
def D.eqb : D → D → Bool
  | .non, .non => true
  | .int i, .int j => i == j
  | .str i, .str j => i == j
  | .lst a, .lst b => D.eqbs a b
  | .tup a, .tup b => D.eqbs a b
  | _, _ => false
def D.eqbs : List D → List D → Bool
  | [], [] => true
  | a :: as, b :: bs => D.eqb a b && D.eqbs as bs
  | _, _ => false
end
theorem D.eqbs_iff : ∀ {a b : List D}, D.eqbs a b = (decide (a.length = b.length) && (List.range a.length).all fun i => match a[i]?, b[i]? with | some x, some y => D.eqb x y | _, _ => false)
  | [], [] => rfl
  | [], b :: bs => by simp [D.eqbs]
  | a :: as, [] => by simp [D.eqbs]
  | a :: as, b :: bs => by
    rw [D.eqbs, D.eqbs_iff (a := as) (b := bs), List.length_cons, List.range_succ_eq_map, List.all_cons, List.all_map]
    by_cases h : as.length = bs.length
    · simp [h, Function.comp_def]
    · simp [h]
end L2
set_option Elab.async false
set_option linter.all false
set_option maxRecDepth 100000
set_option maxHeartbeats 4000000
namespace L2
open PySem PySem.Spec PyProof.Rows
open PySem.SeqAt
theorem D.plains_get : ∀ {ds : List D} {i : Nat} {d : D}, D.plains ds = true → ds[i]? = some d → d.plain = true
  | [], i, d, _, e => by simp at e
  | c :: ds, 0, d, h, e => by
    simp at e; subst e
    rw [D.plains, Bool.and_eq_true] at h
    exact h.1
  | c :: ds, i + 1, d, h, e => by
    rw [D.plains, Bool.and_eq_true] at h
    exact D.plains_get (i := i) h.2 (by simpa using e)
theorem D.depths_get : ∀ {ds : List D} {i : Nat} {d : D}, ds[i]? = some d → d.depth ≤ D.depths ds
  | [], i, d, e => by simp at e
  | c :: ds, 0, d, e => by
    simp at e; subst e
    rw [D.depths]
    exact Nat.le_max_left _ _
  | c :: ds, i + 1, d, e => by
    rw [D.depths]
    exact Nat.le_trans (D.depths_get (i := i) (by simpa using e)) (Nat.le_max_right _ _)
theorem D.eqbs_all {a b : List D} (hl : a.length = b.length) (f : Nat → Bool) (h : ∀ i x y, a[i]? = some x → b[i]? = some y → f i = D.eqb x y) : D.eqbs a b = (List.range a.length).all f := by
  rw [D.eqbs_iff, decide_eq_true hl, Bool.true_and, Bool.eq_iff_iff]
  simp only [List.all_eq_true, List.mem_range]
  constructor
  · intro q i hi
    have := q i hi
    rw [List.getElem?_eq_getElem hi, List.getElem?_eq_getElem (show i < b.length by omega)] at this
    rw [h i _ _ (List.getElem?_eq_getElem hi) (List.getElem?_eq_getElem (show i < b.length by omega))]
    exact this
  · intro q i hi
    have := q i hi
    rw [h i _ _ (List.getElem?_eq_getElem hi) (List.getElem?_eq_getElem (show i < b.length by omega))] at this
    rw [List.getElem?_eq_getElem hi, List.getElem?_eq_getElem (show i < b.length by omega)]
    exact this
theorem D.eqbs_len {a b : List D} (hl : a.length ≠ b.length) : D.eqbs a b = false := by
  rw [D.eqbs_iff, decide_eq_false hl, Bool.false_and]
theorem eqb_one {H : Hp} : ∀ (n : Nat) (d e : D) (v : V), d.depth ≤ n → Rp H d v → Rp H e v → d.plain = true → D.eqb d e = true := by
  intro n
  induction n with
  | zero =>
    intro d e v hn hd he hp
    obtain ⟨f, hd⟩ := hd
    obtain ⟨g, he⟩ := he
    cases d with
    | non => obtain ⟨rfl, _⟩ := hd; cases e with
      | non => rfl
      | lst ds => obtain ⟨_, _, _, z, _⟩ := he; cases z
      | tup ds => obtain ⟨_, _, z, _⟩ := he; cases z
      | _ => obtain ⟨z, _⟩ := he; cases z
    | bl b => cases hp
    | int i => obtain ⟨rfl, _⟩ := hd; cases e with
      | int j => obtain ⟨z, _⟩ := he; cases z; simp [D.eqb]
      | lst ds => obtain ⟨_, _, _, z, _⟩ := he; cases z
      | tup ds => obtain ⟨_, _, z, _⟩ := he; cases z
      | _ => obtain ⟨z, _⟩ := he; cases z
    | str i => obtain ⟨rfl, _⟩ := hd; cases e with
      | str j => obtain ⟨z, _⟩ := he; cases z; simp [D.eqb]
      | lst ds => obtain ⟨_, _, _, z, _⟩ := he; cases z
      | tup ds => obtain ⟨_, _, z, _⟩ := he; cases z
      | _ => obtain ⟨z, _⟩ := he; cases z
    | lst ds => rw [D.depth] at hn; omega
    | tup ds => rw [D.depth] at hn; omega
  | succ n ih =>
    intro d e v hn hd he hp
    have go : ∀ (ds es : List D) (xs : List V) (f g : List Addr), D.depths ds ≤ n → Rfs H ds xs f → Rfs H es xs g → D.plains ds = true → D.eqbs ds es = true := by
      intro ds es xs f g hn h1 h2 hp
      have l1 := h1.length
      have l2 := h2.length
      rw [D.eqbs_all (by omega) (fun _ => true) (fun i x y e1 e2 => ?_)]
      · simp
      · obtain ⟨v1, f1, q1, r1, _⟩ := h1.get e1
        obtain ⟨v2, f2, q2, r2, _⟩ := h2.get e2
        rw [q1] at q2; cases q2
        exact (ih x y v1 (Nat.le_trans (D.depths_get e1) hn) ⟨_, r1⟩ ⟨_, r2⟩ (D.plains_get hp e1)).symm
    obtain ⟨f, hd⟩ := hd
    obtain ⟨g, he⟩ := he
    cases d with
    | non => obtain ⟨rfl, _⟩ := hd; cases e with
      | non => rfl
      | lst ds => obtain ⟨_, _, _, z, _⟩ := he; cases z
      | tup ds => obtain ⟨_, _, z, _⟩ := he; cases z
      | _ => obtain ⟨z, _⟩ := he; cases z
    | bl b => cases hp
    | int i => obtain ⟨rfl, _⟩ := hd; cases e with
      | int j => obtain ⟨z, _⟩ := he; cases z; simp [D.eqb]
      | lst ds => obtain ⟨_, _, _, z, _⟩ := he; cases z
      | tup ds => obtain ⟨_, _, z, _⟩ := he; cases z
      | _ => obtain ⟨z, _⟩ := he; cases z
    | str i => obtain ⟨rfl, _⟩ := hd; cases e with
      | str j => obtain ⟨z, _⟩ := he; cases z; simp [D.eqb]
      | lst ds => obtain ⟨_, _, _, z, _⟩ := he; cases z
      | tup ds => obtain ⟨_, _, z, _⟩ := he; cases z
      | _ => obtain ⟨z, _⟩ := he; cases z
    | lst ds =>
      obtain ⟨a, xs, fq, rfl, e1, rfl, hd⟩ := hd
      cases e with
      | lst es =>
        obtain ⟨b, ys, gq, z, e2, rfl, he⟩ := he
        cases z
        rw [e1] at e2; cases e2
        rw [D.eqb]
        exact go ds es xs fq gq (by rw [D.depth] at hn; omega) hd he hp
      | tup es =>
        obtain ⟨b, ys, z, e2, he⟩ := he
        cases z
        rw [e1] at e2; cases e2
      | _ => obtain ⟨z, _⟩ := he; cases z
    | tup ds =>
      obtain ⟨a, xs, rfl, e1, hd⟩ := hd
      cases e with
      | tup es =>
        obtain ⟨b, ys, z, e2, he⟩ := he
        cases z
        rw [e1] at e2; cases e2
        rw [D.eqb]
        exact go ds es xs f g (by rw [D.depth] at hn; omega) hd he hp
      | lst es =>
        obtain ⟨b, ys, gq, z, e2, rfl, he⟩ := he
        cases z
        rw [e1] at e2; cases e2
      | _ => obtain ⟨z, _⟩ := he; cases z
theorem eqAt_D {X : Cx} {pins : List (Addr × Obj)} {σ : St} {H : Hp} {s : Shared} (I : Inv X pins σ H s) : ∀ (n : Nat) (d e : D) (x y : V) (u w : Value) (A : Around), d.depth ≤ n → Rp H d x → Rp H e y → RelV x u → RelV y w → d.plain = true → e.plain = true → A.units + n < cLine →
    EqAt A s u w (D.eqb d e) := by
  intro n
  induction n with
  | zero =>
    intro d e x y u w A hn hd he rx ry pd pe hu
    obtain ⟨f, hd⟩ := hd
    obtain ⟨g, he⟩ := he
    have hu' : A.units < cLine := by omega
    cases d with
    | non =>
      obtain ⟨rfl, _⟩ := hd; obtain rfl : u = .none := rx
      cases e with
      | non => obtain ⟨rfl, _⟩ := he; obtain rfl : w = .none := ry; exact EqAt.same _
      | bl b => cases pe
      | int j => obtain ⟨rfl, _⟩ := he; obtain ⟨t, rfl⟩ := ry; exact EqAt.none_int _ _
      | str j => obtain ⟨rfl, _⟩ := he; obtain ⟨t, rfl⟩ := ry; exact EqAt.none_str _ _
      | lst es => obtain ⟨b, ys, gq, rfl, e2, _, he⟩ := he; obtain rfl : w = .ref b := ry; obtain ⟨_, _, pl, _⟩ := I.list (SqL.of e2); exact EqAt.none_list pl.isList hu'
      | tup es => obtain ⟨b, ys, rfl, e2, he⟩ := he; obtain rfl : w = .ref b := ry; obtain ⟨_, _, pl, _⟩ := I.tuple (SqT.of e2); exact EqAt.none_tuple pl hu'
    | bl b => cases pd
    | int i =>
      obtain ⟨rfl, _⟩ := hd; obtain ⟨t0, rfl⟩ := rx
      cases e with
      | non => obtain ⟨rfl, _⟩ := he; obtain rfl : w = .none := ry; exact EqAt.int_none _ _
      | bl b => cases pe
      | int j => obtain ⟨rfl, _⟩ := he; obtain ⟨t, rfl⟩ := ry; exact EqAt.int_int _ _ _ _
      | str j => obtain ⟨rfl, _⟩ := he; obtain ⟨t, rfl⟩ := ry; exact EqAt.int_str _ _ _ _
      | lst es => obtain ⟨b, ys, gq, rfl, e2, _, he⟩ := he; obtain rfl : w = .ref b := ry; obtain ⟨_, _, pl, _⟩ := I.list (SqL.of e2); exact EqAt.int_list _ _ pl.isList hu'
      | tup es => obtain ⟨b, ys, rfl, e2, he⟩ := he; obtain rfl : w = .ref b := ry; obtain ⟨_, _, pl, _⟩ := I.tuple (SqT.of e2); exact EqAt.int_tuple _ _ pl hu'
    | str i =>
      obtain ⟨rfl, _⟩ := hd; obtain ⟨t0, rfl⟩ := rx
      cases e with
      | non => obtain ⟨rfl, _⟩ := he; obtain rfl : w = .none := ry; exact EqAt.str_none _ _
      | bl b => cases pe
      | int j => obtain ⟨rfl, _⟩ := he; obtain ⟨t, rfl⟩ := ry; exact EqAt.str_int _ _ _ _
      | str j => obtain ⟨rfl, _⟩ := he; obtain ⟨t, rfl⟩ := ry; exact EqAt.str_str _ _ _ _
      | lst es => obtain ⟨b, ys, gq, rfl, e2, _, he⟩ := he; obtain rfl : w = .ref b := ry; obtain ⟨_, _, pl, _⟩ := I.list (SqL.of e2); exact EqAt.str_list _ _ pl.isList hu'
      | tup es => obtain ⟨b, ys, rfl, e2, he⟩ := he; obtain rfl : w = .ref b := ry; obtain ⟨_, _, pl, _⟩ := I.tuple (SqT.of e2); exact EqAt.str_tuple _ _ pl hu'
    | lst ds => rw [D.depth] at hn; omega
    | tup ds => rw [D.depth] at hn; omega
  | succ n ih =>
    intro d e x y u w A hn hd he rx ry pd pe hu
    have hu' : A.units < cLine := by omega
    have ud : A.in1.units + n < cLine := by show A.units + 1 + n < cLine; omega
    cases d with
    | non => exact ih _ _ x y u w A (by simp [D.depth]) hd he rx ry pd pe (by omega)
    | bl b => cases pd
    | int i => exact ih _ _ x y u w A (by simp [D.depth]) hd he rx ry pd pe (by omega)
    | str i => exact ih _ _ x y u w A (by simp [D.depth]) hd he rx ry pd pe (by omega)
    | lst ds =>
      have hd0 := hd
      have he0 := he
      obtain ⟨f, a, xs, fq, rfl, e1, rfl, hd⟩ := hd
      obtain rfl : u = .ref a := rx
      obtain ⟨its, rv, pl, hz⟩ := I.list (SqL.of e1)
      obtain ⟨g, he⟩ := he
      cases e with
      | non => obtain ⟨rfl, _⟩ := he; obtain rfl : w = .none := ry; exact EqAt.list_none pl.isList hu'
      | bl b => cases pe
      | int j => obtain ⟨rfl, _⟩ := he; obtain ⟨t, rfl⟩ := ry; exact EqAt.list_int _ _ pl.isList hu'
      | str j => obtain ⟨rfl, _⟩ := he; obtain ⟨t, rfl⟩ := ry; exact EqAt.list_str _ _ pl.isList hu'
      | tup es => obtain ⟨b, ys, rfl, e2, he⟩ := he; obtain rfl : w = .ref b := ry; obtain ⟨_, _, pl2, _⟩ := I.tuple (SqT.of e2); exact EqAt.list_tuple pl.isList pl2 hu'
      | lst es =>
        obtain ⟨b, ys, gq, rfl, e2, rfl, he⟩ := he
        obtain rfl : w = .ref b := ry
        by_cases hab : a = b
        · subst hab
          rw [eqb_one _ _ _ _ (Nat.le_refl _) hd0 he0 pd]
          exact EqAt.same _
        · obtain ⟨its2, rv2, pl2, hz2⟩ := I.list (SqL.of e2)
          refine EqAt.of_refs hab ?_
          have l1 := rv.length
          have l2 := rv2.length
          have m1 := hd.length
          have m2 := he.length
          by_cases hl : ds.length = es.length
          · have key := RcAt.lists (A := A) (e := fun i => match ds[i]?, es[i]? with | some x, some y => D.eqb x y | _, _ => false) pl.isList pl2.isList (by simp; omega) hu' (fun j h1 h2 => by
              have j1 : j < ds.length := by simp at h1; omega
              have j2 : j < es.length := by omega
              simp only [List.getElem?_eq_getElem j1, List.getElem?_eq_getElem j2]
              obtain ⟨v1, f1, q1, r1, _⟩ := hd.get (List.getElem?_eq_getElem j1)
              obtain ⟨v2, f2, q2, r2, _⟩ := he.get (List.getElem?_eq_getElem j2)
              obtain ⟨u1, p1, t1⟩ := rv.get q1
              obtain ⟨u2, p2, t2⟩ := rv2.get q2
              have i1 : its.toArray[j] = u1 := by
                have := List.getElem?_eq_some_iff.mp p1
                obtain ⟨_, z⟩ := this
                simpa using z
              have i2 : its2.toArray[j] = u2 := by
                have := List.getElem?_eq_some_iff.mp p2
                obtain ⟨_, z⟩ := this
                simpa using z
              rw [i1, i2]
              exact ih _ _ v1 v2 u1 u2 A.in1 (by have := D.depths_get (List.getElem?_eq_getElem j1); rw [D.depth] at hn; omega) ⟨_, r1⟩ ⟨_, r2⟩ t1 t2 (D.plains_get pd (List.getElem?_eq_getElem j1)) (D.plains_get pe (List.getElem?_eq_getElem j2)) ud)
            have e3 : D.eqb (.lst ds) (.lst es) = (List.range its.toArray.size).all fun i => match ds[i]?, es[i]? with | some x, some y => D.eqb x y | _, _ => false := by
              rw [D.eqb, D.eqbs_iff, decide_eq_true hl, Bool.true_and]
              rw [show its.toArray.size = ds.length by simp; omega]
              all_goals rfl
            rw [e3]
            exact key
          · rw [D.eqb, D.eqbs_len hl]
            exact RcAt.lists_lengths pl.isList pl2.isList (by simp; omega) hu'
    | tup ds =>
      have hd0 := hd
      have he0 := he
      obtain ⟨f, a, xs, rfl, e1, hd⟩ := hd
      obtain rfl : u = .ref a := rx
      obtain ⟨its, rv, pl, hz⟩ := I.tuple (SqT.of e1)
      obtain ⟨g, he⟩ := he
      cases e with
      | non => obtain ⟨rfl, _⟩ := he; obtain rfl : w = .none := ry; exact EqAt.tuple_none pl hu'
      | bl b => cases pe
      | int j => obtain ⟨rfl, _⟩ := he; obtain ⟨t, rfl⟩ := ry; exact EqAt.tuple_int _ _ pl hu'
      | str j => obtain ⟨rfl, _⟩ := he; obtain ⟨t, rfl⟩ := ry; exact EqAt.tuple_str _ _ pl hu'
      | lst es => obtain ⟨b, ys, gq, rfl, e2, _, he⟩ := he; obtain rfl : w = .ref b := ry; obtain ⟨_, _, pl2, _⟩ := I.list (SqL.of e2); exact EqAt.tuple_list pl pl2.isList hu'
      | tup es =>
        obtain ⟨b, ys, rfl, e2, he⟩ := he
        obtain rfl : w = .ref b := ry
        by_cases hab : a = b
        · subst hab
          rw [eqb_one _ _ _ _ (Nat.le_refl _) hd0 he0 pd]
          exact EqAt.same _
        · obtain ⟨its2, rv2, pl2, hz2⟩ := I.tuple (SqT.of e2)
          refine EqAt.of_refs hab ?_
          have l1 := rv.length
          have l2 := rv2.length
          have m1 := hd.length
          have m2 := he.length
          have key := RcAt.tuples (A := A) (e := fun i => match ds[i]?, es[i]? with | some x, some y => D.eqb x y | _, _ => false) pl pl2 hu' (fun j h1 h2 => by
              have j1 : j < ds.length := by simp at h1; omega
              have j2 : j < es.length := by simp at h2; omega
              simp only [List.getElem?_eq_getElem j1, List.getElem?_eq_getElem j2]
              obtain ⟨v1, f1, q1, r1, _⟩ := hd.get (List.getElem?_eq_getElem j1)
              obtain ⟨v2, f2, q2, r2, _⟩ := he.get (List.getElem?_eq_getElem j2)
              obtain ⟨u1, p1, t1⟩ := rv.get q1
              obtain ⟨u2, p2, t2⟩ := rv2.get q2
              have i1 : its.toArray[j] = u1 := by
                have := List.getElem?_eq_some_iff.mp p1
                obtain ⟨_, z⟩ := this
                simpa using z
              have i2 : its2.toArray[j] = u2 := by
                have := List.getElem?_eq_some_iff.mp p2
                obtain ⟨_, z⟩ := this
                simpa using z
              rw [i1, i2]
              exact ih _ _ v1 v2 u1 u2 A.in1 (by have := D.depths_get (List.getElem?_eq_getElem j1); rw [D.depth] at hn; omega) ⟨_, r1⟩ ⟨_, r2⟩ t1 t2 (D.plains_get pd (List.getElem?_eq_getElem j1)) (D.plains_get pe (List.getElem?_eq_getElem j2)) ud)
          have e3 : D.eqb (.tup ds) (.tup es) = ((List.range (min its.toArray.size its2.toArray.size)).all (fun i => match ds[i]?, es[i]? with | some x, some y => D.eqb x y | _, _ => false) && its.toArray.size == its2.toArray.size) := by
            rw [D.eqb]
            have z1 : its.toArray.size = ds.length := by simp; omega
            have z2 : its2.toArray.size = es.length := by simp; omega
            rw [z1, z2]
            by_cases hl : ds.length = es.length
            · rw [D.eqbs_iff, decide_eq_true hl, Bool.true_and, hl, Nat.min_self, beq_self_eq_true, Bool.and_true]
              all_goals rfl
            · rw [D.eqbs_len hl]
              have : (ds.length == es.length) = false := beq_eq_false_iff_ne.mpr hl
              rw [this, Bool.and_false]
          rw [e3]
          exact key
def eqAtI (ds es : List D) (i : Nat) : Bool := match ds[i]?, es[i]? with | some x, some y => D.eqb x y | _, _ => false
theorem items_eq {X : Cx} {pins : List (Addr × Obj)} {σ : St} {H : Hp} {s : Shared} (I : Inv X pins σ H s) {A : Around} {ds es : List D} {xs ys : List V} {f g : List Addr} {its its2 : List Value} (hd : Rfs H ds xs f) (he : Rfs H es ys g) (rv : Vals xs its) (rv2 : Vals ys its2)
    (pd : D.plains ds = true) (pe : D.plains es = true) (hu : A.units + 1 + D.depths ds < cLine) : ∀ j (h1 : j < its.toArray.size) (h2 : j < its2.toArray.size), EqAt A.in1 s its.toArray[j] its2.toArray[j] (eqAtI ds es j) := by
  intro j h1 h2
  have l1 := rv.length
  have l2 := rv2.length
  have m1 := hd.length
  have m2 := he.length
  have j1 : j < ds.length := by simp at h1; omega
  have j2 : j < es.length := by simp at h2; omega
  unfold eqAtI
  simp only [List.getElem?_eq_getElem j1, List.getElem?_eq_getElem j2]
  obtain ⟨v1, f1, q1, r1, _⟩ := hd.get (List.getElem?_eq_getElem j1)
  obtain ⟨v2, f2, q2, r2, _⟩ := he.get (List.getElem?_eq_getElem j2)
  obtain ⟨u1, p1, t1⟩ := rv.get q1
  obtain ⟨u2, p2, t2⟩ := rv2.get q2
  have i1 : its.toArray[j] = u1 := by
    obtain ⟨_, z⟩ := List.getElem?_eq_some_iff.mp p1
    simpa using z
  have i2 : its2.toArray[j] = u2 := by
    obtain ⟨_, z⟩ := List.getElem?_eq_some_iff.mp p2
    simpa using z
  rw [i1, i2]
  exact eqAt_D I _ _ _ v1 v2 u1 u2 A.in1 (D.depths_get (List.getElem?_eq_getElem j1)) ⟨_, r1⟩ ⟨_, r2⟩ t1 t2 (D.plains_get pd (List.getElem?_eq_getElem j1)) (D.plains_get pe (List.getElem?_eq_getElem j2)) hu
theorem eqbs_range {ds es : List D} (hl : ds.length = es.length) : D.eqbs ds es = (List.range ds.length).all (eqAtI ds es) := by
  rw [D.eqbs_iff, decide_eq_true hl, Bool.true_and]
  rfl
section
variable {X : Cx}
def rEqD (neg : Bool) : R2 := fun x y H Q => ∃ ds es, Rp H (.lst ds) x ∧ Rp H (.lst es) y ∧ D.plains ds = true ∧ D.plains es = true ∧ D.depths ds ≤ 60 ∧ Q (.bl (if neg then !D.eqbs ds es else D.eqbs ds es)) H
theorem op_eqL (hu : X.A.units + 64 < cLine) : OpR X (compareOp .Eq) (rEqD false) := by
  intro pins s σ H x y v u Q I rx ry h
  obtain ⟨ds, es, ⟨f, a, xs, fq, rfl, e1, rfl, hd⟩, ⟨g, b, ys, gq, rfl, e2, rfl, he⟩, pd, pe, hdp, q⟩ := h
  obtain rfl : v = .ref a := rx
  obtain rfl : u = .ref b := ry
  obtain ⟨its, rv, pl, hz⟩ := I.list (SqL.of e1)
  obtain ⟨its2, rv2, pl2, hz2⟩ := I.list (SqL.of e2)
  have l1 := rv.length
  have l2 := rv2.length
  have m1 := hd.length
  have m2 := he.length
  by_cases hl : ds.length = es.length
  · refine eq_listAt pl.isList pl2.isList (by simp; omega) (by omega) (items_eq I hd he rv rv2 pd pe (by omega)) (fin_bl I q ?_)
    rw [eqbs_range hl, show its.toArray.size = ds.length by simp; omega]
    all_goals rfl
  · refine eq_list_lengthsAt pl.isList pl2.isList (by simp; omega) (by omega) (fin_bl I q ?_)
    rw [D.eqbs_len hl]
    all_goals rfl
theorem op_neL (hu : X.A.units + 64 < cLine) : OpR X (compareOp .NotEq) (rEqD true) := by
  intro pins s σ H x y v u Q I rx ry h
  obtain ⟨ds, es, ⟨f, a, xs, fq, rfl, e1, rfl, hd⟩, ⟨g, b, ys, gq, rfl, e2, rfl, he⟩, pd, pe, hdp, q⟩ := h
  obtain rfl : v = .ref a := rx
  obtain rfl : u = .ref b := ry
  obtain ⟨its, rv, pl, hz⟩ := I.list (SqL.of e1)
  obtain ⟨its2, rv2, pl2, hz2⟩ := I.list (SqL.of e2)
  have l1 := rv.length
  have l2 := rv2.length
  have m1 := hd.length
  have m2 := he.length
  by_cases hl : ds.length = es.length
  · refine RcNeAt.lists pl.isList pl2.isList (by simp; omega) (by omega) (items_eq I hd he rv rv2 pd pe (by omega)) _ _ _ _ (fin_bl I q ?_)
    rw [eqbs_range hl, show its.toArray.size = ds.length by simp; omega]
    all_goals rfl
  · refine RcNeAt.lists_lengths pl.isList pl2.isList (by simp; omega) (by omega) _ _ _ _ (fin_bl I q ?_)
    rw [D.eqbs_len hl]
    all_goals rfl
end
theorem D.plains_ints : ∀ (xs : List Int), D.plains (xs.map D.int) = true
  | [] => rfl
  | x :: xs => by rw [List.map_cons, D.plains, D.plains_ints xs]; rfl
theorem D.plains_rows : ∀ (t : List (List Int)), D.plains (t.map dI) = true
  | [] => rfl
  | x :: xs => by rw [List.map_cons, D.plains, D.plains_rows xs, D.plain, D.plains_ints]; rfl
theorem D.depths_ints : ∀ (xs : List Int), D.depths (xs.map D.int) = 0
  | [] => rfl
  | x :: xs => by rw [List.map_cons, D.depths, D.depths_ints xs]; rfl
theorem D.depths_rows : ∀ (t : List (List Int)), D.depths (t.map dI) ≤ 1
  | [] => by rw [List.map_nil, D.depths]; omega
  | x :: xs => by
    have := D.depths_rows xs
    rw [List.map_cons, D.depths, D.depth, D.depths_ints]
    exact Nat.max_le.mpr ⟨Nat.le_refl _, this⟩
theorem D.eqbs_ints : ∀ (xs ys : List Int), D.eqbs (xs.map D.int) (ys.map D.int) = decide (xs = ys)
  | [], [] => rfl
  | [], y :: ys => rfl
  | x :: xs, [] => rfl
  | x :: xs, y :: ys => by
    rw [List.map_cons, List.map_cons, D.eqbs, D.eqbs_ints xs ys, D.eqb]
    by_cases h : x = y
    · subst h; simp
    · have : (x == y) = false := beq_eq_false_iff_ne.mpr h
      simp [this, h]
theorem D.eqbs_rows : ∀ (xs ys : List (List Int)), D.eqbs (xs.map dI) (ys.map dI) = decide (xs = ys)
  | [], [] => rfl
  | [], y :: ys => rfl
  | x :: xs, [] => rfl
  | x :: xs, y :: ys => by
    rw [List.map_cons, List.map_cons, D.eqbs, D.eqbs_rows xs ys, D.eqb, D.eqbs_ints]
    by_cases h : x = y
    · subst h; simp
    · simp [h]
def CMulB (i j : Int) : Prop := ∃ m n : Nat, i.natAbs < 2 ^ m ∧ j.natAbs < 2 ^ n ∧ m + n ≤ 100000000
def CDivB (i j : Int) : Prop := 0 < j ∧ ∃ m : Nat, j.natAbs < 2 ^ m ∧ m ≤ 9000
section
variable {X : Cx}
theorem op_mulB : OpR X (binaryOp .Mult) (rI CMulB fun i j => .int (i * j)) := opI fun i j _ _ _ _ _ hc q => by
  obtain ⟨m, n, h1, h2, h3⟩ := hc
  exact mul_int q (mulOk_of_bits (intBits_le h1) (intBits_le h2) (by omega))
theorem op_fdivB : OpR X (binaryOp .FloorDiv) (rI CDivB fun i j => .int (i / j)) := opI fun i j _ _ _ _ _ hc q => by
  obtain ⟨h0, m, h1, h2⟩ := hc
  have hj : j.natAbs ≠ 0 := by omega
  refine floordiv_int (by omega) ?_ (.inl (PyProof.noPylong_of_log2 (Nat.lt_of_lt_of_le ((Nat.log2_lt hj).mpr h1) h2)))
  rw [Int.fdiv_eq_ediv_of_nonneg i (by omega)]
  exact q
end
def nodupB : List Str → Bool
  | [] => true
  | x :: xs => !xs.contains x && nodupB xs
theorem nodupB_iff : ∀ {l : List Str}, nodupB l = true → l.Nodup
  | [], _ => List.nodup_nil
  | x :: xs, h => by
    rw [nodupB, Bool.and_eq_true, Bool.not_eq_true'] at h
    refine List.nodup_cons.mpr ⟨fun z => ?_, nodupB_iff h.2⟩
    have := List.contains_iff_mem.mpr z
    rw [this] at h
    exact absurd h.1 (by decide)
def compOk (sc0 scope : Scope) (tn cap : List Str) : Bool :=
  decide (scope.kind = .function) && nodupB (scope.names.map (·.1)) && nodupB (tn ++ cap) && cap.all (fun y => decide (scope.names.lookup y = some .free)) &&
    scope.names.all fun y => !decide (y.2 = .free) || (decide (sc0.names.lookup y.1 = some .cell) || decide (sc0.names.lookup y.1 = some .free))
theorem CompScope.of {X : Cx} {sc0 scope : Scope} {tn cap : List Str} {idx : List Nat} (h : compOk sc0 scope tn cap = true) (e : X.env.scope = sc0) (ci : idx.map (fun i => X.N[i]?) = cap.map some) : CompScope X scope tn cap idx := by
  unfold compOk at h
  simp only [Bool.and_eq_true, decide_eq_true_eq, List.all_eq_true, Bool.or_eq_true, Bool.not_eq_true', decide_eq_false_iff_not] at h
  obtain ⟨⟨⟨⟨h1, h2⟩, h3⟩, h4⟩, h5⟩ := h
  refine ⟨h1, nodupB_iff h2, nodupB_iff h3, h4, ci, fun y hy hf => ?_⟩
  rw [e]
  rcases h5 y hy with z | z
  · exact absurd hf z
  · exact z
structure FnAt (K : PySem.W.Frag) (mg : Str → Option Value) (x : Str) (st : Stmt) (ps : List Str) (f : Addr) (fd : FuncData) : Prop where
  fn : Fun K x x st f fd
  mg : mg x = some (.ref f)
  bd : Binds K fd ps []
end L2
set_option Elab.async false
set_option linter.all false
set_option maxRecDepth 100000
set_option maxHeartbeats 4000000
namespace L2
open PySem PySem.Spec PyProof.Rows
theorem small {n : Nat} (h : n ≤ 100000) : n ≤ sizeLine := Nat.le_trans h (by rw [sizeLine_eq]; decide)
section
variable {X : Cx} {K : PySem.W.Frag}
theorem ix_listK (h : X.K = K) : IxR X (rIxL K) := by subst h; exact ix_list
theorem ix_tupK (h : X.K = K) : IxR X (rIxT K) := by subst h; exact ix_tup
theorem pi_listK {tg l : Expr} {tl : TE} (h : X.K = K) (hl : PE X l tl) : PI X tg l (iList K tl) := by subst h; exact pi_list hl
theorem pi_zipK {elts : List Expr} {x1 : Nat} {tp : Pos} {a b : Expr} {ta : TA} {p pos : Pos} (h : X.K = K) (hg : Gl X "zip") (hm : X.mg "zip" = none) (ha : PA X [a, b] ta) (hs : starEach [a, b] X.env = [(false, eval a X.env), (false, eval b X.env)] := by rfl) (hs2 : starEach [b] X.env = [(false, eval b X.env)] := by rfl) :
    PI X (.Tuple elts x1 tp) (.Call (.Name "zip" p) [a, b] [] pos) (iZip K ta) := by subst h; exact pi_zip hg hm ha hs hs2
theorem call_lenK (h : X.K = K) : CallR X (.builtin "len") (fun xs H Q => ∃ p ys, xs = [.ref p] ∧ (SqL K H p ys ∨ SqT K H p ys) ∧ Q (.int ys.length) H) := by subst h; exact call_len_seq
theorem call_isinstK (h : X.K = K) : CallR X (.builtin "isinstance") (fun xs H Q => ∃ x n t b, xs = [x, .ty n] ∧ TyOf K H x t ∧ PySem.W.kitOne K t (.type n) = some b ∧ Q (.bl b) H) := by subst h; exact call_isinst
theorem call_sumK (h : X.K = K) (hc : X.calm = true) : CallR X (.builtin "sum") (fun xs H Q => ∃ (a : Addr) (ns : List Int), xs = [.ref a] ∧ SqL K H a (ns.map V.int) ∧ Q (.int ns.sum) H) := by subst h; exact call_sum hc
theorem call_listK (h : X.K = K) : CallR X (.type "list") (fun xs H Q => ∃ p ys, xs = [.ref p] ∧ (SqL K H p ys ∨ SqT K H p ys) ∧ ∀ l, H l = none → Q (.ref l) (upd H l (.lst ys))) := by subst h; exact call_list_of
theorem sl_listK (h : X.K = K) : SlR X (rSlL K) := by subst h; exact sl_list
theorem pg_tupK {es : List Expr} {k : Nat} {t : TGs} {n : Nat} {pos : Pos} (h : X.K = K) (hc : X.calm = true) (ht : PGs X es t)
    (hn : (assignEach es X.env).length = n := by rfl) (hst : (assignEach es X.env).findIdx? (·.1) = none := by rfl) : PG X (.Tuple es k pos) (gTup K n t) := by subst h; exact pg_tup hc ht hn hst
end
structure SameX (H H' : Hp) (bs : List Addr) : Prop where
  keep : ∀ b o, H b = some o → b ∉ bs → H' b = some o
  there : ∀ b ∈ bs, ∃ xs, H' b = some (.lst xs)
theorem SameX.clear {H H' : Hp} {bs : List Addr} {c : Addr} {xs : List V} (s : SameX H H' bs) (hc : c ∈ bs) : SameX H (L2.upd H' c (.lst xs)) bs :=
  ⟨fun b o e hb => by rw [upd_ne (fun z => hb (by rw [z]; exact hc))]; exact s.keep b o e hb, fun b hb => by
    by_cases z : b = c
    · subst z; exact ⟨_, upd_same⟩
    · rw [upd_ne z]; exact s.there b hb⟩
theorem Rows.take {H : Hp} {t : List (List Int)} {as : List Addr} (h : Rows H t as) : ∀ n : Nat, Rows H (t.take n) (as.take n) := by
  induction h with
  | nil => intro n; rw [List.take_nil, List.take_nil]; exact .nil
  | cons e _ ih =>
    intro n
    cases n with
    | zero => exact .nil
    | succ n => exact .cons e (ih n)
theorem kit_same {K : PySem.W.Frag} {n : String} : PySem.W.kitOne K (.type n) (.type n) = some true := by unfold PySem.W.kitOne; rw [if_pos (beq_self_eq_true _)]
end L2
set_option Elab.async false
set_option linter.all false
set_option maxRecDepth 100000
set_option maxHeartbeats 4000000
namespace L2
open PySem PySem.Spec PyProof.Rows
def CallRK (X : Cx) (f : Value) (ks : List Str) (r : List V → List V → Hp → VK → Prop) : Prop :=
  ∀ (pins : List (Addr × Obj)) (s : Shared) (σ : St) (H : Hp) (xs zs : List V) (us ws : List Value) (Q : VK), Inv X pins σ H s → Vals xs us → Vals zs ws → r xs zs H Q →
    wpAny (model X.prog X.w) X.A (call f us (ks.zip ws)) (EP X pins σ Q) X.xe s
section
variable {X : Cx} {x : Str} {p pos : Pos} {e : Expr} {es : List Expr} {kws : List Keyword} {t tk : TA} {id : String} {ks : List Str} {r : List V → List V → Hp → VK → Prop}
def tCBK (r : List V → List V → Hp → VK → Prop) (t tk : TA) : TE := fun σ H Q => t σ H fun vs H1 => tk σ H1 fun zs H2 => r vs zs H2 Q
theorem pe_callBK (hc : CallRK X (.builtin id) ks r) (hg : Gl X x) (hm : X.mg x = none) (hv : bootBuiltins x = some (.builtin id)) (ha : PA X (e :: es) t) (hkw : PK X kws tk) (hks : (backToKw pos (keywordEach kws X.env)).filterMap (·.1) = ks := by rfl) (hn : x ≠ "__name__" := by decide) (hdb : (x == ("__debug__" : Str)) = false := by decide)
    (he : backTo pos (starEach (e :: es) X.env) = (false, eval e X.env) :: backTo pos (starEach es X.env) := by rfl) (hplain : (backTo pos (starEach (e :: es) X.env)).any (·.1) = false := by rfl) (hall : (backToKw pos (keywordEach kws X.env)).all (·.1.isSome) = true := by rfl)
    (hkn : (backToKw pos (keywordEach kws X.env)).any (·.1.isNone) = false := by rfl) : PE X (.Call (.Name x p) (e :: es) kws pos) (tCBK r t tk) := by
  intro pins s σ H Q I h
  refine wpAny_Call_Name_kw (ld_blt I hg hm hv ?_ hn hdb)
  refine callWith_kw (thn (ha pos pins s σ H _ I h) fun us s1 ⟨vs, H1, I1, r1, q1⟩ => ?_) he hplain hall hkn
  refine thn (hkw pos pins s1 σ H1 _ I1 q1) fun ws s2 ⟨zs, H2, I2, rz, q2⟩ => ?_
  rw [hks]
  exact hc pins s2 σ H2 vs zs us ws Q I2 r1 rz q2
end
section
variable {X : Cx} {K : PySem.W.Frag}
theorem vals_of_ints : ∀ {us : List Value} {ns : List Int}, IntsAre us ns → Vals (ns.map V.int) us
  | _, _, .nil => .nil
  | _, _, .cons n t h => .cons ⟨t, rfl⟩ (vals_of_ints h)
theorem call_sortedRevK (hK : X.K = K) : CallRK X (.builtin "sorted") ["reverse"] (fun xs zs H Q => ∃ (a : Addr) (ns : List Int) (b : Bool), xs = [.ref a] ∧ zs = [.bl b] ∧ SqL K H a (ns.map V.int) ∧ ns.length < 64 ∧
    ∀ (l : Addr) (ms : List Int), H l = none → ms.Perm ns → Ordered b ms → Q (.ref l) (upd H l (.lst (ms.map V.int)))) := by
  subst hK
  intro pins s σ H xs zs us ws Q I r rz h
  obtain ⟨a, ns, b, rfl, rfl, hS, hz, q⟩ := h
  obtain ⟨u, rfl, ru⟩ := vals1 r
  obtain ⟨u2, rfl, ru2⟩ := vals1 rz
  obtain rfl : u = Value.ref a := ru
  obtain rfl : u2 = Value.bool b := ru2
  obtain ⟨its, rv, pl, _⟩ := I.list hS
  have hl := rv.length
  rw [List.length_map] at hl
  refine sorted_ints_rev pl.isList (ints_are rv) (by omega) fun out ms a1 a2 a3 => ?_
  obtain ⟨n, he⟩ := sortedAll_at s.heap its out
  have hn : H (s.heap.objs.size + 1) = none := I.hok.fresh (Nat.le_succ _)
  have hlm := a2.length_eq
  refine ⟨.ref (s.heap.objs.size + 1), _, I.laid (t' := s.toks) (o := .lst (ms.map V.int)) (fun b o e => sortedAll_old e) (Nat.le_succ _) ⟨?_, out.toList, n, vals_of_ints a1, ?_⟩, rfl, q _ ms hn a2 a3⟩
  · rw [List.length_map]; exact small (by omega)
  · exact he
end
theorem lri_no_len : typeLookup (.type "list_reverseiterator") "__len__" = pure none := by rw [typeLookup_type, builtinLookup_eq_fast]; kernel_rfl
theorem lri_hint : typeLookup (.type "list_reverseiterator") "__length_hint__" = pure (some (.builtin "list_reverseiterator.__length_hint__")) := by rw [typeLookup_type, builtinLookup_eq_fast]; kernel_rfl
theorem sub_lri_self : isSubtype (.type "list_reverseiterator") (.type "list_reverseiterator") = pure true := by rw [isSubtype_type]; kernel_rfl
section
variable {prog : Program} {w : World} {A : Around} {E : Value → Shared → Prop} {s : Shared}
theorem wpAny_hint_rev {it l : Addr} {i : Int} {Q : Bool → Shared → Prop} (hit : s.heap.IsRevIter it l i) (h : Q false s) : wpAny (model prog w) A (Builtin.List.listLengthHint (.ref it)) Q E s := by
  unfold Builtin.List.listLengthHint
  refine wpAny_bind (wpAny_specialOf hit.typeIs lri_no_len ?_)
  show wpAny _ A (specialOf (Value.ref it) (Str.ofString "__length_hint__") >>= _) _ _ _
  refine wpAny_bind (wpAny_specialOf hit.typeIs lri_hint ?_)
  generalize hid : ("list_reverseiterator.__length_hint__" : String) = id0
  wp_delta
  rw [show splitId id0 = some ("list_reverseiterator", "__length_hint__") from by subst hid; decide +kernel]
  subst hid
  refine wpAny_bind (wpAny_isInstance (T := "list_reverseiterator") (b := true) hit.typeIs sub_lri_self ?_)
  refine wpAny_ite_split (fun hab => absurd hab (by decide)) (fun _ => ?_)
  refine wpAny_ite_split (fun _ => ?_) (fun hab => absurd (by decide +kernel) hab)
  refine wpAny_ite_split (fun hab => absurd hab (by decide)) (fun _ => ?_)
  exact wpAny_pure h
theorem wpAny_extend_rev {R : Result → Shared → Prop} {it l : Addr} {items : Array Value} (hh : A.handled = none) (hit : s.heap.IsRevIter it l ((items.size : Int) - 1)) (hl : s.heap.IsList l items) (hlen : items.size ≤ sizeLine) (S : Addr) (res : Value) (c₀ : Nat)
    (hS : s.heap.get? S = some { cls := .type "list", data := .seq #[] c₀ }) (hSl : S ≠ l)
    (hR : ∀ h' tk acc' c', (∀ b o, b ≠ S → b ≠ it → s.heap.get? b = some o → h'.get? b = some o) → h'.get? S = some { cls := .type "list", dict := none, data := .seq acc' c', slots := #[] } →
      ItemsOf (fun i v => items[items.size - 1 - i]? = some v) acc' items.size → R (.ok (.ret res)) { s with heap := h', toks := tk }) :
    wpAny (model prog w) A.in1 (Builtin.List.listExtendWith (.ref S) (.ref it) res)
      (fun fin s' => match fin with | .done f => R (.ok f) s' | .again c' => c'.quiet = true ∧ codeAny (model prog w) A c' R s') (fun e s' => R (.error e) s') s := by
  obtain ⟨oi, hoi, hci, hdi⟩ := id hit
  have hSI : S ≠ it := cls_ne hS hoi rfl hci (by decide)
  obtain ⟨ol, hol, hcl, _⟩ := id hl
  have hlI : l ≠ it := cls_ne hol hoi hcl hci (by decide)
  have hSf : S ∉ [it, l] := fun hm => by
    rcases List.mem_cons.mp hm with e | hm
    · exact hSI e
    · exact hSl (List.mem_singleton.mp hm)
  have W := (Walks.listRev (prog := prog) (w := w) (A := A.in1) hh it l hlI items).toS
  unfold Builtin.List.listExtendWith
  refine wpAny_bind (wpAny_typeOf (T := "list_reverseiterator") hit.typeIs ?_)
  have h1 : Builtin.List.listSameRef (.ref S) (.ref it) = false := by simp [Builtin.List.listSameRef, hSI]
  have h2 : (Value.type "list_reverseiterator" == Value.type "list") = false := by decide
  have h3 : (Value.type "list_reverseiterator" == Value.type "tuple") = false := by decide
  simp only [h1, h2, h3, Bool.or_false, Bool.false_eq_true, if_false]
  refine wpAny_bind (wpAny_pyIter_revIter hit ?_)
  refine wpAny_bind (wpAny_holding (wpAny_hint_rev hit ?_))
  refine wpAny_ite_split (fun hab => absurd hab (by decide)) (fun _ => ?_)
  refine wpAny_pure ⟨plainId_quiet F.plain_extend_loop _, ?_⟩
  refine codeAny_extend_loopS W hlen S hSf res items.size 0 _ #[] c₀ rfl (Nat.zero_le _) ⟨Nat.zero_le _, by simpa using hit, hl⟩ hS (ItemsOf.nil _) fun s' acc' c' hm hS' hacc => ?_
  rw [Moved.eq_with hm]
  refine hR s'.heap s'.toks acc' c' (fun b o hb hb2 e => hm.heap b o (fun hmem => ?_) e) hS' hacc
  rcases List.mem_cons.mp hmem with e' | hmem
  · exact hb e'
  · exact hb2 (List.mem_singleton.mp hmem)
theorem wpAny_list_init_rev {R : Result → Shared → Prop} {it l : Addr} {items : Array Value} (hh : A.handled = none) (hit : s.heap.IsRevIter it l ((items.size : Int) - 1)) (hl : s.heap.IsList l items) (hlen : items.size ≤ sizeLine) (S : Addr)
    (hS : s.heap.get? S = some { cls := .type "list", data := .seq #[] }) (hSl : S ≠ l)
    (hR : ∀ h' tk acc' c', (∀ b o, b ≠ S → b ≠ it → s.heap.get? b = some o → h'.get? b = some o) → h'.get? S = some { cls := .type "list", dict := none, data := .seq acc' c', slots := #[] } →
      ItemsOf (fun i v => items[items.size - 1 - i]? = some v) acc' items.size → R (.ok (.ret .none)) { s with heap := h', toks := tk }) :
    wpAny (model prog w) A.in1 (Builtin.«list.__init__» ⟨[.ref S, .ref it], []⟩)
      (fun fin s' => match fin with | .done f => R (.ok f) s' | .again c' => c'.quiet = true ∧ codeAny (model prog w) A c' R s') (fun e s' => R (.error e) s') s := by
  obtain ⟨oi, hoi, hci, hdi⟩ := id hit
  have hSI : S ≠ it := cls_ne hS hoi rfl hci (by decide)
  show wpAny _ _ (do let old ← Builtin.List.listItems (.ref S); Builtin.List.listUpdate (.ref S) (fun _ => #[]); letGo old.toList.reverse; Builtin.List.listExtendWith (.ref S) (.ref it) .none) _ _ s
  refine wpAny_bind ?_
  unfold Builtin.List.listItems
  refine wpAny_bind (wpAny_seqItems hS rfl (wpAny_pure ?_))
  show wpAny _ _ (updateSeq S (fun _ => #[]) >>= fun _ => letGo (#[] : Array Value).toList.reverse >>= fun _ => Builtin.List.listExtendWith (.ref S) (.ref it) .none) _ _ s
  refine wpAny_bind (wpAny_updateSeq hS rfl ?_)
  have hS₂ := Heap.get?_update_self (Obj.mapSeq (fun _ => (#[] : Array Value))) hS rfl
  have oth : ∀ b o, b ≠ S → s.heap.get? b = some o → (s.heap.update S (Obj.mapSeq (fun _ => (#[] : Array Value)))).get? b = some o :=
    fun b o hb e => (Heap.get?_update_other _ _ (Ne.symm hb)).trans e
  refine wpAny_bind (wpAny_letGo ?_)
  refine wpAny_extend_rev hh (hit.at fun o e => oth it o (Ne.symm hSI) e) (hl.at fun o e => oth l o (Ne.symm hSl) e) hlen S .none _ hS₂ hSl fun h' tk acc' c' hk hS' hacc => ?_
  exact hR h' tk acc' c' (fun b o hb hb2 e => hk b o hb hb2 (oth b o hb e)) hS' hacc
theorem call_list_rev {Q : Value → Shared → Prop} {it l : Addr} {items : Array Value} (hh : A.handled = none) (hit : s.heap.IsRevIter it l ((items.size : Int) - 1)) (hl : s.heap.IsList l items) (hlen : items.size ≤ sizeLine)
    (hQ : ∀ h' tk acc' c', (∀ b o, b ≠ it → s.heap.get? b = some o → h'.get? b = some o) →
      h'.get? s.heap.objs.size = some { cls := .type "list", dict := none, data := .seq acc' c', slots := #[] } → ItemsOf (fun i v => items[items.size - 1 - i]? = some v) acc' items.size → Q (.ref s.heap.objs.size) { s with heap := h', toks := tk }) :
    wpAny (model prog w) A (call (.type "list") [.ref it]) Q E s := by
  refine callType_codes (Q₁ := fun obj s₁ => obj = .ref s.heap.objs.size ∧ s₁ = { s with heap := s.heap.push { cls := .type "list", data := .seq #[] } }) F.called_list (F.typeCall_list_1 _) F.entry_list_init
    (code_list_new _ ⟨rfl, rfl⟩) fun obj s₁ h₁ => ?_
  obtain ⟨rfl, rfl⟩ := h₁
  have hS : (s.heap.push { cls := .type "list", data := .seq #[] }).get? s.heap.objs.size = some { cls := .type "list", data := .seq #[] } := Heap.get?_push_size _ rfl
  obtain ⟨ol, hol, _⟩ := id hl
  refine ⟨⟨_, hS, rfl⟩, F.args_list_init_2 _ _, wpAny_list_init_rev (A := A.in1) hh (hit.at fun o e => Heap.get?_push_of_some _ e) (hl.at fun o e => Heap.get?_push_of_some _ e) hlen _ hS (Nat.ne_of_gt (Heap.lt_size hol)) fun h' tk acc' c' hk hS' hacc => ?_⟩
  exact ⟨rfl, hQ h' tk acc' c' (fun b o hb e => hk b o (Nat.ne_of_lt (Heap.lt_size e)) hb (Heap.get?_push_of_some _ e)) hS' hacc⟩
end
section
variable {X : Cx} {K : PySem.W.Frag} {e : Expr} {te : TE} {p p2 pos pos2 : Pos}
def tListRev (K : PySem.W.Frag) (te : TE) : TE := fun σ H Q => te σ H fun x H1 => ∃ a xs, x = .ref a ∧ SqL K H1 a xs ∧ ∀ l, H1 l = none → Q (.ref l) (upd H1 l (.lst xs.reverse))
theorem pe_listRevK (hK : X.K = K) (hc : X.calm = true) (hg : Gl X "list") (hm : X.mg "list" = none) (hg2 : Gl X "reversed") (hm2 : X.mg "reversed" = none) (he : PE X e te)
    (hs : starEach [Expr.Call (.Name "reversed" p2) [e] [] pos2] X.env = [(false, eval (.Call (.Name "reversed" p2) [e] [] pos2) X.env)] := by rfl) (hs2 : starEach [e] X.env = [(false, eval e X.env)] := by rfl) :
    PE X (.Call (.Name "list" p) [.Call (.Name "reversed" p2) [e] [] pos2] [] pos) (tListRev K te) := by
  subst hK
  intro pins s σ H Q I h
  refine wpAny_Call_Name_kw (ld_blt I hg hm boot_list ?_)
  refine PyProof.Rows.callWith_type1 ?_ hs rfl
  rw [hs]
  refine Calls.spliced_cons ?_
  refine wpAny_Call_Name_kw (ld_blt I hg2 hm2 boot_reversed ?_)
  refine PyProof.Rows.callWith_type1 ?_ hs2 rfl
  rw [hs2]
  refine Calls.spliced_cons (thn (he pins s σ H _ I h) fun v s1 ⟨x, H1, I1, r1, a, xs, ex, hS, q⟩ => ?_)
  subst ex
  obtain rfl : v = Value.ref a := r1
  obtain ⟨its, rv, pl, hz⟩ := I1.list hS
  have hlv := rv.length
  refine Calls.spliced_nil (PySem.call_reversed_list pl.isList (Calls.spliced_nil ?_))
  have hlt : a < s1.heap.objs.size := by obtain ⟨o, e, _⟩ := pl.isList; exact Heap.lt_size e
  refine call_list_rev (items := its.toArray) (I.ok.hd hc) ⟨_, Heap.get?_push_size _ rfl, rfl, rfl⟩ (pl.isList.at fun o e => Heap.get?_push_of_some _ e) (by simp; omega) fun h' tk acc' c' hk hS' hacc => ?_
  have hsz : (s1.heap.push (revObj a ((its.toArray.size : Int) - 1))).objs.size = s1.heap.objs.size + 1 := Heap.size_push ..
  have k1 : ∀ b o, s1.heap.get? b = some o → h'.get? b = some o := fun b o e => hk b o (Nat.ne_of_lt (Heap.lt_size e)) (Heap.get?_push_of_some _ e)
  have hn : H1 (s1.heap.objs.size + 1) = none := I1.hok.fresh (Nat.le_succ _)
  rw [hsz] at hS' ⊢
  have hacc2 : Vals xs.reverse acc'.toList := by
    obtain ⟨a1, a2⟩ := hacc
    have e : acc'.toList = its.reverse := by
      refine List.ext_getElem (by simpa using a1) fun n h1 h2 => ?_
      have h3 : n < acc'.size := by simpa using h1
      have q := a2 n acc'[n] (Array.getElem?_eq_getElem h3)
      rw [List.getElem_reverse]
      have q' : its[its.length - 1 - n]? = some acc'[n] := by simpa using q
      obtain ⟨_, z⟩ := List.getElem?_eq_some_iff.mp q'
      rw [z]
      simp
    rw [e]
    exact rv.reverse
  refine ⟨.ref (s1.heap.objs.size + 1), _, I1.laid (t' := tk) (o := .lst xs.reverse) k1 (Nat.le_succ _) ⟨by rw [List.length_reverse]; exact hz, acc'.toList, c', hacc2, ?_⟩, rfl, q _ hn⟩
  rw [hS']
end
end L2
namespace L2
open PySem PySem.Spec PyProof.Rows
def fall (ns : List Int) : List Int := ns.mergeSort fun a b => decide (b ≤ a)
theorem fall_perm (ns : List Int) : (fall ns).Perm ns := List.mergeSort_perm ns _
theorem fall_desc (ns : List Int) : (fall ns).Pairwise (· ≥ ·) := by
  have h := List.pairwise_mergeSort (le := fun a b : Int => decide (b ≤ a)) (fun a b c h1 h2 => by simp only [decide_eq_true_eq] at *; omega) (fun a b => by simp only [Bool.or_eq_true, decide_eq_true_eq]; omega) ns
  exact h.imp fun h => by simpa using h
theorem fall_eq {ms ns : List Int} (hp : ms.Perm ns) (h : ms.Pairwise (· ≥ ·)) : ms = fall ns :=
  (hp.trans (fall_perm ns).symm).eq_of_pairwise (fun x y _ _ h1 h2 => Int.le_antisymm h2 h1) h (fall_desc ns)
theorem fall_length (ns : List Int) : (fall ns).length = ns.length := (fall_perm ns).length_eq
def hds (xs : List Int) : List Int := (List.range xs.length).map fun i => (xs.take (i + 1)).sum
end L2
set_option Elab.async false
set_option linter.all false
set_option maxRecDepth 100000
set_option maxHeartbeats 4000000
namespace L2
open PySem PySem.Spec PyProof.Rows
section
variable {X : Cx} {K : PySem.W.Frag}
theorem call_minL (hK : X.K = K) (hc : X.calm = true) : CallR X (.builtin "min") (fun xs H Q => ∃ (a : Addr) (ns : List Int), xs = [.ref a] ∧ SqL K H a (ns.map V.int) ∧ 0 < ns.length ∧ ∀ M, M ∈ ns → (∀ x ∈ ns, M ≤ x) → Q (.int M) H) := by
  subst hK
  intro pins s σ H xs us Q I r h
  obtain ⟨a, ns, rfl, hS, hne, q⟩ := h
  obtain ⟨u, rfl, ru⟩ := vals1 r
  obtain rfl : u = Value.ref a := ru
  obtain ⟨its, rv, pl, hz⟩ := I.list hS
  have hi := ints_are rv
  obtain ⟨xs', e⟩ := hi.allInts.items
  have hl : s.heap.IsList a (intItems xs') := by rw [← e]; exact pl.isList
  have hns : ns = xs'.toList.map (·.1) := by rw [← hi.numsOf, ← nums_intItems, ← e]
  have hsz : 0 < xs'.size := by
    have h3 := hne; rw [hns, List.length_map, Array.length_toList] at h3; exact h3
  refine min_intList (I.ok.hd hc) hl hsz fun v h' tk hv hk => ?_
  obtain ⟨t, rfl⟩ := intItems_at hv
  obtain ⟨h1, h2⟩ := argBest_lt (numAt xs') (xs'.size - 1)
  refine ⟨.int _, H, I.kept hk, ⟨t, rfl⟩, q _ ?_ fun b hb => ?_⟩
  · rw [hns, numAt_eq]; exact getD_mem (by rw [List.length_map, Array.length_toList]; omega)
  · rw [hns] at hb
    obtain ⟨j, hj, rfl⟩ := mem_getD hb
    rw [List.length_map, Array.length_toList] at hj
    rw [← numAt_eq]; exact h2 j (by omega)
end
end L2
namespace L2
open PySem PySem.Spec PyProof.Rows
section
variable {X : Cx} {K : PySem.W.Frag}
end
end L2
namespace L2
open PySem PySem.Spec PyProof.Rows
section
variable {X : Cx}
end
end L2
set_option Elab.async false
set_option linter.all false
set_option maxRecDepth 100000
set_option maxHeartbeats 4000000
namespace L2
open PySem PySem.Spec PyProof.Rows
section
variable {prog : Program} {w : World} {A : Around} {E : Value → Shared → Prop} {s : Shared}
theorem draw_list {it t : Addr} {items : Array Value} (hne : t ≠ it) : ∀ (n i : Nat) (s : Shared) (Q : List Value → Shared → Prop), s.heap.IsListIter it t i → s.heap.IsList t items → i + n ≤ items.size →
    (∀ h', h'.IsListIter it t (i + n) → Heap.SameBut it s.heap h' → Q ((items.toList.drop i).take n) { s with heap := h' }) → wpAny (model prog w) A (draw (.ref it) n) Q E s
  | 0, i, s, Q, hit, _, _, hQ => by
    show wpAny _ _ (pure []) Q E s
    exact wpAny_pure (by simpa using hQ s.heap hit (Heap.SameBut.refl ..))
  | n + 1, i, s, Q, hit, ht, hle, hQ => by
    have hlt : i < items.size := by omega
    show wpAny _ _ (pyNext (.ref it) >>= _) Q E s
    refine wpAny_bind (wpAny_pyNext_list_item hit ht (x := items[i]) (by simp [hlt]) fun h₁ hit₁ hs₁ => ?_)
    have ht₁ : h₁.IsList t items := ht.at fun o e => (hs₁.2 t hne).trans e
    refine wpAny_bind (wpAny_holding (draw_list hne n (i + 1) _ _ hit₁ ht₁ (by omega) fun h₂ hit₂ hs₂ => wpAny_pure ?_))
    have hd : items.toList.drop i = items[i] :: items.toList.drop (i + 1) := by simp [List.drop_eq_getElem_cons, hlt]
    have := hQ h₂ (by rw [show i + (n + 1) = i + 1 + n by omega]; exact hit₂) (hs₁.trans hs₂)
    rw [hd, List.take_succ_cons] at this
    exact this
theorem unpackItems_list {t : Addr} {items : Array Value} {Q : List Value → Shared → Prop} (hh : A.handled = none) (ht : s.heap.IsList t items)
    (hQ : ∀ h', Heap.ExtBut s.heap.objs.size s.heap h' → Q items.toList { s with heap := h' }) : wpAny (model prog w) A (unpackItems (.ref t) items.size none) Q E s := by
  have hlt : t ≠ s.heap.objs.size := by obtain ⟨o, ho, _⟩ := ht; exact Nat.ne_of_lt (Heap.lt_size ho)
  unfold unpackItems
  refine wpAny_bind ?_
  · unfold notIterableAtAll
    refine wpAny_bind (wpAny_specialOf ht.typeIs PySem.F.slot_list_iter.lookup ?_)
    refine wpAny_pure ?_
    simp only [Bool.false_eq_true, if_false]
    refine wpAny_bind (wpAny_holding (wpAny_pyIter_list ht ?_))
    refine wpAny_bind (wpAny_holding (draw_list hlt items.size 0 _ _ ⟨_, Heap.get?_push_size _ rfl, rfl, rfl⟩ (ht.push _) (by omega) fun h₁ hit₁ hs₁ => ?_))
    have hall : List.take items.size (List.drop 0 items.toList) = items.toList := by
      rw [List.drop_zero]; exact List.take_of_length_le (by simp)
    rw [hall]
    rw [if_neg (by simp)]
    have ht₁ : h₁.IsList t items := (ht.push _).at fun o e => (hs₁.2 t hlt).trans e
    refine wpAny_bind (wpAny_holding (wpAny_pyNext_list_end hh hit₁ ht₁ (by simp) fun h₂ he₂ => ?_))
    simp only [Option.isSome_none, Bool.false_eq_true, if_false]
    refine wpAny_pure (hQ h₂ fun b o hb e => he₂ b o hb ((hs₁.2 b hb).trans (Heap.get?_push_of_some _ e)))
theorem assign_Tuple_list {env : Env} {elts : List Expr} {x1} {pos : Pos} {t : Addr} {items : Array Value} {Q : Unit → Shared → Prop} (hh : A.handled = none) (ht : s.heap.IsList t items)
    (hn : (assignEach elts env).length = items.size) (hstar : (assignEach elts env).findIdx? (·.1) = none)
    (h : ∀ h', Heap.ExtBut s.heap.objs.size s.heap h' → wpAny (model prog w) A (assignInOrder ((assignEach elts env).map (·.2)) items.toList) Q E { s with heap := h' }) :
    wpAny (model prog w) A (assign (.Tuple elts x1 pos) env (.ref t)) Q E s := by
  rw [assign_Tuple]
  refine wpAny_bind (wpAny_standAt ?_)
  unfold unpack
  rw [hn, hstar]
  exact wpAny_bind (wpAny_holding (unpackItems_list hh ht h))
end
section
variable {X : Cx} {K : PySem.W.Frag}
def gLst (K : PySem.W.Frag) (n : Nat) (t : TGs) : TG := fun v σ H Q => ∃ a xs, v = .ref a ∧ SqL K H a xs ∧ xs.length = n ∧ t xs σ H Q
theorem pg_lstK {es : List Expr} {k : Nat} {t : TGs} {n : Nat} {pos : Pos} (hK : X.K = K) (hc : X.calm = true) (h : PGs X es t)
    (hn : (assignEach es X.env).length = n := by rfl) (hst : (assignEach es X.env).findIdx? (·.1) = none := by rfl) : PG X (.Tuple es k pos) (gLst K n t) := by
  subst hK
  intro pins s σ H v u Q I r hw
  obtain ⟨a, xs, e1, hq, hl, hw⟩ := hw
  subst e1
  cases r
  obtain ⟨its, rv, ht, hz⟩ := I.list hq
  refine assign_Tuple_list (I.ok.hd hc) ht.isList (by simp [hn, ← hl, rv.length]) hst fun h' hx => ?_
  have I1 : Inv X pins σ H { s with heap := h' } := I.kept (t' := s.toks) fun b o e => hx b o (Nat.ne_of_lt (Heap.lt_size e)) e
  exact h pins _ σ H xs _ Q I1 (by simpa using rv) hw
def GSets (k : Nat) (g : TGs) : Prop := ∀ x σ H Q, g x σ H Q → g x σ H fun σ2 H2 => Q σ2 H2 ∧ σ2.length = σ.length ∧ ∀ j, k ≤ j → σ2[j]? = σ[j]?
theorem GSets.nil {k : Nat} : GSets k gNil := fun x σ H Q q => ⟨q.1, q.2, rfl, fun _ _ => rfl⟩
end
end L2
set_option Elab.async false
set_option linter.all false
set_option maxRecDepth 100000
set_option maxHeartbeats 4000000
namespace L2
open PySem PySem.Spec PyProof.Rows
section
variable {X : Cx}
end
end L2
namespace L2
open PySem PySem.Spec PyProof.Rows
section
variable {X : Cx} {K : PySem.W.Frag}
end
end L2
set_option Elab.async false
set_option linter.all false
set_option maxRecDepth 100000
set_option maxHeartbeats 4000000
namespace L2
open PySem PySem.Spec PyProof.Rows SeqAt MeetsSeq
theorem list_indexFrom (l : Addr) (items : Array Value) (n : Nat) (dd : Option Addr) (sl : Array (Option Value)) (x : Value) (e : Value → Bool) (st : Nat) (t : Tok) (j : Nat) (hj : j < items.size) (hst : st ≤ j) (hsmall : (j : Int) < 2 ^ 63 - 1)
    (hit : e items[j] = true) (hno : ∀ m (hm : m < items.size), st ≤ m → m < j → e items[m] = false) :
    Meets (Builtin.«list.index» ⟨[.ref l, x, .int st t], []⟩)
      (fun A R s => s.heap.get? l = some { cls := .type "list", dict := dd, data := .seq items n, slots := sl } ∧ (∀ y, y ∈ items → EqAt A.in1 s y x (e y)) ∧ R (.ok (.ret (.int j s.toks))) { s with toks := s.toks + 1 }) := by
  intro prog w A R s h
  obtain ⟨hp, g, d, tk, os⟩ := s; obtain ⟨hl, he, h⟩ := h
  wp_walk using wpAny_loadPart' hl
  have a1 : ((fun i : Int => if i < 0 then max 0 (i + (items.size : Int)) else i) ((some (st : Int)).getD 0)) = ((st : Nat) : Int) := by
    show (if (st : Int) < 0 then _ else (st : Int)) = _
    rw [if_neg (by omega)]
  have a2 : ((fun i : Int => if i < 0 then max 0 (i + (items.size : Int)) else i) ((none : Option Int).getD (2 ^ 63 - 1))) = 2 ^ 63 - 1 := by simp
  rw [a1, a2]
  exact ⟨plainId_quiet plain_index_loop _, codeAny_builtin entry_index_loop (by
    rw [Around.under_plainId plain_index_loop _]
    exact index_loopAt l items n dd sl x e (2 ^ 63 - 1) j hj hsmall hit _ st rfl hst hno prog w A R _ ⟨hl, he, h⟩)⟩
section
variable {X : Cx}
def rIndexF (K : PySem.W.Frag) : V → List V → Hp → VK → Prop := fun x vs H Q => ∃ (l : Addr) (xs : List V) (y : V) (k j : Nat), x = .ref l ∧ vs = [y, .int k] ∧ H l = some (.lst xs) ∧ flatV y = true ∧ xs.all flatV = true ∧ k ≤ j ∧ (∃ z, xs[j]? = some z ∧ eqV z y = true) ∧ (∀ m z, k ≤ m → m < j → xs[m]? = some z → eqV z y = false) ∧ Q (.int j) H
theorem mt_indexF : MtM X "list.index" (rIndexF X.K) := by
  intro pins s σ H x vs v us Q I rx rv h
  obtain ⟨l, xs, y, k0, j, rfl, rfl, hH, fy, fs, hkj, ⟨z, hz, ez⟩, hb, q⟩ := h
  cases rx
  obtain ⟨u, u2, rfl, ru, ru2⟩ := vals2 rv
  obtain ⟨t, rfl⟩ := ru2
  obtain ⟨hs, its, n, r, hl, e⟩ := I.lstM hH
  have hj : j < xs.length := (List.getElem?_eq_some_iff.mp hz).1
  have key : ∀ m (hm : m < its.toArray.size) w, xs[m]? = some w → eqU y its.toArray[m] = eqV w y := fun m hm w hw => by
    obtain ⟨u', hu', rw'⟩ := r.get hw
    have fw : flatV w = true := List.all_eq_true.mp fs w (List.mem_of_getElem? hw)
    have : its.toArray[m] = u' := by
      have := (List.getElem?_eq_some_iff.mp hu').2
      simpa using this
    rw [this]
    exact eqU_of rw' fw
  have hsz : its.toArray.size = xs.length := by simp [hl]
  refine call_meets F.slot_list_index ⟨_, e, rfl⟩ F.entry_list_index (F.args_list_index_3 _ _ _) (list_indexFrom l its.toArray n none #[] u (eqU y) k0 t j (by omega) hkj ?_ ?_ (fun m hm hk hmj => ?_)) ⟨e, fun w hw => mem_eqAt ru fy r fs w (by simpa using hw), ?_⟩
  · have : sizeLine < 2 ^ 63 - 1 := by decide
    omega
  · rw [key j (by omega) z hz]; exact ez
  · have hm' : m < xs.length := by omega
    rw [key m hm _ (List.getElem?_eq_getElem hm')]
    exact hb m _ hk hmj (List.getElem?_eq_getElem hm')
  · exact ⟨.int j, H, I.tok _, ⟨_, rfl⟩, q⟩
end
end L2
set_option Elab.async false
set_option linter.all false
set_option maxRecDepth 100000
set_option maxHeartbeats 4000000
namespace L2
open PySem PySem.Spec PyProof.Rows
theorem GSets.cons {i k : Nat} {u : TGs} (h : i < k) (hu : GSets k u) : GSets k (gCons (gName i) u) := fun x σ H Q ⟨v, r, e, q⟩ => ⟨v, r, e, by
  have q2 := hu r (σ.set i (some v)) H Q q
  have e1 : (fun (σ2 : St) (H2 : Hp) => Q σ2 H2 ∧ σ2.length = (σ.set i (some v)).length ∧ ∀ j, k ≤ j → σ2[j]? = (σ.set i (some v))[j]?) = fun σ2 H2 => Q σ2 H2 ∧ σ2.length = σ.length ∧ ∀ j, k ≤ j → σ2[j]? = σ[j]? := by
    funext σ2 H2
    refine propext ⟨fun z => ⟨z.1, by rw [z.2.1, List.length_set], fun j hj => by rw [z.2.2 j hj, List.getElem?_set_ne (by omega)]⟩, fun z => ⟨z.1, by rw [z.2.1, List.length_set], fun j hj => by rw [z.2.2 j hj, List.getElem?_set_ne (by omega)]⟩⟩
  rw [e1] at q2
  exact q2⟩
theorem GSet.tup {K : PySem.W.Frag} {k n : Nat} {u : TGs} (hu : GSets k u) : GSet k (gTup K n u) := fun x σ H Q ⟨a, xs, e, hs, hl, q⟩ => ⟨a, xs, e, hs, hl, hu xs σ H Q q⟩
end L2
set_option linter.all false
set_option maxRecDepth 100000
namespace L2
open PySem PySem.Spec PyProof.Rows
theorem ObjOk.there {P : Program} {w : World} {H : Hp} {h : Heap} {a : Addr} {o : HO} (x : ObjOk P w H h a o) : ∃ ob, h.get? a = some ob := by
  cases o with
  | lst xs => obtain ⟨_, _, _, _, e⟩ := x; exact ⟨_, e⟩
  | tup xs => obtain ⟨_, _, _, ob, e, _⟩ := x; exact ⟨_, e⟩
  | dK kvs => obtain ⟨_, _, _, _, o, _, _, e, _⟩ := x; exact ⟨_, e⟩
  | dT kvs => obtain ⟨_, _, _, _, o, _, _, e, _⟩ := x; exact ⟨_, e⟩
  | set S n => obtain ⟨o, _, _, _, e, _⟩ := x; exact ⟨_, e⟩
  | ins C dx fs => obtain ⟨_, _, _, e, _⟩ := x; exact ⟨_, e⟩
  | own y => exact x
  | xd fs => obtain ⟨_, ⟨_, _, _, e, _⟩, _⟩ := x; exact ⟨_, e⟩
  | rng lo hi => obtain ⟨_, _, _, e⟩ := x; exact ⟨_, e⟩
  | frz ob u => obtain ⟨e, _⟩ := x; exact ⟨_, e⟩
  | tbl ps => exact ⟨_, (show h.get? a = some _ from x)⟩
  | met f y => exact ⟨_, (show h.get? a = some _ from x)⟩
  | ext φ => obtain ⟨_, e, _⟩ := x; exact e
def Fly (h : Heap) (H : Hp) (lo : Heap) (a : Addr) (C : Value) : Prop :=
  (H a = none ∧ lo.get? a = none) ∧ ∃ oe vs a0 T oT ts, h.get? a = some oe ∧ (oe.cls = C ∧ vs[0]? = some a0) ∧ oe.data = .fields vs ∧ vs[1]? = some (.ref T) ∧ T ≠ a ∧ h.get? T = some oT ∧ oT.data = .fields ts ∧ ts[3]? = some .none ∧ H T = none ∧ lo.get? T = none
def FlyN (h : Heap) (H : Hp) (lo : Heap) (a : Addr) (C : Value) : Prop :=
  (H a = none ∧ lo.get? a = none) ∧ ∃ oe vs a0, h.get? a = some oe ∧ (oe.cls = C ∧ vs[0]? = some a0) ∧ oe.data = .fields vs ∧ vs[1]? = some .none
def CXR (P : Program) (w : World) : CXT := fun outer H s E e s' => ∃ (a C : Addr) (H' : Hp), e = .ref a ∧ s'.os = s.os ∧ AllBare s'.gens ∧ Un (frs outer) [] H H' s.heap s'.heap ∧ HOk P w H' s'.heap ∧
  Fly s'.heap H' s.heap a (.ref C) ∧ E (.ref C) none H'
section
variable {P : Program} {w : World} {K : PySem.W.Frag} {mg : Str → Option Value} {base : Heap} {N : List Str} {qual : Str} {scope : Scope} {f : Addr} {cd : Value} {A : Around} {outer : List Env} {s0 : Shared} {H0 : Hp} {E : XK}
variable {pins : List (Addr × Obj)} {σ : St} {H' : Hp} {s' : Shared} {a C : Addr} {h2 : Heap}
theorem left_done {as : List Addr} {a0 : Value} (J : Inv (cxOf (CXR P w) P w K mg base N qual scope f cd A outer s0 H0 E) pins σ H' s')
    (has : ∀ b ∈ as, b ∈ frs (envOfC qual scope s0.heap.objs.size f cd :: outer) ∨ (H' b = none ∧ s0.heap.get? b = none))
    (L : Heap.LeftW (PySem.W.hideAll s'.heap as) (envOfC qual scope s0.heap.objs.size f cd :: outer) a (.ref C) a0 s'.heap h2) (ha : H' a = none ∧ s0.heap.get? a = none) (q : E (.ref C) none H') :
    CXR P w outer H0 s0 E (.ref a) { s' with heap := h2 } := by
  obtain ⟨k1, k2, k3, k4⟩ := L
  have bs : Un (frs outer) [] H0 H' s0.heap s'.heap := J.base
  have keepB : ∀ b o, s'.heap.get? b = some o → b ∉ as → h2.get? b = some o := fun b o e n => k1 b o (PySem.W.hideAll_get _ e n)
  have stf : ∀ b ∈ frs (envOfC qual scope s0.heap.objs.size f cd :: outer), H' b = none := J.stkFree
  have sts : ∀ b ∈ frs (envOfC qual scope s0.heap.objs.size f cd :: outer), b ∈ s0.heap.objs.size :: frs outer := J.stkSub
  have trk : ∀ b u, H' b = some u → b ∉ as := fun b u e z => by
    rcases has b z with z | ⟨z, _⟩
    · rw [stf b z] at e; cases e
    · rw [z] at e; cases e
  have nofld : ∀ b ∈ frs (envOfC qual scope s0.heap.objs.size f cd :: outer), ∃ o, s'.heap.get? b = some o ∧ ∀ vs, o.data ≠ .fields vs := fun b hb => (J.stack.mem hb).2
  refine ⟨a, C, H', rfl, J.os, J.bare, ⟨fun b o e n hb hx => ?_, fun b o e n hb hx => ?_, bs.free, fun b o e hx => ?_, bs.tups, bs.frzs, bs.tbls⟩, fun c o e => ?_, ⟨ha, ?_⟩, q⟩
  · refine keepB b o (bs.keep b o e n hb hx) fun z => ?_
    rcases has b z with z | ⟨_, z⟩
    · rcases List.mem_cons.mp (sts b z) with z | z
      · rw [z] at e; exact absurd (Heap.lt_size e) (Nat.lt_irrefl _)
      · exact hb z
    · rw [z] at e; cases e
  · obtain ⟨sl, e1⟩ := bs.slot b o e n hb hx
    obtain ⟨_, o', e', nf⟩ := J.ok.funs.mem hb
    have e' : s0.heap.get? b = some o' := e'
    rw [e] at e'; cases e'
    obtain ⟨sl2, e2⟩ := k4 b { o with slots := sl } e1 nf
    exact ⟨sl2, e2⟩
  · obtain ⟨o', e1⟩ := bs.there b o e hx
    by_cases z : b ∈ as
    · rcases has b z with z | ⟨_, z⟩
      · obtain ⟨o2, e2, nf⟩ := nofld b z
        obtain ⟨sl, e3⟩ := k4 b o2 e2 nf
        exact ⟨_, e3⟩
      · rw [z] at e; cases e
    · exact ⟨o', keepB b o' e1 z⟩
  · refine (J.hok c o e).stay (fun b u hb q => keepB b u q ?_) (fun _ q => q) fun _ _ q => q
    rcases hb with rfl | hb
    · exact trk _ _ e
    · exact trk _ _ hb
  · obtain ⟨oe, vs, T, oT, ts, g1, g2, g3, g4, g5, g6, g7, g8, g9⟩ := k3
    refine ⟨oe, vs, a0, T, oT, ts, g1, g2, g3, g4, g6, g7, g8, g9, ?_, ?_⟩
    · cases r : H' T with
      | none => rfl
      | some u =>
        obtain ⟨ob, e⟩ := (J.hok T u r).there
        rw [PySem.W.hideAll_get as e (trk T u r)] at g5
        cases g5
    · cases r : s0.heap.get? T with
      | none => rfl
      | some u =>
        obtain ⟨o', e1⟩ := bs.there T u r (fun z => (nomatch z))
        by_cases z : T ∈ as
        · rcases has T z with z | ⟨_, z⟩
          · obtain ⟨_, o2, e2, nf⟩ := k2.mem z
            rw [g7] at e2; cases e2
            exact absurd g8 (nf ts)
          · rw [z] at r; cases r
        · rw [PySem.W.hideAll_get as e1 z] at g5; cases g5
theorem leave_x {H : Hp} {s : Shared} (I : Inv (cxOf (CXR P w) P w K mg base N qual scope f cd A outer s0 H0 E) pins σ H s) (os : s'.os = s.os) (bare : AllBare s'.gens)
    (U : Un (frs (envOfC qual scope s0.heap.objs.size f cd :: outer)) [] H H' s.heap s'.heap) (ok : HOk P w H' s'.heap) (fl : FlyN s'.heap H' s.heap a (.ref C) ∨ Fly s'.heap H' s.heap a (.ref C)) (q : E (.ref C) none H') :
    (cxOf (CXR P w) P w K mg base N qual scope f cd A outer s0 H0 E).xe (.ref a) s' := by
  have J : Inv (cxOf (CXR P w) P w K mg base N qual scope f cd A outer s0 H0 E) pins σ H' s' := I.call' os U ok bare fun b hb => (nomatch hb)
  have up : ∀ b, s.heap.get? b = none → s0.heap.get? b = none := fun b n => by
    cases r : s0.heap.get? b with
    | none => rfl
    | some u =>
      obtain ⟨o', e1⟩ := I.base.there b u r (fun z => (nomatch z))
      rw [n] at e1; cases e1
  have hfr : (A.deeper (envOfC qual scope s0.heap.objs.size f cd)).frames = some (envOfC qual scope s0.heap.objs.size f cd :: outer) := J.ok.frames
  have hst : s'.heap.FunFrames base (envOfC qual scope s0.heap.objs.size f cd :: outer) := J.stack
  have hin : ∀ env ∈ (envOfC qual scope s0.heap.objs.size f cd :: outer), ∀ b, env.frame = some b → b ∈ frs (envOfC qual scope s0.heap.objs.size f cd :: outer) := fun env he b hb => List.mem_filterMap.mpr ⟨env, he, hb⟩
  show wpAny _ _ _ _ _ _
  rcases fl with ⟨⟨na, fa⟩, oe, vs, a0, ge, ⟨gc, g0⟩, gd, g1⟩ | ⟨⟨na, fa⟩, oe, vs, a0, T, oT, ts, ge, gc, gd, g1, g2, g3, g4, g5, nT, fT⟩
  · refine wpAny_leaving_firstW (base := PySem.W.hideAll s'.heap (a :: frs (envOfC qual scope s0.heap.objs.size f cd :: outer))) hfr
      (PySem.W.funFrames_hide hst fun env he b hb => List.mem_cons_of_mem _ (hin env he b hb)) rfl ge (fun b o e => PySem.W.of_hideAll _ e) (PySem.W.hideAll_none _ (List.mem_cons_self ..)) gd g1 g0 fun h2 L => ?_
    rw [gc] at L
    refine left_done J (fun b hb => ?_) L ⟨na, up a fa⟩ q
    rcases List.mem_cons.mp hb with rfl | hb
    · exact .inr ⟨na, up _ fa⟩
    · exact .inl hb
  · refine wpAny_leaving_nextW (a0 := a0) (base := PySem.W.hideAll s'.heap (a :: T :: frs (envOfC qual scope s0.heap.objs.size f cd :: outer))) (cls := .ref C) hfr
      (PySem.W.funFrames_hide hst fun env he b hb => List.mem_cons_of_mem _ (List.mem_cons_of_mem _ (hin env he b hb))) rfl
      ⟨oe, vs, T, oT, ts, ge, gc, gd, g1, PySem.W.hideAll_none _ (List.mem_cons_of_mem _ (List.mem_cons_self ..)), g2, g3, g4, g5⟩ (fun b o e => PySem.W.of_hideAll _ e) (PySem.W.hideAll_none _ (List.mem_cons_self ..)) fun h2 L => ?_
    refine left_done J (fun b hb => ?_) L ⟨na, up a fa⟩ q
    rcases List.mem_cons.mp hb with rfl | hb
    · exact .inr ⟨na, up _ fa⟩
    · rcases List.mem_cons.mp hb with rfl | hb
      · exact .inr ⟨nT, up _ fT⟩
      · exact .inl hb
theorem pass_x : Passes (CXR P w) (cxOf (CXR P w) P w K mg base N qual scope f cd A outer s0 H0 E) E := fun pins σ H s e s' I h => by
  obtain ⟨a, C, H', rfl, os, bare, U, ok, fl, q⟩ := h
  exact leave_x I os bare U ok (.inr fl) q
end
def tRaise (C : Addr) (E : XK) (ta : TA) : TS := fun _ σ H => ta σ H fun vs H1 => vs.length ≤ 1000 ∧ E (.ref C) none H1
def Raises (X : Cx) (C : Addr) (E : XK) : Prop := ∀ (pins : List (Addr × Obj)) (σ : St) (H : Hp) (s : Shared) (h' : Heap) (a : Addr) (us : List Value), Inv X pins σ H s → Heap.MadeExcOf s.heap h' a (.ref C) us → E (.ref C) none H → X.xe (.ref a) { s with heap := h' }
theorem raise_x {P : Program} {w : World} {K : PySem.W.Frag} {mg : Str → Option Value} {base : Heap} {N : List Str} {qual : Str} {scope : Scope} {f : Addr} {cd : Value} {A : Around} {outer : List Env} {s0 : Shared} {H0 : Hp} {E : XK} {C : Addr} :
    Raises (cxOf (CXR P w) P w K mg base N qual scope f cd A outer s0 H0 E) C E := fun pins σ H s h' a us I hx q => by
  obtain ⟨t, ht, _, _⟩ := hx.there
  refine leave_x (s' := { s with heap := h' }) I rfl I.bare (Un.kept hx.keeps) (I.hok.kept hx.keeps) (.inl ⟨⟨?_, hx.new⟩, _, _, _, ht, ⟨rfl, rfl⟩, rfl, rfl⟩) q
  cases r : H a with
  | none => rfl
  | some u =>
    obtain ⟨ob, e⟩ := (I.hok a u r).there
    rw [hx.new] at e; cases e
section
variable {X : Cx} {x : Str} {C : Addr} {bmB : List Value} {B newId initId : String} {E : XK} {e : Expr} {es : List Expr} {ta : TA} {np cpos pos : Pos}
theorem ps_raise (O : OwnCls x C bmB newId X.mg X.base) (FB : ExcBaseFacts B newId initId bmB) (hc : X.calm = true) (hg : Gl X x) (hxe : Raises X C E) (ha : PA X (e :: es) ta) (hdb : (x == ("__debug__" : Str)) = false := by decide)
    (he : starEach (e :: es) X.env = (false, eval e X.env) :: starEach es X.env := by rfl) (hpl : (backTo cpos (starEach es X.env)).any (·.1) = false := by rfl) :
    PS X (.Raise (some (.Call (.Name x np) (e :: es) [] cpos)) none pos) (tRaise C E ta) := by
  intro pins s σ H D I h
  obtain ⟨tl, N, nm, q, bs, hdct, sn, sub, ab, col, dd, k0, k1, k2, k3, k5, mN, hC, hN, hni, T⟩ := O.obj
  refine wpAny_Raise_call_subT (C := C) (nm := nm) (q := q) (N := N) (bs := bs) (bm := tl) (hdct := hdct) (sn := sn) (sub := sub) (ab := ab) (col := col) (dd := dd) (k0 := k0) (k1 := k1) (k2 := k2) (k3 := k3) (k5 := k5)
    FB (mN := mN) (T.hasType FB.hasBase) (I.ok.hd hc) (by rw [he]; show (false || (backTo cpos (starEach es X.env)).any (·.1)) = false; rw [hpl]; rfl) hni (ld_glob I hg O.bound ⟨rfl, ?_⟩ hdb)
  have h1 := ha cpos pins s σ H _ I h
  rw [he] at h1 ⊢
  refine Calls.evalArgs_plain (thn h1 fun us s1 ⟨vs, H1, I1, r, q1, q2⟩ => ?_)
  exact ⟨rfl, by show us.length ≤ _; rw [← r.length]; exact Nat.le_of_lt (small1000 q1), I1.bk _ _ hC, hN.keeps I1.bk, T.keeps I1.bk, fun h' a hx => hxe pins σ H1 s1 h' a us I1 hx q2⟩
end
end L2
set_option linter.all false
set_option maxRecDepth 100000
namespace L2
open PySem PySem.Spec PyProof.Rows
abbrev VB : List Value := [.type "ValueError", .type "Exception", .type "BaseException", .type "object"]
def ExcObj (h : Heap) (C : Addr) (ups : List Addr) : Prop := ∃ N nm q bs hdct sn sub ab col dd k0 k1 k2 k3 k5 mN,
  h.get? C = some (excClassObj nm q C N bs (ups.map Value.ref ++ VB) hdct sn sub ab col dd k0 k1 k2 k3 k5 "ValueError.__new__") ∧ h.Ns N mN ∧ mN "__init__" = none ∧ OwnTail h VB (ups.map Value.ref ++ VB)
theorem ExcObj.keeps {h h' : Heap} {C : Addr} {ups : List Addr} (O : ExcObj h C ups) (hk : ∀ b o, h.get? b = some o → h'.get? b = some o) : ExcObj h' C ups :=
  let ⟨N, nm, q, bs, hdct, sn, sub, ab, col, dd, k0, k1, k2, k3, k5, mN, hC, hN, hni, T⟩ := O
  ⟨N, nm, q, bs, hdct, sn, sub, ab, col, dd, k0, k1, k2, k3, k5, mN, hk _ _ hC, hN.keeps hk, hni, T.keeps hk⟩
theorem ExcObj.own {h : Heap} {C : Addr} {ups : List Addr} {mg : Str → Option Value} {x : Str} (O : ExcObj h C ups) (hm : mg x = some (.ref C)) : OwnCls x C VB "ValueError.__new__" mg h :=
  let ⟨N, nm, q, bs, hdct, sn, sub, ab, col, dd, k0, k1, k2, k3, k5, mN, hC, hN, hni, T⟩ := O
  ⟨hm, _, N, nm, q, bs, hdct, sn, sub, ab, col, dd, k0, k1, k2, k3, k5, mN, hC, hN, hni, T⟩
theorem excMatches_own {M : Model} {A : Around} {E : Value → Shared → Prop} {s : Shared} {C D e : Addr} {ups upD : List Addr} {oe : Obj} {Q : Bool → Shared → Prop} (OC : ExcObj s.heap C ups) (OD : ExcObj s.heap D upD)
    (he : s.heap.get? e = some oe) (hcls : oe.cls = .ref C) (hb : (C :: ups).contains D = true) (hq : Q true s) : wpAny M A (excMatches (.ref e) (.ref D)) Q E s := by
  obtain ⟨h, g, d, t, os⟩ := s
  obtain ⟨N, nm, q, bs, hdct, sn, sub, ab, col, dd, k0, k1, k2, k3, k5, mN, hC, hN, hni, T⟩ := OC
  obtain ⟨N', nm', q', bs', hdct', sn', sub', ab', col', dd', l0, l1, l2, l3, l5, mN', hD, hN', hni', T'⟩ := OD
  have hcB : (Value.ref D :: (upD.map Value.ref ++ VB)).contains (.type "BaseException") = true := by
    rw [List.contains_cons, T'.hasType (b := true) rfl, Bool.or_true]
  have hcC : (Value.ref C :: (ups.map Value.ref ++ VB)).contains (.ref D) = true := by
    rw [List.contains_iff_mem] at hb ⊢
    rcases List.mem_cons.mp hb with rfl | hb
    · exact List.mem_cons_self ..
    · exact List.mem_cons_of_mem _ (List.mem_append_left _ (List.mem_map_of_mem hb))
  have f := tc_notTuple
  unfold excMatches
  repeat (first | (with_reducible refine wpAny_loadPart_at he ?_; rw [hcls]) | with_reducible refine wpAny_loadPart_at hD ?_ | (with_reducible refine wpAny_isSubtype_exc hD ?_; rw [hcB]) | (with_reducible refine wpAny_isSubtype_exc hC ?_; rw [hcC]) | wp_step)
  exact hq
section
variable {X : Cx} {pins : List (Addr × Obj)} {σ : St} {H H' : Hp} {s s' : Shared} {a C : Addr} {a0 : Value} {h : Heap}
theorem inv_flying {T : Addr} (I : Inv X pins σ H s) (os : s'.os = s.os) (bare : AllBare s'.gens) (U : Un (frs X.stack) [] H H' s.heap s'.heap) (ok : HOk X.prog X.w H' s'.heap)
    (na : H' a = none) (fa : s.heap.get? a = none) (nT : H' T = none) (fT : s.heap.get? T = none)
    (hfl : Heap.FlyingW (PySem.W.hideAll s'.heap (a :: T :: frs X.stack)) X.stack a (.ref C) a0 h) (hup : s'.heap.UpToSlots h) :
    ∃ oe, Inv X ((a, oe) :: pins) σ H' { s' with heap := h } ∧ oe.cls = .ref C ∧ h.get? a = some oe := by
  obtain ⟨k1, k2, k3, oe, vs, T', oT, ts, g1, ⟨g2, _⟩, g3, _⟩ := hfl
  have keepB : ∀ b o, s'.heap.get? b = some o → b ≠ a → b ≠ T → b ∉ frs X.stack → h.get? b = some o := fun b o e n1 n2 n3 => k1 b o (PySem.W.hideAll_get _ e fun z => by
    rcases List.mem_cons.mp z with z | z
    · exact n1 z
    · rcases List.mem_cons.mp z with z | z
      · exact n2 z
      · exact n3 z)
  have old : ∀ b o, s.heap.get? b = some o → b ≠ a ∧ b ≠ T := fun b o e => ⟨fun z => (by rw [z, fa] at e; cases e), fun z => (by rw [z, fT] at e; cases e)⟩
  have J : Inv X pins σ H' s' := I.call' os U ok bare fun b hb => (nomatch hb)
  have un : Un (frs X.stack) [] H H' s.heap h := by
    refine ⟨fun b o e n hb hx => keepB b o (U.keep b o e n hb hx) (old b o e).1 (old b o e).2 hb, fun b o e n hb hx => ?_, U.free, fun b o e hx => ?_, U.tups, U.frzs, U.tbls⟩
    · obtain ⟨sl, e1⟩ := U.slot b o e n hb hx
      obtain ⟨_, o', e', nf⟩ := I.stack.mem hb
      rw [e] at e'; cases e'
      obtain ⟨sl2, e2⟩ := hup b { o with slots := sl } e1 nf
      exact ⟨sl2, e2⟩
    · obtain ⟨o', e1⟩ := U.there b o e hx
      by_cases z : b ∈ frs X.stack
      · obtain ⟨_, o2, e2, nf⟩ := J.stack.mem z
        obtain ⟨sl, e3⟩ := hup b o2 e2 nf
        exact ⟨_, e3⟩
      · exact ⟨o', keepB b o' e1 (old b o e).1 (old b o e).2 z⟩
  have trk : ∀ b u, H' b = some u → b ≠ a ∧ b ≠ T ∧ b ∉ frs X.stack := fun b u e => ⟨fun z => (by rw [z, na] at e; cases e), fun z => (by rw [z, nT] at e; cases e), fun z => (by rw [J.stkFree b z] at e; cases e)⟩
  have ok' : HOk X.prog X.w H' h := fun c o e => (ok c o e).stay (fun b u hb q => by
    have t : b ≠ a ∧ b ≠ T ∧ b ∉ frs X.stack := by
      rcases hb with rfl | hb
      · exact trk _ _ e
      · exact trk _ _ hb
    exact keepB b u q t.1 t.2.1 t.2.2) (fun _ q => q) fun _ _ q => q
  have J6 : Inv X pins σ H' { s' with heap := h } := I.call' (s' := { s' with heap := h }) os un ok' bare fun b hb => (nomatch hb)
  refine ⟨oe, J6.pins_of fun p hp => ?_, g2, g1⟩
  rcases List.mem_cons.mp hp with rfl | hp
  · refine ⟨g1, na, fun z => ?_, fun z => ?_, fun v z => by rw [g3] at z; cases z⟩
    · obtain ⟨m, ⟨o, _, _, e, _⟩, _⟩ := I.loc
      have z : a = X.env.locals := z
      rw [← z, fa] at e; cases e
    · have z : a ∈ frs X.stack := by
        rcases I.ok.stk with e | ⟨e, _⟩
        · rw [e]; exact z
        · rw [e]; unfold frs; rw [List.filterMap_cons]
          split
          · exact z
          · exact List.mem_cons_of_mem _ z
      obtain ⟨_, o, e, _⟩ := I.stack.mem z
      rw [fa] at e; cases e
  · exact J6.pin p (List.mem_append_right _ hp)
end
end L2
set_option linter.all false
set_option maxRecDepth 100000
namespace L2
open PySem PySem.Spec PyProof.Rows
abbrev Cx.held (X : Cx) (a : Addr) (oe : Obj) : Cx := { X with A := X.A.mark (some (.ref a)), calm := false, pn := (a, oe) :: X.pn, xe := fun _ _ => False }
section
variable {X : Cx} {pins : List (Addr × Obj)} {σ : St} {H : Hp} {s : Shared} {a : Addr} {oe : Obj}
theorem mark_frames {A : Around} {u : Option Value} : (A.mark u).frames = A.frames := by cases A; rfl
theorem Cx.Ok.held (ok : X.Ok) : (X.held a oe).Ok :=
  ⟨ok.mod, ok.kind, ok.glob, ok.blt, ok.above, ok.inj, ok.has, ok.cab, (fun z => absurd z (by show ¬ (false = true); decide)), mark_frames.trans ok.frames, ok.stk, ok.exf, ok.bs, ok.bsz, ok.noex, ok.exfs, ok.funs, ok.frf⟩
theorem Inv.held (I : Inv X ((a, oe) :: pins) σ H s) : Inv (X.held a oe) pins σ H s :=
  ⟨I.ok.held, I.os, I.bare, I.base, I.loc, I.cell, I.free, I.freeC, fun p hp => I.pin p (by
    have hp : p ∈ ((a, oe) :: X.pn) ++ pins := hp
    simp only [List.cons_append, List.mem_cons, List.mem_append] at hp ⊢
    rcases hp with h | h | h
    · exact .inr (.inl h)
    · exact .inl h
    · exact .inr (.inr h)), I.hok, I.len⟩
theorem Inv.unheld (ok : X.Ok) (I : Inv (X.held a oe) pins σ H s) : Inv X pins σ H s :=
  ⟨ok, I.os, I.bare, I.base, I.loc, I.cell, I.free, I.freeC, fun p hp => I.pin p (List.mem_cons_of_mem _ hp), I.hok, I.len⟩
theorem goes_ok {M : Model} {A : Around} {E : Value → Shared → Prop} {i : Nat} {n : Str} {pos : Pos} {Q : Unit → Shared → Prop} (I : Inv X pins σ H s) (hN : X.N.Nodup) (hi : X.N[i]? = some n) (hk : X.env.scope.names.lookup n = some .local)
    (h : ∀ s', Inv X pins (σ.set i none) H s' → Q () s') : wpAny M A (do bindName X.env n .none; unbindBehindTheSuite X.env n pos) Q E s := by
  obtain ⟨m, hn, hl⟩ := id I.loc
  have hcls : (X.env.scope.kind == .class || (X.env.scope.kind == .module && X.env.locals != X.env.globals)) = false := by rw [I.ok.kind]; rfl
  have hiσ : i < σ.length := by rw [I.len]; exact (List.getElem?_eq_some_iff.mp hi).1
  have cne := I.cne
  have tracked : ∀ {a : Addr} {h' : Heap}, (∃ o, s.heap.get? a = some o ∧ H a = none) → Heap.SameBut a s.heap h' → HOk X.prog X.w H h' := fun {a h'} ha hs b ob e => by
    obtain ⟨_, _, hfree⟩ := ha
    refine (I.hok b ob e).stay (fun c w' hc q => (hs.2 c ?_).trans q) (fun _ q => q) fun _ _ q => q
    rintro rfl
    rcases hc with rfl | hc
    · rw [hfree] at e; cases e
    · rw [hfree] at hc; cases hc
  refine wpAny_nameGoes_keeps hk hn hcls fun h' v hn' hs => ?_
  obtain ⟨oL, _, _, hoL, _⟩ := id hn
  refine h _ ⟨I.ok, I.os, I.bare, ⟨fun b o e n hb hx => ?_, fun b o e n hb hx => ?_, I.base.free, fun b o e hx => ?_, I.base.tups, I.base.frzs, I.base.tbls⟩, ⟨_, hn', fun j y v' e1 e2 e3 => ?_⟩, fun y c e => ?_, I.free, I.freeC, fun p hp => ?_, tracked ⟨oL, hoL, I.free⟩ hs, by simpa using I.len⟩
  · exact (hs.2 b (Nat.ne_of_lt (Nat.lt_of_lt_of_le (Heap.lt_size e) I.ok.above))).trans (I.base.keep b o e n hb hx)
  · obtain ⟨sl, e1⟩ := I.base.slot b o e n hb hx
    exact ⟨sl, (hs.2 b (Nat.ne_of_lt (Nat.lt_of_lt_of_le (Heap.lt_size e) I.ok.above))).trans e1⟩
  · obtain ⟨o', e1⟩ := I.base.there b o e hx
    exact ⟨o', (hs.2 b (Nat.ne_of_lt (Nat.lt_of_lt_of_le (Heap.lt_size e) I.ok.above))).trans e1⟩
  · by_cases hj : j = i
    · subst hj
      rw [List.getElem?_set_self hiσ] at e2
      cases e2
    · rw [List.getElem?_set_ne (Ne.symm hj)] at e2
      obtain ⟨u', r', q⟩ := hl j y v' e1 e2 e3
      refine ⟨u', r', ?_⟩
      rcases q with ⟨k, e⟩ | ⟨k, c, e, z⟩
      · refine .inl ⟨k, ?_⟩
        have : y ≠ n := fun e => hj (nodup_ix hN e1 (e ▸ hi))
        simp [this, e]
      · exact .inr ⟨k, c, e, z.sameBut hs (cne y c e)⟩
  · obtain ⟨w', z⟩ := I.cell y c e
    exact ⟨w', z.sameBut hs (cne y c e)⟩
  · obtain ⟨e, n, ne, nf, d⟩ := I.pin p hp
    exact ⟨(hs.2 p.1 ne).trans e, n, ne, nf, d⟩
end
section
variable {X : Cx} {CX : CXT} {k : Nat} {f C D : Addr} {fd : FuncData} {ps : List Str} {sp : Sp} {E : XK} {x y n : Str} {p np cp ep hp pos : Pos} {e : Expr} {es : List Expr} {ta : TA} {b₀ : Stmt} {suite : List Stmt} {i : Nat} {ups upD : List Addr}
theorem run_fnX {XE : Value → Shared → Prop} {pins : List (Addr × Obj)} {σ : St} {H : Hp} {s : Shared} {Q : VK} {us : List Value} {vs : List V} (F : FnOk X.prog X.w X.K X.mg X.base CX k f fd ps sp) (hr : Room k X.A) (hb : Binds X.K fd ps [])
    (I : Inv X pins σ H s) (r : Vals vs us) (h : sp vs H Q E) (hx : ∀ e s', CX X.stack H s E e s' → XE e s') : wpAny (model X.prog X.w) X.A (call (.ref f) us) (EP X pins σ Q) XE s := by
  have hl : (us ++ []).length = ps.length := by rw [List.append_nil, ← r.length]; exact F.len _ _ _ _ h
  have hb' := hb s us I.kIn hl
  rw [List.append_nil] at hb'
  refine wpAny_call (codeAny_mono (F.run X.A X.stack s H ⟨us, []⟩ us vs Q E hr I.env0 hb' r h) fun r s' hq => ?_)
  cases r with
  | error e => exact hx e s' hq
  | ok fl =>
    cases fl with
    | ret u => exact I.after hq
    | next => exact False.elim hq
    | brk => exact False.elim hq
    | cont => exact False.elim hq
def tTry (i : Nat) (C : Addr) (sp : Sp) (ta : TA) (th : Addr → TS) : TS := fun Dn σ H => ta σ H fun vs H1 => sp vs H1 (fun _ H2 => Dn.nx σ H2) fun cls _ H2 => cls = .ref C ∧ ∀ a, H2 a = none →
  th a { nx := fun σ' H' => Dn.nx (σ'.set i none) H', rt := fun _ _ => False } (σ.set i (some (.ref a))) H2
theorem ps_try {th : Addr → TS} (hst : X.stack = X.env :: X.outer) (hfm : X.env.frame = some X.env.locals) (F : FnOk X.prog X.w X.K X.mg X.base (CXR X.prog X.w) k f fd ps sp) (hr : Room k X.A) (hgf : Gl X y) (hmf : X.mg y = some (.ref f))
    (hkf : PySem.W.keepIn X.K (.ref f) = true) (hb : Binds X.K fd ps []) (ha : PA X.nox (e :: es) ta) (OC : ExcObj X.base C ups) (OD : ExcObj X.base D upD) (hmD : X.mg x = some (.ref D)) (hgx : Gl X x) (hcon : (C :: ups).contains D = true)
    (hN : X.N.Nodup) (hi : X.N[i]? = some n) (hln : X.env.scope.names.lookup n = some .local) (hs : ∀ a oe, oe.cls = .ref C → PSs (X.held a oe) (b₀ :: suite) (th a))
    (hdx : (x == ("__debug__" : Str)) = false := by decide) (hdy : (y == ("__debug__" : Str)) = false := by decide) (he : starEach (e :: es) X.env = (false, eval e X.env) :: starEach es X.env := by rfl) (hpl : (backTo cp (starEach es X.env)).any (·.1) = false := by rfl)
    (hsw : swapsWith (.Call (.Name y p) (e :: es) [] cp) none ep.line X.env = pure false := by rfl) :
    PS X (.Try [.Expr (.Call (.Name y p) (e :: es) [] cp) ep] [.ExceptHandler (some (.Name x np)) (some n) (b₀ :: suite) hp] [] [] pos) (tTry i C sp ta th) := by
  intro pins s σ H Dn I h
  refine wpAny_Try_except (wpAny_execs_cons (wpAny_Expr_any ?_ I.quiet hsw))
  refine wpAny_Call_Name_kw (ld_glob I hgf hmf ?_ hdy)
  refine PySem.W.callWith_K (h₀ := X.base) I.ok.mod.kin hkf (wpAny_mono (ha cp pins s σ H _ (I.wish _) h) (fun us s1 q1 => ?_) fun _ _ z => z.elim) he hpl
  obtain ⟨vs, H1, I1, r, q⟩ := q1
  have I1 : Inv X pins σ H1 s1 := I1.unwish
  refine ⟨I1.kIn, wpAny_mono (run_fnX (XE := fun ev s' => CXR X.prog X.w X.stack H1 s1 _ ev s') F hr hb I1 r q fun _ _ z => z) (fun u s2 z => ?_) fun ev s' z => ?_⟩
  · obtain ⟨v, H2, I2, _, q2⟩ := z
    exact wpAny_execs_nil (wpAny_execs_nil ⟨σ, H2, I2, q2⟩)
  obtain ⟨a, C', H', rfl, os, bare, U, ok, fl, qC, q⟩ := z
  cases qC
  obtain ⟨⟨na, fa⟩, oe, ws, a0, T, oT, ts, ge, gc, gd, g1, g2, g3, g4, g5, nT, fT⟩ := fl
  have J : Inv X pins σ H' s' := I1.call' os U ok bare fun b hb => (nomatch hb)
  have hfl : Heap.FlyingW (PySem.W.hideAll s'.heap (a :: T :: frs X.stack)) (X.env :: X.outer) a (.ref C) a0 s'.heap := by
    refine ⟨fun b o e => PySem.W.of_hideAll _ e, PySem.W.hideAll_none _ (List.mem_cons_self ..), ?_, oe, ws, T, oT, ts, ge, gc, gd, g1, PySem.W.hideAll_none _ (List.mem_cons_of_mem _ (List.mem_cons_self ..)), g2, g3, g4, g5⟩
    rw [← hst]
    exact PySem.W.funFrames_hide J.stack fun env he b hb => List.mem_cons_of_mem _ (List.mem_cons_of_mem _ (List.mem_filterMap.mpr ⟨env, he, hb⟩))
  have hfr : X.A.frames = some (X.env :: X.outer) := by rw [← hst]; exact J.ok.frames
  refine wpAny_looks_onW hfr hfm hfl fun h₄ hheld₄ hsm₄ => ?_
  refine wpAny_landsW hheld₄ fun h₅ hfl₅ hsm₅ => ?_
  obtain ⟨oe5, I5, c5, e5⟩ := inv_flying I1 os bare U ok na fa nT fT (by rw [hst] at hfl₅ ⊢; exact hfl₅) (hsm₄.trans hsm₅)
  have I5' : Inv (X.held a oe5) pins σ H' { s' with heap := h₅ } := I5.held
  refine wpAny_handleBy_cons (codeAny_handlers_test (ld_glob (X := X.held a oe5) I5' hgx hmD ?_ hdx)) (by intro q; cases q)
  refine excMatches_own (OC.keeps I5.bk) (OD.keeps I5.bk) e5 c5 hcon ?_
  refine codeAny_handlers_suite_as ?_
  refine lands_againW hfl₅ fun h₆ hfl₆ hsm₆ => ?_
  obtain ⟨oe6, I6, c6, e6⟩ := inv_flying I1 os bare U ok na fa nT fT (by rw [hst] at hfl₆ ⊢; exact hfl₆) ((hsm₄.trans hsm₅).trans hsm₆)
  have I6' : Inv (X.held a oe6) pins σ H' { s' with heap := h₆ } := I6.held
  refine store_ok (X := X.held a oe6) (v := .ref a) I6' hN hi (.inl hln) rfl (fun s7 I7 => ?_) (.inr hln)
  refine wpAny_mono (hs a oe6 c6 pins s7 _ H' _ I7 (q a na)) (fun fl s8 q8 => ?_) fun _ _ z => z.elim
  cases fl with
  | next =>
    obtain ⟨σ', H8, I8, q8⟩ := q8
    exact goes_ok (I8.unheld J.ok) hN hi hln fun s9 I9 => ⟨_, H8, I9, q8⟩
  | brk => obtain ⟨_, _, _, z⟩ := q8; exact False.elim z
  | cont => obtain ⟨_, _, _, z⟩ := q8; exact False.elim z
  | ret u => obtain ⟨_, _, _, _, _, z⟩ := q8; exact False.elim z
end
end L2
set_option linter.all false
set_option maxRecDepth 100000
namespace PySem.W
open PySem PySem.Spec PySem.Calls PyProof.Rows
section
variable {prog : Program} {w : World} {A : Around} {E : Value → Shared → Prop} {s : Shared} {K : Frag} {x C : Addr} {ox : Obj}
theorem xc_get {R : Result → Shared → Prop} {tp : Value} (hm : mroIn K C (.type "object") = some true) (X : K.In s.heap) (L0 : Looks (model prog w) s.heap (typeOf (.ref x)) (.ref C)) (h : R (.ok (.ret (.ref C))) s) :
    codeAny (model prog w) A (.call (.builtin "getset_descriptor.__get__") ⟨[.builtin "object.__class__", .ref x, tp], []⟩) R s := by
  obtain ⟨hh, g, dr, t, os⟩ := s
  have hT5 : (⟨hh, g, dr, t, os⟩ : Shared).TypeIs (.builtin "object.__class__") "getset_descriptor" := F.typeOf_object_class
  have L1 : Looks (model prog w) hh (isSubtype (.ref C) (.type (".".intercalate ("object.__class__".cutAt '.').dropLast))) true := by
    rw [F.owner_object_class]; exact looks_mroIn (M := model prog w) X hm
  refine codeAny_call_builtin F.slot_gs_get.plain F.entry_gs_get (F.slot_gs_get.check _ _ _ _ _ _ _ _ hT5 (F.args_gs_get _ _ _) ?_)
  repeat (any_goals (first | assumption | with_reducible refine L0.at ?_ | with_reducible refine L1.at ?_ | wp_step))
  refine ⟨Code.quiet_builtin _ (by decide +kernel), codeAny_builtin F.entry_object_class ?_⟩
  repeat (any_goals (first | assumption | with_reducible refine L0.at ?_ | with_reducible refine L1.at ?_ | wp_step))
theorem xc_entry {tk : Tok} {Q : Fin → Shared → Prop} (hcl : findIn K (.ref C) "__class__" = some (some (.builtin "object.__class__"))) (hm : mroIn K C (.type "object") = some true)
    (X : K.In s.heap) (L0 : Looks (model prog w) s.heap (typeOf (.ref x)) (.ref C)) (h : Q (.done (.ret (.ref C))) s) : wpAny (model prog w) A (Builtin.«object.__getattribute__» ⟨[.ref x, .str "__class__" tk], []⟩) Q E s := by
  obtain ⟨hh, g, d, t, os⟩ := s
  have L1 := looks_findIn (M := model prog w) X hcl
  have hT5 : (⟨hh, g, d, t, os⟩ : Shared).TypeIs (.builtin "object.__class__") "getset_descriptor" := F.typeOf_object_class
  have f5 := F.typeOf_object_class
  have f6 := F.slot_gs_get.lookup
  have f7 := F.slot_gs_set.lookup
  repeat (any_goals (first | assumption | with_reducible refine L0.at ?_ | with_reducible refine L1.at ?_ | wp_step))
  refine xc_get hm X L0 ?_
  repeat (any_goals (first | assumption | wp_step))
theorem xc_check {M : Model} {nameV : Value} {Q : Unit → Shared → Prop} (hmB : mroIn K C (.type "BaseException") = some true) (X : K.In s.heap) (L0 : Looks M s.heap (typeOf (.ref x)) (.ref C)) (h : Q () s) :
    wpAny M A (checkBuiltinCall "BaseException.__getattribute__" ⟨[.ref x, nameV], []⟩) Q E s := by
  obtain ⟨hh, g, d, t, os⟩ := s
  have hk : builtinKind "BaseException.__getattribute__" = some .slot := by decide +kernel
  have hsplit : splitId "BaseException.__getattribute__" = some ("BaseException", "__getattribute__") := by decide +kernel
  have L1 := looks_mroIn (M := M) X hmB
  have ha := F.args_bexc_ga (.ref x) nameV
  simp only [checkBuiltinCall, hk, hsplit]
  refine wpAny_bind ?_
  unfold isInstance
  repeat (first | with_reducible refine L0.at ?_ | with_reducible refine L1.at ?_ | wp_step)
  exact h
theorem xc_class {Q : Option Value → Shared → Prop} (hga : findIn K (.ref C) "__getattribute__" = some (some (.builtin "BaseException.__getattribute__"))) (hge : findIn K (.ref C) "__getattr__" = some none)
    (hcl : findIn K (.ref C) "__class__" = some (some (.builtin "object.__class__"))) (hm : mroIn K C (.type "object") = some true) (hmB : mroIn K C (.type "BaseException") = some true)
    (X : K.In s.heap) (L0 : Looks (model prog w) s.heap (typeOf (.ref x)) (.ref C)) (h : Q (some (.ref C)) { s with toks := s.toks + 1 }) : wpAny (model prog w) A (getAttr? (.ref x) "__class__") Q E s := by
  obtain ⟨hh, g, d, t, os⟩ := s
  have L1 := looks_findIn (M := model prog w) X hga
  have L2 := looks_findIn (M := model prog w) X hge
  have f3 := F.attr_ValueError.ga.bind (.ref x)
  have hx2 : (Value.builtin "BaseException.__getattribute__" == Value.builtin "object.__getattribute__") = false := by decide +kernel
  have hx1 : (onTheHeap (Value.ref C) && Value.builtin "BaseException.__getattribute__" == Value.builtin "object.__getattribute__") = false := by rw [hx2]; rfl
  unfold getAttr? getAttrBy?
  repeat (any_goals (first | assumption | with_reducible refine L0.at ?_ | with_reducible refine L1.at ?_ | with_reducible refine L2.at ?_ | wp_step))
  refine codeAny_call_builtin F.attr_ValueError.ga.plain F.entry_bexc_ga (xc_check hmB X L0 (xc_entry hcl hm X L0 ?_))
  repeat (any_goals (first | assumption | wp_step))
structure ExcK (K : Frag) (C : Addr) : Prop where
  ga : findIn K (.ref C) "__getattribute__" = some (some (.builtin "BaseException.__getattribute__"))
  ge : findIn K (.ref C) "__getattr__" = some none
  cl : findIn K (.ref C) "__class__" = some (some (.builtin "object.__class__"))
  ob : mroIn K C (.type "object") = some true
  be : mroIn K C (.type "BaseException") = some true
  is : (clsIn K C).isSome = true
def ExcAt (x C : Addr) (h : Heap) : Prop := ∃ o, h.get? x = some o ∧ o.cls = .ref C
theorem ExcAt.ty {h : Heap} (M : Model) (p : ExcAt x C h) : Looks M h (typeOf (.ref x)) (.ref C) := by
  obtain ⟨o, h1, h2⟩ := p
  exact h2 ▸ (Looks.ld h1).andThen .now
theorem kitx_exc (k : ExcK K C) : KitX K (.ref x) (.ref C) (ExcAt x C) where
  ty := fun M _ _ p => p.ty M
  it := fun _ _ X _ => by
    have z0 := k.is
    unfold clsIn at z0
    split at z0
    · rename_i c' d' cd' sl' ho
      intro A' Q' E' s' k q
      unfold isType loadHead
      exact wpAny_bind (wpAny_loadPart (k _ _ (X _ _ ho)) (wpAny_pure q))
    · cases z0
  ne := fun h tp dd its n sl X htp => by
    have z0 := k.is
    refine Bool.eq_false_iff.mpr fun q => ?_
    have e : C = tp := Value.ref.inj (beq_iff_eq.mp q)
    subst e
    unfold clsIn at z0
    split at z0
    · rename_i c' d' cd' sl' ho
      have z := (X _ _ ho).symm.trans htp
      cases z
    · cases z0
  ca := fun X p q => xc_class k.ga k.ge k.cl k.ob k.be X (p.ty _) q
end
end PySem.W
namespace L2
open PySem PySem.Spec PyProof.Rows
section
variable {X : Cx} {pins : List (Addr × Obj)} {σ : St} {H : Hp} {s : Shared} {a C : Addr} {oe : Obj} {i : Nat} {n x : Str} {np p cp : Pos} {b : Bool}
theorem Inv.excAt (I : Inv (X.held a oe) pins σ H s) (hc : oe.cls = .ref C) : PySem.W.ExcAt a C s.heap := ⟨oe, (I.pin (a, oe) (List.mem_append_left _ (List.mem_cons_self ..))).1, hc⟩
end
end L2
set_option linter.all false
set_option maxRecDepth 100000
namespace L2
open PySem PySem.Spec PyProof.Rows
section
variable {X : Cx} {a C : Addr} {oe : Obj}
theorem vals_refs : ∀ {cs : List Addr} {us : List Value}, Vals (cs.map V.ref) us → us = cs.map Value.ref
  | [], us, r => by cases r; rfl
  | c :: cs, us, r => by
    cases r with
    | cons r rr =>
      have e := vals_refs rr
      have e1 : _ = Value.ref c := r
      rw [e, e1]; rfl
def isxR (K : PySem.W.Frag) (a C : Addr) : List V → Hp → VK → Prop := fun xs H Q => ∃ b, Q (.bl b) H ∧
    ((∃ (p : Addr) (cs : List Addr), xs = [.ref a, .ref p] ∧ H p = some (.tup (cs.map V.ref)) ∧ PySem.W.kitAny K (.ref C) (cs.map Value.ref) = some b) ∨ ∃ T, xs = [.ref a, .ty T] ∧ PySem.W.kitOne K (.ref C) (.type T) = some b)
theorem call_isx (hc : oe.cls = .ref C) (k : PySem.W.ExcK X.K C) : CallR (X.held a oe) (.builtin "isinstance") (isxR X.K a C) := by
  intro pins s σ H xs us Q I r h
  obtain ⟨b, q, ⟨p, cs, rfl, hp, e⟩ | ⟨T, rfl, e⟩⟩ := h
  · obtain ⟨u, v, rfl, ru, rv⟩ := vals2 r
    obtain rfl : u = Value.ref a := ru
    obtain rfl : v = Value.ref p := rv
    obtain ⟨_, its, rv, ho⟩ := (show ObjOk X.prog X.w H s.heap p (.tup (cs.map V.ref)) from I.hok p _ hp)
    obtain rfl := vals_refs rv
    obtain ⟨o, h1, h2, n, h3⟩ := ho
    obtain ⟨oc, od, oda, osl⟩ := o
    dsimp only at h2 h3
    subst h2 h3
    exact PySem.W.kia_tup (PySem.W.kitx_exc k) I.kIn (I.excAt hc) h1 e (fun z => nomatch z) fun tk => ⟨.bl b, H, I.tok _, rfl, q⟩
  · obtain ⟨u, v, rfl, ru, rv⟩ := vals2 r
    obtain rfl : u = Value.ref a := ru
    obtain rfl : v = Value.type T := rv
    exact PySem.W.kia_one (PySem.W.kitx_exc k) I.kIn (I.excAt hc) e (fun z => nomatch z) fun tk => ⟨.bl b, H, I.tok _, rfl, q⟩
end
section
variable {P : Program} {w : World} {K : PySem.W.Frag} {mg : Str → Option Value} {base : Heap} {CX : CXT}
theorem Fun.okX {x qual : Str} {st : Stmt} {f : Addr} {fd : FuncData} {N ps : List Str} {k : Nat} {sp : Sp} (F : Fun K x qual st f fd) (S : FnScope N ps (defScope st)) (len : ∀ vs H Q E, sp vs H Q E → vs.length = ps.length)
    (hbody : ∀ (cdv : Value) (A : Around) (outer : List Env) (s : Shared) (H : Hp) (vs : List V) (Q : VK) (E : XK), Room k (A.deeper (envOfC qual (defScope st) s.heap.objs.size f cdv)) → sp vs H Q E →
      ∃ t, PSs (cxOf (CXR P w) P w K mg base N qual (defScope st) f cdv A outer s H E) (defBody st) t ∧ t { nx := fun _ H' => Q .non H', rt := Q } (start N vs) H) : FnOk P w K mg base (CXR P w) (k + 1) f fd ps sp := by
  obtain ⟨oc, od, kV, doc, pm, an, cdv, ct, osl, rfl, lk, hcd⟩ := F.ex
  exact fn_of lk hcd S len fun A outer s H vs Q E hr hsp => hbody cdv A outer s H vs Q E hr hsp
end
theorem ExcObj.of_lookup {K : PySem.W.Frag} {h : Heap} {C : Addr} {ups : List Addr} {mro : List Value} {dd : Option Addr} {nm qn : Str} {bs : List Value} {ns : Addr} {hd : Bool} {sn : List Str} {sub : List Value} {ab : Bool} {col : Option Bool} {k0 k1 k2 k3 k5 : Option Value} (X : K.In h)
    (u : K.lookup C = some ⟨.type "type", dd, .cls ⟨nm, bs, mro, ns, qn, hd, sn, sub, ab, col, false⟩, #[k0, k1, k2, k3, some (.builtin "ValueError.__new__"), k5]⟩) (hm : mro = .ref C :: (ups.map Value.ref ++ VB)) (v : PySem.W.excIn K C VB "ValueError.__new__" = true) : ExcObj h C ups := by
  subst hm
  unfold PySem.W.excIn at v
  rw [u] at v
  simp only [Bool.and_eq_true, beq_iff_eq, Bool.not_eq_true'] at v
  obtain ⟨⟨⟨_, ht⟩, hok⟩, hni⟩ := v
  exact ⟨ns, nm, qn, bs, hd, sn, sub, ab, col, dd, k0, k1, k2, k3, k5, _, X _ _ u, .of_isNs (PySem.W.isNs_of_in X hok), PySem.W.nsMap_none_of_in X hok hni, PySem.W.tail_of_in X ht⟩
theorem passN {X : Cx} {P : Program} {w : World} : Passes (CXR P w) X E0 := fun _ _ _ _ _ _ _ h => by
  obtain ⟨_, _, _, _, _, _, _, _, _, q⟩ := h
  exact q.elim
end L2
set_option Elab.async false
set_option linter.all false
set_option maxRecDepth 100000
namespace L2
open PySem PySem.Spec PyProof.Rows
structure FunD (K : PySem.W.Frag) (x qual : Str) (st : Stmt) (dv : List Value) (f : Addr) (fd : FuncData) : Prop where
  ex : ∃ (da : Addr) (oc : Value) (od : Option Addr) (kV doc pm : Value) (an : Option Addr) (cdv ct : Value) (osl : Array (Option Value)) (o : Obj) (n : Nat),
    fd = PySem.W.fnOf x qual (defArgs st) (defBody st) (defScope st) (.ref da) kV doc pm an cdv ct ∧ K.lookup f = some ⟨oc, od, .func fd, osl⟩ ∧ PySem.W.codeIn K cdv qual = true ∧ K.lookup da = some o ∧ o.data = .seq dv.toArray n
  kp : PySem.W.keepIn K (.ref f) = true
section
variable {P : Program} {w : World} {K : PySem.W.Frag} {mg : Str → Option Value} {base : Heap} {x qual : Str} {st : Stmt} {dv : List Value} {f : Addr} {fd : FuncData} {N ps : List Str} {k : Nat} {sp : Sp}
theorem FunD.okX (F : FunD K x qual st dv f fd) (S : FnScope N ps (defScope st)) (len : ∀ vs H Q E, sp vs H Q E → vs.length = ps.length)
    (hbody : ∀ (cdv : Value) (A : Around) (outer : List Env) (s : Shared) (H : Hp) (vs : List V) (Q : VK) (E : XK), Room k (A.deeper (envOfC qual (defScope st) s.heap.objs.size f cdv)) → sp vs H Q E →
      ∃ t, PSs (cxOf (CXR P w) P w K mg base N qual (defScope st) f cdv A outer s H E) (defBody st) t ∧ t { nx := fun _ H' => Q .non H', rt := Q } (start N vs) H) : FnOk P w K mg base (CXR P w) (k + 1) f fd ps sp := by
  obtain ⟨da, oc, od, kV, doc, pm, an, cdv, ct, osl, o, n, rfl, lk, hcd, _⟩ := F.ex
  exact fn_of lk hcd S len fun A outer s H vs Q E hr hsp => hbody cdv A outer s H vs Q E hr hsp
theorem FunD.binds {ds : List Value} (F : FunD K x qual st dv f fd)
    (h : ∀ (da : Addr) (kV doc pm : Value) (an : Option Addr) (cdv ct : Value) (us : List Value), (us ++ ds).length = ps.length →
      ∃ g, bindArgs (PySem.W.fnOf x qual (defArgs st) (defBody st) (defScope st) (.ref da) kV doc pm an cdv ct) ⟨us, []⟩ = seqItems? (.ref da) >>= g ∧ g (some dv.toArray) = pure (ps.zip (us ++ ds))) : Binds K fd ps ds := by
  obtain ⟨da, oc, od, kV, doc, pm, an, cdv, ct, osl, o, n, rfl, lk, hcd, lo, ho⟩ := F.ex
  intro s us X hl
  obtain ⟨g, h1, h2⟩ := h da kV doc pm an cdv ct us hl
  exact .of_defaults rfl (X _ _ lo) ho h1 h2
end
structure FnAtD (K : PySem.W.Frag) (mg : Str → Option Value) (x : Str) (st : Stmt) (ps : List Str) (dvs : List V) (f : Addr) (fd : FuncData) : Prop where
  ex : ∃ dv, Vals dvs dv ∧ FunD K x x st dv f fd ∧ Binds K fd ps dv
  mg : mg x = some (.ref f)
  bd : Binds K fd ps []
theorem FnAtD.kp {K : PySem.W.Frag} {mg : Str → Option Value} {x : Str} {st : Stmt} {ps : List Str} {dvs : List V} {f : Addr} {fd : FuncData} (F : FnAtD K mg x st ps dvs f fd) : PySem.W.keepIn K (.ref f) = true := by
  obtain ⟨dv, _, F, _⟩ := F.ex
  exact F.kp
end L2
set_option Elab.async false
set_option linter.all false
set_option maxRecDepth 100000
set_option maxHeartbeats 4000000
namespace L2
open PySem PySem.Spec PySem.Calls PyProof.Rows
abbrev rngZ (n : Nat) : List Int := (List.range n).map fun (k : Nat) => (k : Int)
theorem ints_by : ∀ {vs : List Value} {ns : List Int}, vs.length = ns.length → (∀ (j : Nat) v, vs[j]? = some v → ∃ z t, ns[j]? = some z ∧ v = .int z t) → IntsAre vs ns
  | [], [], _, _ => .nil
  | v :: vs, n :: ns, hl, h => by
    obtain ⟨z, t, e1, rfl⟩ := h 0 v rfl
    cases e1
    exact .cons _ _ (ints_by (by simpa using hl) fun j v hv => h (j + 1) v (by rw [List.getElem?_cons_succ]; exact hv))
  | [], _ :: _, hl, _ => by simp at hl
  | _ :: _, [], hl, _ => by simp at hl
section
variable {prog : Program} {w : World} {A : Around} {E : Value → Shared → Prop} {s : Shared}
theorem collect_rng {R : List Value → Shared → Prop} {r : Addr} {n : Nat} {t u v : Tok} (hh : A.handled = none) (hr : IsRange s.heap r 0 (n : Int) 1 t u v) (hlen : n ≤ 2 ^ 24)
    (h : ∀ (h' : Heap) (tk : Nat) (vs : List Value), (∀ b o, s.heap.get? b = some o → h'.get? b = some o) → s.heap.objs.size < h'.objs.size → IntsAre vs (rngZ n) → R vs { s with heap := h', toks := tk }) :
    wpAny (model prog w) A (collect (.ref r)) R E s := by
  have hsz : Builtin.Range.rangeSize 0 (n : Int) 1 = n := by unfold Builtin.Range.rangeSize; rw [if_pos (by decide)]; split <;> omega
  have hsm : Builtin.Range.small 0 (n : Int) 1 = true := small_one (by decide) (by decide) (by omega) (by omega)
  have items : ∀ {acc : Array Value}, ItemsOf (fun i v => ∃ t, v = .int (0 + i * 1) t) acc n → IntsAre acc.toList (rngZ n) := fun {acc} hI => by
    refine ints_by (by rw [Array.length_toList, hI.1, List.length_map, List.length_range]) fun j v hv => ?_
    have hj : j < n := by rw [← hI.1, ← Array.length_toList]; exact (List.getElem?_eq_some_iff.mp hv).1
    obtain ⟨t, rfl⟩ := hI.2 j v (by simpa using hv)
    exact ⟨j, t, by rw [List.getElem?_map, List.getElem?_range hj]; rfl, by simp⟩
  unfold collect
  refine wpAny_bind (wpAny_runValue (codeAny_builtin entry_proto_collect' ?_))
  rw [Around.under_plainId PySem.F.plain_proto_collect _]
  show wpAny _ A.in1 (newList [] >>= fun l => again (.builtin "list.__iadd__" ⟨[l, .ref r], []⟩)) _ _ s
  refine wpAny_bind (wpAny_newObj_type ?_)
  refine wpAny_pure ⟨plainId_quiet PySem.F.plain_list_iadd _, codeAny_builtin entry_list_iadd' ?_⟩
  rw [Around.under_plainId PySem.F.plain_list_iadd _]
  have hS₁ : (s.heap.push { cls := .type "list", data := .seq ([] : List Value).toArray }).get? s.heap.objs.size = some { cls := .type "list", data := .seq #[] } := Heap.get?_push_size _ rfl
  show wpAny _ A.in1 (Builtin.List.listExtendWith (.ref s.heap.objs.size) (.ref r) (.ref s.heap.objs.size)) _ _ _
  have key := wpAny_extend_range (A := A) (prog := prog) (w := w) (s := { s with heap := s.heap.push { cls := .type "list", data := .seq ([] : List Value).toArray } })
    (R := fun (q : Result) (s' : Shared) => ∃ (h' : Heap) (tk : Nat) (acc' : Array Value) (c' : Nat), q = .ok (.ret (.ref s.heap.objs.size)) ∧ s' = { s with heap := h', toks := tk } ∧
      (∀ b o, s.heap.get? b = some o → h'.get? b = some o) ∧ h'.get? s.heap.objs.size = some { cls := .type "list", dict := none, data := .seq acc' c', slots := #[] } ∧ IntsAre acc'.toList (rngZ n))
    hh (Heap.get?_push_of_some _ hr) hsm hsz hlen s.heap.objs.size (.ref s.heap.objs.size) 0 hS₁
    (fun h' tk acc' c' hk hS' hI => ⟨h', tk, acc', c', rfl, rfl, fun b o e => hk b o (Nat.ne_of_lt (Heap.lt_size e)) (Heap.get?_push_of_some _ e), hS', items hI⟩)
  refine wpAny_mono key (fun fin s' x => ?_) fun e s' x => ?_
  · cases fin with
    | done f =>
      obtain ⟨h', tk, acc', c', e, rfl, hk, hS', hI⟩ := x
      cases e
      show wpAny _ A (load s.heap.objs.size >>= _) _ _ _
      refine wpAny_bind (wpAny_load hS' ?_)
      exact wpAny_pure (h h' tk acc'.toList hk (Heap.lt_size hS') hI)
    | again c₁ =>
      refine ⟨x.1, codeAny_mono x.2 fun q s₂ y => ?_⟩
      obtain ⟨h', tk, acc', c', rfl, rfl, hk, hS', hI⟩ := y
      show wpAny _ A (load s.heap.objs.size >>= _) _ _ _
      refine wpAny_bind (wpAny_load hS' ?_)
      exact wpAny_pure (h h' tk acc'.toList hk (Heap.lt_size hS') hI)
  · obtain ⟨_, _, _, _, e', _⟩ := x
    cases e'
def allBut (h : Heap) (L : Addr) : List (Addr × Obj) := (List.range h.objs.size).filterMap fun a => if a = L then none else (h.get? a).map fun o => (a, o)
theorem mem_allBut {h : Heap} {L a : Addr} {o : Obj} : (a, o) ∈ allBut h L ↔ a ≠ L ∧ h.get? a = some o := by
  unfold allBut
  rw [List.mem_filterMap]
  constructor
  · rintro ⟨b, _, e⟩
    by_cases hb : b = L
    · rw [if_pos hb] at e; cases e
    · rw [if_neg hb] at e
      cases q : h.get? b with
      | none => rw [q] at e; cases e
      | some o' => rw [q] at e; cases e; exact ⟨hb, q⟩
  · rintro ⟨h1, h2⟩
    exact ⟨a, List.mem_range.mpr (Heap.lt_size h2), by rw [if_neg h1, h2]; rfl⟩
def intOf : Value → Int
  | .int z _ => z
  | _ => 0
theorem ints_at : ∀ {vs : List Value} {ns : List Int}, IntsAre vs ns → ∀ (j : Nat) v, vs[j]? = some v → ∃ z t, ns[j]? = some z ∧ v = .int z t
  | _, _, .nil, j, v, h => by simp at h
  | _, _, .cons n t hr, 0, v, h => by cases h; exact ⟨n, t, rfl, rfl⟩
  | _, _, .cons n t hr, j + 1, v, h => by
    rw [List.getElem?_cons_succ] at h ⊢
    exact ints_at hr j v h
theorem intsAre_map : ∀ {vs : List Value}, (∀ v ∈ vs, ∃ t, v = .int (intOf v) t) → IntsAre vs (vs.map intOf)
  | [], _ => .nil
  | v :: vs, h => by
    obtain ⟨t, e⟩ := h v List.mem_cons_self
    rw [List.map_cons, e]
    exact .cons _ _ (intsAre_map fun x hx => h x (List.mem_cons_of_mem _ hx))
theorem zip_ints : ∀ {vs : List Value} {ns : List Int}, IntsAre vs ns → vs.map intOf = ns
  | _, _, .nil => rfl
  | _, _, .cons n t hr => by rw [List.map_cons, zip_ints hr]; rfl
theorem sorted_key {Q : Value → Shared → Prop} {r f L : Addr} {n : Nat} {t u v : Tok} {m : Str → Option Value} {key : Nat → Int} (hh : A.handled = none) (hr : IsRange s.heap r 0 (n : Int) 1 t u v) (h64 : n < 64) (hL : s.heap.Ns L m)
    (turn : ∀ (j : Nat) (t0 : Tok) (h : Heap) (tk : Nat), j < n → (∀ b o, b ≠ L → s.heap.get? b = some o → h.get? b = some o) → h.Ns L m →
      wpAny (model prog w) A.in1.in1 (call (.ref f) [.int (j : Int) t0]) (fun v s2 => ∃ h' tk' t', s2 = { s with heap := h', toks := tk' } ∧ v = .int (key j) t' ∧ (∀ b o, b ≠ L → h.get? b = some o → h'.get? b = some o) ∧ h'.Ns L m) (fun _ _ => False) { s with heap := h, toks := tk })
    (hQ : ∀ (h' : Heap) (tk : Nat) (D : Addr) (out : Array Value) (c : Nat) (ms : List Int), (∀ b o, b ≠ L → s.heap.get? b = some o → h'.get? b = some o) → h'.Ns L m → h'.get? D = some (seqObj "list" out c) → s.heap.objs.size ≤ D →
      IntsAre out.toList ms → ms.Perm (rngZ n) → ms.Pairwise (fun a b => key a.toNat ≤ key b.toNat) → Q (.ref D) { s with heap := h', toks := tk }) :
    wpAny (model prog w) A (call (.builtin "sorted") [.ref r] [(Str.ofString "key", .ref f)]) Q E s := by
  refine call_function_entry_kw kind_sorted plain_sorted entry_sorted (ksk_s1 _ _) ?_
  unfold Builtin.«sorted»
  refine wpAny_bind (m := checkCount "sorted" 1 1 _) (wpAny_pure ?_)
  refine wpAny_bind (collect_rng (A := A.in1) hh hr (by omega) fun h1 tk1 vs k1 hgr hvs => ?_)
  have hvl : vs.length = n := by rw [hvs.length, List.length_map, List.length_range]
  refine wpAny_bind (wpAny_newList ?_ (by rw [sizeLine_eq]; omega))
  have hoL : (h1.push (seqObj "list" vs.toArray 0)).get? h1.objs.size = some (seqObj "list" vs.toArray 0) := Heap.get?_push_size _ rfl
  have k2 : ∀ b o, s.heap.get? b = some o → (h1.push (seqObj "list" vs.toArray 0)).get? b = some o := fun b o e => Heap.get?_push_of_some _ (k1 b o e)
  have hle : s.heap.objs.size ≤ h1.objs.size := Nat.le_of_lt hgr
  show wpAny _ _ _ _ _ { s with heap := h1.push (seqObj "list" vs.toArray 0), toks := tk1 }
  refine wpAny_bind (wpAny_holding (wpAny_call_entry_kw slot_list_sort ⟨_, hoL, rfl⟩ entry_list_sort ?body (ksk_l1 _ _)))
  show wpAny (model prog w) A.in1.in1 (Builtin.«list.sort» ⟨[.ref h1.objs.size], [(Str.ofString "key", .ref f)]⟩) _ _ _
  rw [ksk_t1]
  have hLn : (h1.push (seqObj "list" vs.toArray 0)).Ns L m := by
    obtain ⟨o, es, ep, e1, e2⟩ := hL
    exact ⟨o, es, ep, k2 L o e1, e2⟩
  have hLlt : L < s.heap.objs.size := hL.lt
  have hLne : h1.objs.size ≠ L := Nat.ne_of_gt (Nat.lt_of_lt_of_le hLlt hle)
  refine ksk_sort (kz := (List.range n).map key) (h₀ := ⟨#[], {}⟩) (L := L) (m := m) (news := (allBut (h1.push (seqObj "list" vs.toArray 0)) L).filter fun p => decide (p.1 ≠ h1.objs.size)) (s := { s with heap := h1.push (seqObj "list" vs.toArray 0), toks := tk1 })
    ⟨hLn, fun b o e => by simp [Heap.get?] at e, Nat.zero_le _⟩ (fun p hp => ?_) hoL hLne (by simp [Heap.get?]) (fun p hp => of_decide_eq_true (List.mem_filter.mp hp).2) (by rw [List.length_map, List.length_range, hvl]) (by omega) ?_ ?_
  · obtain ⟨q1, q2⟩ := mem_allBut.mp (List.mem_filter.mp hp).1
    exact ⟨q2, q1, by simp [Heap.get?]⟩
  · intro i v k hv hk h tk own F N
    obtain ⟨z, t0, e1, rfl⟩ := ints_at hvs i v hv
    have hi : i < n := by rw [← hvl]; exact (List.getElem?_eq_some_iff.mp hv).1
    rw [List.getElem?_map, List.getElem?_range hi] at e1 hk
    cases e1
    cases hk
    have kh : ∀ b o, b ≠ L → s.heap.get? b = some o → h.get? b = some o := fun b o hb e =>
      (N (b, o) (List.mem_append_left _ (List.mem_filter.mpr ⟨mem_allBut.mpr ⟨hb, k2 b o e⟩, decide_eq_true (Nat.ne_of_lt (Nat.lt_of_lt_of_le (Heap.lt_size e) hle))⟩))).1
    refine wpAny_mono (turn i t0 h tk hi kh F.ns) (fun v s2 ⟨h', tk', t', e1, e2, kk, nn⟩ => ?_) fun _ _ z => z
    exact ⟨h', tk', t', e1, e2, ⟨nn, fun b o e => by simp [Heap.get?] at e, Nat.zero_le _⟩, fun p hp => ⟨kk _ _ (N p hp).2.1 (N p hp).1, (N p hp).2⟩⟩
  · intro h' tk out c F N ⟨ps, hp, ho, hs⟩
    refine ⟨_, rfl, wpAny_pure ⟨_, rfl, ?_⟩⟩
    have hz : ∀ p ∈ ps, (∃ t, p.2 = .int (intOf p.2) t) ∧ p.1 = key (intOf p.2).toNat := fun p hpm => by
      obtain ⟨j, hj⟩ := List.mem_iff_getElem?.mp (hp.mem_iff.mp hpm)
      obtain ⟨g1, g2⟩ := List.getElem?_zip_eq_some.mp hj
      obtain ⟨z, t0, e1, e2⟩ := ints_at hvs j _ g2
      have hjn : j < n := by rw [← hvl]; exact (List.getElem?_eq_some_iff.mp g2).1
      rw [List.getElem?_map, List.getElem?_range hjn] at e1 g1
      cases e1
      refine ⟨⟨t0, by rw [e2]; rfl⟩, ?_⟩
      rw [e2]
      show p.1 = key (j : Int).toNat
      rw [Int.toNat_natCast]
      exact (Option.some.inj g1).symm
    refine hQ h' tk h1.objs.size out c (ps.map fun p => intOf p.2) (fun b o hb e => ?_) F.ns (N _ List.mem_cons_self).1 hle ?_ ?_ ?_
    · exact (N (b, o) (List.mem_cons_of_mem _ (List.mem_filter.mpr ⟨mem_allBut.mpr ⟨hb, k2 b o e⟩, decide_eq_true (Nat.ne_of_lt (Nat.lt_of_lt_of_le (Heap.lt_size e) hle))⟩))).1
    · rw [ho, show (ps.map fun p => intOf p.2) = (ps.map Prod.snd).map intOf by rw [List.map_map]; rfl]
      refine intsAre_map fun v hv => ?_
      obtain ⟨p, hpm, rfl⟩ := List.mem_map.mp hv
      exact (hz p hpm).1
    · refine (hp.map fun p => intOf p.2).trans ?_
      rw [show (((List.range n).map key).zip vs).map (fun p => intOf p.2) = (((List.range n).map key).zip vs |>.map Prod.snd).map intOf by rw [List.map_map]; rfl, List.map_snd_zip (by rw [List.length_map, List.length_range, hvl]; exact Nat.le_refl _), zip_ints hvs]
    · rw [List.pairwise_map]
      refine hs.imp_of_mem fun {a b} ha hb h => ?_
      rw [← (hz a ha).2, ← (hz b hb).2]
      exact h
end
end L2
set_option Elab.async false
set_option linter.all false
set_option maxRecDepth 100000
set_option maxHeartbeats 4000000
namespace L2
open PySem PySem.Spec PySem.Calls PyProof.Rows
abbrev lamB (x y : Str) (p1 p2 p3 p4 : Pos) : Expr := .UnaryOp .USub (.Subscript (.Name x p1) (.Name y p2) p3) p4
section
variable {prog : Program} {w : World} {A : Around} {E : Value → Shared → Prop} {s : Shared}
theorem lam_call {Q : Value → Shared → Prop} {f c' cr a : Addr} {q x y : Str} {params : Arguments} {scope : Scope} {p1 p2 p3 p4 : Pos} {pm ctv : Value} {t0 tz : Tok} {j : Nat} {z : Int} {items : Array Value}
    (ho : s.heap.get? f = some (PySem.W.kla_obj "<lambda>" q params (lamB x y p1 p2 p3 p4) scope [(x, cr)] pm c' ctv)) (hcd : s.heap.CodeRec (.ref c') q) (hroom : A.depth < recursionLimit) (hnl : s.heap.NoLimit)
    (hcell : s.heap.IsCell cr (some (.ref a))) (hl : s.heap.IsList a items) (hx : items[j]? = some (.int z tz)) (hj : j < 2 ^ 62)
    (hb : ∀ v : Value, bindArgs (PySem.W.kla_fn "<lambda>" q params (lamB x y p1 p2 p3 p4) scope [(x, cr)] pm (.ref c') ctv) ⟨[v], []⟩ = pure [(y, v)])
    (hy : scope.names.lookup y = some .local) (hxf : scope.names.lookup x = some .free) (hnc : ∀ n ∈ scope.names, n.2 ≠ .cell) (hk : scope.kind = .function) (hco : scope.isCoroutine = false) (hgen : scope.isGenerator = false)
    (hdx : (x == ("__debug__" : Str)) = false) (hdy : (y == ("__debug__" : Str)) = false) (hcx : (x == ("__classdict__" : Str)) = false)
    (hQ : ∀ (h' : Heap) (tk : Nat) (t' : Tok), (∀ b o, s.heap.get? b = some o → h'.get? b = some o) → Q (.int (-z) t') { s with heap := h', toks := tk }) :
    wpAny (model prog w) A (call (.ref f) [.int (j : Int) t0]) Q E s := by
  refine wpAny_call (PySem.W.kla_callFunE hroom ho rfl hco hgen rfl hcd ?_)
  rw [hb]
  refine wpAny_pure (wpAny_newFunctionEnv hnc (fun p hp => ?_) (fun h₁ hns hsb => ⟨hnl.fresh _ hsb, ?_⟩) hk)
  · rw [List.mem_singleton.mp hp]; exact hy
  have hk₁ : ∀ b o, s.heap.get? b = some o → h₁.get? b = some o := fun b o e => hsb.extBut b o (Nat.ne_of_lt (Heap.lt_size e)) (Heap.get?_push_of_some _ e)
  refine PySem.W.kla_codeExpr ?_
  refine UnaryOp_ (Subscript_ ?_)
  refine wpAny_Name (wpAny_loadName_free (c := cr) (v := .ref a) hk hxf ?_ (let ⟨o, e, d⟩ := hcell; ⟨o, hk₁ _ o e, d⟩) ?_ hcx) hdx
  · show List.lookup x [(x, cr)] = some cr
    rw [List.lookup_cons_self]
  refine wpAny_Name (wpAny_loadName_local (v := .int (j : Int) t0) hk hy hns ?_ ?_) hdy
  · show List.lookup y [(y, Value.int (j : Int) t0)] = _
    rw [List.lookup_cons_self]
  refine item_listR (hl.at fun o e => hk₁ _ o e) (by omega) (by omega) (by rw [Int.toNat_natCast]; exact hx) ?_
  exact neg_int (hQ _ _ _ hk₁)
end
end L2
set_option Elab.async false
set_option linter.all false
set_option maxRecDepth 100000
set_option maxHeartbeats 4000000
namespace L3
open PySem L2
inductive D where
  | non | bl (b : Bool) | int (i : Int) | str (x : Str) | lst (ds : List D) | tup (ds : List D) | dic (kvs : List (Key × V)) | dit (kvs : List (List Key × V)) | scr (ns : List Int) | pin (a : Addr) (d : D) | ins (C : Addr) (ns : List Str) (ds : List D)
def NT : HO → Prop | .tbl _ => False | _ => True
def lamQ : Str := "falling_places.<locals>.<lambda>"
def lamC (c : Addr) : HO := .ext fun h => h.CodeRec (.ref c) lamQ
def TabAt (P : Addr) (H : Hp) : Prop := ∃ ps, H P = some (.tbl ps) ∧ TriplesOk ps.toList ∧ ∀ pos cv, codeAmong pos ps.toList = some cv → ∃ c, cv = .ref c ∧ H c = some (lamC c)
structure Same (H H' : Hp) : Prop where
  st : ∀ b o, H b = some o → NT o → H' b = some o
  tb : ∀ b ps, H b = some (.tbl ps) → ∃ ps', H' b = some (.tbl ps')
  ti : ∀ P, TabAt P H → TabAt P H'
theorem Same.refl (H : Hp) : Same H H := ⟨fun _ _ h _ => h, fun _ ps h => ⟨ps, h⟩, fun _ h => h⟩
theorem Same.trans {H H1 H2 : Hp} (a : Same H H1) (b : Same H1 H2) : Same H H2 := ⟨fun c o h n => b.st c o (a.st c o h n) n, fun c ps h => let ⟨_, h1⟩ := a.tb c ps h; b.tb c _ h1, fun P h => b.ti P (a.ti P h)⟩
theorem Same.free {H H' : Hp} (e : Same H H') {l : Addr} (h : H' l = Option.none) : H l = Option.none := by
  cases q : H l with
  | none => rfl
  | some o =>
    by_cases n : NT o
    · rw [e.st l o q n] at h; cases h
    · cases o with
      | tbl ps => obtain ⟨ps', z⟩ := e.tb l ps q; rw [z] at h; cases h
      | _ => exact absurd trivial n
theorem Same.all {H H' : Hp} (k : ∀ b u, H b = some u → H' b = some u) : Same H H' :=
  ⟨fun b u e _ => k b u e, fun b ps e => ⟨ps, k b _ e⟩, fun P ⟨ps, e, g1, g2⟩ => ⟨ps, k P _ e, g1, fun pos cv z => let ⟨c, z1, z2⟩ := g2 pos cv z; ⟨c, z1, k c _ z2⟩⟩⟩
theorem Same.new' {H : Hp} {p : Addr} {o : HO} (h : H p = none) : Same H (upd H p o) := Same.all fun b u e => by rw [upd_ne (ne_of_none e h)]; exact e
theorem Same.seq {K : PySem.W.Frag} {H H' : Hp} {a : Addr} {xs : List V} (e : Same H H') (h : SqL K H a xs) : SqL K H' a xs := by
  rcases h with (h | ⟨o, h⟩) | h
  · exact .inl (.inl (e.st _ _ h trivial))
  · exact .inl (.inr ⟨o, e.st _ _ h trivial⟩)
  · exact .inr h
def tabP : Addr := 192
def TabInv (K : PySem.W.Frag) (H : Hp) : Prop := TabAt tabP H
theorem TabInv.same {K : PySem.W.Frag} {H H' : Hp} (t : TabInv K H) (s : Same H H') : TabInv K H' := s.ti _ t
structure SB (K : PySem.W.Frag) (B H : Hp) : Prop extends Same B H where
  tv : TabInv K B
theorem SB.trans {K : PySem.W.Frag} {B H H' : Hp} (a : SB K B H) (s : Same H H') : SB K B H' := ⟨a.toSame.trans s, a.tv⟩
theorem SB.now {K : PySem.W.Frag} {B H : Hp} (a : SB K B H) : TabInv K H := a.tv.same a.toSame
instance {K : PySem.W.Frag} {B H : Hp} : CoeOut (SB K B H) (Same B H) := ⟨SB.toSame⟩
theorem SB.refl {K : PySem.W.Frag} {H : Hp} (t : TabInv K H) : SB K H H := ⟨Same.refl H, t⟩
def Kc (K : PySem.W.Frag) (a : Addr) (xs : List V) : Prop :=
  ∃ (o : Obj) (its : Array Value) (n : Nat), K.lookup a = some o ∧ o.cls = .type "list" ∧ o.dict = none ∧ o.data = .seq its n ∧ its.size ≤ sizeLine ∧ Vals xs its.toList
def Sc (K : PySem.W.Frag) (H : Hp) (a : Addr) (xs : List V) : Prop := (∃ o, H a = some (.frz o (.lst xs))) ∨ Kc K a xs
theorem Sc.seq {K : PySem.W.Frag} {H : Hp} {a : Addr} {xs : List V} (h : Sc K H a xs) : SqL K H a xs := h.elim (fun ⟨o, h⟩ => .inl (.inr ⟨o, h⟩)) .inr
def Im (o : HO) : Prop := (∃ xs, o = .tup xs) ∨ ∃ o' u, o = .frz o' u
section
variable {K : PySem.W.Frag}
mutual
def Rf (K : PySem.W.Frag) (H : Hp) : D → V → List Addr → Prop
  | .non, v, fp => v = .non ∧ fp = []
  | .bl b, v, fp => v = .bl b ∧ fp = []
  | .int i, v, fp => v = .int i ∧ fp = []
  | .str x, v, fp => v = .str x ∧ fp = []
  | .lst ds, v, fp => ∃ a xs fq, v = .ref a ∧ H a = some (.lst xs) ∧ fp = a :: fq ∧ Rfs K H ds xs fq
  | .tup ds, v, fp => ∃ a xs, v = .ref a ∧ H a = some (.tup xs) ∧ Rfs K H ds xs fp
  | .dic kvs, v, fp => ∃ a, v = .ref a ∧ H a = some (.dK kvs) ∧ (∀ p ∈ kvs, flatV p.2 = true) ∧ fp = [a]
  | .dit kvs, v, fp => ∃ a, v = .ref a ∧ H a = some (.dT kvs) ∧ (∀ p ∈ kvs, flatV p.2 = true) ∧ fp = [a]
  | .scr ns, v, fp => ∃ a, v = .ref a ∧ Sc K H a (ns.map V.int) ∧ fp = []
  | .pin a d, v, fp => v = .ref a ∧ Rf K H d v fp
  | .ins C ns ds, v, fp => ∃ a dx xs fq, v = .ref a ∧ H a = some (.ins C dx (ns.zip xs)) ∧ fp = a :: fq ∧ Rfs K H ds xs fq
def Rfs (K : PySem.W.Frag) (H : Hp) : List D → List V → List Addr → Prop
  | [], xs, fp => xs = [] ∧ fp = []
  | d :: ds, xs, fp => ∃ x r f1 f2, xs = x :: r ∧ fp = f1 ++ f2 ∧ Rf K H d x f1 ∧ Rfs K H ds r f2
end
def Rp (K : PySem.W.Frag) (H : Hp) (d : D) (v : V) : Prop := ∃ fp, Rf K H d v fp
def Rps (K : PySem.W.Frag) (H : Hp) (ds : List D) (vs : List V) : Prop := ∃ fp, Rfs K H ds vs fp
mutual
theorem Rf.mono {H H' : Hp} : ∀ {d : D} {v : V} {fp : List Addr}, Rf K H d v fp → (∀ a ∈ fp, ∀ o, H a = some o → H' a = some o) → (∀ a o, H a = some o → Im o → H' a = some o) → Rf K H' d v fp
  | .non, _, _, h, _, _ => h
  | .bl _, _, _, h, _, _ => h
  | .int _, _, _, h, _, _ => h
  | .str _, _, _, h, _, _ => h
  | .lst ds, v, fp, h, k, t => by
    obtain ⟨a, xs, fq, e1, e2, e3, h⟩ := h
    subst e3
    exact ⟨a, xs, fq, e1, k a List.mem_cons_self _ e2, rfl, Rfs.mono h (fun b hb => k b (List.mem_cons_of_mem _ hb)) t⟩
  | .tup ds, v, fp, h, k, t => by
    obtain ⟨a, xs, e1, e2, h⟩ := h
    exact ⟨a, xs, e1, t a _ e2 (.inl ⟨_, rfl⟩), Rfs.mono h k t⟩
  | .dic kvs, v, fp, h, k, t => by
    obtain ⟨a, e1, e2, e3, e4⟩ := h
    subst e4
    exact ⟨a, e1, k a List.mem_cons_self _ e2, e3, rfl⟩
  | .dit kvs, v, fp, h, k, t => by
    obtain ⟨a, e1, e2, e3, e4⟩ := h
    subst e4
    exact ⟨a, e1, k a List.mem_cons_self _ e2, e3, rfl⟩
  | .scr ns, v, fp, h, k, t => by
    obtain ⟨a, e1, e2, e3⟩ := h
    refine ⟨a, e1, ?_, e3⟩
    rcases e2 with ⟨o, e2⟩ | e2
    · exact .inl ⟨o, t a _ e2 (.inr ⟨_, _, rfl⟩)⟩
    · exact .inr e2
  | .pin a d, v, fp, h, k, t => ⟨h.1, Rf.mono h.2 k t⟩
  | .ins C ns ds, v, fp, h, k, t => by
    obtain ⟨a, dx, xs, fq, e1, e2, e3, h⟩ := h
    subst e3
    exact ⟨a, dx, xs, fq, e1, k a List.mem_cons_self _ e2, rfl, Rfs.mono h (fun b hb => k b (List.mem_cons_of_mem _ hb)) t⟩
theorem Rfs.mono {H H' : Hp} : ∀ {ds : List D} {vs : List V} {fp : List Addr}, Rfs K H ds vs fp → (∀ a ∈ fp, ∀ o, H a = some o → H' a = some o) → (∀ a o, H a = some o → Im o → H' a = some o) → Rfs K H' ds vs fp
  | [], _, _, h, _, _ => h
  | d :: ds, vs, fp, h, k, t => by
    obtain ⟨x, r, f1, f2, e1, e2, h1, h2⟩ := h
    subst e2
    exact ⟨x, r, f1, f2, e1, rfl, Rf.mono h1 (fun b hb => k b (List.mem_append_left _ hb)) t, Rfs.mono h2 (fun b hb => k b (List.mem_append_right _ hb)) t⟩
end
mutual
theorem Rf.monoT {H H' : Hp} : ∀ {d : D} {v : V} {fp : List Addr}, Rf K H d v fp → (∀ a ∈ fp, ∀ o, H a = some o → NT o → H' a = some o) → (∀ a o, H a = some o → Im o → H' a = some o) → Rf K H' d v fp
  | .non, _, _, h, _, _ => h
  | .bl _, _, _, h, _, _ => h
  | .int _, _, _, h, _, _ => h
  | .str _, _, _, h, _, _ => h
  | .lst ds, v, fp, h, k, t => by
    obtain ⟨a, xs, fq, e1, e2, e3, h⟩ := h
    subst e3
    exact ⟨a, xs, fq, e1, k a List.mem_cons_self _ e2 trivial, rfl, Rfs.monoT h (fun b hb => k b (List.mem_cons_of_mem _ hb)) t⟩
  | .tup ds, v, fp, h, k, t => by
    obtain ⟨a, xs, e1, e2, h⟩ := h
    exact ⟨a, xs, e1, t a _ e2 (.inl ⟨_, rfl⟩), Rfs.monoT h k t⟩
  | .dic kvs, v, fp, h, k, t => by
    obtain ⟨a, e1, e2, e3, e4⟩ := h
    subst e4
    exact ⟨a, e1, k a List.mem_cons_self _ e2 trivial, e3, rfl⟩
  | .dit kvs, v, fp, h, k, t => by
    obtain ⟨a, e1, e2, e3, e4⟩ := h
    subst e4
    exact ⟨a, e1, k a List.mem_cons_self _ e2 trivial, e3, rfl⟩
  | .scr ns, v, fp, h, k, t => by
    obtain ⟨a, e1, e2, e3⟩ := h
    refine ⟨a, e1, ?_, e3⟩
    rcases e2 with ⟨o, e2⟩ | e2
    · exact .inl ⟨o, t a _ e2 (.inr ⟨_, _, rfl⟩)⟩
    · exact .inr e2
  | .pin a d, v, fp, h, k, t => ⟨h.1, Rf.monoT h.2 k t⟩
  | .ins C ns ds, v, fp, h, k, t => by
    obtain ⟨a, dx, xs, fq, e1, e2, e3, h⟩ := h
    subst e3
    exact ⟨a, dx, xs, fq, e1, k a List.mem_cons_self _ e2 trivial, rfl, Rfs.monoT h (fun b hb => k b (List.mem_cons_of_mem _ hb)) t⟩
theorem Rfs.monoT {H H' : Hp} : ∀ {ds : List D} {vs : List V} {fp : List Addr}, Rfs K H ds vs fp → (∀ a ∈ fp, ∀ o, H a = some o → NT o → H' a = some o) → (∀ a o, H a = some o → Im o → H' a = some o) → Rfs K H' ds vs fp
  | [], _, _, h, _, _ => h
  | d :: ds, vs, fp, h, k, t => by
    obtain ⟨x, r, f1, f2, e1, e2, h1, h2⟩ := h
    subst e2
    exact ⟨x, r, f1, f2, e1, rfl, Rf.monoT h1 (fun b hb => k b (List.mem_append_left _ hb)) t, Rfs.monoT h2 (fun b hb => k b (List.mem_append_right _ hb)) t⟩
end
theorem Rf.same {H H' : Hp} {d : D} {v : V} {fp : List Addr} (h : Rf K H d v fp) (s : Same H H') : Rf K H' d v fp := h.monoT (fun a _ o e n => s.st a o e n) fun a o e i => s.st a o e (by rcases i with ⟨_, rfl⟩ | ⟨_, _, rfl⟩ <;> trivial)
theorem Rfs.same {H H' : Hp} {d : List D} {v : List V} {fp : List Addr} (h : Rfs K H d v fp) (s : Same H H') : Rfs K H' d v fp := h.monoT (fun a _ o e n => s.st a o e n) fun a o e i => s.st a o e (by rcases i with ⟨_, rfl⟩ | ⟨_, _, rfl⟩ <;> trivial)
theorem Rp.same {H H' : Hp} {d : D} {v : V} (h : Rp K H d v) (s : Same H H') : Rp K H' d v := let ⟨fp, h⟩ := h; ⟨fp, h.same s⟩
mutual
theorem Rf.dom {H : Hp} : ∀ {d : D} {v : V} {fp : List Addr}, Rf K H d v fp → ∀ a ∈ fp, ∃ o, H a = some o ∧ ¬ Im o
  | .non, _, _, h, a, ha => by obtain ⟨_, rfl⟩ := h; nomatch ha
  | .bl _, _, _, h, a, ha => by obtain ⟨_, rfl⟩ := h; nomatch ha
  | .int _, _, _, h, a, ha => by obtain ⟨_, rfl⟩ := h; nomatch ha
  | .str _, _, _, h, a, ha => by obtain ⟨_, rfl⟩ := h; nomatch ha
  | .lst ds, v, fp, h, b, hb => by
    obtain ⟨a, xs, fq, e1, e2, e3, h⟩ := h
    subst e3
    rcases List.mem_cons.mp hb with e | hb
    · subst e; exact ⟨_, e2, fun z => by rcases z with ⟨_, z⟩ | ⟨_, _, z⟩ <;> cases z⟩
    · exact Rfs.dom h b hb
  | .tup ds, v, fp, h, b, hb => by
    obtain ⟨a, xs, e1, e2, h⟩ := h
    exact Rfs.dom h b hb
  | .dic kvs, v, fp, h, b, hb => by
    obtain ⟨a, e1, e2, e3, e4⟩ := h
    subst e4
    cases List.mem_singleton.mp hb
    exact ⟨_, e2, fun z => by rcases z with ⟨_, z⟩ | ⟨_, _, z⟩ <;> cases z⟩
  | .dit kvs, v, fp, h, b, hb => by
    obtain ⟨a, e1, e2, e3, e4⟩ := h
    subst e4
    cases List.mem_singleton.mp hb
    exact ⟨_, e2, fun z => by rcases z with ⟨_, z⟩ | ⟨_, _, z⟩ <;> cases z⟩
  | .scr ns, v, fp, h, b, hb => by
    obtain ⟨a, e1, e2, e3⟩ := h
    subst e3; nomatch hb
  | .pin a d, v, fp, h, b, hb => Rf.dom h.2 b hb
  | .ins C ns ds, v, fp, h, b, hb => by
    obtain ⟨a, dx, xs, fq, e1, e2, e3, h⟩ := h
    subst e3
    rcases List.mem_cons.mp hb with e | hb
    · subst e; exact ⟨_, e2, fun z => by rcases z with ⟨_, z⟩ | ⟨_, _, z⟩ <;> cases z⟩
    · exact Rfs.dom h b hb
theorem Rfs.dom {H : Hp} : ∀ {ds : List D} {vs : List V} {fp : List Addr}, Rfs K H ds vs fp → ∀ a ∈ fp, ∃ o, H a = some o ∧ ¬ Im o
  | [], _, _, h, a, ha => by obtain ⟨_, rfl⟩ := h; nomatch ha
  | d :: ds, vs, fp, h, b, hb => by
    obtain ⟨x, r, f1, f2, e1, e2, h1, h2⟩ := h
    subst e2
    rcases List.mem_append.mp hb with hb | hb
    · exact Rf.dom h1 b hb
    · exact Rfs.dom h2 b hb
end
theorem Rf.upd {H : Hp} {d : D} {v : V} {fp : List Addr} {l : Addr} {o : HO} (h : Rf K H d v fp) (hl : l ∉ fp) (hm : ∀ o, H l = some o → ¬ Im o) : Rf K (upd H l o) d v fp :=
  h.mono (fun a ha u e => by rw [upd_ne (fun z => hl (by rw [← z]; exact ha))]; exact e) fun a o e i => by rw [upd_ne (fun z => hm o (by rw [← z]; exact e) i)]; exact e
theorem Rfs.upd {H : Hp} {d : List D} {v : List V} {fp : List Addr} {l : Addr} {o : HO} (h : Rfs K H d v fp) (hl : l ∉ fp) (hm : ∀ o, H l = some o → ¬ Im o) : Rfs K (upd H l o) d v fp :=
  h.mono (fun a ha u e => by rw [upd_ne (fun z => hl (by rw [← z]; exact ha))]; exact e) fun a o e i => by rw [upd_ne (fun z => hm o (by rw [← z]; exact e) i)]; exact e
theorem Rfs.length {H : Hp} : ∀ {ds : List D} {vs : List V} {fp : List Addr}, Rfs K H ds vs fp → vs.length = ds.length
  | [], _, _, h => by obtain ⟨rfl, _⟩ := h; rfl
  | d :: ds, vs, fp, h => by
    obtain ⟨x, r, f1, f2, e1, e2, h1, h2⟩ := h
    subst e1
    rw [List.length_cons, List.length_cons, Rfs.length h2]
theorem Rfs.append {H : Hp} : ∀ {ds es : List D} {vs ws : List V} {fp fq : List Addr}, Rfs K H ds vs fp → Rfs K H es ws fq → Rfs K H (ds ++ es) (vs ++ ws) (fp ++ fq)
  | [], es, vs, ws, fp, fq, h, h' => by obtain ⟨rfl, rfl⟩ := h; exact h'
  | d :: ds, es, vs, ws, fp, fq, h, h' => by
    obtain ⟨x, r, f1, f2, rfl, rfl, h1, h2⟩ := h
    exact ⟨x, r ++ ws, f1, f2 ++ fq, rfl, List.append_assoc .., h1, Rfs.append h2 h'⟩
theorem Rfs.one {H : Hp} {d : D} {v : V} {fp : List Addr} (h : Rf K H d v fp) : Rfs K H [d] [v] fp := ⟨v, [], fp, [], rfl, (List.append_nil _).symm, h, rfl, rfl⟩
theorem Rfs.get {H : Hp} : ∀ {ds : List D} {vs : List V} {fp : List Addr} {i : Nat} {d : D}, Rfs K H ds vs fp → ds[i]? = some d → ∃ v f, vs[i]? = some v ∧ Rf K H d v f ∧ (∀ a ∈ f, a ∈ fp)
  | [], _, _, _, _, _, e => by simp at e
  | d :: ds, vs, fp, 0, d', h, e => by
    obtain ⟨x, r, f1, f2, rfl, rfl, h1, h2⟩ := h
    simp at e; subst e
    exact ⟨x, f1, rfl, h1, fun a ha => List.mem_append_left _ ha⟩
  | d :: ds, vs, fp, i + 1, d', h, e => by
    obtain ⟨x, r, f1, f2, rfl, rfl, h1, h2⟩ := h
    obtain ⟨v, f, e1, h3, k⟩ := Rfs.get (i := i) h2 (by simpa using e)
    exact ⟨v, f, by simpa using e1, h3, fun a ha => List.mem_append_right _ (k a ha)⟩
theorem Rfs.get' {H : Hp} {ds : List D} {vs : List V} {fp : List Addr} {i : Nat} {v : V} (h : Rfs K H ds vs fp) (e : vs[i]? = some v) : ∃ d f, ds[i]? = some d ∧ Rf K H d v f ∧ (∀ a ∈ f, a ∈ fp) := by
  have hl := h.length
  obtain ⟨hi, _⟩ := List.getElem?_eq_some_iff.mp e
  have hi' : i < ds.length := by omega
  obtain ⟨v', f, e1, h1, k⟩ := h.get (d := ds[i]) (List.getElem?_eq_getElem hi')
  rw [e] at e1; cases e1
  exact ⟨ds[i], f, List.getElem?_eq_getElem hi', h1, k⟩
def D.scal : D → Bool
  | .non => true | .bl _ => true | .int _ => true | .str _ => true | _ => false
def D.toV : D → V
  | .non => .non | .bl b => .bl b | .int i => .int i | .str x => .str x | _ => .non
theorem Rf.scal {H : Hp} {d : D} {v : V} {fp : List Addr} (h : Rf K H d v fp) (s : d.scal = true) : v = d.toV ∧ fp = [] := by
  cases d <;> first | exact h | cases s
theorem Rf.ofScal {H : Hp} {d : D} (s : d.scal = true) : Rf K H d d.toV [] := by
  cases d <;> first | exact ⟨rfl, rfl⟩ | cases s
theorem Rp.int {H : Hp} {i : Int} {v : V} (h : Rp K H (.int i) v) : v = .int i := h.choose_spec.1
theorem Rp.bl {H : Hp} {i : Bool} {v : V} (h : Rp K H (.bl i) v) : v = .bl i := h.choose_spec.1
theorem Rfs.scals {H : Hp} : ∀ {ds : List D} {vs : List V} {fp : List Addr}, Rfs K H ds vs fp → ds.all D.scal = true → vs = ds.map D.toV ∧ fp = []
  | [], vs, fp, h, _ => h
  | d :: ds, vs, fp, h, s => by
    obtain ⟨x, r, f1, f2, rfl, rfl, h1, h2⟩ := h
    simp only [List.all_cons, Bool.and_eq_true] at s
    obtain ⟨rfl, rfl⟩ := h1.scal s.1
    obtain ⟨rfl, rfl⟩ := Rfs.scals h2 s.2
    exact ⟨rfl, rfl⟩
theorem Rfs.ofScals {H : Hp} : ∀ {ds : List D}, ds.all D.scal = true → Rfs K H ds (ds.map D.toV) []
  | [], _ => ⟨rfl, rfl⟩
  | d :: ds, s => by
    simp only [List.all_cons, Bool.and_eq_true] at s
    exact ⟨_, _, [], [], rfl, rfl, Rf.ofScal s.1, Rfs.ofScals s.2⟩
def D.items : D → Option (List D)
  | .lst ds => some ds | .scr ns => some (ns.map D.int) | _ => none
theorem Rfs.ofInts {H : Hp} : ∀ {ns : List Int}, Rfs K H (ns.map D.int) (ns.map V.int) []
  | [] => ⟨rfl, rfl⟩
  | n :: ns => ⟨_, _, [], [], rfl, rfl, ⟨rfl, rfl⟩, Rfs.ofInts⟩
theorem Rf.seq {H : Hp} {d : D} {ds : List D} {v : V} {fp : List Addr} (h : Rf K H d v fp) (e : d.items = some ds) : ∃ a xs fq, v = .ref a ∧ SqL K H a xs ∧ Rfs K H ds xs fq ∧ ∀ b ∈ fq, b ∈ fp := by
  cases d with
  | lst es =>
    cases e
    obtain ⟨a, xs, fq, e1, e2, rfl, h⟩ := h
    exact ⟨a, xs, fq, e1, .inl (.inl e2), h, fun b hb => List.mem_cons_of_mem _ hb⟩
  | scr ns =>
    cases e
    obtain ⟨a, e1, e2, e3⟩ := h
    exact ⟨a, _, [], e1, e2.seq, Rfs.ofInts, fun b hb => nomatch hb⟩
  | _ => cases e
theorem Rp.seq {H : Hp} {d : D} {ds : List D} {v : V} (h : Rp K H d v) (e : d.items = some ds) : ∃ a xs fq, v = .ref a ∧ SqL K H a xs ∧ Rfs K H ds xs fq :=
  let ⟨_, h⟩ := h; let ⟨a, xs, fq, h1, h2, h3, _⟩ := h.seq e; ⟨a, xs, fq, h1, h2, h3⟩
theorem Rp.tup {H : Hp} {ds : List D} {v : V} (h : Rp K H (.tup ds) v) : ∃ a xs fq, v = .ref a ∧ SqT K H a xs ∧ Rfs K H ds xs fq := by
  obtain ⟨fp, a, xs, e1, e2, h⟩ := h
  exact ⟨a, xs, fp, e1, .inl (.inl e2), h⟩
def Mu (H : Hp) (a : Addr) : Prop := (∃ xs, H a = some (.lst xs)) ∨ (∃ kvs, H a = some (.dK kvs)) ∨ (∃ kvs, H a = some (.dT kvs)) ∨ ∃ C dx fs, H a = some (.ins C dx fs)
theorem Mu.same {H H' : Hp} {a : Addr} (h : Mu H a) (s : Same H H') : Mu H' a := by
  rcases h with ⟨x, h⟩ | ⟨x, h⟩ | ⟨x, h⟩ | ⟨C, dx, fs, h⟩
  · exact .inl ⟨x, s.st _ _ h trivial⟩
  · exact .inr (.inl ⟨x, s.st _ _ h trivial⟩)
  · exact .inr (.inr (.inl ⟨x, s.st _ _ h trivial⟩))
  · exact .inr (.inr (.inr ⟨C, dx, fs, s.st _ _ h trivial⟩))
theorem Mu.some {H : Hp} {a : Addr} (h : Mu H a) : H a ≠ none := by
  rcases h with ⟨x, h⟩ | ⟨x, h⟩ | ⟨x, h⟩ | ⟨C, dx, fs, h⟩ <;> rw [h] <;> intro z <;> cases z
theorem Mu.notup {H : Hp} {a : Addr} (h : Mu H a) : ∀ o, H a = Option.some o → ¬ Im o := by
  rcases h with ⟨x, h⟩ | ⟨x, h⟩ | ⟨x, h⟩ | ⟨C, dx, fs, h⟩ <;> rw [h] <;> intro o e z <;> cases e <;> rcases z with ⟨_, z⟩ | ⟨_, _, z⟩ <;> cases z
theorem Mu.upd {H : Hp} {a l : Addr} {o : HO} (h : Mu H a) (ho : (∃ xs, o = .lst xs) ∨ (∃ xs, o = .dK xs) ∨ (∃ xs, o = .dT xs) ∨ ∃ C dx fs, o = .ins C dx fs) : Mu (upd H l o) a := by
  by_cases e : a = l
  · subst e
    rcases ho with ⟨xs, rfl⟩ | ⟨xs, rfl⟩ | ⟨xs, rfl⟩ | ⟨C, dx, fs, rfl⟩
    · exact .inl ⟨xs, upd_same⟩
    · exact .inr (.inl ⟨xs, upd_same⟩)
    · exact .inr (.inr (.inl ⟨xs, upd_same⟩))
    · exact .inr (.inr (.inr ⟨C, dx, fs, upd_same⟩))
  · unfold Mu
    rw [upd_ne e]
    exact h
abbrev Dl := List (Option D)
structure Ok (K : PySem.W.Frag) (B0 : Hp) (Γ : List Nat) (fps : Nat → List Addr) (δ : Dl) (σ : St) (H : Hp) : Prop where
  len : σ.length = δ.length
  b0 : SB K B0 H
  val : ∀ i d, δ[i]? = some (some d) → ∃ v, σ[i]? = some (some v) ∧ Rf K H d v (fps i)
  non : ∀ i, (∀ d, δ[i]? ≠ some (some d)) → fps i = []
  own : ∀ i ∈ Γ, (fps i).Nodup ∧ ∀ a ∈ fps i, B0 a = none ∧ Mu H a
  dj : ∀ i ∈ Γ, ∀ j, j ≠ i → ∀ a ∈ fps i, a ∉ fps j
variable {B0 : Hp} {Γ : List Nat} {fps : Nat → List Addr} {δ : Dl} {σ : St} {H H' : Hp}
theorem Ok.same (o : Ok K B0 Γ fps δ σ H) (s : Same H H') : Ok K B0 Γ fps δ σ H' :=
  ⟨o.len, o.b0.trans s, fun i d e => let ⟨v, h1, h2⟩ := o.val i d e; ⟨v, h1, h2.same s⟩, o.non, fun i hi => ⟨(o.own i hi).1, fun a ha => ⟨((o.own i hi).2 a ha).1, ((o.own i hi).2 a ha).2.same s⟩⟩, o.dj⟩
theorem Ok.sub {Γ' : List Nat} (o : Ok K B0 Γ fps δ σ H) (h : ∀ i ∈ Γ', i ∈ Γ) : Ok K B0 Γ' fps δ σ H :=
  ⟨o.len, o.b0, o.val, o.non, fun i hi => o.own i (h i hi), fun i hi => o.dj i (h i hi)⟩
theorem Ok.dom (o : Ok K B0 Γ fps δ σ H) {i : Nat} {a : Addr} (h : a ∈ fps i) : H a ≠ none := by
  by_cases e : ∃ d, δ[i]? = some (some d)
  · obtain ⟨d, e⟩ := e
    obtain ⟨v, _, r⟩ := o.val i d e
    obtain ⟨u, hu, _⟩ := r.dom a h
    rw [hu]; intro z; cases z
  · rw [o.non i (fun d z => e ⟨d, z⟩)] at h
    nomatch h
structure Nw (H H' : Hp) (fps : Nat → List Addr) (M : List Nat) (fp : List Addr) : Prop where
  nd : fp.Nodup
  mu : ∀ a ∈ fp, Mu H' a
  src : ∀ a ∈ fp, H a = none ∨ ∃ j ∈ M, a ∈ fps j
theorem Nw.nil {M : List Nat} : Nw H H' fps M [] := ⟨List.nodup_nil, fun _ h => (nomatch h), fun _ h => (nomatch h)⟩
theorem Nw.later {H1 : Hp} {M : List Nat} {fp : List Addr} (n : Nw H1 H' fps M fp) (s : Same H H1) : Nw H H' fps M fp :=
  ⟨n.nd, n.mu, fun a ha => (n.src a ha).elim (fun z => .inl (s.free z)) .inr⟩
theorem Nw.same {H1 : Hp} {M : List Nat} {fp : List Addr} (n : Nw H H' fps M fp) (s : Same H' H1) : Nw H H1 fps M fp := ⟨n.nd, fun a ha => (n.mu a ha).same s, n.src⟩
theorem Nw.any {fps' : Nat → List Addr} {fp : List Addr} (n : Nw H H' fps [] fp) : Nw H H' fps' [] fp := ⟨n.nd, n.mu, fun a ha => (n.src a ha).elim .inl fun ⟨_, h, _⟩ => nomatch h⟩
theorem Nw.fresh {fp : List Addr} (n : Nw H H' fps [] fp) : ∀ a ∈ fp, H a = none := fun a ha => (n.src a ha).elim id fun ⟨_, h, _⟩ => nomatch h
def kill (M : List Nat) (δ : Dl) : Dl := M.foldl (fun δ j => δ.set j none) δ
theorem kill_length : ∀ {M : List Nat} {δ : Dl}, (kill M δ).length = δ.length
  | [], _ => rfl
  | j :: M, δ => by rw [kill, List.foldl_cons]; exact (kill_length (M := M)).trans (by simp)
theorem kill_get : ∀ {M : List Nat} {δ : Dl} {i : Nat} {d : D}, (kill M δ)[i]? = some (some d) ↔ i ∉ M ∧ δ[i]? = some (some d)
  | [], _, _, _ => by simp [kill]
  | j :: M, δ, i, d => by
    rw [kill, List.foldl_cons]
    have := kill_get (M := M) (δ := δ.set j none) (i := i) (d := d)
    rw [kill] at this
    rw [this, List.mem_cons]
    by_cases e : i = j
    · subst e
      simp [List.getElem?_set]
    · rw [List.getElem?_set_ne (Ne.symm e)]
      simp [e]
def minus (Γ M : List Nat) : List Nat := Γ.filter fun i => !M.contains i
theorem mem_minus {Γ M : List Nat} {i : Nat} : i ∈ minus Γ M ↔ i ∈ Γ ∧ i ∉ M := by
  unfold minus
  rw [List.mem_filter]
  simp
theorem Ok.kill (o : Ok K B0 Γ fps δ σ H) (M : List Nat) : Ok K B0 (minus Γ M) (fun i => if i ∈ M then [] else fps i) (kill M δ) σ H := by
  refine ⟨by rw [kill_length]; exact o.len, o.b0, fun i d e => ?_, fun i e => ?_, fun i hi => ?_, fun i hi j hj a ha => ?_⟩
  · obtain ⟨h1, h2⟩ := kill_get.mp e
    rw [if_neg h1]
    exact o.val i d h2
  · by_cases h : i ∈ M
    · rw [if_pos h]
    · rw [if_neg h]
      exact o.non i fun d z => e d (kill_get.mpr ⟨h, z⟩)
  · obtain ⟨h1, h2⟩ := mem_minus.mp hi
    rw [if_neg h2]
    exact o.own i h1
  · obtain ⟨h1, h2⟩ := mem_minus.mp hi
    rw [if_neg h2] at ha
    by_cases h : j ∈ M
    · rw [if_pos h]; exact List.not_mem_nil
    · rw [if_neg h]; exact o.dj i h1 j hj a ha
theorem Ok.setMv {M : List Nat} {x : D} {v : V} {fp : List Addr} (o : Ok K B0 Γ fps δ σ H) (i : Nat) (hM : ∀ j ∈ M, j ∈ Γ) (s : Same H H') (r : Rf K H' x v fp) (n : Nw H H' fps M fp) :
    Ok K B0 (i :: minus (minus Γ M) [i]) (fun j => if j = i then (if i < δ.length then fp else []) else if j ∈ M then [] else fps j) ((L3.kill M δ).set i (some x)) (σ.set i (some v)) H' := by
  have ok := (o.kill M).same s
  have sep : ∀ a ∈ fp, ∀ j, j ∉ M → a ∉ fps j := fun a ha j hj z => by
    rcases n.src a ha with e | ⟨k, hk, e⟩
    · exact o.dom z e
    · exact o.dj k (hM k hk) j (fun q => hj (by rw [q]; exact hk)) a e z
  refine ⟨by simp [kill_length, o.len], ok.b0, fun j d e => ?_, fun j e => ?_, fun j hj => ?_, fun j hj k hk a ha => ?_⟩
  · by_cases h : j = i
    · subst h
      rw [List.getElem?_set] at e
      simp only [kill_length] at e
      by_cases hl : j < δ.length
      · simp [hl] at e
        subst e
        refine ⟨v, ?_, ?_⟩
        · rw [List.getElem?_set]; simp [o.len, hl]
        · rw [if_pos rfl, if_pos hl]; exact r
      · simp [hl] at e
    · rw [List.getElem?_set_ne (Ne.symm h)] at e
      rw [List.getElem?_set_ne (Ne.symm h), if_neg h]
      exact ok.val j d e
  · by_cases h : j = i
    · subst h
      rw [if_pos rfl]
      by_cases hl : j < δ.length
      · exact absurd (by rw [List.getElem?_set]; simp [kill_length, hl]) (e x)
      · rw [if_neg hl]
    · rw [if_neg h]
      exact ok.non j fun d z => e d (by rw [List.getElem?_set_ne (Ne.symm h)]; exact z)
  · by_cases h : j = i
    · subst h
      rw [if_pos rfl]
      split
      · refine ⟨n.nd, fun a ha => ⟨?_, n.mu a ha⟩⟩
        rcases n.src a ha with e | ⟨k, hk, e⟩
        · exact o.b0.free e
        · exact ((o.own k (hM k hk)).2 a e).1
      · exact ⟨List.nodup_nil, fun _ z => nomatch z⟩
    · rw [if_neg h]
      rcases List.mem_cons.mp hj with z | hj
      · exact absurd z h
      · exact ok.own j (mem_minus.mp hj).1
  · by_cases h : j = i
    · subst h
      rw [if_pos rfl] at ha
      rw [if_neg hk]
      split at ha
      · by_cases hm : k ∈ M
        · rw [if_pos hm]; exact List.not_mem_nil
        · rw [if_neg hm]; exact sep a ha k hm
      · nomatch ha
    · rcases List.mem_cons.mp hj with z | hj
      · exact absurd z h
      rw [if_neg h] at ha
      have hj' := mem_minus.mp (mem_minus.mp hj).1
      rw [if_neg hj'.2] at ha
      by_cases hki : k = i
      · rw [if_pos hki]
        split
        · exact fun z => sep a z j hj'.2 ha
        · exact List.not_mem_nil
      · rw [if_neg hki]
        split
        · exact List.not_mem_nil
        · exact o.dj j hj'.1 k hk a ha
theorem Ok.setSh {x : D} {v : V} {fp : List Addr} (o : Ok K B0 Γ fps δ σ H) (i : Nat) (s : Same H H') (r : Rf K H' x v fp) (n : ∀ j ∈ Γ, ∀ a ∈ fp, a ∉ fps j) :
    Ok K B0 (minus Γ [i]) (fun j => if j = i then (if i < δ.length then fp else []) else fps j) (δ.set i (some x)) (σ.set i (some v)) H' := by
  have ok := o.same s
  refine ⟨by simp [o.len], ok.b0, fun j d e => ?_, fun j e => ?_, fun j hj => ?_, fun j hj k hk a ha => ?_⟩
  · by_cases h : j = i
    · subst h
      rw [List.getElem?_set] at e
      by_cases hl : j < δ.length
      · simp [hl] at e
        subst e
        refine ⟨v, ?_, ?_⟩
        · rw [List.getElem?_set]; simp [o.len, hl]
        · rw [if_pos rfl, if_pos hl]; exact r
      · simp [hl] at e
    · rw [List.getElem?_set_ne (Ne.symm h)] at e
      rw [List.getElem?_set_ne (Ne.symm h), if_neg h]
      exact ok.val j d e
  · by_cases h : j = i
    · subst h
      rw [if_pos rfl]
      by_cases hl : j < δ.length
      · exact absurd (by rw [List.getElem?_set]; simp [hl]) (e x)
      · rw [if_neg hl]
    · rw [if_neg h]
      exact ok.non j fun d z => e d (by rw [List.getElem?_set_ne (Ne.symm h)]; exact z)
  · obtain ⟨h1, h2⟩ := mem_minus.mp hj
    rw [if_neg (fun z => h2 (by rw [z]; exact List.mem_singleton.mpr rfl))]
    exact ok.own j h1
  · obtain ⟨h1, h2⟩ := mem_minus.mp hj
    rw [if_neg (fun z => h2 (by rw [z]; exact List.mem_singleton.mpr rfl))] at ha
    by_cases hki : k = i
    · rw [if_pos hki]
      split
      · exact fun z => n j h1 a z ha
      · exact List.not_mem_nil
    · rw [if_neg hki]
      exact o.dj j h1 k hk a ha
theorem lam_mu {H : Hp} {c : Addr} (h : H c = some (lamC c)) : ¬ Mu H c := by
  rintro (⟨x, z⟩ | ⟨x, z⟩ | ⟨x, z⟩ | ⟨C, dx, fs, z⟩) <;> rw [h] at z <;> cases z
theorem SB.keep {fp : List Addr} (b : SB K B0 H) (n : ∀ a ∈ fp, B0 a = none ∧ Mu H a) (keep : ∀ b u, b ∉ fp → H b = some u → H' b = some u) : SB K B0 H' := by
  have nb : ∀ {c u}, B0 c = some u → c ∉ fp := fun {c u} e z => by have := (n c z).1; rw [e] at this; cases this
  refine ⟨⟨fun c u e x => keep c u (nb e) (b.st c u e x), fun c ps e => let ⟨ps', z⟩ := b.tb c ps e; ⟨ps', keep c _ (nb e) z⟩, fun P t => ?_⟩, b.tv⟩
  obtain ⟨ps0, e0, _⟩ := id t
  obtain ⟨ps, e, g1, g2⟩ := b.ti P t
  exact ⟨ps, keep P _ (nb e0) e, g1, fun pos cv z => let ⟨c, z1, z2⟩ := g2 pos cv z; ⟨c, z1, keep c _ (fun y => lam_mu z2 (n c y).2) z2⟩⟩
theorem Ok.rebase (o : Ok K B0 Γ fps δ σ H) : ∃ B1, Same B0 B1 ∧ Ok K B1 Γ fps δ σ H ∧ (∀ a, (∀ j ∈ Γ, a ∉ fps j) → B1 a = H a) := by
  have key : ∀ b u, B0 b = some u → ¬ ∃ j ∈ Γ, b ∈ fps j := fun b u e ⟨j, hj, hb⟩ => by
    have := ((o.own j hj).2 b hb).1
    rw [e] at this; cases this
  have s1 : Same B0 (fun a => if (∃ j ∈ Γ, a ∈ fps j) then none else H a) := ⟨fun b u e n => by
      show (if _ then _ else _) = _
      rw [if_neg (key b u e)]
      exact o.b0.st b u e n, fun b ps e => by
      obtain ⟨ps', z⟩ := o.b0.tb b ps e
      refine ⟨ps', ?_⟩
      show (if _ then _ else _) = _
      rw [if_neg (key b _ e)]; exact z, fun P t => by
      obtain ⟨ps0, e0, _⟩ := id t
      obtain ⟨ps, e, g1, g2⟩ := o.b0.ti P t
      refine ⟨ps, ?_, g1, fun pos cv z => ?_⟩
      · show (if _ then _ else _) = _
        rw [if_neg (key P _ e0)]; exact e
      · obtain ⟨c, z1, z2⟩ := g2 pos cv z
        refine ⟨c, z1, ?_⟩
        show (if _ then _ else _) = _
        rw [if_neg (fun ⟨j, hj, hc⟩ => lam_mu z2 ((o.own j hj).2 c hc).2)]; exact z2⟩
  have s2 : Same (fun a => if (∃ j ∈ Γ, a ∈ fps j) then none else H a) H := Same.all fun b u e => by
    by_cases z : ∃ j ∈ Γ, b ∈ fps j
    · simp only [if_pos z] at e; cases e
    · simp only [if_neg z] at e; exact e
  refine ⟨fun a => if (∃ j ∈ Γ, a ∈ fps j) then none else H a, s1, ⟨o.len, ⟨s2, o.b0.tv.same s1⟩, o.val, o.non, fun i hi => ⟨(o.own i hi).1, fun a ha => ⟨?_, ((o.own i hi).2 a ha).2⟩⟩, o.dj⟩, fun a h => ?_⟩
  · show (if _ then _ else _) = _
    rw [if_pos ⟨i, hi, ha⟩]
  · show (if _ then _ else _) = _
    rw [if_neg (fun ⟨j, hj, z⟩ => h j hj z)]
theorem Ok.base {B1 : Hp} (o : Ok K B1 Γ fps δ σ H) (s : Same B0 B1) (t : TabInv K B0) : Ok K B0 Γ fps δ σ H :=
  ⟨o.len, ⟨s.trans o.b0.toSame, t⟩, o.val, o.non, fun i hi => ⟨(o.own i hi).1, fun a ha => ⟨s.free ((o.own i hi).2 a ha).1, ((o.own i hi).2 a ha).2⟩⟩, o.dj⟩
end
end L3
set_option Elab.async false
set_option linter.all false
set_option maxRecDepth 100000
set_option maxHeartbeats 4000000
namespace L3
open PySem L2
abbrev DK := D → Prop
abbrev DE := Dl → DK → Prop
abbrev DT := Dl → (Bool → Prop) → Prop
abbrev DA := Dl → (List D → Prop) → Prop
structure ER (K : PySem.W.Frag) (Γ : List Nat) (t : TE) (d : DE) : Prop where
  mono : ∀ δ (P P' : DK), (∀ x, P x → P' x) → d δ P → d δ P'
  run : ∀ {B0 fps δ σ H Q}, Ok K B0 Γ fps δ σ H → d δ (fun x => ∀ v H', Same H H' → Rp K H' x v → Q v H') → t σ H Q
structure ES (K : PySem.W.Frag) (Γ : List Nat) (t : TE) (d : DE) : Prop where
  mono : ∀ δ (P P' : DK), (∀ x, P x → P' x) → d δ P → d δ P'
  run : ∀ {B0 fps δ σ H Q}, Ok K B0 Γ fps δ σ H → d δ (fun x => ∀ v H' fp, Same H H' → Rf K H' x v fp → (∀ j ∈ Γ, ∀ a ∈ fp, a ∉ fps j) → Q v H') → t σ H Q
structure EM (K : PySem.W.Frag) (Γ M : List Nat) (t : TE) (d : DE) : Prop where
  mono : ∀ δ (P P' : DK), (∀ x, P x → P' x) → d δ P → d δ P'
  run : ∀ {B0 fps δ σ H Q}, Ok K B0 Γ fps δ σ H → d δ (fun x => ∀ v H' fp, Same H H' → Rf K H' x v fp → Nw H H' fps M fp → Q v H') → t σ H Q
structure TR (K : PySem.W.Frag) (Γ : List Nat) (t : TT) (d : DT) : Prop where
  mono : ∀ δ (P P' : Bool → Prop), (∀ x, P x → P' x) → d δ P → d δ P'
  run : ∀ {B0 fps δ σ H Q}, Ok K B0 Γ fps δ σ H → d δ (fun b => ∀ H', Same H H' → Q b H') → t σ H Q
structure AR (K : PySem.W.Frag) (Γ : List Nat) (t : TA) (d : DA) : Prop where
  mono : ∀ δ (P P' : List D → Prop), (∀ x, P x → P' x) → d δ P → d δ P'
  run : ∀ {B0 fps δ σ H Q}, Ok K B0 Γ fps δ σ H → d δ (fun xs => ∀ vs H', Same H H' → Rps K H' xs vs → Q vs H') → t σ H Q
structure AM (K : PySem.W.Frag) (Γ M : List Nat) (t : TA) (d : DA) : Prop where
  mono : ∀ δ (P P' : List D → Prop), (∀ x, P x → P' x) → d δ P → d δ P'
  run : ∀ {B0 fps δ σ H Q}, Ok K B0 Γ fps δ σ H → d δ (fun xs => ∀ vs H' fp, Same H H' → Rfs K H' xs vs fp → Nw H H' fps M fp → Q vs H') → t σ H Q
section
variable {K : PySem.W.Frag} {Γ M : List Nat} {t ta tb tc : TE} {d da db dc : DE}
theorem EM.es (h : EM K Γ [] t d) : ES K Γ t d := ⟨h.mono, fun o q => h.run o (h.mono _ _ _ (fun x z v H' fp s r n => z v H' fp s r fun j _ a ha y => o.dom y (n.fresh a ha)) q)⟩
theorem ES.er (h : ES K Γ t d) : ER K Γ t d := ⟨h.mono, fun o q => h.run o (h.mono _ _ _ (fun x z v H' fp s r n => z v H' s ⟨fp, r⟩) q)⟩
theorem EM.er (h : EM K Γ M t d) : ER K Γ t d := ⟨h.mono, fun o q => h.run o (h.mono _ _ _ (fun x z v H' fp s r n => z v H' s ⟨fp, r⟩) q)⟩
def vScal (d : DE) (δ : Dl) (P : DK) : Prop := d δ fun x => x.scal = true ∧ P x
theorem ER.scal (h : ER K Γ t d) : EM K Γ [] t (vScal d) := ⟨fun δ P P' k q => h.mono _ _ _ (fun x z => ⟨z.1, k x z.2⟩) q, fun o q => h.run o (h.mono _ _ _ (fun x z v H' s r => by
  obtain ⟨fp, r⟩ := r
  obtain ⟨_, rfl⟩ := r.scal z.1
  exact z.2 v H' [] s r Nw.nil) q)⟩
def vVar (i : Nat) (δ : Dl) (P : DK) : Prop := match δ[i]? with | some (some d) => P d | _ => False
theorem vVar_out {i : Nat} {δ : Dl} {P : DK} (h : vVar i δ P) : ∃ d, δ[i]? = some (some d) ∧ P d := by
  unfold vVar at h
  split at h
  · exact ⟨_, by assumption, h⟩
  · exact h.elim
theorem vVar_mono {i : Nat} : ∀ δ (P P' : DK), (∀ x, P x → P' x) → vVar i δ P → vVar i δ P' := fun δ P P' k h => by
  unfold vVar at h ⊢
  split
  · rename_i e; rw [e] at h; exact k _ h
  · rename_i e; revert h; split
    · rename_i e'; exact absurd e' (e _)
    · exact id
theorem er_var (i : Nat) : ER K Γ (tVar i) (vVar i) := ⟨vVar_mono, fun {B0 fps δ σ H Q} o q => by
  obtain ⟨d, e, q⟩ := vVar_out q
  obtain ⟨v, e1, r⟩ := o.val i d e
  exact ⟨v, e1, q v H (Same.refl H) ⟨_, r⟩⟩⟩
theorem es_var (i : Nat) (h : i ∉ Γ := by decide) : ES K Γ (tVar i) (vVar i) := ⟨vVar_mono, fun {B0 fps δ σ H Q} o q => by
  obtain ⟨d, e, q⟩ := vVar_out q
  obtain ⟨v, e1, r⟩ := o.val i d e
  exact ⟨v, e1, q v H _ (Same.refl H) r fun j hj a ha z => o.dj j hj i (fun y => h (by rw [y]; exact hj)) a z ha⟩⟩
theorem em_var (i : Nat) (h : i ∈ Γ := by decide) : EM K Γ [i] (tVar i) (vVar i) := ⟨vVar_mono, fun {B0 fps δ σ H Q} o q => by
  obtain ⟨d, e, q⟩ := vVar_out q
  obtain ⟨v, e1, r⟩ := o.val i d e
  exact ⟨v, e1, q v H _ (Same.refl H) r ⟨(o.own i h).1, fun a ha => ((o.own i h).2 a ha).2, fun a ha => .inr ⟨i, List.mem_singleton.mpr rfl, ha⟩⟩⟩⟩
def vC (d : D) (_u0 : Dl) (P : DK) : Prop := P d
theorem em_int {i : Int} : EM K Γ [] (tC (.int i)) (vC (.int i)) := ⟨fun _ _ _ k h => k _ h, fun {_ _ _ _ H _} _ q => q _ H [] (Same.refl H) ⟨rfl, rfl⟩ Nw.nil⟩
theorem em_bl {i : Bool} : EM K Γ [] (tC (.bl i)) (vC (.bl i)) := ⟨fun _ _ _ k h => k _ h, fun {_ _ _ _ H _} _ q => q _ H [] (Same.refl H) ⟨rfl, rfl⟩ Nw.nil⟩
theorem em_str {i : Str} : EM K Γ [] (tC (.str i)) (vC (.str i)) := ⟨fun _ _ _ k h => k _ h, fun {_ _ _ _ H _} _ q => q _ H [] (Same.refl H) ⟨rfl, rfl⟩ Nw.nil⟩
theorem em_non : EM K Γ [] (tC .non) (vC .non) := ⟨fun _ _ _ k h => k _ h, fun {_ _ _ _ H _} _ q => q _ H [] (Same.refl H) ⟨rfl, rfl⟩ Nw.nil⟩
abbrev D2 := D → D → DK → Prop
abbrev nf : Nat → List Addr := fun _ => []
structure OpV (K : PySem.W.Frag) (r : R2) (rv : D2) : Prop where
  mono : ∀ x y (P P' : DK), (∀ z, P z → P' z) → rv x y P → rv x y P'
  run : ∀ {H x y v w Q}, Rp K H x v → Rp K H y w → rv x y (fun z => ∀ u H' fp, Same H H' → Rf K H' z u fp → Nw H H' nf [] fp → Q u H') → r v w H Q
def vOp (rv : D2) (da db : DE) (δ : Dl) (P : DK) : Prop := da δ fun x => db δ fun y => rv x y P
theorem em_op {r : R2} {rv : D2} (ho : OpV K r rv) (ha : ER K Γ ta da) (hb : ER K Γ tb db) : EM K Γ [] (tOp r ta tb) (vOp rv da db) :=
  ⟨fun δ P P' k h => ha.mono _ _ _ (fun x z => hb.mono _ _ _ (fun y z => ho.mono x y _ _ k z) z) h,
   fun o q => ha.run o (ha.mono _ _ _ (fun x z v H1 s1 r1 => hb.run (o.same s1) (hb.mono _ _ _ (fun y z w H2 s2 r2 => ho.run (r1.same s2) r2 (ho.mono _ _ _ _ (fun u z u' H' fp s r n => z u' H' fp ((s1.trans s2).trans s) r (n.any.later (s1.trans s2))) z)) z)) q)⟩
abbrev D1 := D → DK → Prop
structure UnV (K : PySem.W.Frag) (r : V → Hp → VK → Prop) (rv : D1) : Prop where
  mono : ∀ x (P P' : DK), (∀ z, P z → P' z) → rv x P → rv x P'
  run : ∀ {H x v Q}, Rp K H x v → rv x (fun z => ∀ u H' fp, Same H H' → Rf K H' z u fp → Nw H H' nf [] fp → Q u H') → r v H Q
def vUn (rv : D1) (da : DE) (δ : Dl) (P : DK) : Prop := da δ fun x => rv x P
theorem em_un {r : V → Hp → VK → Prop} {rv : D1} (ho : UnV K r rv) (ha : ER K Γ ta da) : EM K Γ [] (tUn r ta) (vUn rv da) :=
  ⟨fun δ P P' k h => ha.mono _ _ _ (fun x z => ho.mono x _ _ k z) h,
   fun o q => ha.run o (ha.mono _ _ _ (fun x z v H1 s1 r1 => ho.run r1 (ho.mono _ _ _ (fun u z u' H' fp s r n => z u' H' fp (s1.trans s) r (n.any.later s1)) z)) q)⟩
def vI0 (g : Int → Int → D) (x : D) (y : D) (P : DK) : Prop := match x, y with | .int i, .int j => P (g i j) | _, _ => False
def vI (C : Int → Int → Prop) (g : Int → Int → D) (x : D) (y : D) (P : DK) : Prop := match x, y with | .int i, .int j => C i j ∧ P (g i j) | _, _ => False
def vU (g : Int → D) (x : D) (P : DK) : Prop := match x with | .int i => P (g i) | _ => False
theorem vI0_mono {g : Int → Int → D} : ∀ x y (P P' : DK), (∀ z, P z → P' z) → vI0 g x y P → vI0 g x y P' := fun x y P P' k h => by
  unfold vI0 at h ⊢; revert h; split <;> first | exact k _ | exact id
theorem vI_mono {C : Int → Int → Prop} {g : Int → Int → D} : ∀ x y (P P' : DK), (∀ z, P z → P' z) → vI C g x y P → vI C g x y P' := fun x y P P' k h => by
  unfold vI at h ⊢; revert h; split <;> first | exact fun h => ⟨h.1, k _ h.2⟩ | exact id
theorem vI0_run {f : Int → Int → V} {g : Int → Int → D} (hs : ∀ i j, (g i j).scal = true ∧ (g i j).toV = f i j) : OpV K (rI0 f) (vI0 g) := ⟨vI0_mono, fun {H x y v w Q} r1 r2 h => by
  unfold vI0 at h
  split at h
  · rename_i i j
    refine ⟨i, j, r1.int, r2.int, ?_⟩
    rw [← (hs i j).2]
    exact h _ H [] (Same.refl H) (Rf.ofScal (hs i j).1) Nw.nil
  · exact h.elim⟩
theorem vI_run {C : Int → Int → Prop} {f : Int → Int → V} {g : Int → Int → D} (hs : ∀ i j, (g i j).scal = true ∧ (g i j).toV = f i j) : OpV K (rI C f) (vI C g) := ⟨vI_mono, fun {H x y v w Q} r1 r2 h => by
  unfold vI at h
  split at h
  · rename_i i j
    refine ⟨i, j, r1.int, r2.int, h.1, ?_⟩
    rw [← (hs i j).2]
    exact h.2 _ H [] (Same.refl H) (Rf.ofScal (hs i j).1) Nw.nil
  · exact h.elim⟩
theorem o_int {f : Int → Int → Int} : OpV K (rI0 fun i j => .int (f i j)) (vI0 fun i j => .int (f i j)) := vI0_run fun _ _ => ⟨rfl, rfl⟩
theorem o_bl {f : Int → Int → Bool} : OpV K (rI0 fun i j => .bl (f i j)) (vI0 fun i j => .bl (f i j)) := vI0_run fun _ _ => ⟨rfl, rfl⟩
theorem o_intC {C : Int → Int → Prop} {f : Int → Int → Int} : OpV K (rI C fun i j => .int (f i j)) (vI C fun i j => .int (f i j)) := vI_run fun _ _ => ⟨rfl, rfl⟩
theorem u_int {f : Int → Int} : UnV K (rU fun i => .int (f i)) (vU fun i => .int (f i)) := ⟨fun x P P' k h => by unfold vU at h ⊢; revert h; split <;> first | exact k _ | exact id, fun {H x v Q} r1 h => by
  unfold vU at h
  split at h
  · rename_i i
    exact ⟨i, r1.int, h _ H [] (Same.refl H) ⟨rfl, rfl⟩ Nw.nil⟩
  · exact h.elim⟩
def vEqS (neg : Bool) (x : D) (y : D) (P : DK) : Prop := x.scal = true ∧ y.scal = true ∧ scal x.toV y.toV = true ∧ P (.bl (if neg then !decide (x.toV = y.toV) else decide (x.toV = y.toV)))
theorem vEqS_mono {neg : Bool} : ∀ x y (P P' : DK), (∀ z, P z → P' z) → vEqS neg x y P → vEqS neg x y P' := fun x y P P' k h => ⟨h.1, h.2.1, h.2.2.1, k _ h.2.2.2⟩
theorem o_eq : OpV K rEq (vEqS false) := ⟨vEqS_mono, fun {H x y v w Q} ⟨f1, r1⟩ ⟨f2, r2⟩ h => by
  rw [(r1.scal h.1).1, (r2.scal h.2.1).1]
  exact ⟨h.2.2.1, h.2.2.2 _ H [] (Same.refl H) ⟨rfl, rfl⟩ Nw.nil⟩⟩
theorem o_ne : OpV K rNe (vEqS true) := ⟨vEqS_mono, fun {H x y v w Q} ⟨f1, r1⟩ ⟨f2, r2⟩ h => by
  rw [(r1.scal h.1).1, (r2.scal h.2.1).1]
  exact ⟨h.2.2.1, h.2.2.2 _ H [] (Same.refl H) ⟨rfl, rfl⟩ Nw.nil⟩⟩
theorem vEqS_int {neg : Bool} {i j : Int} {P : DK} : vEqS neg (.int i) (.int j) P ↔ P (.bl (if neg then !decide (i = j) else decide (i = j))) := by
  unfold vEqS
  simp only [D.scal, D.toV, scal, true_and, V.int.injEq]
def vIxL (x : D) (y : D) (P : DK) : Prop := match x.items, y with | some ds, .int i => (match atI ds i with | some d => P d | none => False) | _, _ => False
def vIxT (x : D) (y : D) (P : DK) : Prop := match x, y with | .tup ds, .int i => (match atI ds i with | some d => P d | none => False) | _, _ => False
theorem vIxL_out {x y : D} {P : DK} (h : vIxL x y P) : ∃ ds i d, x.items = some ds ∧ y = .int i ∧ atI ds i = some d ∧ P d := by
  unfold vIxL at h
  split at h
  · split at h
    · exact ⟨_, _, _, by assumption, rfl, by assumption, h⟩
    · exact h.elim
  · exact h.elim
theorem vIxT_out {x y : D} {P : DK} (h : vIxT x y P) : ∃ ds i d, x = .tup ds ∧ y = .int i ∧ atI ds i = some d ∧ P d := by
  unfold vIxT at h
  split at h
  · split at h
    · exact ⟨_, _, _, rfl, rfl, by assumption, h⟩
    · exact h.elim
  · exact h.elim
theorem vIxL_in {x : D} {ds : List D} {i : Int} {d : D} {P : DK} (ex : x.items = some ds) (e : atI ds i = some d) (h : P d) : vIxL x (.int i) P := by unfold vIxL; simp only [ex, e]; exact h
theorem vIxT_in {ds : List D} {i : Int} {d : D} {P : DK} (e : atI ds i = some d) (h : P d) : vIxT (.tup ds) (.int i) P := by unfold vIxT; simp only [e]; exact h
theorem vIxL_mono : ∀ x y (P P' : DK), (∀ z, P z → P' z) → vIxL x y P → vIxL x y P' := fun x y P P' k h => by
  obtain ⟨ds, i, d, ex, rfl, e, h⟩ := vIxL_out h; exact vIxL_in ex e (k _ h)
theorem vIxT_mono : ∀ x y (P P' : DK), (∀ z, P z → P' z) → vIxT x y P → vIxT x y P' := fun x y P P' k h => by
  obtain ⟨ds, i, d, rfl, rfl, e, h⟩ := vIxT_out h; exact vIxT_in e (k _ h)
theorem Rfs.at {H : Hp} {ds : List D} {xs : List V} {fq : List Addr} {i : Int} {d : D} (h : Rfs K H ds xs fq) (e : atI ds i = some d) : ∃ v f, atI xs i = some v ∧ Rf K H d v f ∧ ∀ a ∈ f, a ∈ fq := by
  unfold atI at e ⊢
  rw [h.length]
  cases hj : ixN ds.length i with
  | none => rw [hj] at e; cases e
  | some j => rw [hj] at e; exact h.get e
theorem er_ixL (ha : ER K Γ ta da) (hb : ER K Γ tb db) : ER K Γ (tOp (rIxL K) ta tb) (vOp vIxL da db) :=
  ⟨fun δ P P' k h => ha.mono _ _ _ (fun x z => hb.mono _ _ _ (fun y z => vIxL_mono x y _ _ k z) z) h,
   fun o q => ha.run o (ha.mono _ _ _ (fun x z v H1 s1 r1 => hb.run (o.same s1) (hb.mono _ _ _ (fun y z w H2 s2 r2 => by
    obtain ⟨ds, i, d, ex, rfl, e, z⟩ := vIxL_out z
    obtain ⟨a, xs, fq, rfl, hs, hr⟩ := (r1.same s2).seq ex
    obtain ⟨v, f, e1, r3, _⟩ := hr.at e
    exact ⟨a, xs, i, v, rfl, r2.int, hs, e1, z v H2 (s1.trans s2) ⟨f, r3⟩⟩) z)) q)⟩
theorem er_ixT (ha : ER K Γ ta da) (hb : ER K Γ tb db) : ER K Γ (tOp (rIxT K) ta tb) (vOp vIxT da db) :=
  ⟨fun δ P P' k h => ha.mono _ _ _ (fun x z => hb.mono _ _ _ (fun y z => vIxT_mono x y _ _ k z) z) h,
   fun o q => ha.run o (ha.mono _ _ _ (fun x z v H1 s1 r1 => hb.run (o.same s1) (hb.mono _ _ _ (fun y z w H2 s2 r2 => by
    obtain ⟨ds, i, d, rfl, rfl, e, z⟩ := vIxT_out z
    obtain ⟨a, xs, fq, rfl, hs, hr⟩ := (r1.same s2).tup
    obtain ⟨v, f, e1, r3, _⟩ := hr.at e
    exact ⟨a, xs, i, v, rfl, r2.int, hs, e1, z v H2 (s1.trans s2) ⟨f, r3⟩⟩) z)) q)⟩
theorem es_ixL (ha : ES K Γ ta da) (hb : ER K Γ tb db) : ES K Γ (tOp (rIxL K) ta tb) (vOp vIxL da db) :=
  ⟨fun δ P P' k h => ha.mono _ _ _ (fun x z => hb.mono _ _ _ (fun y z => vIxL_mono x y _ _ k z) z) h,
   fun o q => ha.run o (ha.mono _ _ _ (fun x z v H1 fp s1 r1 n => hb.run (o.same s1) (hb.mono _ _ _ (fun y z w H2 s2 r2 => by
    obtain ⟨ds, i, d, ex, rfl, e, z⟩ := vIxL_out z
    obtain ⟨a, xs, fq, rfl, hs, hr, hin⟩ := (r1.same s2).seq ex
    obtain ⟨v, f, e1, r3, k⟩ := hr.at e
    exact ⟨a, xs, i, v, rfl, r2.int, hs, e1, z v H2 f (s1.trans s2) r3 fun j hj b hb => n j hj b (hin b (k b hb))⟩) z)) q)⟩
theorem es_ixT (ha : ES K Γ ta da) (hb : ER K Γ tb db) : ES K Γ (tOp (rIxT K) ta tb) (vOp vIxT da db) :=
  ⟨fun δ P P' k h => ha.mono _ _ _ (fun x z => hb.mono _ _ _ (fun y z => vIxT_mono x y _ _ k z) z) h,
   fun o q => ha.run o (ha.mono _ _ _ (fun x z v H1 fp s1 r1 n => hb.run (o.same s1) (hb.mono _ _ _ (fun y z w H2 s2 r2 => by
    obtain ⟨ds, i, d, rfl, rfl, e, z⟩ := vIxT_out z
    obtain ⟨a, xs, rfl, hs, hr⟩ := r1.same s2
    obtain ⟨v, f, e1, r3, k⟩ := hr.at e
    exact ⟨a, xs, i, v, rfl, r2.int, .inl (.inl hs), e1, z v H2 f (s1.trans s2) r3 fun j hj b hb => n j hj b (k b hb)⟩) z)) q)⟩
def asB (x : D) (P : Bool → Prop) : Prop := match x with | .bl k => P k | _ => False
def vTest (d : DE) (δ : Dl) (P : Bool → Prop) : Prop := d δ fun x => asB x P
theorem vb_out {x : D} {P : Bool → Prop} (h : asB x P) : ∃ k, x = .bl k ∧ P k := by
  unfold asB at h
  split at h
  · exact ⟨_, rfl, h⟩
  · exact h.elim
theorem vb_in {x : D} {P P' : Bool → Prop} (k : ∀ b, P b → P' b) (h : asB x P) : asB x P' := by
  obtain ⟨b, rfl, h⟩ := vb_out h; exact k b h
theorem tr_test (h : ER K Γ t d) : TR K Γ (tTest t) (vTest d) := ⟨fun δ P P' k q => h.mono _ _ _ (fun x z => vb_in k z) q, fun o q => h.run o (h.mono _ _ _ (fun x z v H' s r => by
  obtain ⟨b, rfl, z⟩ := vb_out z; exact ⟨b, r.bl, z H' s⟩) q)⟩
theorem tr_b (h : ER K Γ t d) : TR K Γ (tB t) (vTest d) := ⟨fun δ P P' k q => h.mono _ _ _ (fun x z => vb_in k z) q, fun o q => h.run o (h.mono _ _ _ (fun x z v H' s r => by
  obtain ⟨b, rfl, z⟩ := vb_out z; exact ⟨b, r.bl, z H' s⟩) q)⟩
def vAnd (c e : DT) (δ : Dl) (P : Bool → Prop) : Prop := c δ fun k => if k = true then e δ P else P false
def vOr (c e : DT) (δ : Dl) (P : Bool → Prop) : Prop := c δ fun k => if k = true then P true else e δ P
def vNot (c : DT) (δ : Dl) (P : Bool → Prop) : Prop := c δ fun k => P (!k)
theorem ite_imp {b : Bool} {A B A' B' : Prop} (h1 : A → A') (h2 : B → B') (h : if b = true then A else B) : if b = true then A' else B' := by
  cases b
  · exact h2 h
  · exact h1 h
theorem tr_and {u1 u2 : TT} {c e : DT} (h1 : TR K Γ u1 c) (h2 : TR K Γ u2 e) : TR K Γ (tAnd u1 u2) (vAnd c e) :=
  ⟨fun δ P P' k q => h1.mono _ _ _ (fun b z => ite_imp (h2.mono _ _ _ k) (k _) z) q,
   fun o q => h1.run o (h1.mono _ _ _ (fun b z H' s => ite_imp (fun z => h2.run (o.same s) (h2.mono _ _ _ (fun b z H2 s2 => z H2 (s.trans s2)) z)) (fun z => z H' s) z) q)⟩
theorem tr_or {u1 u2 : TT} {c e : DT} (h1 : TR K Γ u1 c) (h2 : TR K Γ u2 e) : TR K Γ (tOr u1 u2) (vOr c e) :=
  ⟨fun δ P P' k q => h1.mono _ _ _ (fun b z => ite_imp (k _) (h2.mono _ _ _ k) z) q,
   fun o q => h1.run o (h1.mono _ _ _ (fun b z H' s => ite_imp (fun z => z H' s) (fun z => h2.run (o.same s) (h2.mono _ _ _ (fun b z H2 s2 => z H2 (s.trans s2)) z)) z) q)⟩
theorem tr_not {u1 : TT} {c : DT} (h1 : TR K Γ u1 c) : TR K Γ (tNot u1) (vNot c) :=
  ⟨fun δ P P' k q => h1.mono _ _ _ (fun b z => k _ z) q, fun o q => h1.run o (h1.mono _ _ _ (fun b z H' s => z H' s) q)⟩
def vAndV (da db : DE) (δ : Dl) (P : DK) : Prop := vTest da δ fun k => if k = true then db δ P else P (.bl false)
def vOrV (da db : DE) (δ : Dl) (P : DK) : Prop := vTest da δ fun k => if k = true then P (.bl true) else db δ P
def vNotV (da : DE) (δ : Dl) (P : DK) : Prop := vTest da δ fun k => P (.bl (!k))
theorem em_andV (ha : ER K Γ ta da) (hb : EM K Γ [] tb db) : EM K Γ [] (tAndV ta tb) (vAndV da db) :=
  ⟨fun δ P P' k q => (tr_test ha).mono _ _ _ (fun b z => ite_imp (hb.mono _ _ _ k) (k _) z) q,
   fun o q => ha.run o (ha.mono _ _ _ (fun x z v H' s r => by
    obtain ⟨b, rfl, z⟩ := vb_out z
    exact ⟨b, r.bl, ite_imp (fun z => hb.run (o.same s) (hb.mono _ _ _ (fun y z u H2 fp s2 r2 n2 => z u H2 fp (s.trans s2) r2 (n2.later s)) z)) (fun z => z _ H' [] s ⟨rfl, rfl⟩ Nw.nil) z⟩) q)⟩
theorem em_notV (ha : ER K Γ ta da) : EM K Γ [] (tNotV ta) (vNotV da) :=
  ⟨fun δ P P' k q => (tr_test ha).mono _ _ _ (fun b z => k _ z) q,
   fun o q => ha.run o (ha.mono _ _ _ (fun x z v H' s r => by
    obtain ⟨b, rfl, z⟩ := vb_out z
    exact ⟨b, r.bl, z _ H' [] s ⟨rfl, rfl⟩ Nw.nil⟩) q)⟩
def vIf (c : DT) (da db : DE) (δ : Dl) (P : DK) : Prop := c δ fun k => if k = true then da δ P else db δ P
theorem em_if {u : TT} {c : DT} (hc : TR K Γ u c) (ha : EM K Γ [] ta da) (hb : EM K Γ [] tb db) : EM K Γ [] (tIf u ta tb) (vIf c da db) :=
  ⟨fun δ P P' k q => hc.mono _ _ _ (fun b z => ite_imp (ha.mono _ _ _ k) (hb.mono _ _ _ k) z) q,
   fun o q => hc.run o (hc.mono _ _ _ (fun b z H' s => ite_imp (fun z => ha.run (o.same s) (ha.mono _ _ _ (fun y z u H2 fp s2 r2 n2 => z u H2 fp (s.trans s2) r2 (n2.later s)) z)) (fun z => hb.run (o.same s) (hb.mono _ _ _ (fun y z u H2 fp s2 r2 n2 => z u H2 fp (s.trans s2) r2 (n2.later s)) z)) z) q)⟩
def vChain (r r' : D2) (da db dc : DE) (δ : Dl) (P : DK) : Prop := da δ fun x => db δ fun y => r x y fun z => asB z fun k => if k = true then dc δ fun w => r' y w P else P (.bl false)
theorem em_chain {r r' : R2} {rv rv' : D2} (ho : OpV K r rv) (ho' : OpV K r' rv') (ha : ER K Γ ta da) (hb : ER K Γ tb db) (hc : ER K Γ tc dc) : EM K Γ [] (tChain r r' ta tb tc) (vChain rv rv' da db dc) :=
  ⟨fun δ P P' k h => ha.mono _ _ _ (fun x z => hb.mono _ _ _ (fun y z => ho.mono x y _ _ (fun u z => vb_in (fun b z => ite_imp (hc.mono _ _ _ fun w z => ho'.mono _ _ _ _ k z) (k _) z) z) z) z) h,
   fun o q => ha.run o (ha.mono _ _ _ (fun x z v H1 s1 r1 => hb.run (o.same s1) (hb.mono _ _ _ (fun y z w H2 s2 r2 => ho.run (r1.same s2) r2 (ho.mono _ _ _ _ (fun u z u' H3 fp s3 r3 n3 => by
    obtain ⟨b, rfl, z⟩ := vb_out z
    have s13 := (s1.trans s2).trans s3
    refine ⟨b, r3.1, ite_imp (fun z => ?_) (fun z => z _ H3 [] s13 ⟨rfl, rfl⟩ Nw.nil) z⟩
    exact hc.run (o.same s13) (hc.mono _ _ _ (fun w z w' H4 s4 r4 => ho'.run (r2.same (s3.trans s4)) r4 (ho'.mono _ _ _ _ (fun u z u' H' fp s r n => z u' H' fp ((s13.trans s4).trans s) r (n.any.later (s13.trans s4))) z)) z)) z)) z)) q)⟩
def vNil (_u0 : Dl) (P : List D → Prop) : Prop := P []
def vCons (da : DE) (dr : DA) (δ : Dl) (P : List D → Prop) : Prop := da δ fun x => dr δ fun xs => P (x :: xs)
theorem ar_nil : AR K Γ tNil vNil := ⟨fun _ _ _ k h => k _ h, fun {_ _ _ _ H _} o q => q [] H (Same.refl H) ⟨[], rfl, rfl⟩⟩
theorem am_nil : AM K Γ [] tNil vNil := ⟨fun _ _ _ k h => k _ h, fun {_ _ _ _ H _} o q => q [] H [] (Same.refl H) ⟨rfl, rfl⟩ Nw.nil⟩
theorem ar_cons {tr : TA} {dr : DA} (ha : ER K Γ ta da) (hr : AR K Γ tr dr) : AR K Γ (tCons ta tr) (vCons da dr) :=
  ⟨fun δ P P' k h => ha.mono _ _ _ (fun x z => hr.mono _ _ _ (fun y z => k _ z) z) h,
   fun o q => ha.run o (ha.mono _ _ _ (fun x z v H1 s1 r1 => hr.run (o.same s1) (hr.mono _ _ _ (fun xs z vs H2 s2 r2 => by
    obtain ⟨f1, r1⟩ := r1.same s2
    obtain ⟨f2, r2⟩ := r2
    exact z _ H2 (s1.trans s2) ⟨f1 ++ f2, _, _, f1, f2, rfl, rfl, r1, r2⟩) z)) q)⟩
theorem am_cons {M' : List Nat} {tr : TA} {dr : DA} (ha : EM K Γ M ta da) (hr : AM K Γ M' tr dr) (hM : ∀ i ∈ M, i ∈ Γ ∧ i ∉ M' := by decide) (hM' : ∀ i ∈ M', i ∈ Γ := by decide) : AM K Γ (M ++ M') (tCons ta tr) (vCons da dr) :=
  ⟨fun δ P P' k h => ha.mono _ _ _ (fun x z => hr.mono _ _ _ (fun y z => k _ z) z) h,
   fun {B0 fps δ σ H Q} o q => ha.run o (ha.mono _ _ _ (fun x z v H1 f1 s1 r1 n1 => hr.run (o.same s1) (hr.mono _ _ _ (fun xs z vs H2 f2 s2 r2 n2 => by
    refine z _ H2 (f1 ++ f2) (s1.trans s2) ⟨_, _, f1, f2, rfl, rfl, r1.same s2, r2⟩ ⟨?_, fun a ha => (List.mem_append.mp ha).elim (fun h => (n1.mu a h).same s2) (n2.mu a), fun a ha => ?_⟩
    · refine List.nodup_append.mpr ⟨n1.nd, n2.nd, fun a h1 b h2 e => ?_⟩
      subst e
      rcases n2.src a h2 with e | ⟨j, hj, e⟩
      · exact (n1.mu a h1).some e
      · rcases n1.src a h1 with e' | ⟨i, hi, e'⟩
        · exact o.dom e e'
        · exact o.dj i (hM i hi).1 j (fun y => (hM i hi).2 (by rw [← y]; exact hj)) a e' e
    · rcases List.mem_append.mp ha with h | h
      · exact (n1.src a h).imp id fun ⟨j, h1, h2⟩ => ⟨j, List.mem_append_left _ h1, h2⟩
      · exact (n2.src a h).elim (fun e => .inl (s1.free e)) fun ⟨j, h1, h2⟩ => .inr ⟨j, List.mem_append_right _ h1, h2⟩) z)) q)⟩
theorem le1000 {n : Nat} (h : n ≤ 1000) : n ≤ sizeLine := Nat.le_trans h (by rw [sizeLine_eq]; decide)
def vLst (da : DA) (δ : Dl) (P : DK) : Prop := da δ fun xs => xs.length ≤ 1000 ∧ P (.lst xs)
def vTup (da : DA) (δ : Dl) (P : DK) : Prop := da δ fun xs => xs.length ≤ 1000 ∧ P (.tup xs)
theorem em_lst {u : TA} {dr : DA} (hr : AM K Γ M u dr) (hM : ∀ i ∈ M, i ∈ Γ := by decide) : EM K Γ M (tLst u) (vLst dr) :=
  ⟨fun δ P P' k h => hr.mono _ _ _ (fun y z => ⟨z.1, k _ z.2⟩) h,
   fun {B0 fps δ σ H Q} o q => hr.run o (hr.mono _ _ _ (fun xs z vs H1 fp s1 r1 n1 => by
    refine ⟨by rw [r1.length]; exact le1000 z.1, fun p hp => ?_⟩
    have hs : Same H1 (upd H1 p (.lst vs)) := Same.new' hp
    refine z.2 _ _ (p :: fp) (s1.trans hs) ⟨p, vs, fp, rfl, upd_same, rfl, r1.same hs⟩ ⟨List.nodup_cons.mpr ⟨fun h => (n1.mu p h).some hp, n1.nd⟩, fun a ha => ?_, fun a ha => ?_⟩
    · rcases List.mem_cons.mp ha with e | h
      · subst e; exact .inl ⟨vs, upd_same⟩
      · exact (n1.mu a h).same hs
    · rcases List.mem_cons.mp ha with e | h
      · subst e; exact .inl (s1.free hp)
      · exact n1.src a h) q)⟩
theorem em_tup {u : TA} {dr : DA} (hr : AM K Γ M u dr) : EM K Γ M (tTup u) (vTup dr) :=
  ⟨fun δ P P' k h => hr.mono _ _ _ (fun y z => ⟨z.1, k _ z.2⟩) h,
   fun {B0 fps δ σ H Q} o q => hr.run o (hr.mono _ _ _ (fun xs z vs H1 fp s1 r1 n1 => by
    refine ⟨by rw [r1.length]; exact le1000 z.1, fun p hp => ?_⟩
    have hs : Same H1 (upd H1 p (.tup vs)) := Same.new' hp
    exact z.2 _ _ fp (s1.trans hs) ⟨p, vs, rfl, upd_same, r1.same hs⟩ (n1.same hs)) q)⟩
theorem er_lst {u : TA} {dr : DA} (hr : AR K Γ u dr) : ER K Γ (tLst u) (vLst dr) :=
  ⟨fun δ P P' k h => hr.mono _ _ _ (fun y z => ⟨z.1, k _ z.2⟩) h,
   fun {B0 fps δ σ H Q} o q => hr.run o (hr.mono _ _ _ (fun xs z vs H1 s1 r1 => by
    obtain ⟨fp, r1⟩ := r1
    refine ⟨by rw [r1.length]; exact le1000 z.1, fun p hp => ?_⟩
    have hs : Same H1 (upd H1 p (.lst vs)) := Same.new' hp
    exact z.2 _ _ (s1.trans hs) ⟨p :: fp, p, vs, fp, rfl, upd_same, rfl, r1.same hs⟩) q)⟩
abbrev DSp := List D → DK → Prop
def DMono (S : DSp) : Prop := ∀ xs (P P' : DK), (∀ z, P z → P' z) → S xs P → S xs P'
def spP (K : PySem.W.Frag) (S : DSp) : Sp := fun vs H Q _ => ∃ ds, Rps K H ds vs ∧ TabInv K H ∧ S ds fun x => ∀ v H' fp, Same H H' → Rf K H' x v fp → Nw H H' nf [] fp → Q v H'
def spR (K : PySem.W.Frag) (S : DSp) : Sp := fun vs H Q _ => ∃ ds, Rps K H ds vs ∧ TabInv K H ∧ S ds fun x => ∀ v H', Same H H' → Rp K H' x v → Q v H'
structure CallV (K : PySem.W.Frag) (r : List V → Hp → VK → Prop) (S : DSp) : Prop where
  mono : DMono S
  run : ∀ {H xs vs Q}, Rps K H xs vs → S xs (fun z => ∀ u H' fp, Same H H' → Rf K H' z u fp → Nw H H' nf [] fp → Q u H') → r vs H Q
def vCall (S : DSp) (dr : DA) (δ : Dl) (P : DK) : Prop := dr δ fun xs => S xs P
theorem em_cb {r : List V → Hp → VK → Prop} {S : DSp} {u : TA} {dr : DA} (hc : CallV K r S) (hr : AR K Γ u dr) : EM K Γ [] (tCB r u) (vCall S dr) :=
  ⟨fun δ P P' k h => hr.mono _ _ _ (fun y z => hc.mono _ _ _ k z) h,
   fun {B0 fps δ σ H Q} o q => hr.run o (hr.mono _ _ _ (fun xs z vs H1 s1 r1 => hc.run r1 (hc.mono _ _ _ (fun u z u' H' fp s r n => z u' H' fp (s1.trans s) r (n.any.later s1)) z)) q)⟩
theorem em_call {S : DSp} {E : XK} {u : TA} {dr : DA} (hS : DMono S) (hr : AR K Γ u dr) : EM K Γ [] (tCall (spP K S) [] E u) (vCall S dr) :=
  ⟨fun δ P P' k h => hr.mono _ _ _ (fun y z => hS _ _ _ k z) h,
   fun {B0 fps δ σ H Q} o q => hr.run o (hr.mono _ _ _ (fun xs z vs H1 s1 r1 => ⟨xs, by rw [List.append_nil]; exact r1, (o.b0.trans s1).now, hS _ _ _ (fun u z u' H' fp s r n => z u' H' fp (s1.trans s) r (n.any.later s1)) z⟩) q)⟩
theorem er_call {S : DSp} {E : XK} {u : TA} {dr : DA} (hS : DMono S) (hr : AR K Γ u dr) : ER K Γ (tCall (spR K S) [] E u) (vCall S dr) :=
  ⟨fun δ P P' k h => hr.mono _ _ _ (fun y z => hS _ _ _ k z) h,
   fun {B0 fps δ σ H Q} o q => hr.run o (hr.mono _ _ _ (fun xs z vs H1 s1 r1 => ⟨xs, by rw [List.append_nil]; exact r1, (o.b0.trans s1).now, hS _ _ _ (fun u z u' H' s r => z u' H' (s1.trans s) r) z⟩) q)⟩
end
end L3
set_option Elab.async false
set_option linter.all false
set_option maxRecDepth 100000
set_option maxHeartbeats 4000000
namespace L3
open PySem L2
structure DEnds where
  nx : Dl → Prop
  rt : D → Dl → Prop
  bk : Dl → Prop
  ct : Dl → Prop
abbrev DS := DEnds → Dl → Prop
structure RtI (B0 : Hp) (Γr : List Nat) (fps : Nat → List Addr) (H : Hp) (fp : List Addr) : Prop where
  nd : fp.Nodup
  mu : ∀ a ∈ fp, Mu H a
  nw : ∀ a ∈ fp, B0 a = none
  dj : ∀ j ∈ Γr, ∀ a ∈ fp, a ∉ fps j
structure EOk (K : PySem.W.Frag) (ρ : Bool) (Γr Γl Γn : List Nat) (B0 : Hp) (Dn : Ends) (E : DEnds) : Prop where
  nx : ∀ {fps δ σ H}, Ok K B0 Γn fps δ σ H → E.nx δ → Dn.nx σ H
  bk : ∀ {fps δ σ H}, Ok K B0 Γl fps δ σ H → E.bk δ → Dn.bk σ H
  ct : ∀ {fps δ σ H}, Ok K B0 Γl fps δ σ H → E.ct δ → Dn.ct σ H
  rt : ∀ {fps δ σ H x v fp}, Ok K B0 Γr fps δ σ H → Rf K H x v fp → (ρ = true → RtI B0 Γr fps H fp) → E.rt x δ → Dn.rt v H
def ST (K : PySem.W.Frag) (ρ : Bool) (Γr Γl : List Nat) (t : TS) (Γ Γn : List Nat) (d : DS) : Prop :=
  ∀ ⦃B0 : Hp⦄ ⦃Dn : Ends⦄ ⦃E : DEnds⦄ ⦃fps : Nat → List Addr⦄ ⦃δ : Dl⦄ ⦃σ : St⦄ ⦃H : Hp⦄, EOk K ρ Γr Γl Γn B0 Dn E → Ok K B0 Γ fps δ σ H → d E δ → t Dn σ H
section
variable {K : PySem.W.Frag} {ρ : Bool} {Γr Γl Γ Γ1 Γ2 Γn M : List Nat} {t u : TS} {te ta tb : TE} {de da db : DE} {d e : DS}
def vNext (E : DEnds) (δ : Dl) : Prop := E.nx δ
def vSeq (d e : DS) (E : DEnds) (δ : Dl) : Prop := d { E with nx := e E } δ
theorem st_next : ST K ρ Γr Γl tNext Γ Γ vNext := fun _ _ _ _ _ _ _ k o h => k.nx o h
theorem st_seq (h1 : ST K ρ Γr Γl t Γ Γ1 d) (h2 : ST K ρ Γr Γl u Γ1 Γ2 e) : ST K ρ Γr Γl (tSeq t u) Γ Γ2 (vSeq d e) :=
  fun {B0 Dn E fps δ σ H} k o h => h1 (Dn := { Dn with nx := u Dn }) (E := { E with nx := e E }) ⟨fun o h => h2 k o h, k.bk, k.ct, k.rt⟩ o h
theorem ST.pre (h : ST K ρ Γr Γl t Γ1 Γn d) (s : ∀ i ∈ Γ1, i ∈ Γ := by decide) : ST K ρ Γr Γl t Γ Γn d := fun _ _ _ _ _ _ _ k o q => h k (o.sub s) q
theorem ST.post (h : ST K ρ Γr Γl t Γ Γ1 d) (s : ∀ i ∈ Γn, i ∈ Γ1 := by decide) : ST K ρ Γr Γl t Γ Γn d := fun _ _ _ _ _ _ _ k o q => h ⟨fun o h => k.nx (o.sub s) h, k.bk, k.ct, k.rt⟩ o q
def vSetM (M : List Nat) (i : Nat) (de : DE) (E : DEnds) (δ : Dl) : Prop := de δ fun x => E.nx ((kill M δ).set i (some x))
theorem st_setM (i : Nat) (he : EM K Γ M te de) (hM : ∀ j ∈ M, j ∈ Γ := by decide) : ST K ρ Γr Γl (tAsg te (gName i)) Γ (i :: minus (minus Γ M) [i]) (vSetM M i de) :=
  fun _ _ _ _ _ _ _ k o h => he.run o (he.mono _ _ _ (fun x z v H' fp s r n => k.nx (o.setMv i hM s r n) z) h)
def vSet (i : Nat) (de : DE) (E : DEnds) (δ : Dl) : Prop := de δ fun x => E.nx (δ.set i (some x))
theorem st_setS (i : Nat) (he : ES K Γ te de) : ST K ρ Γr Γl (tAsg te (gName i)) Γ (minus Γ [i]) (vSet i de) :=
  fun _ _ _ _ _ _ _ k o h => he.run o (he.mono _ _ _ (fun x z v H' fp s r n => k.nx (o.setSh i s r n) z) h)
def vDrop (de : DE) (E : DEnds) (δ : Dl) : Prop := de δ fun _ => E.nx δ
def vRet (M : List Nat) (de : DE) (E : DEnds) (δ : Dl) : Prop := de δ fun x => E.rt x (kill M δ)
theorem st_ret (he : EM K Γ M te de) (hM : ∀ j ∈ M, j ∈ Γ := by decide) (hr : ∀ j ∈ Γr, j ∈ Γ ∧ j ∉ M := by decide) : ST K ρ Γr Γl (tRet te) Γ Γn (vRet M de) :=
  fun {B0 Dn E fps δ σ H} k o h => he.run o (he.mono _ _ _ (fun x z v H' fp s r n => by
    have ok := ((o.kill M).same s).sub (Γ' := Γr) fun i hi => mem_minus.mpr (hr i hi)
    refine k.rt ok r (fun _ => ⟨n.nd, n.mu, fun a ha => ?_, fun j hj a ha => ?_⟩) z
    · rcases n.src a ha with e | ⟨i, hi, e⟩
      · exact o.b0.free e
      · exact ((o.own i (hM i hi)).2 a e).1
    · show a ∉ if j ∈ M then [] else fps j
      rw [if_neg (hr j hj).2]
      intro z
      rcases n.src a ha with e | ⟨i, hi, e⟩
      · exact o.dom z e
      · exact o.dj i (hM i hi) j (fun y => (hr j hj).2 (by rw [y]; exact hi)) a e z) h)
theorem st_retR (he : ER K Γ te de) (hr : ∀ j ∈ Γr, j ∈ Γ := by decide) : ST K false Γr Γl (tRet te) Γ Γn (vRet [] de) :=
  fun {B0 Dn E fps δ σ H} k o h => he.run o (he.mono _ _ _ (fun x z v H' s r => by
    obtain ⟨fp, r⟩ := r
    exact k.rt ((o.same s).sub hr) r (fun z => by cases z) z) h)
def vRetN (E : DEnds) (δ : Dl) : Prop := E.rt .non δ
theorem st_retN (hr : ∀ j ∈ Γr, j ∈ Γ := by decide) : ST K ρ Γr Γl tRetN Γ Γn vRetN :=
  fun {B0 Dn E fps δ σ H} k o h => k.rt (o.sub hr) (Rf.ofScal (d := .non) rfl) (fun _ => ⟨List.nodup_nil, fun _ h => (nomatch h), fun _ h => (nomatch h), fun _ _ _ h => (nomatch h)⟩) h
def vIfS (c : DT) (d e : DS) (E : DEnds) (δ : Dl) : Prop := c δ fun b => if b = true then d E δ else e E δ
theorem st_if {c : TT} {dc : DT} (hc : TR K Γ c dc) (h1 : ST K ρ Γr Γl t Γ Γn d) (h2 : ST K ρ Γr Γl u Γ Γn e) : ST K ρ Γr Γl (tIfS c t u) Γ Γn (vIfS dc d e) :=
  fun _ _ _ _ _ _ _ k o h => hc.run o (hc.mono _ _ _ (fun b z H' s => ite_imp (fun z => h1 k (o.same s) z) (fun z => h2 k (o.same s) z) z) h)
structure GT (K : PySem.W.Frag) (Γ : List Nat) (g : TG) (dg : D → Dl → (Dl → Prop) → Prop) : Prop where
  mono : ∀ x δ (P P' : Dl → Prop), (∀ z, P z → P' z) → dg x δ P → dg x δ P'
  run : ∀ {B0 fps δ σ H x v fp Q}, Ok K B0 Γ fps δ σ H → Rf K H x v fp → (∀ j ∈ Γ, ∀ a ∈ fp, a ∉ fps j) → dg x δ (fun δ' => ∀ fps' σ', Ok K B0 Γ fps' δ' σ' H → (∀ j ∈ Γ, fps' j = fps j) → Q σ' H) → g v σ H Q
structure GTs (K : PySem.W.Frag) (Γ : List Nat) (g : TGs) (dg : List D → Dl → (Dl → Prop) → Prop) : Prop where
  mono : ∀ x δ (P P' : Dl → Prop), (∀ z, P z → P' z) → dg x δ P → dg x δ P'
  run : ∀ {B0 fps δ σ H x v fp Q}, Ok K B0 Γ fps δ σ H → Rfs K H x v fp → (∀ j ∈ Γ, ∀ a ∈ fp, a ∉ fps j) → dg x δ (fun δ' => ∀ fps' σ', Ok K B0 Γ fps' δ' σ' H → (∀ j ∈ Γ, fps' j = fps j) → Q σ' H) → g v σ H Q
def vgName (i : Nat) (x : D) (δ : Dl) (P : Dl → Prop) : Prop := P (δ.set i (some x))
theorem gt_name (i : Nat) (h : i ∉ Γ := by decide) : GT K Γ (gName i) (vgName i) := ⟨fun _ _ _ _ k h => k _ h, fun {B0 fps δ σ H x v fp Q} o r n q => by
  have ok := (o.setSh i (Same.refl H) r n).sub (Γ' := Γ) fun j hj => mem_minus.mpr ⟨hj, fun z => h (by rw [← List.mem_singleton.mp z]; exact hj)⟩
  exact q _ _ ok fun j hj => by rw [if_neg (fun z => h (by rw [← z]; exact hj))]⟩
def vgNil (xs : List D) (δ : Dl) (P : Dl → Prop) : Prop := match xs with | [] => P δ | _ => False
def vgCons (dg : D → Dl → (Dl → Prop) → Prop) (dr : List D → Dl → (Dl → Prop) → Prop) (xs : List D) (δ : Dl) (P : Dl → Prop) : Prop := match xs with | x :: r => dg x δ fun δ' => dr r δ' P | [] => False
theorem gts_nil : GTs K Γ gNil vgNil := ⟨fun x _ _ _ k h => by cases x with | nil => exact k _ h | cons _ _ => exact h, fun {B0 fps δ σ H x v fp Q} o r n q => by
  cases x with
  | nil => obtain ⟨rfl, _⟩ := r; exact ⟨rfl, q _ _ o fun _ _ => rfl⟩
  | cons _ _ => exact q.elim⟩
theorem gts_cons {g : TG} {gs : TGs} {dg : D → Dl → (Dl → Prop) → Prop} {dr : List D → Dl → (Dl → Prop) → Prop} (h1 : GT K Γ g dg) (h2 : GTs K Γ gs dr) : GTs K Γ (gCons g gs) (vgCons dg dr) :=
  ⟨fun x _ _ _ k h => by
    cases x with
    | nil => exact h
    | cons x r => exact h1.mono _ _ _ _ (fun z h => h2.mono _ _ _ _ k h) h,
   fun {B0 fps δ σ H x v fp Q} o r n q => by
    cases x with
    | nil => exact q.elim
    | cons x xs =>
      obtain ⟨y, ys, f1, f2, rfl, rfl, r1, r2⟩ := r
      refine ⟨y, ys, rfl, h1.run o r1 (fun j hj a ha => n j hj a (List.mem_append_left _ ha)) (h1.mono _ _ _ _ (fun δ' z fps' σ' o' e => ?_) q)⟩
      exact h2.run o' r2 (fun j hj a ha => by rw [e j hj]; exact n j hj a (List.mem_append_right _ ha)) (h2.mono _ _ _ _ (fun δ2 z fps2 σ2 o2 e2 => z fps2 σ2 o2 fun j hj => (e2 j hj).trans (e j hj)) z)⟩
def vgTup (n : Nat) (dg : List D → Dl → (Dl → Prop) → Prop) (x : D) (δ : Dl) (P : Dl → Prop) : Prop := match x with | .tup ds => ds.length = n ∧ dg ds δ P | _ => False
theorem gt_tup {n : Nat} {g : TGs} {dg : List D → Dl → (Dl → Prop) → Prop} (h : GTs K Γ g dg) : GT K Γ (gTup K n g) (vgTup n dg) :=
  ⟨fun x δ P P' k h' => by unfold vgTup at h' ⊢; revert h'; split <;> first | exact fun h' => ⟨h'.1, h.mono _ _ _ _ k h'.2⟩ | exact id,
   fun {B0 fps δ σ H x v fp Q} o r nn q => by
    unfold vgTup at q
    split at q
    · obtain ⟨a, xs, e1, e2, r⟩ := r
      exact ⟨a, xs, e1, .inl (.inl e2), r.length.trans q.1, h.run o r nn q.2⟩
    · exact q.elim⟩
def vAsg (de : DE) (dg : D → Dl → (Dl → Prop) → Prop) (E : DEnds) (δ : Dl) : Prop := de δ fun x => dg x δ E.nx
theorem st_asgS {g : TG} {dg : D → Dl → (Dl → Prop) → Prop} (he : ES K Γ te de) (hg : GT K Γ g dg) : ST K ρ Γr Γl (tAsg te g) Γ Γ (vAsg de dg) :=
  fun _ _ _ _ _ _ _ k o h => he.run o (he.mono _ _ _ (fun x z v H' fp s r n => hg.run (o.same s) r n (hg.mono _ _ _ _ (fun δ' z fps' σ' o' _ => k.nx o' z) z)) h)
structure ItOk (K : PySem.W.Frag) (J : It) (B : Hp) (ds : List D) : Prop where
  go : ∀ {i H}, Same B H → i < ds.length → J.go i H
  yld : ∀ {i H x H' d}, Same B H → J.yld i H x H' → ds[i]? = some d → Same H H' ∧ ∃ fp, Rf K H' d x fp ∧ ∀ a ∈ fp, B a ≠ none
  stop : ∀ {i H}, Same B H → ds.length ≤ i → J.stop i H
abbrev DI := Dl → (List D → Prop) → Prop
structure IT (K : PySem.W.Frag) (Γ : List Nat) (wi : TI) (di : DI) : Prop where
  mono : ∀ δ (P P' : List D → Prop), (∀ x, P x → P' x) → di δ P → di δ P'
  run : ∀ {B0 fps δ σ H R}, Ok K B0 Γ fps δ σ H → di δ (fun ds => ∀ (J : It) (H' : Hp) (fq : List Addr), Same H H' → (∀ j ∈ Γ, ∀ a ∈ fq, a ∉ fps j) →
    (∀ B, Same B H' → (∀ a ∈ fq, B a = H' a) → (∀ a o, H' a = some o → Im o → B a = some o) → ItOk K J B ds) → R J H') → wi σ H R
def asL (x : D) (P : List D → Prop) : Prop := match x.items with | some ds => P ds | none => False
theorem asL_out {x : D} {P : List D → Prop} (h : asL x P) : ∃ ds, x.items = some ds ∧ P ds := by
  unfold asL at h; split at h
  · exact ⟨_, by assumption, h⟩
  · exact h.elim
theorem asL_in {x : D} {ds : List D} {P : List D → Prop} (e : x.items = some ds) (h : P ds) : asL x P := by unfold asL; rw [e]; exact h
def vItL (de : DE) (δ : Dl) (P : List D → Prop) : Prop := de δ fun x => asL x P
theorem it_list (he : ES K Γ te de) : IT K Γ (iList K te) (vItL de) :=
  ⟨fun δ P P' k h => he.mono _ _ _ (fun x z => by obtain ⟨ds, e, z⟩ := asL_out z; exact asL_in e (k _ z)) h,
   fun {B0 fps δ σ H R} o h => he.run o (he.mono _ _ _ (fun x z v H' fp s r n => by
    obtain ⟨ds, ex, z⟩ := asL_out z
    obtain ⟨a, xs, fq, rfl, hs, hr, hin⟩ := r.seq ex
    refine ⟨a, rfl, ⟨xs, hs⟩, z (Itl K a) H' fp s n fun B sB ag im => ?_⟩
    have rB : Rf K B x (.ref a) fp := r.mono (fun b hb u e => by rw [ag b hb]; exact e) im
    obtain ⟨a', xs', fq', e1, hs', hr', hin'⟩ := rB.seq ex
    cases e1
    have sq : ∀ {H2 : Hp}, Same B H2 → SqL K H2 a xs' := fun s2 => by
      rcases hs' with (h | ⟨o', h⟩) | h
      · exact .inl (.inl (s2.st _ _ h trivial))
      · exact .inl (.inr ⟨o', s2.st _ _ h trivial⟩)
      · exact .inr h
    have hl := hr'.length
    refine ⟨fun {i H2} s2 hi => ⟨xs', xs'[i]'(by omega), sq s2, by simp [hl, hi]⟩, fun {i H2 y H3 d} s2 hy hd => ?_, fun {i H2} s2 hi => ⟨xs', sq s2, by omega⟩⟩
    obtain ⟨rfl, hy⟩ := hy
    have e2 := hy xs' (sq s2)
    obtain ⟨d', f, e3, r3, k3⟩ := hr'.get' e2
    rw [hd] at e3; cases e3
    exact ⟨Same.refl _, f, r3.same s2, fun b hb => by
      obtain ⟨u, hu, _⟩ := r3.dom b hb
      rw [hu]; intro z; cases z⟩) h)⟩
def asI (xs : List D) (P : Int → Prop) : Prop := match xs with | [.int j] => P j | _ => False
def asII (xs : List D) (P : Int → Int → Prop) : Prop := match xs with | [.int i, .int j] => P i j | _ => False
theorem asI_out {xs : List D} {P : Int → Prop} (h : asI xs P) : ∃ j, xs = [.int j] ∧ P j := by
  unfold asI at h; split at h
  · exact ⟨_, rfl, h⟩
  · exact h.elim
theorem asII_out {xs : List D} {P : Int → Int → Prop} (h : asII xs P) : ∃ i j, xs = [.int i, .int j] ∧ P i j := by
  unfold asII at h; split at h
  · exact ⟨_, _, rfl, h⟩
  · exact h.elim
def intsD (lo : Int) (n : Nat) : List D := (List.range n).map fun (k : Nat) => .int (lo + (k : Int))
theorem itr_ok {lo : Int} {n : Nat} {B : Hp} : ItOk K (Itr lo n) B (intsD lo n) := ⟨fun {i H2} s2 hi => by unfold Itr; simpa [intsD] using hi, fun {i H2 y H3 d} s2 hy hd => by
  obtain ⟨rfl, rfl⟩ := hy
  unfold intsD at hd
  rw [List.getElem?_map] at hd
  cases e : (List.range n)[i]? with
  | none => rw [e] at hd; cases hd
  | some k =>
    rw [e] at hd
    obtain ⟨h1, h2⟩ := List.getElem?_eq_some_iff.mp e
    rw [List.getElem_range] at h2
    subst h2
    cases hd
    exact ⟨Same.refl _, [], ⟨rfl, rfl⟩, fun _ h => nomatch h⟩, fun {i H2} s2 hi => by unfold Itr; simpa [intsD] using hi⟩
def vRng1 (da : DA) (δ : Dl) (P : List D → Prop) : Prop := da δ fun xs => asI xs fun j => (-(2 ^ 62) ≤ j ∧ j < 2 ^ 62) ∧ P (intsD 0 j.toNat)
def vRng2 (da : DA) (δ : Dl) (P : List D → Prop) : Prop := da δ fun xs => asII xs fun i j => (-(2 ^ 62) ≤ i ∧ i < 2 ^ 62 ∧ -(2 ^ 62) ≤ j ∧ j < 2 ^ 62) ∧ P (intsD i (j - i).toNat)
theorem Rps.ints1 {H : Hp} {j : Int} {vs : List V} (h : Rps K H [.int j] vs) : vs = [.int j] := by
  obtain ⟨fp, x, r, f1, f2, rfl, _, ⟨rfl, _⟩, ⟨rfl, _⟩⟩ := h; rfl
theorem Rps.ints2 {H : Hp} {i j : Int} {vs : List V} (h : Rps K H [.int i, .int j] vs) : vs = [.int i, .int j] := by
  obtain ⟨fp, x, r, f1, f2, rfl, _, ⟨rfl, _⟩, y, r', f1, f2, rfl, _, ⟨rfl, _⟩, ⟨rfl, _⟩⟩ := h; rfl
theorem it_rng1 {u : TA} {da : DA} (ha : AR K Γ u da) : IT K Γ (iRng1 u) (vRng1 da) :=
  ⟨fun δ P P' k h => ha.mono _ _ _ (fun x z => by obtain ⟨j, rfl, z⟩ := asI_out z; exact ⟨z.1, k _ z.2⟩) h,
   fun {B0 fps δ σ H R} o h => ha.run o (ha.mono _ _ _ (fun xs z vs H' s r => by
    obtain ⟨j, rfl, z⟩ := asI_out z
    exact ⟨j, r.ints1, z.1.1, z.1.2, z.2 _ H' [] s (fun _ _ _ h => (nomatch h)) fun B _ _ _ => itr_ok⟩) h)⟩
def vLoop (dg : D → Dl → (Dl → Prop) → Prop) (db : DS) (E : DEnds) : List D → Dl → Prop
  | [], δ => E.nx δ
  | x :: xs, δ => dg x δ fun δ' => db { nx := vLoop dg db E xs, ct := vLoop dg db E xs, bk := E.nx, rt := E.rt } δ'
def vFor (di : DI) (dg : D → Dl → (Dl → Prop) → Prop) (db : DS) (E : DEnds) (δ : Dl) : Prop := di δ fun ds => vLoop dg db E ds δ
theorem RtI.base {B1 B0 : Hp} {fps : Nat → List Addr} {H : Hp} {fp : List Addr} (r : RtI B1 Γr fps H fp) (s : Same B0 B1) (_ : TabInv K B0) : RtI B0 Γr fps H fp := ⟨r.nd, r.mu, fun a ha => s.free (r.nw a ha), r.dj⟩
theorem st_for {wi : TI} {di : DI} {g : TG} {dg : D → Dl → (Dl → Prop) → Prop} {tb : TS} {db : DS} (hi : IT K Γ wi di) (hg : GT K Γ g dg) (hb : ST K ρ Γr Γ tb Γ Γ db) : ST K ρ Γr Γl (tFor wi g tb) Γ Γ (vFor di dg db) := by
  intro B0 Dn E fps δ σ H k o h
  refine hi.run o (hi.mono _ _ _ (fun ds z J H1 fq s1 n1 hit => ?_) h)
  obtain ⟨B1, sB, o1, ag⟩ := (o.same s1).rebase
  have hJ : ItOk K J B1 ds := hit B1 o1.b0 (fun a ha => ag a fun j hj => n1 j hj a ha) fun a u e im => by
    rw [ag a fun j hj ha => ((o1.own j hj).2 a ha).2.notup u e im]; exact e
  refine ⟨fun i m σ H => m = ds.length - i ∧ i ≤ ds.length ∧ ∃ fps δ, Ok K B1 Γ fps δ σ H ∧ vLoop dg db E (ds.drop i) δ, ⟨ds.length, by omega, Nat.zero_le _, fps, δ, o1, by rw [List.drop_zero]; exact z⟩, ?_⟩
  rintro i m σ2 H2 ⟨rfl, hi2, fps2, δ2, o2, z2⟩
  by_cases hlt : i < ds.length
  · refine .inr ⟨hJ.go o2.b0 hlt, _, fun σ' H' q => q, fun x H3 hy => ?_⟩
    obtain ⟨s3, fp, r3, n3⟩ := hJ.yld o2.b0 hy (List.getElem?_eq_getElem hlt)
    rw [List.drop_eq_getElem_cons hlt] at z2
    refine hg.run (o2.same s3) r3 (fun j hj a ha hz => n3 a ha ((o2.own j hj).2 a hz).1) (hg.mono _ _ _ _ (fun δ' z' fps' σ' o' e' => ?_) z2)
    refine hb (E := { nx := vLoop dg db E (ds.drop (i + 1)), ct := vLoop dg db E (ds.drop (i + 1)), bk := E.nx, rt := E.rt }) ⟨fun o4 z4 => ⟨ds.length - (i + 1), by omega, rfl, hlt, _, _, o4, z4⟩, fun o4 z4 => k.nx (o4.base sB o.b0.tv) z4, fun o4 z4 => ⟨ds.length - (i + 1), by omega, rfl, hlt, _, _, o4, z4⟩, fun o4 r4 i4 z4 => k.rt (o4.base sB o.b0.tv) r4 (fun y => (i4 y).base sB o.b0.tv) z4⟩ o' z'
  · have e : i = ds.length := by omega
    subst e
    rw [List.drop_length] at z2
    exact .inl ⟨hJ.stop o2.b0 (Nat.le_refl _), k.nx (o2.base sB o.b0.tv) z2⟩
def vWhile (c : DT) (db : DS) (E : DEnds) (δ : Dl) : Prop := ∃ W : Nat → Dl → Prop, (∃ m, W m δ) ∧ ∀ m δ, W m δ → c δ fun b => if b = true then db { nx := fun δ' => ∃ m', m' < m ∧ W m' δ', ct := fun δ' => ∃ m', m' < m ∧ W m' δ', bk := E.nx, rt := E.rt } δ else E.nx δ
theorem st_while {c : TT} {dc : DT} {tb : TS} {db : DS} (hc : TR K Γ c dc) (hb : ST K ρ Γr Γ tb Γ Γ db) : ST K ρ Γr Γl (tWhile c tb) Γ Γ (vWhile dc db) := by
  intro B0 Dn E fps δ σ H k o h
  obtain ⟨W, ⟨m, w0⟩, turn⟩ := h
  refine ⟨fun m σ H => ∃ fps δ, Ok K B0 Γ fps δ σ H ∧ W m δ, ⟨m, fps, δ, o, w0⟩, ?_⟩
  rintro m σ2 H2 ⟨fps2, δ2, o2, w2⟩
  refine hc.run o2 (hc.mono _ _ _ (fun b z H' s => ite_imp (fun z => ?_) (fun z => k.nx (o2.same s) z) z) (turn m δ2 w2))
  refine ⟨fun σ H => ∃ m', m' < m ∧ ∃ fps δ, Ok K B0 Γ fps δ σ H ∧ W m' δ, fun σ' H' q => q, hb (E := { nx := fun δ' => ∃ m', m' < m ∧ W m' δ', ct := fun δ' => ∃ m', m' < m ∧ W m' δ', bk := E.nx, rt := E.rt }) ⟨?_, fun o4 z4 => k.nx o4 z4, ?_, k.rt⟩ (o2.same s) z⟩
  · rintro fps δ σ H o4 ⟨m', h1, h2⟩
    exact ⟨m', h1, fps, δ, o4, h2⟩
  · rintro fps δ σ H o4 ⟨m', h1, h2⟩
    exact ⟨m', h1, fps, δ, o4, h2⟩
def vEach (f : D → (List D → Prop) → Prop) : List D → List D → (List D → Prop) → Prop
  | [], acc, P => P acc
  | x :: xs, acc, P => f x fun ys => vEach f xs (acc ++ ys) P
theorem vEach_mono {f : D → (List D → Prop) → Prop} (hf : ∀ x P P', (∀ z, P z → P' z) → f x P → f x P') : ∀ xs acc (P P' : List D → Prop), (∀ z, P z → P' z) → vEach f xs acc P → vEach f xs acc P'
  | [], acc, P, P', k, h => k _ h
  | x :: xs, acc, P, P', k, h => hf x _ _ (fun z h => vEach_mono hf xs _ P P' k h) h
def cbaseD (k : Nat) (idx : List Nat) (δ : Dl) : Dl := List.replicate k none ++ idx.map fun i => (δ[i]?).getD none
theorem cb_ok {k : Nat} {idx : List Nat} {B0 : Hp} {fps : Nat → List Addr} {δ : Dl} {σ : St} {H : Hp} (o : Ok K B0 Γ fps δ σ H) : Ok K H [] (fun j => match (cbaseD k idx δ)[j]? with | some (some _) => fps (idx.getD (j - k) 0) | _ => []) (cbaseD k idx δ) (cbase k idx σ) H := by
  refine ⟨by simp [cbaseD, cbase, caps], SB.refl o.b0.now, fun i d e => ?_, fun i h => ?_, fun _ h => (nomatch h), fun _ h => (nomatch h)⟩
  · rw [e]
    unfold cbaseD at e
    unfold cbase caps
    by_cases hi : i < k
    · rw [List.getElem?_append_left (by simpa using hi)] at e
      simp [hi] at e
    · rw [List.getElem?_append_right (by simpa using hi), List.length_replicate, List.getElem?_map] at e
      cases ej : idx[i - k]? with
      | none => rw [ej] at e; simp at e
      | some j =>
        rw [ej] at e
        simp only [Option.map_some, Option.some.injEq] at e
        have e' : δ[j]? = some (some d) := by
          cases q : δ[j]? with
          | none => rw [q] at e; cases e
          | some x => rw [q] at e; simp at e; rw [e]
        obtain ⟨v, h1, h2⟩ := o.val j d e'
        refine ⟨v, ?_, ?_⟩
        · rw [List.getElem?_append_right (by simpa using hi), List.length_replicate, List.getElem?_map, ej]
          simp [h1]
        · show Rf K H d v (fps (idx.getD (i - k) 0))
          rw [List.getD_eq_getElem?_getD, ej]
          exact h2
  · show (match (cbaseD k idx δ)[i]? with | some (some _) => _ | _ => _) = _
    split
    · exact absurd (by assumption) (h _)
    · rfl
def vBody (dg : D → Dl → (Dl → Prop) → Prop) (dt : DT) (de : DE) (δ : Dl) (x : D) (R : List D → Prop) : Prop := dg x δ fun δ2 => dt δ2 fun b => if b = true then de δ2 fun y => R [y] else R []
def vComp (di : DI) (dg : D → Dl → (Dl → Prop) → Prop) (dt : DT) (de : DE) (k : Nat) (idx : List Nat) (δ : Dl) (P : DK) : Prop := di δ fun ds => ds.length ≤ 1000 ∧ vEach (vBody dg dt de (cbaseD k idx δ)) ds [] fun ys => P (.lst ys)
theorem vBody_mono {Γ' : List Nat} {g : TG} {dg : D → Dl → (Dl → Prop) → Prop} {tt : TT} {dt : DT} (hg : GT K Γ' g dg) (ht : TR K Γ' tt dt) (hm : ∀ δ (P P' : DK), (∀ x, P x → P' x) → de δ P → de δ P') (δ : Dl) : ∀ x P P', (∀ z, P z → P' z) → vBody dg dt de δ x P → vBody dg dt de δ x P' :=
  fun x P P' k h => hg.mono _ _ _ _ (fun δ2 h => ht.mono _ _ _ (fun b h => ite_imp (hm _ _ _ fun y h => k _ h) (k _) h) h) h
theorem em_comp {wi : TI} {di : DI} {g : TG} {dg : D → Dl → (Dl → Prop) → Prop} {tt : TT} {dt : DT} {k : Nat} {idx : List Nat} (hi : IT K [] wi di) (hg : GT K [] g dg) (ht : TR K [] tt dt) (he : EM K [] [] te de) :
    EM K Γ [] (tComp wi g tt te k idx) (vComp di dg dt de k idx) := by
  have hm := vBody_mono hg ht he.mono
  refine ⟨fun δ P P' k h => hi.mono _ _ _ (fun ds z => ⟨z.1, vEach_mono (hm _) _ _ _ _ (fun ys h => k _ h) z.2⟩) h, fun {B0 fps δ σ H Q} o h => hi.run (o.sub (Γ' := []) fun _ h => (nomatch h)) (hi.mono _ _ _ (fun ds z J H1 fq s1 n1 hit => ?_) h)⟩
  have hJ : ItOk K J H1 ds := hit H1 (Same.refl _) (fun _ _ => rfl) fun a u e im => e
  obtain ⟨hz, z⟩ := z
  refine ⟨fun i m vs H2 => m = ds.length - i ∧ i ≤ ds.length ∧ Same H1 H2 ∧ vs.length ≤ i ∧ ∃ ys fp, Rfs K H2 ys vs fp ∧ Nw H1 H2 nf [] fp ∧ vEach (vBody dg dt de (cbaseD k idx δ)) (ds.drop i) ys fun ys => ∀ v H' fp, Same H H' → Rf K H' (.lst ys) v fp → Nw H H' fps [] fp → Q v H',
    ⟨ds.length, by omega, Nat.zero_le _, Same.refl _, Nat.zero_le _, [], [], ⟨rfl, rfl⟩, Nw.nil, by rw [List.drop_zero]; exact z⟩, ?_⟩
  rintro i m vs H2 ⟨rfl, hi2, s2, hvs, ys, fp, r2, n2, z2⟩
  by_cases hlt : i < ds.length
  · refine .inr ⟨hJ.go s2 hlt, le1000 (by omega), _, fun vs' H' q => q, fun x H3 hy => ?_⟩
    obtain ⟨s3, fx, r3, n3⟩ := hJ.yld s2 hy (List.getElem?_eq_getElem hlt)
    rw [List.drop_eq_getElem_cons hlt] at z2
    have oi := (cb_ok (k := k) (idx := idx) ((o.same s1).same (s2.trans s3)))
    refine hg.run oi r3 (fun _ h => (nomatch h)) (hg.mono _ _ _ _ (fun δ' z' fps' σ' o' e' => ?_) z2)
    refine ht.run o' (ht.mono _ _ _ (fun b z' H4 s4 => ite_imp (fun z' => he.run (o'.same s4) (he.mono _ _ _ (fun y z' v H5 f5 s5 r5 n5 => ?_) z')) (fun z' => ?_) z') z')
    · have s25 := s3.trans (s4.trans s5)
      refine ⟨ds.length - (i + 1), by omega, rfl, hlt, s2.trans s25, by simp; omega, ys ++ [y], fp ++ f5, (r2.same s25).append (Rfs.one r5), ⟨?_, fun a ha => ?_, fun a ha => ?_⟩, z'⟩
      · refine List.nodup_append.mpr ⟨n2.nd, n5.nd, fun a h1 b h2 e => ?_⟩
        subst e
        exact ((n2.mu a h1).same (s3.trans s4)).some (n5.fresh a h2)
      · rcases List.mem_append.mp ha with h | h
        · exact (n2.mu a h).same s25
        · exact n5.mu a h
      · rcases List.mem_append.mp ha with h | h
        · exact n2.src a h
        · exact .inl ((s2.trans (s3.trans s4)).free (n5.fresh a h))
    · have s24 := s3.trans s4
      dsimp only at z'
      rw [List.append_nil] at z'
      exact ⟨ds.length - (i + 1), by omega, rfl, hlt, s2.trans s24, by omega, ys, fp, r2.same s24, n2.same s24, z'⟩
  · have e : i = ds.length := by omega
    subst e
    rw [List.drop_length] at z2
    refine .inl ⟨hJ.stop s2 (Nat.le_refl _), le1000 (by omega), fun p hp => ?_⟩
    have hs : Same H2 (upd H2 p (.lst vs)) := Same.new' hp
    refine z2 _ _ (p :: fp) ((s1.trans s2).trans hs) ⟨p, vs, fp, rfl, upd_same, rfl, r2.same hs⟩ ⟨List.nodup_cons.mpr ⟨fun h => (n2.mu p h).some hp, n2.nd⟩, fun a ha => ?_, fun a ha => ?_⟩
    · rcases List.mem_cons.mp ha with e | h
      · subst e; exact .inl ⟨vs, upd_same⟩
      · exact (n2.mu a h).same hs
    · rcases List.mem_cons.mp ha with e | h
      · subst e; exact .inl ((s1.trans s2).free hp)
      · exact .inl (s1.free (n2.fresh a h))
def vYes (_u0 : Dl) (P : Bool → Prop) : Prop := P true
theorem tr_yes : TR K Γ tYes vYes := ⟨fun _ _ _ k h => k _ h, fun {_ _ _ _ H _} o q => q H (Same.refl H)⟩
def startD (N : List Str) (ds : List D) : Dl := ds.map some ++ List.replicate (N.length - ds.length) none
theorem Rfs.split {H : Hp} : ∀ {ds : List D} {vs : List V} {fp : List Addr}, Rfs K H ds vs fp → ∃ fps : Nat → List Addr, (∀ i d, ds[i]? = some d → ∃ v, vs[i]? = some v ∧ Rf K H d v (fps i)) ∧ ∀ i, ds.length ≤ i → fps i = []
  | [], vs, fp, h => ⟨fun _ => [], fun i d e => by simp at e, fun _ _ => rfl⟩
  | d :: ds, vs, fp, h => by
    obtain ⟨x, r, f1, f2, rfl, rfl, h1, h2⟩ := h
    obtain ⟨fps, k1, k2⟩ := Rfs.split h2
    refine ⟨fun i => match i with | 0 => f1 | j + 1 => fps j, fun i d' e => ?_, fun i hi => ?_⟩
    · cases i with
      | zero => simp at e; subst e; exact ⟨x, rfl, h1⟩
      | succ j => simpa using k1 j d' (by simpa using e)
    · cases i with
      | zero => simp at hi
      | succ j => exact k2 j (by simpa using hi)
theorem start_ok {N : List Str} {ds : List D} {vs : List V} {H : Hp} (h : Rps K H ds vs) (tv : TabInv K H) : ∃ fps, Ok K H [] fps (startD N ds) (L2.start N vs) H := by
  obtain ⟨fp, h⟩ := h
  have hl := h.length
  obtain ⟨fps, k1, k2⟩ := h.split
  refine ⟨fps, by simp [startD, L2.start, hl], SB.refl tv, fun i d e => ?_, fun i e => ?_, fun _ h => (nomatch h), fun _ h => (nomatch h)⟩
  · unfold startD at e
    unfold L2.start
    by_cases hi : i < ds.length
    · rw [List.getElem?_append_left (by simpa using hi), List.getElem?_map, List.getElem?_eq_getElem hi] at e
      simp at e
      obtain ⟨v, h1, h2⟩ := k1 i d (by rw [List.getElem?_eq_getElem hi, e])
      exact ⟨v, by rw [List.getElem?_append_left (by simpa [hl] using hi), List.getElem?_map, h1]; rfl, h2⟩
    · rw [List.getElem?_append_right (by simpa using hi), List.getElem?_replicate] at e
      split at e <;> cases e
  · by_cases hi : i < ds.length
    · refine absurd ?_ (e ds[i])
      unfold startD
      rw [List.getElem?_append_left (by simpa using hi), List.getElem?_map, List.getElem?_eq_getElem hi]
      rfl
    · exact k2 i (by omega)
abbrev endsD (P : DK) : DEnds := ⟨fun _ => P .non, fun x _ => P x, fun _ => False, fun _ => False⟩
theorem fn_val {N : List Str} {S : DSp} (hs : ST K true [] [] t [] Γn d) (hd : ∀ ds P, S ds P → d (endsD P) (startD N ds)) :
    ∀ {vs H Q E}, spP K S vs H Q E → t { nx := fun _ H' => Q .non H', rt := Q } (L2.start N vs) H := by
  rintro vs H Q E ⟨ds, r, tv, h⟩
  obtain ⟨fps, o⟩ := start_ok (N := N) r tv
  refine hs (E := endsD _) ⟨fun {fps δ σ H'} o z => ?_, fun o (z : False) => z.elim, fun o (z : False) => z.elim, fun o r i z => ?_⟩ o (hd ds _ h)
  · exact z _ H' [] o.b0 ⟨rfl, rfl⟩ Nw.nil
  · exact z _ _ _ o.b0 r ⟨(i rfl).nd, (i rfl).mu, fun a ha => .inl ((i rfl).nw a ha)⟩
theorem fn_valR {N : List Str} {S : DSp} (hs : ST K false [] [] t [] Γn d) (hd : ∀ ds P, S ds P → d (endsD P) (startD N ds)) :
    ∀ {vs H Q E}, spR K S vs H Q E → t { nx := fun _ H' => Q .non H', rt := Q } (L2.start N vs) H := by
  rintro vs H Q E ⟨ds, r, tv, h⟩
  obtain ⟨fps, o⟩ := start_ok (N := N) r tv
  refine hs (E := endsD _) ⟨fun {fps δ σ H'} o z => ?_, fun o (z : False) => z.elim, fun o (z : False) => z.elim, fun o r i z => ?_⟩ o (hd ds _ h)
  · exact z _ H' o.b0 ⟨[], rfl, rfl⟩
  · exact z _ _ o.b0 ⟨_, r⟩
end
end L3
set_option Elab.async false
set_option linter.all false
set_option maxRecDepth 100000
set_option maxHeartbeats 4000000
namespace L3
open PySem L2
section
variable {K : PySem.W.Frag} {ρ : Bool} {Γr Γl Γ Γ1 Γ2 Γn M : List Nat} {t u : TS} {te ta tb tx t1 t2 : TE} {de da db dx d1 d2 : DE} {d e : DS}
variable {B0 : Hp} {fps : Nat → List Addr} {δ : Dl} {σ : St} {H H' : Hp}
theorem Ok.writeT (o : Ok K B0 Γ fps δ σ H) {i : Nat} (hi : i ∈ Γ) {d' : D} {v : V} {fp' : List Addr} (hv : σ[i]? = some (some v)) (r : Rf K H' d' v fp') (nd : fp'.Nodup) (mu : ∀ a ∈ fp', Mu H' a)
    (src : ∀ a ∈ fp', a ∈ fps i ∨ (B0 a = none ∧ ∀ j, a ∉ fps j)) (sb : SB K B0 H') (keep : ∀ b u, b ∉ fps i → H b = some u → NT u → H' b = some u) :
    Ok K B0 Γ (fun j => if j = i then fp' else fps j) (δ.set i (some d')) σ H' := by
  have hlt : i < δ.length := by rw [← o.len]; exact (List.getElem?_eq_some_iff.mp hv).1
  refine ⟨by simp [o.len], sb, fun j d e => ?_, fun j h => ?_, fun j hj => ?_, fun j hj k hk a ha => ?_⟩
  · by_cases h : j = i
    · subst h
      rw [List.getElem?_set] at e
      simp [hlt] at e
      subst e
      exact ⟨v, hv, by rw [if_pos rfl]; exact r⟩
    · rw [List.getElem?_set_ne (Ne.symm h)] at e
      obtain ⟨w, h1, h2⟩ := o.val j d e
      refine ⟨w, h1, ?_⟩
      rw [if_neg h]
      exact h2.monoT (fun a ha u e n => keep a u (fun z => o.dj i hi j h a z ha) e n) fun a u e im => keep a u (fun z => ((o.own i hi).2 a z).2.notup u e im) e (by rcases im with ⟨_, rfl⟩ | ⟨_, _, rfl⟩ <;> trivial)
  · by_cases h' : j = i
    · subst h'
      exact absurd (by rw [List.getElem?_set]; simp [hlt]) (h d')
    · rw [if_neg h']
      exact o.non j fun d z => h d (by rw [List.getElem?_set_ne (Ne.symm h')]; exact z)
  · by_cases h : j = i
    · subst h
      rw [if_pos rfl]
      refine ⟨nd, fun a ha => ⟨?_, mu a ha⟩⟩
      rcases src a ha with z | z
      · exact ((o.own j hi).2 a z).1
      · exact z.1
    · rw [if_neg h]
      refine ⟨(o.own j hj).1, fun a ha => ⟨((o.own j hj).2 a ha).1, ?_⟩⟩
      have hn : a ∉ fps i := fun z => o.dj i hi j h a z ha
      rcases ((o.own j hj).2 a ha).2 with ⟨x, z⟩ | ⟨x, z⟩ | ⟨x, z⟩ | ⟨C, dx, fs, z⟩
      · exact .inl ⟨x, keep a _ hn z trivial⟩
      · exact .inr (.inl ⟨x, keep a _ hn z trivial⟩)
      · exact .inr (.inr (.inl ⟨x, keep a _ hn z trivial⟩))
      · exact .inr (.inr (.inr ⟨C, dx, fs, keep a _ hn z trivial⟩))
  · by_cases h : j = i
    · subst h
      rw [if_pos rfl] at ha
      rw [if_neg hk]
      rcases src a ha with z | z
      · exact o.dj j hi k hk a z
      · exact z.2 k
    · rw [if_neg h] at ha
      by_cases hki : k = i
      · rw [if_pos hki]
        intro z
        rcases src a z with y | y
        · exact o.dj j hj i (Ne.symm h) a ha y
        · exact y.2 j ha
      · rw [if_neg hki]
        exact o.dj j hj k hk a ha
def slotL (δ : Dl) (i : Nat) (P : List D → Prop) : Prop := match δ[i]? with | some (some (.lst ds)) => P ds | _ => False
theorem Ok.write (o : Ok K B0 Γ fps δ σ H) {i : Nat} (hi : i ∈ Γ) {d' : D} {v : V} {fp' : List Addr} (hv : σ[i]? = some (some v)) (r : Rf K H' d' v fp') (nd : fp'.Nodup) (mu : ∀ a ∈ fp', Mu H' a)
    (src : ∀ a ∈ fp', a ∈ fps i ∨ (B0 a = none ∧ ∀ j, a ∉ fps j)) (keep : ∀ b u, b ∉ fps i → H b = some u → H' b = some u) :
    Ok K B0 Γ (fun j => if j = i then fp' else fps j) (δ.set i (some d')) σ H' := o.writeT hi hv r nd mu src (o.b0.keep (fun a ha => (o.own i hi).2 a ha) keep) fun b u n e _ => keep b u n e
theorem slotL_out {δ : Dl} {i : Nat} {P : List D → Prop} (h : slotL δ i P) : ∃ ds, δ[i]? = some (some (.lst ds)) ∧ P ds := by
  unfold slotL at h; split at h
  · exact ⟨_, by assumption, h⟩
  · exact h.elim
theorem Ok.ownL (o : Ok K B0 Γ fps δ σ H) {i : Nat} {ds : List D} (e : δ[i]? = some (some (.lst ds))) : ∃ a xs fq, σ[i]? = some (some (.ref a)) ∧ H a = some (.lst xs) ∧ fps i = a :: fq ∧ Rfs K H ds xs fq := by
  obtain ⟨v, h1, a, xs, fq, rfl, h2, h3, h4⟩ := o.val i _ e
  exact ⟨a, xs, fq, h1, h2, h3, h4⟩
theorem updKeep {a : Addr} {w : HO} {fp : List Addr} (ha : a ∈ fp) : ∀ b u, b ∉ fp → H b = some u → upd H a w b = some u := fun b u hb e => by
  rw [upd_ne (fun z => hb (by rw [z]; exact ha))]; exact e
def vAppend (M : List Nat) (i : Nat) (de : DE) (E : DEnds) (δ : Dl) : Prop := slotL δ i fun ds => de δ fun x => ds.length < 1000 ∧ E.nx ((kill M δ).set i (some (.lst (ds ++ [x]))))
theorem st_append (i : Nat) (he : EM K Γ M te de) (hi : i ∈ Γ ∧ i ∉ M := by decide) (hM : ∀ j ∈ M, j ∈ Γ := by decide) : ST K ρ Γr Γl (tDrop (tBM K "list" rAppend (tVar i) (tCons te tNil))) Γ (minus Γ M) (vAppend M i de) := by
  intro B0 Dn E fps δ σ H k o h
  obtain ⟨ds, e, h⟩ := slotL_out h
  obtain ⟨a, xs, fq, h1, h2, h3, h4⟩ := o.ownL e
  refine ⟨.ref a, h1, .inl ⟨rfl, xs, .inl (.inl h2)⟩, he.run o (he.mono _ _ _ (fun x z v H1 fp s r n => ?_) h)⟩
  refine ⟨a, xs, v, rfl, rfl, s.st _ _ h2 trivial, by rw [h4.length]; exact Nat.lt_of_lt_of_le z.1 (le1000 (Nat.le_refl _)), ?_⟩
  have ok := (o.kill M).same s
  have hil : i ∈ minus Γ M := mem_minus.mpr hi
  have hown := o.own i hi.1
  rw [h3] at hown
  obtain ⟨nd, hmu⟩ := hown
  obtain ⟨na, ndq⟩ := List.nodup_cons.mp nd
  have hfa : ∀ b ∈ fp, b ≠ a ∧ b ∉ fq := fun b hb => by
    have : b ∉ fps i := fun z => by
      rcases n.src b hb with y | ⟨j, hj, y⟩
      · exact o.dom z y
      · exact o.dj j (hM j hj) i (fun w => hi.2 (by rw [w]; exact hj)) b y z
    rw [h3] at this
    exact ⟨fun z => this (by rw [z]; exact List.mem_cons_self), fun z => this (List.mem_cons_of_mem _ z)⟩
  have nt := ((hmu a List.mem_cons_self).2.same s).notup
  refine k.nx (ok.write hil (d' := .lst (ds ++ [x])) (fp' := a :: (fq ++ fp)) h1 ⟨a, xs ++ [v], fq ++ fp, rfl, upd_same, rfl, ?_⟩ ?_ (fun b hb => ?_) (fun b hb => ?_) ?_) z.2
  · exact ((h4.same s).upd na nt).append ((Rfs.one r).upd (fun w => (hfa a w).1 rfl) nt)
  · refine List.nodup_cons.mpr ⟨fun w => ?_, List.nodup_append.mpr ⟨ndq, n.nd, fun b h1 c h2 z => ?_⟩⟩
    · rcases List.mem_append.mp w with w | w
      · exact na w
      · exact (hfa a w).1 rfl
    · subst z; exact (hfa b h2).2 h1
  · refine Mu.upd ?_ (.inl ⟨_, rfl⟩)
    rcases List.mem_cons.mp hb with w | w
    · subst w; exact .inl ⟨xs, s.st _ _ h2 trivial⟩
    · rcases List.mem_append.mp w with w | w
      · exact (hmu b (List.mem_cons_of_mem _ w)).2.same s
      · exact n.mu b w
  · show b ∈ (if i ∈ M then [] else fps i) ∨ _
    rw [if_neg hi.2, h3]
    rcases List.mem_cons.mp hb with w | w
    · subst w; exact .inl List.mem_cons_self
    · rcases List.mem_append.mp w with w | w
      · exact .inl (List.mem_cons_of_mem _ w)
      · refine .inr ⟨?_, fun j => ?_⟩
        · rcases n.src b w with y | ⟨j, hj, y⟩
          · exact o.b0.free y
          · exact ((o.own j (hM j hj)).2 b y).1
        · show b ∉ (if j ∈ M then [] else fps j)
          split
          · exact List.not_mem_nil
          · rename_i hj
            intro z
            rcases n.src b w with y | ⟨j', hj', y⟩
            · exact o.dom z y
            · exact o.dj j' (hM j' hj') j (fun q => hj (by rw [q]; exact hj')) b y z
  · show ∀ b u, b ∉ (if i ∈ M then [] else fps i) → _
    rw [if_neg hi.2, h3]
    exact updKeep List.mem_cons_self
theorem Rfs.set {H : Hp} {x : D} {v : V} {fp : List Addr} (r : Rf K H x v fp) (nd : fp.Nodup) : ∀ {ds : List D} {xs : List V} {fq : List Addr} {j : Nat}, Rfs K H ds xs fq → fq.Nodup → (∀ a ∈ fp, a ∉ fq) → j < ds.length →
    ∃ fq', Rfs K H (ds.set j x) (xs.set j v) fq' ∧ fq'.Nodup ∧ ∀ a ∈ fq', a ∈ fq ∨ a ∈ fp
  | [], xs, fq, j, h, _, _, hj => by simp at hj
  | d :: ds, xs, fq, j, h, hn, hd, hj => by
    obtain ⟨y, ys, f1, f2, rfl, rfl, h1, h2⟩ := h
    obtain ⟨n1, n2, n3⟩ := List.nodup_append.mp hn
    cases j with
    | zero =>
      refine ⟨fp ++ f2, ⟨v, ys, fp, f2, rfl, rfl, r, h2⟩, List.nodup_append.mpr ⟨nd, n2, fun a ha b hb z => ?_⟩, fun a ha => ?_⟩
      · subst z; exact hd a ha (List.mem_append_right _ hb)
      · exact (List.mem_append.mp ha).elim .inr fun z => .inl (List.mem_append_right _ z)
    | succ j =>
      obtain ⟨fq', r', nd', k'⟩ := Rfs.set r nd (j := j) h2 n2 (fun a ha z => hd a ha (List.mem_append_right _ z)) (by simpa using hj)
      refine ⟨f1 ++ fq', ⟨y, ys.set j v, f1, fq', rfl, rfl, h1, r'⟩, List.nodup_append.mpr ⟨n1, nd', fun a ha b hb z => ?_⟩, fun a ha => ?_⟩
      · subst z
        rcases k' a hb with w | w
        · exact n3 a ha a w rfl
        · exact hd a w (List.mem_append_left _ ha)
      · rcases List.mem_append.mp ha with w | w
        · exact .inl (List.mem_append_left _ w)
        · exact (k' a w).imp (List.mem_append_right _) id
def vSetItem (i : Nat) (de dx : DE) (E : DEnds) (δ : Dl) : Prop := de δ fun x => slotL δ i fun ds => dx δ fun k => asI [k] fun n => match ixN ds.length n with | some j => E.nx (δ.set i (some (.lst (ds.set j x)))) | none => False
theorem ixN_lt {n : Nat} {i : Int} {j : Nat} (h : ixN n i = some j) : j < n := by
  unfold ixN at h
  split at h
  · split at h
    · cases h; omega
    · cases h
  · split at h
    · cases h; omega
    · cases h
theorem setItem_ok (o : Ok K B0 Γ fps δ σ H) {i j : Nat} (hi : i ∈ Γ) {ds : List D} {x : D} {v : V} {fp : List Addr} (e : δ[i]? = some (some (.lst ds))) (r : Rf K H x v fp) (nd : fp.Nodup) (mu : ∀ a ∈ fp, Mu H a) (src : ∀ a ∈ fp, B0 a = none ∧ ∀ j, a ∉ fps j) (hj : j < ds.length) :
    ∃ a xs, σ[i]? = some (some (.ref a)) ∧ H a = some (.lst xs) ∧ xs.length = ds.length ∧ ∃ fps', Ok K B0 Γ fps' (δ.set i (some (.lst (ds.set j x)))) σ (upd H a (.lst (xs.set j v))) := by
  obtain ⟨a, xs, fq, h1, h2, h3, h4⟩ := o.ownL e
  have hown := o.own i hi
  rw [h3] at hown
  obtain ⟨nd0, hmu⟩ := hown
  obtain ⟨na, ndq⟩ := List.nodup_cons.mp nd0
  have nt := (hmu a List.mem_cons_self).2.notup
  have hfq : ∀ b ∈ fp, b ∉ fps i := fun b hb => (src b hb).2 i
  rw [h3] at hfq
  obtain ⟨fq', r', nd', k'⟩ := Rfs.set r nd h4 ndq (fun b hb z => hfq b hb (List.mem_cons_of_mem _ z)) hj
  have naq : a ∉ fq' := fun z => (k' a z).elim na fun w => hfq a w List.mem_cons_self
  refine ⟨a, xs, h1, h2, h4.length, _, o.write hi (fp' := a :: fq') h1 ⟨a, xs.set j v, fq', rfl, upd_same, rfl, r'.upd naq nt⟩ (List.nodup_cons.mpr ⟨naq, nd'⟩) (fun b hb => Mu.upd ?_ (.inl ⟨_, rfl⟩)) (fun b hb => ?_) ?_⟩
  · rcases List.mem_cons.mp hb with w | w
    · subst w; exact .inl ⟨xs, h2⟩
    · rcases k' b w with w | w
      · exact (hmu b (List.mem_cons_of_mem _ w)).2
      · exact mu b w
  · rw [h3]
    rcases List.mem_cons.mp hb with w | w
    · subst w; exact .inl List.mem_cons_self
    · rcases k' b w with w | w
      · exact .inl (List.mem_cons_of_mem _ w)
      · exact .inr (src b w)
  · rw [h3]; exact updKeep List.mem_cons_self
theorem asI1_out {x : D} {P : Int → Prop} (h : asI [x] P) : ∃ j, x = .int j ∧ P j := by
  obtain ⟨j, e, h⟩ := asI_out h; cases e; exact ⟨j, rfl, h⟩
theorem st_setItem (i : Nat) (he : EM K Γ [] te de) (hx : ER K Γ tx dx) (hi : i ∈ Γ := by decide) : ST K ρ Γr Γl (tAsg te (gSub (tVar i) tx rSetL)) Γ Γ (vSetItem i de dx) := by
  intro B0 Dn E fps δ σ H k o h
  refine he.run o (he.mono _ _ _ (fun x z v H1 fp s r n => ?_) h)
  obtain ⟨ds, e, z⟩ := slotL_out z
  obtain ⟨a0, _, _, h1, _⟩ := (o.same s).ownL e
  refine ⟨.ref a0, h1, hx.run (o.same s) (hx.mono _ _ _ (fun y z w H2 s2 r2 => ?_) z)⟩
  obtain ⟨m, em, z9⟩ := asI1_out z
  subst em
  cases ej : ixN ds.length m with
  | none => rw [ej] at z9; exact z9.elim
  | some j =>
    rw [ej] at z9
    obtain ⟨a, xs, e1, e2, e3, fps', o'⟩ := setItem_ok ((o.same s).same s2) hi e (r.same s2) n.nd (fun a ha => (n.mu a ha).same s2) (fun a ha => ⟨o.b0.free (n.fresh a ha), fun j z => o.dom z (n.fresh a ha)⟩) (ixN_lt ej)
    rw [h1] at e1; cases e1
    exact ⟨a0, xs, m, j, rfl, r2.int, e2, by rw [e3]; exact ej, k.nx o' z9⟩
def asLst (o : Option D) (P : List D → Prop) : Prop := match o with | some (.lst es) => P es | _ => False
theorem asLst_out {o : Option D} {P : List D → Prop} (h : asLst o P) : ∃ es, o = some (.lst es) ∧ P es := by
  unfold asLst at h; split at h
  · exact ⟨_, rfl, h⟩
  · exact h.elim
def vClear (i : Nat) (E : DEnds) (δ : Dl) : Prop := slotL δ i fun _ => E.nx (δ.set i (some (.lst [])))
def cutD (ds : List D) (lo hi : Option Int) : List D := (ds.drop (HT.sIx ds.length 0 lo)).take (HT.sIx ds.length ds.length hi - HT.sIx ds.length 0 lo)
abbrev DO := Dl → (Option Int → Prop) → Prop
structure OR (K : PySem.W.Frag) (Γ : List Nat) (t : TO) (d : DO) : Prop where
  mono : ∀ δ (P P' : Option Int → Prop), (∀ x, P x → P' x) → d δ P → d δ P'
  run : ∀ {B0 fps δ σ H Q}, Ok K B0 Γ fps δ σ H → d δ (fun x => ∀ H', Same H H' → Q x H') → t σ H Q
def vNoPart (_u0 : Dl) (P : Option Int → Prop) : Prop := P none
def vPart (d : DE) (δ : Dl) (P : Option Int → Prop) : Prop := d δ fun x => asI [x] fun i => P (some i)
theorem or_none : OR K Γ tNoPart vNoPart := ⟨fun _ _ _ k h => k _ h, fun {_ _ _ _ H _} o q => q H (Same.refl H)⟩
theorem or_some (h : ER K Γ te de) : OR K Γ (tPart te) (vPart de) := ⟨fun δ P P' k q => h.mono _ _ _ (fun x z => by obtain ⟨j, rfl, z⟩ := asI1_out z; exact k _ z) q,
  fun o q => h.run o (h.mono _ _ _ (fun x z v H' s r => by obtain ⟨j, rfl, z⟩ := asI1_out z; exact ⟨j, r.int, z H' s⟩) q)⟩
def vSl (de : DE) (dl dh : DO) (δ : Dl) (P : DK) : Prop := de δ fun x => dl δ fun l => dh δ fun u => asL x fun ds => ds.all D.scal = true ∧ P (.lst (cutD ds l u))
theorem cut_map {ds : List D} {lo hi : Option Int} : cutV (ds.map D.toV) lo hi = (cutD ds lo hi).map D.toV := by
  unfold cutV cutD
  rw [List.length_map, List.map_take, List.map_drop]
theorem cut_scal {ds : List D} {lo hi : Option Int} (h : ds.all D.scal = true) : (cutD ds lo hi).all D.scal = true := by
  unfold cutD
  rw [List.all_eq_true] at h ⊢
  exact fun x hx => h x (List.mem_of_mem_drop (List.mem_of_mem_take hx))
theorem em_sl {tl th : TO} {dl dh : DO} (he : ER K Γ te de) (hl : OR K Γ tl dl) (hh : OR K Γ th dh) : EM K Γ [] (tSl (rSlL K) te tl th) (vSl de dl dh) :=
  ⟨fun δ P P' k h => he.mono _ _ _ (fun x z => hl.mono _ _ _ (fun l z => hh.mono _ _ _ (fun u z => by obtain ⟨ds, e, z⟩ := asL_out z; exact asL_in e ⟨z.1, k _ z.2⟩) z) z) h,
   fun {B0 fps δ σ H Q} o h => he.run o (he.mono _ _ _ (fun x z v H1 s1 r1 => hl.run (o.same s1) (hl.mono _ _ _ (fun l z H2 s2 => hh.run ((o.same s1).same s2) (hh.mono _ _ _ (fun u z H3 s3 => by
    obtain ⟨ds, e, z⟩ := asL_out z
    obtain ⟨a, xs, fq, rfl, hs, hr⟩ := (r1.same (s2.trans s3)).seq e
    obtain ⟨rfl, rfl⟩ := hr.scals z.1
    refine ⟨a, _, rfl, hs, fun p hp => ?_⟩
    rw [cut_map]
    have s4 : Same H3 (upd H3 p (.lst ((cutD ds l u).map D.toV))) := Same.new' hp
    refine z.2 _ _ [p] (((s1.trans s2).trans s3).trans s4) ⟨p, _, [], rfl, upd_same, rfl, Rfs.ofScals (cut_scal z.1)⟩ ⟨by simp, fun b hb => ?_, fun b hb => ?_⟩
    · cases List.mem_singleton.mp hb; exact .inl ⟨_, upd_same⟩
    · cases List.mem_singleton.mp hb; exact .inl (((s1.trans s2).trans s3).free hp)) z)) z)) h)⟩
def vCat (x : D) (y : D) (P : DK) : Prop := match x, y with | .lst a, .lst b => (a.all D.scal = true ∧ b.all D.scal = true ∧ a.length + b.length ≤ 1000) ∧ P (.lst (a ++ b)) | _, _ => False
theorem new1 {H : Hp} {p : Addr} {ds : List D} (h : ds.all D.scal = true) (hp : H p = none) : Same H (upd H p (.lst (ds.map D.toV))) ∧ Rf K (upd H p (.lst (ds.map D.toV))) (.lst ds) (.ref p) [p] ∧ Nw H (upd H p (.lst (ds.map D.toV))) nf [] [p] :=
  ⟨Same.new' hp, ⟨p, _, [], rfl, upd_same, rfl, Rfs.ofScals h⟩, ⟨by simp, fun b hb => by cases List.mem_singleton.mp hb; exact .inl ⟨_, upd_same⟩, fun b hb => by cases List.mem_singleton.mp hb; exact .inl hp⟩⟩
theorem o_cat : OpV K rCat vCat := ⟨fun x y P P' k h => by unfold vCat at h ⊢; revert h; split <;> first | exact fun h => ⟨h.1, k _ h.2⟩ | exact id, fun {H x y v w Q} r1 r2 h => by
  unfold vCat at h
  split at h
  · rename_i a b
    obtain ⟨⟨s1, s2, hl⟩, h⟩ := h
    obtain ⟨f1, l1, xs, q1, rfl, e1, _, hr1⟩ := r1
    obtain ⟨f2, l2, ys, q2, rfl, e2, _, hr2⟩ := r2
    obtain ⟨rfl, _⟩ := hr1.scals s1
    obtain ⟨rfl, _⟩ := hr2.scals s2
    refine ⟨l1, l2, _, _, rfl, rfl, e1, e2, by rw [List.length_map, List.length_map]; exact le1000 hl, fun p hp => ?_⟩
    rw [← List.map_append]
    obtain ⟨n1, n2, n3⟩ := new1 (K := K) (ds := a ++ b) (by rw [List.all_append, s1, s2]; rfl) hp
    exact h _ _ _ n1 n2 n3
  · exact h.elim⟩
def repD (xs : List D) (k : Nat) : List D := (List.replicate k xs).flatten
def vRep (x : D) (y : D) (P : DK) : Prop := match x, y with | .lst a, .int k => (a.all D.scal = true ∧ (-(2 ^ 63) ≤ k ∧ k < 2 ^ 63) ∧ a.length * k.toNat ≤ 1000) ∧ P (.lst (repD a k.toNat)) | _, _ => False
theorem flat_scal {d : D} (h : d.scal = true) : flatV d.toV = true := by cases d <;> first | rfl | cases h
def vLen (xs : List D) (P : DK) : Prop := match xs with | [x] => (match x with | .tup ds => P (.int ds.length) | x => asL x fun ds => P (.int ds.length)) | _ => False
theorem Rps.one {H : Hp} {x : D} {vs : List V} (h : Rps K H [x] vs) : ∃ v, vs = [v] ∧ Rp K H x v := by
  obtain ⟨fp, y, r, f1, f2, rfl, _, h1, ⟨rfl, _⟩⟩ := h
  exact ⟨y, rfl, f1, h1⟩
theorem c_len : CallV K (fun xs H Q => ∃ p ys, xs = [.ref p] ∧ (SqL K H p ys ∨ SqT K H p ys) ∧ Q (.int ys.length) H) vLen := ⟨fun xs P P' k h => by
    unfold vLen at h ⊢
    revert h
    split
    · split
      · exact fun h => k _ h
      · exact fun h => by obtain ⟨ds, e, z⟩ := asL_out h; exact asL_in e (k _ z)
    · exact id,
  fun {H xs vs Q} r h => by
    unfold vLen at h
    split at h
    · obtain ⟨v, rfl, r0⟩ := r.one
      split at h
      · obtain ⟨a, ys, fq, rfl, hs, hr⟩ := r0.tup
        refine ⟨a, ys, rfl, .inr hs, ?_⟩
        rw [hr.length]
        exact h _ H [] (Same.refl H) ⟨rfl, rfl⟩ Nw.nil
      · obtain ⟨ds, e, h⟩ := asL_out h
        obtain ⟨a, ys, fq, rfl, hs, hr⟩ := r0.seq e
        refine ⟨a, ys, rfl, .inl hs, ?_⟩
        rw [hr.length]
        exact h _ H [] (Same.refl H) ⟨rfl, rfl⟩ Nw.nil
    · exact h.elim⟩
theorem vLen_lst {ds : List D} {P : DK} : vLen [.lst ds] P ↔ P (.int ds.length) := Iff.rfl
theorem vLen_scr {ds : List Int} {P : DK} : vLen [.scr ds] P ↔ P (.int ds.length) := by
  show P (.int ((ds.map D.int).length : Nat)) ↔ _
  rw [List.length_map]
def toInts : List D → Option (List Int)
  | [] => some []
  | .int i :: ds => (toInts ds).map (i :: ·)
  | _ => none
theorem toInts_map : ∀ {ns : List Int}, toInts (ns.map D.int) = some ns
  | [] => rfl
  | n :: ns => by rw [List.map_cons, toInts, toInts_map]; rfl
theorem toInts_eq : ∀ {ds : List D} {ns : List Int}, toInts ds = some ns → ds = ns.map D.int
  | [], ns, h => by cases h; rfl
  | .int i :: ds, ns, h => by
    rw [toInts] at h
    cases e : toInts ds with
    | none => rw [e] at h; cases h
    | some ms => rw [e] at h; cases h; rw [toInts_eq e]; rfl
  | .non :: _, _, h => by cases h
  | .bl _ :: _, _, h => by cases h
  | .str _ :: _, _, h => by cases h
  | .lst _ :: _, _, h => by cases h
  | .tup _ :: _, _, h => by cases h
  | .dic _ :: _, _, h => by cases h
  | .dit _ :: _, _, h => by cases h
  | .scr _ :: _, _, h => by cases h
theorem Rfs.intsV {H : Hp} {ns : List Int} {vs : List V} {fp : List Addr} (h : Rfs K H (ns.map D.int) vs fp) : vs = ns.map V.int := by
  have hs : (ns.map D.int).all D.scal = true := by rw [List.all_map, List.all_eq_true]; exact fun _ _ => rfl
  rw [(h.scals hs).1, List.map_map]
  rfl
def asNs (x : D) (P : List Int → Prop) : Prop := asL x fun ds => match toInts ds with | some ns => P ns | none => False
theorem asNs_out {x : D} {P : List Int → Prop} (h : asNs x P) : ∃ ns, x.items = some (ns.map D.int) ∧ P ns := by
  obtain ⟨ds, e, h⟩ := asL_out h
  cases q : toInts ds with
  | none => rw [q] at h; exact h.elim
  | some ns => rw [q] at h; rw [toInts_eq q] at e; exact ⟨ns, e, h⟩
theorem asNs_in {x : D} {ns : List Int} {P : List Int → Prop} (e : x.items = some (ns.map D.int)) (h : P ns) : asNs x P := by
  refine asL_in e ?_
  rw [toInts_map]; exact h
def vSum (xs : List D) (P : DK) : Prop := match xs with | [x] => asNs x fun ns => P (.int ns.sum) | _ => False
theorem c_sum : CallV K (fun xs H Q => ∃ (a : Addr) (ns : List Int), xs = [.ref a] ∧ SqL K H a (ns.map V.int) ∧ Q (.int ns.sum) H) vSum := ⟨fun xs P P' k h => by
    unfold vSum at h ⊢
    revert h
    split
    · exact fun h => by obtain ⟨ns, e, z⟩ := asNs_out h; exact asNs_in e (k _ z)
    · exact id,
  fun {H xs vs Q} r h => by
    unfold vSum at h
    split at h
    · obtain ⟨v, rfl, r0⟩ := r.one
      obtain ⟨ns, e, h⟩ := asNs_out h
      obtain ⟨a, ys, fq, rfl, hs, hr⟩ := r0.seq e
      rw [hr.intsV] at hs
      exact ⟨a, ns, rfl, hs, h _ H [] (Same.refl H) ⟨rfl, rfl⟩ Nw.nil⟩
    · exact h.elim⟩
def vList (xs : List D) (P : DK) : Prop := match xs with | [x] => asL x fun ds => ds.all D.scal = true ∧ P (.lst ds) | _ => False
theorem c_list : CallV K (fun xs H Q => ∃ p ys, xs = [.ref p] ∧ (SqL K H p ys ∨ SqT K H p ys) ∧ ∀ l, H l = none → Q (.ref l) (upd H l (.lst ys))) vList := ⟨fun xs P P' k h => by
    unfold vList at h ⊢
    revert h
    split
    · exact fun h => by obtain ⟨ds, e, z⟩ := asL_out h; exact asL_in e ⟨z.1, k _ z.2⟩
    · exact id,
  fun {H xs vs Q} r h => by
    unfold vList at h
    split at h
    · obtain ⟨v, rfl, r0⟩ := r.one
      obtain ⟨ds, e, hsc, h⟩ := asL_out h
      obtain ⟨a, ys, fq, rfl, hs, hr⟩ := r0.seq e
      obtain ⟨rfl, _⟩ := hr.scals hsc
      refine ⟨a, _, rfl, .inl hs, fun l hl => ?_⟩
      obtain ⟨n1, n2, n3⟩ := new1 (K := K) hsc hl
      exact h _ _ _ n1 n2 n3
    · exact h.elim⟩
end
end L3
set_option Elab.async false
set_option linter.all false
set_option maxRecDepth 100000
set_option maxHeartbeats 4000000
namespace L3
open PySem L2
open PyProof.Rows (Ordered)
section
variable {K : PySem.W.Frag} {Γ M : List Nat} {te ta tb : TE} {de da db : DE}
theorem em_comp0 {wi : TI} {di : DI} {g : TG} {dg : D → Dl → (Dl → Prop) → Prop} {k : Nat} {idx : List Nat} (hi : IT K [] wi di) (hg : GT K [] g dg) (he : EM K [] [] te de) : EM K Γ [] (tComp0 wi g te k idx) (vComp di dg vYes de k idx) := by
  rw [tComp0_eq]; exact em_comp hi hg tr_yes he
def D.tyn : D → Option String
  | .non => some "NoneType" | .bl _ => some "bool" | .int _ => some "int" | .str _ => some "str" | .lst _ => some "list" | .tup _ => some "tuple" | .dic _ => some "dict" | .dit _ => some "dict" | .scr _ => none | .pin _ _ => none | .ins _ _ _ => none
theorem Rp.ty {H : Hp} {d : D} {v : V} {n : String} (h : Rp K H d v) (e : d.tyn = some n) : TyOf K H v (.type n) := by
  obtain ⟨fp, h⟩ := h
  cases d with
  | non => cases e; obtain ⟨rfl, _⟩ := h; exact .non
  | bl b => cases e; obtain ⟨rfl, _⟩ := h; exact .bl _
  | int b => cases e; obtain ⟨rfl, _⟩ := h; exact .int _
  | str b => cases e; obtain ⟨rfl, _⟩ := h; exact .str _
  | lst ds => cases e; obtain ⟨a, xs, fq, rfl, h2, _⟩ := h; exact .lst h2
  | tup ds => cases e; obtain ⟨a, xs, rfl, h2, _⟩ := h; exact .tup h2
  | dic ds => cases e; obtain ⟨a, rfl, h2, _⟩ := h; exact .dK h2
  | dit ds => cases e; obtain ⟨a, rfl, h2, _⟩ := h; exact .dT h2
  | scr ns => cases e
  | pin a d => cases e
  | ins C ns ds => cases e
def isB (m n : String) : Bool := m == n || (m == "bool" && n == "int")
def KitOk (n : String) : Prop := ∀ (K : PySem.W.Frag) (d : D) (m : String), d.tyn = some m → PySem.W.kitOne K (.type m) (.type n) = some (isB m n)
theorem kit_int : KitOk "int" := fun K d m e => by cases d <;> cases e <;> first | exact kit_same | with_unfolding_all rfl
theorem kit_bool : KitOk "bool" := fun K d m e => by cases d <;> cases e <;> first | exact kit_same | with_unfolding_all rfl
theorem kit_list : KitOk "list" := fun K d m e => by cases d <;> cases e <;> first | exact kit_same | with_unfolding_all rfl
theorem kit_tuple : KitOk "tuple" := fun K d m e => by cases d <;> cases e <;> first | exact kit_same | with_unfolding_all rfl
def vIs (n : String) (da : DE) (δ : Dl) (P : DK) : Prop := da δ fun x => match x.tyn with | some m => P (.bl (isB m n)) | none => False
theorem em_isinst {n : String} (hk : KitOk n) (ha : ER K Γ ta da) : EM K Γ [] (tCB (fun xs H Q => ∃ x n t b, xs = [x, .ty n] ∧ TyOf K H x t ∧ PySem.W.kitOne K t (.type n) = some b ∧ Q (.bl b) H) (tCons ta (tCons (tC (.ty n)) tNil))) (vIs n da) :=
  ⟨fun δ P P' k h => ha.mono _ _ _ (fun x z => by
      revert z; split
      · exact fun z => k _ z
      · exact id) h,
   fun {B0 fps δ σ H Q} o h => ha.run o (ha.mono _ _ _ (fun x z v H1 s1 r1 => by
      split at z
      · rename_i m e
        exact ⟨v, n, _, _, rfl, r1.ty e, hk K x m e, z _ H1 [] s1 ⟨rfl, rfl⟩ Nw.nil⟩
      · exact z.elim) h)⟩
mutual
def D.old : D → Option L2.D
  | .non => some .non | .bl b => some (.bl b) | .int i => some (.int i) | .str x => some (.str x)
  | .lst ds => (D.olds ds).map L2.D.lst | .tup ds => (D.olds ds).map L2.D.tup
  | .dic _ => none | .dit _ => none | .scr _ => none | .pin _ _ => none | .ins _ _ _ => none
def D.olds : List D → Option (List L2.D)
  | [] => some []
  | d :: ds => match D.old d, D.olds ds with | some x, some xs => some (x :: xs) | _, _ => none
end
mutual
theorem Rf.old {H : Hp} : ∀ {d : D} {d' : L2.D} {v : V} {fp : List Addr}, Rf K H d v fp → d.old = some d' → L2.Rf H d' v fp
  | .non, d', v, fp, h, e => by rw [D.old] at e; cases e; rw [L2.Rf]; exact h
  | .bl _, d', v, fp, h, e => by rw [D.old] at e; cases e; rw [L2.Rf]; exact h
  | .int _, d', v, fp, h, e => by rw [D.old] at e; cases e; rw [L2.Rf]; exact h
  | .str _, d', v, fp, h, e => by rw [D.old] at e; cases e; rw [L2.Rf]; exact h
  | .lst ds, d', v, fp, h, e => by
    rw [D.old] at e
    cases q : D.olds ds with
    | none => rw [q] at e; cases e
    | some es =>
      rw [q] at e; cases e
      obtain ⟨a, xs, fq, e1, e2, e3, h⟩ := h
      rw [L2.Rf]
      exact ⟨a, xs, fq, e1, e2, e3, Rfs.old h q⟩
  | .tup ds, d', v, fp, h, e => by
    rw [D.old] at e
    cases q : D.olds ds with
    | none => rw [q] at e; cases e
    | some es =>
      rw [q] at e; cases e
      obtain ⟨a, xs, e1, e2, h⟩ := h
      rw [L2.Rf]
      exact ⟨a, xs, e1, e2, Rfs.old h q⟩
  | .dic _, d', v, fp, h, e => by rw [D.old] at e; cases e
  | .dit _, d', v, fp, h, e => by rw [D.old] at e; cases e
  | .scr _, d', v, fp, h, e => by rw [D.old] at e; cases e
  | .pin _ _, d', v, fp, h, e => by rw [D.old] at e; cases e
  | .ins _ _ _, d', v, fp, h, e => by rw [D.old] at e; cases e
theorem Rfs.old {H : Hp} : ∀ {ds : List D} {ds' : List L2.D} {vs : List V} {fp : List Addr}, Rfs K H ds vs fp → D.olds ds = some ds' → L2.Rfs H ds' vs fp
  | [], ds', vs, fp, h, e => by rw [D.olds] at e; cases e; rw [L2.Rfs]; exact h
  | d :: ds, ds', vs, fp, h, e => by
    rw [D.olds] at e
    obtain ⟨x, r, f1, f2, e1, e2, h1, h2⟩ := h
    cases q1 : d.old with
    | none => rw [q1] at e; simp at e
    | some x' =>
      cases q2 : D.olds ds with
      | none => rw [q1, q2] at e; simp at e
      | some xs' =>
        rw [q1, q2] at e
        cases e
        rw [L2.Rfs]
        exact ⟨x, r, f1, f2, e1, e2, Rf.old h1 q1, Rfs.old h2 q2⟩
end
abbrev dI (xs : List Int) : D := .lst (xs.map D.int)
abbrev dT (t : List (List Int)) : D := .lst (t.map dI)
def vEqL (neg : Bool) (x : D) (y : D) (P : DK) : Prop := ∃ a b, x.old = some (.lst a) ∧ y.old = some (.lst b) ∧ L2.D.plains a = true ∧ L2.D.plains b = true ∧ L2.D.depths a ≤ 60 ∧ P (.bl (if neg then !L2.D.eqbs a b else L2.D.eqbs a b))
theorem vEqL_run {neg : Bool} : OpV K (rEqD neg) (vEqL neg) := ⟨fun x y P P' k h => by
    obtain ⟨a, b, h1, h2, h3, h4, h5, h⟩ := h
    exact ⟨a, b, h1, h2, h3, h4, h5, k _ h⟩,
  fun {H x y v w Q} ⟨f1, r1⟩ ⟨f2, r2⟩ h => by
    obtain ⟨a, b, h1, h2, h3, h4, h5, h⟩ := h
    exact ⟨a, b, ⟨f1, r1.old h1⟩, ⟨f2, r2.old h2⟩, h3, h4, h5, h _ H [] (Same.refl H) ⟨rfl, rfl⟩ Nw.nil⟩⟩
theorem o_eqL : OpV K (rEqD false) (vEqL false) := vEqL_run
theorem o_neL : OpV K (rEqD true) (vEqL true) := vEqL_run
theorem olds_ints : ∀ {ns : List Int}, D.olds (ns.map D.int) = some (ns.map L2.D.int)
  | [] => by rw [List.map_nil, D.olds]; rfl
  | n :: ns => by rw [List.map_cons, D.olds, olds_ints, D.old]; rfl
theorem old_dI {ns : List Int} : (dI ns).old = some (L2.dI ns) := by rw [D.old, olds_ints]; rfl
theorem olds_rows : ∀ {t : List (List Int)}, D.olds (t.map dI) = some (t.map L2.dI)
  | [] => by rw [List.map_nil, D.olds]; rfl
  | n :: ns => by rw [List.map_cons, D.olds, olds_rows, old_dI]; rfl
theorem old_dT {t : List (List Int)} : (dT t).old = some (L2.dT t) := by rw [D.old, olds_rows]; rfl
theorem vEqL_ints {neg : Bool} {xs ys : List Int} {P : DK} (h : P (.bl (if neg then !decide (xs = ys) else decide (xs = ys)))) : vEqL neg (dI xs) (dI ys) P :=
  ⟨_, _, old_dI, old_dI, D.plains_ints _, D.plains_ints _, by rw [D.depths_ints]; omega, by rw [D.eqbs_ints]; exact h⟩
theorem vEqL_rows {neg : Bool} {xs ys : List (List Int)} {P : DK} (h : P (.bl (if neg then !decide (xs = ys) else decide (xs = ys)))) : vEqL neg (dT xs) (dT ys) P :=
  ⟨_, _, old_dT, old_dT, D.plains_rows _, D.plains_rows _, Nat.le_trans (D.depths_rows _) (by omega), by rw [D.eqbs_rows]; exact h⟩
def vSorted (b : Bool) (xs : List D) (P : DK) : Prop := match xs with | [x] => asNs x fun ns => ns.length < 64 ∧ ∀ ms : List Int, ms.Perm ns → Ordered b ms → P (dI ms) | _ => False
theorem Rf.ofInts {H : Hp} {p : Addr} {ms : List Int} (e : H p = some (.lst (ms.map V.int))) : Rf K H (dI ms) (.ref p) [p] := ⟨p, _, [], rfl, e, rfl, Rfs.ofInts⟩
theorem Nw.one {H H' : Hp} {p : Addr} {xs : List V} (h : H p = none) (e : H' p = some (.lst xs)) : Nw H H' nf [] [p] := ⟨by simp, fun b hb => by cases List.mem_singleton.mp hb; exact .inl ⟨_, e⟩, fun b hb => by cases List.mem_singleton.mp hb; exact .inl h⟩
theorem em_sortedRev {u : TA} {dr : DA} {b : Bool} (hr : AR K Γ u dr) : EM K Γ [] (tCBK (fun xs zs H Q => ∃ (a : Addr) (ns : List Int) (b : Bool), xs = [.ref a] ∧ zs = [.bl b] ∧ SqL K H a (ns.map V.int) ∧ ns.length < 64 ∧
    ∀ (l : Addr) (ms : List Int), H l = none → ms.Perm ns → Ordered b ms → Q (.ref l) (upd H l (.lst (ms.map V.int)))) u (tCons (tC (.bl b)) tNil)) (vCall (vSorted b) dr) := by
  have mono : DMono (vSorted b) := fun xs P P' k h => by
    unfold vSorted at h ⊢
    revert h
    split
    · exact fun h => by obtain ⟨ns, e, z⟩ := asNs_out h; exact asNs_in e ⟨z.1, fun ms a b => k _ (z.2 ms a b)⟩
    · exact id
  refine ⟨fun δ P P' k h => hr.mono _ _ _ (fun y z => mono _ _ _ k z) h, fun {B0 fps δ σ H Q} o q => hr.run o (hr.mono _ _ _ (fun xs z vs H1 s1 r1 => ?_) q)⟩
  unfold vSorted at z
  split at z
  · obtain ⟨v, rfl, r0⟩ := r1.one
    obtain ⟨ns, e, z⟩ := asNs_out z
    obtain ⟨a, ys, fq, rfl, hs, hr⟩ := r0.seq e
    rw [hr.intsV] at hs
    refine ⟨a, ns, b, rfl, rfl, hs, z.1, fun l ms hl hp ho => ?_⟩
    have s2 : Same H1 (upd H1 l (.lst (ms.map V.int))) := Same.new' hl
    exact z.2 ms hp ho _ _ [l] (s1.trans s2) (Rf.ofInts upd_same) ((Nw.one hl upd_same).any.later s1)
  · exact z.elim
def vRev (da : DE) (δ : Dl) (P : DK) : Prop := da δ fun x => asL x fun ds => ds.all D.scal = true ∧ P (.lst ds.reverse)
theorem em_listRev (ha : ER K Γ ta da) : EM K Γ [] (tListRev K ta) (vRev da) :=
  ⟨fun δ P P' k h => ha.mono _ _ _ (fun x z => by obtain ⟨ds, e, z⟩ := asL_out z; exact asL_in e ⟨z.1, k _ z.2⟩) h,
   fun {B0 fps δ σ H Q} o h => ha.run o (ha.mono _ _ _ (fun x z v H1 s1 r1 => by
    obtain ⟨ds, e, z⟩ := asL_out z
    obtain ⟨a, xs, fq, rfl, hs, hr⟩ := r1.seq e
    obtain ⟨rfl, _⟩ := hr.scals z.1
    refine ⟨a, _, rfl, hs, fun l hl => ?_⟩
    rw [← List.map_reverse]
    obtain ⟨n1, n2, n3⟩ := new1 (K := K) (ds := ds.reverse) (by rw [List.all_reverse]; exact z.1) hl
    exact z.2 _ _ _ (s1.trans n1) n2 (n3.any.later s1)) h)⟩
def vAbs (xs : List D) (P : DK) : Prop := asI xs fun i => P (.int (if i < 0 then -i else i))
theorem c_abs : CallV K (fun xs H Q => ∃ i, xs = [.int i] ∧ Q (.int (if i < 0 then -i else i)) H) vAbs := ⟨fun xs P P' k h => by obtain ⟨i, rfl, z⟩ := asI_out h; exact k _ z,
  fun {H xs vs Q} r h => by obtain ⟨i, rfl, z⟩ := asI_out h; exact ⟨i, r.ints1, z _ H [] (Same.refl H) ⟨rfl, rfl⟩ Nw.nil⟩⟩
def vMax2 (xs : List D) (P : DK) : Prop := asII xs fun i j => P (.int (if j > i then j else i))
def vMin2 (xs : List D) (P : DK) : Prop := asII xs fun i j => P (.int (if j < i then j else i))
theorem c_min2 : CallV K (fun xs H Q => ∃ i j, xs = [.int i, .int j] ∧ Q (.int (if j < i then j else i)) H) vMin2 := ⟨fun xs P P' k h => by obtain ⟨i, j, rfl, z⟩ := asII_out h; exact k _ z,
  fun {H xs vs Q} r h => by obtain ⟨i, j, rfl, z⟩ := asII_out h; exact ⟨i, j, r.ints2, z _ H [] (Same.refl H) ⟨rfl, rfl⟩ Nw.nil⟩⟩
def D.isNon : D → Bool | .non => true | _ => false
theorem Rp.non_iff {H : Hp} {d : D} {v : V} (h : Rp K H d v) : decide (v = .non) = d.isNon := by
  obtain ⟨fp, h⟩ := h
  cases d with
  | non => obtain ⟨rfl, _⟩ := h; rfl
  | bl b => obtain ⟨rfl, _⟩ := h; rfl
  | int b => obtain ⟨rfl, _⟩ := h; rfl
  | str b => obtain ⟨rfl, _⟩ := h; rfl
  | lst ds => obtain ⟨a, xs, fq, rfl, _⟩ := h; rfl
  | tup ds => obtain ⟨a, xs, rfl, _⟩ := h; rfl
  | dic ds => obtain ⟨a, rfl, _⟩ := h; rfl
  | dit ds => obtain ⟨a, rfl, _⟩ := h; rfl
  | scr ns => obtain ⟨a, rfl, _⟩ := h; rfl
  | pin a d => obtain ⟨rfl, _⟩ := h; rfl
  | ins C ns ds => obtain ⟨a, dx, xs, fq, rfl, _⟩ := h; rfl
def vIsN (neg : Bool) (x : D) (y : D) (P : DK) : Prop := match y with | .non => P (.bl (if neg then !x.isNon else x.isNon)) | _ => False
theorem vIsN_mono {neg : Bool} : ∀ x y (P P' : DK), (∀ z, P z → P' z) → vIsN neg x y P → vIsN neg x y P' := fun x y P P' k h => by
  unfold vIsN at h ⊢; revert h; split <;> first | exact k _ | exact id
theorem o_notN : OpV K (fun x y H Q => y = .non ∧ Q (.bl (!decide (x = .non))) H) (vIsN true) := ⟨vIsN_mono, fun {H x y v w Q} r1 r2 h => by
  unfold vIsN at h
  split at h
  · refine ⟨r2.choose_spec.1, ?_⟩
    rw [r1.non_iff]; exact h _ H [] (Same.refl H) ⟨rfl, rfl⟩ Nw.nil
  · exact h.elim⟩
def vZip (da db : DE) (δ : Dl) (P : List D → Prop) : Prop := da δ fun x => db δ fun y => asL x fun xs => asL y fun ys => xs.length = ys.length ∧ P ((xs.zip ys).map fun p => .tup [p.1, p.2])
theorem it_zip (ha : ES K Γ ta da) (hb : ES K Γ tb db) : IT K Γ (iZip K (tCons ta (tCons tb tNil))) (vZip da db) :=
  ⟨fun δ P P' k h => ha.mono _ _ _ (fun x z => hb.mono _ _ _ (fun y z => by
      obtain ⟨xs, e1, z⟩ := asL_out z; obtain ⟨ys, e2, z⟩ := asL_out z; exact asL_in e1 (asL_in e2 ⟨z.1, k _ z.2⟩)) z) h,
   fun {B0 fps δ σ H R} o h => ha.run o (ha.mono _ _ _ (fun x z v H1 f1 s1 r1 n1 => hb.run (o.same s1) (hb.mono _ _ _ (fun y z w H2 f2 s2 r2 n2 => by
    obtain ⟨xs, ex, z⟩ := asL_out z
    obtain ⟨ys, ey, z⟩ := asL_out z
    have r1' := r1.same s2
    obtain ⟨a, as, fa, rfl, hsa, hra, hina⟩ := r1'.seq ex
    obtain ⟨b, bs, fb, rfl, hsb, hrb, hinb⟩ := r2.seq ey
    refine ⟨a, b, rfl, ⟨as, hsa⟩, ⟨bs, hsb⟩, z.2 (Itz K a b) H2 (f1 ++ f2) (s1.trans s2) (fun j hj c hc => (List.mem_append.mp hc).elim (n1 j hj c) (n2 j hj c)) fun B sB ag im => ?_⟩
    have rBa : Rf K B x (.ref a) f1 := r1'.mono (fun c hc u e => by rw [ag c (List.mem_append_left _ hc)]; exact e) im
    have rBb : Rf K B y (.ref b) f2 := r2.mono (fun c hc u e => by rw [ag c (List.mem_append_right _ hc)]; exact e) im
    obtain ⟨a', as', fa', e1, hsa', hra', _⟩ := rBa.seq ex
    obtain ⟨b', bs', fb', e2, hsb', hrb', _⟩ := rBb.seq ey
    cases e1; cases e2
    have sq : ∀ {c : Addr} {zs : List V} {H3 : Hp}, SqL K B c zs → Same B H3 → SqL K H3 c zs := fun h s3 => s3.seq h
    have la := hra'.length
    have lb := hrb'.length
    have hl := z.1
    have hlen : ((xs.zip ys).map fun p => D.tup [p.1, p.2]).length = xs.length := by simp [hl]
    refine ⟨fun {i H3} s3 hi => ?_, fun {i H3 u H4 d} s3 hy hd => ?_, fun {i H3} s3 hi => ?_⟩
    · rw [hlen] at hi
      exact ⟨as', bs', as'[i]'(by omega), bs'[i]'(by omega), sq hsa' s3, sq hsb' s3, by simp [la, hi], by simp [lb, ← hl, hi]⟩
    · obtain ⟨p, u1, u2, rfl, hp, rfl, h1, h2⟩ := hy
      have q1 := h1 as' (sq hsa' s3)
      have q2 := h2 bs' (sq hsb' s3)
      obtain ⟨d1, g1, e1, t1, _⟩ := hra'.get' q1
      obtain ⟨d2, g2, e2, t2, _⟩ := hrb'.get' q2
      have ez : (xs.zip ys)[i]? = some (d1, d2) := List.getElem?_zip_eq_some.mpr ⟨e1, e2⟩
      rw [List.getElem?_map, ez] at hd
      cases hd
      have s4 : Same H3 (upd H3 p (.tup [u1, u2])) := Same.new' hp
      refine ⟨s4, g1 ++ g2, ⟨p, _, rfl, upd_same, u1, [u2], g1, g2, rfl, rfl, (t1.same s3).same s4, u2, [], g2, [], rfl, (List.append_nil _).symm, (t2.same s3).same s4, rfl, rfl⟩, fun c hc => ?_⟩
      rcases List.mem_append.mp hc with w | w
      · obtain ⟨u, hu, _⟩ := t1.dom c w; rw [hu]; intro z; cases z
      · obtain ⟨u, hu, _⟩ := t2.dom c w; rw [hu]; intro z; cases z
    · rw [hlen] at hi
      exact ⟨as', bs', sq hsa' s3, sq hsb' s3, .inl (by omega)⟩) z)) h)⟩
end
theorem spP_len {K : PySem.W.Frag} {S : DSp} {n : Nat} (hS : ∀ ds P, S ds P → ds.length = n) {vs : List V} {H : Hp} {Q : VK} {E : XK} (h : spP K S vs H Q E) : vs.length = n := by
  obtain ⟨ds, ⟨fp, r⟩, _, h⟩ := h
  rw [r.length]; exact hS _ _ h
theorem spR_len {K : PySem.W.Frag} {S : DSp} {n : Nat} (hS : ∀ ds P, S ds P → ds.length = n) {vs : List V} {H : Hp} {Q : VK} {E : XK} (h : spR K S vs H Q E) : vs.length = n := by
  obtain ⟨ds, ⟨fp, r⟩, _, h⟩ := h
  rw [r.length]; exact hS _ _ h
theorem loop_inv {dg : D → Dl → (Dl → Prop) → Prop} {db : DS} {E : DEnds} (I : Nat → Dl → Prop) {ds : List D} {δ : Dl} (h0 : I 0 δ)
    (hs : ∀ i d δ (N : Dl → Prop), ds[i]? = some d → I i δ → (∀ δ', I (i + 1) δ' → N δ') → dg d δ fun δ' => db { nx := N, ct := N, bk := E.nx, rt := E.rt } δ')
    (hd : ∀ δ, I ds.length δ → E.nx δ) : vLoop dg db E ds δ := by
  have key : ∀ (n : Nat) (i : Nat) (δ : Dl), ds.length - i = n → i ≤ ds.length → I i δ → vLoop dg db E (ds.drop i) δ := by
    intro n
    induction n with
    | zero =>
      intro i δ h1 h2 hI
      have : i = ds.length := by omega
      subst this
      rw [List.drop_length]
      exact hd δ hI
    | succ n ih =>
      intro i δ h1 h2 hI
      have hlt : i < ds.length := by omega
      rw [List.drop_eq_getElem_cons hlt]
      exact hs i _ δ _ (List.getElem?_eq_getElem hlt) hI fun δ' h' => ih (i + 1) δ' (by omega) hlt h'
  have := key ds.length 0 δ (by omega) (Nat.zero_le _) h0
  rwa [List.drop_zero] at this
end L3
namespace L3
open PySem L2
end L3
set_option Elab.async false
set_option linter.all false
set_option maxRecDepth 100000
set_option maxHeartbeats 4000000
namespace L3
open PySem
open L2 hiding D Rf Rfs Rp dI dT
section
variable {di : DI} {dg : D → Dl → (Dl → Prop) → Prop} {dt : DT} {de : DE} {k : Nat} {idx : List Nat} {δ : Dl} {P : DK}
theorem comp_any {α : Type} {as : List α} {f : α → D} {p : α → Bool} {g : α → D} (hdi : ∀ R : List D → Prop, R (as.map f) → di δ R) (hl : as.length ≤ 1000)
    (hb : ∀ a ∈ as, ∀ R : List D → Prop, R (if p a then [g a] else []) → vBody dg dt de (cbaseD k idx δ) (f a) R) (h : P (.lst ((as.filter p).map g))) : vComp di dg dt de k idx δ P := by
  refine hdi _ ⟨by rw [List.length_map]; exact hl, ?_⟩
  have key : ∀ (as : List α) (acc : List D), (∀ a ∈ as, ∀ R : List D → Prop, R (if p a then [g a] else []) → vBody dg dt de (cbaseD k idx δ) (f a) R) → P (.lst (acc ++ (as.filter p).map g)) → vEach (vBody dg dt de (cbaseD k idx δ)) (as.map f) acc fun ys => P (.lst ys) := by
    intro as
    induction as with
    | nil => intro acc _ h; rw [List.filter_nil, List.map_nil, List.append_nil] at h; exact h
    | cons a as ih =>
      intro acc hb h
      refine hb a List.mem_cons_self _ (ih _ (fun x hx => hb x (List.mem_cons_of_mem _ hx)) ?_)
      by_cases hp : p a = true
      · rw [if_pos hp, List.append_assoc]; rwa [List.filter_cons_of_pos hp] at h
      · rw [if_neg hp, List.append_nil]; rwa [List.filter_cons_of_neg hp] at h
  exact key as [] hb h
theorem comp_all {α : Type} {as : List α} {f : α → D} {g : α → D} (hdi : ∀ R : List D → Prop, R (as.map f) → di δ R) (hl : as.length ≤ 1000)
    (hb : ∀ a ∈ as, ∀ R : List D → Prop, R [g a] → vBody dg dt de (cbaseD k idx δ) (f a) R) (h : P (.lst (as.map g))) : vComp di dg dt de k idx δ P := by
  refine comp_any (p := fun _ => true) hdi hl (fun a ha R h => hb a ha R h) ?_
  rw [List.filter_eq_self.mpr (fun _ _ => rfl)]
  exact h
theorem comp_ints {ns : List Int} {g : Int → D} (hdi : ∀ R : List D → Prop, R (ns.map D.int) → di δ R) (hl : ns.length ≤ 1000)
    (hb : ∀ n ∈ ns, ∀ R : List D → Prop, R [g n] → vBody dg dt de (cbaseD k idx δ) (.int n) R) (h : P (.lst (ns.map g))) : vComp di dg dt de k idx δ P := comp_all hdi hl hb h
theorem comp_intsF {ns : List Int} {p : Int → Bool} {g : Int → D} (hdi : ∀ R : List D → Prop, R (ns.map D.int) → di δ R) (hl : ns.length ≤ 1000)
    (hb : ∀ n ∈ ns, ∀ R : List D → Prop, R (if p n then [g n] else []) → vBody dg dt de (cbaseD k idx δ) (.int n) R) (h : P (.lst ((ns.filter p).map g))) : vComp di dg dt de k idx δ P := comp_any hdi hl hb h
theorem comp_rng {lo : Int} {n : Nat} {g : Nat → D} (hdi : ∀ R : List D → Prop, R (intsD lo n) → di δ R) (hl : n ≤ 1000)
    (hb : ∀ i, i < n → ∀ R : List D → Prop, R [g i] → vBody dg dt de (cbaseD k idx δ) (.int (lo + (i : Int))) R) (h : P (.lst ((List.range n).map g))) : vComp di dg dt de k idx δ P :=
  comp_all (as := List.range n) (f := fun (k : Nat) => D.int (lo + (k : Int))) hdi (by rw [List.length_range]; exact hl) (fun a ha => hb a (List.mem_range.mp ha)) h
theorem comp_rngF {lo : Int} {n : Nat} {p : Nat → Bool} {g : Nat → D} (hdi : ∀ R : List D → Prop, R (intsD lo n) → di δ R) (hl : n ≤ 1000)
    (hb : ∀ i, i < n → ∀ R : List D → Prop, R (if p i then [g i] else []) → vBody dg dt de (cbaseD k idx δ) (.int (lo + (i : Int))) R) (h : P (.lst (((List.range n).filter p).map g))) : vComp di dg dt de k idx δ P :=
  comp_any (as := List.range n) (f := fun (k : Nat) => D.int (lo + (k : Int))) hdi (by rw [List.length_range]; exact hl) (fun a ha => hb a (List.mem_range.mp ha)) h
theorem comp_rows {t : List (List Int)} {g : List Int → D} (hdi : ∀ R : List D → Prop, R (t.map dI) → di δ R) (hl : t.length ≤ 1000)
    (hb : ∀ r ∈ t, ∀ R : List D → Prop, R [g r] → vBody dg dt de (cbaseD k idx δ) (dI r) R) (h : P (.lst (t.map g))) : vComp di dg dt de k idx δ P := comp_all hdi hl hb h
variable {db : DS} {E : DEnds}
theorem loop_any {α : Type} {as : List α} {f : α → D} (I : Nat → Dl → Prop) (h0 : I 0 δ)
    (hs : ∀ i a δ (N : Dl → Prop), as[i]? = some a → I i δ → (∀ δ', I (i + 1) δ' → N δ') → dg (f a) δ fun δ' => db { nx := N, ct := N, bk := E.nx, rt := E.rt } δ')
    (hd : ∀ δ, I as.length δ → E.nx δ) : vLoop dg db E (as.map f) δ := by
  refine loop_inv I h0 (fun i d δ N e hI hN => ?_) (fun δ hI => hd δ (by rwa [List.length_map] at hI))
  rw [List.getElem?_map] at e
  cases q : as[i]? with
  | none => rw [q] at e; cases e
  | some a => rw [q] at e; cases e; exact hs i a δ N q hI hN
theorem loop_rng {lo : Int} {n : Nat} (I : Nat → Dl → Prop) (h0 : I 0 δ)
    (hs : ∀ i δ (N : Dl → Prop), i < n → I i δ → (∀ δ', I (i + 1) δ' → N δ') → dg (.int (lo + (i : Int))) δ fun δ' => db { nx := N, ct := N, bk := E.nx, rt := E.rt } δ')
    (hd : ∀ δ, I n δ → E.nx δ) : vLoop dg db E (intsD lo n) δ := by
  refine loop_any (as := List.range n) (f := fun (k : Nat) => D.int (lo + (k : Int))) I h0 (fun i a δ N e hI hN => ?_) (fun δ hI => hd δ (by rwa [List.length_range] at hI))
  obtain ⟨h1, h2⟩ := List.getElem?_eq_some_iff.mp e
  rw [List.getElem_range] at h2
  subst h2
  exact hs i δ N (by simpa using h1) hI hN
end
theorem at_dI {ns : List Int} {i : Int} (h0 : 0 ≤ i) (h : i < ns.length) : atI (ns.map D.int) i = some (.int (ns.getD i.toNat 0)) := by
  unfold atI ixN
  rw [if_pos h0, List.length_map, if_pos h]
  show (ns.map D.int)[i.toNat]? = _
  rw [List.getElem?_map, List.getD_eq_getElem?_getD]
  have : i.toNat < ns.length := by omega
  rw [List.getElem?_eq_getElem this]
  rfl
theorem scal_ints {ns : List Int} : (ns.map D.int).all D.scal = true := by rw [List.all_map, List.all_eq_true]; exact fun _ _ => rfl
theorem ixN_nat {n : Nat} {i : Int} (h0 : 0 ≤ i) (h : i < n) : ixN n i = some i.toNat := by unfold ixN; rw [if_pos h0, if_pos h]
theorem set_dI {ns : List Int} {j : Nat} {v : Int} : (ns.map D.int).set j (.int v) = (ns.set j v).map D.int := (List.map_set ..).symm
theorem snoc_dI {ns : List Int} {v : Int} : ns.map D.int ++ [.int v] = (ns ++ [v]).map D.int := by simp
theorem emod_lt {x n : Int} (h : 0 < n) : 0 ≤ x % n ∧ x % n < n := ⟨Int.emod_nonneg x (by omega), Int.emod_lt_of_pos x h⟩
theorem cut_ints {ns : List Int} {lo hi : Option Int} : ∃ ms : List Int, cutD (ns.map D.int) lo hi = ms.map D.int ∧ ms = (ns.drop (HT.sIx ns.length 0 lo)).take (HT.sIx ns.length ns.length hi - HT.sIx ns.length 0 lo) := by
  refine ⟨_, ?_, rfl⟩
  unfold cutD
  rw [List.length_map, ← List.map_drop, ← List.map_take]
section
variable {P : DK}
def asO (o : Option D) (P : DK) : Prop := match o with | some d => P d | none => False
theorem asO_some {d : D} : asO (some d) P ↔ P d := Iff.rfl
theorem asO_at {o : Option D} {d : D} (h : o = some d) : asO o P ↔ P d := by rw [h]; rfl
theorem asB_bl {k : Bool} {Q : Bool → Prop} : asB (.bl k) Q ↔ Q k := Iff.rfl
theorem vI0_int {g : Int → Int → D} {i j : Int} : vI0 g (.int i) (.int j) P ↔ P (g i j) := Iff.rfl
theorem vI_int {C : Int → Int → Prop} {g : Int → Int → D} {i j : Int} : vI C g (.int i) (.int j) P ↔ C i j ∧ P (g i j) := Iff.rfl
theorem vU_int {g : Int → D} {i : Int} : vU g (.int i) P ↔ P (g i) := Iff.rfl
theorem asI_int {i : Int} {Q : Int → Prop} : asI [.int i] Q ↔ Q i := Iff.rfl
theorem asII_int {i j : Int} {Q : Int → Int → Prop} : asII [.int i, .int j] Q ↔ Q i j := Iff.rfl
theorem asL_lst {ds : List D} {Q : List D → Prop} : asL (.lst ds) Q ↔ Q ds := Iff.rfl
theorem asL_scr {ns : List Int} {Q : List D → Prop} : asL (.scr ns) Q ↔ Q (ns.map D.int) := Iff.rfl
theorem vIxL_lst {ds : List D} {i : Int} : vIxL (.lst ds) (.int i) P ↔ asO (atI ds i) P := Iff.rfl
theorem vIxL_scr {ns : List Int} {i : Int} : vIxL (.scr ns) (.int i) P ↔ asO (atI (ns.map D.int) i) P := Iff.rfl
theorem vIxT_tup {ds : List D} {i : Int} : vIxT (.tup ds) (.int i) P ↔ asO (atI ds i) P := Iff.rfl
theorem vLen_tup {ds : List D} : vLen [.tup ds] P ↔ P (.int ds.length) := Iff.rfl
theorem vIsN_non {neg : Bool} {x : D} : vIsN neg x .non P ↔ P (.bl (if neg then !x.isNon else x.isNon)) := Iff.rfl
theorem vCat_lst {a b : List D} : vCat (.lst a) (.lst b) P ↔ (a.all D.scal = true ∧ b.all D.scal = true ∧ a.length + b.length ≤ 1000) ∧ P (.lst (a ++ b)) := Iff.rfl
theorem vRep_lst {a : List D} {k : Int} : vRep (.lst a) (.int k) P ↔ (a.all D.scal = true ∧ (-(2 ^ 63) ≤ k ∧ k < 2 ^ 63) ∧ a.length * k.toNat ≤ 1000) ∧ P (.lst (repD a k.toNat)) := Iff.rfl
theorem vList_lst {ds : List D} : vList [.lst ds] P ↔ ds.all D.scal = true ∧ P (.lst ds) := Iff.rfl
theorem vList_scr {ns : List Int} : vList [.scr ns] P ↔ P (dI ns) := by
  show ((ns.map D.int).all D.scal = true ∧ P _) ↔ _
  rw [scal_ints]; exact ⟨fun h => h.2, fun h => ⟨rfl, h⟩⟩
theorem vSum_ints {ns : List Int} : vSum [dI ns] P ↔ P (.int ns.sum) := by
  show (match toInts (ns.map D.int) with | some ns => P (.int ns.sum) | none => False) ↔ _
  rw [toInts_map]
theorem asNs_ints {ns : List Int} {Q : List Int → Prop} : asNs (dI ns) Q ↔ Q ns := by
  show (match toInts (ns.map D.int) with | some ns => Q ns | none => False) ↔ _
  rw [toInts_map]
theorem vgTup2 {g : List D → Dl → (Dl → Prop) → Prop} {n : Nat} {ds : List D} {δ : Dl} {Q : Dl → Prop} : vgTup n g (.tup ds) δ Q ↔ ds.length = n ∧ g ds δ Q := Iff.rfl
theorem vgCons_c {g : D → Dl → (Dl → Prop) → Prop} {gs : List D → Dl → (Dl → Prop) → Prop} {x : D} {xs : List D} {δ : Dl} {Q : Dl → Prop} : vgCons g gs (x :: xs) δ Q ↔ g x δ fun δ' => gs xs δ' Q := Iff.rfl
theorem vgNil_n {δ : Dl} {Q : Dl → Prop} : vgNil [] δ Q ↔ Q δ := Iff.rfl
theorem slotL_s {i : Nat} {δ : Dl} {ds : List D} {Q : List D → Prop} (h : δ[i]? = some (some (.lst ds))) : slotL δ i Q ↔ Q ds := by unfold slotL; rw [h]
theorem tyn_int {i : Int} : (D.int i).tyn = some "int" := rfl
theorem tyn_bl {i : Bool} : (D.bl i).tyn = some "bool" := rfl
theorem tyn_lst {i : List D} : (D.lst i).tyn = some "list" := rfl
theorem tyn_tup {i : List D} : (D.tup i).tyn = some "tuple" := rfl
theorem tyn_str {i : Str} : (D.str i).tyn = some "str" := rfl
theorem tyn_non : D.non.tyn = some "NoneType" := rfl
theorem isB_ii : isB "int" "int" = true := rfl
theorem isB_ib : isB "int" "bool" = false := rfl
theorem isB_ll : isB "list" "list" = true := rfl
theorem isB_tt : isB "tuple" "tuple" = true := rfl
theorem isB_ss : isB "str" "str" = true := rfl
theorem isB_bb : isB "bool" "bool" = true := rfl
theorem isB_bi : isB "bool" "int" = true := rfl
theorem isB_il : isB "int" "list" = false := rfl
theorem isB_nl : isB "NoneType" "list" = false := rfl
end
end L3
set_option Elab.async false
set_option linter.all false
set_option maxRecDepth 100000
set_option maxHeartbeats 4000000
namespace L3
open PySem
open L2 hiding D Rf Rfs Rp dI dT
section
variable {K : PySem.W.Frag} {ρ : Bool} {Γr Γl Γ Γ1 Γ2 Γn M : List Nat} {t u : TS} {te ta tb tx t1 t2 : TE} {de da db dx d1 d2 : DE} {d e : DS}
variable {B0 : Hp} {fps : Nat → List Addr} {δ : Dl} {σ : St} {H H' : Hp}
def vMinL (xs : List D) (P : DK) : Prop := match xs with | [x] => asNs x fun ns => 0 < ns.length ∧ ∀ M, M ∈ ns → (∀ x ∈ ns, M ≤ x) → P (.int M) | _ => False
def vMaxL (xs : List D) (P : DK) : Prop := match xs with | [x] => asNs x fun ns => 0 < ns.length ∧ ∀ M, M ∈ ns → (∀ x ∈ ns, x ≤ M) → P (.int M) | _ => False
theorem c_minL : CallV K (fun xs H Q => ∃ (a : Addr) (ns : List Int), xs = [.ref a] ∧ SqL K H a (ns.map V.int) ∧ 0 < ns.length ∧ ∀ M, M ∈ ns → (∀ x ∈ ns, M ≤ x) → Q (.int M) H) vMinL := ⟨fun xs P P' k h => by
    unfold vMinL at h ⊢
    revert h
    split
    · exact fun h => by obtain ⟨ns, e, z⟩ := asNs_out h; exact asNs_in e ⟨z.1, fun M a b => k _ (z.2 M a b)⟩
    · exact id,
  fun {H xs vs Q} r h => by
    unfold vMinL at h
    split at h
    · obtain ⟨v, rfl, r0⟩ := r.one
      obtain ⟨ns, e, h⟩ := asNs_out h
      obtain ⟨a, ys, fq, rfl, hs, hr⟩ := r0.seq e
      rw [hr.intsV] at hs
      exact ⟨a, ns, rfl, hs, h.1, fun M h1 h2 => h.2 M h1 h2 _ H [] (Same.refl H) ⟨rfl, rfl⟩ Nw.nil⟩
    · exact h.elim⟩
def toBools : List D → Option (List Bool)
  | [] => some []
  | .bl i :: ds => (toBools ds).map (i :: ·)
  | _ => none
theorem toBools_map : ∀ {ns : List Bool}, toBools (ns.map D.bl) = some ns
  | [] => rfl
  | n :: ns => by rw [List.map_cons, toBools, toBools_map]; rfl
def asBs (x : D) (P : List Bool → Prop) : Prop := asL x fun ds => match toBools ds with | some ns => P ns | none => False
def vAll (xs : List D) (P : DK) : Prop := match xs with | [x] => asBs x fun ns => P (.bl (ns.all id)) | _ => False
def vAny (xs : List D) (P : DK) : Prop := match xs with | [x] => asBs x fun ns => P (.bl (ns.any id)) | _ => False
theorem vAll_bools {ns : List Bool} {P : DK} : vAll [.lst (ns.map D.bl)] P ↔ P (.bl (ns.all id)) := by
  show (match toBools (ns.map D.bl) with | some ns => P (.bl (ns.all id)) | none => False) ↔ _
  rw [toBools_map]
theorem vAny_bools {ns : List Bool} {P : DK} : vAny [.lst (ns.map D.bl)] P ↔ P (.bl (ns.any id)) := by
  show (match toBools (ns.map D.bl) with | some ns => P (.bl (ns.any id)) | none => False) ↔ _
  rw [toBools_map]
theorem vMinL_ints {ns : List Int} {P : DK} : vMinL [dI ns] P ↔ 0 < ns.length ∧ ∀ M, M ∈ ns → (∀ x ∈ ns, M ≤ x) → P (.int M) := asNs_ints
theorem vMaxL_ints {ns : List Int} {P : DK} : vMaxL [dI ns] P ↔ 0 < ns.length ∧ ∀ M, M ∈ ns → (∀ x ∈ ns, x ≤ M) → P (.int M) := asNs_ints
def rngI (n : Nat) : List Int := (List.range n).map fun (k : Nat) => (k : Int)
def vListRng (de : DE) (δ : Dl) (P : DK) : Prop := de δ fun x => asI [x] fun j => (j ≤ 100000 ∧ -(2 ^ 62) ≤ j) ∧ P (dI (rngI j.toNat))
theorem st_seq2 {tA tB tR : TS} (h1 : ST K ρ Γr Γl (tSeq tA tB) Γ Γ1 d) (h2 : ST K ρ Γr Γl tR Γ1 Γ2 e) : ST K ρ Γr Γl (tSeq tA (tSeq tB tR)) Γ Γ2 (vSeq d e) := fun B0 Dn E fps δ σ H k o h => (show tSeq (tSeq tA tB) tR Dn σ H from st_seq h1 h2 k o h)
theorem Ok.dead (o : Ok K B0 Γ fps δ σ H) (j : Nat) (v : V) (hj : j ∉ Γ) : Ok K B0 Γ (fun i => if i = j then [] else fps i) (δ.set j none) (σ.set j (some v)) H := by
  refine ⟨by simp [o.len], o.b0, fun i d e => ?_, fun i h => ?_, fun i hi => ?_, fun i hi k hk a ha => ?_⟩
  · by_cases h : i = j
    · subst h
      rw [List.getElem?_set] at e
      by_cases hl : i < δ.length
      · simp [hl] at e
      · simp [hl] at e
    · rw [List.getElem?_set_ne (Ne.symm h)] at e
      rw [List.getElem?_set_ne (Ne.symm h), if_neg h]
      exact o.val i d e
  · by_cases h' : i = j
    · rw [if_pos h']
    · rw [if_neg h']; exact o.non i fun d z => h d (by rw [List.getElem?_set_ne (Ne.symm h')]; exact z)
  · have h : i ≠ j := fun z => hj (by rw [← z]; exact hi)
    rw [if_neg h]; exact o.own i hi
  · have h : i ≠ j := fun z => hj (by rw [← z]; exact hi)
    rw [if_neg h] at ha
    split
    · exact List.not_mem_nil
    · exact o.dj i hi k hk a ha
theorem asLst_in {o : Option D} {es : List D} {Q : List D → Prop} (e : o = some (.lst es)) (h : Q es) : asLst o Q := by rw [e]; exact h
theorem Rfs.take : ∀ {ds : List D} {xs : List V} {fq : List Addr} (n : Nat), Rfs K H ds xs fq → ∃ fq', Rfs K H (ds.take n) (xs.take n) fq'
  | ds, xs, fq, 0, h => ⟨[], rfl, rfl⟩
  | [], xs, fq, n + 1, h => by obtain ⟨rfl, rfl⟩ := h; exact ⟨[], rfl, rfl⟩
  | d :: ds, xs, fq, n + 1, h => by
    obtain ⟨x, r, f1, f2, rfl, rfl, h1, h2⟩ := h
    obtain ⟨fq', h3⟩ := Rfs.take n h2
    exact ⟨f1 ++ fq', x, r.take n, f1, fq', rfl, rfl, h1, h3⟩
def vSlR (de : DE) (dl dh : DO) (δ : Dl) (P : DK) : Prop := de δ fun x => dl δ fun l => dh δ fun u => asL x fun ds => P (.lst (cutD ds l u))
def vCatR (x y : D) (P : DK) : Prop := match x, y with | .lst a, .lst b => a.length + b.length ≤ 1000 ∧ P (.lst (a ++ b)) | _, _ => False
theorem vCatR_lst {a b : List D} {P : DK} : vCatR (.lst a) (.lst b) P ↔ a.length + b.length ≤ 1000 ∧ P (.lst (a ++ b)) := Iff.rfl
def vRepR (x y : D) (P : DK) : Prop := match x, y with | .lst a, .int k => ((-(2 ^ 63) ≤ k ∧ k < 2 ^ 63) ∧ a.length * k.toNat ≤ 1000) ∧ P (.lst (repD a k.toNat)) | _, _ => False
theorem vRepR_lst {a : List D} {k : Int} {P : DK} : vRepR (.lst a) (.int k) P ↔ ((-(2 ^ 63) ≤ k ∧ k < 2 ^ 63) ∧ a.length * k.toNat ≤ 1000) ∧ P (.lst (repD a k.toNat)) := Iff.rfl
def vListR (xs : List D) (P : DK) : Prop := match xs with | [x] => asL x fun ds => P (.lst ds) | _ => False
theorem vListR_lst {ds : List D} {P : DK} : vListR [.lst ds] P ↔ P (.lst ds) := Iff.rfl
def vRevR (da : DE) (δ : Dl) (P : DK) : Prop := da δ fun x => asL x fun ds => P (.lst ds.reverse)
def vAppPop (i k : Nat) (dn : DE) (E : DEnds) (δ : Dl) : Prop := slotL δ i fun ds => slotL δ k fun es => dn δ fun x => asI [x] fun n => (ds.length < 1000 ∧ es.all D.scal = true ∧ 0 ≤ n ∧ n < 2 ^ 63) ∧ asO (es[n.toNat]?) fun y => E.nx ((δ.set k (some (.lst (es.eraseIdx n.toNat)))).set i (some (.lst (ds ++ [y]))))
theorem vEqS_bl {neg : Bool} {i j : Bool} {P : DK} : vEqS neg (.bl i) (.bl j) P ↔ P (.bl (if neg then !decide (i = j) else decide (i = j))) := by
  unfold vEqS
  simp only [D.scal, D.toV, scal, true_and, V.bl.injEq]
theorem vEqS_str {neg : Bool} {i j : Str} {P : DK} : vEqS neg (.str i) (.str j) P ↔ P (.bl (if neg then !decide (i = j) else decide (i = j))) := by
  unfold vEqS
  simp only [D.scal, D.toV, scal, true_and, V.str.injEq]
end
end L3
set_option Elab.async false
set_option linter.all false
set_option maxRecDepth 100000
set_option maxHeartbeats 4000000
namespace L3
open PySem
open L2 hiding D Rf Rfs Rp dI dT
def Rect (n m : Nat) (t : List (List Int)) : Prop := t.length = n ∧ ∀ r ∈ t, r.length = m
abbrev rowAt (t : List (List Int)) (i : Nat) : List Int := t.getD i []
abbrev cellAt (t : List (List Int)) (i j : Nat) : Int := (t.getD i []).getD j 0
abbrev setCell (t : List (List Int)) (i j : Nat) (v : Int) : List (List Int) := t.set i ((t.getD i []).set j v)
theorem rowAt_mem {t : List (List Int)} {i : Nat} (h : i < t.length) : rowAt t i ∈ t := by
  unfold rowAt
  rw [List.getD_eq_getElem?_getD, List.getElem?_eq_getElem h]
  exact List.getElem_mem h
theorem Rect.row {n m : Nat} {t : List (List Int)} (h : Rect n m t) {i : Nat} (hi : i < n) : (rowAt t i).length = m := h.2 _ (rowAt_mem (by rw [h.1]; exact hi))
theorem Rect.set {n m : Nat} {t : List (List Int)} (h : Rect n m t) {i : Nat} {r : List Int} (hr : r.length = m) : Rect n m (t.set i r) := by
  refine ⟨by rw [List.length_set]; exact h.1, fun x hx => ?_⟩
  rcases List.mem_or_eq_of_mem_set hx with z | z
  · exact h.2 x z
  · rw [z]; exact hr
theorem Rect.setCell {n m : Nat} {t : List (List Int)} (h : Rect n m t) {i j : Nat} {v : Int} (hi : i < n) : Rect n m (setCell t i j v) := h.set (by rw [List.length_set]; exact h.row hi)
theorem get_dT {t : List (List Int)} {i : Nat} (h : i < t.length) : (t.map dI)[i]? = some (dI (rowAt t i)) := by
  unfold rowAt
  rw [List.getElem?_map, List.getD_eq_getElem?_getD, List.getElem?_eq_getElem h]
  rfl
theorem at_dT {t : List (List Int)} {i : Int} (h0 : 0 ≤ i) (h : i < t.length) : atI (t.map dI) i = some (dI (rowAt t i.toNat)) := by
  unfold atI
  rw [ixN_nat h0 (by rw [List.length_map]; exact h)]
  exact get_dT (by omega)
theorem set_dT {t : List (List Int)} {i : Nat} {r : List Int} : (t.map dI).set i (dI r) = (t.set i r).map dI := (List.map_set ..).symm
section
variable {i j : Nat} {δ : Dl} {de d1 d2 dx : DE} {E : DEnds} {t : List (List Int)} {r : List Int} {a b v : Int}
theorem setItem_ints (hs : δ[i]? = some (some (dI r))) (hde : ∀ R : DK, R (.int v) → de δ R) (hdx : ∀ R : DK, R (.int a) → dx δ R) (ha : 0 ≤ a ∧ a < r.length) (h : E.nx (δ.set i (some (dI (r.set a.toNat v))))) : vSetItem i de dx E δ := by
  unfold vSetItem
  refine hde _ ((slotL_s hs).mpr (hdx _ ?_))
  show match ixN (r.map D.int).length a with | some j => E.nx (δ.set i (some (.lst ((r.map D.int).set j (.int v))))) | none => False
  rw [ixN_nat ha.1 (by rw [List.length_map]; exact ha.2)]
  show E.nx (δ.set i (some (.lst ((r.map D.int).set a.toNat (.int v)))))
  rw [set_dI]; exact h
end
theorem asO_ints {r : List Int} {a : Int} {P : DK} (ha : 0 ≤ a ∧ a < r.length) (h : P (.int (r.getD a.toNat 0))) : asO (atI (r.map D.int) a) P := (asO_at (at_dI ha.1 ha.2)).mpr h
theorem asO_rows {t : List (List Int)} {a : Int} {P : DK} (ha : 0 ≤ a ∧ a < t.length) (h : P (dI (rowAt t a.toNat))) : asO (atI (t.map dI) a) P := (asO_at (at_dT ha.1 ha.2)).mpr h
theorem map_dI {α : Type} {as : List α} {f : α → List Int} : as.map (fun a => dI (f a)) = (as.map f).map dI := by rw [List.map_map]; rfl
theorem map_int {α : Type} {as : List α} {f : α → Int} : as.map (fun a => D.int (f a)) = (as.map f).map D.int := by rw [List.map_map]; rfl
theorem am_cons0 {K : PySem.W.Frag} {Γ : List Nat} {ta : TE} {da : DE} {tr : TA} {dr : DA} (ha : EM K Γ [] ta da) (hr : AM K Γ [] tr dr) : AM K Γ [] (tCons ta tr) (vCons da dr) := am_cons ha hr (fun _ h => (nomatch h)) (fun _ h => (nomatch h))
theorem cat_dI {a b : List Int} : a.map D.int ++ b.map D.int = (a ++ b).map D.int := List.map_append.symm
def colOf (t : List (List Int)) (j : Nat) : List Int := t.map fun r => r.getD j 0
theorem len_colOf {t : List (List Int)} {j : Nat} : (colOf t j).length = t.length := by unfold colOf; rw [List.length_map]
end L3
namespace L3
open PySem
open L2 hiding D Rf Rfs Rp dI dT
def vInts (ns : List Int) (δ : Dl) (P : List D → Prop) : Prop := P (ns.map D.int)
end L3
namespace L3
open PySem
open L2 hiding D Rf Rfs Rp dI dT
theorem cutD_to {ds : List D} {k : Int} (h : 0 ≤ k) : cutD ds none (some k) = ds.take k.toNat := by
  obtain ⟨n, rfl⟩ := Int.eq_ofNat_of_zero_le h
  unfold cutD
  rw [HT.sIx_nat, HT.sIx_none, Nat.sub_zero, List.drop_zero, ← List.take_eq_take_min]
  rfl
theorem cutD_from {ds : List D} {k : Int} (h : 0 ≤ k) (h2 : k ≤ ds.length) : cutD ds (some k) none = ds.drop k.toNat := by
  obtain ⟨n, rfl⟩ := Int.eq_ofNat_of_zero_le h
  unfold cutD
  rw [HT.sIx_nat, HT.sIx_none, Nat.min_eq_left (by omega), List.take_of_length_le (by rw [List.length_drop]; exact Nat.le_refl _)]
  rfl
theorem atI_c0 {a : D} {ds : List D} : atI (a :: ds) 0 = some a := by
  unfold atI; rw [ixN_nat (by omega) (by rw [List.length_cons]; omega)]; rfl
theorem atI_c1 {a b : D} {ds : List D} : atI (a :: b :: ds) 1 = some b := by
  unfold atI; rw [ixN_nat (by omega) (by rw [List.length_cons, List.length_cons]; omega)]; rfl
theorem atI_c2 {a b c : D} {ds : List D} : atI (a :: b :: c :: ds) 2 = some c := by
  unfold atI; rw [ixN_nat (by omega) (by rw [List.length_cons, List.length_cons, List.length_cons]; omega)]; rfl
theorem atI_c3 {a b c d : D} {ds : List D} : atI (a :: b :: c :: d :: ds) 3 = some d := by
  unfold atI; rw [ixN_nat (by omega) (by rw [List.length_cons, List.length_cons, List.length_cons, List.length_cons]; omega)]; rfl
end L3
set_option Elab.async false
set_option linter.all false
set_option maxRecDepth 100000
set_option maxHeartbeats 4000000
namespace Maj
open L2 (fall fall_perm fall_desc fall_length)
def topk (xs : List Int) (k : Nat) : Int := ((fall xs).take k).sum
def Le (xs ys : List Int) : Prop := ∀ k, k ≤ xs.length → topk xs k ≤ topk ys k
def stepped (xs : List Int) (g t : Nat) (a : Int) : List Int := (xs.set g (xs.getD g 0 - a)).set t ((xs.set g (xs.getD g 0 - a)).getD t 0 + a)
theorem getD_set_ne {xs : List Int} {i j : Nat} {v : Int} (h : i ≠ j) : (xs.set i v).getD j 0 = xs.getD j 0 := by
  rw [List.getD_eq_getElem?_getD, List.getD_eq_getElem?_getD, List.getElem?_set_ne h]
theorem sum_set : ∀ {xs : List Int} {i : Nat} {v : Int}, i < xs.length → (xs.set i v).sum = xs.sum + v - xs.getD i 0
  | x :: xs, 0, v, _ => by simp; omega
  | x :: xs, i + 1, v, h => by
    have := sum_set (xs := xs) (i := i) (v := v) (by simpa using h)
    simp [this]; omega
  | [], _, _, h => by simp at h
theorem step_sum {xs : List Int} {g t : Nat} {a : Int} (hg : g < xs.length) (ht : t < xs.length) (hne : g ≠ t) : (stepped xs g t a).sum = xs.sum := by
  unfold stepped
  rw [sum_set (by rw [List.length_set]; exact ht), sum_set hg]
  omega
theorem step_len {xs : List Int} {g t : Nat} {a : Int} : (stepped xs g t a).length = xs.length := by unfold stepped; rw [List.length_set, List.length_set]
def above (one other : List Int) : List Nat := (List.range one.length).filter fun p => decide (topk other (p + 1) < topk one (p + 1))
end Maj
namespace L3
open PySem
open L2 hiding D Rf Rfs Rp dI dT
section
variable {K : PySem.W.Frag} {ρ : Bool} {Γr Γl Γ Γn : List Nat} {te : TE} {de : DE}
def vgLst (n : Nat) (dg : List D → Dl → (Dl → Prop) → Prop) (x : D) (δ : Dl) (P : Dl → Prop) : Prop := asL x fun ds => ds.length = n ∧ dg ds δ P
theorem gt_lst {n : Nat} {g : TGs} {dg : List D → Dl → (Dl → Prop) → Prop} (h : GTs K Γ g dg) : GT K Γ (gLst K n g) (vgLst n dg) :=
  ⟨fun x δ P P' k q => by obtain ⟨ds, e, z⟩ := asL_out q; exact asL_in e ⟨z.1, h.mono _ _ _ _ k z.2⟩,
   fun {B0 fps δ σ H x v fp Q} o r nn q => by
    obtain ⟨ds, e, z⟩ := asL_out q
    obtain ⟨a, xs, fq, rfl, hs, hr, hin⟩ := r.seq e
    exact ⟨a, xs, rfl, hs, hr.length.trans z.1, h.run o hr (fun j hj b hb => nn j hj b (hin b hb)) z.2⟩⟩
theorem ER.es0 (h : ER K [] te de) : ES K [] te de := ⟨h.mono, fun o q => h.run o (h.mono _ _ _ (fun x z v H' s r => let ⟨fp, r⟩ := r; z v H' fp s r fun j hj => (nomatch hj)) q)⟩
def vPar (i j : Nat) (da : DA) (E : DEnds) (δ : Dl) : Prop := da δ fun xs => match xs with | [x, y] => E.nx ((δ.set i (some x)).set j (some y)) | _ => False
end
end L3
set_option Elab.async false
set_option linter.all false
set_option maxRecDepth 100000
set_option maxHeartbeats 4000000
namespace L3
open PySem L2
section
variable {K : PySem.W.Frag}
def asIB (xs : List D) (P : Int → Prop) : Prop := match xs with | [.int j] => P j | [.bl b] => P (if b then 1 else 0) | _ => False
theorem asIB_int {i : Int} {P : Int → Prop} : asIB [.int i] P ↔ P i := Iff.rfl
theorem asIB_bl {b : Bool} {P : Int → Prop} : asIB [.bl b] P ↔ P (if b then 1 else 0) := Iff.rfl
theorem asIB_out {xs : List D} {P : Int → Prop} (h : asIB xs P) : (∃ i, xs = [.int i] ∧ P i) ∨ ∃ b, xs = [.bl b] ∧ P (if b then 1 else 0) := by
  unfold asIB at h; split at h
  · exact .inl ⟨_, rfl, h⟩
  · exact .inr ⟨_, rfl, h⟩
  · exact h.elim
def vIntB (xs : List D) (P : DK) : Prop := asIB xs fun i => P (.int i)
theorem c_int : CallV K (fun xs H Q => (∃ i, xs = [.int i] ∧ Q (.int i) H) ∨ ∃ k, xs = [.bl k] ∧ Q (.int (if k then 1 else 0)) H) vIntB :=
  ⟨fun xs P P' k h => by
    rcases asIB_out h with ⟨i, rfl, z⟩ | ⟨b, rfl, z⟩
    · exact k _ z
    · exact k _ z,
   fun {H xs vs Q} r h => by
    rcases asIB_out h with ⟨i, rfl, z⟩ | ⟨b, rfl, z⟩
    · exact .inl ⟨i, r.ints1, z _ H [] (Same.refl H) ⟨rfl, rfl⟩ Nw.nil⟩
    · refine .inr ⟨b, ?_, z _ H [] (Same.refl H) ⟨rfl, rfl⟩ Nw.nil⟩
      obtain ⟨fp, x, r, f1, f2, rfl, _, ⟨rfl, _⟩, ⟨rfl, _⟩⟩ := r
      rfl⟩
end
end L3
namespace L3
open PySem
open L2 hiding D Rf Rfs Rp dI dT
theorem cutD_init {ds : List D} : cutD ds none (some (-1)) = ds.take (ds.length - 1) := by
  unfold cutD
  have e : HT.sIx ds.length ds.length (some (-1)) = ds.length - 1 := by
    show (if (-1 : Int) < 0 then (-1 + (ds.length : Int)).toNat else min (-1 : Int).toNat ds.length) = ds.length - 1
    rw [if_pos (by decide)]; omega
  rw [e, HT.sIx_none, Nat.sub_zero, List.drop_zero]
theorem at_last {ns : List Int} (h : 1 ≤ ns.length) : atI (ns.map D.int) (-1) = some (.int (ns.getD (ns.length - 1) 0)) := by
  unfold atI
  have : ixN (ns.map D.int).length (-1) = some (ns.length - 1) := by
    unfold ixN
    rw [List.length_map, if_neg (by omega), if_pos (by omega)]
    congr 1; omega
  rw [this]
  show (ns.map D.int)[ns.length - 1]? = _
  rw [List.getElem?_map, List.getD_eq_getElem?_getD, List.getElem?_eq_getElem (by omega)]; rfl
theorem asO_lastI {ns : List Int} {P : DK} (h : 1 ≤ ns.length) (k : P (.int (ns.getD (ns.length - 1) 0))) : asO (atI (ns.map D.int) (-1)) P := (asO_at (at_last h)).mpr k
theorem init_sum {ns : List Int} (h : 1 ≤ ns.length) : (ns.take (ns.length - 1)).sum + ns.getD (ns.length - 1) 0 = ns.sum := by
  have e : ns.take (ns.length - 1) ++ [ns.getD (ns.length - 1) 0] = ns := by
    rw [List.getD_eq_getElem?_getD, List.getElem?_eq_getElem (by omega), Option.getD_some]
    have := List.take_append_getElem (l := ns) (i := ns.length - 1) (by omega)
    rw [this, List.take_of_length_le (by omega)]
  have := congrArg List.sum e
  rw [List.sum_append] at this
  simpa using this
end L3
set_option Elab.async false
set_option linter.all false
set_option maxRecDepth 100000
set_option maxHeartbeats 4000000
namespace L3
open PySem L2
section
variable {K : PySem.W.Frag} {ρ : Bool} {Γr Γl Γ : List Nat} {B0 : Hp} {i j m : Nat} {a0 : Addr} {fps : Nat → List Addr} {δ : Dl} {σ : St} {H H' : Hp} {t u : TS} {d e : Nat → DS} {te tx t1 : TE} {de dx d1 : DE}
end
end L3
namespace L3
open PySem
open L2 hiding D Rf Rfs Rp dI dT
section
variable {δ : Dl} {i j : Nat} {t : List (List Int)} {a b v : Int} {d1 de dx : DE} {d : Nat → DS} {E : DEnds}
end
end L3
set_option Elab.async false
set_option linter.all false
set_option maxRecDepth 100000
set_option maxHeartbeats 4000000
namespace L3
open PySem L2
def D.flat : D → Bool
  | .tup ds => ds.all D.scal
  | d => d.scal
theorem Rf.flat {K : PySem.W.Frag} {H : Hp} {d : D} {v : V} {fp : List Addr} (h : Rf K H d v fp) (s : d.flat = true) : fp = [] := by
  cases d with
  | tup ds =>
    obtain ⟨a, xs, rfl, h2, h3⟩ := h
    exact (h3.scals s).2
  | _ => first | exact (h.scal s).2 | cases s
theorem flat_int {i : Int} : (D.int i).flat = true := rfl
theorem flat_bl {b : Bool} : (D.bl b).flat = true := rfl
theorem flat_tup4 {a b c d : Int} : (D.tup [.int a, .int b, .int c, .int d]).flat = true := rfl
theorem flat_tup3 {a b c : Int} : (D.tup [.int a, .int b, .int c]).flat = true := rfl
theorem flat_tup2 {a b : Int} : (D.tup [.int a, .int b]).flat = true := rfl
def vFlat (d : DE) (δ : Dl) (P : DK) : Prop := d δ fun x => x.flat = true ∧ P x
theorem ER.flat {K : PySem.W.Frag} {Γ : List Nat} {t : TE} {d : DE} (h : ER K Γ t d) : EM K Γ [] t (vFlat d) := ⟨fun δ P P' k q => h.mono _ _ _ (fun x z => ⟨z.1, k x z.2⟩) q, fun o q => h.run o (h.mono _ _ _ (fun x z v H' s r => by
  obtain ⟨fp, r⟩ := r
  have e := r.flat z.1
  subst e
  exact z.2 v H' [] s r Nw.nil) q)⟩
end L3
namespace L3
open PySem
open L2 hiding D Rf Rfs Rp dI dT
def Ones (n m : Nat) (t : List (List Int)) : Prop := Rect n m t ∧ ∀ r ∈ t, ∀ x ∈ r, x = 0 ∨ x = 1
theorem Ones.set {n m a b : Nat} {t : List (List Int)} {v : Int} (h : Ones n m t) (ha : a < n) (hv : v = 0 ∨ v = 1) : Ones n m (setCell t a b v) := by
  refine ⟨h.1.setCell ha, fun r hr x hx => ?_⟩
  have hl := h.1.1
  rcases List.mem_or_eq_of_mem_set hr with z | z
  · exact h.2 r z x hx
  · rw [z] at hx
    rcases List.mem_or_eq_of_mem_set hx with w | w
    · exact h.2 _ (rowAt_mem (by omega)) x w
    · rw [w]; exact hv
def CanSwap (n m : Nat) (t : List (List Int)) (i j k l : Int) : Prop := (0 ≤ i ∧ i < n) ∧ (0 ≤ k ∧ k < n) ∧ (0 ≤ j ∧ j < m) ∧ (0 ≤ l ∧ l < m) ∧ cellAt t i.toNat j.toNat = 1 ∧ cellAt t i.toNat l.toNat = 0 ∧ cellAt t k.toNat j.toNat = 0 ∧ cellAt t k.toNat l.toNat = 1
instance {n m : Nat} {t : List (List Int)} {i j k l : Int} : Decidable (CanSwap n m t i j k l) := by unfold CanSwap; infer_instance
end L3
set_option Elab.async false
set_option linter.all false
set_option maxRecDepth 100000
set_option maxHeartbeats 4000000
namespace L3
open PySem L2
section
variable {K : PySem.W.Frag} {ρ : Bool} {Γr Γl Γ Γ1 Γ2 Γn M : List Nat} {t u : TS} {te ta tb tx t1 t2 : TE} {de da db dx d1 d2 : DE} {d e : DS}
variable {B0 : Hp} {fps : Nat → List Addr} {δ : Dl} {σ : St} {H H' : Hp}
def slotP (δ : Dl) (i : Nat) (P : Addr → D → Prop) : Prop := match δ[i]? with | some (some (.pin a d)) => P a d | _ => False
def vPin (i : Nat) (d : DS) (E : DEnds) (δ : Dl) : Prop := slotP δ i fun a x => d { E with nx := fun δ' => vVar i δ' fun x' => E.nx (δ'.set i (some (.pin a x'))) } (δ.set i (some x))
def vVarP (i : Nat) (δ : Dl) (P : DK) : Prop := slotP δ i fun _ x => P x
def D.isRef : D → Bool | .lst _ => true | .dic _ => true | .pin _ _ => true | .ins _ _ _ => true | _ => false
theorem Rf.isRef {x : D} {v : V} {fp : List Addr} (h : Rf K H x v fp) (e : x.isRef = true) : ∃ a, v = .ref a := by
  cases x with
  | lst ds => obtain ⟨a, xs, fq, rfl, _⟩ := h; exact ⟨a, rfl⟩
  | dic ds => obtain ⟨a, rfl, _⟩ := h; exact ⟨a, rfl⟩
  | pin a d => exact ⟨a, h.1⟩
  | ins C ns ds => obtain ⟨a, dx, xs, fq, rfl, _⟩ := h; exact ⟨a, rfl⟩
  | _ => cases e
abbrev DSI := List D → (D → D → Prop) → Prop
def vCallI (i p : Nat) (S : DSI) (da : DA) (E : DEnds) (δ : Dl) : Prop := da δ fun xs => (∀ x, xs[p]? = some x → x.isRef = true) ∧ S xs fun _ x' => E.nx (δ.set i (some x'))
def vSetI (i p j : Nat) (S : DSI) (da : DA) (E : DEnds) (δ : Dl) : Prop := da δ fun xs => (∀ x, xs[p]? = some x → x.isRef = true) ∧ S xs fun r x' => E.nx ((δ.set i (some x')).set j (some r))
end
end L3
set_option Elab.async false
set_option linter.all false
set_option maxRecDepth 100000
set_option maxHeartbeats 4000000
namespace L2
open PySem PySem.Spec PyProof.Rows
end L2
namespace L3
open PySem L2
section
variable {K : PySem.W.Frag} {ρ : Bool} {Γr Γl Γ Γ1 Γ2 Γn M : List Nat} {t u : TS} {te ta tb td ty tv : TE} {de da db dd dk dv : DE} {d e : DS}
def ofV : V → D | .non => .non | .bl b => .bl b | .int i => .int i | .str x => .str x | _ => .non
def asDic (x : D) (P : List (Key × V) → Prop) : Prop := match x with | .dic kvs => P kvs | _ => False
theorem asDic_dic {kvs : List (Key × V)} {P : List (Key × V) → Prop} : asDic (.dic kvs) P ↔ P kvs := Iff.rfl
def asV (o : Option V) (P : V → Prop) : Prop := match o with | some v => P v | none => False
def vDGet (dd dk : DE) (δ : Dl) (P : DK) : Prop := dd δ fun x => dk δ fun y => asI [y] fun n => asDic x fun kvs => asV (valV kvs (.inl n)) fun v => P (ofV v)
def vDIn (neg : Bool) (dk dd : DE) (δ : Dl) (P : DK) : Prop := dk δ fun y => dd δ fun x => asI [y] fun n => asDic x fun kvs => P (.bl (if neg then !(valV kvs (.inl n)).isSome else (valV kvs (.inl n)).isSome))
def slotD (δ : Dl) (i : Nat) (P : List (Key × V) → Prop) : Prop := vVar i δ fun x => asDic x P
def vDPut (i : Nat) (dk dv : DE) (E : DEnds) (δ : Dl) : Prop := dv δ fun x => x.scal = true ∧ slotD δ i fun kvs => dk δ fun y => asI [y] fun n => kvs.length < 1000 ∧ E.nx (δ.set i (some (.dic (putK kvs (.inl n) x.toV))))
def vIndex (da dk : DE) (δ : Dl) (P : DK) : Prop := da δ fun x => asLst (some x) fun ds => ds.all D.scal = true ∧ dk δ fun y => y.scal = true ∧ ∃ j : Nat, (∃ z, ds[j]? = some z ∧ eqV z.toV y.toV = true) ∧ (∀ m z, m < j → ds[m]? = some z → eqV z.toV y.toV = false) ∧ P (.int j)
def vSort (xs : List D) (P : DK) : Prop := match xs with | [x] => asNs x fun ns => ns.length < 64 ∧ ∀ ms : List Int, ms.Perm ns → ms.Pairwise (· ≤ ·) → P (dI ms) | _ => False
theorem vSort_ints {ns : List Int} {P : DK} : vSort [dI ns] P ↔ ns.length < 64 ∧ ∀ ms : List Int, ms.Perm ns → ms.Pairwise (· ≤ ·) → P (dI ms) := asNs_ints
theorem Ok.drop {B0 : Hp} {fps : Nat → List Addr} {δ : Dl} {σ : St} {H H' : Hp} (o : Ok K B0 Γ fps δ σ H) {i : Nat} (hi : i ∈ Γ) (keep : ∀ b u, b ∉ fps i → H b = some u → H' b = some u) : Ok K B0 (minus Γ [i]) (fun j => if j = i then [] else fps j) (δ.set i none) σ H' := by
  refine ⟨by simp [o.len], o.b0.keep (fun a ha => (o.own i hi).2 a ha) keep, fun j d e => ?_, fun j h => ?_, fun j hj => ?_, fun j hj k hk a ha => ?_⟩
  · by_cases h : j = i
    · subst h
      rw [List.getElem?_set] at e
      by_cases hl : j < δ.length
      · simp [hl] at e
      · simp [hl] at e
    · rw [List.getElem?_set_ne (Ne.symm h)] at e
      obtain ⟨w, h1, h2⟩ := o.val j d e
      refine ⟨w, h1, ?_⟩
      rw [if_neg h]
      exact h2.mono (fun a ha u e => keep a u (fun z => o.dj i hi j h a z ha) e) fun a u e im => keep a u (fun z => ((o.own i hi).2 a z).2.notup u e im) e
  · by_cases h' : j = i
    · rw [if_pos h']
    · rw [if_neg h']
      exact o.non j fun d z => h d (by rw [List.getElem?_set_ne (Ne.symm h')]; exact z)
  · obtain ⟨g1, g2⟩ := mem_minus.mp hj
    have h : j ≠ i := fun z => g2 (List.mem_singleton.mpr z)
    rw [if_neg h]
    refine ⟨(o.own j g1).1, fun a ha => ⟨((o.own j g1).2 a ha).1, ?_⟩⟩
    have hn : a ∉ fps i := fun z => o.dj i hi j h a z ha
    rcases ((o.own j g1).2 a ha).2 with ⟨x, z⟩ | ⟨x, z⟩ | ⟨x, z⟩ | ⟨C, dx, fs, z⟩
    · exact .inl ⟨x, keep a _ hn z⟩
    · exact .inr (.inl ⟨x, keep a _ hn z⟩)
    · exact .inr (.inr (.inl ⟨x, keep a _ hn z⟩))
    · exact .inr (.inr (.inr ⟨C, dx, fs, keep a _ hn z⟩))
  · obtain ⟨g1, g2⟩ := mem_minus.mp hj
    have h : j ≠ i := fun z => g2 (List.mem_singleton.mpr z)
    rw [if_neg h] at ha
    split
    · exact List.not_mem_nil
    · exact o.dj j g1 k hk a ha
def slotT (δ : Dl) (i : Nat) (P : List D → Prop) : Prop := match δ[i]? with | some (some (.tup ds)) => P ds | _ => False
theorem slotT_out {δ : Dl} {i : Nat} {P : List D → Prop} (h : slotT δ i P) : ∃ ds, δ[i]? = some (some (.tup ds)) ∧ P ds := by
  unfold slotT at h; split at h
  · exact ⟨_, by assumption, h⟩
  · exact h.elim
def vClearT (i : Nat) (dk : DE) (E : DEnds) (δ : Dl) : Prop := slotT δ i fun ds => dk δ fun y => asI [y] fun m => 0 ≤ m ∧ asLst (ds[m.toNat]?) fun _ => E.nx (δ.set i none)
theorem isRef_lst {ds : List D} : (D.lst ds).isRef = true := rfl
theorem isRef_dic {ds : List (Key × V)} : (D.dic ds).isRef = true := rfl
theorem ofV_int {i : Int} : ofV (.int i) = .int i := rfl
theorem ofV_bl {b : Bool} : ofV (.bl b) = .bl b := rfl
theorem ofV_non : ofV .non = .non := rfl
def vLenD (xs : List D) (P : DK) : Prop := match xs with | [.dic kvs] => P (.int kvs.length) | _ => False
theorem vLenD_dic {kvs : List (Key × V)} {P : DK} : vLenD [.dic kvs] P ↔ P (.int kvs.length) := Iff.rfl
end
end L3
set_option Elab.async false
set_option linter.all false
set_option maxRecDepth 100000
set_option maxHeartbeats 4000000
namespace Mat
theorem nodup_sub : ∀ {l l' : List Nat}, l.Nodup → (∀ x ∈ l, x ∈ l') → l.length ≤ l'.length
  | [], _, _, _ => Nat.zero_le _
  | x :: l, l', h, s => by
    obtain ⟨h1, h2⟩ := List.nodup_cons.mp h
    have hx := s x List.mem_cons_self
    have := nodup_sub (l' := l'.erase x) h2 fun y hy => (List.mem_erase_of_ne (fun z => h1 (by rw [← z]; exact hy))).mpr (s y (List.mem_cons_of_mem _ hy))
    rw [List.length_erase_of_mem hx] at this
    have : 0 < l'.length := List.length_pos_of_mem hx
    rw [List.length_cons]; omega
theorem nodup_lt {l : List Nat} {n : Nat} (h : l.Nodup) (hl : ∀ x ∈ l, x < n) : l.length ≤ n := by
  have := nodup_sub h (l' := List.range n) fun x hx => List.mem_range.mpr (hl x hx)
  rwa [List.length_range] at this
def Dom (ms : List (Option Nat)) (i : Nat) : Prop := ∃ c, ms[i]? = some (some c)
def put (src : Nat → Option Nat) (c s : Nat) : Nat → Option Nat := fun d => if d = c then some s else src d
end Mat
namespace Mat
end Mat
namespace Mat
end Mat
set_option Elab.async false
set_option linter.all false
set_option maxRecDepth 100000
set_option maxHeartbeats 4000000
namespace L3
open PySem L2
section
variable {K : PySem.W.Frag} {ρ : Bool} {Γr Γl Γ Γ1 Γ2 Γn M : List Nat} {t u : TS} {te ta tb : TE} {de da db : DE} {d e : DS}
theorem Ok.deadS {B0 : Hp} {fps : Nat → List Addr} {δ : Dl} {σ σ' : St} {H : Hp} (o : Ok K B0 Γ fps δ σ H) (j : Nat) (hj : j ∉ Γ) (hl : σ'.length = σ.length) (hs : ∀ l, l ≠ j → σ'[l]? = σ[l]?) : Ok K B0 Γ (fun i => if i = j then [] else fps i) (δ.set j none) σ' H := by
  refine ⟨by simp [o.len, hl], o.b0, fun i d e => ?_, fun i h => ?_, fun i hi => ?_, fun i hi k hk a ha => ?_⟩
  · by_cases h : i = j
    · subst h
      rw [List.getElem?_set] at e
      by_cases hl : i < δ.length
      · simp [hl] at e
      · simp [hl] at e
    · rw [List.getElem?_set_ne (Ne.symm h)] at e
      rw [hs i h, if_neg h]
      exact o.val i d e
  · by_cases h' : i = j
    · rw [if_pos h']
    · rw [if_neg h']; exact o.non i fun d z => h d (by rw [List.getElem?_set_ne (Ne.symm h')]; exact z)
  · have h : i ≠ j := fun z => hj (by rw [← z]; exact hi)
    rw [if_neg h]; exact o.own i hi
  · have h : i ≠ j := fun z => hj (by rw [← z]; exact hi)
    rw [if_neg h] at ha
    split
    · exact List.not_mem_nil
    · exact o.dj i hi k hk a ha
def vClearTs (i j : Nat) (k : Nat) (E : DEnds) (δ : Dl) : Prop := slotL δ i fun ds => j < δ.length ∧ (∀ (m : Nat) (d : D), ds[m]? = some d → ∃ (es e : List D), d = D.tup es ∧ es[k]? = some (D.lst e)) ∧ E.nx ((δ.set j none).set i (some (.lst [])))
end
end L3
namespace L3
open PySem L2
end L3
set_option Elab.async false
set_option linter.all false
set_option maxRecDepth 100000
set_option maxHeartbeats 4000000
namespace Bir
section
variable {κ : Type} [DecidableEq κ]
end
def S (m : Nat) (f : Nat → Int) : Int := ((List.range m).map f).sum
theorem S_succ {m : Nat} {f : Nat → Int} : S (m + 1) f = S m f + f m := by
  unfold S; rw [List.range_succ, List.map_append, List.sum_append]; simp
theorem S_zero {f : Nat → Int} : S 0 f = 0 := rfl
theorem S_one {f : Nat → Int} {c : Nat} : ∀ {m : Nat}, (∀ i, i < m → i ≠ c → f i = 0) → S m f = if c < m then f c else 0
  | 0, _ => by simp [S_zero]
  | m + 1, h => by
    rw [S_succ, S_one (m := m) fun i hi hn => h i (by omega) hn]
    by_cases h1 : c < m
    · rw [if_pos h1, if_pos (by omega), h m (by omega) (by omega)]; omega
    · rw [if_neg h1]
      by_cases h2 : c = m
      · subst h2; rw [if_pos (by omega)]; omega
      · rw [if_neg (by omega), h m (by omega) (Ne.symm h2)]; omega
abbrev Cd := Option (Nat × Nat)
def e (p : List Nat) (i j : Nat) : Int := if p[i]? = some j then 1 else 0
def fn (m r c : Nat) : Cd → Int
  | none => if r = m then (if c = m then 1 - (m : Int) else 1) else (if c = m then 1 else 0)
  | some (i, j) => if r = m then (if c = m then 1 else if j = c then -1 else 0) else (if c = m then (if i = r then -1 else 0) else if i = r ∧ j = c then 1 else 0)
structure Pm (n : Nat) (p : List Nat) : Prop where
  len : p.length = n
  lt : ∀ (i c : Nat), p[i]? = some c → c < n
  nd : p.Nodup
theorem Pm.row {n : Nat} {p : List Nat} (h : Pm n p) {i : Nat} (hi : i < n) : S n (e p i) = 1 := by
  obtain ⟨c, hc⟩ : ∃ c, p[i]? = some c := ⟨_, List.getElem?_eq_getElem (by rw [h.len]; exact hi)⟩
  rw [S_one (c := c) fun j hj hn => by unfold e; rw [if_neg (fun z => hn (by rw [hc] at z; exact (Option.some.inj z).symm))], if_pos (h.lt i c hc)]
  unfold e; rw [if_pos hc]
end Bir
set_option Elab.async false
set_option linter.all false
set_option maxRecDepth 100000
set_option maxHeartbeats 4000000
namespace Bir
open L3
end Bir
set_option Elab.async false
set_option linter.all false
set_option maxRecDepth 100000
set_option maxHeartbeats 4000000
namespace L2
open PySem
end L2
namespace L3
open PySem L2
section
variable {K : PySem.W.Frag} {ρ : Bool} {Γr Γl Γ Γ1 Γ2 Γn M : List Nat} {t u : TS} {te ta tb td ty tv ti : TE} {de da db dd dk dv di : DE} {d e : DS}
theorem Rfs.getN {H : Hp} : ∀ {ds : List D} {vs : List V} {fp : List Addr} {i : Nat} {d : D}, Rfs K H ds vs fp → fp.Nodup → ds[i]? = some d → ∃ v f, vs[i]? = some v ∧ Rf K H d v f ∧ (∀ a ∈ f, a ∈ fp) ∧ f.Nodup
  | [], _, _, _, _, _, _, e => by simp at e
  | d :: ds, vs, fp, 0, d', h, n, e => by
    obtain ⟨x, r, f1, f2, rfl, rfl, h1, h2⟩ := h
    simp at e; subst e
    exact ⟨x, f1, rfl, h1, fun a ha => List.mem_append_left _ ha, (List.nodup_append.mp n).1⟩
  | d :: ds, vs, fp, i + 1, d', h, n, e => by
    obtain ⟨x, r, f1, f2, rfl, rfl, h1, h2⟩ := h
    obtain ⟨v, f, e1, h3, k, n'⟩ := Rfs.getN (i := i) h2 (List.nodup_append.mp n).2.1 (by simpa using e)
    exact ⟨v, f, by simpa using e1, h3, fun a ha => List.mem_append_right _ (k a ha), n'⟩
theorem vIxT_o {x y : D} {P : DK} (h : vIxT x y P) : ∃ ds i d, x = .tup ds ∧ y = .int i ∧ atI ds i = some d ∧ P d := by
  unfold vIxT at h
  split at h
  · split at h
    · exact ⟨_, _, _, rfl, rfl, by assumption, h⟩
    · exact h.elim
  · exact h.elim
theorem vIxT_i {ds : List D} {i : Int} {d : D} {P : DK} (e : atI ds i = some d) (h : P d) : vIxT (.tup ds) (.int i) P := by
  show (match atI ds i with | some d => P d | none => False)
  rw [e]; exact h
theorem em_ixT (ha : EM K Γ [] ta da) (hi : ER K Γ ti di) : EM K Γ [] (tOp (rIxT K) ta ti) (vOp vIxT da di) :=
  ⟨fun δ P P' k h => ha.mono _ _ _ (fun x z => hi.mono _ _ _ (fun y z => by
      obtain ⟨ds, i, d, rfl, rfl, e, z1⟩ := vIxT_o z
      exact vIxT_i e (k _ z1)) z) h,
   fun {B0 fps δ σ H Q} o h => ha.run o (ha.mono _ _ _ (fun x z v H1 fp s1 r1 n1 => hi.run (o.same s1) (hi.mono _ _ _ (fun y z w H2 s2 r2 => by
      obtain ⟨ds, i, d, rfl, rfl, ed, z1⟩ := vIxT_o z
      obtain ⟨a, xs, rfl, ha, hr⟩ := r1
      have ei : ∃ j, ixN ds.length i = some j ∧ ds[j]? = some d := by
        unfold atI at ed
        cases q : ixN ds.length i with
        | none => rw [q] at ed; cases ed
        | some j => rw [q] at ed; exact ⟨j, rfl, ed⟩
      obtain ⟨j, ej, edj⟩ := ei
      obtain ⟨u, f, hu, ru, hf, hn⟩ := hr.getN n1.nd edj
      exact ⟨a, xs, i, u, rfl, r2.int, .inl (.inl (s2.st _ _ ha trivial)), by unfold atI; rw [hr.length, ej]; exact hu, z1 u H2 f (s1.trans s2) (ru.same s2) ⟨hn, fun b hb => (n1.mu b (hf b hb)).same s2, fun b hb => n1.src b (hf b hb)⟩⟩) z)) h)⟩
def vTupOf (xs : List D) (P : DK) : Prop := match xs with | [x] => asL x fun ds => ds.all D.scal = true ∧ P (.tup ds) | _ => False
theorem vTupOf_lst {ds : List D} {P : DK} : vTupOf [.lst ds] P ↔ ds.all D.scal = true ∧ P (.tup ds) := Iff.rfl
def keyT (ns : List Int) : List Key := ns.map fun n => .inl n
def asTI (x : D) (P : List Int → Prop) : Prop := match x with | .tup ds => (match toInts ds with | some ns => P ns | none => False) | _ => False
theorem asTI_in {ns : List Int} {P : List Int → Prop} : asTI (.tup (ns.map D.int)) P ↔ P ns := by
  unfold asTI
  show (match toInts (ns.map D.int) with | some ns => P ns | none => False) ↔ P ns
  rw [toInts_map]
def asDit (x : D) (P : List (List Key × V) → Prop) : Prop := match x with | .dit kvs => P kvs | _ => False
theorem asDit_dit {kvs : List (List Key × V)} {P : List (List Key × V) → Prop} : asDit (.dit kvs) P ↔ P kvs := Iff.rfl
def vDInT (dk dd : DE) (δ : Dl) (P : DK) : Prop := dk δ fun y => dd δ fun x => asTI y fun ns => asDit x fun kvs => P (.bl (valV kvs (keyT ns)).isSome)
def vDPutT (i : Nat) (dk dv : DE) (E : DEnds) (δ : Dl) : Prop := dv δ fun x => x.scal = true ∧ vVar i δ fun d => asDit d fun kvs => dk δ fun y => asTI y fun ns => kvs.length < 1000 ∧ E.nx (δ.set i (some (.dit (putK kvs (keyT ns) x.toV))))
end
end L3
set_option Elab.async false
set_option linter.all false
set_option maxRecDepth 100000
set_option maxHeartbeats 4000000
namespace L3
open PySem L2
section
variable {K : PySem.W.Frag} {Γ : List Nat}
def vTupR (xs : List D) (P : DK) : Prop := match xs with | [x] => asL x fun ds => P (.tup ds) | _ => False
theorem vTupR_lst {ds : List D} {P : DK} : vTupR [.lst ds] P ↔ P (.tup ds) := Iff.rfl
end
def isNum : D → Bool | .int _ => true | _ => false
def kn (d : D) : Bool := d.tyn.isSome
end L3
set_option Elab.async false
set_option linter.all false
set_option maxRecDepth 100000
set_option maxHeartbeats 4000000
namespace L3
open PySem L2
section
variable {K : PySem.W.Frag} {ρ : Bool} {Γr Γl Γ : List Nat}
def vClearTL (i j k : Nat) (E : DEnds) (δ : Dl) : Prop := slotT δ i fun es => j < δ.length ∧ asLst (es[k]?) fun ds => (∀ d ∈ ds, ∃ e, d = D.lst e) ∧ E.nx ((δ.set j none).set i none)
end
end L3
set_option Elab.async false
set_option linter.all false
set_option maxRecDepth 100000
set_option maxHeartbeats 4000000
namespace L3
open PySem L2 PySem.Calls PyProof.Rows
def tRng (te : TE) : TE := fun σ H Q => te σ H fun x H1 => ∃ n : Nat, x = .int (n : Int) ∧ ∀ r, H1 r = none → Q (.ref r) (upd H1 r (.rng 0 n))
section
variable {X : Cx}
theorem pe_rng {e : Expr} {te : TE} {p pos : Pos} (hg : Gl X "range") (hm : X.mg "range" = none) (he : PE X e te) (hs : starEach [e] X.env = [(false, eval e X.env)] := by rfl) :
    PE X (.Call (.Name "range" p) [e] [] pos) (tRng te) := by
  intro pins s σ H Q I h
  refine wpAny_Call_Name_kw (ld_blt I hg hm boot_range ?_)
  refine PyProof.Rows.callWith_type1 ?_ hs rfl
  rw [hs]
  refine Calls.spliced_cons (thn (he pins s σ H _ I h) fun v s1 ⟨x, H1, I1, r1, n, ex, q⟩ => ?_)
  subst ex
  obtain ⟨t, rfl⟩ := r1
  refine Calls.spliced_nil (call_range_1 ?_)
  have hn : H1 s1.heap.objs.size = none := I1.hok.fresh (Nat.le_refl _)
  exact ⟨.ref s1.heap.objs.size, _, I1.laid (o := .rng 0 (n : Int)) (fun b o e => Heap.get?_push_of_some _ e) (Nat.le_refl _) ⟨_, _, _, Heap.get?_push_size _ rfl⟩, rfl, q _ hn⟩
end
theorem triples_snoc {a b : Int} {t u : Tok} {c : Value} : ∀ {l : List Value}, TriplesOk l → TriplesOk (l ++ [.int a t, .int b u, c])
  | [], _ => trivial
  | .int _ _ :: .int _ _ :: _ :: rest, h => triples_snoc (l := rest) h
theorem among_snoc {pos : Pos} {a b : Int} {t u : Tok} {c cv : Value} : ∀ {l : List Value}, TriplesOk l → codeAmong pos (l ++ [.int a t, .int b u, c]) = some cv → codeAmong pos l = some cv ∨ cv = c
  | [], _, h => by
    simp only [List.nil_append, codeAmong] at h
    split at h
    · exact .inr (Option.some.inj h).symm
    · cases h
  | .int l1 t1 :: .int c1 u1 :: x :: rest, ht, h => by
    simp only [List.cons_append, codeAmong] at h ⊢
    split at h
    · rename_i e
      rw [if_pos e]; exact .inl h
    · rename_i e
      rw [if_neg e]
      exact among_snoc (l := rest) ht h
section
variable {X : Cx} {x y : Str} {params : Arguments} {scope : Scope} {pos p1 p2 p3 p4 : Pos} {cr c P : Addr}
def lamF (x y : Str) (params : Arguments) (scope : Scope) (p1 p2 p3 p4 : Pos) (cr : Addr) (pm : Value) (f c' : Addr) : HO :=
  .ext fun h => ∃ ctv, h.get? f = some (PySem.W.kla_obj "<lambda>" lamQ params (lamB x y p1 p2 p3 p4) scope [(x, cr)] pm c' ctv)
def BMd (base : Heap) (mg : Str → Option Value) : Prop := ∃ bm ob, mg "__builtins__" = some (.ref bm) ∧ bm ≠ builtinsNs ∧ base.get? bm = some ob ∧ ob.cls = .type "module" ∧ ob.dict = some builtinsNs ∧ ob.data = .plain
theorem lamC_ok {h : Heap} {c' : Addr} {P : Program} {w : World} {H : Hp} (hr : h.CodeRec (.ref c') lamQ) : ObjOk P w H h c' (lamC c') := by
  refine ⟨hr, ?_, fun h1 h2 ⟨c, o, vs, t, e1, e2, e3⟩ k => ?_⟩
  · obtain ⟨c, o, vs, t, e1, e2, e3⟩ := hr
    cases e1
    exact ⟨o, e2⟩
  · cases e1
    exact ⟨_, o, vs, t, rfl, k o e2, e3⟩
theorem lamF_ok {h : Heap} {f c' : Addr} {P : Program} {w : World} {H : Hp} {pm ctv : Value} (hf : h.get? f = some (PySem.W.kla_obj "<lambda>" lamQ params (lamB x y p1 p2 p3 p4) scope [(x, cr)] pm c' ctv)) :
    ObjOk P w H h f (lamF x y params scope p1 p2 p3 p4 cr pm f c') := ⟨⟨ctv, hf⟩, ⟨_, hf⟩, fun h1 h2 ⟨ctv, e⟩ k => ⟨ctv, k _ e⟩⟩
def tLam (P : Addr) (F : Addr → Addr → HO) : TE := fun σ H Q => TabAt P H ∧ ∀ f c' H', Same H H' → H f = none → H' f = some (F f c') → H' c' = some (lamC c') → Q (.ref f) H'
theorem pe_lam (hcl : closureFor scope X.env = pure [(x, cr)]) (hcode : X.env.code = .ref c) (hcd : PySem.W.codeHdIn X.K c P = true) (hq : X.env.qual ++ "<lambda>" = lamQ) (hdef : defaultsOf params X.env = ([], [])) (hbm : BMd X.base X.mg) :
    PE X (.Lambda params (lamB x y p1 p2 p3 p4) scope pos) (tLam P (lamF x y params scope p1 p2 p3 p4 cr ((X.mg "__name__").getD .none))) := by
  intro pins s σ H Q I h
  obtain ⟨⟨ps, hP, ht, hci⟩, q⟩ := h
  have hPo : s.heap.get? P = some (PySem.W.tabObj ps) := I.hok P _ hP
  have KX : X.K.In s.heap := I.mod.kin.keeps I.bk
  have C := PySem.W.codeHd_of_K KX hcd
  have hgs : s.heap.Ns mainGlobals X.mg := I.mod.glob.keeps I.bk
  have hgP : mainGlobals ≠ P := fun e => by
    obtain ⟨o, es, ep, e1, e2, _⟩ := hgs
    rw [e, hPo] at e1; cases e1; cases e2
  obtain ⟨bm, ob, b1, b2, b3, b4, b5, b6⟩ := hbm
  have b3' := I.bk _ _ b3
  have hbG : bm ≠ mainGlobals := fun e => by
    obtain ⟨o, es, ep, e1, e2, _⟩ := hgs
    rw [← e, b3'] at e1; cases e1; rw [b6] at e2; cases e2
  have hbP : bm ≠ P := fun e => by rw [e, hPo] at b3'; cases b3'; cases b4
  refine PySem.W.kla_eval hdef ?_
  rw [hq]
  cases hf : codeAmong pos ps.toList with
  | none =>
    refine PySem.W.kla_makeFunction (mg := X.mg) hcl I.ok.glob hgs hcode C hPo ht hf hgP ⟨bm, ob, b1, b2, hbG, hbP, b3', b4, b5, b6⟩ fun c' ctv h' tk hx hge hlt hrec htb => ?_
    have hfs : s.heap.objs.size ≤ h'.objs.size := Nat.le_trans hge (Nat.le_of_lt hlt)
    have hnf : H h'.objs.size = none := I.hok.fresh hfs
    have hnc : H c' = none := I.hok.fresh hge
    have nPc : P ≠ c' := ne_of_none hP hnc
    have nPf : P ≠ h'.objs.size := ne_of_none hP hnf
    have ncf : c' ≠ h'.objs.size := Nat.ne_of_lt hlt
    generalize hps : ps ++ #[rawInt pos.line, rawInt pos.col, .ref c'] = ps' at htb
    have hpl : ps'.toList = ps.toList ++ [rawInt pos.line, rawInt pos.col, .ref c'] := by rw [← hps, Array.toList_append]
    have keepH : ∀ b u, b ≠ P → H b = some u → upd (upd (upd H P (.tbl ps')) c' (lamC c')) h'.objs.size (lamF x y params scope p1 p2 p3 p4 cr ((X.mg "__name__").getD .none) h'.objs.size c') b = some u := fun b u hb e => by
      rw [upd_ne (ne_of_none e hnf), upd_ne (ne_of_none e hnc), upd_ne hb]; exact e
    have atP : upd (upd (upd H P (.tbl ps')) c' (lamC c')) h'.objs.size (lamF x y params scope p1 p2 p3 p4 cr ((X.mg "__name__").getD .none) h'.objs.size c') P = some (.tbl ps') := by
      rw [upd_ne nPf, upd_ne nPc, upd_same]
    have atC : upd (upd (upd H P (.tbl ps')) c' (lamC c')) h'.objs.size (lamF x y params scope p1 p2 p3 p4 cr ((X.mg "__name__").getD .none) h'.objs.size c') c' = some (lamC c') := by
      rw [upd_ne ncf, upd_same]
    have np : ∀ {b u}, H b = some u → NT u → b ≠ P := fun {b u} e n z => by
      subst z; rw [hP] at e; cases e; exact n
    have sm : Same H (upd (upd (upd H P (.tbl ps')) c' (lamC c')) h'.objs.size (lamF x y params scope p1 p2 p3 p4 cr ((X.mg "__name__").getD .none) h'.objs.size c')) := by
      refine ⟨fun b u e n => keepH b u (np e n) e, fun b qs e => ?_, fun P' ⟨qs, e, g1, g2⟩ => ?_⟩
      · by_cases z : b = P
        · subst z; exact ⟨_, atP⟩
        · exact ⟨qs, keepH b _ z e⟩
      · by_cases z : P' = P
        · subst z
          rw [hP] at e; cases e
          refine ⟨ps', atP, by rw [hpl]; exact triples_snoc g1, fun pos' cv z => ?_⟩
          rw [hpl] at z
          rcases among_snoc g1 z with z | z
          · obtain ⟨c2, z1, z2⟩ := g2 pos' cv z
            exact ⟨c2, z1, keepH c2 _ (np z2 trivial) z2⟩
          · exact ⟨c', z, atC⟩
        · exact ⟨qs, keepH P' _ z e, g1, fun pos' cv z => let ⟨c2, z1, z2⟩ := g2 pos' cv z; ⟨c2, z1, keepH c2 _ (np z2 trivial) z2⟩⟩
    have up : ∀ b o, b ≠ P → s.heap.get? b = some o → (h'.push (PySem.W.kla_obj "<lambda>" lamQ params (lamB x y p1 p2 p3 p4) scope [(x, cr)] ((X.mg "__name__").getD .none) c' ctv)).get? b = some o := fun b o hb e => Heap.get?_push_of_some _ (hx b o hb e)
    have nL : X.env.locals ≠ P := fun e => by
      have := I.free
      rw [e, hP] at this; cases this
    have nn : ∀ {b : Addr}, H b = none → b ≠ P := fun {b} e z => by subst z; rw [hP] at e; cases e
    refine ⟨.ref h'.objs.size, _, ?_, rfl, q h'.objs.size c' _ sm hnf upd_same atC⟩
    refine I.step (g' := s.gens) (d' := s.drawn) (t' := tk) (ch := []) (fun _ z => nomatch z) (fun b o _ _ _ e n => up b o (nn n) e) (fun b o _ _ _ e n => ⟨o.slots, up b o (nn n) e⟩) (fun b o _ e n => ?_) (fun b o _ e => ?_)
      (fun b xs e => sm.st b _ e trivial) (fun b o u e => sm.st b _ e trivial) (fun b qs e => ?_) (fun m hm => ?_) (fun b o e => ?_) I.bare
    · have hb := Heap.lt_size e
      rw [upd_ne (Nat.ne_of_lt (Nat.lt_of_lt_of_le hb hfs)), upd_ne (Nat.ne_of_lt (Nat.lt_of_lt_of_le hb hge)), upd_ne (nn n)]; exact n
    · by_cases z : b = P
      · subst z; exact ⟨_, Heap.get?_push_of_some _ htb⟩
      · exact ⟨o, up b o z e⟩
    · by_cases z : b = P
      · subst z
        rw [hP] at e; cases e
        exact ⟨#[rawInt pos.line, rawInt pos.col, .ref c'], by rw [hps]; exact atP⟩
      · exact ⟨#[], by rw [keepH b _ z e]; simp⟩
    · obtain ⟨o, es, ep, ho, r⟩ := hm
      exact ⟨o, es, ep, up _ o nL ho, r⟩
    · by_cases zf : b = h'.objs.size
      · subst zf
        rw [upd_same] at e; cases e
        exact lamF_ok (Heap.get?_push_size _ rfl)
      rw [upd_ne zf] at e
      by_cases zc : b = c'
      · subst zc
        rw [upd_same] at e; cases e
        exact lamC_ok (let ⟨cc, o, vs, t, e1, e2, e3⟩ := hrec; ⟨cc, o, vs, t, e1, Heap.get?_push_of_some _ e2, e3⟩)
      rw [upd_ne zc] at e
      by_cases zP : b = P
      · subst zP
        rw [upd_same] at e; cases e
        exact Heap.get?_push_of_some _ htb
      rw [upd_ne zP] at e
      refine (I.hok b o e).stay (fun d w' hd z => up d w' (fun y => ?_) z) (fun d z => sm.st d _ z trivial) fun d xs z => sm.st d _ z trivial
      subst y
      rcases hd with hd | hd
      · exact zP hd.symm
      · rw [hP] at hd; cases hd
  | some cv =>
    obtain ⟨c', rfl, hc'⟩ := hci pos cv hf
    refine PySem.W.kla_makeFunctionHit (mg := X.mg) hcl I.ok.glob hgs hcode C hPo ht hf ⟨bm, ob, b1, b2, hbG, hbP, b3', b4, b5, b6⟩ fun ctv h' tk hk hsz => ?_
    have hn : H h'.objs.size = none := I.hok.fresh hsz
    have hcf : c' ≠ h'.objs.size := ne_of_none hc' hn
    exact ⟨.ref h'.objs.size, _, I.laid (a := h'.objs.size) (t' := tk) (o := lamF x y params scope p1 p2 p3 p4 cr ((X.mg "__name__").getD .none) h'.objs.size c') (fun b o e => Heap.get?_push_of_some _ (hk b o e)) hsz (lamF_ok (Heap.get?_push_size _ rfl)), rfl,
      q _ c' _ (Same.new' hn) hn upd_same (by rw [upd_ne hcf]; exact hc')⟩
end
end L3
set_option Elab.async false
set_option linter.all false
set_option maxRecDepth 100000
set_option maxHeartbeats 4000000
namespace L3
open PySem L2 PySem.Calls PyProof.Rows
theorem ns_uni {h : Heap} {L : Addr} {m m' : Str → Option Value} (a : h.Ns L m) (b : h.Ns L m') : m = m' := by
  obtain ⟨o, es, ep, e1, e2, _, e3⟩ := a
  obtain ⟨o', es', ep', f1, f2, _, f3⟩ := b
  rw [e1] at f1; cases f1
  rw [e2] at f2; cases f2
  funext x
  rw [← e3 x, ← f3 x]
def tSortLam (K : PySem.W.Frag) (P : Addr) (i : Nat) : TE := fun σ H Q => ∃ (a : Addr) (ns : List Int), σ[i]? = some (some (.ref a)) ∧ SqL K H a (ns.map V.int) ∧ ns.length < 64 ∧ TabAt P H ∧
  ∀ (l : Addr) (H' : Hp) (ms : List Int), Same H H' → H l = none → H' l = some (.lst (ms.map V.int)) → ms.Perm (rngZ ns.length) → ms.Pairwise (fun a b => -(ns.getD a.toNat 0) ≤ -(ns.getD b.toNat 0)) → Q (.ref l) H'
section
variable {X : Cx} {K : PySem.W.Frag} {x y : Str} {params : Arguments} {scope : Scope} {pos p1 p2 p3 p4 : Pos} {cr c P : Addr} {i : Nat} {el : Expr} {tl : TE} {ps pr q2 q3 kpos : Pos}
theorem pe_sortLam (hK : X.K = K) (hc : X.calm = true) (hg : Gl X "sorted") (hm : X.mg "sorted" = none) (hg2 : Gl X "range") (hm2 : X.mg "range" = none) (hl : PE X el tl)
    (htl : ∀ σ H Q a xs, σ[i]? = some (some (.ref a)) → SqL X.K H a xs → Q (.int (xs.length : Int)) H → tl σ H Q)
    (hN : X.N[i]? = some x) (hv : Vis X.env.scope x) (hkx : X.env.kindOf x = some .cell) (hcr : X.env.cells.lookup x = some cr) (hroom : X.A.in1.in1.depth < recursionLimit)
    (hcl : closureFor scope X.env = pure [(x, cr)]) (hcode : X.env.code = .ref c) (hcd : PySem.W.codeHdIn X.K c P = true) (hq : X.env.qual ++ "<lambda>" = lamQ) (hdef : defaultsOf params X.env = ([], [])) (hbm : BMd X.base X.mg)
    (hb : ∀ (v pm ctv : Value) (c' : Addr), bindArgs (PySem.W.kla_fn "<lambda>" lamQ params (lamB x y p1 p2 p3 p4) scope [(x, cr)] pm (.ref c') ctv) ⟨[v], []⟩ = pure [(y, v)])
    (hy : scope.names.lookup y = some .local) (hxf : scope.names.lookup x = some .free) (hnc : ∀ n ∈ scope.names, n.2 ≠ .cell) (hk : scope.kind = .function) (hco : scope.isCoroutine = false) (hgen : scope.isGenerator = false)
    (hdx : (x == ("__debug__" : Str)) = false) (hdy : (y == ("__debug__" : Str)) = false) (hcx : (x == ("__classdict__" : Str)) = false)
    (he : backTo q3 (starEach [Expr.Call (.Name "range" pr) [el] [] q2] X.env) = (false, eval (.Call (.Name "range" pr) [el] [] q2) X.env) :: backTo q3 (starEach [] X.env) := by rfl)
    (hs : starEach [el] X.env = [(false, eval el X.env)] := by rfl)
    (hplain : (backTo q3 (starEach [Expr.Call (.Name "range" pr) [el] [] q2] X.env)).any (·.1) = false := by rfl)
    (hall : (backToKw q3 (keywordEach [⟨some "key", .Lambda params (lamB x y p1 p2 p3 p4) scope pos, kpos⟩] X.env)).all (·.1.isSome) = true := by rfl)
    (hkn : (backToKw q3 (keywordEach [⟨some "key", .Lambda params (lamB x y p1 p2 p3 p4) scope pos, kpos⟩] X.env)).any (·.1.isNone) = false := by rfl)
    (hks : (backToKw q3 (keywordEach [⟨some "key", .Lambda params (lamB x y p1 p2 p3 p4) scope pos, kpos⟩] X.env)).filterMap (·.1) = [("key" : Str)] := by rfl) :
    PE X (.Call (.Name "sorted" ps) [.Call (.Name "range" pr) [el] [] q2] [⟨some "key", .Lambda params (lamB x y p1 p2 p3 p4) scope pos, kpos⟩] q3) (tSortLam K P i) := by
  subst hK
  intro pins s σ H Q I h
  obtain ⟨a, ns, hσ, hS, h64, hT, q⟩ := h
  have hpa : PA X [Expr.Call (.Name "range" pr) [el] [] q2] (tCons (tRng tl) tNil) := pa_cons (pe_rng hg2 hm2 hl hs) pa_nil
  have hpk : PK X [⟨some "key", .Lambda params (lamB x y p1 p2 p3 p4) scope pos, kpos⟩] (tCons (tLam P (lamF x y params scope p1 p2 p3 p4 cr ((X.mg "__name__").getD .none))) tNil) := pk_cons (pe_lam hcl hcode hcd hq hdef hbm) pk_nil
  refine wpAny_Call_Name_kw (ld_blt I hg hm boot_sorted ?_)
  refine callWith_kw (thn (hpa q3 pins s σ H (fun vs H1 => ∃ r : Addr, vs = [V.ref r] ∧ H r = none ∧ H1 = upd H r (.rng 0 (ns.length : Int))) I (htl σ H _ a _ hσ hS ⟨ns.length, by rw [List.length_map], fun r hr => ⟨r, rfl, hr, rfl⟩⟩)) fun us s1 ⟨vs, H1, I1, r1, r, e1, hr, e2⟩ => ?_) he hplain hall hkn
  subst e1 e2
  obtain ⟨u1, rfl, ru⟩ := vals1 r1
  obtain rfl : u1 = Value.ref r := ru
  have s01 : Same H (upd H r (.rng 0 (ns.length : Int))) := Same.new' hr
  refine thn (hpk q3 pins s1 σ _ (fun zs H2 => ∃ f c' : Addr, zs = [V.ref f] ∧ Same (upd H r (.rng 0 (ns.length : Int))) H2 ∧ H2 f = some (lamF x y params scope p1 p2 p3 p4 cr ((X.mg "__name__").getD .none) f c') ∧ H2 c' = some (lamC c')) I1 ⟨s01.ti _ hT, fun f c' H2 sm _ hf hc' => ⟨f, c', rfl, sm, hf, hc'⟩⟩) fun ws s2 ⟨zs, H2, I2, rz, f, c', e1, s12, hf, hc'⟩ => ?_
  subst e1
  obtain ⟨u2, rfl, ru2⟩ := vals1 rz
  obtain rfl : u2 = Value.ref f := ru2
  rw [hks]
  have s02 := s01.trans s12
  have hS2 := s02.seq hS
  obtain ⟨m, hn, hloc⟩ := I2.loc
  obtain ⟨u, rr, look⟩ := hloc i x (.ref a) hN hσ hv
  obtain rfl : u = Value.ref a := rr
  have hcell : s2.heap.IsCell cr (some (.ref a)) := by
    rcases look with ⟨z, _⟩ | ⟨_, c2, z1, z2⟩
    · rw [hkx] at z; cases z
    · rw [hcr] at z1; cases z1; exact z2
  have hrg := I2.hok r _ (s12.st r _ upd_same trivial)
  obtain ⟨t1, t2, t3, hrg⟩ := hrg
  obtain ⟨⟨ctv, hfo⟩, _⟩ := I2.hok f _ hf
  obtain ⟨hco', _⟩ := I2.hok c' _ hc'
  obtain ⟨its, rv, pl, hz⟩ := I2.list hS2
  obtain ⟨oL, esL, epL, eL1, eL2, eL3⟩ := id hn
  have nl : ∀ {b : Addr} {o : Obj}, s2.heap.get? b = some o → (∀ es ep, o.data ≠ .dict es ep) → b ≠ X.env.locals := fun {b o} e d z => by
    subst z; rw [e] at eL1; cases eL1; exact d _ _ eL2
  have nH : ∀ {b : Addr} {o : HO}, H2 b = some o → b ≠ X.env.locals := fun {b o} e z => by
    subst z; have := I2.free; rw [e] at this; cases this
  refine sorted_key (n := ns.length) (L := X.env.locals) (m := m) (key := fun j => -(ns.getD j 0)) (I.ok.hd hc) hrg h64 hn (fun j t0 hh tk hj kh nn => ?_) fun h' tk D out cp ms kh nn hD hge hi hp hw => ?_
  · obtain ⟨oc, ec, dc⟩ := id hcell
    obtain ⟨w1, hw1, rw1⟩ := rv.get (show (ns.map V.int)[j]? = some (.int (ns.getD j 0)) by rw [List.getElem?_map, List.getD_eq_getElem?_getD, List.getElem?_eq_getElem hj]; rfl)
    obtain ⟨tz, rfl⟩ := rw1
    obtain ⟨oa, ea, ca, na, da⟩ := id pl.isList
    refine lam_call (s := { s2 with heap := hh, toks := tk }) (cr := cr) (a := a) (items := its.toArray) (z := ns.getD j 0) (tz := tz) (kh _ _ (nH hf) hfo) ?_ hroom ?_ ⟨oc, kh _ _ (nl ec (fun es ep z => by rw [dc] at z; cases z)) ec, dc⟩ (pl.isList.at fun o e => kh _ o (nl ea (fun es ep z => by rw [da] at z; cases z)) e) (by simpa using hw1) (by omega) (fun v => hb v _ _ _) hy hxf hnc hk hco hgen hdx hdy hcx fun h' tk' t' kk => ⟨h', tk', t', rfl, rfl, fun b o _ e => kk b o e, ?_⟩
    · obtain ⟨cc, o, vs, t, e1, e2, e3⟩ := hco'
      cases e1
      exact ⟨_, o, vs, t, rfl, kh _ _ (nH hc') e2, e3⟩
    · exact I2.mod.nolimit.keeps fun b o e => kh b o (fun z => Nat.lt_irrefl b (by
        have h1 := Heap.lt_size e
        have h2 := I2.ok.bsz
        have h3 := I2.ok.above
        rw [← z] at h3
        exact Nat.lt_of_lt_of_le h1 (Nat.le_trans h2 h3))) (I2.bk b o e)
    · obtain ⟨o, es, ep, e1, e2⟩ := nn
      exact ⟨o, es, ep, kk _ _ e1, e2⟩
  · have hnD : H2 D = none := I2.hok.fresh hge
    have sD : Same H2 (upd H2 D (.lst (ms.map V.int))) := Same.new' hnD
    refine ⟨.ref D, upd H2 D (.lst (ms.map V.int)), ?_, rfl, q D _ ms (s02.trans sD) (s02.free hnD) upd_same hp hw⟩
    have keepH : ∀ b u, H2 b = some u → upd H2 D (.lst (ms.map V.int)) b = some u := fun b u e => by rw [upd_ne (ne_of_none e hnD)]; exact e
    refine I2.step (g' := s2.gens) (d' := s2.drawn) (t' := tk) (ch := []) (fun _ z => nomatch z) (fun b o hb _ _ e n => kh b o hb e) (fun b o hb _ _ e n => ⟨o.slots, kh b o hb e⟩) (fun b o _ e n => ?_) (fun b o _ e => ?_)
      (fun b xs e => keepH b _ e) (fun b o u e => keepH b _ e) (fun b qs e => ⟨#[], by rw [keepH b _ e]; simp⟩) (fun m' hm' => ?_) (fun b o e => ?_) I2.bare
    · rw [upd_ne (Nat.ne_of_lt (Nat.lt_of_lt_of_le (Heap.lt_size e) hge))]; exact n
    · by_cases z : b = X.env.locals
      · subst z
        obtain ⟨o', es, ep, e1, _⟩ := nn
        exact ⟨o', e1⟩
      · exact ⟨o, kh b o z e⟩
    · rw [ns_uni hm' hn]; exact nn
    · by_cases zD : b = D
      · subst zD
        rw [upd_same] at e; cases e
        have hml := hp.length_eq
        rw [List.length_map, List.length_range] at hml
        refine ⟨by rw [List.length_map, sizeLine_eq]; omega, out.toList, cp, vals_of_ints hi, ?_⟩
        rw [hD]
      · rw [upd_ne zD] at e
        refine (I2.hok b o e).stay (fun d w' hd z => kh d w' ?_ z) (fun d z => keepH d _ z) fun d xs z => keepH d _ z
        rcases hd with rfl | hd
        · exact nH e
        · exact nH hd
end
end L3
set_option Elab.async false
set_option linter.all false
set_option maxRecDepth 100000
set_option maxHeartbeats 4000000
namespace L3
open PySem L2 PySem.Spec PyProof.Rows
def OnlyT (P : Addr) (H : Hp) : Prop := (∀ b, H b = none ∨ b = P ∨ ∃ o xs, H b = some (.frz o (.lst xs))) ∧ H P = some (.tbl #[])
theorem OnlyT.tab {P : Addr} {H : Hp} (h : OnlyT P H) : TabAt P H := ⟨#[], h.2, trivial, fun pos cv e => by simp [codeAmong] at e⟩
theorem law_callT {P0 : Program} {w : World} {K : PySem.W.Frag} {mg mb : Str → Option Value} {CX : CXT} {k : Nat} {fa a c P : Addr} {fd : FuncData} {x : Str} {sp : Sp} {s₁ : Shared} {vs : List Value} {ns : List Int}
    (KX : K.In s₁.heap) (hns : s₁.heap.Ns mainGlobals mg) (hb : s₁.heap.Ns builtinsNs mb) (hbb : ∀ x : Str, x ≠ "__name__" → mb x = bootBuiltins x) (hlim : s₁.heap.NoLimit) (hg : s₁.gens = #[])
    (ha : s₁.heap.get? a = some { cls := .type "list", data := .seq vs.toArray }) (hi : IntsAre vs ns) (hl : ns.length ≤ sizeLine) (hr : Room k callerA) (hP : s₁.heap.get? P = some (PySem.W.tabObj #[])) (hKP : K.lookup P = none) (hcd : PySem.W.codeHdIn K c P = true)
    (hbm : BMd s₁.heap mg) (F : ∀ base : Heap, K.In base → base.Ns mainGlobals mg → BMd base mg → FnOk P0 w K mg base CX k fa fd [x] sp) (hbind : ∀ (s : Shared) (u : Value), BindsTo s fd ⟨[u], []⟩ [(x, u)])
    (hsp : ∀ H : Hp, OnlyT P H → SqL K H a (ns.map V.int) → sp [.ref a] H (fun v _ => v = .bl true) fun _ _ _ => False)
    (hCX : ∀ H e s', CX [] H s₁ (fun _ _ _ => False) e s' → False) :
    codeAny (model P0 w) callerA (.call (.ref fa) ⟨[.ref a], []⟩) (fun r s' => r = .ok (.ret (.bool true)) ∧ OldK s₁.heap s'.heap ∧ s'.os = s₁.os ∧ AllBare s'.gens) s₁ := by
  have rv := vals_ints hi
  have lenV := hi.length
  have C := PySem.W.codeHd_of_K KX hcd
  have haP : a ≠ P := fun z => by rw [z, hP] at ha; cases ha
  have core : ∀ H : Hp, OnlyT P H → SqL K H a (ns.map V.int) → HOk P0 w H s₁.heap → (∀ b, H b ≠ none → b = a ∨ b = P) → (H a ≠ none → K.lookup a = none) →
      codeAny (model P0 w) callerA (.call (.ref fa) ⟨[.ref a], []⟩) (fun r s' => r = .ok (.ret (.bool true)) ∧ OldK s₁.heap s'.heap ∧ s'.os = s₁.os ∧ AllBare s'.gens) s₁ := by
    intro H hO hS hok hA hK
    have noA : ∀ {b : Addr} {o : Obj} {es : Array DictEntry} {ep : Nat}, s₁.heap.get? b = some o → o.data = .dict es ep → H b = none := fun {b o es ep} e d => by
      cases q : H b with
      | none => rfl
      | some u =>
        rcases hA b (by rw [q]; simp) with z | z
        · subst z
          rw [ha] at e; cases e
          have d' : Data.seq vs.toArray _ = Data.dict es ep := d
          cases d'
        · subst z
          rw [hP] at e; cases e
          have d' : Data.fields #[] = Data.dict es ep := d
          cases d'
    have nsK : ∀ {b : Addr} {m : Str → Option Value}, s₁.heap.Ns b m → (hidT s₁.heap H).Ns b m := fun {b m} ⟨o, es, ep, e, d, r⟩ => ⟨o, es, ep, hidT_get e (noA e d), d, r⟩
    have hKb : K.In (hidT s₁.heap H) := fun b o e => hidT_get (KX b o e) (by
      cases q : H b with
      | none => rfl
      | some u =>
        rcases hA b (by rw [q]; simp) with z | z
        · subst z
          rw [hK (by rw [q]; simp)] at e; cases e
        · subst z
          rw [hKP] at e; cases e)
    have hM : Mod K mg (hidT s₁.heap H) := ⟨hKb, nsK hns, ⟨mb, nsK hb, hbb⟩, let ⟨mc, h1, h2⟩ := hlim; ⟨mc, nsK h1, h2⟩⟩
    have e0 : Env0 P0 w K mg (hidT s₁.heap H) callerA [] s₁ H := ⟨rfl, hM, fun b o e => of_hidT e, Nat.le_of_eq (hidT_size _ _), trivial, fun b hb => absurd (show b ∈ ([] : List Addr) from hb) (by simp), hok, .of_eq hg⟩
    have hbm' : BMd (hidT s₁.heap H) mg := by
      obtain ⟨bm, ob, b1, b2, b3, b4, b5, b6⟩ := hbm
      refine ⟨bm, ob, b1, b2, hidT_get b3 ?_, b4, b5, b6⟩
      cases q : H bm with
      | none => rfl
      | some u =>
        rcases hA bm (by rw [q]; simp) with z | z
        · subst z; rw [ha] at b3; cases b3
          exact absurd (show Value.type "list" = Value.type "module" from b4) (by decide)
        · subst z; rw [hP] at b3; cases b3; cases b4
    refine codeAny_mono ((F _ hKb (nsK hns) hbm').run callerA [] s₁ H ⟨[.ref a], []⟩ [.ref a] [.ref a] _ _ hr e0 (hbind s₁ (.ref a)) (.cons rfl .nil) (hsp H hO hS)) fun r s' h => ?_
    cases r with
    | error e => exact (hCX H e s' h).elim
    | ok fl =>
      cases fl with
      | next => exact False.elim h
      | brk => exact False.elim h
      | cont => exact False.elim h
      | ret u =>
        obtain ⟨v, H', os, bare, un, hok', r', q⟩ := h
        have q' : v = .bl true := q
        subst q'
        obtain rfl : u = Value.bool true := r'
        have keep : ∀ b o, b ≠ P → s₁.heap.get? b = some o → s'.heap.get? b = some o := fun b o hbP e => by
          cases q : H b with
          | none => exact un.keep b o e q (by intro z; exact absurd (show b ∈ ([] : List Addr) from z) (by simp)) (by simp)
          | some u =>
            rcases hO.1 b with z | z | ⟨ob, xs, z⟩
            · rw [q] at z; cases z
            · exact absurd z hbP
            · have z2 := un.frzs b ob _ z
              obtain ⟨e1, _⟩ := hok b _ z
              obtain ⟨e2, _⟩ := hok' b _ z2
              rw [e] at e1; cases e1
              exact e2
        obtain ⟨more, hm⟩ := un.tbls P #[] hO.2
        have hP' : s'.heap.get? P = some { cls := .none, data := .fields (#[] ++ more) } := hok' P _ hm
        refine ⟨rfl, ⟨fun b o e => ?_, fun b o e => ?_⟩, os, bare⟩
        · by_cases z : b = P
          · subst z
            rw [hP] at e; cases e
            exact .inr (.inl ⟨(C.tab hP).isCodeTable, rfl, #[], more, rfl, hP'⟩)
          · exact .inl (keep b o z e)
        · by_cases z : b = P
          · subst z; exact ⟨_, hP'⟩
          · exact ⟨o, keep b o z e⟩
  cases hk : K.lookup a with
  | some o =>
    have e := KX a o hk
    rw [ha] at e
    cases e
    refine core (fun b => if b = P then some (.tbl #[]) else none) ⟨fun b => ?_, if_pos rfl⟩ (.inr ⟨_, vs.toArray, _, hk, rfl, rfl, rfl, by rw [List.size_toArray, lenV]; exact hl, by simpa using rv⟩) (fun b u z => ?_) (fun b z => ?_) fun z => absurd (if_neg haP) z
    · by_cases z : b = P
      · exact .inr (.inl z)
      · exact .inl (if_neg z)
    · by_cases y : b = P
      · have z' := (if_pos y).symm.trans z
        cases z'
        subst y
        exact hP
      · have z' := (if_neg y).symm.trans z
        cases z'
    · by_cases y : b = P
      · exact .inr y
      · exact absurd (if_neg y) z
  | none =>
    refine core (fun b => if b = a then some (.frz { cls := .type "list", data := .seq vs.toArray } (.lst (ns.map V.int))) else if b = P then some (.tbl #[]) else none) ⟨fun b => ?_, by show (if _ then _ else _) = _; rw [if_neg (Ne.symm haP), if_pos rfl]⟩ (.inl (.inr ⟨{ cls := .type "list", data := .seq vs.toArray }, if_pos rfl⟩)) (fun b u z => ?_) (fun b z => ?_) fun _ => hk
    · by_cases y : b = a
      · exact .inr (.inr ⟨_, _, if_pos y⟩)
      · by_cases y2 : b = P
        · exact .inr (.inl y2)
        · exact .inl (by show (if _ then _ else _) = _; rw [if_neg y, if_neg y2])
    · by_cases y : b = a
      · have z' := (if_pos y).symm.trans z
        cases z'
        subst y
        exact ⟨ha, by rw [List.length_map]; exact hl, vs, _, rv, ha⟩
      · have z' := (if_neg y).symm.trans z
        by_cases y2 : b = P
        · have z2 := (if_pos y2).symm.trans z'
          cases z2
          subst y2
          exact hP
        · have z2 := (if_neg y2).symm.trans z'
          cases z2
    · by_cases y : b = a
      · exact .inl y
      · by_cases y2 : b = P
        · exact .inr y2
        · exact absurd (by show (if _ then _ else _) = _; rw [if_neg y, if_neg y2]) z
theorem walk_ofT {l : PySem.W.OpenLaw} {n k : Nat} {q : Program} {loose : List Str} {XP : (Str → Option Value) → Heap → Prop} {YP : World → Heap → Prop} {d : DefRec} {K : Params → PySem.W.Frag} {CX : World → CXT} {sp : World → Sp} {x : Str} {c P : Addr}
    (hn : l.most = some n) (hn2 : n ≤ sizeLine) (hdf : d.params.defaults = []) (hr : Room k callerA)
    (hY : ∀ (w : World) (h : Heap), YP w h → (K w.params).In h) (hT : ∀ (w : World) (h : Heap), YP w h → h.get? P = some (PySem.W.tabObj #[])) (hKP : ∀ w : World, (K w.params).lookup P = none) (hcd : ∀ w : World, PySem.W.codeHdIn (K w.params) c P = true)
    (F : ∀ (w : World) (mg : Str → Option Value) (fa : Addr) (h : Heap), (K w.params).In h → h.Ns mainGlobals mg → mg d.name = some (.ref fa) →
      ∃ fd : FuncData, (∀ (s : Shared) (u : Value), BindsTo s fd ⟨[u], []⟩ [(x, u)]) ∧
        ∀ base : Heap, (K w.params).In base → base.Ns mainGlobals mg → BMd base mg → FnOk l.prog w (K w.params) mg base (CX w) k fa fd [x] (sp w))
    (hsp : ∀ (w : World) (H : Hp) (a : Addr) (ns : List Int), ns.length ≤ n → OnlyT P H → SqL (K w.params) H a (ns.map V.int) → sp w [.ref a] H (fun v _ => v = .bl true) fun _ _ _ => False)
    (hCX : ∀ (w : World) (H : Hp) (s : Shared) (e : Value) (s' : Shared), CX w [] H s (fun _ _ _ => False) e s' → False) :
    PySem.W.WalkO q loose XP YP l.row.toRowW d [] (fun f vs => PySem.call f vs) := by
  refine Att.attach_call hn hdf fun w s₀ s₁ mg mb fa o pm cd doc a vs ns G Y ho hd hcd' hmg hobj hints hlen hg => ?_
  have KX := hY w _ Y
  obtain ⟨fd, hb, hF⟩ := F w mg fa _ KX G.T.g hmg
  exact law_callT KX G.T.g G.T.b G.T.builtins G.T.nolimit hg hobj hints (Nat.le_trans hlen hn2) hr (hT w _ Y) (hKP w) (hcd w) (let ⟨bm, ob, b1, b2, b3, b4, b5, b6⟩ := G.T.bmain; ⟨bm, ob, b1, b2, b3, b4, b5, b6⟩) hF hb (fun H hO hS => hsp w H a ns hlen hO hS) fun H e s' => hCX w H s₁ e s'
end L3
set_option Elab.async false
set_option linter.all false
set_option maxRecDepth 100000
set_option maxHeartbeats 4000000
namespace L3
open PySem L2 PyProof.Rows
section
variable {P : Program} {w : World} {K : PySem.W.Frag} {mg : Str → Option Value} {base : Heap}
theorem sc_ofT {H : Hp} {a : Addr} {xs : List V} (hO : OnlyT tabP H) (h : SqL K H a xs) : Sc K H a xs := by
  rcases h with (h | ⟨o, h⟩) | h
  · rcases hO.1 a with z | z | ⟨o, ys, z⟩
    · rw [h] at z; cases z
    · subst z
      have := hO.2
      rw [h] at this; cases this
    · rw [h] at z; cases z
  · exact .inl ⟨o, h⟩
  · exact .inr h
def LamAt (K : PySem.W.Frag) (mg : Str → Option Value) (base : Heap) : Prop := ∃ f fd c, mg "falling_places" = some (.ref f) ∧ (∃ oc od sl, K.lookup f = some ⟨oc, od, .func fd, sl⟩) ∧ fd.code = .ref c ∧ PySem.W.codeHdIn K c tabP = true ∧ BMd base mg
theorem Fun.okL {x qual : Str} {st : Stmt} {f c : Addr} {fd : FuncData} {N ps : List Str} {k : Nat} {sp : Sp} (F : Fun K x qual st f fd) (hfc : fd.code = .ref c) (S : FnScope N ps (defScope st)) (len : ∀ vs H Q E, sp vs H Q E → vs.length = ps.length)
    (hbody : ∀ (A : Around) (outer : List Env) (s : Shared) (H : Hp) (vs : List V) (Q : VK) (E : XK), Room k (A.deeper (envOfC qual (defScope st) s.heap.objs.size f (.ref c))) → sp vs H Q E →
      ∃ t, PSs (cxOf CX0 P w K mg base N qual (defScope st) f (.ref c) A outer s H E).nox (defBody st) t ∧ t { nx := fun _ H' => Q .non H', rt := Q } (L2.start N vs) H) : FnOk P w K mg base CX0 (k + 1) f fd ps sp := by
  obtain ⟨oc, od, kV, doc, pm, an, cdv, ct, osl, rfl, lk, hcd⟩ := F.ex
  obtain rfl : cdv = .ref c := hfc
  refine fn_of lk hcd S len fun A outer s H vs Q E hr hsp => ?_
  obtain ⟨t, h, q⟩ := hbody A outer s H vs Q E hr hsp
  exact ⟨t, h.nox, q⟩
theorem LamAt.of {f : Addr} {fd : FuncData} {st : Stmt} {ps : List Str} (T : LamAt K mg base) (F : FnAt K mg "falling_places" st ps f fd) : ∃ c, fd.code = .ref c ∧ PySem.W.codeHdIn K c tabP = true ∧ BMd base mg := by
  obtain ⟨f', fd', c, hmg, ⟨oc, od, sl, lk⟩, hfc, hcd, hbm⟩ := T
  have e1 := hmg.symm.trans F.mg
  cases e1
  obtain ⟨_, _, _, _, _, _, _, _, _, rfl, lk', _⟩ := F.fn.ex
  rw [lk] at lk'
  cases lk'
  exact ⟨c, hfc, hcd, hbm⟩
end
section
variable {K : PySem.W.Frag} {Γ : List Nat} {i : Nat}
theorem vVar_e {δ : Dl} {i : Nat} {x : D} {P : DK} (e : δ[i]? = some (some x)) (h : P x) : vVar i δ P := by
  unfold vVar
  rw [e]
  exact h
def vSortLam (i : Nat) : DE := fun δ P => vVar i δ fun x => asL x fun ds => ∃ ns : List Int, ds = ns.map D.int ∧ ns.length < 64 ∧ ∀ ms : List Int, ms.Perm (rngZ ns.length) → ms.Pairwise (fun a b => ns.getD b.toNat 0 ≤ ns.getD a.toNat 0) → P (dI ms)
theorem em_sortLam (i : Nat) : EM K Γ [] (tSortLam K tabP i) (vSortLam i) :=
  ⟨fun δ P P' k h => by
    obtain ⟨x, e, z⟩ := vVar_out h
    obtain ⟨ds, e2, ns, e3, h64, z⟩ := asL_out z
    exact vVar_e e (asL_in e2 ⟨ns, e3, h64, fun ms h1 h2 => k _ (z ms h1 h2)⟩),
   fun {B0 fps δ σ H Q} o h => by
    obtain ⟨x, e, z⟩ := vVar_out h
    obtain ⟨ds, e2, ns, rfl, h64, z⟩ := asL_out z
    obtain ⟨v, hv, r⟩ := o.val i _ e
    obtain ⟨a, xs, fq, rfl, hs, hr, _⟩ := r.seq e2
    obtain ⟨rfl, _⟩ := hr.scals scal_ints
    refine ⟨a, ns, hv, by rw [List.map_map] at hs; exact hs, h64, o.b0.now, fun l H' ms sm hl hl' hp hw => ?_⟩
    exact z ms hp (hw.imp fun h => by omega) _ _ [l] sm (Rf.ofInts hl') ⟨by simp, fun b hb => by cases List.mem_singleton.mp hb; exact .inl ⟨_, hl'⟩, fun b hb => by cases List.mem_singleton.mp hb; exact .inl hl⟩⟩
end
end L3
set_option Elab.async false
set_option linter.all false
set_option maxRecDepth 100000
set_option maxHeartbeats 4000000
namespace L3
open PySem L2
section
variable {K : PySem.W.Frag} {ρ : Bool} {Γr Γl Γ : List Nat} {H : Hp}
theorem upd_imm {b : Addr} {ys : List V} {o : HO} (hb : H b = some (.lst ys)) : ∀ a w, H a = some w → Im w → upd H b o a = some w := fun a w e hi => by
  have : a ≠ b := fun z => by
    subst z
    rw [hb] at e; cases e
    rcases hi with ⟨_, z⟩ | ⟨_, _, z⟩ <;> cases z
  rw [upd_ne this]; exact e
theorem Rfs.putAt {b : Addr} {ys : List V} {o : HO} {d d' : D} {x : V} (hb : H b = some (.lst ys)) (hd : ∀ f, Rf K H d x f → f.Nodup → b ∈ f → Rf K (L2.upd H b o) d' x f) :
    ∀ {ds : List D} {xs : List V} {fq : List Addr} {m : Nat}, Rfs K H ds xs fq → fq.Nodup → ds[m]? = some d → xs[m]? = some x → (∀ f, Rf K H d x f → b ∈ f) → Rfs K (L2.upd H b o) (ds.set m d') xs fq
  | [], _, _, m, _, _, e, _, _ => by simp at e
  | d0 :: ds, xs, fq, 0, h, nd, e, ex, hm => by
    obtain ⟨x0, r, f1, f2, rfl, rfl, h1, h2⟩ := h
    simp at e ex
    subst e; subst ex
    obtain ⟨n1, n2, n3⟩ := List.nodup_append.mp nd
    have hbf := hm f1 h1
    exact ⟨x0, r, f1, f2, rfl, rfl, hd f1 h1 n1 hbf, h2.mono (fun a ha w e => by rw [upd_ne (fun z => n3 b hbf a ha z.symm)]; exact e) (upd_imm hb)⟩
  | d0 :: ds, xs, fq, m + 1, h, nd, e, ex, hm => by
    obtain ⟨x0, r, f1, f2, rfl, rfl, h1, h2⟩ := h
    simp only [List.getElem?_cons_succ] at e ex
    obtain ⟨n1, n2, n3⟩ := List.nodup_append.mp nd
    obtain ⟨w, f, e1, r1, hf⟩ := h2.get e
    rw [ex] at e1; cases e1
    have hb2 := hf b (hm f r1)
    exact ⟨x0, r, f1, f2, rfl, rfl, h1.mono (fun a ha w e => by rw [upd_ne (fun z => n3 a ha b hb2 z)]; exact e) (upd_imm hb), Rfs.putAt hb hd h2 n2 e ex hm⟩
theorem Rf.putIn {d : List D} {v : V} {fp : List Addr} {m : Nat} {es es' : List D} (h : Rf K H (.lst d) v fp) (nd : fp.Nodup) (em : d[m]? = some (.lst es)) (s : es.all D.scal = true) (s' : es'.all D.scal = true) :
    ∃ a ys c, v = .ref a ∧ H a = some (.lst ys) ∧ ys[m]? = some (.ref c) ∧ H c = some (.lst (es.map D.toV)) ∧ c ∈ fp ∧ (∀ f, Rf K H (.lst d) v f → c ∈ f) ∧ ∀ f, Rf K H (.lst d) v f → f.Nodup → Rf K (L2.upd H c (.lst (es'.map D.toV))) (.lst (d.set m (.lst es'))) v f := by
  obtain ⟨a, ys, fq, rfl, ha, rfl, hr⟩ := h
  obtain ⟨w, f, e1, r, hf⟩ := hr.get em
  obtain ⟨c, zs, fe, rfl, hc, rfl, hes⟩ := r
  obtain ⟨rfl, rfl⟩ := hes.scals s
  have leaf : ∀ f, Rf K H (.lst es) (.ref c) f → f = [c] := fun f r => by
    obtain ⟨b', ys, fe, e1, hb, rfl, hes⟩ := r
    cases e1
    rw [(hes.scals s).2]
  have inn : ∀ f, Rf K H (.lst d) (.ref a) f → c ∈ f := fun f r => by
    obtain ⟨a', ys', fq', e2, ha', rfl, hr'⟩ := r
    cases e2
    rw [ha] at ha'; cases ha'
    obtain ⟨w', f', e3, r', hf'⟩ := hr'.get em
    rw [e1] at e3; cases e3
    rw [leaf f' r'] at hf'
    exact List.mem_cons_of_mem _ (hf' c List.mem_cons_self)
  refine ⟨a, ys, c, rfl, ha, e1, hc, List.mem_cons_of_mem _ (hf c List.mem_cons_self), inn, fun f r nf => ?_⟩
  obtain ⟨a', ys', fq', e2, ha', rfl, hr'⟩ := r
  cases e2
  rw [ha] at ha'; cases ha'
  obtain ⟨na, nq⟩ := List.nodup_cons.mp nf
  have hcq : c ∈ fq' := by
    obtain ⟨w', f', e3, r', hf'⟩ := hr'.get em
    rw [e1] at e3; cases e3
    rw [leaf f' r'] at hf'
    exact hf' c List.mem_cons_self
  have hac : a ≠ c := fun z => na (z ▸ hcq)
  refine ⟨a, ys, fq', rfl, by rw [upd_ne hac]; exact ha, rfl, Rfs.putAt hc (fun f r _ _ => ?_) hr' nq em e1 fun f r => ?_⟩
  · rw [leaf f r]; exact ⟨c, _, [], rfl, upd_same, rfl, Rfs.ofScals s'⟩
  · rw [leaf f r]; exact List.mem_cons_self
def vClearL (i m : Nat) (E : DEnds) (δ : Dl) : Prop := ∃ (ds es : List D), δ[i]? = some (some (.lst ds)) ∧ ds[m]? = some (.lst es) ∧ es.all D.scal = true ∧ E.nx (δ.set i (some (.lst (ds.set m (.lst [])))))
theorem st_clearL (i m : Nat) (hi : i ∈ Γ := by decide) : ST K ρ Γr Γl (tDrop (tBM0 K "list" rClear (tOp (rIxL K) (tVar i) (tC (.int (m : Int)))))) Γ Γ (vClearL i m) := by
  intro B0 Dn E fps δ σ H kk o h
  obtain ⟨ds, es, e, em, hs, hE⟩ := h
  obtain ⟨v, g1, r⟩ := o.val i _ e
  obtain ⟨nd, hmu⟩ := o.own i hi
  obtain ⟨a, ys, c, rfl, ha, e1, hc, hcf, hin, hput⟩ := Rf.putIn (es' := []) r nd em hs rfl
  have hmy : m < ys.length := (List.getElem?_eq_some_iff.mp e1).1
  refine ⟨.ref a, g1, a, ys, (m : Int), .ref c, rfl, rfl, .inl (.inl ha), by unfold atI; rw [ixN_nat (by omega) (by omega), Int.toNat_natCast]; exact e1, .inl ⟨rfl, _, .inl (.inl hc)⟩, c, _, rfl, rfl, hc, ?_⟩
  refine kk.nx (o.write hi (d' := .lst (ds.set m (.lst []))) (fp' := fps i) (v := .ref a) g1 (hput _ r nd) nd (fun b hb => Mu.upd (hmu b hb).2 (.inl ⟨_, rfl⟩)) (fun b hb => .inl hb) fun b u hb hu => ?_) hE
  rw [upd_ne (a := c) (fun z => hb (by rw [z]; exact hcf))]; exact hu
theorem st_clearTL2 (i j k : Nat) (hi : i ∈ Γ := by decide) (hj : j ∉ Γ := by decide) (hij : i ≠ j := by decide) :
    ST K ρ Γr Γl (tSeq (tFor (iList K (tOp (rIxT K) (tVar i) (tC (.int (k : Int))))) (gName j) (tDrop (tBM0 K "list" rClear (tVar j)))) (tDrop (tBM0 K "list" rClear (tOp (rIxT K) (tVar i) (tC (.int (k : Int))))))) Γ (minus Γ [i]) (vClearTL i j k) := by
  intro B0 Dn E fps δ σ H kk o h
  obtain ⟨es, e, hjl, h⟩ := slotT_out h
  obtain ⟨ds, ek, hds, hE⟩ := asLst_out h
  obtain ⟨v, h1, a, xs0, rfl, h2, h3⟩ := o.val i _ e
  obtain ⟨u, f, hu, ru, hf, ndf⟩ := h3.getN (o.own i hi).1 ek
  obtain ⟨a0, xs, fq, rfl, g2, rfl, g4⟩ := ru
  have hlt := (List.getElem?_eq_some_iff.mp hu).1
  have own := o.own i hi
  obtain ⟨nd, mu⟩ := own
  have hxl := g4.length
  have na0 : a0 ∉ fq := (List.nodup_cons.mp ndf).1
  have facts : ∀ m, m < ds.length → ∃ c, xs[m]? = some (.ref c) ∧ (∃ zs, H c = some (.lst zs)) ∧ c ∈ fq := fun m hm => by
    obtain ⟨d, hd⟩ : ∃ d, ds[m]? = some d := ⟨_, List.getElem?_eq_getElem hm⟩
    obtain ⟨e', rfl⟩ := hds d (List.mem_of_getElem? hd)
    obtain ⟨v, f, hv, rv, hf⟩ := g4.get hd
    obtain ⟨c, zs, fz, rfl, hc, rfl, _⟩ := rv
    exact ⟨c, hv, ⟨zs, hc⟩, hf c List.mem_cons_self⟩
  refine ⟨.ref a, h1, a, xs0, (k : Int), .ref a0, rfl, rfl, .inl (.inl h2), by unfold atI; rw [ixN_nat (by omega) (by omega), Int.toNat_natCast]; exact hu, a0, rfl, ⟨xs, .inl (.inl g2)⟩, fun n m σ' H' => m = ds.length - n ∧ σ'.length = σ.length ∧ (∀ l, l ≠ j → σ'[l]? = σ[l]?) ∧ (∀ b u, b ∉ fq → H b = some u → H' b = some u) ∧ (∀ c ∈ fq, (∃ zs, H c = some (.lst zs)) → ∃ zs, H' c = some (.lst zs)), ⟨ds.length, rfl, rfl, fun _ _ => rfl, fun _ _ _ h => h, fun _ _ h => h⟩, ?_⟩
  rintro n m σ' H' ⟨rfl, hl, hs, keep, lst⟩
  have ha0 := keep a0 _ na0 g2
  by_cases hlt : n < ds.length
  · obtain ⟨c, h1, h4, h5⟩ := facts n hlt
    refine .inr ⟨⟨xs, .ref c, .inl (.inl ha0), h1⟩, fun σ2 H2 => ∃ m', m' < ds.length - n ∧ m' = ds.length - (n + 1) ∧ σ2.length = σ.length ∧ (∀ l, l ≠ j → σ2[l]? = σ[l]?) ∧ (∀ b u, b ∉ fq → H b = some u → H2 b = some u) ∧ (∀ c ∈ fq, (∃ zs, H c = some (.lst zs)) → ∃ zs, H2 c = some (.lst zs)), fun _ _ q => q, fun x H3 hy => ?_⟩
    obtain ⟨rfl, hy⟩ := hy
    have ex := hy xs (.inl (.inl ha0))
    rw [h1] at ex; cases ex
    obtain ⟨zs, hz⟩ := lst c h5 h4
    refine ⟨.ref c, List.getElem?_set_self (by rw [hl, o.len]; exact hjl), .inl ⟨rfl, zs, .inl (.inl hz)⟩, c, zs, rfl, rfl, hz, ds.length - (n + 1), by omega, rfl, by rw [List.length_set]; exact hl, fun l hlj => by rw [List.getElem?_set_ne (Ne.symm hlj)]; exact hs l hlj, fun b' u hb' hu => ?_, fun c' hc' hz' => ?_⟩
    · rw [upd_ne (fun z => hb' (by rw [z]; exact h5))]
      exact keep b' u hb' hu
    · by_cases z : c' = c
      · subst z; exact ⟨[], upd_same⟩
      · rw [upd_ne z]; exact lst c' hc' hz'
  · have naq : a ∉ fq := fun z => (mu a (hf a (List.mem_cons_of_mem _ z))).2.notup _ h2 (.inl ⟨_, rfl⟩)
    have hlt' := (List.getElem?_eq_some_iff.mp hu).1
    refine .inl ⟨⟨xs, .inl (.inl ha0), by omega⟩, .ref a, by rw [hs i hij]; exact h1, a, xs0, (k : Int), .ref a0, rfl, rfl, .inl (.inl (keep a _ naq h2)), by unfold atI; rw [ixN_nat (by omega) (by omega), Int.toNat_natCast]; exact hu, .inl ⟨rfl, xs, .inl (.inl ha0)⟩, a0, xs, rfl, rfl, ha0, ?_⟩
    have o1 := o.deadS j hj hl hs
    have fpi : (if i = j then [] else fps i) = fps i := by rw [if_neg hij]
    refine kk.nx (o1.drop hi fun b u hb hu => ?_) hE
    rw [fpi] at hb
    rw [upd_ne (a := a0) (fun z => hb (by rw [z]; exact hf a0 List.mem_cons_self))]
    exact keep b u (fun z => hb (hf b (List.mem_cons_of_mem _ z))) hu
end
end L3
set_option Elab.async false
set_option linter.all false
set_option maxRecDepth 100000
set_option maxHeartbeats 4000000
namespace L3
open PySem L2
abbrev DSX := List D → DK → (Addr → Prop) → Prop
def DMonoX (S : DSX) : Prop := ∀ xs (P P' : DK) (R R' : Addr → Prop), (∀ z, P z → P' z) → (∀ C, R C → R' C) → S xs P R → S xs P' R'
def spX (K : PySem.W.Frag) (S : DSX) : Sp := fun vs H Q E => ∃ ds, Rps K H ds vs ∧ TabInv K H ∧ S ds (fun x => ∀ v H' fp, Same H H' → Rf K H' x v fp → Nw H H' nf [] fp → Q v H') (fun C => ∀ H', Same H H' → E (.ref C) none H')
def SX (K : PySem.W.Frag) (ρ : Bool) (Γr Γl : List Nat) (R : Addr → Prop) (t : XK → TS) (Γ Γn : List Nat) (d : DS) : Prop :=
  ∀ ⦃B0 : Hp⦄ ⦃Dn : Ends⦄ ⦃E : DEnds⦄ ⦃Ex : XK⦄ ⦃fps : Nat → List Addr⦄ ⦃δ : Dl⦄ ⦃σ : St⦄ ⦃H : Hp⦄, (∀ C H', Same B0 H' → R C → Ex (.ref C) none H') → EOk K ρ Γr Γl Γn B0 Dn E → Ok K B0 Γ fps δ σ H → d E δ → t Ex Dn σ H
section
variable {K : PySem.W.Frag} {ρ : Bool} {Γr Γl Γ Γ1 Γ2 Γn M : List Nat} {R : Addr → Prop} {t u : XK → TS} {t0 : TS} {d e : DS} {C : Addr} {S : DSX} {ta : TA} {da : DA}
theorem ST.sx (h : ST K ρ Γr Γl t0 Γ Γn d) : SX K ρ Γr Γl R (fun _ => t0) Γ Γn d := fun _ _ _ _ _ _ _ _ _ k o q => h k o q
theorem sx_seq (h1 : SX K ρ Γr Γl R t Γ Γ1 d) (h2 : SX K ρ Γr Γl R u Γ1 Γ2 e) : SX K ρ Γr Γl R (fun Ex => tSeq (t Ex) (u Ex)) Γ Γ2 (vSeq d e) :=
  fun {B0 Dn E Ex fps δ σ H} x k o h => h1 (Dn := { Dn with nx := u Ex Dn }) (E := { E with nx := e E }) x ⟨fun o h => h2 x k o h, k.bk, k.ct, k.rt⟩ o h
theorem sx_if {c : TT} {dc : DT} (hc : TR K Γ c dc) (h1 : SX K ρ Γr Γl R t Γ Γn d) (h2 : SX K ρ Γr Γl R u Γ Γn e) : SX K ρ Γr Γl R (fun Ex => tIfS c (t Ex) (u Ex)) Γ Γn (vIfS dc d e) :=
  fun _ _ _ _ _ _ _ _ x k o h => hc.run o (hc.mono _ _ _ (fun b z H' s => ite_imp (fun z => h1 x k (o.same s) z) (fun z => h2 x k (o.same s) z) z) h)
def vRaise (C : Addr) (R : Addr → Prop) (da : DA) (_ : DEnds) (δ : Dl) : Prop := da δ fun xs => xs.length ≤ 1000 ∧ R C
theorem sx_raise (ha : AR K Γ ta da) : SX K ρ Γr Γl R (fun Ex => tRaise C Ex ta) Γ Γn (vRaise C R da) :=
  fun {B0 Dn E Ex fps δ σ H} x k o h => ha.run o (ha.mono _ _ _ (fun xs z vs H' s r => by
    obtain ⟨fp, r⟩ := r
    exact ⟨by rw [r.length]; exact z.1, x C H' (o.b0.trans s) z.2⟩) h)
def vDropX (S : DSX) (R : Addr → Prop) (da : DA) (E : DEnds) (δ : Dl) : Prop := da δ fun xs => S xs (fun _ => E.nx δ) R
theorem sx_drop (hS : DMonoX S) (ha : AR K Γ ta da) : SX K ρ Γr Γl R (fun Ex => tDrop (tCall (spX K S) [] Ex ta)) Γ Γ (vDropX S R da) :=
  fun {B0 Dn E Ex fps δ σ H} x k o h => ha.run o (ha.mono _ _ _ (fun xs z vs H' s r => ⟨xs, by rw [List.append_nil]; exact r, (o.b0.trans s).now,
    hS _ _ _ _ _ (fun _ z v H2 fp s2 _ _ => k.nx (o.same (s.trans s2)) z) (fun C z H2 s2 => x C H2 (o.b0.trans (s.trans s2)) z) z⟩) h)
def vSetX (S : DSX) (R : Addr → Prop) (i : Nat) (da : DA) (E : DEnds) (δ : Dl) : Prop := da δ fun xs => S xs (fun x => E.nx (δ.set i (some x))) R
theorem em_callX {Ex : XK} {B0 : Hp} {fps : Nat → List Addr} {δ : Dl} {σ : St} {H : Hp} {Q : VK} (hS : DMonoX S) (ha : AR K Γ ta da) (x : ∀ C H', Same B0 H' → R C → Ex (.ref C) none H') (o : Ok K B0 Γ fps δ σ H)
    (h : da δ fun xs => S xs (fun z => ∀ v H' fp, Same H H' → Rf K H' z v fp → Nw H H' fps [] fp → Q v H') R) : tCall (spX K S) [] Ex ta σ H Q :=
  ha.run o (ha.mono _ _ _ (fun xs z vs H1 s1 r1 => ⟨xs, by rw [List.append_nil]; exact r1, (o.b0.trans s1).now, hS _ _ _ _ _ (fun u z u' H' fp s r n => z u' H' fp (s1.trans s) r (n.any.later s1)) (fun C z H2 s2 => x C H2 (o.b0.trans (s1.trans s2)) z) z⟩) h)
theorem sx_set (i : Nat) (hS : DMonoX S) (ha : AR K Γ ta da) : SX K ρ Γr Γl R (fun Ex => tAsg (tCall (spX K S) [] Ex ta) (gName i)) Γ (i :: minus (minus Γ []) [i]) (vSetX S R i da) :=
  fun {B0 Dn E Ex fps δ σ H} x k o h => em_callX hS ha x o (ha.mono _ _ _ (fun xs z => hS _ _ _ _ _ (fun y z v H' fp s r n => k.nx (o.setMv (M := []) i (fun _ h => (nomatch h)) s r n) z) (fun _ z => z) z) h)
def vRetX (S : DSX) (R : Addr → Prop) (da : DA) (E : DEnds) (δ : Dl) : Prop := da δ fun xs => S xs (fun x => E.rt x δ) R
theorem fn_valX {N : List Str} {dR : (Addr → Prop) → DS} (hs : ∀ R, SX K true [] [] R t [] Γn (dR R)) (hd : ∀ ds P R, S ds P R → dR R (endsD P) (startD N ds)) :
    ∀ {vs H Q E}, spX K S vs H Q E → t E { nx := fun _ H' => Q .non H', rt := Q } (L2.start N vs) H := by
  rintro vs H Q E ⟨ds, r, tv, h⟩
  obtain ⟨fps, o⟩ := start_ok (N := N) r tv
  refine hs _ (E := endsD _) (Ex := E) (fun C H' s z => z H' s) ⟨fun {fps δ σ H'} o z => ?_, fun o (z : False) => z.elim, fun o (z : False) => z.elim, fun o r i z => ?_⟩ o (hd ds _ _ h)
  · exact z _ H' [] o.b0 ⟨rfl, rfl⟩ Nw.nil
  · exact z _ _ _ o.b0 r ⟨(i rfl).nd, (i rfl).mu, fun a ha => .inl ((i rfl).nw a ha)⟩
def noX (S : DSX) : DSp := fun ds P => S ds P fun _ => False
theorem noX_mono (hS : DMonoX S) : DMono (noX S) := fun xs P P' k h => hS _ _ _ _ _ k (fun _ z => z) h
theorem em_noX {Ex : XK} (hS : DMonoX S) (ha : AR K Γ ta da) : EM K Γ [] (tCall (spX K S) [] Ex ta) (vCall (noX S) da) :=
  ⟨fun δ P P' k h => ha.mono _ _ _ (fun y z => noX_mono hS _ _ _ k z) h, fun {B0 fps δ σ H Q} o q => em_callX (R := fun _ => False) hS ha (fun _ _ _ z => z.elim) o q⟩
theorem Ok.gone {B0 : Hp} {fps : Nat → List Addr} {δ : Dl} {σ : St} {H : Hp} (o : Ok K B0 Γ fps δ σ H) (j : Nat) (hj : j ∉ Γ) : Ok K B0 Γ (fun i => if i = j then [] else fps i) (δ.set j none) (σ.set j none) H := by
  have o1 := o.dead j .non hj
  refine ⟨by simp [o.len], o.b0, fun i d e => ?_, o1.non, o1.own, o1.dj⟩
  obtain ⟨v, h1, h2⟩ := o1.val i d e
  refine ⟨v, ?_, h2⟩
  by_cases h : i = j
  · subst h
    rw [List.getElem?_set] at e
    by_cases hl : i < δ.length
    · simp [hl] at e
    · simp [hl] at e
  · rw [List.getElem?_set_ne (Ne.symm h)] at h1 ⊢
    exact h1
def vTry (i : Nat) (C : Addr) (S : DSX) (da : DA) (dh : DS) (E : DEnds) (δ : Dl) : Prop :=
  da δ fun xs => S xs (fun _ => E.nx δ) fun C' => C' = C ∧ dh { nx := fun δ' => E.nx (δ'.set i none), rt := fun _ _ => False, bk := fun _ => False, ct := fun _ => False } (δ.set i none)
end
end L3
set_option Elab.async false
set_option linter.all false
set_option maxRecDepth 100000
set_option maxHeartbeats 4000000
namespace L3
open PySem L2
def STi (K : PySem.W.Frag) (i : Nat) (t : Addr → TS) (Γ : List Nat) (d : DS) : Prop :=
  ∀ ⦃a : Addr⦄ ⦃B0 : Hp⦄ ⦃Dn : Ends⦄ ⦃E : DEnds⦄ ⦃fps : Nat → List Addr⦄ ⦃δ : Dl⦄ ⦃σ : St⦄ ⦃H : Hp⦄, (∀ {fps δ σ H}, Ok K B0 Γ fps δ σ H → σ[i]? = some (some (.ref a)) → E.nx δ → Dn.nx σ H) →
    Ok K B0 Γ fps δ σ H → σ[i]? = some (some (.ref a)) → d E δ → t a Dn σ H
section
variable {K : PySem.W.Frag} {ρ : Bool} {Γr Γl Γ : List Nat} {i : Nat} {t u : Addr → TS} {d e : DS} {C : Addr} {S : DSX} {ta : TA} {da : DA}
theorem sti_next : STi K i (fun _ => tNext) Γ vNext := fun _ _ _ _ _ _ _ _ k o hi h => k o hi h
theorem sti_seq (h1 : STi K i t Γ d) (h2 : STi K i u Γ e) : STi K i (fun a => tSeq (t a) (u a)) Γ (vSeq d e) :=
  fun {a B0 Dn E fps δ σ H} k o hi h => h1 (Dn := { Dn with nx := u a Dn }) (E := { E with nx := e E }) (fun o hi h => h2 k o hi h) o hi h
theorem sti_set (j : Nat) {te : TE} {de : DE} (he : ES K Γ te de) (hj : j ∉ Γ := by decide) (hij : j ≠ i := by decide) : STi K i (fun _ => tAsg te (gName j)) Γ (vSet j de) :=
  fun {a B0 Dn E fps δ σ H} k o hi h => he.run o (he.mono _ _ _ (fun x z v H' fp s r n => k ((o.setSh j s r n).sub fun l hl => mem_minus.mpr ⟨hl, fun q => hj (by rw [← List.mem_singleton.mp q]; exact hl)⟩)
    (by rw [List.getElem?_set_ne hij]; exact hi) z) h)
def vKnow (j : Nat) (n : Int) (E : DEnds) (δ : Dl) : Prop := E.nx (δ.set j (some (.int n)))
theorem sti_know (j : Nat) {te : Addr → TE} {n : Int} (he : ∀ a σ H (Q : VK), σ[i]? = some (some (.ref a)) → (∀ H', Same H H' → Q (.int n) H') → te a σ H Q) (hj : j ∉ Γ := by decide) (hij : j ≠ i := by decide) :
    STi K i (fun a => tAsg (te a) (gName j)) Γ (vKnow j n) :=
  fun {a B0 Dn E fps δ σ H} k o hi h => he a σ H _ hi fun H' s => k ((o.setSh j s (Rf.ofScal (d := .int n) rfl) (fun _ _ _ z => (nomatch z))).sub fun l hl => mem_minus.mpr ⟨hl, fun q => hj (by rw [← List.mem_singleton.mp q]; exact hl)⟩)
    (by rw [List.getElem?_set_ne hij]; exact hi) h
def vWhen (b : Bool) (d e : DS) (E : DEnds) (δ : Dl) : Prop := if b = true then d E δ else e E δ
theorem sti_if {c : Addr → TT} {b : Bool} (hc : ∀ a σ H (Q : Bool → Hp → Prop), σ[i]? = some (some (.ref a)) → (∀ H', Same H H' → Q b H') → c a σ H Q) (h1 : STi K i t Γ d) (h2 : STi K i u Γ e) :
    STi K i (fun a => tIfS (c a) (t a) (u a)) Γ (vWhen b d e) :=
  fun {a B0 Dn E fps δ σ H} k o hi h => hc a σ H _ hi fun H' s => ite_imp (fun z => h1 k (o.same s) hi z) (fun z => h2 k (o.same s) hi z) h
def vTryI (i : Nat) (C : Addr) (S : DSX) (da : DA) (dh : DS) (E : DEnds) (δ : Dl) : Prop := i < δ.length ∧ vTry i C S da dh E δ
theorem st_tryI {dh : DS} (i : Nat) (hS : DMonoX S) (ha : AR K Γ ta da) (hh : STi K i t Γ dh) (hi : i ∉ Γ := by decide) : ST K ρ Γr Γl (tTry i C (spX K S) ta t) Γ Γ (vTryI i C S da dh) :=
  fun {B0 Dn E fps δ σ H} k o h => ha.run o (ha.mono _ _ _ (fun xs z vs H1 s1 r1 => ⟨xs, r1, (o.b0.trans s1).now, hS _ _ _ _ _ (fun _ z v H2 fp s2 _ _ => k.nx (o.same (s1.trans s2)) z)
    (fun C' z H2 s2 => ⟨congrArg Value.ref z.1, fun a _ => hh (E := { nx := fun δ' => E.nx (δ'.set i none), rt := fun _ _ => False, bk := fun _ => False, ct := fun _ => False })
      (fun o3 _ z3 => k.nx (o3.gone i hi) z3) ((o.same (s1.trans s2)).dead i (.ref a) hi) (List.getElem?_set_self (by rw [o.len]; exact h.1)) z.2⟩) z⟩) h.2)
theorem isx_tup {Q : VK} {b : Bool} {a : Addr} {cs : List Addr} {v : TA} {σ : St} {H : Hp} (hv : ∀ σ H (Q : List V → Hp → Prop), Q (cs.map V.ref) H → v σ H Q) (hl : cs.length ≤ 1000) (e : PySem.W.kitAny K (.ref C) (cs.map Value.ref) = some b)
    (hi : σ[i]? = some (some (.ref a))) (q : ∀ H', Same H H' → Q (.bl b) H') : tCB (isxR K a C) (tCons (tVar i) (tCons (tTup v) tNil)) σ H Q :=
  ⟨_, hi, hv _ _ _ ⟨by rw [List.length_map]; exact Nat.le_of_lt (small1000 hl), fun p hp => ⟨b, q _ (Same.new' hp), .inl ⟨p, cs, rfl, upd_same, e⟩⟩⟩⟩
theorem isx_one {Q : VK} {b : Bool} {a : Addr} {T : String} {σ : St} {H : Hp} (e : PySem.W.kitOne K (.ref C) (.type T) = some b)
    (hi : σ[i]? = some (some (.ref a))) (q : Q (.bl b) H) : tCB (isxR K a C) (tCons (tVar i) (tCons (tC (.ty T)) tNil)) σ H Q := ⟨_, hi, b, q, .inr ⟨T, rfl, e⟩⟩
end
theorem spX_len {K : PySem.W.Frag} {S : DSX} {n : Nat} (hS : ∀ ds P R, S ds P R → ds.length = n) {vs : List V} {H : Hp} {Q : VK} {E : XK} (h : spX K S vs H Q E) : vs.length = n := by
  obtain ⟨ds, ⟨fp, r⟩, _, h⟩ := h
  rw [r.length]; exact hS _ _ _ h
end L3
set_option Elab.async false
set_option linter.all false
set_option maxRecDepth 100000
set_option maxHeartbeats 4000000
namespace L2
open PySem
theorem PA.nox {X : Cx} {es : List Expr} {t : TA} (h : PA X.nox es t) : PA X es t := fun pos pins s σ H Q I hw =>
  wpAny_mono (h pos pins s σ H Q (I.wish _) hw) (fun _ _ ⟨v, H', I', r, q⟩ => ⟨v, H', I'.unwish, r, q⟩) fun _ _ z => False.elim z
end L2
set_option Elab.async false
set_option linter.all false
set_option maxRecDepth 100000
namespace L3
open PySem L2
section
variable {K : PySem.W.Frag} {Γ : List Nat} {t : TA} {d : DA}
def vDef (d : DA) (z : Int) : DA := fun δ P => d δ fun xs => P (xs ++ [.int z])
end
end L3
set_option Elab.async false
set_option linter.all false
set_option maxRecDepth 100000
set_option maxHeartbeats 4000000
namespace L3
open PySem
open L2 hiding D Rf Rfs Rp dI dT
section
variable {K : PySem.W.Frag} {Γ : List Nat}
def flatD : D → Bool
  | .tup ds => ds.all D.scal
  | d => D.scal d
theorem Rf.flat0 {H : Hp} : ∀ {d : D} {v : V} {fp : List Addr}, Rf K H d v fp → flatD d = true → fp = []
  | .tup ds, v, fp, h, f => by
    obtain ⟨a, xs, e1, e2, h⟩ := h
    exact (h.scals f).2
  | .non, _, _, h, _ => h.2
  | .bl _, _, _, h, _ => h.2
  | .int _, _, _, h, _ => h.2
  | .str _, _, _, h, _ => h.2
  | .lst _, _, _, _, f => by simp [flatD, D.scal] at f
  | .dic _, _, _, _, f => by simp [flatD, D.scal] at f
  | .dit _, _, _, _, f => by simp [flatD, D.scal] at f
  | .scr _, _, _, h, _ => by obtain ⟨a, e1, e2, e3⟩ := h; exact e3
  | .pin _ _, _, _, _, f => by simp [flatD, D.scal] at f
  | .ins _ _ _, _, _, _, f => by simp [flatD, D.scal] at f
theorem Rfs.flat0 {H : Hp} : ∀ {ds : List D} {vs : List V} {fp : List Addr}, Rfs K H ds vs fp → ds.all flatD = true → fp = []
  | [], _, _, h, _ => h.2
  | d :: ds, vs, fp, h, f => by
    obtain ⟨x, r, f1, f2, e1, e2, h1, h2⟩ := h
    rw [List.all_cons, Bool.and_eq_true] at f
    rw [e2, h1.flat0 f.1, h2.flat0 f.2]; rfl
def vCatF (x : D) (y : D) (P : DK) : Prop := match x, y with | .lst a, .lst b => (a.all flatD = true ∧ b.all flatD = true ∧ a.length + b.length ≤ 1000) ∧ P (.lst (a ++ b)) | _, _ => False
theorem o_catF : OpV K rCat vCatF := ⟨fun x y P P' k h => by unfold vCatF at h ⊢; revert h; split <;> first | exact fun h => ⟨h.1, k _ h.2⟩ | exact id, fun {H x y v w Q} r1 r2 h => by
  unfold vCatF at h
  split at h
  · rename_i a b
    obtain ⟨⟨s1, s2, hl⟩, h⟩ := h
    obtain ⟨f1, l1, xs, q1, rfl, e1, _, hr1⟩ := r1
    obtain ⟨f2, l2, ys, q2, rfl, e2, _, hr2⟩ := r2
    obtain rfl := hr1.flat0 s1
    obtain rfl := hr2.flat0 s2
    refine ⟨l1, l2, _, _, rfl, rfl, e1, e2, by rw [hr1.length, hr2.length]; exact le1000 hl, fun p hp => ?_⟩
    exact h _ _ [p] (Same.new' hp) ⟨p, _, [], rfl, upd_same, rfl, (hr1.append hr2).same (Same.new' hp)⟩ ⟨by simp, fun b hb => by cases List.mem_singleton.mp hb; exact .inl ⟨_, upd_same⟩, fun b hb => by cases List.mem_singleton.mp hb; exact .inl hp⟩
  · exact h.elim⟩
def vIndexF (da dk dn : DE) (δ : Dl) (P : DK) : Prop := da δ fun x => asLst (some x) fun ds => ds.all D.scal = true ∧ dk δ fun y => y.scal = true ∧ dn δ fun z => asI [z] fun n => ∃ k j : Nat, n = (k : Int) ∧ k ≤ j ∧ (∃ z, ds[j]? = some z ∧ eqV z.toV y.toV = true) ∧ (∀ m z, k ≤ m → m < j → ds[m]? = some z → eqV z.toV y.toV = false) ∧ P (.int j)
theorem em_indexF {ta ty tn : TE} {da dk dn : DE} (ha : ER K Γ ta da) (hk : ER K Γ ty dk) (hn : ER K Γ tn dn) : EM K Γ [] (tBM K "list" (rIndexF K) ta (tCons ty (tCons tn tNil))) (vIndexF da dk dn) :=
  ⟨fun δ P P' k h => ha.mono _ _ _ (fun x z => by
      obtain ⟨ds, e, z1, z⟩ := asLst_out z
      refine asLst_in e ⟨z1, hk.mono _ _ _ (fun y z => ?_) z⟩
      refine ⟨z.1, hn.mono _ _ _ (fun u z => ?_) z.2⟩
      obtain ⟨n, rfl, k0, j, z0, z1, z2, z3, z4⟩ := asI1_out z
      exact asI_int.mpr ⟨k0, j, z0, z1, z2, z3, k _ z4⟩) h,
   fun {B0 fps δ σ H Q} o h => by
    refine ha.run o (ha.mono _ _ _ (fun x z v H1 s1 r1 => ?_) h)
    obtain ⟨ds, e, z1, z'⟩ := asLst_out z
    clear z
    cases e
    obtain ⟨fp, a, xs, fq, rfl, hl, _, rs⟩ := r1
    obtain ⟨rfl, _⟩ := rs.scals z1
    refine ⟨.inl ⟨rfl, _, .inl (.inl hl)⟩, hk.run (o.same s1) (hk.mono _ _ _ (fun y z w H2 s2 r2 => ?_) z')⟩
    obtain ⟨z0, z⟩ := z
    obtain ⟨fp2, r2⟩ := r2
    obtain ⟨rfl, _⟩ := r2.scal z0
    refine hn.run ((o.same s1).same s2) (hn.mono _ _ _ (fun q z w3 H3 s3 r3 => ?_) z)
    obtain ⟨n, rfl, k0, j, rfl, kj, ⟨u, hu, eu⟩, z3, z4⟩ := asI1_out z
    rw [r3.int]
    refine ⟨a, _, _, k0, j, rfl, rfl, s3.st _ _ (s2.st _ _ hl trivial) trivial, flat_scal z0, ?_, kj, ⟨u.toV, by rw [List.getElem?_map, hu]; rfl, eu⟩, fun m w hk hm hw => ?_, z4 _ H3 [] ((s1.trans s2).trans s3) ⟨rfl, rfl⟩ Nw.nil⟩
    · rw [List.all_map, List.all_eq_true]
      rw [List.all_eq_true] at z1
      exact fun y hy => flat_scal (z1 y hy)
    · rw [List.getElem?_map] at hw
      cases q : ds[m]? with
      | none => rw [q] at hw; cases hw
      | some d => rw [q] at hw; cases hw; exact z3 m d hk hm q⟩
def Peel (R R' : DS) : Prop := R = R'
theorem peel {A R : DS} {E : DEnds} {δ : Dl} (h : ∀ R', Peel R' R → A { E with nx := R' E } δ) : vSeq A R E δ := h R rfl
end
end L3
set_option Elab.async false
set_option linter.all false
set_option maxRecDepth 100000
set_option maxHeartbeats 4000000
namespace Mine
open PySem L3
open L2 hiding D Rf Rfs Rp dI dT
open PyProof.Rows hiding St
local macro_rules | `(tactic| walk_at "v1") => `(tactic| simp only [vIndexF, vCatF, vNext, vSeq, vSetM, vSet, vDrop, vRet, vRetN, vIfS, vAsg, vgName, vgTup2, vgCons_c, vgNil_n, vFor, vIf, vVar, vC, vOp, vUn, vI0_int, vI_int, vU_int, vTest, asB_bl, vAnd, vOr, vNot, vAndV, vOrV, vNotV, vChain, vNil, vCons, vInts, vLst, vTup, vCall, vItL, vRng1, vRng2, asI_int, asII_int, asL_lst, asL_scr, vIxL_lst, vIxL_scr, vIxT_tup, vNoPart, vPart, vLen_lst, vLen_scr, vLen_tup, slotL, vAppend, vClear, vIs, tyn_int, tyn_bl, tyn_lst, tyn_tup, tyn_str, tyn_non, isB_ii, isB_ib, isB_ll, isB_tt, isB_ss, isB_bb, isB_bi, isB_il, isB_nl, vIsN_non, D.isNon, vScal, D.scal, vFlat, flat_int, flat_bl, flat_tup2, flat_tup3, flat_tup4, vAbs, vIntB, asIB_int, asIB_bl, vMax2, vMin2, vYes, vCat_lst, vRep_lst, vList_lst, vList_scr, vSum_ints, asNs_ints, vSorted, vRev, vSl, vSlR, vCatR_lst, vRepR_lst, vListR_lst, vRevR, vAll_bools, vAny_bools, vMinL_ints, vMaxL_ints, vListRng, vAppPop, vPin, slotP, vVarP, vCallI, vSetI, vDGet, vDIn, vDPut, slotD, asDic_dic, vIndex, vSort_ints, vLenD_dic, vClearTs, vClearTL, vTupOf_lst, vTupR_lst, asTI_in, asDit_dit, vDInT, vDPutT, vClearT, slotT, isRef_lst, isRef_dic, ofV_int, ofV_bl, ofV_non, D.toV, Option.some.injEq, forall_eq', vEqS_bl, vEqS_str, vPar, vgLst, vTryI, vTry, vKnow, vWhen, vRaise, vDropX, vSetX, vRetX, noX, vDef, atI_c0, atI_c1, atI_c2, atI_c3, asO_some, kill, List.foldl_nil, List.foldl_cons, List.set_cons_zero, List.set_cons_succ, List.getElem?_cons_zero, List.getElem?_cons_succ, List.getElem?_nil, endsD, vEqS_int, Bool.false_eq_true, Bool.not_false, Bool.not_true, if_true, if_false, ite_true, ite_false, true_and, and_true, List.length_cons, List.length_nil, decide_eq_true_eq, Bool.not_eq_true', decide_eq_false_iff_not, List.length_map, Bool.true_eq_false, eq_self, not_true_eq_false, not_false_eq_true, Int.reduceToNat, Int.reduceEq, Int.reduceLT, Int.reduceLE, Int.reducePow, Int.reduceAdd, Int.reduceMul, Int.reduceSub, Int.reduceNeg, Int.toNat_natCast])
local macro_rules | `(tactic| walk_at "vb1") => `(tactic| simp only [vIndexF, vCatF, vNext, vSeq, vSetM, vSet, vDrop, vRet, vRetN, vIfS, vAsg, vgName, vgTup2, vgCons_c, vgNil_n, vFor, vIf, vVar, vC, vOp, vUn, vI0_int, vI_int, vU_int, vTest, asB_bl, vAnd, vOr, vNot, vAndV, vOrV, vNotV, vChain, vNil, vCons, vInts, vLst, vTup, vCall, vItL, vRng1, vRng2, asI_int, asII_int, asL_lst, asL_scr, vIxL_lst, vIxL_scr, vIxT_tup, vNoPart, vPart, vLen_lst, vLen_scr, vLen_tup, slotL, vAppend, vClear, vIs, tyn_int, tyn_bl, tyn_lst, tyn_tup, tyn_str, tyn_non, isB_ii, isB_ib, isB_ll, isB_tt, isB_ss, isB_bb, isB_bi, isB_il, isB_nl, vIsN_non, D.isNon, vScal, D.scal, vFlat, flat_int, flat_bl, flat_tup2, flat_tup3, flat_tup4, vAbs, vIntB, asIB_int, asIB_bl, vMax2, vMin2, vYes, vCat_lst, vRep_lst, vList_lst, vList_scr, vSum_ints, asNs_ints, vSorted, vRev, vSl, vSlR, vCatR_lst, vRepR_lst, vListR_lst, vRevR, vAll_bools, vAny_bools, vMinL_ints, vMaxL_ints, vListRng, vAppPop, vPin, slotP, vVarP, vCallI, vSetI, vDGet, vDIn, vDPut, slotD, asDic_dic, vIndex, vSort_ints, vLenD_dic, vClearTs, vClearTL, vTupOf_lst, vTupR_lst, asTI_in, asDit_dit, vDInT, vDPutT, vClearT, slotT, isRef_lst, isRef_dic, ofV_int, ofV_bl, ofV_non, D.toV, Option.some.injEq, forall_eq', vEqS_bl, vEqS_str, vPar, vgLst, vTryI, vTry, vKnow, vWhen, vRaise, vDropX, vSetX, vRetX, noX, vDef, atI_c0, atI_c1, atI_c2, atI_c3, asO_some, kill, List.foldl_nil, List.foldl_cons, List.set_cons_zero, List.set_cons_succ, List.getElem?_cons_zero, List.getElem?_cons_succ, List.getElem?_nil, endsD, vEqS_int, Bool.false_eq_true, Bool.not_false, Bool.not_true, if_true, if_false, ite_true, ite_false, true_and, and_true, List.length_cons, List.length_nil, decide_eq_true_eq, Bool.not_eq_true', decide_eq_false_iff_not, List.length_map, Bool.true_eq_false, eq_self, not_true_eq_false, not_false_eq_true, Int.reduceToNat, Int.reduceEq, Int.reduceLT, Int.reduceLE, Int.reducePow, Int.reduceAdd, Int.reduceMul, Int.reduceSub, Int.reduceNeg, Int.toNat_natCast, vBody, cbaseD, List.reduceReplicate, List.replicate_succ, List.replicate_zero, List.map_cons, List.map_nil, Option.getD_some, List.cons_append, List.nil_append, Nat.reduceAdd])
local macro_rules | `(tactic| walk_at "v") => `(tactic| try (walk_at "v1"))
local macro_rules | `(tactic| walk_at "vb") => `(tactic| try (walk_at "vb1"))
local macro_rules | `(tactic| walk_at "cd") => `(tactic| first | exact ⟨by decide, 100, by decide, by decide⟩ | exact ⟨by omega, 100, by omega, by decide⟩ | omega | decide | rfl | exact ⟨by decide, by decide, by decide⟩ | exact ⟨64, 64, by omega, by omega, by decide⟩ | exact ⟨200, 200, by omega, by omega, by decide⟩ | exact scal_ints)
local macro_rules | `(tactic| walk_at "go") => `(tactic| repeat (first | (walk_at "v1") | ((with_reducible refine And.intro ?k1 ?_); (case k1 => walk_at "cd"))))
local macro_rules | `(tactic| walk_at "gb") => `(tactic| repeat (first | (walk_at "vb1") | ((with_reducible refine And.intro ?k1 ?_); (case k1 => walk_at "cd"))))
def top (i : Nat) : Stmt := PySem.Challenge.pw_evenmix_k16_whole_lead.main.body.getD i (.Pass ⟨0, 0, 0, 0⟩)
abbrev s_falling : Stmt := top 16
abbrev N_falling : List Str := ["row"]
abbrev P_falling : List Str := ["row"]
theorem sc_falling : FnScope N_falling P_falling (defScope s_falling) := ⟨rfl, rfl, rfl, by decide +kernel, rfl, by decide +kernel, by decide +kernel⟩
abbrev s_falling_places : Stmt := top 17
abbrev N_falling_places : List Str := ["row"]
abbrev P_falling_places : List Str := ["row"]
theorem sc_falling_places : FnScope N_falling_places P_falling_places (defScope s_falling_places) := ⟨rfl, rfl, rfl, by decide +kernel, rfl, by decide +kernel, by decide +kernel⟩
abbrev s_places_below : Stmt := top 18
abbrev N_places_below : List Str := ["one", "other"]
abbrev P_places_below : List Str := ["one", "other"]
theorem sc_places_below : FnScope N_places_below P_places_below (defScope s_places_below) := ⟨rfl, rfl, rfl, by decide +kernel, rfl, by decide +kernel, by decide +kernel⟩
abbrev s_heads_of : Stmt := top 19
abbrev N_heads_of : List Str := ["row", "heads", "head", "number"]
abbrev P_heads_of : List Str := ["row"]
theorem sc_heads_of : FnScope N_heads_of P_heads_of (defScope s_heads_of) := ⟨rfl, rfl, rfl, by decide +kernel, rfl, by decide +kernel, by decide +kernel⟩
abbrev s_check_alike : Stmt := top 20
abbrev N_check_alike : List Str := ["one", "other"]
abbrev P_check_alike : List Str := ["one", "other"]
theorem sc_check_alike : FnScope N_check_alike P_check_alike (defScope s_check_alike) := ⟨rfl, rfl, rfl, by decide +kernel, rfl, by decide +kernel, by decide +kernel⟩
abbrev s_first_head_above : Stmt := top 21
abbrev N_first_head_above : List Str := ["one", "other", "above"]
abbrev P_first_head_above : List Str := ["one", "other"]
theorem sc_first_head_above : FnScope N_first_head_above P_first_head_above (defScope s_first_head_above) := ⟨rfl, rfl, rfl, by decide +kernel, rfl, by decide +kernel, by decide +kernel⟩
abbrev s_bar_of : Stmt := top 22
abbrev N_bar_of : List Str := ["one", "other"]
abbrev P_bar_of : List Str := ["one", "other"]
theorem sc_bar_of : FnScope N_bar_of P_bar_of (defScope s_bar_of) := ⟨rfl, rfl, rfl, by decide +kernel, rfl, by decide +kernel, by decide +kernel⟩
abbrev s_is_number : Stmt := top 24
abbrev N_is_number : List Str := ["thing"]
abbrev P_is_number : List Str := ["thing"]
theorem sc_is_number : FnScope N_is_number P_is_number (defScope s_is_number) := ⟨rfl, rfl, rfl, by decide +kernel, rfl, by decide +kernel, by decide +kernel⟩
abbrev s_is_place : Stmt := top 25
abbrev N_is_place : List Str := ["number", "many"]
abbrev P_is_place : List Str := ["number", "many"]
theorem sc_is_place : FnScope N_is_place P_is_place (defScope s_is_place) := ⟨rfl, rfl, rfl, by decide +kernel, rfl, by decide +kernel, by decide +kernel⟩
abbrev s_can_step : Stmt := top 27
abbrev N_can_step : List Str := ["row", "step", "giver", "taker"]
abbrev P_can_step : List Str := ["row", "step"]
theorem sc_can_step : FnScope N_can_step P_can_step (defScope s_can_step) := ⟨rfl, rfl, rfl, by decide +kernel, rfl, by decide +kernel, by decide +kernel⟩
abbrev s_step_made : Stmt := top 28
abbrev N_step_made : List Str := ["row", "step", "made"]
abbrev P_step_made : List Str := ["row", "step"]
theorem sc_step_made : FnScope N_step_made P_step_made (defScope s_step_made) := ⟨rfl, rfl, rfl, by decide +kernel, rfl, by decide +kernel, by decide +kernel⟩
abbrev s_steps_to : Stmt := top 29
abbrev N_steps_to : List Str := ["one", "other", "bar", "steps"]
abbrev P_steps_to : List Str := ["one", "other"]
theorem sc_steps_to : FnScope N_steps_to P_steps_to (defScope s_steps_to) := ⟨rfl, rfl, rfl, by decide +kernel, rfl, by decide +kernel, by decide +kernel⟩
abbrev s_row_behind : Stmt := top 30
abbrev N_row_behind : List Str := ["row", "steps", "step"]
abbrev P_row_behind : List Str := ["row", "steps"]
theorem sc_row_behind : FnScope N_row_behind P_row_behind (defScope s_row_behind) := ⟨rfl, rfl, rfl, by decide +kernel, rfl, by decide +kernel, by decide +kernel⟩
abbrev s_evening_steps : Stmt := top 31
abbrev N_evening_steps : List Str := ["one", "other", "places", "goals", "numbers", "steps", "step"]
abbrev P_evening_steps : List Str := ["one", "other"]
theorem sc_evening_steps : FnScope N_evening_steps P_evening_steps (defScope s_evening_steps) := ⟨rfl, rfl, rfl, by decide +kernel, rfl, by decide +kernel, by decide +kernel⟩
abbrev s_evening_step : Stmt := top 32
abbrev N_evening_step : List Str := ["goals", "numbers", "giver", "taker"]
abbrev P_evening_step : List Str := ["goals", "numbers"]
theorem sc_evening_step : FnScope N_evening_step P_evening_step (defScope s_evening_step) := ⟨rfl, rfl, rfl, by decide +kernel, rfl, by decide +kernel, by decide +kernel⟩
abbrev s_exchanges_to : Stmt := top 33
abbrev N_exchanges_to : List Str := ["one", "row", "steps", "place", "step"]
abbrev P_exchanges_to : List Str := ["one", "row"]
theorem sc_exchanges_to : FnScope N_exchanges_to P_exchanges_to (defScope s_exchanges_to) := ⟨rfl, rfl, rfl, by decide +kernel, rfl, by decide +kernel, by decide +kernel⟩
abbrev s_exchange_step : Stmt := top 34
abbrev N_exchange_step : List Str := ["row", "place", "second"]
abbrev P_exchange_step : List Str := ["row", "place", "second"]
theorem sc_exchange_step : FnScope N_exchange_step P_exchange_step (defScope s_exchange_step) := ⟨rfl, rfl, rfl, by decide +kernel, rfl, by decide +kernel, by decide +kernel⟩
abbrev s_check_bottom : Stmt := top 36
abbrev N_check_bottom : List Str := ["bottom"]
abbrev P_check_bottom : List Str := ["bottom"]
theorem sc_check_bottom : FnScope N_check_bottom P_check_bottom (defScope s_check_bottom) := ⟨rfl, rfl, rfl, by decide +kernel, rfl, by decide +kernel, by decide +kernel⟩
abbrev s_greatest_divisor : Stmt := top 37
abbrev N_greatest_divisor : List Str := ["one", "other", "rest"]
abbrev P_greatest_divisor : List Str := ["one", "other"]
theorem sc_greatest_divisor : FnScope N_greatest_divisor P_greatest_divisor (defScope s_greatest_divisor) := ⟨rfl, rfl, rfl, by decide +kernel, rfl, by decide +kernel, by decide +kernel⟩
abbrev s_divisor_of : Stmt := top 38
abbrev N_divisor_of : List Str := ["table", "bottom", "divisor", "row", "cell"]
abbrev P_divisor_of : List Str := ["table", "bottom"]
theorem sc_divisor_of : FnScope N_divisor_of P_divisor_of (defScope s_divisor_of) := ⟨rfl, rfl, rfl, by decide +kernel, rfl, by decide +kernel, by decide +kernel⟩
abbrev s_divided_row : Stmt := top 39
abbrev N_divided_row : List Str := ["row", "divisor"]
abbrev P_divided_row : List Str := ["row", "divisor"]
theorem sc_divided_row : FnScope N_divided_row P_divided_row (defScope s_divided_row) := ⟨rfl, rfl, rfl, by decide +kernel, rfl, by decide +kernel, by decide +kernel⟩
abbrev s_least_terms : Stmt := top 40
abbrev N_least_terms : List Str := ["table", "bottom", "divisor"]
abbrev P_least_terms : List Str := ["table", "bottom"]
theorem sc_least_terms : FnScope N_least_terms P_least_terms (defScope s_least_terms) := ⟨rfl, rfl, rfl, by decide +kernel, rfl, by decide +kernel, by decide +kernel⟩
abbrev s_lead_to : Stmt := top 42
abbrev N_lead_to : List Str := ["one", "other", "told", "table", "row", "step"]
abbrev P_lead_to : List Str := ["one", "other"]
theorem sc_lead_to : FnScope N_lead_to P_lead_to (defScope s_lead_to) := ⟨rfl, rfl, rfl, by decide +kernel, rfl, by decide +kernel, by decide +kernel⟩
abbrev s_plain_table : Stmt := top 43
abbrev N_plain_table : List Str := ["many"]
abbrev P_plain_table : List Str := ["many"]
theorem sc_plain_table : FnScope N_plain_table P_plain_table (defScope s_plain_table) := ⟨rfl, rfl, rfl, by decide +kernel, rfl, by decide +kernel, by decide +kernel⟩
abbrev s_plain_row : Stmt := top 44
abbrev N_plain_row : List Str := ["many", "one"]
abbrev P_plain_row : List Str := ["many", "one"]
theorem sc_plain_row : FnScope N_plain_row P_plain_row (defScope s_plain_row) := ⟨rfl, rfl, rfl, by decide +kernel, rfl, by decide +kernel, by decide +kernel⟩
abbrev s_led_table : Stmt := top 45
abbrev N_led_table : List Str := ["table", "row", "step", "giver", "taker", "whole", "kept", "led"]
abbrev P_led_table : List Str := ["table", "row", "step"]
theorem sc_led_table : FnScope N_led_table P_led_table (defScope s_led_table) := ⟨rfl, rfl, rfl, by decide +kernel, rfl, by decide +kernel, by decide +kernel⟩
abbrev s_mixed_row : Stmt := top 46
abbrev N_mixed_row : List Str := ["one", "parts", "other", "others"]
abbrev P_mixed_row : List Str := ["one", "parts", "other", "others"]
theorem sc_mixed_row : FnScope N_mixed_row P_mixed_row (defScope s_mixed_row) := ⟨rfl, rfl, rfl, by decide +kernel, rfl, by decide +kernel, by decide +kernel⟩
abbrev s_law_cell_at : Stmt := top 48
abbrev N_law_cell_at : List Str := ["_law_script", "_law_k"]
abbrev P_law_cell_at : List Str := ["_law_script", "_law_k"]
theorem sc_law_cell_at : FnScope N_law_cell_at P_law_cell_at (defScope s_law_cell_at) := ⟨rfl, rfl, rfl, by decide +kernel, rfl, by decide +kernel, by decide +kernel⟩
abbrev s_law_whole : Stmt := top 49
abbrev N_law_whole : List Str := ["_law_found"]
abbrev P_law_whole : List Str := ["_law_found"]
theorem sc_law_whole : FnScope N_law_whole P_law_whole (defScope s_law_whole) := ⟨rfl, rfl, rfl, by decide +kernel, rfl, by decide +kernel, by decide +kernel⟩
abbrev s_law_tops : Stmt := top 50
abbrev N_law_tops : List Str := ["_law_script", "_law_shape", "_law_many", "_law_one", "_law_cell", "_law_place"]
abbrev P_law_tops : List Str := ["_law_script"]
theorem sc_law_tops : FnScope N_law_tops P_law_tops (defScope s_law_tops) := ⟨rfl, rfl, rfl, by decide +kernel, rfl, by decide +kernel, by decide +kernel⟩
abbrev s_law_poorer : Stmt := top 51
abbrev N_law_poorer : List Str := ["_law_one", "_law_script", "_law_turn", "_law_other", "_law_many", "_law_cell", "_law_giver", "_law_taker", "_law_amount"]
abbrev P_law_poorer : List Str := ["_law_one", "_law_script", "_law_turn"]
theorem sc_law_poorer : FnScope N_law_poorer P_law_poorer (defScope s_law_poorer) := ⟨rfl, rfl, rfl, by decide +kernel, rfl, by decide +kernel, by decide +kernel⟩
abbrev s_law_digits : Stmt := top 52
abbrev N_law_digits : List Str := ["_law_cells", "_law_many", "_law_base", "_law_left", "_law_found", "_law_k", "_law_at"]
abbrev P_law_digits : List Str := ["_law_cells", "_law_many", "_law_base"]
theorem sc_law_digits : FnScope N_law_digits P_law_digits (defScope s_law_digits) := ⟨rfl, rfl, rfl, by decide +kernel, rfl, by decide +kernel, by decide +kernel⟩
abbrev s_law_digit_rows : Stmt := top 53
abbrev N_law_digit_rows : List Str := ["_law_script", "_law_many", "_law_digits_here", "_law_one", "_law_other"]
abbrev P_law_digit_rows : List Str := ["_law_script"]
theorem sc_law_digit_rows : FnScope N_law_digit_rows P_law_digit_rows (defScope s_law_digit_rows) := ⟨rfl, rfl, rfl, by decide +kernel, rfl, by decide +kernel, by decide +kernel⟩
abbrev s_law_two : Stmt := top 54
abbrev N_law_two : List Str := ["_law_script", "_law_kind", "_law_turn", "_law_one", "_law_other", "_law_scale", "_law_both"]
abbrev P_law_two : List Str := ["_law_script"]
theorem sc_law_two : FnScope N_law_two P_law_two (defScope s_law_two) := ⟨rfl, rfl, rfl, by decide +kernel, rfl, by decide +kernel, by decide +kernel⟩
abbrev s_law_bar : Stmt := top 55
abbrev N_law_bar : List Str := ["_law_one", "_law_other", "_law_mine", "_law_theirs", "_law_k"]
abbrev P_law_bar : List Str := ["_law_one", "_law_other"]
theorem sc_law_bar : FnScope N_law_bar P_law_bar (defScope s_law_bar) := ⟨rfl, rfl, rfl, by decide +kernel, rfl, by decide +kernel, by decide +kernel⟩
abbrev s_law_even : Stmt := top 56
abbrev N_law_even : List Str := ["_law_table", "_law_many", "_law_line", "_law_number", "_law_bottom", "_law_k"]
abbrev P_law_even : List Str := ["_law_table", "_law_many"]
theorem sc_law_even : FnScope N_law_even P_law_even (defScope s_law_even) := ⟨rfl, rfl, rfl, by decide +kernel, rfl, by decide +kernel, by decide +kernel⟩
abbrev s_law_leads : Stmt := top 57
abbrev N_law_leads : List Str := ["_law_table", "_law_other", "_law_one", "_law_line", "_law_goal", "_law_total", "_law_number", "_law_theirs"]
abbrev P_law_leads : List Str := ["_law_table", "_law_other", "_law_one"]
theorem sc_law_leads : FnScope N_law_leads P_law_leads (defScope s_law_leads) := ⟨rfl, rfl, rfl, by decide +kernel, rfl, by decide +kernel, by decide +kernel⟩
abbrev s_law_asked : Stmt := top 58
abbrev N_law_asked : List Str := ["_law_one", "_law_other", "_law_handed", "_law_found", "_law_due", "_law_line", "_law_again"]
abbrev P_law_asked : List Str := ["_law_one", "_law_other"]
theorem sc_law_asked : FnScope N_law_asked P_law_asked (defScope s_law_asked) := ⟨rfl, rfl, rfl, by decide +kernel, rfl, by decide +kernel, by decide +kernel⟩
abbrev s_law_refused : Stmt := top 59
abbrev N_law_refused : List Str := ["_law_one", "_law_other", "_law_got", "error"]
abbrev P_law_refused : List Str := ["_law_one", "_law_other"]
theorem sc_law_refused : FnScope N_law_refused P_law_refused (defScope s_law_refused) := ⟨rfl, rfl, rfl, by decide +kernel, rfl, by decide +kernel, by decide +kernel⟩
abbrev s_law : Stmt := top 60
abbrev N_law : List Str := ["_law_script", "_law_one", "_law_other", "_law_greater"]
abbrev P_law : List Str := ["_law_script"]
theorem sc_law : FnScope N_law P_law (defScope s_law) := ⟨rfl, rfl, rfl, by decide +kernel, rfl, by decide +kernel, by decide +kernel⟩
structure Txt (K : PySem.W.Frag) (mg : Str → Option Value) (base : Heap) : Prop where
  len_ : mg "len" = none
  isinstance_ : mg "isinstance" = none
  int_ : mg "int" = none
  bool_ : mg "bool" = none
  list_ : mg "list" = none
  range_ : mg "range" = none
  sum_ : mg "sum" = none
  sorted_ : mg "sorted" = none
  tuple_ : mg "tuple" = none
  str_ : mg "str" = none
  min_ : mg "min" = none
  reversed_ : mg "reversed" = none
  abs_ : mg "abs" = none
  zip_ : mg "zip" = none
  ValueError_ : mg "ValueError" = none
  lam_ : L3.LamAt K mg base
structure Fns (K : PySem.W.Frag) (mg : Str → Option Value) : Prop where
  h_falling : ∃ f fd, FnAt K mg "falling" s_falling P_falling f fd
  h_falling_places : ∃ f fd, FnAt K mg "falling_places" s_falling_places P_falling_places f fd
  h_places_below : ∃ f fd, FnAt K mg "places_below" s_places_below P_places_below f fd
  h_heads_of : ∃ f fd, FnAt K mg "heads_of" s_heads_of P_heads_of f fd
  h_check_alike : ∃ f fd, FnAt K mg "check_alike" s_check_alike P_check_alike f fd
  h_first_head_above : ∃ f fd, FnAt K mg "first_head_above" s_first_head_above P_first_head_above f fd
  h_bar_of : ∃ f fd, FnAt K mg "bar_of" s_bar_of P_bar_of f fd
  h_is_number : ∃ f fd, FnAt K mg "is_number" s_is_number P_is_number f fd
  h_is_place : ∃ f fd, FnAt K mg "is_place" s_is_place P_is_place f fd
  h_can_step : ∃ f fd, FnAt K mg "can_step" s_can_step P_can_step f fd
  h_step_made : ∃ f fd, FnAt K mg "step_made" s_step_made P_step_made f fd
  h_steps_to : ∃ f fd, FnAt K mg "steps_to" s_steps_to P_steps_to f fd
  h_row_behind : ∃ f fd, FnAt K mg "row_behind" s_row_behind P_row_behind f fd
  h_evening_steps : ∃ f fd, FnAt K mg "evening_steps" s_evening_steps P_evening_steps f fd
  h_evening_step : ∃ f fd, FnAt K mg "evening_step" s_evening_step P_evening_step f fd
  h_exchanges_to : ∃ f fd, FnAt K mg "exchanges_to" s_exchanges_to P_exchanges_to f fd
  h_exchange_step : ∃ f fd, FnAt K mg "exchange_step" s_exchange_step P_exchange_step f fd
  h_check_bottom : ∃ f fd, FnAt K mg "check_bottom" s_check_bottom P_check_bottom f fd
  h_greatest_divisor : ∃ f fd, FnAt K mg "greatest_divisor" s_greatest_divisor P_greatest_divisor f fd
  h_divisor_of : ∃ f fd, FnAt K mg "divisor_of" s_divisor_of P_divisor_of f fd
  h_divided_row : ∃ f fd, FnAt K mg "divided_row" s_divided_row P_divided_row f fd
  h_least_terms : ∃ f fd, FnAtD K mg "least_terms" s_least_terms P_least_terms [.int 1] f fd
  h_lead_to : ∃ f fd, FnAt K mg "lead_to" s_lead_to P_lead_to f fd
  h_plain_table : ∃ f fd, FnAt K mg "plain_table" s_plain_table P_plain_table f fd
  h_plain_row : ∃ f fd, FnAt K mg "plain_row" s_plain_row P_plain_row f fd
  h_led_table : ∃ f fd, FnAt K mg "led_table" s_led_table P_led_table f fd
  h_mixed_row : ∃ f fd, FnAt K mg "mixed_row" s_mixed_row P_mixed_row f fd
  h_law_cell_at : ∃ f fd, FnAt K mg "_law_cell_at" s_law_cell_at P_law_cell_at f fd
  h_law_whole : ∃ f fd, FnAt K mg "_law_whole" s_law_whole P_law_whole f fd
  h_law_tops : ∃ f fd, FnAt K mg "_law_tops" s_law_tops P_law_tops f fd
  h_law_poorer : ∃ f fd, FnAt K mg "_law_poorer" s_law_poorer P_law_poorer f fd
  h_law_digits : ∃ f fd, FnAt K mg "_law_digits" s_law_digits P_law_digits f fd
  h_law_digit_rows : ∃ f fd, FnAt K mg "_law_digit_rows" s_law_digit_rows P_law_digit_rows f fd
  h_law_two : ∃ f fd, FnAt K mg "_law_two" s_law_two P_law_two f fd
  h_law_bar : ∃ f fd, FnAt K mg "_law_bar" s_law_bar P_law_bar f fd
  h_law_even : ∃ f fd, FnAt K mg "_law_even" s_law_even P_law_even f fd
  h_law_leads : ∃ f fd, FnAt K mg "_law_leads" s_law_leads P_law_leads f fd
  h_law_asked : ∃ f fd, FnAt K mg "_law_asked" s_law_asked P_law_asked f fd
  h_law_refused : ∃ f fd, FnAt K mg "_law_refused" s_law_refused P_law_refused f fd
  h_law : ∃ f fd, FnAt K mg "law" s_law P_law f fd
structure Cs where
  (MixError NoTable NoBottom NotAlike NoStep NoMix NotEven NoSwap NoBounds NoPlace NoSums TooGreat NoNumber NoText : Addr)
structure Exs (K : PySem.W.Frag) (mg : Str → Option Value) (base : Heap) (c : Cs) : Prop where
  m_MixError : mg "MixError" = some (.ref c.MixError)
  m_NoTable : mg "NoTable" = some (.ref c.NoTable)
  m_NoBottom : mg "NoBottom" = some (.ref c.NoBottom)
  m_NotAlike : mg "NotAlike" = some (.ref c.NotAlike)
  m_NoStep : mg "NoStep" = some (.ref c.NoStep)
  m_NoMix : mg "NoMix" = some (.ref c.NoMix)
  m_NotEven : mg "NotEven" = some (.ref c.NotEven)
  m_NoSwap : mg "NoSwap" = some (.ref c.NoSwap)
  m_NoBounds : mg "NoBounds" = some (.ref c.NoBounds)
  m_NoPlace : mg "NoPlace" = some (.ref c.NoPlace)
  m_NoSums : mg "NoSums" = some (.ref c.NoSums)
  m_TooGreat : mg "TooGreat" = some (.ref c.TooGreat)
  m_NoNumber : mg "NoNumber" = some (.ref c.NoNumber)
  m_NoText : mg "NoText" = some (.ref c.NoText)
  o_MixError : ExcObj base c.MixError []
  o_NoBottom : ExcObj base c.NoBottom [c.MixError]
  k_NoBottom : PySem.W.ExcK K c.NoBottom
  o_NoStep : ExcObj base c.NoStep [c.MixError]
  k_NoStep : PySem.W.ExcK K c.NoStep
  o_NotAlike : ExcObj base c.NotAlike [c.MixError]
  k_NotAlike : PySem.W.ExcK K c.NotAlike
  t1 : PySem.W.kitAny K (.ref c.NotAlike) ([c.NoTable, c.NoBottom, c.NoStep, c.NoMix, c.NotEven, c.NoSwap].map Value.ref) = some false
  t2 : PySem.W.kitAny K (.ref c.NotAlike) ([c.NoBounds, c.NoPlace, c.NoSums, c.TooGreat, c.NoNumber, c.NoText].map Value.ref) = some false
  v_NotAlike : PySem.W.kitOne K (.ref c.NotAlike) (.type "ValueError") = some true
section
variable {P : Program} {w : World} {K : PySem.W.Frag} {mg : Str → Option Value} {base : Heap}
def S_falling : DSp := fun ds P => ∃ ns, ds = [dI ns] ∧ ns.length < 64 ∧ P (dI (fall ns))
theorem mono_falling : DMono S_falling := by
  intro xs P P' k h
  unfold S_falling at h ⊢
  grind
theorem len_falling : ∀ ds P, S_falling ds P → ds.length = 1 := by
  intro ds P h
  obtain ⟨_, e, _⟩ := h
  rw [e]; rfl
theorem ok_falling {f : Addr} {fd : FuncData} (F : FnAt K mg "falling" s_falling P_falling f fd) (A_ : Fns K mg) (T : Txt K mg base) {c : Cs} (xs : Exs K mg base c) : FnOk P w K mg base CX0 1 f fd P_falling (spP K S_falling) := by
  refine F.fn.ok sc_falling (fun vs H Q E h => spP_len len_falling h) (fun cdv A outer s H vs Q E hr h => ?_)
  refine ⟨_, (pss_one (ps_ret (pe_callBK (call_sortedRevK (K := K) rfl) (by rfl) T.sorted_ boot_sorted (pa_cons (pv 0) pa_nil) (pk_cons pe_bl pk_nil)))), fn_val (Γn := []) (N := N_falling) (st_ret (M := []) (em_sortedRev (ar_cons (ES.er (es_var 0)) ar_nil))) (fun ds P hS => ?_) h⟩
  obtain ⟨ns, rfl, hl, hP⟩ := hS
  rw [show startD N_falling [dI ns] = [some (dI ns)] from rfl]
  walk_at "v"
  refine ⟨hl, fun ms hp ho => ?_⟩
  rw [fall_eq hp ho]
  exact hP
def S_falling_places : DSp := fun ds P => ∃ ns : List Int, ds = [dI ns] ∧ ns.length < 64 ∧ ∀ ms : List Int, ms.Perm (rngZ ns.length) → ms.Pairwise (fun a b => ns.getD b.toNat 0 ≤ ns.getD a.toNat 0) → P (dI ms)
theorem mono_falling_places : DMono S_falling_places := by
  intro xs P P' k h
  obtain ⟨ns, e, h64, h⟩ := h
  exact ⟨ns, e, h64, fun ms h1 h2 => k _ (h ms h1 h2)⟩
theorem len_falling_places : ∀ ds P, S_falling_places ds P → ds.length = 1 := by
  intro ds P h
  obtain ⟨_, e, _⟩ := h
  rw [e]; rfl
theorem ok_falling_places {f : Addr} {fd : FuncData} (F : FnAt K mg "falling_places" s_falling_places P_falling_places f fd) (A_ : Fns K mg) (T : Txt K mg base) {c : Cs} (xs : Exs K mg base c) : FnOk P w K mg base CX0 1 f fd P_falling_places (spP K S_falling_places) := by
  obtain ⟨c_, hfc_, hcd_, hbm_⟩ := T.lam_.of F
  refine L3.Fun.okL F.fn hfc_ sc_falling_places (fun vs H Q E h => spP_len len_falling_places h) (fun A outer s H vs Q E hr h => ?_)
  refine ⟨_, (pss_one (ps_ret (pe_sortLam (K := K) (i := 0) (cr := s.heap.objs.size + 1) rfl rfl rfl T.sorted_ rfl T.range_ (pe_callB (call_lenK (K := K) rfl) (by rfl) T.len_ PySem.boot_len (pa_cons (pv 0) pa_nil)) (fun σ H Q a xs e hS q => ⟨_, e, _, _, rfl, .inl hS, q⟩) rfl (Or.inr (Or.inl rfl)) rfl rfl (by have := hr.dp; show _ < _; exact Nat.lt_of_le_of_lt (Nat.le_trans (Nat.le_add_right _ _) (Nat.le_add_right _ _)) this) rfl rfl hcd_ rfl rfl hbm_ (fun _ _ _ _ => rfl) rfl rfl (by decide +kernel) rfl rfl rfl (by decide) (by decide) (by decide)))), fn_val (Γn := []) (N := N_falling_places) (st_ret (M := []) (em_sortLam 0)) (fun ds P hS => ?_) h⟩
  obtain ⟨ns, rfl, hl, hP⟩ := hS
  rw [show startD N_falling_places [dI ns] = [some (dI ns)] from rfl]
  walk_at "v"
  exact ⟨ns, rfl, hl, hP⟩
def belowL (one other : List Int) : List Nat := (List.range one.length).filter fun p => decide (one.getD p 0 < other.getD p 0)
def S_places_below : DSp := fun ds P => ∃ one other, ds = [dI one, dI other] ∧ one.length ≤ 1000 ∧ one.length = other.length ∧ P (dI ((belowL one other).map fun (p : Nat) => (p : Int)))
theorem mono_places_below : DMono S_places_below := by
  intro xs P P' k h
  unfold S_places_below at h ⊢
  grind
theorem len_places_below : ∀ ds P, S_places_below ds P → ds.length = 2 := by
  intro ds P h
  obtain ⟨_, _, e, _⟩ := h
  rw [e]; rfl
theorem ok_places_below {f : Addr} {fd : FuncData} (F : FnAt K mg "places_below" s_places_below P_places_below f fd) (A_ : Fns K mg) (T : Txt K mg base) {c : Cs} (xs : Exs K mg base c) : FnOk P w K mg base CX0 1 f fd P_places_below (spP K S_places_below) := by
  refine F.fn.ok sc_places_below (fun vs H Q E h => spP_len len_places_below h) (fun cdv A outer s H vs Q E hr h => ?_)
  refine ⟨_, (pss_one (ps_ret (pe_comp rfl (CompScope.of (sc0 := (defScope s_places_below)) (tn := ["place"]) (cap := ["one", "other"]) (idx := [0, 1]) (by decide +kernel) rfl rfl) (pi_range1 rfl T.range_ (pa_cons (pe_callB (call_lenK (K := K) rfl) (by rfl) T.len_ PySem.boot_len (pa_cons (pv 0) pa_nil)) pa_nil)) (GSet.name (by decide)) (fun _ _ _ _ _ => pg_name (i := 0) (nodupB_iff (l := ["place", "one", "other"]) (by decide +kernel)) rfl (by first | exact Or.inl rfl | exact Or.inr rfl) (by first | exact .inl rfl | exact .inr rfl)) (fun _ _ _ _ _ => pts_one (pt_cmpR op_lt (pe_ix (ix_listK (K := K) rfl) (pv 1) (pv 0) (fun _ _ => rfl)) (pe_ix (ix_listK (K := K) rfl) (pv 2) (pv 0) (fun _ _ => rfl)) (nomark _))) (fun _ _ _ _ _ => (pv 0)) (by intro _; rfl)))), fn_val (Γn := []) (N := N_places_below) (st_ret (M := []) (em_comp (it_rng1 (ar_cons (EM.er (em_cb c_len (ar_cons (ES.er (es_var 0)) ar_nil))) ar_nil)) (gt_name 0) (tr_test (EM.er (em_op o_bl (ES.er (es_ixL (es_var 1) (ES.er (es_var 0)))) (ES.er (es_ixL (es_var 2) (ES.er (es_var 0))))))) (ER.scal (ES.er (es_var 0))))) (fun ds P hS => ?_) h⟩
  obtain ⟨one, other, rfl, hl, he, hP⟩ := hS
  rw [show startD N_places_below [dI one, dI other] = [some (dI one), some (dI other)] from rfl]
  walk_at "v"
  refine comp_rngF (lo := 0) (n := one.length) (p := fun p => decide (one.getD p 0 < other.getD p 0)) (g := fun (p : Nat) => .int (p : Int)) (fun R h => ?_) hl (fun i hi R h => ?_) ?_
  · walk_at "go"; exact h
  · walk_at "gb"
    rw [Int.zero_add]
    refine asO_ints (by omega) (asO_ints (by omega) ?_)
    walk_at "gb"
    split
    · rename_i c
      rw [decide_eq_true c] at h
      exact h
    · rename_i c
      rw [decide_eq_false c] at h
      exact h
  · rw [map_int]; exact hP
def headsL (ns : List Int) : List Int := (List.range ns.length).map fun (i : Nat) => Maj.topk ns (i + 1)
theorem headsL_len {ns : List Int} : (headsL ns).length = ns.length := by unfold headsL; rw [List.length_map, List.length_range]
theorem headsL_at {ns : List Int} {i : Nat} (h : i < ns.length) : (headsL ns).getD i 0 = Maj.topk ns (i + 1) := by
  unfold headsL
  rw [List.getD_eq_getElem?_getD, List.getElem?_map, List.getElem?_range h]; rfl
def S_heads_of : DSp := fun ds P => ∃ ns, ds = [dI ns] ∧ ns.length < 64 ∧ P (dI (headsL ns))
theorem mono_heads_of : DMono S_heads_of := by
  intro xs P P' k h
  unfold S_heads_of at h ⊢
  grind
theorem len_heads_of : ∀ ds P, S_heads_of ds P → ds.length = 1 := by
  intro ds P h
  obtain ⟨_, e, _⟩ := h
  rw [e]; rfl
theorem ok_heads_of {f : Addr} {fd : FuncData} (F : FnAt K mg "heads_of" s_heads_of P_heads_of f fd) (A_ : Fns K mg) (T : Txt K mg base) {c : Cs} (xs : Exs K mg base c) : FnOk P w K mg base CX0 2 f fd P_heads_of (spP K S_heads_of) := by
  obtain ⟨f0, d0, E_falling⟩ := A_.h_falling
  have G_falling : FnOk P w K mg base CX0 1 f0 d0 P_falling (spP K S_falling) := ok_falling E_falling A_ T xs
  refine F.fn.ok sc_heads_of (fun vs H Q E h => spP_len len_heads_of h) (fun cdv A outer s H vs Q E hr h => ?_)
  refine ⟨_, (pss_cons (ps_set (i := 1) sc_heads_of.nd rfl (by first | exact Or.inl rfl | exact Or.inr rfl) (pe_lst pa_nil))
      (pss_cons (ps_set (i := 2) sc_heads_of.nd rfl (by first | exact Or.inl rfl | exact Or.inr rfl) pe_int)
      (pss_cons (ps_for PassesOwn.never rfl (pi_listK (K := K) rfl (pe_call G_falling (hr.mono (by decide)) rfl E_falling.mg E_falling.fn.kp E_falling.bd .nil pass0 (pa_cons (pv 0) pa_nil))) (pg_name (i := 3) sc_heads_of.nd rfl (by first | exact Or.inl rfl | exact Or.inr rfl)) (pss_cons (ps_set (i := 2) sc_heads_of.nd rfl (by first | exact Or.inl rfl | exact Or.inr rfl) (pe_op op_add (pv 2) (pv 3)))
      (pss_one (ps_expr (pe_bm PySem.F.plainAttrs_list PySem.F.slot_list_append PySem.F.type_list_append mt_append (pv 1) (pa_cons (pv 2) pa_nil))))))
      (pss_one (ps_ret (pv 1)))))), fn_val (Γn := [1]) (N := N_heads_of) (st_seq (ST.post (Γn := [1]) (st_setM (M := []) 1 (em_lst am_nil)))
      (st_seq (ST.post (Γn := [1]) (st_setS 2 (EM.es em_int)))
      (st_seq (st_for (it_list (EM.es (em_call (S := S_falling) mono_falling (ar_cons (ES.er (es_var 0)) ar_nil)))) (gt_name 3) (st_seq (ST.post (Γn := [1]) (st_setS 2 (EM.es (em_op o_int (ES.er (es_var 2)) (ES.er (es_var 3))))))
      (ST.post (Γn := [1]) (st_append (M := []) 1 (ER.scal (ES.er (es_var 2)))))))
      (st_ret (M := [1]) (em_var 1))))) (fun ds P hS => ?_) h⟩
  obtain ⟨ns, rfl, hl, hP⟩ := hS
  rw [show startD N_heads_of [dI ns] = [some (dI ns), none, none, none] from rfl]
  walk_at "go"
  refine ⟨ns, rfl, hl, ?_⟩
  walk_at "v"
  have hfl := fall_length ns
  refine loop_any (as := fall ns) (f := L3.D.int) (fun i δ => ∃ o3 : Option D, δ = [some (dI ns), some (dI ((List.range i).map fun (j : Nat) => Maj.topk ns (j + 1))), some (.int (Maj.topk ns i)), o3]) ⟨none, rfl⟩ ?_ ?_
  · rintro i a δ N e ⟨o3, rfl⟩ hN
    obtain ⟨h1, h2⟩ := List.getElem?_eq_some_iff.mp e
    have et : Maj.topk ns i + a = Maj.topk ns (i + 1) := by
      unfold Maj.topk
      rw [List.take_add_one, e, List.sum_append]; simp
    walk_at "go"
    rw [et, snoc_dI]
    have er : (List.range (i + 1)).map (fun (j : Nat) => Maj.topk ns (j + 1)) = (List.range i).map (fun (j : Nat) => Maj.topk ns (j + 1)) ++ [Maj.topk ns (i + 1)] := by rw [List.range_succ, List.map_append]; rfl
    exact ⟨by rw [List.length_range]; omega, hN _ ⟨some (.int a), by rw [er]⟩⟩
  · rintro δ ⟨o3, rfl⟩
    walk_at "v"
    rw [hfl]
    exact hP
def Alike (one other : List Int) : Prop := one.length = other.length ∧ one.sum = other.sum
def S_check_alike (c : Cs) : DSX := fun ds P R => ∃ one other, ds = [dI one, dI other] ∧ (Alike one other → P .non) ∧ (¬ Alike one other → R c.NotAlike)
theorem mono_check_alike {c : Cs} : DMonoX (S_check_alike c) := by
  intro xs P P' R R' k kr h
  obtain ⟨one, other, e, h1, h2⟩ := h
  exact ⟨one, other, e, fun z => k _ (h1 z), fun z => kr _ (h2 z)⟩
theorem len_check_alike {c : Cs} : ∀ ds P R, S_check_alike c ds P R → ds.length = 2 := by
  intro ds P R h
  unfold S_check_alike at h
  grind
theorem ok_check_alike {f : Addr} {fd : FuncData} (F : FnAt K mg "check_alike" s_check_alike P_check_alike f fd) (A_ : Fns K mg) (T : Txt K mg base) {c : Cs} (xs : Exs K mg base c) : FnOk P w K mg base (CXR P w) 1 f fd P_check_alike (spX K (S_check_alike c)) := by
  refine F.fn.okX sc_check_alike (fun vs H Q E h => spX_len len_check_alike h) (fun cdv A outer s H vs Q E hr h => ?_)
  refine ⟨_, (pss_cons (ps_if (PT.nox (pt_cmpR op_ne (pe_callB (call_lenK (K := K) rfl) (by rfl) T.len_ PySem.boot_len (pa_cons (pv 0) pa_nil)) (pe_callB (call_lenK (K := K) rfl) (by rfl) T.len_ PySem.boot_len (pa_cons (pv 1) pa_nil)) (nomark _))) (pss_one (ps_raise (xs.o_NotAlike.own xs.m_NotAlike) PySem.F.excBase_ValueError rfl rfl raise_x (pa_cons pe_str pa_nil))) pss_nil)
      (pss_cons (ps_if (PT.nox (pt_cmpR op_ne (pe_callB (call_sumK (K := K) rfl rfl) (by rfl) T.sum_ boot_sum (pa_cons (pv 0) pa_nil)) (pe_callB (call_sumK (K := K) rfl rfl) (by rfl) T.sum_ boot_sum (pa_cons (pv 1) pa_nil)) (nomark _))) (pss_one (ps_raise (xs.o_NotAlike.own xs.m_NotAlike) PySem.F.excBase_ValueError rfl rfl raise_x (pa_cons pe_str pa_nil))) pss_nil)
      pss_nil)), fn_valX (Γn := []) (N := N_check_alike) (fun R => (sx_seq (sx_if (tr_test (EM.er (em_op o_ne (EM.er (em_cb c_len (ar_cons (ES.er (es_var 0)) ar_nil))) (EM.er (em_cb c_len (ar_cons (ES.er (es_var 1)) ar_nil)))))) (sx_raise (ar_cons (EM.er em_str) ar_nil)) (ST.sx st_next))
      (sx_seq (sx_if (tr_test (EM.er (em_op o_ne (EM.er (em_cb c_sum (ar_cons (ES.er (es_var 0)) ar_nil))) (EM.er (em_cb c_sum (ar_cons (ES.er (es_var 1)) ar_nil)))))) (sx_raise (ar_cons (EM.er em_str) ar_nil)) (ST.sx st_next))
      (ST.sx st_next)))) (fun ds P R hS => ?_) h⟩
  obtain ⟨one, other, rfl, hP, hR⟩ := hS
  rw [show startD N_check_alike [dI one, dI other] = [some (dI one), some (dI other)] from rfl]
  walk_at "v"
  by_cases h1 : one.length = other.length
  · rw [if_neg (fun z => z (by rw [h1]))]
    walk_at "v"
    by_cases h2 : one.sum = other.sum
    · rw [if_neg (fun z => z h2)]
      exact hP ⟨h1, h2⟩
    · rw [if_pos h2]
      walk_at "go"
      exact hR fun z => h2 z.2
  · rw [if_pos (fun z => h1 (by omega))]
    walk_at "go"
    exact hR fun z => h1 z.1
def barD (one other : List Int) : D := match Maj.above one other with | [] => .non | p :: _ => .int ((p : Int) + 1)
theorem below_heads {one other : List Int} (h : one.length = other.length) : belowL (headsL other) (headsL one) = Maj.above one other := by
  unfold belowL Maj.above
  rw [headsL_len, h]
  refine List.filter_congr fun p hp => ?_
  have := List.mem_range.mp hp
  rw [headsL_at (by omega), headsL_at (by omega)]
def S_first_head_above : DSp := fun ds P => ∃ one other, ds = [dI one, dI other] ∧ one.length < 64 ∧ one.length = other.length ∧ P (barD one other)
theorem mono_first_head_above : DMono S_first_head_above := by
  intro xs P P' k h
  unfold S_first_head_above at h ⊢
  grind
theorem len_first_head_above : ∀ ds P, S_first_head_above ds P → ds.length = 2 := by
  intro ds P h
  obtain ⟨_, _, e, _⟩ := h
  rw [e]; rfl
theorem ok_first_head_above {f : Addr} {fd : FuncData} (F : FnAt K mg "first_head_above" s_first_head_above P_first_head_above f fd) (A_ : Fns K mg) (T : Txt K mg base) {c : Cs} (xs : Exs K mg base c) : FnOk P w K mg base CX0 3 f fd P_first_head_above (spP K S_first_head_above) := by
  obtain ⟨f0, d0, E_places_below⟩ := A_.h_places_below
  have G_places_below : FnOk P w K mg base CX0 1 f0 d0 P_places_below (spP K S_places_below) := ok_places_below E_places_below A_ T xs
  obtain ⟨f1, d1, E_heads_of⟩ := A_.h_heads_of
  have G_heads_of : FnOk P w K mg base CX0 2 f1 d1 P_heads_of (spP K S_heads_of) := ok_heads_of E_heads_of A_ T xs
  refine F.fn.ok sc_first_head_above (fun vs H Q E h => spP_len len_first_head_above h) (fun cdv A outer s H vs Q E hr h => ?_)
  refine ⟨_, (pss_cons (ps_set (i := 2) sc_first_head_above.nd rfl (by first | exact Or.inl rfl | exact Or.inr rfl) (pe_call G_places_below (hr.mono (by decide)) rfl E_places_below.mg E_places_below.fn.kp E_places_below.bd .nil pass0 (pa_cons (pe_call G_heads_of (hr.mono (by decide)) rfl E_heads_of.mg E_heads_of.fn.kp E_heads_of.bd .nil pass0 (pa_cons (pv 1) pa_nil)) (pa_cons (pe_call G_heads_of (hr.mono (by decide)) rfl E_heads_of.mg E_heads_of.fn.kp E_heads_of.bd .nil pass0 (pa_cons (pv 0) pa_nil)) pa_nil))))
      (pss_cons (ps_if (pt_cmpR (op_eqL hr.units) (pv 2) (pe_lst pa_nil) (nomark _)) (pss_one (ps_ret pe_non)) pss_nil)
      (pss_one (ps_ret (pe_op op_add (pe_ix (ix_listK (K := K) rfl) (pv 2) pe_int (fun _ _ => rfl)) pe_int))))), fn_val (Γn := []) (N := N_first_head_above) (st_seq (ST.post (Γn := []) (st_setS 2 (EM.es (em_call (S := S_places_below) mono_places_below (ar_cons (EM.er (em_call (S := S_heads_of) mono_heads_of (ar_cons (ES.er (es_var 1)) ar_nil))) (ar_cons (EM.er (em_call (S := S_heads_of) mono_heads_of (ar_cons (ES.er (es_var 0)) ar_nil))) ar_nil))))))
      (st_seq (st_if (tr_test (EM.er (em_op o_eqL (ES.er (es_var 2)) (EM.er (em_lst am_nil))))) (st_ret (M := []) em_non) st_next)
      (st_ret (M := []) (em_op o_int (ES.er (es_ixL (es_var 2) (EM.er em_int))) (EM.er em_int))))) (fun ds P hS => ?_) h⟩
  obtain ⟨one, other, rfl, hl, he, hP⟩ := hS
  rw [show startD N_first_head_above [dI one, dI other] = [some (dI one), some (dI other), none] from rfl]
  walk_at "v"
  refine ⟨other, rfl, by omega, ⟨one, rfl, hl, ?_⟩⟩
  refine ⟨headsL other, headsL one, rfl, by rw [headsL_len]; omega, by rw [headsL_len, headsL_len, he], ?_⟩
  rw [below_heads he]
  unfold barD at hP
  walk_at "go"
  refine vEqL_ints (ys := []) ?_
  walk_at "v"
  cases e : Maj.above one other with
  | nil =>
    rw [e] at hP
    rw [if_pos (by rfl)]
    exact hP
  | cons p ps =>
    rw [e] at hP
    rw [if_neg (by simp)]
    walk_at "v"
    rw [List.map_cons, List.map_cons]
    walk_at "v"
    exact hP
def S_bar_of (c : Cs) : DSX := fun ds P R => ∃ one other, ds = [dI one, dI other] ∧ one.length < 64 ∧ (Alike one other → P (barD one other)) ∧ (¬ Alike one other → R c.NotAlike)
theorem mono_bar_of {c : Cs} : DMonoX (S_bar_of c) := by
  intro xs P P' R R' k kr h
  obtain ⟨one, other, e, hl, h1, h2⟩ := h
  exact ⟨one, other, e, hl, fun z => k _ (h1 z), fun z => kr _ (h2 z)⟩
theorem len_bar_of {c : Cs} : ∀ ds P R, S_bar_of c ds P R → ds.length = 2 := by
  intro ds P R h
  unfold S_bar_of at h
  grind
theorem ok_bar_of {f : Addr} {fd : FuncData} (F : FnAt K mg "bar_of" s_bar_of P_bar_of f fd) (A_ : Fns K mg) (T : Txt K mg base) {c : Cs} (xs : Exs K mg base c) : FnOk P w K mg base (CXR P w) 4 f fd P_bar_of (spX K (S_bar_of c)) := by
  obtain ⟨f0, d0, E_check_alike⟩ := A_.h_check_alike
  have G_check_alike : FnOk P w K mg base (CXR P w) 1 f0 d0 P_check_alike (spX K (S_check_alike c)) := ok_check_alike E_check_alike A_ T xs
  obtain ⟨f1, d1, E_first_head_above⟩ := A_.h_first_head_above
  have G_first_head_above : FnOk P w K mg base CX0 3 f1 d1 P_first_head_above (spP K S_first_head_above) := ok_first_head_above E_first_head_above A_ T xs
  refine F.fn.okX sc_bar_of (fun vs H Q E h => spX_len len_bar_of h) (fun cdv A outer s H vs Q E hr h => ?_)
  refine ⟨_, (pss_cons (ps_expr (pe_call G_check_alike (hr.mono (by decide)) rfl E_check_alike.mg E_check_alike.fn.kp E_check_alike.bd .nil pass_x (PA.nox (pa_cons (pv 0) (pa_cons (pv 1) pa_nil)))))
      (PSs.nox (pss_one (ps_ret (pe_call G_first_head_above (hr.mono (by decide)) rfl E_first_head_above.mg E_first_head_above.fn.kp E_first_head_above.bd .nil pass0 (pa_cons (pv 0) (pa_cons (pv 1) pa_nil))))))), fn_valX (Γn := []) (N := N_bar_of) (fun R => (sx_seq (sx_drop mono_check_alike (ar_cons (ES.er (es_var 0)) (ar_cons (ES.er (es_var 1)) ar_nil)))
      (ST.sx (st_ret (M := []) (em_call (S := S_first_head_above) mono_first_head_above (ar_cons (ES.er (es_var 0)) (ar_cons (ES.er (es_var 1)) ar_nil))))))) (fun ds P R hS => ?_) h⟩
  obtain ⟨one, other, rfl, hl, hP, hR⟩ := hS
  rw [show startD N_bar_of [dI one, dI other] = [some (dI one), some (dI other)] from rfl]
  walk_at "v"
  refine ⟨one, other, rfl, fun h => ?_, hR⟩
  walk_at "v"
  exact ⟨one, other, rfl, hl, h.1, hP h⟩
def S_is_number : DSp := fun ds P => ∃ d, ds = [d] ∧ kn d = true ∧ P (.bl (isNum d))
theorem mono_is_number : DMono S_is_number := by
  intro xs P P' k h
  unfold S_is_number at h ⊢
  grind
theorem len_is_number : ∀ ds P, S_is_number ds P → ds.length = 1 := by
  intro ds P h
  obtain ⟨_, e, _⟩ := h
  rw [e]; rfl
theorem ok_is_number {f : Addr} {fd : FuncData} (F : FnAt K mg "is_number" s_is_number P_is_number f fd) (A_ : Fns K mg) (T : Txt K mg base) {c : Cs} (xs : Exs K mg base c) : FnOk P w K mg base CX0 1 f fd P_is_number (spP K S_is_number) := by
  refine F.fn.ok sc_is_number (fun vs H Q E h => spP_len len_is_number h) (fun cdv A outer s H vs Q E hr h => ?_)
  refine ⟨_, (pss_one (ps_ret (pe_and (pe_callB (call_isinstK (K := K) rfl) (by rfl) T.isinstance_ boot_isinstance (pa_cons (pv 0) (pa_cons (pe_bltn (v := .ty "int") rfl T.int_ boot_int rfl) pa_nil))) (pe_one (pe_not (pe_callB (call_isinstK (K := K) rfl) (by rfl) T.isinstance_ boot_isinstance (pa_cons (pv 0) (pa_cons (pe_bltn (v := .ty "bool") rfl T.bool_ boot_bool rfl) pa_nil)))))))), fn_val (Γn := []) (N := N_is_number) (st_ret (M := []) (em_andV (EM.er (em_isinst kit_int (ES.er (es_var 0)))) (em_notV (EM.er (em_isinst kit_bool (ES.er (es_var 0))))))) (fun ds P hS => ?_) h⟩
  obtain ⟨d, rfl, hk, hP⟩ := hS
  rw [show startD N_is_number [d] = [some (d)] from rfl]
  cases d with
  | scr ns => cases hk
  | pin a d => cases hk
  | ins a b c => cases hk
  | _ => walk_at "v"; exact hP
def S_is_place : DSp := fun ds P => ∃ x m, ds = [.int x, .int m] ∧ P (.bl (decide (0 ≤ x ∧ x < m)))
theorem mono_is_place : DMono S_is_place := by
  intro xs P P' k h
  unfold S_is_place at h ⊢
  grind
theorem len_is_place : ∀ ds P, S_is_place ds P → ds.length = 2 := by
  intro ds P h
  obtain ⟨_, _, e, _⟩ := h
  rw [e]; rfl
theorem ok_is_place {f : Addr} {fd : FuncData} (F : FnAt K mg "is_place" s_is_place P_is_place f fd) (A_ : Fns K mg) (T : Txt K mg base) {c : Cs} (xs : Exs K mg base c) : FnOk P w K mg base CX0 1 f fd P_is_place (spP K S_is_place) := by
  refine F.fn.ok sc_is_place (fun vs H Q E h => spP_len len_is_place h) (fun cdv A outer s H vs Q E hr h => ?_)
  refine ⟨_, (pss_one (ps_ret (pe_chain op_le op_lt pe_int (pv 0) (pv 1)))), fn_val (Γn := []) (N := N_is_place) (st_ret (M := []) (em_chain o_bl o_bl (EM.er em_int) (ES.er (es_var 0)) (ES.er (es_var 1)))) (fun ds P hS => ?_) h⟩
  obtain ⟨x, m, rfl, hP⟩ := hS
  rw [show startD N_is_place [.int x, .int m] = [some (.int x), some (.int m)] from rfl]
  walk_at "v"
  split
  · rename_i c
    have e : decide (0 ≤ x ∧ x < m) = decide (x < m) := by rw [Bool.eq_iff_iff, decide_eq_true_eq, decide_eq_true_eq]; exact ⟨fun z => z.2, fun z => ⟨c, z⟩⟩
    rw [e] at hP
    exact hP
  · rename_i c
    rw [decide_eq_false (fun z => c z.1)] at hP
    exact hP
def StepOk (xs : List Int) (g t a : Int) : Prop := 0 ≤ g ∧ g < xs.length ∧ 0 ≤ t ∧ t < xs.length ∧ 1 ≤ a ∧ a ≤ xs.getD g.toNat 0 - xs.getD t.toNat 0
instance {xs : List Int} {g t a : Int} : Decidable (StepOk xs g t a) := by unfold StepOk; infer_instance
def dS (g t a : Int) : D := .tup [.int g, .int t, .int a]
def S_can_step : DSp := fun ds P => ∃ xs g t a, ds = [dI xs, dS g t a] ∧ P (.bl (decide (StepOk xs g t a)))
theorem mono_can_step : DMono S_can_step := by
  intro xs P P' k h
  unfold S_can_step at h ⊢
  grind
theorem len_can_step : ∀ ds P, S_can_step ds P → ds.length = 2 := by
  intro ds P h
  obtain ⟨_, _, _, _, e, _⟩ := h
  rw [e]; rfl
theorem ok_can_step {f : Addr} {fd : FuncData} (F : FnAt K mg "can_step" s_can_step P_can_step f fd) (A_ : Fns K mg) (T : Txt K mg base) {c : Cs} (xs : Exs K mg base c) : FnOk P w K mg base CX0 2 f fd P_can_step (spP K S_can_step) := by
  obtain ⟨f0, d0, E_is_place⟩ := A_.h_is_place
  have G_is_place : FnOk P w K mg base CX0 1 f0 d0 P_is_place (spP K S_is_place) := ok_is_place E_is_place A_ T xs
  refine F.fn.ok sc_can_step (fun vs H Q E h => spP_len len_can_step h) (fun cdv A outer s H vs Q E hr h => ?_)
  refine ⟨_, (pss_cons (ps_set (i := 2) sc_can_step.nd rfl (by first | exact Or.inl rfl | exact Or.inr rfl) (pe_ix (ix_tupK (K := K) rfl) (pv 1) pe_int (fun _ _ => rfl)))
      (pss_cons (ps_set (i := 3) sc_can_step.nd rfl (by first | exact Or.inl rfl | exact Or.inr rfl) (pe_ix (ix_tupK (K := K) rfl) (pv 1) pe_int (fun _ _ => rfl)))
      (pss_cons (ps_if (PW.pt (pw_or (pt_not (pt_val (pe_call G_is_place (hr.mono (by decide)) rfl E_is_place.mg E_is_place.fn.kp E_is_place.bd .nil pass0 (pa_cons (pv 2) (pa_cons (pe_callB (call_lenK (K := K) rfl) (by rfl) T.len_ PySem.boot_len (pa_cons (pv 0) pa_nil)) pa_nil))))) (pw_or1 (pt_not (pt_val (pe_call G_is_place (hr.mono (by decide)) rfl E_is_place.mg E_is_place.fn.kp E_is_place.bd .nil pass0 (pa_cons (pv 3) (pa_cons (pe_callB (call_lenK (K := K) rfl) (by rfl) T.len_ PySem.boot_len (pa_cons (pv 0) pa_nil)) pa_nil)))))))) (pss_one (ps_ret pe_bl)) pss_nil)
      (pss_one (ps_ret (pe_chain op_le op_le pe_int (pe_ix (ix_tupK (K := K) rfl) (pv 1) pe_int (fun _ _ => rfl)) (pe_op op_sub (pe_ix (ix_listK (K := K) rfl) (pv 0) (pv 2) (fun _ _ => rfl)) (pe_ix (ix_listK (K := K) rfl) (pv 0) (pv 3) (fun _ _ => rfl))))))))), fn_val (Γn := []) (N := N_can_step) (st_seq (ST.post (Γn := []) (st_setS 2 (es_ixT (es_var 1) (EM.er em_int))))
      (st_seq (ST.post (Γn := []) (st_setS 3 (es_ixT (es_var 1) (EM.er em_int))))
      (st_seq (st_if (tr_or (tr_not (tr_b (EM.er (em_call (S := S_is_place) mono_is_place (ar_cons (ES.er (es_var 2)) (ar_cons (EM.er (em_cb c_len (ar_cons (ES.er (es_var 0)) ar_nil))) ar_nil)))))) (tr_not (tr_b (EM.er (em_call (S := S_is_place) mono_is_place (ar_cons (ES.er (es_var 3)) (ar_cons (EM.er (em_cb c_len (ar_cons (ES.er (es_var 0)) ar_nil))) ar_nil))))))) (st_ret (M := []) em_bl) st_next)
      (st_ret (M := []) (em_chain o_bl o_bl (EM.er em_int) (ES.er (es_ixT (es_var 1) (EM.er em_int))) (EM.er (em_op o_int (ES.er (es_ixL (es_var 0) (ES.er (es_var 2)))) (ES.er (es_ixL (es_var 0) (ES.er (es_var 3))))))))))) (fun ds P hS => ?_) h⟩
  obtain ⟨xs, g, t, a, rfl, hP⟩ := hS
  rw [show startD N_can_step [dI xs, dS g t a] = [some (dI xs), some (dS g t a), none, none] from rfl]
  unfold dS
  walk_at "v"
  refine ⟨_, _, rfl, ?_⟩
  by_cases hg : 0 ≤ g ∧ g < (xs.length : Int)
  · rw [decide_eq_true hg]
    walk_at "v"
    refine ⟨_, _, rfl, ?_⟩
    by_cases ht : 0 ≤ t ∧ t < (xs.length : Int)
    · rw [decide_eq_true ht]
      walk_at "v"
      split
      · rename_i ha
        refine asO_ints hg (asO_ints ht ?_)
        walk_at "v"
        have e : decide (StepOk xs g t a) = decide (a ≤ xs.getD g.toNat 0 - xs.getD t.toNat 0) := by
          rw [Bool.eq_iff_iff, decide_eq_true_eq, decide_eq_true_eq]
          exact ⟨fun z => z.2.2.2.2.2, fun z => ⟨hg.1, hg.2, ht.1, ht.2, ha, z⟩⟩
        rw [e] at hP; exact hP
      · rename_i ha
        rw [decide_eq_false (fun z => ha z.2.2.2.2.1)] at hP; exact hP
    · rw [decide_eq_false ht]
      walk_at "v"
      rw [decide_eq_false (fun z => ht ⟨z.2.2.1, z.2.2.2.1⟩)] at hP; exact hP
  · rw [decide_eq_false hg]
    walk_at "v"
    rw [decide_eq_false (fun z => hg ⟨z.1, z.2.1⟩)] at hP; exact hP
def S_step_made (c : Cs) : DSX := fun ds P R => ∃ xs g t a, ds = [dI xs, dS g t a] ∧ (StepOk xs g t a → P (dI (Maj.stepped xs g.toNat t.toNat a))) ∧ (¬ StepOk xs g t a → R c.NoStep)
theorem mono_step_made {c : Cs} : DMonoX (S_step_made c) := by
  intro xs P P' R R' k kr h
  obtain ⟨ys, g, t, a, e, h1, h2⟩ := h
  exact ⟨ys, g, t, a, e, fun z => k _ (h1 z), fun z => kr _ (h2 z)⟩
theorem len_step_made {c : Cs} : ∀ ds P R, S_step_made c ds P R → ds.length = 2 := by
  intro ds P R h
  unfold S_step_made at h
  grind
theorem ok_step_made {f : Addr} {fd : FuncData} (F : FnAt K mg "step_made" s_step_made P_step_made f fd) (A_ : Fns K mg) (T : Txt K mg base) {c : Cs} (xs : Exs K mg base c) : FnOk P w K mg base (CXR P w) 3 f fd P_step_made (spX K (S_step_made c)) := by
  obtain ⟨f0, d0, E_can_step⟩ := A_.h_can_step
  have G_can_step : FnOk P w K mg base CX0 2 f0 d0 P_can_step (spP K S_can_step) := ok_can_step E_can_step A_ T xs
  refine F.fn.okX sc_step_made (fun vs H Q E h => spX_len len_step_made h) (fun cdv A outer s H vs Q E hr h => ?_)
  refine ⟨_, (pss_cons (ps_if (PT.nox (pt_not (pt_val (pe_call G_can_step (hr.mono (by decide)) rfl E_can_step.mg E_can_step.fn.kp E_can_step.bd .nil pass0 (pa_cons (pv 0) (pa_cons (pv 1) pa_nil)))))) (pss_one (ps_raise (xs.o_NoStep.own xs.m_NoStep) PySem.F.excBase_ValueError rfl rfl raise_x (pa_cons pe_str pa_nil))) pss_nil)
      (PSs.nox (pss_cons (ps_set (i := 2) sc_step_made.nd rfl (by first | exact Or.inl rfl | exact Or.inr rfl) (pe_callTy (call_listK (K := K) rfl) (by rfl) T.list_ boot_list (pa_cons (pv 0) pa_nil)))
      (pss_cons (ps_asg (pe_op op_sub (pe_ix (ix_listK (K := K) rfl) (pv 2) (pe_ix (ix_tupK (K := K) rfl) (pv 1) pe_int (fun _ _ => rfl)) (fun _ _ => rfl)) (pe_ix (ix_tupK (K := K) rfl) (pv 1) pe_int (fun _ _ => rfl))) (pg_sub (pv 2) (pe_ix (ix_tupK (K := K) rfl) (pv 1) pe_int (fun _ _ => rfl)) set_list))
      (pss_cons (ps_asg (pe_op op_add (pe_ix (ix_listK (K := K) rfl) (pv 2) (pe_ix (ix_tupK (K := K) rfl) (pv 1) pe_int (fun _ _ => rfl)) (fun _ _ => rfl)) (pe_ix (ix_tupK (K := K) rfl) (pv 1) pe_int (fun _ _ => rfl))) (pg_sub (pv 2) (pe_ix (ix_tupK (K := K) rfl) (pv 1) pe_int (fun _ _ => rfl)) set_list))
      (pss_one (ps_ret (pv 2)))))))), fn_valX (Γn := [2]) (N := N_step_made) (fun R => (sx_seq (sx_if (tr_not (tr_b (EM.er (em_call (S := S_can_step) mono_can_step (ar_cons (ES.er (es_var 0)) (ar_cons (ES.er (es_var 1)) ar_nil)))))) (sx_raise (ar_cons (EM.er em_str) ar_nil)) (ST.sx st_next))
      (ST.sx (st_seq (ST.post (Γn := [2]) (st_setM (M := []) 2 (em_cb c_list (ar_cons (ES.er (es_var 0)) ar_nil))))
      (st_seq (st_setItem 2 (em_op o_int (er_ixL (er_var 2) (ES.er (es_ixT (es_var 1) (EM.er em_int)))) (ES.er (es_ixT (es_var 1) (EM.er em_int)))) (ES.er (es_ixT (es_var 1) (EM.er em_int))))
      (st_seq (st_setItem 2 (em_op o_int (er_ixL (er_var 2) (ES.er (es_ixT (es_var 1) (EM.er em_int)))) (ES.er (es_ixT (es_var 1) (EM.er em_int)))) (ES.er (es_ixT (es_var 1) (EM.er em_int))))
      (st_ret (M := [2]) (em_var 2)))))))) (fun ds P R hS => ?_) h⟩
  obtain ⟨xs, g, t, a, rfl, hP, hR⟩ := hS
  rw [show startD N_step_made [dI xs, dS g t a] = [some (dI xs), some (dS g t a), none] from rfl]
  walk_at "v"
  refine ⟨xs, g, t, a, rfl, ?_⟩
  by_cases h : StepOk xs g t a
  · rw [decide_eq_true h]
    obtain ⟨g1, g2, t1, t2, a1, a2⟩ := id h
    have hP := hP h
    walk_at "go"
    refine setItem_ints (r := xs) (a := g) (v := xs.getD g.toNat 0 - a) rfl (fun R h => ?_) (fun R h => ?_) (by omega) ?_
    · unfold dS
      walk_at "v"
      refine asO_ints (by omega) ?_
      walk_at "v"
      exact h
    · unfold dS
      walk_at "v"
      exact h
    · walk_at "v"
      refine setItem_ints (r := xs.set g.toNat (xs.getD g.toNat 0 - a)) (a := t) (v := (xs.set g.toNat (xs.getD g.toNat 0 - a)).getD t.toNat 0 + a) rfl (fun R h => ?_) (fun R h => ?_) (by rw [List.length_set]; omega) ?_
      · unfold dS
        walk_at "v"
        refine asO_ints (by rw [List.length_set]; omega) ?_
        walk_at "v"
        exact h
      · unfold dS
        walk_at "v"
        exact h
      · walk_at "v"
        exact hP
  · rw [decide_eq_false h]
    walk_at "go"
    exact hR h
def exS (xs : List Int) (p q : Nat) : D := if xs.getD q 0 < xs.getD p 0 then dS p q (xs.getD p 0 - xs.getD q 0) else dS q p (xs.getD q 0 - xs.getD p 0)
def S_exchange_step : DSp := fun ds P => ∃ (xs : List Int) (p q : Nat), ds = [dI xs, .int p, .int q] ∧ p < xs.length ∧ q < xs.length ∧ P (exS xs p q)
theorem mono_exchange_step : DMono S_exchange_step := by
  intro xs P P' k h
  unfold S_exchange_step at h ⊢
  grind
theorem len_exchange_step : ∀ ds P, S_exchange_step ds P → ds.length = 3 := by
  intro ds P h
  obtain ⟨_, _, _, e, _⟩ := h
  rw [e]; rfl
theorem ok_exchange_step {f : Addr} {fd : FuncData} (F : FnAt K mg "exchange_step" s_exchange_step P_exchange_step f fd) (A_ : Fns K mg) (T : Txt K mg base) {c : Cs} (xs : Exs K mg base c) : FnOk P w K mg base CX0 1 f fd P_exchange_step (spP K S_exchange_step) := by
  refine F.fn.ok sc_exchange_step (fun vs H Q E h => spP_len len_exchange_step h) (fun cdv A outer s H vs Q E hr h => ?_)
  refine ⟨_, (pss_cons (ps_if (pt_cmpR op_gt (pe_ix (ix_listK (K := K) rfl) (pv 0) (pv 1) (fun _ _ => rfl)) (pe_ix (ix_listK (K := K) rfl) (pv 0) (pv 2) (fun _ _ => rfl)) (nomark _)) (pss_one (ps_ret (pe_tup (pa_cons (pv 1) (pa_cons (pv 2) (pa_cons (pe_op op_sub (pe_ix (ix_listK (K := K) rfl) (pv 0) (pv 1) (fun _ _ => rfl)) (pe_ix (ix_listK (K := K) rfl) (pv 0) (pv 2) (fun _ _ => rfl))) pa_nil)))))) pss_nil)
      (pss_one (ps_ret (pe_tup (pa_cons (pv 2) (pa_cons (pv 1) (pa_cons (pe_op op_sub (pe_ix (ix_listK (K := K) rfl) (pv 0) (pv 2) (fun _ _ => rfl)) (pe_ix (ix_listK (K := K) rfl) (pv 0) (pv 1) (fun _ _ => rfl))) pa_nil))))))), fn_val (Γn := []) (N := N_exchange_step) (st_seq (st_if (tr_test (EM.er (em_op o_bl (ES.er (es_ixL (es_var 0) (ES.er (es_var 1)))) (ES.er (es_ixL (es_var 0) (ES.er (es_var 2))))))) (st_ret (M := []) (em_tup (am_cons0 (ER.scal (ES.er (es_var 1))) (am_cons0 (ER.scal (ES.er (es_var 2))) (am_cons0 (em_op o_int (ES.er (es_ixL (es_var 0) (ES.er (es_var 1)))) (ES.er (es_ixL (es_var 0) (ES.er (es_var 2))))) am_nil))))) st_next)
      (st_ret (M := []) (em_tup (am_cons0 (ER.scal (ES.er (es_var 2))) (am_cons0 (ER.scal (ES.er (es_var 1))) (am_cons0 (em_op o_int (ES.er (es_ixL (es_var 0) (ES.er (es_var 2)))) (ES.er (es_ixL (es_var 0) (ES.er (es_var 1))))) am_nil)))))) (fun ds P hS => ?_) h⟩
  obtain ⟨xs, p, q, rfl, hp, hq, hP⟩ := hS
  rw [show startD N_exchange_step [dI xs, .int p, .int q] = [some (dI xs), some (.int p), some (.int q)] from rfl]
  unfold exS at hP
  walk_at "go"
  refine asO_ints (by omega) ?_
  refine asO_ints (by omega) ?_
  rw [Int.toNat_natCast, Int.toNat_natCast]
  walk_at "go"
  by_cases h : xs.getD q 0 < xs.getD p 0
  · rw [if_pos h] at hP ⊢
    refine asO_ints (by omega) ?_
    refine asO_ints (by omega) ?_
    rw [Int.toNat_natCast, Int.toNat_natCast]
    walk_at "go"
    exact hP
  · rw [if_neg h] at hP ⊢
    refine asO_ints (by omega) ?_
    refine asO_ints (by omega) ?_
    rw [Int.toNat_natCast, Int.toNat_natCast]
    walk_at "go"
    exact hP
def Sg (m : Nat) (f : Nat → Int) : Int := ((List.range m).map f).sum
theorem Sg_zero {f : Nat → Int} : Sg 0 f = 0 := rfl
theorem Sg_succ {m : Nat} {f : Nat → Int} : Sg (m + 1) f = Sg m f + f m := by
  unfold Sg
  rw [List.range_succ, List.map_append, List.sum_append]
  simp
theorem Sg_congr {m : Nat} {f g : Nat → Int} (h : ∀ j, j < m → f j = g j) : Sg m f = Sg m g := by
  unfold Sg
  exact congrArg List.sum (List.map_congr_left fun j hj => h j (List.mem_range.mp hj))
theorem Sg_add {f g : Nat → Int} : ∀ {m : Nat}, Sg m (fun j => f j + g j) = Sg m f + Sg m g
  | 0 => rfl
  | m + 1 => by rw [Sg_succ, Sg_succ, Sg_succ, Sg_add]; omega
theorem Sg_le {f g : Nat → Int} : ∀ {m : Nat}, (∀ j, j < m → f j ≤ g j) → Sg m f ≤ Sg m g
  | 0, _ => Int.le_refl _
  | m + 1, h => by
    rw [Sg_succ, Sg_succ]
    have := Sg_le (m := m) fun j hj => h j (by omega)
    have := h m (by omega)
    omega
theorem Sg_const0 : ∀ {m : Nat}, Sg m (fun _ => 0) = 0
  | 0 => rfl
  | m + 1 => by rw [Sg_succ, Sg_const0]; rfl
theorem Sg_put {f : Nat → Int} {p : Nat} {v : Int} : ∀ {m : Nat}, p < m → Sg m (fun j => if j = p then v else f j) = Sg m f + v - f p
  | 0, h => by omega
  | m + 1, h => by
    rw [Sg_succ, Sg_succ]
    by_cases e : p = m
    · subst e
      rw [if_pos rfl, Sg_congr (g := f) fun j hj => if_neg (by omega)]
      omega
    · rw [if_neg (fun z => e z.symm), Sg_put (by omega)]
      omega
structure Dom (n : Nat) (g x : Nat → Int) : Prop where
  le : ∀ k, k ≤ n → Sg k g ≤ Sg k x
  eq : Sg n g = Sg n x
def Fal (n : Nat) (x : Nat → Int) : Prop := ∀ i, i + 1 < n → x (i + 1) ≤ x i
theorem Fal.to {n : Nat} {x : Nat → Int} (h : Fal n x) {i : Nat} : ∀ {j : Nat}, i ≤ j → j < n → x j ≤ x i
  | 0, h1, h2 => by have : i = 0 := by omega
                    subst this; exact Int.le_refl _
  | j + 1, h1, h2 => by
    by_cases e : i = j + 1
    · subst e; exact Int.le_refl _
    · exact Int.le_trans (h j h2) (h.to (j := j) (by omega) (by omega))
theorem Sg_eq_of_le {g x : Nat → Int} : ∀ {n : Nat}, (∀ j, j < n → x j ≤ g j) → Sg n g ≤ Sg n x → ∀ j, j < n → x j = g j
  | 0, _, _, j, hj => by omega
  | n + 1, h, e, j, hj => by
    rw [Sg_succ, Sg_succ] at e
    have h1 := Sg_le (m := n) (f := x) (g := g) fun j hj => h j (by omega)
    have h2 := h n (by omega)
    by_cases q : j = n
    · subst q; omega
    · exact Sg_eq_of_le (n := n) (fun j hj => h j (by omega)) (by omega) j (by omega)
theorem Sg_split {f : Nat → Int} {a : Nat} : ∀ {b : Nat}, Sg (a + b) f = Sg a f + Sg b fun j => f (a + j)
  | 0 => by rw [Sg_zero]; simp
  | b + 1 => by rw [← Nat.add_assoc, Sg_succ, Sg_succ, Sg_split]; omega
structure Gives (n : Nat) (g x : Nat → Int) (p t : Nat) : Prop where
  pt : p < t
  tn : t < n
  gp : g p < x p
  gt : x t < g t
  mid : ∀ j, p < j → j < t → x j = g j
theorem last_of {P : Nat → Prop} [DecidablePred P] : ∀ {n : Nat}, (∃ j, j < n ∧ P j) → ∃ p, p < n ∧ P p ∧ ∀ j, p < j → j < n → ¬ P j
  | 0, h => by obtain ⟨j, hj, _⟩ := h; omega
  | n + 1, h => by
    by_cases q : P n
    · exact ⟨n, by omega, q, fun j h1 h2 => by omega⟩
    · obtain ⟨j, hj, pj⟩ := h
      have : j ≠ n := fun z => q (z ▸ pj)
      obtain ⟨p, h1, h2, h3⟩ := last_of (n := n) ⟨j, by omega, pj⟩
      refine ⟨p, by omega, h2, fun k k1 k2 => ?_⟩
      by_cases e : k = n
      · subst e; exact q
      · exact h3 k k1 (by omega)
theorem Dom.giver {n : Nat} {g x : Nat → Int} (h : Dom n g x) (hne : ∃ j, j < n ∧ x j ≠ g j) : ∃ p, p < n ∧ g p < x p := by
  apply Classical.byContradiction
  intro z
  obtain ⟨j, hj, e⟩ := hne
  refine e (Sg_eq_of_le (fun j hj => ?_) (by rw [h.eq]; exact Int.le_refl _) j hj)
  have : ¬ g j < x j := fun q => z ⟨j, hj, q⟩
  omega
theorem Dom.taker {n p : Nat} {g x : Nat → Int} (h : Dom n g x) (hp : p < n) (gp : g p < x p) : ∃ t, p < t ∧ t < n ∧ x t < g t := by
  apply Classical.byContradiction
  intro z
  have h1 := h.le p (by omega)
  have h2 := h.eq
  obtain ⟨b, rfl⟩ : ∃ b, n = (p + 1) + b := ⟨n - (p + 1), by omega⟩
  rw [Sg_split (f := g) (a := p + 1) (b := b), Sg_split (f := x) (a := p + 1) (b := b), Sg_succ (f := g) (m := p), Sg_succ (f := x) (m := p)] at h2
  have h3 := Sg_le (m := b) (f := fun j => g (p + 1 + j)) (g := fun j => x (p + 1 + j)) fun j hj => by
    have : ¬ x (p + 1 + j) < g (p + 1 + j) := fun q => z ⟨p + 1 + j, by omega, by omega, q⟩
    show g (p + 1 + j) ≤ x (p + 1 + j)
    omega
  omega
theorem Dom.gives {n p t : Nat} {g x : Nat → Int} (hp : p < n) (gp : g p < x p) (last : ∀ j, p < j → j < n → ¬ g j < x j) (pt : p < t) (tn : t < n) (gt : x t < g t) (first : ∀ j, p < j → j < t → ¬ x j < g j) : Gives n g x p t :=
  ⟨pt, tn, gp, gt, fun j h1 h2 => by have := last j h1 (by omega); have := first j h1 h2; omega⟩
def stepF (x : Nat → Int) (p t : Nat) (a : Int) : Nat → Int := fun j => if j = p then x p - a else if j = t then x t + a else x j
theorem stepF_sum {x : Nat → Int} {p t : Nat} {a : Int} (hpt : p < t) : ∀ k, Sg k (stepF x p t a) = Sg k x + (if p < k then -a else 0) + (if t < k then a else 0)
  | 0 => by rw [Sg_zero, Sg_zero]; simp
  | k + 1 => by
    rw [Sg_succ, Sg_succ, stepF_sum hpt k]
    unfold stepF
    by_cases e : k = p
    · subst e
      (repeat' split) <;> omega
    · by_cases e2 : k = t
      · subst e2
        (repeat' split) <;> omega
      · (repeat' split) <;> omega
theorem Gives.head {n p t : Nat} {g x : Nat → Int} (h : Gives n g x p t) (d : Dom n g x) {k : Nat} (h1 : p < k) (h2 : k ≤ t) : Sg k g + (x p - g p) ≤ Sg k x := by
  obtain ⟨b, rfl⟩ : ∃ b, k = (p + 1) + b := ⟨k - (p + 1), by omega⟩
  have := d.le p (by have := h.pt; have := h.tn; omega)
  rw [Sg_split (f := g) (a := p + 1) (b := b), Sg_split (f := x) (a := p + 1) (b := b), Sg_succ (f := g) (m := p), Sg_succ (f := x) (m := p), Sg_congr (m := b) (f := fun j => x (p + 1 + j)) (g := fun j => g (p + 1 + j)) fun j hj => h.mid (p + 1 + j) (by omega) (by omega)]
  omega
theorem Gives.dom {n p t : Nat} {g x : Nat → Int} {a : Int} (h : Gives n g x p t) (d : Dom n g x) (a1 : a ≤ x p - g p) : Dom n g (stepF x p t a) := by
  have pt := h.pt
  have tn := h.tn
  refine ⟨fun k hk => ?_, ?_⟩
  · rw [stepF_sum pt]
    have := d.le k hk
    by_cases q1 : p < k
    · rw [if_pos q1]
      by_cases q2 : t < k
      · rw [if_pos q2]; omega
      · rw [if_neg q2]
        have := h.head d q1 (by omega)
        omega
    · rw [if_neg q1, if_neg (by omega)]; omega
  · rw [stepF_sum pt, if_pos (by omega), if_pos (by omega)]
    have := d.eq
    omega
theorem Gives.fal {n p t : Nat} {g x : Nat → Int} {a : Int} (h : Gives n g x p t) (fg : Fal n g) (fx : Fal n x) (a0 : 0 ≤ a) (a1 : a ≤ x p - g p) (a2 : a ≤ g t - x t) : Fal n (stepF x p t a) := by
  have pt := h.pt
  have tn := h.tn
  intro i hi
  have f1 := fx i hi
  have f2 := fg i hi
  unfold stepF
  by_cases e1 : i + 1 = p
  · rw [if_pos e1, if_neg (by omega), if_neg (by omega)]
    subst e1; omega
  · rw [if_neg e1]
    by_cases e2 : i = p
    · subst e2
      rw [if_pos rfl]
      by_cases e3 : i + 1 = t
      · subst e3
        rw [if_pos rfl]; omega
      · rw [if_neg e3]
        have := h.mid (i + 1) (by omega) (by omega)
        omega
    · rw [if_neg e2]
      by_cases e3 : i + 1 = t
      · subst e3
        rw [if_pos rfl, if_neg (by omega)]
        by_cases e4 : p < i
        · have := h.mid i e4 (by omega)
          omega
        · omega
      · rw [if_neg e3]
        by_cases e4 : i = t
        · subst e4
          rw [if_pos rfl]; omega
        · rw [if_neg e4]; exact f1
theorem Gives.can {n p t : Nat} {g x : Nat → Int} {a : Int} (h : Gives n g x p t) (fg : Fal n g) (a1 : a ≤ x p - g p) (a2 : a ≤ g t - x t) : a ≤ x p - x t := by
  have := fg.to (i := p) (j := t) (by have := h.pt; omega) h.tn
  have := h.gp
  have := h.gt
  omega
def offs (g x : Nat → Int) : Nat → Nat
  | 0 => 0
  | n + 1 => offs g x n + (if x n = g n then 0 else 1)
theorem offs_le {g x y : Nat → Int} : ∀ {n : Nat}, (∀ j, j < n → x j = g j → y j = g j) → offs g y n ≤ offs g x n
  | 0, _ => Nat.le_refl _
  | n + 1, h => by
    have h1 := offs_le (n := n) fun j hj => h j (by omega)
    have h2 := h n (by omega)
    show offs g y n + _ ≤ offs g x n + _
    by_cases e : x n = g n
    · rw [if_pos e, if_pos (h2 e)]; omega
    · rw [if_neg e]; split <;> omega
theorem offs_lt {g x y : Nat → Int} {p : Nat} : ∀ {n : Nat}, (∀ j, j < n → x j = g j → y j = g j) → p < n → x p ≠ g p → y p = g p → offs g y n < offs g x n
  | 0, _, hp, _, _ => by omega
  | n + 1, h, hp, h1, h2 => by
    show offs g y n + _ < offs g x n + _
    by_cases e : p = n
    · subst e
      have := offs_le (n := p) fun j hj => h j (by omega)
      rw [if_pos h2, if_neg h1]; omega
    · have := offs_lt (n := n) (fun j hj => h j (by omega)) (by omega) h1 h2
      have h3 := h n (by omega)
      by_cases q : x n = g n
      · rw [if_pos q, if_pos (h3 q)]; omega
      · rw [if_neg q]; split <;> omega
theorem offs_max {g x : Nat → Int} : ∀ {n : Nat}, offs g x n ≤ n
  | 0 => Nat.le_refl _
  | n + 1 => by have := offs_max (g := g) (x := x) (n := n); show offs g x n + _ ≤ n + 1; split <;> omega
theorem offs_zero {g x : Nat → Int} : ∀ {n : Nat}, offs g x n = 0 → ∀ j, j < n → x j = g j
  | 0, _, j, hj => by omega
  | n + 1, h, j, hj => by
    have h' : offs g x n + (if x n = g n then 0 else 1) = 0 := h
    by_cases q : x n = g n
    · by_cases e : j = n
      · subst e; exact q
      · exact offs_zero (n := n) (by omega) j (by omega)
    · rw [if_neg q] at h'; omega
theorem offs_two {g x : Nat → Int} {p t : Nat} {n : Nat} (hp : p < t) (ht : t < n) (h1 : x p ≠ g p) (h2 : x t ≠ g t) : 2 ≤ offs g x n := by
  have a := offs_lt (g := g) (x := x) (y := fun j => if j = p then g p else x j) (p := p) (n := n) (fun j _ e => by by_cases q : j = p <;> simp [q, e]) (by omega) h1 (by simp)
  have b := offs_lt (g := g) (x := fun j => if j = p then g p else x j) (y := g) (p := t) (n := n) (fun j _ e => rfl) ht (by rw [if_neg (by omega)]; exact h2) rfl
  omega
theorem Gives.fewer {n p t : Nat} {g x : Nat → Int} (h : Gives n g x p t) : offs g (stepF x p t (min (x p - g p) (g t - x t))) n + 1 ≤ offs g x n ∧ 2 ≤ offs g x n := by
  have pt := h.pt
  have tn := h.tn
  have gp := h.gp
  have gt := h.gt
  have keep : ∀ j, j < n → x j = g j → stepF x p t (min (x p - g p) (g t - x t)) j = g j := fun j _ e => by
    unfold stepF
    by_cases q1 : j = p
    · subst q1; omega
    · rw [if_neg q1]
      by_cases q2 : j = t
      · subst q2; omega
      · rw [if_neg q2]; exact e
  refine ⟨?_, offs_two pt tn (by omega) (by omega)⟩
  by_cases e : x p - g p ≤ g t - x t
  · exact offs_lt keep (p := p) (by omega) (by omega) (by unfold stepF; rw [if_pos rfl]; omega)
  · exact offs_lt keep (p := t) tn (by omega) (by unfold stepF; rw [if_neg (by omega), if_pos rfl]; omega)
theorem last_cast {L : List Nat} (h : L ≠ []) (pw : L.Pairwise (· < ·)) : ∃ p : Nat, (L.map fun (p : Nat) => (p : Int)).getD ((L.map fun (p : Nat) => (p : Int)).length - 1) 0 = (p : Int) ∧ p ∈ L ∧ ∀ j ∈ L, j ≤ p := by
  have hl : 0 < L.length := List.length_pos_iff.mpr h
  refine ⟨L[L.length - 1]'(by omega), ?_, List.getElem_mem _, fun j hj => ?_⟩
  · rw [List.length_map, List.getD_eq_getElem?_getD, List.getElem?_map, List.getElem?_eq_getElem (by omega)]; rfl
  · obtain ⟨i, hi, rfl⟩ := List.mem_iff_getElem.mp hj
    by_cases e : i = L.length - 1
    · subst e; exact Nat.le_refl _
    · exact Nat.le_of_lt (List.pairwise_iff_getElem.mp pw i (L.length - 1) hi (by omega) (by omega))
theorem below_mem {one other : List Int} {p : Nat} : p ∈ belowL one other ↔ p < one.length ∧ one.getD p 0 < other.getD p 0 := by
  unfold belowL
  rw [List.mem_filter, List.mem_range, decide_eq_true_eq]
theorem below_pw {one other : List Int} : (belowL one other).Pairwise (· < ·) := by
  unfold belowL
  exact List.pairwise_lt_range.sublist List.filter_sublist
def atF (xs : List Int) : Nat → Int := fun j => xs.getD j 0
def S_evening_step : DSp := fun ds P => ∃ gs xs : List Int, ds = [dI gs, dI xs] ∧ gs.length = xs.length ∧ xs.length < 64 ∧ Dom xs.length (atF gs) (atF xs) ∧ (∃ j, j < xs.length ∧ atF xs j ≠ atF gs j) ∧ ∀ p t : Nat, Gives xs.length (atF gs) (atF xs) p t → P (dS p t (min (atF xs p - atF gs p) (atF gs t - atF xs t)))
theorem mono_evening_step : DMono S_evening_step := by
  intro xs P P' k h
  obtain ⟨gs, ys, e, h1, h2, h3, h4, h⟩ := h
  exact ⟨gs, ys, e, h1, h2, h3, h4, fun p t z => k _ (h p t z)⟩
theorem len_evening_step : ∀ ds P, S_evening_step ds P → ds.length = 2 := by
  intro ds P h
  obtain ⟨_, _, e, _⟩ := h
  rw [e]; rfl
theorem ok_evening_step {f : Addr} {fd : FuncData} (F : FnAt K mg "evening_step" s_evening_step P_evening_step f fd) (A_ : Fns K mg) (T : Txt K mg base) {c : Cs} (xs : Exs K mg base c) : FnOk P w K mg base CX0 2 f fd P_evening_step (spP K S_evening_step) := by
  obtain ⟨f0, d0, E_places_below⟩ := A_.h_places_below
  have G_places_below : FnOk P w K mg base CX0 1 f0 d0 P_places_below (spP K S_places_below) := ok_places_below E_places_below A_ T xs
  refine F.fn.ok sc_evening_step (fun vs H Q E h => spP_len len_evening_step h) (fun cdv A outer s H vs Q E hr h => ?_)
  refine ⟨_, (pss_cons (ps_set (i := 2) sc_evening_step.nd rfl (by first | exact Or.inl rfl | exact Or.inr rfl) (pe_ix (ix_listK (K := K) rfl) (pe_call G_places_below (hr.mono (by decide)) rfl E_places_below.mg E_places_below.fn.kp E_places_below.bd .nil pass0 (pa_cons (pv 0) (pa_cons (pv 1) pa_nil))) (pe_un un_neg pe_int) (fun _ _ => rfl)))
      (pss_cons (ps_set (i := 3) sc_evening_step.nd rfl (by first | exact Or.inl rfl | exact Or.inr rfl) (pe_callB (call_minL (K := K) rfl rfl) (by rfl) T.min_ boot_min (pa_cons (pe_comp rfl (CompScope.of (sc0 := (defScope s_evening_step)) (tn := ["place"]) (cap := ["giver"]) (idx := [2]) (by decide +kernel) rfl rfl) (pi_listK (K := K) rfl (pe_call G_places_below (hr.mono (by decide)) rfl E_places_below.mg E_places_below.fn.kp E_places_below.bd .nil pass0 (pa_cons (pv 1) (pa_cons (pv 0) pa_nil)))) (GSet.name (by decide)) (fun _ _ _ _ _ => pg_name (i := 0) (nodupB_iff (l := ["place", "giver"]) (by decide +kernel)) rfl (by first | exact Or.inl rfl | exact Or.inr rfl) (by first | exact .inl rfl | exact .inr rfl)) (fun _ _ _ _ _ => pts_one (pt_cmpR op_gt (pv 0) (pv 1) (nomark _))) (fun _ _ _ _ _ => (pv 0)) (by intro _; rfl)) pa_nil)))
      (pss_one (ps_ret (pe_tup (pa_cons (pv 2) (pa_cons (pv 3) (pa_cons (pe_callB (call_min2 rfl) (by rfl) T.min_ boot_min (pa_cons (pe_op op_sub (pe_ix (ix_listK (K := K) rfl) (pv 1) (pv 2) (fun _ _ => rfl)) (pe_ix (ix_listK (K := K) rfl) (pv 0) (pv 2) (fun _ _ => rfl))) (pa_cons (pe_op op_sub (pe_ix (ix_listK (K := K) rfl) (pv 0) (pv 3) (fun _ _ => rfl)) (pe_ix (ix_listK (K := K) rfl) (pv 1) (pv 3) (fun _ _ => rfl))) pa_nil))) pa_nil)))))))), fn_val (Γn := [3, 2]) (N := N_evening_step) (st_seq (ST.post (Γn := [2]) (st_setM (M := []) 2 (ER.scal (ES.er (es_ixL (EM.es (em_call (S := S_places_below) mono_places_below (ar_cons (ES.er (es_var 0)) (ar_cons (ES.er (es_var 1)) ar_nil)))) (EM.er (em_un u_int (EM.er em_int))))))))
      (st_seq (ST.post (Γn := [3, 2]) (st_setM (M := []) 3 (em_cb c_minL (ar_cons (EM.er (em_comp (it_list (EM.es (em_call (S := S_places_below) mono_places_below (ar_cons (ES.er (es_var 1)) (ar_cons (ES.er (es_var 0)) ar_nil))))) (gt_name 0) (tr_test (EM.er (em_op o_bl (ES.er (es_var 0)) (ES.er (es_var 1))))) (ER.scal (ES.er (es_var 0))))) ar_nil))))
      (st_ret (M := [2, 3]) (em_tup (am_cons (em_var 2) (am_cons (em_var 3) (am_cons0 (em_cb c_min2 (ar_cons (EM.er (em_op o_int (ES.er (es_ixL (es_var 1) (er_var 2))) (ES.er (es_ixL (es_var 0) (er_var 2))))) (ar_cons (EM.er (em_op o_int (ES.er (es_ixL (es_var 0) (er_var 3))) (ES.er (es_ixL (es_var 1) (er_var 3))))) ar_nil))) am_nil))))))) (fun ds P hS => ?_) h⟩
  obtain ⟨gs, xs, rfl, hl, h64, hD, hne, hP⟩ := hS
  rw [show startD N_evening_step [dI gs, dI xs] = [some (dI gs), some (dI xs), none, none] from rfl]
  obtain ⟨p0, hp0, hgp0⟩ := hD.giver hne
  obtain ⟨p, ep, hpL, hpmax⟩ := last_cast (L := belowL gs xs) (List.ne_nil_of_mem (below_mem.mpr ⟨by omega, hgp0⟩)) below_pw
  obtain ⟨hpn, hgp⟩ := below_mem.mp hpL
  have len1 : 1 ≤ ((belowL gs xs).map fun (p : Nat) => (p : Int)).length := by rw [List.length_map]; exact List.length_pos_of_mem hpL
  walk_at "go"
  refine ⟨gs, xs, rfl, by omega, hl, ?_⟩
  walk_at "go"
  refine asO_lastI len1 ?_
  rw [ep]
  refine ⟨rfl, ?_⟩
  have len2 : ((belowL xs gs).map fun (p : Nat) => (p : Int)).length ≤ 1000 := by
    rw [List.length_map]
    unfold belowL
    have := List.length_filter_le (fun p => decide (xs.getD p 0 < gs.getD p 0)) (List.range xs.length)
    rw [List.length_range] at this
    omega
  refine comp_intsF (ns := (belowL xs gs).map fun (p : Nat) => (p : Int)) (p := fun z => decide ((p : Int) < z)) (g := fun z => .int z) (fun R h => ?_) len2 (fun z hz R h => ?_) ?_
  · exact ⟨xs, gs, rfl, by omega, hl.symm, h⟩
  · walk_at "gb"
    split
    · rename_i c
      rw [decide_eq_true c] at h
      exact h
    · rename_i c
      rw [decide_eq_false c] at h
      exact h
  · obtain ⟨t0, t1, t2, t3⟩ := hD.taker (by omega) hgp
    refine asNs_ints.mpr ⟨List.length_pos_of_mem (List.mem_filter.mpr ⟨List.mem_map.mpr ⟨t0, below_mem.mpr ⟨t2, t3⟩, rfl⟩, decide_eq_true (by omega)⟩), fun M hM hmin => ?_⟩
    obtain ⟨hM1, hM2⟩ := List.mem_filter.mp hM
    obtain ⟨t, ht, rfl⟩ := List.mem_map.mp hM1
    obtain ⟨htn, htg⟩ := below_mem.mp ht
    have hpt := of_decide_eq_true hM2
    have hG : Gives xs.length (atF gs) (atF xs) p t := Dom.gives (by omega) hgp (fun j h1 h2 z => by
      have := hpmax j (below_mem.mpr ⟨by omega, z⟩)
      omega) (by omega) htn htg fun j h1 h2 z => by
      have := hmin (j : Int) (List.mem_filter.mpr ⟨List.mem_map.mpr ⟨j, below_mem.mpr ⟨by omega, z⟩, rfl⟩, decide_eq_true (by omega)⟩)
      omega
    have hQ := hP p t hG
    walk_at "go"
    refine asO_ints (by omega) ?_
    refine asO_ints (by omega) ?_
    rw [Int.toNat_natCast]
    walk_at "go"
    refine asO_ints (by omega) ?_
    refine asO_ints (by omega) ?_
    rw [Int.toNat_natCast]
    walk_at "go"
    have em : ∀ i j : Int, (if j < i then j else i) = min i j := fun i j => by split <;> omega
    try refine ⟨by omega, ?_⟩
    rw [em]
    exact hQ
def Walk : List Int → List (Int × Int × Int) → List Int → Prop
  | xs, [], ys => xs = ys
  | xs, (g, t, a) :: r, ys => StepOk xs g t a ∧ Walk (Maj.stepped xs g.toNat t.toNat a) r ys
theorem Walk.snoc {g t a : Int} : ∀ {ss : List (Int × Int × Int)} {xs ys : List Int}, Walk xs ss ys → StepOk ys g t a → Walk xs (ss ++ [(g, t, a)]) (Maj.stepped ys g.toNat t.toNat a)
  | [], xs, ys, h, hs => by
    have h' : xs = ys := h
    subst h'
    exact ⟨hs, rfl⟩
  | (g0, t0, a0) :: r, xs, ys, h, hs => ⟨h.1, Walk.snoc h.2 hs⟩
theorem getD_stepped {xs : List Int} {p t j : Nat} {a : Int} (hp : p < xs.length) (ht : t < xs.length) (hpt : p ≠ t) : (Maj.stepped xs p t a).getD j 0 = if j = p then xs.getD p 0 - a else if j = t then xs.getD t 0 + a else xs.getD j 0 := by
  have self : ∀ {ys : List Int} {i : Nat} {v : Int}, i < ys.length → (ys.set i v).getD i 0 = v := fun {ys i v} h => by
    rw [List.getD_eq_getElem?_getD, List.getElem?_set_self h]; rfl
  unfold Maj.stepped
  by_cases e1 : j = p
  · subst e1
    rw [if_pos rfl, Maj.getD_set_ne (Ne.symm hpt), self hp]
  · rw [if_neg e1]
    by_cases e2 : j = t
    · subst e2
      rw [if_pos rfl, self (by rw [List.length_set]; exact ht), Maj.getD_set_ne hpt]
    · rw [if_neg e2, Maj.getD_set_ne (Ne.symm e2), Maj.getD_set_ne (Ne.symm e1)]
theorem Sg_take {ys : List Int} {k : Nat} (hk : k ≤ ys.length) : Sg k (atF ys) = (ys.take k).sum := by
  unfold Sg atF
  congr 1
  refine List.ext_getElem (by simp; omega) fun j h1 h2 => ?_
  rw [List.getElem_map, List.getElem_range, List.getElem_take, List.getD_eq_getElem?_getD, List.getElem?_eq_getElem (by rw [List.length_map, List.length_range] at h1; omega)]
  rfl
theorem list_eq_of {xs ys : List Int} (hl : xs.length = ys.length) (h : ∀ j, j < xs.length → atF xs j = atF ys j) : xs = ys := by
  refine List.ext_getElem hl fun j h1 h2 => ?_
  have := h j h1
  unfold atF at this
  rw [List.getD_eq_getElem?_getD, List.getD_eq_getElem?_getD, List.getElem?_eq_getElem h1, List.getElem?_eq_getElem h2] at this
  exact this
theorem rng_map15 {ns : List Int} : ((rngZ ns.length).map fun p => ns.getD p.toNat 0) = ns := by
  unfold rngZ
  rw [List.map_map]
  refine List.ext_getElem (by rw [List.length_map, List.length_range]) fun j h1 h2 => ?_
  rw [List.getElem_map, List.getElem_range]
  show ns.getD ((j : Int).toNat) 0 = _
  rw [Int.toNat_natCast, List.getD_eq_getElem?_getD, List.getElem?_eq_getElem h2]; rfl
structure Lies15 (n : Nat) (fp zs xs : List Int) : Prop where
  lz : zs.length = n
  lx : xs.length = n
  at_ : ∀ i, i < n → zs.getD (fp.getD i 0).toNat 0 = xs.getD i 0
theorem Lies15.perm {n : Nat} {fp zs xs : List Int} (h : Lies15 n fp zs xs) (hp : fp.Perm (rngZ n)) : zs.Perm xs := by
  have lf : fp.length = n := by rw [hp.length_eq]; unfold rngZ; rw [List.length_map, List.length_range]
  have e : (fp.map fun p => zs.getD p.toNat 0) = xs := by
    refine List.ext_getElem (by rw [List.length_map, lf, h.lx]) fun j h1 h2 => ?_
    have := h.at_ j (by rw [h.lx] at h2; exact h2)
    rw [List.getElem_map]
    rw [List.getD_eq_getElem?_getD (l := fp), List.getElem?_eq_getElem (by rw [List.length_map] at h1; exact h1), List.getD_eq_getElem?_getD (l := xs), List.getElem?_eq_getElem h2] at this
    exact this
  have := hp.map fun p => zs.getD p.toNat 0
  rw [e, ← h.lz, rng_map15] at this
  exact this.symm
theorem Lies15.step {n p t : Nat} {fp zs xs : List Int} {a : Int} (h : Lies15 n fp zs xs) (hp : fp.Perm (rngZ n)) (pn : p < n) (tn : t < n) (hpt : p ≠ t) (a1 : 1 ≤ a) (a2 : a ≤ xs.getD p 0 - xs.getD t 0) :
    StepOk zs (fp.getD p 0) (fp.getD t 0) a ∧ Lies15 n fp (Maj.stepped zs (fp.getD p 0).toNat (fp.getD t 0).toNat a) (Maj.stepped xs p t a) := by
  have lf : fp.length = n := by rw [hp.length_eq]; unfold rngZ; rw [List.length_map, List.length_range]
  have nd : fp.Nodup := hp.nodup_iff.mpr (by unfold rngZ; exact List.Pairwise.map _ (fun a b hab => by show (a : Int) ≠ b; omega) List.nodup_range)
  have bd : ∀ i, i < n → 0 ≤ fp.getD i 0 ∧ fp.getD i 0 < n := fun i hi => by
    rw [List.getD_eq_getElem?_getD, List.getElem?_eq_getElem (by omega)]
    have := hp.mem_iff.mp (List.getElem_mem (l := fp) (n := i) (by omega))
    unfold rngZ at this
    obtain ⟨k, hk, e⟩ := List.mem_map.mp this
    have := List.mem_range.mp hk
    show 0 ≤ fp[i] ∧ fp[i] < n
    omega
  have inj : ∀ i j, i < n → j < n → fp.getD i 0 = fp.getD j 0 → i = j := fun i j hi hj e => by
    rw [List.getD_eq_getElem?_getD, List.getD_eq_getElem?_getD, List.getElem?_eq_getElem (by omega), List.getElem?_eq_getElem (by omega)] at e
    exact (List.getElem_inj nd).mp e
  have bp := bd p pn
  have bt := bd t tn
  have hne : (fp.getD p 0).toNat ≠ (fp.getD t 0).toNat := fun z => hpt (inj p t pn tn (by omega))
  refine ⟨⟨bp.1, by rw [h.lz]; exact bp.2, bt.1, by rw [h.lz]; exact bt.2, a1, by rw [h.at_ p pn, h.at_ t tn]; exact a2⟩, ⟨by rw [Maj.step_len, h.lz], by rw [Maj.step_len, h.lx], fun i hi => ?_⟩⟩
  have bi := bd i hi
  rw [getD_stepped (by rw [h.lz]; omega) (by rw [h.lz]; omega) hne, getD_stepped (by rw [h.lx]; exact pn) (by rw [h.lx]; exact tn) hpt, h.at_ p pn, h.at_ t tn, h.at_ i hi]
  by_cases e1 : i = p
  · subst e1; rw [if_pos rfl, if_pos rfl]
  · rw [if_neg e1, if_neg (fun z => e1 (inj i p hi pn (by omega)))]
    by_cases e2 : i = t
    · subst e2; rw [if_pos rfl, if_pos rfl]
    · rw [if_neg e2, if_neg (fun z => e2 (inj i t hi tn (by omega)))]
theorem fp_fall15 {rows fp : List Int} (hp : fp.Perm (rngZ rows.length)) (ho : fp.Pairwise fun a b => rows.getD b.toNat 0 ≤ rows.getD a.toNat 0) : fall rows = fp.map fun p => rows.getD p.toNat 0 := by
  refine (fall_eq ?_ ?_).symm
  · have := hp.map fun p => rows.getD p.toNat 0
    rw [rng_map15] at this
    exact this
  · exact List.Pairwise.map _ (fun a b h => h) ho
theorem perm_sum15 {a b : List Int} (h : a.Perm b) : a.sum = b.sum := by
  induction h with
  | nil => rfl
  | cons x _ ih => rw [List.sum_cons, List.sum_cons, ih]
  | swap x y l => rw [List.sum_cons, List.sum_cons, List.sum_cons, List.sum_cons]; omega
  | trans _ _ h1 h2 => exact h1.trans h2
theorem Lies15.begin {rows fp : List Int} (hp : fp.Perm (rngZ rows.length)) (ho : fp.Pairwise fun a b => rows.getD b.toNat 0 ≤ rows.getD a.toNat 0) : Lies15 rows.length fp rows (fall rows) := by
  have lf : fp.length = rows.length := by rw [hp.length_eq]; unfold rngZ; rw [List.length_map, List.length_range]
  refine ⟨rfl, fall_length rows, fun i hi => ?_⟩
  rw [fp_fall15 hp ho, List.getD_eq_getElem?_getD (l := fp), List.getD_eq_getElem?_getD (l := fp.map _), List.getElem?_map, List.getElem?_eq_getElem (by omega)]
  rfl
theorem fal_of {xs : List Int} {n : Nat} (hl : xs.length = n) (h : xs.Pairwise (· ≥ ·)) : Fal n (atF xs) := fun i hi => by
  have := List.pairwise_iff_getElem.mp h i (i + 1) (by omega) (by omega) (by omega)
  unfold atF
  rw [List.getD_eq_getElem?_getD, List.getD_eq_getElem?_getD, List.getElem?_eq_getElem (by omega), List.getElem?_eq_getElem (by omega)]
  exact this
theorem dom_of {one other : List Int} (hl : one.length = other.length) (hs : one.sum = other.sum) (h : Maj.Le one other) : Dom other.length (atF (fall one)) (atF (fall other)) := by
  refine ⟨fun k hk => ?_, ?_⟩
  · rw [Sg_take (by rw [fall_length]; omega), Sg_take (by rw [fall_length]; omega)]
    exact h k (by omega)
  · rw [Sg_take (by rw [fall_length]; omega), Sg_take (by rw [fall_length]; omega), List.take_of_length_le (by rw [fall_length]; omega), List.take_of_length_le (by rw [fall_length]; omega), perm_sum15 (fall_perm one), perm_sum15 (fall_perm other), hs]
theorem Dom.congr {n : Nat} {g x y : Nat → Int} (h : Dom n g x) (e : ∀ j, j < n → x j = y j) : Dom n g y := by
  refine ⟨fun k hk => ?_, ?_⟩
  · rw [← Sg_congr (m := k) (f := x) (g := y) fun j hj => e j (by omega)]; exact h.le k hk
  · rw [← Sg_congr (m := n) (f := x) (g := y) e]; exact h.eq
theorem Fal.congr {n : Nat} {x y : Nat → Int} (h : Fal n x) (e : ∀ j, j < n → x j = y j) : Fal n y := fun i hi => by
  rw [← e i (by omega), ← e (i + 1) hi]; exact h i hi
theorem offs_congr {g x y : Nat → Int} {n : Nat} (e : ∀ j, j < n → x j = y j) : offs g y n ≤ offs g x n := offs_le fun j hj z => by rw [← e j hj]; exact z
theorem stepF_at {xs : List Int} {p t j : Nat} {a : Int} (hp : p < xs.length) (ht : t < xs.length) (hpt : p ≠ t) : stepF (atF xs) p t a j = atF (Maj.stepped xs p t a) j := (getD_stepped hp ht hpt).symm
def dS3 (q : Int × Int × Int) : D := dS q.1 q.2.1 q.2.2
def S_evening_steps : DSp := fun ds P => ∃ one other : List Int, ds = [dI one, dI other] ∧ one.length = other.length ∧ 1 ≤ other.length ∧ other.length < 64 ∧ one.sum = other.sum ∧ Maj.Le one other ∧ ∀ (ss : List (Int × Int × Int)) (ys : List Int), ss.length + 1 ≤ other.length → Walk other ss ys → ys.Perm one → (one = other → ss = []) → P (.lst (ss.map dS3))
theorem mono_evening_steps : DMono S_evening_steps := by
  intro xs P P' k h
  obtain ⟨gs, ys, e, h1, h2, h3, h4, h5, h⟩ := h
  exact ⟨gs, ys, e, h1, h2, h3, h4, h5, fun p t a b z y => k _ (h p t a b z y)⟩
theorem len_evening_steps : ∀ ds P, S_evening_steps ds P → ds.length = 2 := by
  intro ds P h
  obtain ⟨_, _, e, _⟩ := h
  rw [e]; rfl
theorem ok_evening_steps {f : Addr} {fd : FuncData} (F : FnAt K mg "evening_steps" s_evening_steps P_evening_steps f fd) (A_ : Fns K mg) (T : Txt K mg base) {c : Cs} (xs : Exs K mg base c) : FnOk P w K mg base CX0 4 f fd P_evening_steps (spP K S_evening_steps) := by
  obtain ⟨f0, d0, E_falling_places⟩ := A_.h_falling_places
  have G_falling_places : FnOk P w K mg base CX0 1 f0 d0 P_falling_places (spP K S_falling_places) := ok_falling_places E_falling_places A_ T xs
  obtain ⟨f1, d1, E_falling⟩ := A_.h_falling
  have G_falling : FnOk P w K mg base CX0 1 f1 d1 P_falling (spP K S_falling) := ok_falling E_falling A_ T xs
  obtain ⟨f2, d2, E_evening_step⟩ := A_.h_evening_step
  have G_evening_step : FnOk P w K mg base CX0 2 f2 d2 P_evening_step (spP K S_evening_step) := ok_evening_step E_evening_step A_ T xs
  obtain ⟨f3, d3, E_step_made⟩ := A_.h_step_made
  have G_step_made : FnOk P w K mg base (CXR P w) 3 f3 d3 P_step_made (spX K (S_step_made c)) := ok_step_made E_step_made A_ T xs
  refine F.fn.ok sc_evening_steps (fun vs H Q E h => spP_len len_evening_steps h) (fun cdv A outer s H vs Q E hr h => ?_)
  refine ⟨_, (pss_cons (ps_set (i := 2) sc_evening_steps.nd rfl (by first | exact Or.inl rfl | exact Or.inr rfl) (pe_call G_falling_places (hr.mono (by decide)) rfl E_falling_places.mg E_falling_places.fn.kp E_falling_places.bd .nil pass0 (pa_cons (pv 1) pa_nil)))
      (pss_cons (ps_set (i := 3) sc_evening_steps.nd rfl (by first | exact Or.inl rfl | exact Or.inr rfl) (pe_call G_falling (hr.mono (by decide)) rfl E_falling.mg E_falling.fn.kp E_falling.bd .nil pass0 (pa_cons (pv 0) pa_nil)))
      (pss_cons (ps_set (i := 4) sc_evening_steps.nd rfl (by first | exact Or.inl rfl | exact Or.inr rfl) (pe_call G_falling (hr.mono (by decide)) rfl E_falling.mg E_falling.fn.kp E_falling.bd .nil pass0 (pa_cons (pv 1) pa_nil)))
      (pss_cons (ps_set (i := 5) sc_evening_steps.nd rfl (by first | exact Or.inl rfl | exact Or.inr rfl) (pe_lst pa_nil))
      (pss_cons (ps_while PassesOwn.never (pt_cmpR (op_neL hr.units) (pv 4) (pv 3) (nomark _)) (pss_cons (ps_set (i := 6) sc_evening_steps.nd rfl (by first | exact Or.inl rfl | exact Or.inr rfl) (pe_call G_evening_step (hr.mono (by decide)) rfl E_evening_step.mg E_evening_step.fn.kp E_evening_step.bd .nil pass0 (pa_cons (pv 3) (pa_cons (pv 4) pa_nil))))
      (pss_cons (ps_set (i := 4) sc_evening_steps.nd rfl (by first | exact Or.inl rfl | exact Or.inr rfl) (pe_call G_step_made (hr.mono (by decide)) rfl E_step_made.mg E_step_made.fn.kp E_step_made.bd .nil passN (pa_cons (pv 4) (pa_cons (pv 6) pa_nil))))
      (pss_one (ps_expr (pe_bm PySem.F.plainAttrs_list PySem.F.slot_list_append PySem.F.type_list_append mt_append (pv 5) (pa_cons (pe_tup (pa_cons (pe_ix (ix_listK (K := K) rfl) (pv 2) (pe_ix (ix_tupK (K := K) rfl) (pv 6) pe_int (fun _ _ => rfl)) (fun _ _ => rfl)) (pa_cons (pe_ix (ix_listK (K := K) rfl) (pv 2) (pe_ix (ix_tupK (K := K) rfl) (pv 6) pe_int (fun _ _ => rfl)) (fun _ _ => rfl)) (pa_cons (pe_ix (ix_tupK (K := K) rfl) (pv 6) pe_int (fun _ _ => rfl)) pa_nil)))) pa_nil)))))))
      (pss_one (ps_ret (pv 5)))))))), fn_val (Γn := [5]) (N := N_evening_steps) (st_seq (ST.post (Γn := []) (st_setS 2 (EM.es (em_call (S := S_falling_places) mono_falling_places (ar_cons (ES.er (es_var 1)) ar_nil)))))
      (st_seq (ST.post (Γn := []) (st_setS 3 (EM.es (em_call (S := S_falling) mono_falling (ar_cons (ES.er (es_var 0)) ar_nil)))))
      (st_seq (ST.post (Γn := []) (st_setS 4 (EM.es (em_call (S := S_falling) mono_falling (ar_cons (ES.er (es_var 1)) ar_nil)))))
      (st_seq (ST.post (Γn := [5]) (st_setM (M := []) 5 (em_lst am_nil)))
      (st_seq (st_while (tr_test (EM.er (em_op o_neL (ES.er (es_var 4)) (ES.er (es_var 3))))) (st_seq (ST.post (Γn := [5]) (st_setS 6 (EM.es (em_call (S := S_evening_step) mono_evening_step (ar_cons (ES.er (es_var 3)) (ar_cons (ES.er (es_var 4)) ar_nil))))))
      (st_seq (ST.post (Γn := [5]) (st_setS 4 (EM.es (em_noX mono_step_made (ar_cons (ES.er (es_var 4)) (ar_cons (ES.er (es_var 6)) ar_nil))))))
      (ST.post (Γn := [5]) (st_append (M := []) 5 (em_tup (am_cons0 (ER.scal (ES.er (es_ixL (es_var 2) (ES.er (es_ixT (es_var 6) (EM.er em_int)))))) (am_cons0 (ER.scal (ES.er (es_ixL (es_var 2) (ES.er (es_ixT (es_var 6) (EM.er em_int)))))) (am_cons0 (ER.scal (ES.er (es_ixT (es_var 6) (EM.er em_int)))) am_nil)))))))))
      (st_ret (M := [5]) (em_var 5))))))) (fun ds P hS => ?_) h⟩
  obtain ⟨one, other, rfl, hl, h1, h64, hsum, hle, hP⟩ := hS
  rw [show startD N_evening_steps [dI one, dI other] = [some (dI one), some (dI other), none, none, none, none, none] from rfl]
  walk_at "go"
  refine ⟨other, rfl, h64, fun fp q1 q2 => ?_⟩
  refine ⟨one, rfl, by omega, ?_⟩
  refine ⟨other, rfl, h64, ?_⟩
  refine ⟨by omega, ?_⟩
  have lg := fall_length one
  have lx := fall_length other
  have fg : Fal other.length (atF (fall one)) := fal_of (by omega) (fall_desc one)
  have om := offs_max (g := atF (fall one)) (x := atF (fall other)) (n := other.length)
  refine ⟨fun m δ => ∃ (ss : List (Int × Int × Int)) (zs xs : List Int) (o6 : Option D), δ = [some (dI one), some (dI other), some (dI fp), some (dI (fall one)), some (dI xs), some (.lst (ss.map dS3)), o6] ∧ m = offs (atF (fall one)) (atF xs) other.length ∧ Dom other.length (atF (fall one)) (atF xs) ∧ Fal other.length (atF xs) ∧ ss.length + (m - 1) + 1 ≤ other.length ∧ Walk other ss zs ∧ Lies15 other.length fp zs xs ∧ (one = other → ss = [] ∧ xs = fall one),
    ⟨_, [], other, fall other, none, rfl, rfl, dom_of hl hsum hle, fal_of lx (fall_desc other), by show 0 + _ + 1 ≤ _; omega, rfl, Lies15.begin q1 q2, fun z => ⟨rfl, by rw [z]⟩⟩, ?_⟩
  rintro m δ ⟨ss, zs, xs, o6, rfl, hm, hD, hF, hbd, hW, hL, hZ⟩
  have hxl := hL.lx
  walk_at "go"
  refine vEqL_ints ?_
  by_cases e : xs = fall one
  · rw [decide_eq_true e]
    simp only [if_true, Bool.not_true]
    walk_at "go"
    exact hP ss zs (by omega) hW ((hL.perm q1).trans (e ▸ fall_perm one)) fun z => (hZ z).1
  · rw [decide_eq_false e]
    simp only [if_true, Bool.not_false]
    walk_at "go"
    have hne : ∃ j, j < xs.length ∧ atF xs j ≠ atF (fall one) j := Classical.byContradiction fun z => e (list_eq_of (by omega) fun j hj => Classical.byContradiction fun y => z ⟨j, hj, y⟩)
    refine ⟨fall one, xs, rfl, by omega, by omega, by rw [hxl]; exact hD, hne, fun p t hG => ?_⟩
    rw [hxl] at hG
    have pt := hG.pt
    have tn := hG.tn
    have gp := hG.gp
    have gt := hG.gt
    generalize ha : min (atF xs p - atF (fall one) p) (atF (fall one) t - atF xs t) = a
    have can := hG.can (a := a) fg (by omega) (by omega)
    have fw := hG.fewer
    rw [ha] at fw
    have hs := hL.step (a := a) q1 (by omega) tn (by omega) (by omega) can
    have lf : fp.length = other.length := by rw [q1.length_eq]; unfold rngZ; rw [List.length_map, List.length_range]
    have ef : ∀ j, j < other.length → stepF (atF xs) p t a j = atF (Maj.stepped xs p t a) j := fun j _ => stepF_at (by omega) (by omega) (by omega)
    have oc := offs_congr (g := atF (fall one)) ef
    walk_at "go"
    refine ⟨xs, p, t, a, rfl, fun _ => ?_, fun z => absurd ⟨by omega, by omega, by omega, by omega, by omega, by rw [Int.toNat_natCast, Int.toNat_natCast]; exact can⟩ z⟩
    rw [Int.toNat_natCast, Int.toNat_natCast]
    unfold dS
    walk_at "go"
    refine asO_ints (by omega) ?_
    refine ⟨rfl, ?_⟩
    walk_at "go"
    refine asO_ints (by omega) ?_
    refine ⟨rfl, ?_⟩
    walk_at "go"
    refine ⟨_, ?_, ss ++ [(fp.getD p 0, fp.getD t 0, a)], _, Maj.stepped xs p t a, some (L3.D.tup [L3.D.int p, L3.D.int t, L3.D.int a]), ?_, rfl, (hG.dom hD (a := a) (by omega)).congr ef, (hG.fal fg hF (by omega) (by omega) (by omega)).congr ef, ?_, hW.snoc hs.1, hs.2, fun z => absurd (hZ z).2 e⟩
    · omega
    · rw [List.map_append]; rfl
    · rw [List.length_append, List.length_singleton]; omega
def S_row_behind : DSp := fun ds P => ∃ (xs ys : List Int) (ss : List (Int × Int × Int)), ds = [dI xs, .lst (ss.map dS3)] ∧ ss.length ≤ 1000 ∧ Walk xs ss ys ∧ P (dI ys)
theorem mono_row_behind : DMono S_row_behind := by
  intro xs P P' k h
  unfold S_row_behind at h ⊢
  grind
theorem len_row_behind : ∀ ds P, S_row_behind ds P → ds.length = 2 := by
  intro ds P h
  obtain ⟨_, _, _, e, _⟩ := h
  rw [e]; rfl
theorem ok_row_behind {f : Addr} {fd : FuncData} (F : FnAt K mg "row_behind" s_row_behind P_row_behind f fd) (A_ : Fns K mg) (T : Txt K mg base) {c : Cs} (xs : Exs K mg base c) : FnOk P w K mg base CX0 4 f fd P_row_behind (spR K S_row_behind) := by
  obtain ⟨f0, d0, E_step_made⟩ := A_.h_step_made
  have G_step_made : FnOk P w K mg base (CXR P w) 3 f0 d0 P_step_made (spX K (S_step_made c)) := ok_step_made E_step_made A_ T xs
  refine F.fn.ok sc_row_behind (fun vs H Q E h => spR_len len_row_behind h) (fun cdv A outer s H vs Q E hr h => ?_)
  refine ⟨_, (pss_cons (ps_for PassesOwn.never rfl (pi_listK (K := K) rfl (pv 1)) (pg_name (i := 2) sc_row_behind.nd rfl (by first | exact Or.inl rfl | exact Or.inr rfl)) (pss_one (ps_set (i := 0) sc_row_behind.nd rfl (by first | exact Or.inl rfl | exact Or.inr rfl) (pe_call G_step_made (hr.mono (by decide)) rfl E_step_made.mg E_step_made.fn.kp E_step_made.bd .nil passN (pa_cons (pv 0) (pa_cons (pv 2) pa_nil))))))
      (pss_one (ps_ret (pv 0)))), fn_valR (Γn := []) (N := N_row_behind) (st_seq (st_for (it_list (es_var 1)) (gt_name 2) (ST.post (Γn := []) (st_setS 0 (EM.es (em_noX mono_step_made (ar_cons (ES.er (es_var 0)) (ar_cons (ES.er (es_var 2)) ar_nil)))))))
      (st_retR (ES.er (es_var 0)))) (fun ds P hS => ?_) h⟩
  obtain ⟨xs, ys, ss, rfl, hl, hW, hP⟩ := hS
  rw [show startD N_row_behind [dI xs, .lst (ss.map dS3)] = [some (dI xs), some (.lst (ss.map dS3)), none] from rfl]
  walk_at "go"
  refine loop_any (as := ss) (f := dS3) (fun i δ => ∃ (zs : List Int) (o2 : Option D), δ = [some (dI zs), some (.lst (ss.map dS3)), o2] ∧ Walk zs (ss.drop i) ys) ⟨xs, none, rfl, hW⟩ ?_ ?_
  · rintro i ⟨g, t, a⟩ δ N e ⟨zs, o2, rfl, hW⟩ hN
    obtain ⟨h1, h2⟩ := List.getElem?_eq_some_iff.mp e
    rw [List.drop_eq_getElem_cons h1, h2] at hW
    walk_at "go"
    refine ⟨zs, g, t, a, rfl, fun _ => hN _ ⟨_, _, rfl, hW.2⟩, fun z => absurd hW.1 z⟩
  · rintro δ ⟨zs, o2, rfl, hW⟩
    rw [List.drop_length] at hW
    have e : zs = ys := hW
    subst e
    walk_at "go"
    exact hP
theorem least_from {p : Nat → Prop} [DecidablePred p] : ∀ (d k n : Nat), n - k = d → k ≤ n → p n → ∃ j, k ≤ j ∧ j ≤ n ∧ p j ∧ ∀ m, k ≤ m → m < j → ¬ p m
  | 0, k, n, e, h, hp => ⟨n, by omega, Nat.le_refl _, hp, fun m h1 h2 => by omega⟩
  | d + 1, k, n, e, h, hp => by
    by_cases c : p k
    · exact ⟨k, Nat.le_refl _, h, c, fun m h1 h2 => by omega⟩
    · obtain ⟨j, j1, j2, j3, j4⟩ := least_from d (k + 1) n (by omega) (by omega) hp
      refine ⟨j, by omega, j2, j3, fun m h1 h2 => ?_⟩
      by_cases q : m = k
      · rw [q]; exact c
      · exact j4 m (by omega) h2
theorem later15 {zs one : List Int} {i : Nat} (hp : zs.Perm one) (hi : i < one.length) (he : ∀ j, j < i → zs.getD j 0 = one.getD j 0) (hne : zs.getD i 0 ≠ one.getD i 0) :
    ∃ j, i + 1 ≤ j ∧ j < one.length ∧ zs.getD j 0 = one.getD i 0 ∧ ∀ m, i + 1 ≤ m → m < j → zs.getD m 0 ≠ one.getD i 0 := by
  have hl := hp.length_eq
  have gd : ∀ {ys : List Int} {j : Nat} (h : j < ys.length), ys.getD j 0 = ys[j] := fun h => by
    rw [List.getD_eq_getElem?_getD, List.getElem?_eq_getElem h]; rfl
  have et : zs.take i = one.take i := List.ext_getElem (by rw [List.length_take, List.length_take]; omega) fun j h1 h2 => by
    rw [List.length_take] at h1 h2
    rw [List.getElem_take, List.getElem_take]
    have := he j (by omega)
    rw [gd (by omega), gd (by omega)] at this
    exact this
  have hd : (zs.drop i).Perm (one.drop i) := by
    have h : (zs.take i ++ zs.drop i).Perm (one.take i ++ one.drop i) := by rw [List.take_append_drop, List.take_append_drop]; exact hp
    rw [et] at h
    exact (List.perm_append_left_iff _).mp h
  have hm : one[i] ∈ one.drop i := by rw [List.drop_eq_getElem_cons hi]; exact List.mem_cons_self
  obtain ⟨k, hk, e⟩ := List.mem_iff_getElem.mp (hd.mem_iff.mpr hm)
  rw [List.getElem_drop] at e
  rw [List.length_drop] at hk
  have k0 : k ≠ 0 := fun z => by
    subst z
    exact hne (by rw [gd (by omega), gd hi]; exact e)
  obtain ⟨j, j1, j2, j3, j4⟩ := least_from (p := fun j => zs.getD j 0 = one.getD i 0) _ (i + 1) (i + k) rfl (by omega) (by show zs.getD (i + k) 0 = _; rw [gd (by omega), gd hi]; exact e)
  exact ⟨j, j1, by omega, j3, j4⟩
theorem swap15 {zs : List Int} {p q : Nat} (hp : p < zs.length) (hq : q < zs.length) (hpq : p ≠ q) :
    (Maj.stepped zs p q (zs.getD p 0 - zs.getD q 0)).Perm zs ∧ ∀ j, (Maj.stepped zs p q (zs.getD p 0 - zs.getD q 0)).getD j 0 = if j = p then zs.getD q 0 else if j = q then zs.getD p 0 else zs.getD j 0 := by
  have gd : ∀ {ys : List Int} {j : Nat} (h : j < ys.length), ys.getD j 0 = ys[j] := fun h => by
    rw [List.getD_eq_getElem?_getD, List.getElem?_eq_getElem h]; rfl
  refine ⟨?_, fun j => ?_⟩
  · have e : Maj.stepped zs p q (zs.getD p 0 - zs.getD q 0) = (zs.set p zs[q]).set q zs[p] := by
      unfold Maj.stepped
      rw [Maj.getD_set_ne hpq, gd hp, gd hq]
      congr 2 <;> omega
    rw [e]
    exact List.set_set_perm hp hq
  · rw [getD_stepped hp hq hpq]
    split
    · omega
    · split
      · omega
      · rfl
theorem at_intD {zs : List Int} {m : Nat} {z : D} (h : (zs.map L3.D.int)[m]? = some z) : z = .int (zs.getD m 0) ∧ m < zs.length := by
  rw [List.getElem?_map] at h
  cases q : zs[m]? with
  | none => rw [q] at h; cases h
  | some v =>
    rw [q] at h
    cases h
    exact ⟨by rw [List.getD_eq_getElem?_getD, q]; rfl, (List.getElem?_eq_some_iff.mp q).1⟩
theorem at_intD' {zs : List Int} {m : Nat} (h : m < zs.length) : (zs.map L3.D.int)[m]? = some (.int (zs.getD m 0)) := by
  rw [List.getElem?_map, List.getElem?_eq_getElem h, List.getD_eq_getElem?_getD, List.getElem?_eq_getElem h]; rfl
theorem eqV_int_self {a : Int} : eqV (V.int a) (V.int a) = true := by simp [eqV]
theorem eqV_int_ne {a b : Int} (h : a ≠ b) : eqV (V.int a) (V.int b) = false := by simp [eqV, h]
theorem exch15 {zs one : List Int} {i j p q : Nat} (hp : zs.Perm one) (he : ∀ k, k < i → zs.getD k 0 = one.getD k 0) (j3 : zs.getD j 0 = one.getD i 0) (j1 : i + 1 ≤ j) (j2 : j < zs.length) (hpq : p = i ∧ q = j ∨ p = j ∧ q = i) (h : zs.getD q 0 < zs.getD p 0) :
    StepOk zs p q (zs.getD p 0 - zs.getD q 0) ∧ (Maj.stepped zs p q (zs.getD p 0 - zs.getD q 0)).Perm one ∧ ∀ k, k < i + 1 → (Maj.stepped zs p q (zs.getD p 0 - zs.getD q 0)).getD k 0 = one.getD k 0 := by
  have s := swap15 (zs := zs) (p := p) (q := q) (by omega) (by omega) (by omega)
  refine ⟨⟨by omega, by omega, by omega, by omega, by omega, by rw [Int.toNat_natCast, Int.toNat_natCast]; exact Int.le_refl _⟩, s.1.trans hp, fun k hk => ?_⟩
  rw [s.2 k]
  rcases hpq with ⟨rfl, rfl⟩ | ⟨rfl, rfl⟩
  · by_cases e : k = p
    · rw [if_pos e, e]; exact j3
    · rw [if_neg e, if_neg (by omega)]; exact he k (by omega)
  · rw [if_neg (by omega)]
    by_cases e : k = q
    · rw [if_pos e, e]; exact j3
    · rw [if_neg e]; exact he k (by omega)
def S_exchanges_to : DSp := fun ds P => ∃ one xs : List Int, ds = [dI one, dI xs] ∧ 1 ≤ one.length ∧ one.length < 64 ∧ xs.Perm one ∧ ∀ ss : List (Int × Int × Int), ss.length + 1 ≤ one.length → Walk xs ss one → (xs = one → ss = []) → P (.lst (ss.map dS3))
theorem mono_exchanges_to : DMono S_exchanges_to := by
  intro xs P P' k h
  obtain ⟨gs, ys, e, h1, h2, h3, h⟩ := h
  exact ⟨gs, ys, e, h1, h2, h3, fun p t a b => k _ (h p t a b)⟩
theorem len_exchanges_to : ∀ ds P, S_exchanges_to ds P → ds.length = 2 := by
  intro ds P h
  obtain ⟨_, _, e, _⟩ := h
  rw [e]; rfl
theorem ok_exchanges_to {f : Addr} {fd : FuncData} (F : FnAt K mg "exchanges_to" s_exchanges_to P_exchanges_to f fd) (A_ : Fns K mg) (T : Txt K mg base) {c : Cs} (xs : Exs K mg base c) : FnOk P w K mg base CX0 4 f fd P_exchanges_to (spP K S_exchanges_to) := by
  obtain ⟨f0, d0, E_exchange_step⟩ := A_.h_exchange_step
  have G_exchange_step : FnOk P w K mg base CX0 1 f0 d0 P_exchange_step (spP K S_exchange_step) := ok_exchange_step E_exchange_step A_ T xs
  obtain ⟨f1, d1, E_step_made⟩ := A_.h_step_made
  have G_step_made : FnOk P w K mg base (CXR P w) 3 f1 d1 P_step_made (spX K (S_step_made c)) := ok_step_made E_step_made A_ T xs
  refine F.fn.ok sc_exchanges_to (fun vs H Q E h => spP_len len_exchanges_to h) (fun cdv A outer s H vs Q E hr h => ?_)
  refine ⟨_, (pss_cons (ps_set (i := 2) sc_exchanges_to.nd rfl (by first | exact Or.inl rfl | exact Or.inr rfl) (pe_lst pa_nil))
      (pss_cons (ps_for PassesOwn.never rfl (pi_range1 rfl T.range_ (pa_cons (pe_callB (call_lenK (K := K) rfl) (by rfl) T.len_ PySem.boot_len (pa_cons (pv 0) pa_nil)) pa_nil)) (pg_name (i := 3) sc_exchanges_to.nd rfl (by first | exact Or.inl rfl | exact Or.inr rfl)) (pss_one (ps_if (pt_cmpR op_ne (pe_ix (ix_listK (K := K) rfl) (pv 1) (pv 3) (fun _ _ => rfl)) (pe_ix (ix_listK (K := K) rfl) (pv 0) (pv 3) (fun _ _ => rfl)) (nomark _)) (pss_cons (ps_set (i := 4) sc_exchanges_to.nd rfl (by first | exact Or.inl rfl | exact Or.inr rfl) (pe_call G_exchange_step (hr.mono (by decide)) rfl E_exchange_step.mg E_exchange_step.fn.kp E_exchange_step.bd .nil pass0 (pa_cons (pv 1) (pa_cons (pv 3) (pa_cons (pe_bm PySem.F.plainAttrs_list PySem.F.slot_list_index PySem.F.type_list_index mt_indexF (pv 1) (pa_cons (pe_ix (ix_listK (K := K) rfl) (pv 0) (pv 3) (fun _ _ => rfl)) (pa_cons (pe_op op_add (pv 3) pe_int) pa_nil))) pa_nil)))))
      (pss_cons (ps_set (i := 1) sc_exchanges_to.nd rfl (by first | exact Or.inl rfl | exact Or.inr rfl) (pe_call G_step_made (hr.mono (by decide)) rfl E_step_made.mg E_step_made.fn.kp E_step_made.bd .nil passN (pa_cons (pv 1) (pa_cons (pv 4) pa_nil))))
      (pss_one (ps_expr (pe_bm PySem.F.plainAttrs_list PySem.F.slot_list_append PySem.F.type_list_append mt_append (pv 2) (pa_cons (pv 4) pa_nil)))))) pss_nil)))
      (pss_one (ps_ret (pv 2))))), fn_val (Γn := [2]) (N := N_exchanges_to) (st_seq (ST.post (Γn := [2]) (st_setM (M := []) 2 (em_lst am_nil)))
      (st_seq (st_for (it_rng1 (ar_cons (EM.er (em_cb c_len (ar_cons (ES.er (es_var 0)) ar_nil))) ar_nil)) (gt_name 3) (st_if (tr_test (EM.er (em_op o_ne (ES.er (es_ixL (es_var 1) (ES.er (es_var 3)))) (ES.er (es_ixL (es_var 0) (ES.er (es_var 3))))))) (st_seq (ST.post (Γn := [2]) (st_setS 4 (EM.es (em_call (S := S_exchange_step) mono_exchange_step (ar_cons (ES.er (es_var 1)) (ar_cons (ES.er (es_var 3)) (ar_cons (EM.er (em_indexF (ES.er (es_var 1)) (ES.er (es_ixL (es_var 0) (ES.er (es_var 3)))) (EM.er (em_op o_int (ES.er (es_var 3)) (EM.er em_int))))) ar_nil)))))))
      (st_seq (ST.post (Γn := [2]) (st_setS 1 (EM.es (em_noX mono_step_made (ar_cons (ES.er (es_var 1)) (ar_cons (ES.er (es_var 4)) ar_nil))))))
      (ST.post (Γn := [2]) (st_append (M := []) 2 (ER.flat (ES.er (es_var 4))))))) st_next))
      (st_ret (M := [2]) (em_var 2)))) (fun ds P hS => ?_) h⟩
  obtain ⟨one, xs, rfl, h1, h64, hp, hP⟩ := hS
  rw [show startD N_exchanges_to [dI one, dI xs] = [some (dI one), some (dI xs), none, none, none] from rfl]
  walk_at "go"
  refine loop_rng (lo := 0) (n := one.length) (fun i δ => ∃ (ss : List (Int × Int × Int)) (zs : List Int) (o3 o4 : Option D), δ = [some (dI one), some (dI zs), some (.lst (ss.map dS3)), o3, o4] ∧ Walk xs ss zs ∧ zs.Perm one ∧ (∀ j, j < i → zs.getD j 0 = one.getD j 0) ∧ ss.length ≤ i ∧ ss.length + 1 ≤ one.length ∧ (xs = one → ss = [] ∧ zs = one)) ⟨[], xs, none, none, rfl, rfl, hp, fun j hj => absurd hj (by omega), Nat.le_refl _, h1, fun e => ⟨rfl, e⟩⟩ ?_ ?_
  · rintro i δ N hi ⟨ss, zs, o3, o4, rfl, hW, hp, he, hl1, hl2, hz⟩ hN
    have hl := hp.length_eq
    walk_at "go"
    refine asO_ints (by omega) ?_
    refine asO_ints (by omega) ?_
    rw [Int.zero_add, Int.toNat_natCast]
    walk_at "go"
    by_cases e : zs.getD i 0 = one.getD i 0
    · rw [if_neg (fun z => z e)]
      refine hN _ ⟨ss, zs, _, _, rfl, hW, hp, fun j hj => ?_, by omega, hl2, hz⟩
      by_cases q : j = i
      · rw [q]; exact e
      · exact he j (by omega)
    · obtain ⟨j, j1, j2, j3, j4⟩ := later15 hp hi he e
      rw [if_pos e]
      refine asLst_in (es := zs.map L3.D.int) rfl ⟨scal_ints, asO_ints (by omega) ?_⟩
      rw [Int.toNat_natCast]
      refine ⟨rfl, i + 1, j, by omega, j1, ⟨.int (zs.getD j 0), at_intD' (by omega), by rw [j3]; exact eqV_int_self⟩, fun m z hm hm2 q => ?_, ?_⟩
      · obtain ⟨rfl, _⟩ := at_intD q
        exact eqV_int_ne (j4 m hm hm2)
      refine ⟨zs, i, j, rfl, by omega, by omega, ?_⟩
      have nz : ¬ xs = one := fun z => e (by rw [(hz z).2])
      unfold exS
      by_cases h : zs.getD j 0 < zs.getD i 0
      · rw [if_pos h]
        have q := exch15 (p := i) (q := j) hp he j3 j1 (by omega) (.inl ⟨rfl, rfl⟩) h
        refine ⟨zs, i, j, _, rfl, fun _ => ?_, fun z => absurd q.1 z⟩
        rw [Int.toNat_natCast, Int.toNat_natCast]
        exact ⟨rfl, by omega, hN _ ⟨ss ++ [((i : Int), (j : Int), zs.getD i 0 - zs.getD j 0)], _, _, _, by rw [List.map_append]; rfl, hW.snoc q.1, q.2.1, q.2.2, by rw [List.length_append]; exact Nat.succ_le_succ hl1, by rw [List.length_append, List.length_singleton]; omega, fun z => absurd z nz⟩⟩
      · rw [if_neg h]
        have h' : zs.getD i 0 < zs.getD j 0 := by rw [j3] at h ⊢; omega
        have q := exch15 (p := j) (q := i) hp he j3 j1 (by omega) (.inr ⟨rfl, rfl⟩) h'
        refine ⟨zs, j, i, _, rfl, fun _ => ?_, fun z => absurd q.1 z⟩
        rw [Int.toNat_natCast, Int.toNat_natCast]
        exact ⟨rfl, by omega, hN _ ⟨ss ++ [((j : Int), (i : Int), zs.getD j 0 - zs.getD i 0)], _, _, _, by rw [List.map_append]; rfl, hW.snoc q.1, q.2.1, q.2.2, by rw [List.length_append]; exact Nat.succ_le_succ hl1, by rw [List.length_append, List.length_singleton]; omega, fun z => absurd z nz⟩⟩
  · rintro δ ⟨ss, zs, o3, o4, rfl, hW, hp, he, hl1, hl2, hz⟩
    walk_at "go"
    have e : zs = one := list_eq_of hp.length_eq fun j hj => he j (by rw [hp.length_eq] at hj; exact hj)
    subst e
    exact hP ss hl2 hW fun z => (hz z).1
theorem Walk.app : ∀ {ss tt : List (Int × Int × Int)} {xs ys zs : List Int}, Walk xs ss ys → Walk ys tt zs → Walk xs (ss ++ tt) zs
  | [], _, xs, ys, _, h, k => by
    have h' : xs = ys := h
    subst h'
    exact k
  | (_, _, _) :: _, _, _, _, _, h, k => ⟨h.1, Walk.app h.2 k⟩
theorem le_of_bar {one other : List Int} (hl : one.length = other.length) (h : barD one other = .non) : Maj.Le one other := by
  have e : Maj.above one other = [] := by
    unfold barD at h
    cases q : Maj.above one other with
    | nil => rfl
    | cons p ps => rw [q] at h; cases h
  intro k hk
  match k with
  | 0 => exact Int.le_refl _
  | k + 1 =>
    unfold Maj.above at e
    have := List.filter_eq_nil_iff.mp e k (List.mem_range.mpr (by omega))
    rw [decide_eq_true_eq] at this
    omega
theorem flat_S3 {ss : List (Int × Int × Int)} : (ss.map dS3).all L3.flatD = true := by
  rw [List.all_map, List.all_eq_true]; exact fun _ _ => rfl
theorem bar_cases (one other : List Int) : barD one other = .non ∨ ∃ i, barD one other = .int i := by
  unfold barD
  split
  · exact Or.inl rfl
  · exact Or.inr ⟨_, rfl⟩
def S_steps_to (c : Cs) : DSX := fun ds P R => ∃ one other : List Int, ds = [dI one, dI other] ∧ 1 ≤ one.length ∧ one.length < 64 ∧ (Alike one other → (∀ i, barD one other = .int i → P (.tup [.str "bar", .int i])) ∧ (barD one other = .non → ∀ ss : List (Int × Int × Int), ss.length + 2 ≤ 2 * one.length → Walk other ss one → (one = other → ss = []) → P (.tup [.str "steps", .lst (ss.map dS3)]))) ∧ (¬ Alike one other → R c.NotAlike)
theorem mono_steps_to {c : Cs} : DMonoX (S_steps_to c) := by
  intro xs P P' R R' k kr h
  obtain ⟨one, other, e, h1, h2, h3, h4⟩ := h
  exact ⟨one, other, e, h1, h2, fun z => ⟨fun i y => k _ ((h3 z).1 i y), fun y ss a b d => k _ ((h3 z).2 y ss a b d)⟩, fun z => kr _ (h4 z)⟩
theorem len_steps_to {c : Cs} : ∀ ds P R, S_steps_to c ds P R → ds.length = 2 := by
  intro ds P R h
  unfold S_steps_to at h
  grind
theorem ok_steps_to {f : Addr} {fd : FuncData} (F : FnAt K mg "steps_to" s_steps_to P_steps_to f fd) (A_ : Fns K mg) (T : Txt K mg base) {c : Cs} (xs : Exs K mg base c) : FnOk P w K mg base (CXR P w) 5 f fd P_steps_to (spX K (S_steps_to c)) := by
  obtain ⟨f0, d0, E_bar_of⟩ := A_.h_bar_of
  have G_bar_of : FnOk P w K mg base (CXR P w) 4 f0 d0 P_bar_of (spX K (S_bar_of c)) := ok_bar_of E_bar_of A_ T xs
  obtain ⟨f1, d1, E_evening_steps⟩ := A_.h_evening_steps
  have G_evening_steps : FnOk P w K mg base CX0 4 f1 d1 P_evening_steps (spP K S_evening_steps) := ok_evening_steps E_evening_steps A_ T xs
  obtain ⟨f2, d2, E_exchanges_to⟩ := A_.h_exchanges_to
  have G_exchanges_to : FnOk P w K mg base CX0 4 f2 d2 P_exchanges_to (spP K S_exchanges_to) := ok_exchanges_to E_exchanges_to A_ T xs
  obtain ⟨f3, d3, E_row_behind⟩ := A_.h_row_behind
  have G_row_behind : FnOk P w K mg base CX0 4 f3 d3 P_row_behind (spR K S_row_behind) := ok_row_behind E_row_behind A_ T xs
  refine F.fn.okX sc_steps_to (fun vs H Q E h => spX_len len_steps_to h) (fun cdv A outer s H vs Q E hr h => ?_)
  refine ⟨_, (pss_cons (ps_set (i := 2) sc_steps_to.nd rfl (by first | exact Or.inl rfl | exact Or.inr rfl) (pe_call G_bar_of (hr.mono (by decide)) rfl E_bar_of.mg E_bar_of.fn.kp E_bar_of.bd .nil pass_x (PA.nox (pa_cons (pv 0) (pa_cons (pv 1) pa_nil)))))
      (PSs.nox (pss_cons (ps_if (pt_cmpR op_notN (pv 2) pe_non (nomark _)) (pss_one (ps_ret (pe_tup (pa_cons pe_str (pa_cons (pv 2) pa_nil))))) pss_nil)
      (pss_cons (ps_set (i := 3) sc_steps_to.nd rfl (by first | exact Or.inl rfl | exact Or.inr rfl) (pe_call G_evening_steps (hr.mono (by decide)) rfl E_evening_steps.mg E_evening_steps.fn.kp E_evening_steps.bd .nil pass0 (pa_cons (pv 0) (pa_cons (pv 1) pa_nil))))
      (pss_one (ps_ret (pe_tup (pa_cons pe_str (pa_cons (pe_op op_cat (pv 3) (pe_call G_exchanges_to (hr.mono (by decide)) rfl E_exchanges_to.mg E_exchanges_to.fn.kp E_exchanges_to.bd .nil pass0 (pa_cons (pv 0) (pa_cons (pe_call G_row_behind (hr.mono (by decide)) rfl E_row_behind.mg E_row_behind.fn.kp E_row_behind.bd .nil pass0 (pa_cons (pv 1) (pa_cons (pv 3) pa_nil))) pa_nil)))) pa_nil))))))))), fn_valX (Γn := [2]) (N := N_steps_to) (fun R => (sx_seq (sx_set 2 mono_bar_of (ar_cons (ES.er (es_var 0)) (ar_cons (ES.er (es_var 1)) ar_nil)))
      (ST.sx (st_seq (st_if (tr_test (EM.er (em_op o_notN (er_var 2) (EM.er em_non)))) (st_ret (M := [2]) (em_tup (am_cons em_str (am_cons (em_var 2) am_nil)))) st_next)
      (st_seq (ST.post (Γn := [2]) (st_setS 3 (EM.es (em_call (S := S_evening_steps) mono_evening_steps (ar_cons (ES.er (es_var 0)) (ar_cons (ES.er (es_var 1)) ar_nil))))))
      (st_ret (M := []) (em_tup (am_cons0 em_str (am_cons0 (em_op o_catF (ES.er (es_var 3)) (EM.er (em_call (S := S_exchanges_to) mono_exchanges_to (ar_cons (ES.er (es_var 0)) (ar_cons (er_call (S := S_row_behind) mono_row_behind (ar_cons (ES.er (es_var 1)) (ar_cons (ES.er (es_var 3)) ar_nil))) ar_nil))))) am_nil))))))))) (fun ds P R hS => ?_) h⟩
  obtain ⟨one, other, rfl, h1, h64, hP, hR⟩ := hS
  rw [show startD N_steps_to [dI one, dI other] = [some (dI one), some (dI other), none, none] from rfl]
  walk_at "v"
  refine ⟨one, other, rfl, h64, fun ha => ?_, hR⟩
  obtain ⟨hP1, hP2⟩ := hP ha
  rcases bar_cases one other with e | ⟨i, e⟩ <;> rw [e]
  · have hP := hP2 e
    walk_at "v"
    refine ⟨one, other, rfl, ha.1, by have := ha.1; omega, by have := ha.1; omega, ha.2, le_of_bar ha.1 e, fun ss ys l1 w1 p1 z1 => ?_⟩
    walk_at "go"
    refine ⟨other, ys, ss, rfl, by have := ha.1; omega, w1, ?_⟩
    refine ⟨one, ys, rfl, h1, h64, p1, fun tt l2 w2 z2 => ?_⟩
    refine ⟨⟨flat_S3, flat_S3, by have := ha.1; rw [List.length_map, List.length_map]; omega⟩, by decide, ?_⟩
    rw [← List.map_append]
    refine hP _ (by have := ha.1; rw [List.length_append]; omega) (w1.app w2) fun z => ?_
    have e1 := z1 z
    subst e1
    have w1' : other = ys := w1
    rw [z2 (w1'.symm.trans z.symm)]; rfl
  · have hP := hP1 i e
    walk_at "go"
    exact hP
def goodB : D → Bool | .int b => decide (1 ≤ b) | _ => false
def S_check_bottom (c : Cs) : DSX := fun ds P R => ∃ d, ds = [d] ∧ kn d = true ∧ (goodB d = true → P .non) ∧ (goodB d = false → R c.NoBottom)
theorem mono_check_bottom {c : Cs} : DMonoX (S_check_bottom c) := by
  intro xs P P' R R' k kr h
  obtain ⟨d, e, h0, h1, h2⟩ := h
  exact ⟨d, e, h0, fun a => k _ (h1 a), fun z => kr _ (h2 z)⟩
theorem len_check_bottom {c : Cs} : ∀ ds P R, S_check_bottom c ds P R → ds.length = 1 := by
  intro ds P R h
  obtain ⟨d, e, _⟩ := h
  rw [e]; rfl
theorem ok_check_bottom {f : Addr} {fd : FuncData} (F : FnAt K mg "check_bottom" s_check_bottom P_check_bottom f fd) (A_ : Fns K mg) (T : Txt K mg base) {c : Cs} (xs : Exs K mg base c) : FnOk P w K mg base (CXR P w) 2 f fd P_check_bottom (spX K (S_check_bottom c)) := by
  obtain ⟨f0, d0, E_is_number⟩ := A_.h_is_number
  have G_is_number : FnOk P w K mg base CX0 1 f0 d0 P_is_number (spP K S_is_number) := ok_is_number E_is_number A_ T xs
  refine F.fn.okX sc_check_bottom (fun vs H Q E h => spX_len len_check_bottom h) (fun cdv A outer s H vs Q E hr h => ?_)
  refine ⟨_, (pss_cons (ps_if (PT.nox (PW.pt (pw_or (pt_not (pt_val (pe_call G_is_number (hr.mono (by decide)) rfl E_is_number.mg E_is_number.fn.kp E_is_number.bd .nil pass0 (pa_cons (pv 0) pa_nil)))) (pw_or1 (pt_cmpR op_lt (pv 0) pe_int (nomark _)))))) (pss_one (ps_raise (xs.o_NoBottom.own xs.m_NoBottom) PySem.F.excBase_ValueError rfl rfl raise_x (pa_cons pe_str pa_nil))) pss_nil)
      pss_nil), fn_valX (Γn := []) (N := N_check_bottom) (fun R => (sx_seq (sx_if (tr_or (tr_not (tr_b (EM.er (em_call (S := S_is_number) mono_is_number (ar_cons (ES.er (es_var 0)) ar_nil))))) (tr_test (EM.er (em_op o_bl (ES.er (es_var 0)) (EM.er em_int))))) (sx_raise (ar_cons (EM.er em_str) ar_nil)) (ST.sx st_next))
      (ST.sx st_next))) (fun ds P R hS => ?_) h⟩
  obtain ⟨d, rfl, hk, hP, hR⟩ := hS
  rw [show startD N_check_bottom [d] = [some (d)] from rfl]
  walk_at "v"
  refine ⟨d, rfl, hk, ?_⟩
  cases d with
  | scr ns => cases hk
  | pin a d => cases hk
  | ins a b c => cases hk
  | int b =>
    walk_at "v"
    rw [show isNum (.int b) = true from rfl]
    walk_at "v"
    by_cases h : b < 1
    · rw [if_pos h]
      exact ⟨by decide, hR (decide_eq_false (by omega))⟩
    · rw [if_neg h]
      exact hP (decide_eq_true (by omega))
  | _ =>
    walk_at "v"
    rw [if_pos (show isNum _ = false from rfl)]
    exact ⟨by decide, hR rfl⟩
def S_greatest_divisor : DSp := fun ds P => ∃ a b : Nat, ds = [.int a, .int b] ∧ P (.int (Nat.gcd a b : Nat))
theorem mono_greatest_divisor : DMono S_greatest_divisor := by
  intro xs P P' k h
  unfold S_greatest_divisor at h ⊢
  grind
theorem len_greatest_divisor : ∀ ds P, S_greatest_divisor ds P → ds.length = 2 := by
  intro ds P h
  obtain ⟨_, _, e, _⟩ := h
  rw [e]; rfl
theorem ok_greatest_divisor {f : Addr} {fd : FuncData} (F : FnAt K mg "greatest_divisor" s_greatest_divisor P_greatest_divisor f fd) (A_ : Fns K mg) (T : Txt K mg base) {c : Cs} (xs : Exs K mg base c) : FnOk P w K mg base CX0 1 f fd P_greatest_divisor (spP K S_greatest_divisor) := by
  refine F.fn.ok sc_greatest_divisor (fun vs H Q E h => spP_len len_greatest_divisor h) (fun cdv A outer s H vs Q E hr h => ?_)
  refine ⟨_, (pss_cons (ps_while PassesOwn.never (pt_cmpR op_ne (pv 1) pe_int (nomark _)) (pss_cons (ps_set (i := 2) sc_greatest_divisor.nd rfl (by first | exact Or.inl rfl | exact Or.inr rfl) (pe_op op_mod (pv 0) (pv 1)))
      (pss_cons (ps_set (i := 0) sc_greatest_divisor.nd rfl (by first | exact Or.inl rfl | exact Or.inr rfl) (pv 1))
      (pss_one (ps_set (i := 1) sc_greatest_divisor.nd rfl (by first | exact Or.inl rfl | exact Or.inr rfl) (pv 2))))))
      (pss_one (ps_ret (pv 0)))), fn_val (Γn := []) (N := N_greatest_divisor) (st_seq (st_while (tr_test (EM.er (em_op o_ne (ES.er (es_var 1)) (EM.er em_int)))) (st_seq (ST.post (Γn := []) (st_setS 2 (EM.es (em_op o_intC (ES.er (es_var 0)) (ES.er (es_var 1))))))
      (st_seq (ST.post (Γn := []) (st_setS 0 (es_var 1)))
      (ST.post (Γn := []) (st_setS 1 (es_var 2))))))
      (st_ret (M := []) (ER.scal (ES.er (es_var 0))))) (fun ds P hS => ?_) h⟩
  obtain ⟨a, b, rfl, hP⟩ := hS
  rw [show startD N_greatest_divisor [.int a, .int b] = [some (.int a), some (.int b), none] from rfl]
  walk_at "go"
  refine ⟨fun m δ => ∃ (x y : Nat) (o : Option D), δ = [some (.int x), some (.int y), o] ∧ Nat.gcd x y = Nat.gcd a b ∧ m = y, ⟨b, a, b, none, rfl, rfl, rfl⟩, ?_⟩
  rintro m δ ⟨x, y, o, rfl, hg, rfl⟩
  walk_at "go"
  by_cases h0 : m = 0
  · subst h0
    rw [if_neg (by simp)]
    rw [Nat.gcd_zero_right] at hg
    rw [hg]
    exact hP
  · rw [if_pos (by omega)]
    refine ⟨by omega, x % m, Nat.mod_lt _ (by omega), m, x % m, _, by rw [Int.natCast_emod], ?_, rfl⟩
    rw [← hg, Nat.gcd_comm x m, Nat.gcd_rec m x, Nat.gcd_comm]
def gR (g : Nat) (r : List Int) : Nat := r.foldl (fun g c => Nat.gcd g c.natAbs) g
def gT (g : Nat) (t : List (List Int)) : Nat := t.foldl gR g
def Small (t : List (List Int)) : Prop := t.length ≤ 8 ∧ ∀ r ∈ t, r.length ≤ 8
def S_divisor_of : DSp := fun ds P => ∃ (t : List (List Int)) (b : Nat), ds = [dT t, .int b] ∧ Small t ∧ P (.int (gT b t : Nat))
theorem mono_divisor_of : DMono S_divisor_of := by
  intro xs P P' k h
  unfold S_divisor_of at h ⊢
  grind
theorem len_divisor_of : ∀ ds P, S_divisor_of ds P → ds.length = 2 := by
  intro ds P h
  obtain ⟨_, _, e, _⟩ := h
  rw [e]; rfl
theorem ok_divisor_of {f : Addr} {fd : FuncData} (F : FnAt K mg "divisor_of" s_divisor_of P_divisor_of f fd) (A_ : Fns K mg) (T : Txt K mg base) {c : Cs} (xs : Exs K mg base c) : FnOk P w K mg base CX0 2 f fd P_divisor_of (spP K S_divisor_of) := by
  obtain ⟨f0, d0, E_greatest_divisor⟩ := A_.h_greatest_divisor
  have G_greatest_divisor : FnOk P w K mg base CX0 1 f0 d0 P_greatest_divisor (spP K S_greatest_divisor) := ok_greatest_divisor E_greatest_divisor A_ T xs
  refine F.fn.ok sc_divisor_of (fun vs H Q E h => spP_len len_divisor_of h) (fun cdv A outer s H vs Q E hr h => ?_)
  refine ⟨_, (pss_cons (ps_set (i := 2) sc_divisor_of.nd rfl (by first | exact Or.inl rfl | exact Or.inr rfl) (pv 1))
      (pss_cons (ps_for PassesOwn.never rfl (pi_listK (K := K) rfl (pv 0)) (pg_name (i := 3) sc_divisor_of.nd rfl (by first | exact Or.inl rfl | exact Or.inr rfl)) (pss_one (ps_for PassesOwn.never rfl (pi_listK (K := K) rfl (pv 3)) (pg_name (i := 4) sc_divisor_of.nd rfl (by first | exact Or.inl rfl | exact Or.inr rfl)) (pss_one (ps_set (i := 2) sc_divisor_of.nd rfl (by first | exact Or.inl rfl | exact Or.inr rfl) (pe_call G_greatest_divisor (hr.mono (by decide)) rfl E_greatest_divisor.mg E_greatest_divisor.fn.kp E_greatest_divisor.bd .nil pass0 (pa_cons (pv 2) (pa_cons (pe_callB call_abs (by rfl) T.abs_ boot_abs (pa_cons (pv 4) pa_nil)) pa_nil))))))))
      (pss_one (ps_ret (pv 2))))), fn_val (Γn := [2]) (N := N_divisor_of) (st_seq (ST.post (Γn := [2]) (st_setM (M := []) 2 (ER.scal (ES.er (es_var 1)))))
      (st_seq (st_for (it_list (es_var 0)) (gt_name 3) (st_for (it_list (es_var 3)) (gt_name 4) (ST.post (Γn := [2]) (st_setM (M := []) 2 (em_call (S := S_greatest_divisor) mono_greatest_divisor (ar_cons (er_var 2) (ar_cons (EM.er (em_cb c_abs (ar_cons (ES.er (es_var 4)) ar_nil))) ar_nil)))))))
      (st_ret (M := [2]) (em_var 2)))) (fun ds P hS => ?_) h⟩
  obtain ⟨t, b, rfl, hs, hP⟩ := hS
  rw [show startD N_divisor_of [dT t, .int b] = [some (dT t), some (.int b), none, none, none] from rfl]
  walk_at "go"
  refine loop_any (as := t) (f := dI) (fun i δ => ∃ (o3 o4 : Option D), δ = [some (dT t), some (.int b), some (.int ((t.take i).foldl gR b : Nat)), o3, o4]) ⟨none, none, rfl⟩ ?_ ?_
  · rintro i r δ N e ⟨o3, o4, rfl⟩ hN
    have hr : r ∈ t := List.mem_of_getElem? e
    walk_at "go"
    refine loop_any (as := r) (f := L3.D.int) (fun j δ => ∃ (o4 : Option D), δ = [some (dT t), some (.int b), some (.int ((r.take j).foldl (fun g c => Nat.gcd g c.natAbs) ((t.take i).foldl gR b) : Nat)), some (dI r), o4]) ⟨_, rfl⟩ ?_ ?_
    · rintro j c δ N' e' ⟨o4, rfl⟩ hN'
      have hc : c ∈ r := List.mem_of_getElem? e'
      walk_at "go"
      rw [show (if c < 0 then -c else c) = (c.natAbs : Int) by split <;> omega]
      refine ⟨_, c.natAbs, rfl, ?_⟩
      walk_at "go"
      refine hN' _ ⟨some (.int c), ?_⟩
      rw [List.take_add_one, e', Option.toList_some, List.foldl_append]
      rfl
    · rintro δ ⟨o4, rfl⟩
      refine hN _ ⟨some (dI r), o4, ?_⟩
      rw [List.take_add_one, e, Option.toList_some, List.foldl_append, List.take_length]
      rfl
  · rintro δ ⟨o3, o4, rfl⟩
    rw [List.take_length]
    walk_at "v"
    exact hP
def B17 : Nat := 2 ^ 1700
theorem cdivG {c : Int} {g : Nat} (g1 : 1 ≤ g) (g2 : g < B17) : CDivB c (g : Int) := ⟨by omega, 1700, by rw [Int.natAbs_natCast]; exact g2, by decide⟩
def S_divided_row : DSp := fun ds P => ∃ (r : List Int) (g : Nat), ds = [dI r, .int g] ∧ r.length ≤ 8 ∧ 1 ≤ g ∧ g < B17 ∧ P (dI (r.map fun c => c / (g : Int)))
theorem mono_divided_row : DMono S_divided_row := by
  intro xs P P' k h
  unfold S_divided_row at h ⊢
  grind
theorem len_divided_row : ∀ ds P, S_divided_row ds P → ds.length = 2 := by
  intro ds P h
  obtain ⟨_, _, e, _⟩ := h
  rw [e]; rfl
theorem ok_divided_row {f : Addr} {fd : FuncData} (F : FnAt K mg "divided_row" s_divided_row P_divided_row f fd) (A_ : Fns K mg) (T : Txt K mg base) {c : Cs} (xs : Exs K mg base c) : FnOk P w K mg base CX0 1 f fd P_divided_row (spP K S_divided_row) := by
  refine F.fn.ok sc_divided_row (fun vs H Q E h => spP_len len_divided_row h) (fun cdv A outer s H vs Q E hr h => ?_)
  refine ⟨_, (pss_one (ps_ret (pe_comp0 (CompScope.of (sc0 := (defScope s_divided_row)) (tn := ["cell"]) (cap := ["divisor"]) (idx := [1]) (by decide +kernel) rfl rfl) (pi_listK (K := K) rfl (pv 0)) (GSet.name (by decide)) (fun _ _ _ _ _ => pg_name (i := 0) (nodupB_iff (l := ["cell", "divisor"]) (by decide +kernel)) rfl (by first | exact Or.inl rfl | exact Or.inr rfl) (by first | exact .inl rfl | exact .inr rfl)) (fun _ _ _ _ _ => (pe_op op_fdivB (pv 0) (pv 1)))))), fn_val (Γn := []) (N := N_divided_row) (st_ret (M := []) (em_comp0 (it_list (es_var 0)) (gt_name 0) (em_op o_intC (ES.er (es_var 0)) (ES.er (es_var 1))))) (fun ds P hS => ?_) h⟩
  obtain ⟨r, g, rfl, hl, g1, g2, hP⟩ := hS
  rw [show startD N_divided_row [dI r, .int g] = [some (dI r), some (.int g)] from rfl]
  have hc : ∀ c : Int, CDivB c (g : Int) := fun c => cdivG g1 g2
  walk_at "v"
  refine comp_ints (ns := r) (g := fun x => .int (x / (g : Int))) (fun R h => h) (by omega) (fun x hx R h => ?_) ?_
  · walk_at "gb"
    exact ⟨hc x, h⟩
  · rw [map_int]; exact hP
theorem gR_dvd : ∀ (r : List Int) (g : Nat), gR g r ∣ g ∧ ∀ c ∈ r, gR g r ∣ c.natAbs
  | [], g => ⟨Nat.dvd_refl _, fun _ h => (nomatch h)⟩
  | c :: r, g => by
    have ih := gR_dvd r (Nat.gcd g c.natAbs)
    refine ⟨Nat.dvd_trans ih.1 (Nat.gcd_dvd_left ..), fun x hx => ?_⟩
    rcases List.mem_cons.mp hx with z | z
    · rw [z]; exact Nat.dvd_trans ih.1 (Nat.gcd_dvd_right ..)
    · exact ih.2 x z
theorem gT_dvd : ∀ (t : List (List Int)) (g : Nat), gT g t ∣ g ∧ ∀ r ∈ t, ∀ c ∈ r, gT g t ∣ c.natAbs
  | [], g => ⟨Nat.dvd_refl _, fun _ h => (nomatch h)⟩
  | r :: t, g => by
    have ih := gT_dvd t (gR g r)
    have h0 := gR_dvd r g
    refine ⟨Nat.dvd_trans ih.1 h0.1, fun x hx c hc => ?_⟩
    rcases List.mem_cons.mp hx with z | z
    · rw [z] at hc; exact Nat.dvd_trans ih.1 (h0.2 c hc)
    · exact ih.2 x z c hc
theorem gR_mul (k : Nat) : ∀ (r : List Int) (g : Nat), gR (k * g) (r.map fun c => (k : Int) * c) = k * gR g r
  | [], g => rfl
  | c :: r, g => by
    show gR (Nat.gcd (k * g) ((k : Int) * c).natAbs) (r.map fun c => (k : Int) * c) = k * gR (Nat.gcd g c.natAbs) r
    rw [Int.natAbs_mul, Int.natAbs_natCast, Nat.gcd_mul_left, gR_mul k r]
theorem gT_mul (k : Nat) : ∀ (t : List (List Int)) (g : Nat), gT (k * g) (t.map fun r => r.map fun c => (k : Int) * c) = k * gT g t
  | [], g => rfl
  | r :: t, g => by
    show gT (gR (k * g) (r.map fun c => (k : Int) * c)) (t.map fun r => r.map fun c => (k : Int) * c) = k * gT (gR g r) t
    rw [gR_mul, gT_mul k t]
abbrev overT (g : Nat) (t : List (List Int)) : List (List Int) := t.map fun r => r.map fun c => c / (g : Int)
theorem over_back {t : List (List Int)} {g : Nat} (h : ∀ r ∈ t, ∀ c ∈ r, g ∣ c.natAbs) : (overT g t).map (fun r => r.map fun c => (g : Int) * c) = t := by
  unfold overT
  rw [List.map_map]
  conv => rhs; rw [← List.map_id t]
  refine List.map_congr_left fun r hr => ?_
  show (r.map fun c => c / (g : Int)).map (fun c => (g : Int) * c) = r
  rw [List.map_map]
  conv => rhs; rw [← List.map_id r]
  refine List.map_congr_left fun c hc => ?_
  exact Int.mul_ediv_cancel' (Int.ofNat_dvd_left.mpr (h r hr c hc))
theorem gT_pos {t : List (List Int)} {b : Nat} (h : 1 ≤ b) : 1 ≤ gT b t ∧ gT b t ≤ b := ⟨Nat.pos_of_dvd_of_pos (gT_dvd t b).1 h, Nat.le_of_dvd h (gT_dvd t b).1⟩
theorem gT_one {t : List (List Int)} {b : Nat} (h : 1 ≤ b) : gT (b / gT b t) (overT (gT b t) t) = 1 := by
  have d := gT_dvd t b
  have p := gT_pos (t := t) h
  have m := gT_mul (gT b t) (overT (gT b t) t) (b / gT b t)
  rw [over_back d.2, Nat.mul_div_cancel' d.1] at m
  exact Nat.eq_of_mul_eq_mul_left (Nat.lt_of_lt_of_le Nat.zero_lt_one p.1) (by rw [← m, Nat.mul_one])
def S_least_terms (c : Cs) : DSX := fun ds P R => ∃ (t : List (List Int)) (d : D), ds = [dT t, d] ∧ kn d = true ∧ Small t ∧ (∀ b : Nat, d = .int b → 1 ≤ b → b < B17 ∧ P (.tup [dT (overT (gT b t) t), .int (b / gT b t : Nat)])) ∧ (goodB d = false → R c.NoBottom)
theorem mono_least_terms {c : Cs} : DMonoX (S_least_terms c) := by
  intro xs P P' R R' k kr h
  obtain ⟨t, d, e, h0, hs, h1, h2⟩ := h
  exact ⟨t, d, e, h0, hs, fun b a h => ⟨(h1 b a h).1, k _ (h1 b a h).2⟩, fun z => kr _ (h2 z)⟩
theorem len_least_terms {c : Cs} : ∀ ds P R, S_least_terms c ds P R → ds.length = 2 := by
  intro ds P R h
  obtain ⟨t, d, e, _⟩ := h
  rw [e]; rfl
theorem ok_least_terms {f : Addr} {fd : FuncData} (F : FnAtD K mg "least_terms" s_least_terms P_least_terms [.int 1] f fd) (A_ : Fns K mg) (T : Txt K mg base) {c : Cs} (xs : Exs K mg base c) : FnOk P w K mg base (CXR P w) 3 f fd P_least_terms (spX K (S_least_terms c)) := by
  obtain ⟨f0, d0, E_check_bottom⟩ := A_.h_check_bottom
  have G_check_bottom : FnOk P w K mg base (CXR P w) 2 f0 d0 P_check_bottom (spX K (S_check_bottom c)) := ok_check_bottom E_check_bottom A_ T xs
  obtain ⟨f1, d1, E_divisor_of⟩ := A_.h_divisor_of
  have G_divisor_of : FnOk P w K mg base CX0 2 f1 d1 P_divisor_of (spP K S_divisor_of) := ok_divisor_of E_divisor_of A_ T xs
  obtain ⟨f2, d2, E_divided_row⟩ := A_.h_divided_row
  have G_divided_row : FnOk P w K mg base CX0 1 f2 d2 P_divided_row (spP K S_divided_row) := ok_divided_row E_divided_row A_ T xs
  obtain ⟨_, _, FD, _⟩ := F.ex
  refine FD.okX sc_least_terms (fun vs H Q E h => spX_len len_least_terms h) (fun cdv A outer s H vs Q E hr h => ?_)
  refine ⟨_, (pss_cons (ps_expr (pe_call G_check_bottom (hr.mono (by decide)) rfl E_check_bottom.mg E_check_bottom.fn.kp E_check_bottom.bd .nil pass_x (PA.nox (pa_cons (pv 1) pa_nil))))
      (PSs.nox (pss_cons (ps_set (i := 2) sc_least_terms.nd rfl (by first | exact Or.inl rfl | exact Or.inr rfl) (pe_call G_divisor_of (hr.mono (by decide)) rfl E_divisor_of.mg E_divisor_of.fn.kp E_divisor_of.bd .nil pass0 (pa_cons (pv 0) (pa_cons (pv 1) pa_nil))))
      (pss_one (ps_ret (pe_tup (pa_cons (pe_comp0 (CompScope.of (sc0 := (defScope s_least_terms)) (tn := ["row"]) (cap := ["divisor"]) (idx := [2]) (by decide +kernel) rfl rfl) (pi_listK (K := K) rfl (pv 0)) (GSet.name (by decide)) (fun _ _ _ _ _ => pg_name (i := 0) (nodupB_iff (l := ["row", "divisor"]) (by decide +kernel)) rfl (by first | exact Or.inl rfl | exact Or.inr rfl) (by first | exact .inl rfl | exact .inr rfl)) (fun _ _ _ _ _ => (pe_call G_divided_row (hr.mono (by decide)) rfl E_divided_row.mg E_divided_row.fn.kp E_divided_row.bd .nil pass0 (pa_cons (pv 0) (pa_cons (pv 1) pa_nil))))) (pa_cons (pe_op op_fdivB (pv 1) (pv 2)) pa_nil)))))))), fn_valX (Γn := []) (N := N_least_terms) (fun R => (sx_seq (sx_drop mono_check_bottom (ar_cons (ES.er (es_var 1)) ar_nil))
      (ST.sx (st_seq (ST.post (Γn := []) (st_setS 2 (EM.es (em_call (S := S_divisor_of) mono_divisor_of (ar_cons (ES.er (es_var 0)) (ar_cons (ES.er (es_var 1)) ar_nil))))))
      (st_ret (M := []) (em_tup (am_cons0 (em_comp0 (it_list (es_var 0)) (gt_name 0) (em_call (S := S_divided_row) mono_divided_row (ar_cons (ES.er (es_var 0)) (ar_cons (ES.er (es_var 1)) ar_nil)))) (am_cons0 (em_op o_intC (ES.er (es_var 1)) (ES.er (es_var 2))) am_nil)))))))) (fun ds P R hS => ?_) h⟩
  obtain ⟨t, d, rfl, hk, hs, hP, hR⟩ := hS
  rw [show startD N_least_terms [dT t, d] = [some (dT t), some (d), none] from rfl]
  walk_at "v"
  refine ⟨d, rfl, hk, fun hg => ?_, fun hg => ?_⟩
  · cases d with
    | int z =>
      have z1 : 1 ≤ z := of_decide_eq_true hg
      obtain ⟨b, rfl⟩ : ∃ b : Nat, z = b := ⟨z.toNat, by omega⟩
      have hb : 1 ≤ b := by omega
      obtain ⟨h40, hP⟩ := hP b rfl hb
      have p := gT_pos (t := t) hb
      walk_at "go"
      refine ⟨t, b, rfl, hs, ?_⟩
      walk_at "go"
      refine comp_rows (t := t) (g := fun r => dI (r.map fun c => c / (gT b t : Int))) (fun R h => h) (by have := hs.1; omega) (fun r hr R h => ?_) ?_
      · walk_at "gb"
        exact ⟨r, gT b t, rfl, hs.2 r hr, p.1, by omega, h⟩
      refine ⟨cdivG (by omega) (by omega), by decide, ?_⟩
      rw [show (t.map fun r => dI (r.map fun c => c / (gT b t : Int))) = (overT (gT b t) t).map dI by rw [overT, List.map_map]; rfl]
      exact hP
    | _ => cases hg
  · exact hR hg
def unitR (n p : Nat) : List Int := (List.range n).map fun (j : Nat) => if j = p then 1 else 0
def S_plain_row : DSp := fun ds P => ∃ n p : Nat, ds = [.int n, .int p] ∧ n ≤ 8 ∧ P (dI (unitR n p))
theorem mono_plain_row : DMono S_plain_row := by
  intro xs P P' k h
  unfold S_plain_row at h ⊢
  grind
theorem len_plain_row : ∀ ds P, S_plain_row ds P → ds.length = 2 := by
  intro ds P h
  obtain ⟨_, _, e, _⟩ := h
  rw [e]; rfl
theorem ok_plain_row {f : Addr} {fd : FuncData} (F : FnAt K mg "plain_row" s_plain_row P_plain_row f fd) (A_ : Fns K mg) (T : Txt K mg base) {c : Cs} (xs : Exs K mg base c) : FnOk P w K mg base CX0 1 f fd P_plain_row (spP K S_plain_row) := by
  refine F.fn.ok sc_plain_row (fun vs H Q E h => spP_len len_plain_row h) (fun cdv A outer s H vs Q E hr h => ?_)
  refine ⟨_, (pss_one (ps_ret (pe_comp0 (CompScope.of (sc0 := (defScope s_plain_row)) (tn := ["place"]) (cap := ["one"]) (idx := [1]) (by decide +kernel) rfl rfl) (pi_range1 rfl T.range_ (pa_cons (pv 0) pa_nil)) (GSet.name (by decide)) (fun _ _ _ _ _ => pg_name (i := 0) (nodupB_iff (l := ["place", "one"]) (by decide +kernel)) rfl (by first | exact Or.inl rfl | exact Or.inr rfl) (by first | exact .inl rfl | exact .inr rfl)) (fun _ _ _ _ _ => (pe_ifExp (pt_cmpR op_eq (pv 0) (pv 1) (nomark _)) pe_int pe_int))))), fn_val (Γn := []) (N := N_plain_row) (st_ret (M := []) (em_comp0 (it_rng1 (ar_cons (ES.er (es_var 0)) ar_nil)) (gt_name 0) (em_if (tr_test (EM.er (em_op o_eq (ES.er (es_var 0)) (ES.er (es_var 1))))) em_int em_int))) (fun ds P hS => ?_) h⟩
  obtain ⟨n, p, rfl, hn, hP⟩ := hS
  rw [show startD N_plain_row [.int n, .int p] = [some (.int n), some (.int p)] from rfl]
  walk_at "go"
  refine comp_rng (lo := 0) (n := n) (g := fun (j : Nat) => .int (if j = p then 1 else 0)) (fun R h => ?_) (by omega) (fun j hj R h => ?_) ?_
  · walk_at "go"
    exact h
  · walk_at "gb"
    rw [Int.zero_add]
    by_cases c : j = p
    · rw [if_pos c] at h
      rw [if_pos (by omega)]
      exact h
    · rw [if_neg c] at h
      rw [if_neg (by omega)]
      exact h
  · rw [show (List.range n).map (fun (j : Nat) => L3.D.int (if j = p then 1 else 0)) = (unitR n p).map L3.D.int from map_int]
    exact hP
def unitT (n : Nat) : List (List Int) := (List.range n).map fun (p : Nat) => unitR n p
def S_plain_table : DSp := fun ds P => ∃ n : Nat, ds = [.int n] ∧ n ≤ 8 ∧ P (dT (unitT n))
theorem mono_plain_table : DMono S_plain_table := by
  intro xs P P' k h
  unfold S_plain_table at h ⊢
  grind
theorem len_plain_table : ∀ ds P, S_plain_table ds P → ds.length = 1 := by
  intro ds P h
  obtain ⟨_, e, _⟩ := h
  rw [e]; rfl
theorem ok_plain_table {f : Addr} {fd : FuncData} (F : FnAt K mg "plain_table" s_plain_table P_plain_table f fd) (A_ : Fns K mg) (T : Txt K mg base) {c : Cs} (xs : Exs K mg base c) : FnOk P w K mg base CX0 2 f fd P_plain_table (spP K S_plain_table) := by
  obtain ⟨f0, d0, E_plain_row⟩ := A_.h_plain_row
  have G_plain_row : FnOk P w K mg base CX0 1 f0 d0 P_plain_row (spP K S_plain_row) := ok_plain_row E_plain_row A_ T xs
  refine F.fn.ok sc_plain_table (fun vs H Q E h => spP_len len_plain_table h) (fun cdv A outer s H vs Q E hr h => ?_)
  refine ⟨_, (pss_one (ps_ret (pe_comp0 (CompScope.of (sc0 := (defScope s_plain_table)) (tn := ["place"]) (cap := ["many"]) (idx := [0]) (by decide +kernel) rfl rfl) (pi_range1 rfl T.range_ (pa_cons (pv 0) pa_nil)) (GSet.name (by decide)) (fun _ _ _ _ _ => pg_name (i := 0) (nodupB_iff (l := ["place", "many"]) (by decide +kernel)) rfl (by first | exact Or.inl rfl | exact Or.inr rfl) (by first | exact .inl rfl | exact .inr rfl)) (fun _ _ _ _ _ => (pe_call G_plain_row (hr.mono (by decide)) rfl E_plain_row.mg E_plain_row.fn.kp E_plain_row.bd .nil pass0 (pa_cons (pv 1) (pa_cons (pv 0) pa_nil))))))), fn_val (Γn := []) (N := N_plain_table) (st_ret (M := []) (em_comp0 (it_rng1 (ar_cons (ES.er (es_var 0)) ar_nil)) (gt_name 0) (em_call (S := S_plain_row) mono_plain_row (ar_cons (ES.er (es_var 1)) (ar_cons (ES.er (es_var 0)) ar_nil))))) (fun ds P hS => ?_) h⟩
  obtain ⟨n, rfl, hn, hP⟩ := hS
  rw [show startD N_plain_table [.int n] = [some (.int n)] from rfl]
  walk_at "go"
  refine comp_rng (lo := 0) (n := n) (g := fun (p : Nat) => dI (unitR n p)) (fun R h => ?_) (by omega) (fun p hp R h => ?_) ?_
  · walk_at "go"
    exact h
  · walk_at "gb"
    rw [Int.zero_add]
    exact ⟨n, p, rfl, hn, h⟩
  · rw [map_dI]; exact hP
def Bk (k : Nat) (xs : List Int) : Prop := ∀ j, (xs.getD j 0).natAbs < 2 ^ k
def mixR (p : Int) (xs : List Int) (q : Int) (ys : List Int) : List Int := (List.range xs.length).map fun (j : Nat) => p * xs.getD j 0 + q * ys.getD j 0
theorem mixR_len {p q : Int} {xs ys : List Int} : (mixR p xs q ys).length = xs.length := by unfold mixR; rw [List.length_map, List.length_range]
theorem mixR_at {p q : Int} {xs ys : List Int} {j : Nat} (h : j < xs.length) : (mixR p xs q ys).getD j 0 = p * xs.getD j 0 + q * ys.getD j 0 := by
  unfold mixR
  rw [List.getD_eq_getElem?_getD, List.getElem?_map, List.getElem?_range h]; rfl
theorem pw_pos {k : Nat} : 0 < 2 ^ k := Nat.pow_pos (by decide)
theorem Bk.mix {p q : Int} {xs ys : List Int} {k : Nat} (hp : p.natAbs < 2 ^ 100) (hq : q.natAbs < 2 ^ 100) (hx : Bk k xs) (hy : Bk k ys) : Bk (k + 101) (mixR p xs q ys) := fun j => by
  rcases Nat.lt_or_ge j xs.length with h | h
  · rw [mixR_at h]
    have a1 : (p * xs.getD j 0).natAbs < 2 ^ 100 * 2 ^ k := by rw [Int.natAbs_mul]; exact Nat.mul_lt_mul'' hp (hx j)
    have a2 : (q * ys.getD j 0).natAbs < 2 ^ 100 * 2 ^ k := by rw [Int.natAbs_mul]; exact Nat.mul_lt_mul'' hq (hy j)
    have a3 := Int.natAbs_add_le (p * xs.getD j 0) (q * ys.getD j 0)
    rw [show k + 101 = 100 + k + 1 by omega, Nat.pow_succ, Nat.pow_add]
    generalize 2 ^ 100 * 2 ^ k = z at *
    omega
  · rw [List.getD_eq_getElem?_getD, List.getElem?_eq_none (by rw [mixR_len]; exact h)]
    exact pw_pos
def S_mixed_row : DSp := fun ds P => ∃ (xs ys : List Int) (p q : Int) (k : Nat), ds = [dI xs, .int p, dI ys, .int q] ∧ xs.length ≤ 8 ∧ ys.length = xs.length ∧ p.natAbs < 2 ^ 100 ∧ q.natAbs < 2 ^ 100 ∧ k ≤ 5000 ∧ Bk k xs ∧ Bk k ys ∧ P (dI (mixR p xs q ys))
theorem mono_mixed_row : DMono S_mixed_row := by
  intro xs P P' k h
  obtain ⟨a, b, p, q, n, e, h1, h2, h3, h4, h5, h6, h7, h⟩ := h
  exact ⟨a, b, p, q, n, e, h1, h2, h3, h4, h5, h6, h7, k _ h⟩
theorem len_mixed_row : ∀ ds P, S_mixed_row ds P → ds.length = 4 := by
  intro ds P h
  obtain ⟨_, _, _, _, _, e, _⟩ := h
  rw [e]; rfl
theorem ok_mixed_row {f : Addr} {fd : FuncData} (F : FnAt K mg "mixed_row" s_mixed_row P_mixed_row f fd) (A_ : Fns K mg) (T : Txt K mg base) {c : Cs} (xs : Exs K mg base c) : FnOk P w K mg base CX0 1 f fd P_mixed_row (spP K S_mixed_row) := by
  refine F.fn.ok sc_mixed_row (fun vs H Q E h => spP_len len_mixed_row h) (fun cdv A outer s H vs Q E hr h => ?_)
  refine ⟨_, (pss_one (ps_ret (pe_comp0 (CompScope.of (sc0 := (defScope s_mixed_row)) (tn := ["place"]) (cap := ["one", "parts", "other", "others"]) (idx := [0, 1, 2, 3]) (by decide +kernel) rfl rfl) (pi_range1 rfl T.range_ (pa_cons (pe_callB (call_lenK (K := K) rfl) (by rfl) T.len_ PySem.boot_len (pa_cons (pv 0) pa_nil)) pa_nil)) (GSet.name (by decide)) (fun _ _ _ _ _ => pg_name (i := 0) (nodupB_iff (l := ["place", "one", "parts", "other", "others"]) (by decide +kernel)) rfl (by first | exact Or.inl rfl | exact Or.inr rfl) (by first | exact .inl rfl | exact .inr rfl)) (fun _ _ _ _ _ => (pe_op op_add (pe_op op_mulB (pv 2) (pe_ix (ix_listK (K := K) rfl) (pv 1) (pv 0) (fun _ _ => rfl))) (pe_op op_mulB (pv 4) (pe_ix (ix_listK (K := K) rfl) (pv 3) (pv 0) (fun _ _ => rfl)))))))), fn_val (Γn := []) (N := N_mixed_row) (st_ret (M := []) (em_comp0 (it_rng1 (ar_cons (EM.er (em_cb c_len (ar_cons (ES.er (es_var 0)) ar_nil))) ar_nil)) (gt_name 0) (em_op o_int (EM.er (em_op o_intC (ES.er (es_var 2)) (ES.er (es_ixL (es_var 1) (ES.er (es_var 0)))))) (EM.er (em_op o_intC (ES.er (es_var 4)) (ES.er (es_ixL (es_var 3) (ES.er (es_var 0))))))))) (fun ds P hS => ?_) h⟩
  obtain ⟨xs, ys, p, q, k, rfl, hl, hy, hp, hq, hk, b1, b2, hP⟩ := hS
  rw [show startD N_mixed_row [dI xs, .int p, dI ys, .int q] = [some (dI xs), some (.int p), some (dI ys), some (.int q)] from rfl]
  walk_at "go"
  refine comp_rng (lo := 0) (n := xs.length) (g := fun (j : Nat) => .int (p * xs.getD j 0 + q * ys.getD j 0)) (fun R h => ?_) (by omega) (fun j hj R h => ?_) ?_
  · walk_at "go"
    exact h
  · walk_at "gb"
    rw [Int.zero_add]
    refine asO_ints (by omega) ?_
    rw [Int.toNat_natCast]
    refine ⟨⟨100, k, hp, b1 j, by omega⟩, ?_⟩
    refine asO_ints (by omega) ?_
    rw [Int.toNat_natCast]
    exact ⟨⟨100, k, hq, b2 j, by omega⟩, h⟩
  · rw [show (List.range xs.length).map (fun (j : Nat) => L3.D.int (p * xs.getD j 0 + q * ys.getD j 0)) = (mixR p xs q ys).map L3.D.int from map_int]
    exact hP
theorem Sg_mul {f : Nat → Int} {p : Int} : ∀ {m : Nat}, Sg m (fun j => p * f j) = p * Sg m f
  | 0 => by rw [Sg_zero, Sg_zero, Int.mul_zero]
  | m + 1 => by rw [Sg_succ, Sg_succ, Sg_mul, Int.mul_add]
theorem Sg_lin {f g : Nat → Int} {p q : Int} {m : Nat} : Sg m (fun j => p * f j + q * g j) = p * Sg m f + q * Sg m g := by
  rw [Sg_add (f := fun j => p * f j) (g := fun j => q * g j), Sg_mul, Sg_mul]
structure LeadF (n : Nat) (F : Nat → Nat → Int) (b : Int) (z x : Nat → Int) : Prop where
  nn : ∀ i j, i < n → j < n → 0 ≤ F i j
  rs : ∀ i, i < n → Sg n (fun j => F i j) = b
  cs : ∀ j, j < n → Sg n (fun i => F i j) = b
  dt : ∀ i, i < n → Sg n (fun j => F i j * z j) = x i * b
def ledF (F : Nat → Nat → Int) (g t : Nat) (w a : Int) : Nat → Nat → Int := fun i j => if i = g then (w - a) * F g j + a * F t j else if i = t then (w - a) * F t j + a * F g j else w * F i j + 0 * F i j
theorem LeadF.led {n : Nat} {F : Nat → Nat → Int} {b : Int} {z x : Nat → Int} (h : LeadF n F b z x) {g t : Nat} {w a : Int} (hg : g < n) (ht : t < n) (hgt : g ≠ t) (a1 : 1 ≤ a) (a2 : a ≤ w) (hw : w = x g - x t) :
    LeadF n (ledF F g t w a) (w * b) z (fun i => if i = g then x g - a else if i = t then x t + a else x i) := by
  have mm : ∀ u v : Int, 0 ≤ u → 0 ≤ v → 0 ≤ u * v := fun u v => Int.mul_nonneg
  refine ⟨fun i j hi hj => ?_, fun i hi => ?_, fun j hj => ?_, fun i hi => ?_⟩
  · unfold ledF
    have f1 := h.nn g j hg hj
    have f2 := h.nn t j ht hj
    have f3 := h.nn i j hi hj
    have e1 := mm (w - a) (F g j) (by omega) f1
    have e2 := mm a (F t j) (by omega) f2
    have e3 := mm (w - a) (F t j) (by omega) f2
    have e4 := mm a (F g j) (by omega) f1
    have e5 := mm w (F i j) (by omega) f3
    split
    · exact Int.add_nonneg e1 e2
    · split
      · exact Int.add_nonneg e3 e4
      · rw [Int.zero_mul, Int.add_zero]; exact e5
  · unfold ledF
    by_cases c1 : i = g
    · rw [Sg_congr (g := fun j => (w - a) * F g j + a * F t j) fun j _ => if_pos c1, Sg_lin, h.rs g hg, h.rs t ht, ← Int.add_mul]
      congr 1; omega
    · by_cases c2 : i = t
      · rw [Sg_congr (g := fun j => (w - a) * F t j + a * F g j) fun j _ => (if_neg c1).trans (if_pos c2), Sg_lin, h.rs g hg, h.rs t ht, ← Int.add_mul]
        congr 1; omega
      · rw [Sg_congr (g := fun j => w * F i j + 0 * F i j) fun j _ => (if_neg c1).trans (if_neg c2), Sg_lin, h.rs i hi, Int.zero_mul, Int.add_zero]
  · unfold ledF
    rw [Sg_put (f := fun i => if i = t then (w - a) * F t j + a * F g j else w * F i j + 0 * F i j) hg]
    rw [Sg_put (f := fun i => w * F i j + 0 * F i j) ht, if_neg hgt, Sg_lin, h.cs j hj, Int.zero_mul, Int.zero_mul, Int.zero_mul, Int.sub_mul, Int.sub_mul]
    generalize w * b = A
    generalize w * F t j = B
    generalize a * F t j = D
    generalize w * F g j = E
    generalize a * F g j = G
    omega
  · unfold ledF
    show Sg n (fun j => (if i = g then (w - a) * F g j + a * F t j else if i = t then (w - a) * F t j + a * F g j else w * F i j + 0 * F i j) * z j) = (if i = g then x g - a else if i = t then x t + a else x i) * (w * b)
    have key : ∀ u v : Nat, u < n → v < n → Sg n (fun j => ((w - a) * F u j + a * F v j) * z j) = (w - a) * (x u * b) + a * (x v * b) := fun u v hu hv => by
      rw [Sg_congr (g := fun j => (w - a) * (F u j * z j) + a * (F v j * z j)) fun j _ => by rw [Int.add_mul, Int.mul_assoc, Int.mul_assoc], Sg_lin, h.dt u hu, h.dt v hv]
    by_cases c1 : i = g
    · rw [Sg_congr (g := fun j => ((w - a) * F g j + a * F t j) * z j) fun j _ => by rw [if_pos c1], key g t hg ht, if_pos c1]
      subst hw
      rw [← Int.mul_assoc, ← Int.mul_assoc, ← Int.add_mul, ← Int.mul_assoc]
      congr 1
      rw [Int.sub_mul, Int.mul_comm (x g - x t) (x g), Int.sub_mul (x g) a, Int.mul_sub a]
      omega
    · rw [if_neg c1]
      by_cases c2 : i = t
      · rw [Sg_congr (g := fun j => ((w - a) * F t j + a * F g j) * z j) fun j _ => by rw [if_neg c1, if_pos c2], key t g ht hg, if_pos c2]
        subst hw
        rw [← Int.mul_assoc, ← Int.mul_assoc, ← Int.add_mul, ← Int.mul_assoc]
        congr 1
        rw [Int.sub_mul, Int.mul_comm (x g - x t) (x t), Int.add_mul (x t) a, Int.mul_sub a]
        omega
      · rw [if_neg c2, Sg_congr (g := fun j => w * (F i j * z j)) fun j _ => by rw [if_neg c1, if_neg c2, Int.zero_mul, Int.add_zero, Int.mul_assoc], Sg_mul, h.dt i hi, ← Int.mul_assoc, ← Int.mul_assoc, Int.mul_comm w]
theorem LeadF.down {n : Nat} {F G : Nat → Nat → Int} {b c d : Int} {z x : Nat → Int} (h : LeadF n F b z x) (d1 : 1 ≤ d) (e : ∀ i j, i < n → j < n → F i j = d * G i j) (eb : b = d * c) : LeadF n G c z x := by
  have can : ∀ {u v : Int}, d * u = d * v → u = v := fun h => Int.eq_of_mul_eq_mul_left (by omega) h
  refine ⟨fun i j hi hj => ?_, fun i hi => can ?_, fun j hj => can ?_, fun i hi => can ?_⟩
  · have := h.nn i j hi hj
    rw [e i j hi hj] at this
    exact Int.nonneg_of_mul_nonneg_right this (by omega)
  · rw [← Sg_mul, ← eb, ← h.rs i hi]; exact (Sg_congr fun j hj => e i j hi hj).symm
  · rw [← Sg_mul, ← eb, ← h.cs j hj]; exact (Sg_congr fun i hi => e i j hi hj).symm
  · rw [← Sg_mul, ← Int.mul_assoc, Int.mul_comm d, Int.mul_assoc, ← eb, ← h.dt i hi]
    exact (Sg_congr fun j hj => by rw [e i j hi hj, Int.mul_assoc]).symm
theorem LeadF.congr {n : Nat} {F G : Nat → Nat → Int} {b : Int} {z x y : Nat → Int} (h : LeadF n F b z x) (e : ∀ i j, i < n → j < n → F i j = G i j) (ex : ∀ i, i < n → x i = y i) : LeadF n G b z y :=
  ⟨fun i j hi hj => e i j hi hj ▸ h.nn i j hi hj, fun i hi => (Sg_congr fun j hj => e i j hi hj).symm.trans (h.rs i hi), fun j hj => (Sg_congr fun i hi => e i j hi hj).symm.trans (h.cs j hj), fun i hi => ((Sg_congr fun j hj => by rw [e i j hi hj]).symm.trans (h.dt i hi)).trans (by rw [ex i hi])⟩
theorem Sg_unit {p : Nat} : ∀ {m : Nat}, p < m → ∀ f : Nat → Int, Sg m (fun j => (if j = p then 1 else 0) * f j) = f p := fun {m} h f => by
  rw [Sg_congr (g := fun j => if j = p then f p else 0) fun j _ => by
    by_cases c : j = p
    · rw [if_pos c, if_pos c, Int.one_mul, c]
    · rw [if_neg c, if_neg c, Int.zero_mul], Sg_put (f := fun _ => 0) h, Sg_const0]
  omega
theorem lead_unit {n : Nat} {z : Nat → Int} : LeadF n (fun i j => if j = i then 1 else 0) 1 z z := by
  refine ⟨fun i j _ _ => by split <;> decide, fun i hi => ?_, fun j hj => ?_, fun i hi => ?_⟩
  · exact Eq.trans (Sg_congr fun j _ => (Int.mul_one _).symm) (Sg_unit hi (fun _ => 1))
  · refine Eq.trans (Sg_congr fun i _ => ?_) (Sg_unit hj (fun _ => 1))
    rw [Int.mul_one]
    by_cases c : i = j
    · rw [if_pos c, if_pos c.symm]
    · rw [if_neg c, if_neg (fun z => c z.symm)]
  · rw [Int.mul_one]; exact Sg_unit hi z
def BkT (k : Nat) (t : List (List Int)) : Prop := ∀ i, Bk k (rowAt t i)
theorem rowAt_set {t : List (List Int)} {i j : Nat} {r : List Int} (h : i < t.length) : rowAt (t.set i r) j = if j = i then r else rowAt t j := by
  unfold rowAt
  rw [List.getD_eq_getElem?_getD, List.getElem?_set]
  by_cases c : j = i
  · subst c; rw [if_pos rfl, if_pos rfl, if_pos h]; rfl
  · rw [if_neg (fun z => c z.symm), if_neg c, ← List.getD_eq_getElem?_getD]
theorem rowAt_map {t : List (List Int)} {i : Nat} {f : List Int → List Int} (h : i < t.length) : rowAt (t.map f) i = f (rowAt t i) := by
  unfold rowAt
  rw [List.getD_eq_getElem?_getD, List.getElem?_map, List.getElem?_eq_getElem h, List.getD_eq_getElem?_getD, List.getElem?_eq_getElem h]; rfl
theorem rowAt_none {t : List (List Int)} {i : Nat} (h : t.length ≤ i) : rowAt t i = [] := by
  unfold rowAt
  rw [List.getD_eq_getElem?_getD, List.getElem?_eq_none h]; rfl
def ledT (t : List (List Int)) (g u : Nat) (w a : Int) : List (List Int) := ((t.map fun r => mixR w r 0 r).set g (mixR (w - a) (rowAt t g) a (rowAt t u))).set u (mixR (w - a) (rowAt t u) a (rowAt t g))
theorem ledT_rect {n : Nat} {t : List (List Int)} {g u : Nat} {w a : Int} (hR : Rect n n t) (hg : g < n) (hu : u < n) : Rect n n (ledT t g u w a) := by
  have h0 : Rect n n (t.map fun r => mixR w r 0 r) := ⟨by rw [List.length_map]; exact hR.1, fun r hr => by
    obtain ⟨q, hq, rfl⟩ := List.mem_map.mp hr
    rw [mixR_len]; exact hR.2 q hq⟩
  exact (h0.set (by rw [mixR_len]; exact hR.row hg)).set (by rw [mixR_len]; exact hR.row hu)
theorem ledT_row {n : Nat} {t : List (List Int)} {g u i : Nat} {w a : Int} (hR : Rect n n t) (hg : g < n) (hu : u < n) (hgu : g ≠ u) (hi : i < n) : rowAt (ledT t g u w a) i = if i = g then mixR (w - a) (rowAt t g) a (rowAt t u) else if i = u then mixR (w - a) (rowAt t u) a (rowAt t g) else mixR w (rowAt t i) 0 (rowAt t i) := by
  have hl := hR.1
  unfold ledT
  rw [rowAt_set (by rw [List.length_set, List.length_map]; omega), rowAt_set (by rw [List.length_map]; omega)]
  by_cases c1 : i = g
  · rw [if_pos c1, if_neg (by omega), if_pos c1]
  · rw [if_neg c1]
    by_cases c2 : i = u
    · rw [if_pos c2, if_neg c1]
      first | rfl | rw [if_pos c2]
    · rw [if_neg c2, if_neg c1, if_neg c2]
      exact rowAt_map (f := fun r => mixR w r 0 r) (by omega)
theorem ledT_cell {n : Nat} {t : List (List Int)} {g u i j : Nat} {w a : Int} (hR : Rect n n t) (hg : g < n) (hu : u < n) (hgu : g ≠ u) (hi : i < n) (hj : j < n) : ledF (cellAt t) g u w a i j = cellAt (ledT t g u w a) i j := by
  show _ = (rowAt (ledT t g u w a) i).getD j 0
  rw [ledT_row hR hg hu hgu hi]
  unfold ledF
  split
  · rw [mixR_at (by rw [hR.row hg]; exact hj)]
  · split
    · rw [mixR_at (by rw [hR.row hu]; exact hj)]
    · rw [mixR_at (by rw [hR.row hi]; exact hj)]
theorem ledT_bk {n k : Nat} {t : List (List Int)} {g u : Nat} {w a : Int} (hR : Rect n n t) (hg : g < n) (hu : u < n) (hgu : g ≠ u) (hw : w.natAbs < 2 ^ 100) (ha : a.natAbs < 2 ^ 100) (hwa : (w - a).natAbs < 2 ^ 100) (hT : BkT k t) : BkT (k + 101) (ledT t g u w a) := fun i => by
  rcases Nat.lt_or_ge i n with h | h
  · rw [ledT_row hR hg hu hgu h]
    split
    · exact Bk.mix hwa ha (hT g) (hT u)
    · split
      · exact Bk.mix hwa ha (hT u) (hT g)
      · exact Bk.mix hw (by decide) (hT i) (hT i)
  · rw [rowAt_none (by rw [(ledT_rect hR hg hu).1]; exact h)]
    exact fun j => pw_pos
theorem row_sum {n : Nat} {r : List Int} (h : r.length = n) : r.sum = Sg n (fun j => r.getD j 0) := by
  have := Sg_take (ys := r) (k := n) (by omega)
  rw [List.take_of_length_le (by omega)] at this
  exact this.symm
theorem Sg_most {M : Int} {f : Nat → Int} : ∀ {m : Nat}, (∀ j, j < m → f j ≤ M) → Sg m f ≤ (m : Int) * M
  | 0, _ => by rw [Sg_zero]; simp
  | m + 1, h => by
    have ih := Sg_most (M := M) (f := f) (m := m) fun j hj => h j (by omega)
    have e := h m (by omega)
    rw [Sg_succ, Int.natCast_succ, Int.add_mul, Int.one_mul]
    omega
theorem LeadF.bot {n k : Nat} {t : List (List Int)} {b : Int} {z x : Nat → Int} (h : LeadF n (cellAt t) b z x) (n1 : 1 ≤ n) (n8 : n ≤ 8) (hT : BkT k t) : b < 2 ^ (k + 4) := by
  have := h.rs 0 (by omega)
  have m := Sg_most (M := 2 ^ k) (f := fun j => cellAt t 0 j) (m := n) fun j hj => by
    have := hT 0 j
    have p : ((2 ^ k : Nat) : Int) = 2 ^ k := by norm_cast
    show (rowAt t 0).getD j 0 ≤ _
    omega
  rw [this] at m
  have p : (0 : Int) < 2 ^ k := Int.pow_pos (by decide)
  rw [Int.pow_add]
  generalize (2 : Int) ^ k = y at *
  have : (n : Int) * y ≤ 8 * y := Int.mul_le_mul_of_nonneg_right (by omega) (by omega)
  omega
theorem over_row {t : List (List Int)} {d i : Nat} : rowAt (overT d t) i = (rowAt t i).map fun c => c / (d : Int) := by
  rcases Nat.lt_or_ge i t.length with h | h
  · exact rowAt_map (f := fun r => r.map fun c => c / (d : Int)) h
  · rw [rowAt_none h, rowAt_none (by rw [List.length_map]; exact h)]; rfl
theorem over_getD {r : List Int} {d j : Nat} : (r.map fun c => c / (d : Int)).getD j 0 = r.getD j 0 / (d : Int) := by
  rw [List.getD_eq_getElem?_getD, List.getD_eq_getElem?_getD, List.getElem?_map]
  cases r[j]? with
  | none => show (0 : Int) = 0 / d; rw [Int.zero_ediv]
  | some v => rfl
theorem over_rect {n m d : Nat} {t : List (List Int)} (h : Rect n m t) : Rect n m (overT d t) := ⟨by rw [List.length_map]; exact h.1, fun r hr => by
  obtain ⟨q, hq, rfl⟩ := List.mem_map.mp hr
  rw [List.length_map]; exact h.2 q hq⟩
theorem over_bk {k d : Nat} {t : List (List Int)} (h : BkT k t) : BkT k (overT d t) := fun i j => by
  rw [over_row, over_getD]
  exact Nat.lt_of_le_of_lt (Int.natAbs_ediv_le_natAbs _ _) (h i j)
theorem cell_dvd {n d i j : Nat} {t : List (List Int)} (hR : Rect n n t) (h : ∀ r ∈ t, ∀ c ∈ r, d ∣ c.natAbs) (hi : i < n) (hj : j < n) : cellAt t i j = (d : Int) * cellAt (overT d t) i j := by
  show (rowAt t i).getD j 0 = (d : Int) * (rowAt (overT d t) i).getD j 0
  rw [over_row, over_getD]
  have hm : (rowAt t i).getD j 0 ∈ rowAt t i := by
    rw [List.getD_eq_getElem?_getD, List.getElem?_eq_getElem (by rw [hR.row hi]; exact hj)]
    exact List.getElem_mem _
  exact (Int.mul_ediv_cancel' (Int.ofNat_dvd_left.mpr (h _ (rowAt_mem (by rw [hR.1]; exact hi)) _ hm))).symm
def S_led_table : DSp := fun ds P => ∃ (t : List (List Int)) (row : List Int) (g u a b : Int) (n k : Nat) (z : Nat → Int), ds = [dT t, dI row, dS g u a] ∧ Rect n n t ∧ 1 ≤ n ∧ n ≤ 8 ∧ row.length = n ∧ LeadF n (cellAt t) b z (atF row) ∧ 1 ≤ b ∧ StepOk row g u a ∧ Bk 98 row ∧ BkT k t ∧ k ≤ 1500 ∧ ∀ (t' : List (List Int)) (b' : Int), Rect n n t' → LeadF n (cellAt t') b' z (atF (Maj.stepped row g.toNat u.toNat a)) → 1 ≤ b' → BkT (k + 101) t' → P (dT t')
theorem setItem_rows {i : Nat} {δ : Dl} {de dx : DE} {E : DEnds} {t : List (List Int)} {r : List Int} {a : Int} (hs : δ[i]? = some (some (dT t))) (hde : ∀ R : DK, R (dI r) → de δ R) (hdx : ∀ R : DK, R (.int a) → dx δ R) (ha : 0 ≤ a ∧ a < t.length) (h : E.nx (δ.set i (some (dT (t.set a.toNat r))))) : vSetItem i de dx E δ := by
  unfold vSetItem
  refine hde _ ((slotL_s hs).mpr (hdx _ ?_))
  show match ixN (t.map dI).length a with | some j => E.nx (δ.set i (some (.lst ((t.map dI).set j (dI r))))) | none => False
  rw [ixN_nat ha.1 (by rw [List.length_map]; exact ha.2)]
  show E.nx (δ.set i (some (.lst ((t.map dI).set a.toNat (dI r)))))
  rw [set_dT]; exact h
theorem mono_led_table : DMono S_led_table := by
  intro xs P P' k h
  obtain ⟨t, row, g, u, a, b, n, m, z, e, h1, h2, h3, h4, h5, h6, h7, h8, h9, h10, h⟩ := h
  exact ⟨t, row, g, u, a, b, n, m, z, e, h1, h2, h3, h4, h5, h6, h7, h8, h9, h10, fun p q x y v w => k _ (h p q x y v w)⟩
theorem len_led_table : ∀ ds P, S_led_table ds P → ds.length = 3 := by
  intro ds P h
  obtain ⟨_, _, _, _, _, _, _, _, _, e, _⟩ := h
  rw [e]; rfl
theorem ok_led_table {f : Addr} {fd : FuncData} (F : FnAt K mg "led_table" s_led_table P_led_table f fd) (A_ : Fns K mg) (T : Txt K mg base) {c : Cs} (xs : Exs K mg base c) : FnOk P w K mg base CX0 4 f fd P_led_table (spP K S_led_table) := by
  obtain ⟨f0, d0, E_mixed_row⟩ := A_.h_mixed_row
  have G_mixed_row : FnOk P w K mg base CX0 1 f0 d0 P_mixed_row (spP K S_mixed_row) := ok_mixed_row E_mixed_row A_ T xs
  obtain ⟨f1, d1, E_least_terms⟩ := A_.h_least_terms
  have G_least_terms : FnOk P w K mg base (CXR P w) 3 f1 d1 P_least_terms (spX K (S_least_terms c)) := ok_least_terms E_least_terms A_ T xs
  refine F.fn.ok sc_led_table (fun vs H Q E h => spP_len len_led_table h) (fun cdv A outer s H vs Q E hr h => ?_)
  refine ⟨_, (pss_cons (ps_set (i := 3) sc_led_table.nd rfl (by first | exact Or.inl rfl | exact Or.inr rfl) (pe_ix (ix_tupK (K := K) rfl) (pv 2) pe_int (fun _ _ => rfl)))
      (pss_cons (ps_set (i := 4) sc_led_table.nd rfl (by first | exact Or.inl rfl | exact Or.inr rfl) (pe_ix (ix_tupK (K := K) rfl) (pv 2) pe_int (fun _ _ => rfl)))
      (pss_cons (ps_set (i := 5) sc_led_table.nd rfl (by first | exact Or.inl rfl | exact Or.inr rfl) (pe_op op_sub (pe_ix (ix_listK (K := K) rfl) (pv 1) (pv 3) (fun _ _ => rfl)) (pe_ix (ix_listK (K := K) rfl) (pv 1) (pv 4) (fun _ _ => rfl))))
      (pss_cons (ps_set (i := 6) sc_led_table.nd rfl (by first | exact Or.inl rfl | exact Or.inr rfl) (pe_op op_sub (pv 5) (pe_ix (ix_tupK (K := K) rfl) (pv 2) pe_int (fun _ _ => rfl))))
      (pss_cons (ps_setC0 (i := 7) (CompScope.of (sc0 := (defScope s_led_table)) (tn := ["line"]) (cap := ["whole"]) (idx := [5]) (by decide +kernel) rfl rfl) sc_led_table.nd rfl (by first | exact Or.inl rfl | exact Or.inr rfl) (pi_listK (K := K) rfl (pv 0)) (GSet.name (by decide)) (fun _ _ _ _ _ => pg_name (i := 0) (nodupB_iff (l := ["line", "whole"]) (by decide +kernel)) rfl (by first | exact Or.inl rfl | exact Or.inr rfl) (by first | exact .inl rfl | exact .inr rfl)) (fun _ _ _ _ _ => (pe_call G_mixed_row (hr.mono (by decide)) rfl E_mixed_row.mg E_mixed_row.fn.kp E_mixed_row.bd .nil pass0 (pa_cons (pv 0) (pa_cons (pv 1) (pa_cons (pv 0) (pa_cons pe_int pa_nil)))))))
      (pss_cons (ps_asg (pe_call G_mixed_row (hr.mono (by decide)) rfl E_mixed_row.mg E_mixed_row.fn.kp E_mixed_row.bd .nil pass0 (pa_cons (pe_ix (ix_listK (K := K) rfl) (pv 0) (pv 3) (fun _ _ => rfl)) (pa_cons (pv 6) (pa_cons (pe_ix (ix_listK (K := K) rfl) (pv 0) (pv 4) (fun _ _ => rfl)) (pa_cons (pe_ix (ix_tupK (K := K) rfl) (pv 2) pe_int (fun _ _ => rfl)) pa_nil))))) (pg_sub (pv 7) (pv 3) set_list))
      (pss_cons (ps_asg (pe_call G_mixed_row (hr.mono (by decide)) rfl E_mixed_row.mg E_mixed_row.fn.kp E_mixed_row.bd .nil pass0 (pa_cons (pe_ix (ix_listK (K := K) rfl) (pv 0) (pv 4) (fun _ _ => rfl)) (pa_cons (pv 6) (pa_cons (pe_ix (ix_listK (K := K) rfl) (pv 0) (pv 3) (fun _ _ => rfl)) (pa_cons (pe_ix (ix_tupK (K := K) rfl) (pv 2) pe_int (fun _ _ => rfl)) pa_nil))))) (pg_sub (pv 7) (pv 4) set_list))
      (pss_one (ps_ret (pe_ix (ix_tupK (K := K) rfl) (pe_call G_least_terms (hr.mono (by decide)) rfl E_least_terms.mg E_least_terms.kp E_least_terms.bd .nil passN (pa_cons (pv 7) (pa_cons (pe_callB (call_sumK (K := K) rfl rfl) (by rfl) T.sum_ boot_sum (pa_cons (pe_ix (ix_listK (K := K) rfl) (pv 7) pe_int (fun _ _ => rfl)) pa_nil)) pa_nil))) pe_int (fun _ _ => rfl))))))))))), fn_val (Γn := [7]) (N := N_led_table) (st_seq (ST.post (Γn := []) (st_setS 3 (es_ixT (es_var 2) (EM.er em_int))))
      (st_seq (ST.post (Γn := []) (st_setS 4 (es_ixT (es_var 2) (EM.er em_int))))
      (st_seq (ST.post (Γn := []) (st_setS 5 (EM.es (em_op o_int (ES.er (es_ixL (es_var 1) (ES.er (es_var 3)))) (ES.er (es_ixL (es_var 1) (ES.er (es_var 4))))))))
      (st_seq (ST.post (Γn := []) (st_setS 6 (EM.es (em_op o_int (ES.er (es_var 5)) (ES.er (es_ixT (es_var 2) (EM.er em_int)))))))
      (st_seq (ST.post (Γn := [7]) (st_setM (M := []) 7 (em_comp0 (it_list (es_var 0)) (gt_name 0) (em_call (S := S_mixed_row) mono_mixed_row (ar_cons (ES.er (es_var 0)) (ar_cons (ES.er (es_var 1)) (ar_cons (ES.er (es_var 0)) (ar_cons (EM.er em_int) ar_nil))))))))
      (st_seq (st_setItem 7 (em_call (S := S_mixed_row) mono_mixed_row (ar_cons (ES.er (es_ixL (es_var 0) (ES.er (es_var 3)))) (ar_cons (ES.er (es_var 6)) (ar_cons (ES.er (es_ixL (es_var 0) (ES.er (es_var 4)))) (ar_cons (ES.er (es_ixT (es_var 2) (EM.er em_int))) ar_nil))))) (ES.er (es_var 3)))
      (st_seq (st_setItem 7 (em_call (S := S_mixed_row) mono_mixed_row (ar_cons (ES.er (es_ixL (es_var 0) (ES.er (es_var 4)))) (ar_cons (ES.er (es_var 6)) (ar_cons (ES.er (es_ixL (es_var 0) (ES.er (es_var 3)))) (ar_cons (ES.er (es_ixT (es_var 2) (EM.er em_int))) ar_nil))))) (ES.er (es_var 4)))
      (st_ret (M := []) (em_ixT (em_noX mono_least_terms (ar_cons (er_var 7) (ar_cons (EM.er (em_cb c_sum (ar_cons (er_ixL (er_var 7) (EM.er em_int)) ar_nil))) ar_nil))) (EM.er em_int)))))))))) (fun ds P hS => ?_) h⟩
  obtain ⟨t, row, g, u, a, b, n, k, z, rfl, hR, n1, n8, hl, hL, b1, hs, hB, hT, hk, hP⟩ := hS
  rw [show startD N_led_table [dT t, dI row, dS g u a] = [some (dT t), some (dI row), some (dS g u a), none, none, none, none, none] from rfl]
  obtain ⟨g0, g1, u0, u1, a1, a2⟩ := id hs
  obtain ⟨g', rfl⟩ : ∃ g' : Nat, g = g' := ⟨g.toNat, by omega⟩
  obtain ⟨u', rfl⟩ : ∃ u' : Nat, u = u' := ⟨u.toNat, by omega⟩
  rw [Int.toNat_natCast, Int.toNat_natCast] at a2 hP
  have ht := hR.1
  have hg : g' < n := by omega
  have hu : u' < n := by omega
  have hgu : g' ≠ u' := fun e => by rw [e] at a2; omega
  have bg := hB g'
  have bu := hB u'
  have p98 : 4 * 2 ^ 98 = 2 ^ 100 := by decide
  unfold dS
  walk_at "go"
  refine asO_ints (by omega) (asO_ints (by omega) ?_)
  rw [Int.toNat_natCast, Int.toNat_natCast]
  walk_at "go"
  generalize hw : row.getD g' 0 - row.getD u' 0 = w at a2 ⊢
  have w100 : w.natAbs < 2 ^ 100 := by omega
  have a100 : a.natAbs < 2 ^ 100 := by omega
  have wa100 : (w - a).natAbs < 2 ^ 100 := by omega
  walk_at "go"
  refine comp_rows (t := t) (g := fun r => dI (mixR w r 0 r)) (fun R h => h) (by omega) (fun r hr R h => ?_) ?_
  · walk_at "gb"
    obtain ⟨i, hi, rfl⟩ := List.mem_iff_getElem.mp hr
    have bi : Bk k t[i] := by
      have := hT i
      unfold rowAt at this
      rw [List.getD_eq_getElem?_getD, List.getElem?_eq_getElem hi] at this
      exact this
    exact ⟨_, _, w, 0, k, rfl, by rw [hR.2 _ hr]; exact n8, rfl, w100, by decide, by omega, bi, bi, h⟩
  rw [show t.map (fun r => dI (mixR w r 0 r)) = (t.map fun r => mixR w r 0 r).map dI by rw [List.map_map]; rfl]
  have lg := hR.row hg
  have lu := hR.row hu
  refine setItem_rows (t := t.map fun r => mixR w r 0 r) (a := g') (r := mixR (w - a) (rowAt t g') a (rowAt t u')) rfl (fun R h => ?_) (fun R h => ?_) (by rw [List.length_map]; omega) ?_
  · walk_at "go"
    refine asO_rows (by omega) (asO_rows (by omega) ?_)
    rw [Int.toNat_natCast, Int.toNat_natCast]
    exact ⟨rowAt t g', rowAt t u', w - a, a, k, rfl, by omega, by omega, wa100, a100, by omega, hT g', hT u', h⟩
  · walk_at "go"
    exact h
  walk_at "v"
  refine setItem_rows (t := (t.map fun r => mixR w r 0 r).set g' (mixR (w - a) (rowAt t g') a (rowAt t u'))) (a := u') (r := mixR (w - a) (rowAt t u') a (rowAt t g')) rfl (fun R h => ?_) (fun R h => ?_) (by rw [List.length_set, List.length_map]; omega) ?_
  · walk_at "go"
    refine asO_rows (by omega) (asO_rows (by omega) ?_)
    rw [Int.toNat_natCast, Int.toNat_natCast]
    exact ⟨rowAt t u', rowAt t g', w - a, a, k, rfl, by omega, by omega, wa100, a100, by omega, hT u', hT g', h⟩
  · walk_at "go"
    exact h
  walk_at "v"
  have e : ((t.map fun r => mixR w r 0 r).set g' (mixR (w - a) (rowAt t g') a (rowAt t u'))).set u' (mixR (w - a) (rowAt t u') a (rowAt t g')) = ledT t g' u' w a := rfl
  rw [e]
  have hR2 := ledT_rect (w := w) (a := a) hR hg hu
  have hL2 := (hL.led hg hu hgu a1 a2 hw.symm).congr (fun i j hi hj => ledT_cell hR hg hu hgu hi hj) (y := atF (Maj.stepped row g' u' a)) fun i hi => (getD_stepped (by omega) (by omega) hgu).symm
  have hT2 := ledT_bk hR hg hu hgu w100 a100 wa100 hT
  generalize ledT t g' u' w a = t2 at *
  have bb : 1 ≤ w * b := by
    have := Int.mul_pos (show 0 < w by omega) (show 0 < b by omega)
    omega
  have b17 := hL2.bot n1 n8 hT2
  generalize w * b = b2 at *
  have l2 := hR2.1
  walk_at "go"
  refine asO_rows (by omega) ?_
  walk_at "go"
  have hsum : (rowAt t2 0).sum = b2 := (row_sum (hR2.row (by omega))).trans (hL2.rs 0 (by omega))
  have es : (rowAt t2 (0 : Int).toNat).sum = b2 := hsum
  refine ⟨t2, _, rfl, rfl, ⟨by omega, fun r hr => by rw [hR2.2 r hr]; exact n8⟩, fun bn e1 e2 => ⟨?_, ?_⟩, fun z => ?_⟩
  · have e3 : (rowAt t2 0).sum = bn := L3.D.int.inj e1
    have e4 : (bn : Int) < 2 ^ (k + 101 + 4) := by rw [← e3, hsum]; exact b17
    have e5 : bn < 2 ^ (k + 101 + 4) := by exact_mod_cast e4
    exact Nat.lt_of_lt_of_le e5 (Nat.pow_le_pow_right (by decide) (by omega))
  · have e3 : (rowAt t2 0).sum = bn := L3.D.int.inj e1
    have dv := gT_dvd t2 bn
    have gp := gT_pos (t := t2) e2
    walk_at "go"
    refine hP _ ((bn / gT bn t2 : Nat) : Int) (over_rect hR2) (hL2.down (d := (gT bn t2 : Int)) (by omega) (fun i j hi hj => cell_dvd hR2 dv.2 hi hj) ?_) ?_ (over_bk hT2)
    · rw [← hsum, e3, ← Int.natCast_mul, Nat.mul_div_cancel' dv.1]
    · have := Nat.div_pos gp.2 (show 0 < gT bn t2 by omega)
      omega
  · have : decide (1 ≤ (rowAt t2 0).sum) = false := z
    rw [hsum, decide_eq_true bb] at this
    cases this
theorem Bk.step {xs : List Int} {g u : Nat} {a : Int} (h : Bk 98 xs) (hs : StepOk xs g u a) : Bk 98 (Maj.stepped xs g u a) := fun j => by
  obtain ⟨g0, g1, u0, u1, a1, a2⟩ := hs
  rw [Int.toNat_natCast, Int.toNat_natCast] at a2
  have hg := h g
  have hu := h u
  rw [getD_stepped (by omega) (by omega) (fun e => by rw [e] at a2; omega)]
  split
  · omega
  · split
    · omega
    · exact h j
theorem unitT_rect {n : Nat} : Rect n n (unitT n) := ⟨by unfold unitT; rw [List.length_map, List.length_range], fun r hr => by
  unfold unitT at hr
  obtain ⟨p, _, rfl⟩ := List.mem_map.mp hr
  unfold unitR
  rw [List.length_map, List.length_range]⟩
theorem unitT_row {n i : Nat} (hi : i < n) : rowAt (unitT n) i = unitR n i := by
  unfold rowAt unitT
  rw [List.getD_eq_getElem?_getD, List.getElem?_map, List.getElem?_range hi]; rfl
theorem unitR_at {n i j : Nat} (hj : j < n) : (unitR n i).getD j 0 = if j = i then 1 else 0 := by
  unfold unitR
  rw [List.getD_eq_getElem?_getD, List.getElem?_map, List.getElem?_range hj]; rfl
theorem unitT_cell {n i j : Nat} (hi : i < n) (hj : j < n) : (if j = i then 1 else 0 : Int) = cellAt (unitT n) i j := by
  show _ = (rowAt (unitT n) i).getD j 0
  rw [unitT_row hi, unitR_at hj]
theorem unitT_bk {n : Nat} : BkT 1 (unitT n) := fun i j => by
  rcases Nat.lt_or_ge i n with h | h
  · rw [unitT_row h]
    rcases Nat.lt_or_ge j n with h2 | h2
    · rw [unitR_at h2]; split <;> decide
    · rw [List.getD_eq_getElem?_getD, List.getElem?_eq_none (by unfold unitR; rw [List.length_map, List.length_range]; exact h2)]
      decide
  · rw [rowAt_none (by rw [unitT_rect.1]; exact h)]; exact pw_pos
theorem BkT.mono {k l : Nat} {t : List (List Int)} (h : BkT k t) (hk : k ≤ l) : BkT l t := fun i j => Nat.lt_of_lt_of_le (h i j) (Nat.pow_le_pow_right (by decide) hk)
def S_lead_to (c : Cs) : DSX := fun ds P R => ∃ one other : List Int, ds = [dI one, dI other] ∧ 1 ≤ one.length ∧ one.length ≤ 8 ∧ (Alike one other → Bk 98 other) ∧ (Alike one other → (∀ i, barD one other = .int i → P (.tup [.str "bar", .int i])) ∧ (barD one other = .non → ∀ (t : List (List Int)) (b : Int), Rect one.length one.length t → LeadF one.length (cellAt t) b (atF other) (atF one) → 1 ≤ b → BkT 1500 t → P (.tup [.str "table", dT t]))) ∧ (¬ Alike one other → R c.NotAlike)
theorem mono_lead_to {c : Cs} : DMonoX (S_lead_to c) := by
  intro xs P P' R R' k kr h
  obtain ⟨one, other, e, h1, h2, h3, h4, h5⟩ := h
  exact ⟨one, other, e, h1, h2, h3, fun z => ⟨fun i y => k _ ((h4 z).1 i y), fun y t b p q r s => k _ ((h4 z).2 y t b p q r s)⟩, fun z => kr _ (h5 z)⟩
theorem len_lead_to {c : Cs} : ∀ ds P R, S_lead_to c ds P R → ds.length = 2 := by
  intro ds P R h
  unfold S_lead_to at h
  grind
theorem ok_lead_to {f : Addr} {fd : FuncData} (F : FnAt K mg "lead_to" s_lead_to P_lead_to f fd) (A_ : Fns K mg) (T : Txt K mg base) {c : Cs} (xs : Exs K mg base c) : FnOk P w K mg base (CXR P w) 6 f fd P_lead_to (spX K (S_lead_to c)) := by
  obtain ⟨f0, d0, E_steps_to⟩ := A_.h_steps_to
  have G_steps_to : FnOk P w K mg base (CXR P w) 5 f0 d0 P_steps_to (spX K (S_steps_to c)) := ok_steps_to E_steps_to A_ T xs
  obtain ⟨f1, d1, E_plain_table⟩ := A_.h_plain_table
  have G_plain_table : FnOk P w K mg base CX0 2 f1 d1 P_plain_table (spP K S_plain_table) := ok_plain_table E_plain_table A_ T xs
  obtain ⟨f2, d2, E_led_table⟩ := A_.h_led_table
  have G_led_table : FnOk P w K mg base CX0 4 f2 d2 P_led_table (spP K S_led_table) := ok_led_table E_led_table A_ T xs
  obtain ⟨f3, d3, E_step_made⟩ := A_.h_step_made
  have G_step_made : FnOk P w K mg base (CXR P w) 3 f3 d3 P_step_made (spX K (S_step_made c)) := ok_step_made E_step_made A_ T xs
  refine F.fn.okX sc_lead_to (fun vs H Q E h => spX_len len_lead_to h) (fun cdv A outer s H vs Q E hr h => ?_)
  refine ⟨_, (pss_cons (ps_set (i := 2) sc_lead_to.nd rfl (by first | exact Or.inl rfl | exact Or.inr rfl) (pe_call G_steps_to (hr.mono (by decide)) rfl E_steps_to.mg E_steps_to.fn.kp E_steps_to.bd .nil pass_x (PA.nox (pa_cons (pv 0) (pa_cons (pv 1) pa_nil)))))
      (PSs.nox (pss_cons (ps_if (pt_cmpR op_eq (pe_ix (ix_tupK (K := K) rfl) (pv 2) pe_int (fun _ _ => rfl)) pe_str (nomark _)) (pss_one (ps_ret (pv 2))) pss_nil)
      (pss_cons (ps_set (i := 3) sc_lead_to.nd rfl (by first | exact Or.inl rfl | exact Or.inr rfl) (pe_call G_plain_table (hr.mono (by decide)) rfl E_plain_table.mg E_plain_table.fn.kp E_plain_table.bd .nil pass0 (pa_cons (pe_callB (call_lenK (K := K) rfl) (by rfl) T.len_ PySem.boot_len (pa_cons (pv 1) pa_nil)) pa_nil)))
      (pss_cons (ps_set (i := 4) sc_lead_to.nd rfl (by first | exact Or.inl rfl | exact Or.inr rfl) (pv 1))
      (pss_cons (ps_for PassesOwn.never rfl (pi_listK (K := K) rfl (pe_ix (ix_tupK (K := K) rfl) (pv 2) pe_int (fun _ _ => rfl))) (pg_name (i := 5) sc_lead_to.nd rfl (by first | exact Or.inl rfl | exact Or.inr rfl)) (pss_cons (ps_set (i := 3) sc_lead_to.nd rfl (by first | exact Or.inl rfl | exact Or.inr rfl) (pe_call G_led_table (hr.mono (by decide)) rfl E_led_table.mg E_led_table.fn.kp E_led_table.bd .nil pass0 (pa_cons (pv 3) (pa_cons (pv 4) (pa_cons (pv 5) pa_nil)))))
      (pss_one (ps_set (i := 4) sc_lead_to.nd rfl (by first | exact Or.inl rfl | exact Or.inr rfl) (pe_call G_step_made (hr.mono (by decide)) rfl E_step_made.mg E_step_made.fn.kp E_step_made.bd .nil passN (pa_cons (pv 4) (pa_cons (pv 5) pa_nil)))))))
      (pss_one (ps_ret (pe_tup (pa_cons pe_str (pa_cons (pv 3) pa_nil))))))))))), fn_valX (Γn := [3]) (N := N_lead_to) (fun R => (sx_seq (sx_set 2 mono_steps_to (ar_cons (ES.er (es_var 0)) (ar_cons (ES.er (es_var 1)) ar_nil)))
      (ST.sx (st_seq (st_if (tr_test (EM.er (em_op o_eq (er_ixT (er_var 2) (EM.er em_int)) (EM.er em_str)))) (st_ret (M := [2]) (em_var 2)) st_next)
      (st_seq (ST.post (Γn := [3, 2]) (st_setM (M := []) 3 (em_call (S := S_plain_table) mono_plain_table (ar_cons (EM.er (em_cb c_len (ar_cons (ES.er (es_var 1)) ar_nil))) ar_nil))))
      (st_seq (ST.post (Γn := [3, 2]) (st_setS 4 (es_var 1)))
      (st_seq (ST.pre (Γ1 := [3]) (st_for (it_list (es_ixT (es_var 2) (EM.er em_int))) (gt_name 5) (st_seq (ST.post (Γn := [3]) (st_setM (M := []) 3 (em_call (S := S_led_table) mono_led_table (ar_cons (er_var 3) (ar_cons (ES.er (es_var 4)) (ar_cons (ES.er (es_var 5)) ar_nil))))))
      (ST.post (Γn := [3]) (st_setS 4 (EM.es (em_noX mono_step_made (ar_cons (ES.er (es_var 4)) (ar_cons (ES.er (es_var 5)) ar_nil)))))))))
      (st_ret (M := [3]) (em_tup (am_cons em_str (am_cons (em_var 3) am_nil))))))))))) (fun ds P R hS => ?_) h⟩
  obtain ⟨one, other, rfl, h1, h8, hB, hP, hR⟩ := hS
  rw [show startD N_lead_to [dI one, dI other] = [some (dI one), some (dI other), none, none, none, none] from rfl]
  walk_at "v"
  refine ⟨one, other, rfl, h1, by omega, fun ha => ⟨fun i e => ?_, fun e ss hl hW _ => ?_⟩, hR⟩
  · have hP := (hP ha).1 i e
    walk_at "go"
    exact hP
  · have hP := (hP ha).2 e
    have la := ha.1
    walk_at "go"
    refine ⟨other.length, rfl, by omega, ?_⟩
    walk_at "go"
    rw [← la]
    refine loop_any (as := ss) (f := dS3) (fun i δ => ∃ (zs : List Int) (t : List (List Int)) (b : Int) (o5 : Option D), δ = [some (dI one), some (dI other), some (.tup [.str "steps", .lst (ss.map dS3)]), some (dT t), some (dI zs), o5] ∧ Walk zs (ss.drop i) one ∧ zs.length = one.length ∧ Bk 98 zs ∧ Rect one.length one.length t ∧ LeadF one.length (cellAt t) b (atF other) (atF zs) ∧ 1 ≤ b ∧ BkT (1 + 101 * i) t) ⟨other, unitT one.length, 1, none, rfl, hW, la.symm, hB ha, unitT_rect, lead_unit.congr (fun i j hi hj => unitT_cell hi hj) (fun i _ => rfl), by decide, unitT_bk⟩ ?_ ?_
    · rintro i ⟨g, u, a⟩ δ N e ⟨zs, t, b, o5, rfl, hW, lz, bz, hT, hL, b1, bt⟩ hN
      obtain ⟨q1, q2⟩ := List.getElem?_eq_some_iff.mp e
      rw [List.drop_eq_getElem_cons q1, q2] at hW
      obtain ⟨hs, hW⟩ := hW
      have hs' := id hs
      obtain ⟨g0, g1, u0, u1, a1, a2⟩ := hs'
      walk_at "go"
      refine ⟨t, zs, g, u, a, b, one.length, 1 + 101 * i, atF other, rfl, hT, h1, h8, lz, hL, b1, hs, bz, bt, by omega, fun t' b' hT' hL' b1' bt' => ?_⟩
      walk_at "go"
      refine ⟨zs, g, u, a, rfl, fun _ => ?_, fun z => absurd hs z⟩
      refine hN _ ⟨_, t', b', _, rfl, hW, by rw [Maj.step_len]; exact lz, ?_, hT', hL', b1', by rw [show 1 + 101 * (i + 1) = 1 + 101 * i + 101 by omega]; exact bt'⟩
      exact Bk.step bz (by rw [Int.toNat_of_nonneg g0, Int.toNat_of_nonneg u0]; exact hs)
    · rintro δ ⟨zs, t, b, o5, rfl, hW, lz, bz, hT, hL, b1, bt⟩
      rw [List.drop_length] at hW
      have e2 : zs = one := hW
      subst e2
      walk_at "go"
      exact hP t b hT hL b1 (bt.mono (by omega))
def S_law_cell_at : DSp := fun ds P => ∃ (ns : List Int) (j : Nat), ds = [.scr ns, .int j] ∧ P (.int (ns.getD j 0))
theorem cell_at {ns : List Int} {x : Int} {P : DK} (h0 : 0 ≤ x) (h : P (.int (ns.getD x.toNat 0))) : S_law_cell_at [.scr ns, .int x] P := ⟨ns, x.toNat, by rw [Int.toNat_of_nonneg h0], h⟩
theorem mono_law_cell_at : DMono S_law_cell_at := by
  intro xs P P' k h
  unfold S_law_cell_at at h ⊢
  grind
theorem len_law_cell_at : ∀ ds P, S_law_cell_at ds P → ds.length = 2 := by
  intro ds P h
  obtain ⟨_, _, e, _⟩ := h
  rw [e]; rfl
theorem ok_law_cell_at {f : Addr} {fd : FuncData} (F : FnAt K mg "_law_cell_at" s_law_cell_at P_law_cell_at f fd) (A_ : Fns K mg) (T : Txt K mg base) {c : Cs} (xs : Exs K mg base c) : FnOk P w K mg base CX0 1 f fd P_law_cell_at (spP K S_law_cell_at) := by
  refine F.fn.ok sc_law_cell_at (fun vs H Q E h => spP_len len_law_cell_at h) (fun cdv A outer s H vs Q E hr h => ?_)
  refine ⟨_, (pss_cons (ps_if (pt_cmpR op_lt (pv 1) (pe_callB (call_lenK (K := K) rfl) (by rfl) T.len_ PySem.boot_len (pa_cons (pv 0) pa_nil)) (nomark _)) (pss_one (ps_ret (pe_ix (ix_listK (K := K) rfl) (pv 0) (pv 1) (fun _ _ => rfl)))) pss_nil)
      (pss_one (ps_ret pe_int))), fn_val (Γn := []) (N := N_law_cell_at) (st_seq (st_if (tr_test (EM.er (em_op o_bl (ES.er (es_var 1)) (EM.er (em_cb c_len (ar_cons (ES.er (es_var 0)) ar_nil)))))) (st_ret (M := []) (ER.scal (ES.er (es_ixL (es_var 0) (ES.er (es_var 1)))))) st_next)
      (st_ret (M := []) em_int)) (fun ds P hS => ?_) h⟩
  obtain ⟨ns, j, rfl, hP⟩ := hS
  rw [show startD N_law_cell_at [.scr ns, .int j] = [some (.scr ns), some (.int j)] from rfl]
  walk_at "v"
  split
  · rename_i c
    rw [at_dI (by omega) c, asO_some, Int.toNat_natCast]
    exact ⟨rfl, hP⟩
  · rename_i c
    have e : ns.getD j 0 = 0 := by rw [List.getD_eq_getElem?_getD, List.getElem?_eq_none (by omega)]; rfl
    rw [e] at hP
    exact hP
def S_law_whole : DSp := fun ds P => ∃ i, ds = [.int i] ∧ P (.bl true)
theorem mono_law_whole : DMono S_law_whole := by
  intro xs P P' k h
  unfold S_law_whole at h ⊢
  grind
theorem len_law_whole : ∀ ds P, S_law_whole ds P → ds.length = 1 := by
  intro ds P h
  obtain ⟨_, e, _⟩ := h
  rw [e]; rfl
theorem ok_law_whole {f : Addr} {fd : FuncData} (F : FnAt K mg "_law_whole" s_law_whole P_law_whole f fd) (A_ : Fns K mg) (T : Txt K mg base) {c : Cs} (xs : Exs K mg base c) : FnOk P w K mg base CX0 1 f fd P_law_whole (spP K S_law_whole) := by
  refine F.fn.ok sc_law_whole (fun vs H Q E h => spP_len len_law_whole h) (fun cdv A outer s H vs Q E hr h => ?_)
  refine ⟨_, (pss_one (ps_ret (pe_and (pe_callB (call_isinstK (K := K) rfl) (by rfl) T.isinstance_ boot_isinstance (pa_cons (pv 0) (pa_cons (pe_bltn (v := .ty "int") rfl T.int_ boot_int rfl) pa_nil))) (pe_one (pe_not (pe_callB (call_isinstK (K := K) rfl) (by rfl) T.isinstance_ boot_isinstance (pa_cons (pv 0) (pa_cons (pe_bltn (v := .ty "bool") rfl T.bool_ boot_bool rfl) pa_nil)))))))), fn_val (Γn := []) (N := N_law_whole) (st_ret (M := []) (em_andV (EM.er (em_isinst kit_int (ES.er (es_var 0)))) (em_notV (EM.er (em_isinst kit_bool (ES.er (es_var 0))))))) (fun ds P hS => ?_) h⟩
  obtain ⟨i, rfl, hP⟩ := hS
  rw [show startD N_law_whole [.int i] = [some (.int i)] from rfl]
  walk_at "v"
  exact hP
theorem sum_bd {B : Nat} : ∀ {xs : List Int}, (∀ x ∈ xs, x.natAbs ≤ B) → xs.sum.natAbs ≤ xs.length * B
  | [], _ => by simp
  | x :: xs, h => by
    have ih := sum_bd (B := B) (xs := xs) fun y hy => h y (List.mem_cons_of_mem _ hy)
    have hx := h x List.mem_cons_self
    rw [List.sum_cons, List.length_cons, Nat.succ_mul]
    omega
def S_law_tops : DSp := fun ds P => ∃ ns, ds = [.scr ns] ∧ ns.length ≤ 63 ∧ ∀ xs : List Int, 1 ≤ xs.length → xs.length ≤ 8 → (∀ x ∈ xs, x.natAbs ≤ 40000) → P (dI xs)
theorem mono_law_tops : DMono S_law_tops := by
  intro xs P P' k h
  obtain ⟨ns, e, h1, h⟩ := h
  exact ⟨ns, e, h1, fun xs a b d => k _ (h xs a b d)⟩
theorem pick2 {a b : Int} {p : Prop} [Decidable p] {P : DK} (h : ∀ v, v = a ∨ v = b → P (.int v)) : asO (atI [L3.D.int a, L3.D.int b] (if p then 1 else 0)) P := by
  split
  · exact h b (.inr rfl)
  · exact h a (.inl rfl)
theorem len_law_tops : ∀ ds P, S_law_tops ds P → ds.length = 1 := by
  intro ds P h
  obtain ⟨_, e, _⟩ := h
  rw [e]; rfl
theorem ok_law_tops {f : Addr} {fd : FuncData} (F : FnAt K mg "_law_tops" s_law_tops P_law_tops f fd) (A_ : Fns K mg) (T : Txt K mg base) {c : Cs} (xs : Exs K mg base c) : FnOk P w K mg base CX0 2 f fd P_law_tops (spP K S_law_tops) := by
  obtain ⟨f0, d0, E_law_cell_at⟩ := A_.h_law_cell_at
  have G_law_cell_at : FnOk P w K mg base CX0 1 f0 d0 P_law_cell_at (spP K S_law_cell_at) := ok_law_cell_at E_law_cell_at A_ T xs
  refine F.fn.ok sc_law_tops (fun vs H Q E h => spP_len len_law_tops h) (fun cdv A outer s H vs Q E hr h => ?_)
  refine ⟨_, (pss_cons (ps_set (i := 1) sc_law_tops.nd rfl (by first | exact Or.inl rfl | exact Or.inr rfl) (pe_op op_mod (pe_op op_mulB (pe_op op_mod (pe_call G_law_cell_at (hr.mono (by decide)) rfl E_law_cell_at.mg E_law_cell_at.fn.kp E_law_cell_at.bd .nil pass0 (pa_cons (pv 0) (pa_cons pe_int pa_nil))) pe_int) pe_int) pe_int))
      (pss_cons (ps_set (i := 2) sc_law_tops.nd rfl (by first | exact Or.inl rfl | exact Or.inr rfl) (pe_op op_add pe_int (pe_ix (ix_listK (K := K) rfl) (pe_lst (pa_cons (pe_op op_mod (pv 1) pe_int) (pa_cons (pe_op op_mod (pv 1) pe_int) pa_nil))) (pe_callTy call_int1 (by rfl) T.int_ boot_int (pa_cons (pe_cmpR op_eq (pe_op op_mod (pe_op op_fdivB (pv 1) pe_int) pe_int) pe_int (nomark _)) pa_nil)) (fun _ _ => rfl))))
      (pss_cons (ps_setC0 (i := 3) (CompScope.of (sc0 := (defScope s_law_tops)) (tn := ["_law_k"]) (cap := []) (idx := []) (by decide +kernel) rfl rfl) sc_law_tops.nd rfl (by first | exact Or.inl rfl | exact Or.inr rfl) (pi_range1 rfl T.range_ (pa_cons (pv 2) pa_nil)) (GSet.name (by decide)) (fun _ _ _ _ _ => pg_name (i := 0) (nodupB_iff (l := ["_law_k"]) (by decide +kernel)) rfl (by first | exact Or.inl rfl | exact Or.inr rfl) (by first | exact .inl rfl | exact .inr rfl)) (fun _ _ _ _ _ => pe_int))
      (pss_cons (ps_for PassesOwn.never rfl (pi_listK (K := K) rfl (pe_slice (sl_listK (K := K) rfl) (pv 0) (po_some pe_int) (po_some pe_int))) (pg_name (i := 4) sc_law_tops.nd rfl (by first | exact Or.inl rfl | exact Or.inr rfl)) (pss_cons (ps_set (i := 5) sc_law_tops.nd rfl (by first | exact Or.inl rfl | exact Or.inr rfl) (pe_op op_mod (pv 4) (pv 2)))
      (pss_one (ps_asg (pe_op op_sub (pe_op op_add (pe_ix (ix_listK (K := K) rfl) (pv 3) (pv 5) (fun _ _ => rfl)) (pe_op op_mod (pe_op op_fdivB (pv 4) (pv 2)) pe_int)) pe_int) (pg_sub (pv 3) (pv 5) set_list)))))
      (pss_one (ps_ret (pv 3))))))), fn_val (Γn := [3]) (N := N_law_tops) (st_seq (ST.post (Γn := []) (st_setS 1 (EM.es (em_op o_intC (EM.er (em_op o_intC (EM.er (em_op o_intC (EM.er (em_call (S := S_law_cell_at) mono_law_cell_at (ar_cons (ES.er (es_var 0)) (ar_cons (EM.er em_int) ar_nil)))) (EM.er em_int))) (EM.er em_int))) (EM.er em_int)))))
      (st_seq (ST.post (Γn := []) (st_setS 2 (EM.es (em_op o_int (EM.er em_int) (ES.er (es_ixL (EM.es (em_lst (am_cons0 (em_op o_intC (ES.er (es_var 1)) (EM.er em_int)) (am_cons0 (em_op o_intC (ES.er (es_var 1)) (EM.er em_int)) am_nil)))) (EM.er (em_cb c_int (ar_cons (EM.er (em_op o_eq (EM.er (em_op o_intC (EM.er (em_op o_intC (ES.er (es_var 1)) (EM.er em_int))) (EM.er em_int))) (EM.er em_int))) ar_nil)))))))))
      (st_seq (ST.post (Γn := [3]) (st_setM (M := []) 3 (em_comp0 (it_rng1 (ar_cons (ES.er (es_var 2)) ar_nil)) (gt_name 0) em_int)))
      (st_seq (st_for (it_list (EM.es (em_sl (ES.er (es_var 0)) (or_some (EM.er em_int)) (or_some (EM.er em_int))))) (gt_name 4) (st_seq (ST.post (Γn := [3]) (st_setS 5 (EM.es (em_op o_intC (ES.er (es_var 4)) (ES.er (es_var 2))))))
      (st_setItem 3 (em_op o_int (EM.er (em_op o_int (er_ixL (er_var 3) (ES.er (es_var 5))) (EM.er (em_op o_intC (EM.er (em_op o_intC (ES.er (es_var 4)) (ES.er (es_var 2)))) (EM.er em_int))))) (EM.er em_int)) (ES.er (es_var 5)))))
      (st_ret (M := [3]) (em_var 3)))))) (fun ds P hS => ?_) h⟩
  obtain ⟨ns, rfl, hz, hP⟩ := hS
  rw [show startD N_law_tops [.scr ns] = [some (.scr ns), none, none, none, none, none] from rfl]
  walk_at "go"
  refine cell_at (by omega) ?_
  have q1 := emod_lt (x := ns.getD (0 : Int).toNat 0) (n := 2147483647) (by omega)
  walk_at "go"
  generalize ns.getD 0 0 % 2147483647 * 48271 % 2147483647 = y
  have h8 := emod_lt (x := y) (n := 8) (by omega)
  have h6 := emod_lt (x := y) (n := 6) (by omega)
  refine pick2 fun v hv => ?_
  have v8 : 0 ≤ v ∧ v < 8 := by omega
  clear hv
  walk_at "go"
  obtain ⟨m, em⟩ : ∃ m : Nat, (1 + v : Int) = m := ⟨(1 + v).toNat, by omega⟩
  have m1 : 1 ≤ m := by omega
  have m8 : m ≤ 8 := by omega
  rw [em]
  refine comp_rng (lo := 0) (n := m) (g := fun (_ : Nat) => .int 0) (fun R h => ?_) (by omega) (fun j hj R h => ?_) ?_
  · walk_at "go"
    exact h
  · walk_at "gb"
    exact h
  · have e : (List.range m).map (fun _ => L3.D.int 0) = ((List.range m).map fun _ => (0 : Int)).map L3.D.int := map_int
    rw [e]
    obtain ⟨ms, em2, hm⟩ := cut_ints (ns := ns) (lo := some 2) (hi := some 202)
    rw [em2]
    refine ⟨scal_ints, ?_⟩
    refine loop_any (as := ms) (f := L3.D.int) (fun i δ => ∃ (xs : List Int) (o4 o5 : Option D), δ = [some (.scr ns), some (.int y), some (.int m), some (dI xs), o4, o5] ∧ xs.length = m ∧ ∀ x ∈ xs, (x.natAbs : Int) ≤ 500 * (i : Int)) ⟨_, none, none, rfl, by rw [List.length_map, List.length_range], fun x hx => by obtain ⟨_, _, rfl⟩ := List.mem_map.mp hx; decide⟩ ?_ ?_
    · rintro i a δ N e ⟨xs, o4, o5, rfl, hx, hb⟩ hN
      walk_at "go"
      have h := emod_lt (x := a) (n := (m : Int)) (by omega)
      refine setItem_ints (r := xs) (a := a % m) (v := xs.getD (a % m).toNat 0 + a / m % 1000 - 500) rfl (fun R h' => ?_) (fun R h' => ?_) (by omega) ?_
      · walk_at "go"
        refine asO_ints (by omega) ?_
        walk_at "go"
        exact h'
      · walk_at "v"
        exact h'
      · walk_at "v"
        refine hN _ ⟨_, _, _, rfl, by rw [List.length_set]; exact hx, fun x hx' => ?_⟩
        have h18 := emod_lt (x := a / m) (n := 1000) (by decide)
        have hg : ((xs.getD (a % m).toNat 0).natAbs : Int) ≤ 500 * (i : Int) := by
          rw [List.getD_eq_getElem?_getD, List.getElem?_eq_getElem (by omega), Option.getD_some]
          exact hb _ (List.getElem_mem _)
        rcases List.mem_or_eq_of_mem_set hx' with z | z
        · have := hb x z
          omega
        · rw [z]
          omega
    · rintro δ ⟨xs, o4, o5, rfl, hx, hb⟩
      walk_at "v"
      have hml : ms.length ≤ 63 := by rw [hm, List.length_take, List.length_drop]; omega
      refine hP xs (by omega) (by omega) fun x hx => ?_
      have := hb x hx
      omega
theorem bd_getD {B : Nat} {xs : List Int} {i : Nat} (h : ∀ x ∈ xs, x.natAbs ≤ B) : (xs.getD i 0).natAbs ≤ B := by
  rw [List.getD_eq_getElem?_getD]
  cases e : xs[i]? with
  | none => exact Nat.zero_le _
  | some v => exact h v (List.mem_of_getElem? e)
theorem bd_step {B : Nat} {xs : List Int} {g k : Nat} {b : Int} (h : ∀ x ∈ xs, x.natAbs ≤ B) (b0 : 0 ≤ b) (b1 : b < 100) : ∀ x ∈ Maj.stepped xs g k b, x.natAbs ≤ B + 100 := fun x hx => by
  have e1 : ∀ y ∈ xs.set g (xs.getD g 0 - b), y.natAbs ≤ B + 100 := fun y hy => by
    rcases List.mem_or_eq_of_mem_set hy with z | z
    · have := h y z; omega
    · rw [z]; have := bd_getD (i := g) h; omega
  unfold Maj.stepped at hx
  rcases List.mem_or_eq_of_mem_set hx with z | z
  · exact e1 x z
  · rw [z]
    by_cases e : k = g
    · subst e
      rcases Nat.lt_or_ge k xs.length with hl | hl
      · rw [List.getD_eq_getElem?_getD, List.getElem?_set_self hl]
        have := bd_getD (i := k) h
        show (xs.getD k 0 - b + b).natAbs ≤ _
        omega
      · rw [List.getD_eq_getElem?_getD, List.getElem?_eq_none (by rw [List.length_set]; exact hl)]
        show (0 + b).natAbs ≤ _
        omega
    · rw [Maj.getD_set_ne (fun z => e z.symm)]
      have := bd_getD (i := k) h
      omega
def S_law_poorer : DSp := fun ds P => ∃ (xs ns : List Int) (t : Int), ds = [dI xs, .scr ns, .int t] ∧ ns.length ≤ 63 ∧ 1 ≤ xs.length ∧ xs.length ≤ 8 ∧ (∀ x ∈ xs, x.natAbs ≤ 40000) ∧ ∀ ys : List Int, ys.length = xs.length → ys.sum = xs.sum → (∀ y ∈ ys, y.natAbs ≤ 50000) → P (dI ys)
theorem mono_law_poorer : DMono S_law_poorer := by
  intro xs P P' k h
  obtain ⟨x, ns, t, e, h1, h2, h3, h4, h⟩ := h
  exact ⟨x, ns, t, e, h1, h2, h3, h4, fun ys a b d => k _ (h ys a b d)⟩
theorem len_law_poorer : ∀ ds P, S_law_poorer ds P → ds.length = 3 := by
  intro ds P h
  obtain ⟨_, _, _, e, _⟩ := h
  rw [e]; rfl
theorem ok_law_poorer {f : Addr} {fd : FuncData} (F : FnAt K mg "_law_poorer" s_law_poorer P_law_poorer f fd) (A_ : Fns K mg) (T : Txt K mg base) {c : Cs} (xs : Exs K mg base c) : FnOk P w K mg base CX0 1 f fd P_law_poorer (spP K S_law_poorer) := by
  refine F.fn.ok sc_law_poorer (fun vs H Q E h => spP_len len_law_poorer h) (fun cdv A outer s H vs Q E hr h => ?_)
  refine ⟨_, (pss_cons (ps_set (i := 3) sc_law_poorer.nd rfl (by first | exact Or.inl rfl | exact Or.inr rfl) (pe_callTy (call_listK (K := K) rfl) (by rfl) T.list_ boot_list (pa_cons (pv 0) pa_nil)))
      (pss_cons (ps_set (i := 4) sc_law_poorer.nd rfl (by first | exact Or.inl rfl | exact Or.inr rfl) (pe_callB (call_lenK (K := K) rfl) (by rfl) T.len_ PySem.boot_len (pa_cons (pv 0) pa_nil)))
      (pss_cons (ps_for PassesOwn.never rfl (pi_listK (K := K) rfl (pe_slice (sl_listK (K := K) rfl) (pv 1) (po_some pe_int) (po_some pe_int))) (pg_name (i := 5) sc_law_poorer.nd rfl (by first | exact Or.inl rfl | exact Or.inr rfl)) (pss_cons (ps_set (i := 6) sc_law_poorer.nd rfl (by first | exact Or.inl rfl | exact Or.inr rfl) (pe_op op_mod (pe_op op_fdivB (pv 5) pe_int) (pv 4)))
      (pss_cons (ps_set (i := 7) sc_law_poorer.nd rfl (by first | exact Or.inl rfl | exact Or.inr rfl) (pe_op op_mod (pe_op op_fdivB (pv 5) pe_int) (pv 4)))
      (pss_one (ps_if (PW.pt (pw_and (pt_cmpR op_ne (pv 6) (pv 7) (nomark _)) (pw_and1 (pt_cmpR op_le (pe_ix (ix_listK (K := K) rfl) (pv 3) (pv 6) (fun _ _ => rfl)) (pe_ix (ix_listK (K := K) rfl) (pv 3) (pv 7) (fun _ _ => rfl)) (nomark _))))) (pss_cons (ps_set (i := 8) sc_law_poorer.nd rfl (by first | exact Or.inl rfl | exact Or.inr rfl) (pe_op op_mod (pe_op op_fdivB (pv 5) pe_int) pe_int))
      (pss_cons (ps_asg (pe_op op_sub (pe_ix (ix_listK (K := K) rfl) (pv 3) (pv 6) (fun _ _ => rfl)) (pv 8)) (pg_sub (pv 3) (pv 6) set_list))
      (pss_one (ps_asg (pe_op op_add (pe_ix (ix_listK (K := K) rfl) (pv 3) (pv 7) (fun _ _ => rfl)) (pv 8)) (pg_sub (pv 3) (pv 7) set_list))))) pss_nil)))))
      (pss_one (ps_ret (pe_op op_cat (pe_slice (sl_listK (K := K) rfl) (pv 3) (po_some (pe_op op_mod (pv 2) (pv 4))) po_none) (pe_slice (sl_listK (K := K) rfl) (pv 3) po_none (po_some (pe_op op_mod (pv 2) (pv 4)))))))))), fn_val (Γn := [3]) (N := N_law_poorer) (st_seq (ST.post (Γn := [3]) (st_setM (M := []) 3 (em_cb c_list (ar_cons (ES.er (es_var 0)) ar_nil))))
      (st_seq (ST.post (Γn := [3]) (st_setS 4 (EM.es (em_cb c_len (ar_cons (ES.er (es_var 0)) ar_nil)))))
      (st_seq (st_for (it_list (EM.es (em_sl (ES.er (es_var 1)) (or_some (EM.er em_int)) (or_some (EM.er em_int))))) (gt_name 5) (st_seq (ST.post (Γn := [3]) (st_setS 6 (EM.es (em_op o_intC (EM.er (em_op o_intC (ES.er (es_var 5)) (EM.er em_int))) (ES.er (es_var 4))))))
      (st_seq (ST.post (Γn := [3]) (st_setS 7 (EM.es (em_op o_intC (EM.er (em_op o_intC (ES.er (es_var 5)) (EM.er em_int))) (ES.er (es_var 4))))))
      (st_if (tr_and (tr_test (EM.er (em_op o_ne (ES.er (es_var 6)) (ES.er (es_var 7))))) (tr_test (EM.er (em_op o_bl (er_ixL (er_var 3) (ES.er (es_var 6))) (er_ixL (er_var 3) (ES.er (es_var 7))))))) (st_seq (ST.post (Γn := [3]) (st_setS 8 (EM.es (em_op o_intC (EM.er (em_op o_intC (ES.er (es_var 5)) (EM.er em_int))) (EM.er em_int)))))
      (st_seq (st_setItem 3 (em_op o_int (er_ixL (er_var 3) (ES.er (es_var 6))) (ES.er (es_var 8))) (ES.er (es_var 6)))
      (st_setItem 3 (em_op o_int (er_ixL (er_var 3) (ES.er (es_var 7))) (ES.er (es_var 8))) (ES.er (es_var 7))))) st_next))))
      (st_ret (M := []) (em_op o_cat (EM.er (em_sl (er_var 3) (or_some (EM.er (em_op o_intC (ES.er (es_var 2)) (ES.er (es_var 4))))) or_none)) (EM.er (em_sl (er_var 3) or_none (or_some (EM.er (em_op o_intC (ES.er (es_var 2)) (ES.er (es_var 4)))))))))))) (fun ds P hS => ?_) h⟩
  obtain ⟨xs, ns, t, rfl, hz, h1, h8, hb, hP⟩ := hS
  rw [show startD N_law_poorer [dI xs, .scr ns, .int t] = [some (dI xs), some (.scr ns), some (.int t), none, none, none, none, none, none] from rfl]
  walk_at "go"
  obtain ⟨ms, em2, hm⟩ := cut_ints (ns := ns) (lo := some 2) (hi := some 202)
  rw [em2]
  have hml : ms.length ≤ 63 := by rw [hm, List.length_take, List.length_drop]; omega
  refine loop_any (as := ms) (f := L3.D.int) (fun i δ => ∃ (ys : List Int) (o5 o6 o7 o8 : Option D), δ = [some (dI xs), some (.scr ns), some (.int t), some (dI ys), some (.int xs.length), o5, o6, o7, o8] ∧ ys.length = xs.length ∧ ys.sum = xs.sum ∧ ∀ y ∈ ys, y.natAbs ≤ 40000 + 100 * i) ⟨xs, none, none, none, none, rfl, rfl, rfl, hb⟩ ?_ ?_
  · rintro i a δ N e ⟨ys, o5, o6, o7, o8, rfl, hl, hs, hy⟩ hN
    walk_at "go"
    have a1 := emod_lt (x := a / 3) (n := (xs.length : Int)) (by omega)
    have a2 := emod_lt (x := a / 24) (n := (xs.length : Int)) (by omega)
    have a3 := emod_lt (x := a / 192) (n := 100) (by omega)
    generalize a / 3 % (xs.length : Int) = g at *
    generalize a / 24 % (xs.length : Int) = k at *
    have hm : ∀ y ∈ ys, y.natAbs ≤ 40000 + 100 * (i + 1) := fun y h => by have := hy y h; omega
    split
    · rename_i c
      refine asO_ints (by omega) (asO_ints (by omega) ?_)
      walk_at "go"
      split
      · walk_at "go"
        generalize a / 192 % 100 = b at *
        refine setItem_ints (r := ys) (a := g) (v := ys.getD g.toNat 0 - b) rfl (fun R h' => ?_) (fun R h' => ?_) (by omega) ?_
        · walk_at "v"
          refine asO_ints (by omega) ?_
          walk_at "v"
          exact h'
        · walk_at "v"
          exact h'
        walk_at "v"
        refine setItem_ints (r := ys.set g.toNat (ys.getD g.toNat 0 - b)) (a := k) (v := (ys.set g.toNat (ys.getD g.toNat 0 - b)).getD k.toNat 0 + b) rfl (fun R h' => ?_) (fun R h' => ?_) (by rw [List.length_set]; omega) ?_
        · walk_at "v"
          refine asO_ints (by rw [List.length_set]; omega) ?_
          walk_at "v"
          exact h'
        · walk_at "v"
          exact h'
        walk_at "v"
        refine hN _ ⟨Maj.stepped ys g.toNat k.toNat b, _, _, _, _, rfl, by rw [Maj.step_len]; exact hl, ?_, ?_⟩
        · rw [Maj.step_sum (by omega) (by omega) (by omega)]; exact hs
        · rw [show 40000 + 100 * (i + 1) = 40000 + 100 * i + 100 by omega]
          exact bd_step hy a3.1 a3.2
      · exact hN _ ⟨ys, _, _, _, _, rfl, hl, hs, hm⟩
    · exact hN _ ⟨ys, _, _, _, _, rfl, hl, hs, hm⟩
  · rintro δ ⟨ys, o5, o6, o7, o8, rfl, hl, hs, hy⟩
    walk_at "go"
    have a1 := emod_lt (x := t) (n := (xs.length : Int)) (by omega)
    rw [cutD_from (by omega) (by rw [List.length_map]; omega), cutD_to (by omega), ← List.map_drop, ← List.map_take]
    refine ⟨⟨scal_ints, scal_ints, by rw [List.length_map, List.length_map, List.length_drop, List.length_take]; omega⟩, ?_⟩
    rw [cat_dI]
    refine hP _ ?_ ?_ fun y h => ?_
    · rw [List.length_append, List.length_drop, List.length_take]; omega
    · rw [List.sum_append, Int.add_comm, ← List.sum_append, List.take_append_drop]; exact hs
    · have : y ∈ ys := by
        rcases List.mem_append.mp h with z | z
        · exact List.mem_of_mem_drop z
        · exact List.mem_of_mem_take z
      have := hy y this
      omega
def S_law_digits : DSp := fun ds P => ∃ (ms : List Int) (m : Nat) (b : Int), ds = [dI ms, .int m, .int b] ∧ 1 ≤ ms.length ∧ ms.length ≤ 63 ∧ m ≤ 100 ∧ 0 < b ∧ b < 2 ^ 100 ∧ ∀ xs : List Int, xs.length = m → (∀ x ∈ xs, 0 ≤ x ∧ x < b) → P (dI xs)
theorem mono_law_digits : DMono S_law_digits := by
  intro xs P P' k h
  obtain ⟨ms, m, b, e, h1, h2, h3, h4, h5, h⟩ := h
  exact ⟨ms, m, b, e, h1, h2, h3, h4, h5, fun xs a d => k _ (h xs a d)⟩
theorem len_law_digits : ∀ ds P, S_law_digits ds P → ds.length = 3 := by
  intro ds P h
  obtain ⟨_, _, _, e, _⟩ := h
  rw [e]; rfl
theorem ok_law_digits {f : Addr} {fd : FuncData} (F : FnAt K mg "_law_digits" s_law_digits P_law_digits f fd) (A_ : Fns K mg) (T : Txt K mg base) {c : Cs} (xs : Exs K mg base c) : FnOk P w K mg base CX0 1 f fd P_law_digits (spP K S_law_digits) := by
  refine F.fn.ok sc_law_digits (fun vs H Q E h => spP_len len_law_digits h) (fun cdv A outer s H vs Q E hr h => ?_)
  refine ⟨_, (pss_cons (ps_set (i := 3) sc_law_digits.nd rfl (by first | exact Or.inl rfl | exact Or.inr rfl) (pe_callTy (call_listK (K := K) rfl) (by rfl) T.list_ boot_list (pa_cons (pv 0) pa_nil)))
      (pss_cons (ps_set (i := 4) sc_law_digits.nd rfl (by first | exact Or.inl rfl | exact Or.inr rfl) (pe_lst pa_nil))
      (pss_cons (ps_for PassesOwn.never rfl (pi_range1 rfl T.range_ (pa_cons (pv 1) pa_nil)) (pg_name (i := 5) sc_law_digits.nd rfl (by first | exact Or.inl rfl | exact Or.inr rfl)) (pss_cons (ps_set (i := 6) sc_law_digits.nd rfl (by first | exact Or.inl rfl | exact Or.inr rfl) (pe_op op_mod (pv 5) (pe_callB (call_lenK (K := K) rfl) (by rfl) T.len_ PySem.boot_len (pa_cons (pv 3) pa_nil))))
      (pss_cons (ps_expr (pe_bm PySem.F.plainAttrs_list PySem.F.slot_list_append PySem.F.type_list_append mt_append (pv 4) (pa_cons (pe_op op_mod (pe_ix (ix_listK (K := K) rfl) (pv 3) (pv 6) (fun _ _ => rfl)) (pv 2)) pa_nil)))
      (pss_one (ps_asg (pe_op op_fdivB (pe_ix (ix_listK (K := K) rfl) (pv 3) (pv 6) (fun _ _ => rfl)) (pv 2)) (pg_sub (pv 3) (pv 6) set_list))))))
      (pss_one (ps_ret (pv 4)))))), fn_val (Γn := [4, 3]) (N := N_law_digits) (st_seq (ST.post (Γn := [3]) (st_setM (M := []) 3 (em_cb c_list (ar_cons (ES.er (es_var 0)) ar_nil))))
      (st_seq (ST.post (Γn := [4, 3]) (st_setM (M := []) 4 (em_lst am_nil)))
      (st_seq (st_for (it_rng1 (ar_cons (ES.er (es_var 1)) ar_nil)) (gt_name 5) (st_seq (ST.post (Γn := [4, 3]) (st_setS 6 (EM.es (em_op o_intC (ES.er (es_var 5)) (EM.er (em_cb c_len (ar_cons (er_var 3) ar_nil)))))))
      (st_seq (ST.post (Γn := [4, 3]) (st_append (M := []) 4 (em_op o_intC (er_ixL (er_var 3) (ES.er (es_var 6))) (ES.er (es_var 2)))))
      (st_setItem 3 (em_op o_intC (er_ixL (er_var 3) (ES.er (es_var 6))) (ES.er (es_var 2))) (ES.er (es_var 6))))))
      (st_ret (M := [4]) (em_var 4))))) (fun ds P hS => ?_) h⟩
  obtain ⟨ms, m, b, rfl, h1, h63, hm, b0, b1, hP⟩ := hS
  rw [show startD N_law_digits [dI ms, .int m, .int b] = [some (dI ms), some (.int m), some (.int b), none, none, none, none] from rfl]
  walk_at "go"
  refine loop_rng (fun i δ => ∃ (left xs : List Int) (o5 o6 : Option D), δ = [some (dI ms), some (.int m), some (.int b), some (dI left), some (dI xs), o5, o6] ∧ left.length = ms.length ∧ xs.length = i ∧ ∀ x ∈ xs, 0 ≤ x ∧ x < b) ⟨ms, [], none, none, rfl, rfl, rfl, fun _ h => nomatch h⟩ ?_ ?_
  · rintro i δ N hi ⟨left, xs, o5, o6, rfl, hl, hx, hb⟩ hN
    walk_at "go"
    have h := emod_lt (x := 0 + (i : Int)) (n := (left.length : Int)) (by omega)
    refine asO_ints (by omega) ?_
    walk_at "go"
    refine setItem_ints (r := left) (a := (0 + (i : Int)) % left.length) (v := left.getD ((0 + (i : Int)) % left.length).toNat 0 / b) rfl (fun R h' => ?_) (fun R h' => h') (by omega) ?_
    · walk_at "v"
      refine asO_ints (by omega) ?_
      walk_at "v"
      exact ⟨⟨b0, 100, by omega, by decide⟩, h'⟩
    · walk_at "v"
      rw [snoc_dI]
      refine hN _ ⟨_, _, _, _, rfl, by rw [List.length_set]; exact hl, by rw [List.length_append, hx]; rfl, fun x hx' => ?_⟩
      rcases List.mem_append.mp hx' with z | z
      · exact hb x z
      · rw [List.mem_singleton.mp z]
        exact emod_lt b0
  · rintro δ ⟨left, xs, o5, o6, rfl, hl, hx, hb⟩
    walk_at "v"
    exact hP xs hx hb
theorem cut_from1 {α : Type} {as : List α} {f : α → D} : L3.cutD (as.map f) (some 1) none = (as.drop 1).map f := by
  unfold L3.cutD
  rw [List.length_map, HT.sIx_none, show (some (1 : Int)) = some ((1 : Nat) : Int) from rfl, HT.sIx_nat, List.map_drop]
  rcases Nat.lt_or_ge as.length 1 with h | h
  · have : as = [] := List.length_eq_zero_iff.mp (by omega)
    subst this; rfl
  · rw [Nat.min_eq_left h, List.take_of_length_le (by rw [List.length_drop, List.length_map]; exact Nat.le_refl _)]
theorem cut_to {ns : List Int} {k : Nat} : L3.cutD (ns.map L3.D.int) none (some (k : Int)) = (ns.take k).map L3.D.int := by
  rw [cutD_to (by omega), Int.toNat_natCast, List.map_take]
theorem cut_fr {ns : List Int} {k : Nat} (h : k ≤ ns.length) : L3.cutD (ns.map L3.D.int) (some (k : Int)) none = (ns.drop k).map L3.D.int := by
  unfold L3.cutD
  rw [List.length_map, HT.sIx_none, HT.sIx_nat, List.map_drop, Nat.min_eq_left h, List.take_of_length_le (by rw [List.length_drop, List.length_map]; exact Nat.le_refl _)]
theorem at_two {a : Int} {P : DK} (ha : a = 0 ∨ a = 1) (h : ∀ x : Int, 0 < x → x < 2 ^ 100 → P (.int x)) : asO (atI [L3.D.int 10, L3.D.int 100000000000000000000000000000] a) P := by
  rcases ha with rfl | rfl
  · exact h 10 (by decide) (by decide)
  · exact h 100000000000000000000000000000 (by decide) (by decide)
theorem setItem_last {i : Nat} {δ : Dl} {de dx : DE} {E : DEnds} {r : List Int} {v : Int} (hs : δ[i]? = some (some (dI r))) (hde : ∀ R : DK, R (.int v) → de δ R) (hdx : ∀ R : DK, R (.int (-1)) → dx δ R) (h1 : 1 ≤ r.length) (h : E.nx (δ.set i (some (dI (r.set (r.length - 1) v))))) : vSetItem i de dx E δ := by
  unfold vSetItem
  refine hde _ ((slotL_s hs).mpr (hdx _ ?_))
  show match ixN (r.map L3.D.int).length (-1) with | some j => E.nx (δ.set i (some (.lst ((r.map L3.D.int).set j (.int v))))) | none => False
  rw [show ixN (r.map L3.D.int).length (-1) = some (r.length - 1) by
    unfold ixN
    rw [List.length_map, if_neg (by omega), if_pos (by omega)]
    congr 1
    omega]
  show E.nx (δ.set i (some (.lst ((r.map L3.D.int).set (r.length - 1) (.int v)))))
  rw [set_dI]; exact h
def S_law_digit_rows : DSp := fun ds P => ∃ ns, ds = [.scr ns] ∧ 1 < ns.length ∧ ns.length ≤ 63 ∧ ∀ xs ys : List Int, 1 ≤ xs.length → xs.length ≤ 8 → ys.length = xs.length → ys.sum = xs.sum → (∀ x ∈ xs, x.natAbs ≤ 1000000) → (∀ x ∈ ys, x.natAbs ≤ 1000000) → P (.lst [dI xs, dI ys])
theorem mono_law_digit_rows : DMono S_law_digit_rows := by
  intro xs P P' k h
  obtain ⟨ns, e, h1, h2, h⟩ := h
  exact ⟨ns, e, h1, h2, fun xs ys a b d f g i => k _ (h xs ys a b d f g i)⟩
theorem len_law_digit_rows : ∀ ds P, S_law_digit_rows ds P → ds.length = 1 := by
  intro ds P h
  obtain ⟨_, e, _⟩ := h
  rw [e]; rfl
theorem ok_law_digit_rows {f : Addr} {fd : FuncData} (F : FnAt K mg "_law_digit_rows" s_law_digit_rows P_law_digit_rows f fd) (A_ : Fns K mg) (T : Txt K mg base) {c : Cs} (xs : Exs K mg base c) : FnOk P w K mg base CX0 2 f fd P_law_digit_rows (spR K S_law_digit_rows) := by
  obtain ⟨f0, d0, E_law_digits⟩ := A_.h_law_digits
  have G_law_digits : FnOk P w K mg base CX0 1 f0 d0 P_law_digits (spP K S_law_digits) := ok_law_digits E_law_digits A_ T xs
  refine F.fn.ok sc_law_digit_rows (fun vs H Q E h => spR_len len_law_digit_rows h) (fun cdv A outer s H vs Q E hr h => ?_)
  refine ⟨_, (pss_cons (ps_set (i := 1) sc_law_digit_rows.nd rfl (by first | exact Or.inl rfl | exact Or.inr rfl) (pe_op op_add pe_int (pe_op op_mod (pe_op op_fdivB (pe_ix (ix_listK (K := K) rfl) (pv 0) pe_int (fun _ _ => rfl)) pe_int) pe_int)))
      (pss_cons (ps_set (i := 2) sc_law_digit_rows.nd rfl (by first | exact Or.inl rfl | exact Or.inr rfl) (pe_call G_law_digits (hr.mono (by decide)) rfl E_law_digits.mg E_law_digits.fn.kp E_law_digits.bd .nil pass0 (pa_cons (pe_slice (sl_listK (K := K) rfl) (pv 0) (po_some pe_int) po_none) (pa_cons (pe_op op_mulB pe_int (pv 1)) (pa_cons pe_int pa_nil)))))
      (pss_cons (ps_setC0 (i := 3) (CompScope.of (sc0 := (defScope s_law_digit_rows)) (tn := ["_law_digit"]) (cap := []) (idx := []) (by decide +kernel) rfl rfl) sc_law_digit_rows.nd rfl (by first | exact Or.inl rfl | exact Or.inr rfl) (pi_listK (K := K) rfl (pe_slice (sl_listK (K := K) rfl) (pv 2) po_none (po_some (pv 1)))) (GSet.name (by decide)) (fun _ _ _ _ _ => pg_name (i := 0) (nodupB_iff (l := ["_law_digit"]) (by decide +kernel)) rfl (by first | exact Or.inl rfl | exact Or.inr rfl) (by first | exact .inl rfl | exact .inr rfl)) (fun _ _ _ _ _ => (pe_op op_sub (pv 0) pe_int)))
      (pss_cons (ps_setC0 (i := 4) (CompScope.of (sc0 := (defScope s_law_digit_rows)) (tn := ["_law_digit"]) (cap := []) (idx := []) (by decide +kernel) rfl rfl) sc_law_digit_rows.nd rfl (by first | exact Or.inl rfl | exact Or.inr rfl) (pi_listK (K := K) rfl (pe_slice (sl_listK (K := K) rfl) (pv 2) (po_some (pv 1)) po_none)) (GSet.name (by decide)) (fun _ _ _ _ _ => pg_name (i := 0) (nodupB_iff (l := ["_law_digit"]) (by decide +kernel)) rfl (by first | exact Or.inl rfl | exact Or.inr rfl) (by first | exact .inl rfl | exact .inr rfl)) (fun _ _ _ _ _ => (pe_op op_sub (pv 0) pe_int)))
      (pss_cons (ps_asg (pe_op op_sub (pe_op op_add (pe_ix (ix_listK (K := K) rfl) (pv 4) (pe_un un_neg pe_int) (fun _ _ => rfl)) (pe_callB (call_sumK (K := K) rfl rfl) (by rfl) T.sum_ boot_sum (pa_cons (pv 3) pa_nil))) (pe_callB (call_sumK (K := K) rfl rfl) (by rfl) T.sum_ boot_sum (pa_cons (pv 4) pa_nil))) (pg_sub (pv 4) (pe_un un_neg pe_int) set_list))
      (pss_one (ps_ret (pe_lst (pa_cons (pv 3) (pa_cons (pv 4) pa_nil)))))))))), fn_valR (Γn := [4]) (N := N_law_digit_rows) (st_seq (ST.post (Γn := []) (st_setS 1 (EM.es (em_op o_int (EM.er em_int) (EM.er (em_op o_intC (EM.er (em_op o_intC (ES.er (es_ixL (es_var 0) (EM.er em_int))) (EM.er em_int))) (EM.er em_int)))))))
      (st_seq (ST.post (Γn := []) (st_setS 2 (EM.es (em_call (S := S_law_digits) mono_law_digits (ar_cons (EM.er (em_sl (ES.er (es_var 0)) (or_some (EM.er em_int)) or_none)) (ar_cons (EM.er (em_op o_intC (EM.er em_int) (ES.er (es_var 1)))) (ar_cons (EM.er em_int) ar_nil)))))))
      (st_seq (ST.post (Γn := []) (st_setS 3 (EM.es (em_comp0 (it_list (EM.es (em_sl (ES.er (es_var 2)) or_none (or_some (ES.er (es_var 1)))))) (gt_name 0) (em_op o_int (ES.er (es_var 0)) (EM.er em_int))))))
      (st_seq (ST.post (Γn := [4]) (st_setM (M := []) 4 (em_comp0 (it_list (EM.es (em_sl (ES.er (es_var 2)) (or_some (ES.er (es_var 1))) or_none))) (gt_name 0) (em_op o_int (ES.er (es_var 0)) (EM.er em_int)))))
      (st_seq (st_setItem 4 (em_op o_int (EM.er (em_op o_int (er_ixL (er_var 4) (EM.er (em_un u_int (EM.er em_int)))) (EM.er (em_cb c_sum (ar_cons (ES.er (es_var 3)) ar_nil))))) (EM.er (em_cb c_sum (ar_cons (er_var 4) ar_nil)))) (EM.er (em_un u_int (EM.er em_int))))
      (st_retR (er_lst (ar_cons (ES.er (es_var 3)) (ar_cons (er_var 4) ar_nil))))))))) (fun ds P hS => ?_) h⟩
  obtain ⟨ns, rfl, hz1, hz, hP⟩ := hS
  rw [show startD N_law_digit_rows [.scr ns] = [some (.scr ns), none, none, none, none] from rfl]
  walk_at "go"
  refine asO_ints (by omega) ?_
  generalize ns.getD (0 : Int).toNat 0 = x
  have h8 := emod_lt (x := x / 2) (n := 8) (by omega)
  walk_at "go"
  obtain ⟨m, em⟩ : ∃ m : Nat, (1 + x / 2 % 8 : Int) = m := ⟨(1 + x / 2 % 8).toNat, by omega⟩
  rw [em, cut_from1]
  have ld : (ns.drop 1).length = ns.length - 1 := List.length_drop
  refine ⟨ns.drop 1, 2 * m, 1000, by rw [Int.natCast_mul]; rfl, by omega, by omega, by omega, by decide, by decide, fun ds hd hdb => ?_⟩
  refine comp_ints (ns := ds.take m) (g := fun z => .int (z - 500)) (fun R h => ?_) (by rw [List.length_take]; omega) (fun z hz R h => ?_) ?_
  · walk_at "go"
    rw [cut_to]
    exact h
  · walk_at "gb"
    exact h
  rw [show (ds.take m).map (fun z => L3.D.int (z - 500)) = ((ds.take m).map fun z => z - 500).map L3.D.int from map_int]
  refine comp_ints (ns := ds.drop m) (g := fun z => .int (z - 500)) (fun R h => ?_) (by rw [List.length_drop]; omega) (fun z hz R h => ?_) ?_
  · walk_at "go"
    rw [cut_fr (by omega)]
    exact h
  · walk_at "gb"
    exact h
  rw [show (ds.drop m).map (fun z => L3.D.int (z - 500)) = ((ds.drop m).map fun z => z - 500).map L3.D.int from map_int]
  generalize ho : (ds.take m).map (fun z => z - 500) = xs
  generalize hq : (ds.drop m).map (fun z => z - 500) = ys
  have l1 : xs.length = m := by rw [← ho, List.length_map, List.length_take]; omega
  have l2 : ys.length = m := by rw [← hq, List.length_map, List.length_drop]; omega
  refine setItem_last (r := ys) (v := ys.getD (ys.length - 1) 0 + xs.sum - ys.sum) rfl (fun R h' => ?_) (fun R h' => ?_) (by omega) ?_
  · walk_at "go"
    refine asO_lastI (by omega) ?_
    walk_at "go"
    exact h'
  · walk_at "go"
    exact h'
  walk_at "go"
  have bx : ∀ x ∈ xs, x.natAbs ≤ 500 := fun x hx => by
    rw [← ho] at hx
    obtain ⟨v, hv, rfl⟩ := List.mem_map.mp hx
    have := hdb v (List.mem_of_mem_take hv)
    omega
  have by' : ∀ x ∈ ys, x.natAbs ≤ 500 := fun x hx => by
    rw [← hq] at hx
    obtain ⟨v, hv, rfl⟩ := List.mem_map.mp hx
    have := hdb v (List.mem_of_mem_drop hv)
    omega
  have s1 := sum_bd bx
  have s2 := sum_bd by'
  rw [l1] at s1
  rw [l2] at s2
  have lst := bd_getD (i := ys.length - 1) by'
  refine hP xs _ (by omega) (by omega) (by rw [List.length_set]; omega) (by rw [Maj.sum_set (by omega)]; omega) (fun x hx => by have := bx x hx; omega) fun x hx => ?_
  rcases List.mem_or_eq_of_mem_set hx with z | z
  · have := by' x z; omega
  · rw [z]; omega
theorem peel {A R : DS} {E : DEnds} {δ : Dl} (h : ∀ R', R' = R → vSeq A R' E δ) : vSeq A R E δ := h R rfl
theorem at_4 {a : Int} {v0 v1 v2 v3 : Int} {P : DK} (ha : 0 ≤ a ∧ a < 4) (h : ∀ v, v = v0 ∨ v = v1 ∨ v = v2 ∨ v = v3 → P (.int v)) : asO (atI [L3.D.int v0, L3.D.int v1, L3.D.int v2, L3.D.int v3] a) P := by
  rcases (show a = 0 ∨ a = 1 ∨ a = 2 ∨ a = 3 by omega) with rfl | rfl | rfl | rfl
  · exact h _ (.inl rfl)
  · exact h _ (.inr (.inl rfl))
  · exact h _ (.inr (.inr (.inl rfl)))
  · exact h _ (.inr (.inr (.inr rfl)))
theorem sum_scale {s : Int} : ∀ {xs : List Int}, (xs.map fun x => s * x).sum = s * xs.sum
  | [] => by simp
  | x :: xs => by rw [List.map_cons, List.sum_cons, List.sum_cons, sum_scale, Int.mul_add]
theorem bk_scale {s : Int} {xs : List Int} (hs : s.natAbs ≤ 1000000000000000009) (h : ∀ x ∈ xs, x.natAbs ≤ 1000000) : Bk 98 (xs.map fun x => s * x) := fun j => by
  rw [List.getD_eq_getElem?_getD, List.getElem?_map]
  cases e : xs[j]? with
  | none => exact pw_pos
  | some v =>
    show (s * v).natAbs < 2 ^ 98
    rw [Int.natAbs_mul]
    have := Nat.mul_le_mul hs (h v (List.mem_of_getElem? e))
    exact Nat.lt_of_le_of_lt this (by decide)
def S_law_two : DSp := fun ds P => ∃ ns, ds = [.scr ns] ∧ ns.length ≤ 63 ∧ ∀ xs ys : List Int, 1 ≤ xs.length → xs.length ≤ 8 → ys.length = xs.length → ys.sum = xs.sum → Bk 98 xs → Bk 98 ys → P (.lst [dI xs, dI ys])
theorem bk_of {xs : List Int} (h : ∀ x ∈ xs, x.natAbs ≤ 1000000) : Bk 98 xs := fun j => Nat.lt_of_le_of_lt (bd_getD h) (by decide)
theorem mono_law_two : DMono S_law_two := by
  intro xs P P' k h
  obtain ⟨ns, e, h1, h⟩ := h
  exact ⟨ns, e, h1, fun xs ys a b d f g i => k _ (h xs ys a b d f g i)⟩
theorem len_law_two : ∀ ds P, S_law_two ds P → ds.length = 1 := by
  intro ds P h
  obtain ⟨_, e, _⟩ := h
  rw [e]; rfl
theorem ok_law_two {f : Addr} {fd : FuncData} (F : FnAt K mg "_law_two" s_law_two P_law_two f fd) (A_ : Fns K mg) (T : Txt K mg base) {c : Cs} (xs : Exs K mg base c) : FnOk P w K mg base CX0 3 f fd P_law_two (spR K S_law_two) := by
  obtain ⟨f0, d0, E_law_tops⟩ := A_.h_law_tops
  have G_law_tops : FnOk P w K mg base CX0 2 f0 d0 P_law_tops (spP K S_law_tops) := ok_law_tops E_law_tops A_ T xs
  obtain ⟨f1, d1, E_law_digit_rows⟩ := A_.h_law_digit_rows
  have G_law_digit_rows : FnOk P w K mg base CX0 2 f1 d1 P_law_digit_rows (spR K S_law_digit_rows) := ok_law_digit_rows E_law_digit_rows A_ T xs
  obtain ⟨f2, d2, E_law_cell_at⟩ := A_.h_law_cell_at
  have G_law_cell_at : FnOk P w K mg base CX0 1 f2 d2 P_law_cell_at (spP K S_law_cell_at) := ok_law_cell_at E_law_cell_at A_ T xs
  obtain ⟨f3, d3, E_law_poorer⟩ := A_.h_law_poorer
  have G_law_poorer : FnOk P w K mg base CX0 1 f3 d3 P_law_poorer (spP K S_law_poorer) := ok_law_poorer E_law_poorer A_ T xs
  refine F.fn.ok sc_law_two (fun vs H Q E h => spR_len len_law_two h) (fun cdv A outer s H vs Q E hr h => ?_)
  refine ⟨_, (pss_cons (ps_if (PW.pt (pw_and (pt_cmpR op_gt (pe_callB (call_lenK (K := K) rfl) (by rfl) T.len_ PySem.boot_len (pa_cons (pv 0) pa_nil)) pe_int (nomark _)) (pw_and1 (pt_cmpR op_eq (pe_op op_mod (pe_ix (ix_listK (K := K) rfl) (pv 0) pe_int (fun _ _ => rfl)) pe_int) pe_int (nomark _))))) (pss_one (ps_ret (pe_call G_law_digit_rows (hr.mono (by decide)) rfl E_law_digit_rows.mg E_law_digit_rows.fn.kp E_law_digit_rows.bd .nil pass0 (pa_cons (pv 0) pa_nil)))) pss_nil)
      (pss_cons (ps_set (i := 1) sc_law_two.nd rfl (by first | exact Or.inl rfl | exact Or.inr rfl) (pe_op op_mod (pe_call G_law_cell_at (hr.mono (by decide)) rfl E_law_cell_at.mg E_law_cell_at.fn.kp E_law_cell_at.bd .nil pass0 (pa_cons (pv 0) (pa_cons pe_int pa_nil))) pe_int))
      (pss_cons (ps_set (i := 2) sc_law_two.nd rfl (by first | exact Or.inl rfl | exact Or.inr rfl) (pe_op op_fdivB (pe_call G_law_cell_at (hr.mono (by decide)) rfl E_law_cell_at.mg E_law_cell_at.fn.kp E_law_cell_at.bd .nil pass0 (pa_cons (pv 0) (pa_cons pe_int pa_nil))) pe_int))
      (pss_cons (ps_set (i := 3) sc_law_two.nd rfl (by first | exact Or.inl rfl | exact Or.inr rfl) (pe_call G_law_tops (hr.mono (by decide)) rfl E_law_tops.mg E_law_tops.fn.kp E_law_tops.bd .nil pass0 (pa_cons (pv 0) pa_nil)))
      (pss_cons (ps_if (pt_cmpR op_lt (pv 1) pe_int (nomark _)) (pss_one (ps_set (i := 4) sc_law_two.nd rfl (by first | exact Or.inl rfl | exact Or.inr rfl) (pe_call G_law_poorer (hr.mono (by decide)) rfl E_law_poorer.mg E_law_poorer.fn.kp E_law_poorer.bd .nil pass0 (pa_cons (pv 3) (pa_cons (pv 0) (pa_cons (pv 2) pa_nil)))))) (pss_one (ps_if (pt_cmpR op_lt (pv 1) pe_int (nomark _)) (pss_cons (ps_setC0 (i := 4) (CompScope.of (sc0 := (defScope s_law_two)) (tn := ["_law_cell"]) (cap := []) (idx := []) (by decide +kernel) rfl rfl) sc_law_two.nd rfl (by first | exact Or.inl rfl | exact Or.inr rfl) (pi_listK (K := K) rfl (pv 3)) (GSet.name (by decide)) (fun _ _ _ _ _ => pg_name (i := 0) (nodupB_iff (l := ["_law_cell"]) (by decide +kernel)) rfl (by first | exact Or.inl rfl | exact Or.inr rfl) (by first | exact .inl rfl | exact .inr rfl)) (fun _ _ _ _ _ => (pe_op op_mod (pe_op op_mulB (pv 0) pe_int) pe_int)))
      (pss_one (ps_asg (pe_op op_sub (pe_op op_add (pe_ix (ix_listK (K := K) rfl) (pv 4) (pe_op op_mod (pv 2) (pe_callB (call_lenK (K := K) rfl) (by rfl) T.len_ PySem.boot_len (pa_cons (pv 3) pa_nil))) (fun _ _ => rfl)) (pe_callB (call_sumK (K := K) rfl rfl) (by rfl) T.sum_ boot_sum (pa_cons (pv 3) pa_nil))) (pe_callB (call_sumK (K := K) rfl rfl) (by rfl) T.sum_ boot_sum (pa_cons (pv 4) pa_nil))) (pg_sub (pv 4) (pe_op op_mod (pv 2) (pe_callB (call_lenK (K := K) rfl) (by rfl) T.len_ PySem.boot_len (pa_cons (pv 3) pa_nil))) set_list)))) (pss_one (ps_set (i := 4) sc_law_two.nd rfl (by first | exact Or.inl rfl | exact Or.inr rfl) (pe_listRevK (K := K) rfl rfl rfl T.list_ rfl T.reversed_ (pv 3)))))))
      (pss_cons (ps_set (i := 5) sc_law_two.nd rfl (by first | exact Or.inl rfl | exact Or.inr rfl) (pe_ix (ix_listK (K := K) rfl) (pe_lst (pa_cons pe_int (pa_cons pe_int (pa_cons (pe_op op_add (pe_op op_pow pe_int pe_int) pe_int) (pa_cons (pe_op op_add (pe_op op_pow pe_int pe_int) pe_int) pa_nil))))) (pe_op op_mod (pe_op op_fdivB (pe_call G_law_cell_at (hr.mono (by decide)) rfl E_law_cell_at.mg E_law_cell_at.fn.kp E_law_cell_at.bd .nil pass0 (pa_cons (pv 0) (pa_cons pe_int pa_nil))) pe_int) pe_int) (fun _ _ => rfl)))
      (pss_cons (ps_set (i := 6) sc_law_two.nd rfl (by first | exact Or.inl rfl | exact Or.inr rfl) (pe_lst (pa_cons (pe_comp0 (CompScope.of (sc0 := (defScope s_law_two)) (tn := ["_law_number"]) (cap := ["_law_scale"]) (idx := [5]) (by decide +kernel) rfl rfl) (pi_listK (K := K) rfl (pv 3)) (GSet.name (by decide)) (fun _ _ _ _ _ => pg_name (i := 0) (nodupB_iff (l := ["_law_number", "_law_scale"]) (by decide +kernel)) rfl (by first | exact Or.inl rfl | exact Or.inr rfl) (by first | exact .inl rfl | exact .inr rfl)) (fun _ _ _ _ _ => (pe_op op_mulB (pv 1) (pv 0)))) (pa_cons (pe_comp0 (CompScope.of (sc0 := (defScope s_law_two)) (tn := ["_law_number"]) (cap := ["_law_scale"]) (idx := [5]) (by decide +kernel) rfl rfl) (pi_listK (K := K) rfl (pv 4)) (GSet.name (by decide)) (fun _ _ _ _ _ => pg_name (i := 0) (nodupB_iff (l := ["_law_number", "_law_scale"]) (by decide +kernel)) rfl (by first | exact Or.inl rfl | exact Or.inr rfl) (by first | exact .inl rfl | exact .inr rfl)) (fun _ _ _ _ _ => (pe_op op_mulB (pv 1) (pv 0)))) pa_nil))))
      (pss_one (ps_ret (pe_ix (ix_listK (K := K) rfl) (pe_lst (pa_cons (pv 6) (pa_cons (pe_lst (pa_cons (pe_ix (ix_listK (K := K) rfl) (pv 6) pe_int (fun _ _ => rfl)) (pa_cons (pe_ix (ix_listK (K := K) rfl) (pv 6) pe_int (fun _ _ => rfl)) pa_nil))) pa_nil))) (pe_callTy call_int1 (by rfl) T.int_ boot_int (pa_cons (pe_cmpR op_eq (pv 1) pe_int (nomark _)) pa_nil)) (fun _ _ => rfl))))))))))), fn_valR (Γn := [4]) (N := N_law_two) (st_seq (st_if (tr_and (tr_test (EM.er (em_op o_bl (EM.er (em_cb c_len (ar_cons (ES.er (es_var 0)) ar_nil))) (EM.er em_int)))) (tr_test (EM.er (em_op o_eq (EM.er (em_op o_intC (ES.er (es_ixL (es_var 0) (EM.er em_int))) (EM.er em_int))) (EM.er em_int))))) (st_retR (er_call (S := S_law_digit_rows) mono_law_digit_rows (ar_cons (ES.er (es_var 0)) ar_nil))) st_next)
      (st_seq (ST.post (Γn := []) (st_setS 1 (EM.es (em_op o_intC (EM.er (em_call (S := S_law_cell_at) mono_law_cell_at (ar_cons (ES.er (es_var 0)) (ar_cons (EM.er em_int) ar_nil)))) (EM.er em_int)))))
      (st_seq (ST.post (Γn := []) (st_setS 2 (EM.es (em_op o_intC (EM.er (em_call (S := S_law_cell_at) mono_law_cell_at (ar_cons (ES.er (es_var 0)) (ar_cons (EM.er em_int) ar_nil)))) (EM.er em_int)))))
      (st_seq (ST.post (Γn := []) (st_setS 3 (EM.es (em_call (S := S_law_tops) mono_law_tops (ar_cons (ES.er (es_var 0)) ar_nil)))))
      (st_seq (st_if (tr_test (EM.er (em_op o_bl (ES.er (es_var 1)) (EM.er em_int)))) (ST.post (Γn := [4]) (st_setM (M := []) 4 (em_call (S := S_law_poorer) mono_law_poorer (ar_cons (ES.er (es_var 3)) (ar_cons (ES.er (es_var 0)) (ar_cons (ES.er (es_var 2)) ar_nil)))))) (st_if (tr_test (EM.er (em_op o_bl (ES.er (es_var 1)) (EM.er em_int)))) (st_seq (ST.post (Γn := [4]) (st_setM (M := []) 4 (em_comp0 (it_list (es_var 3)) (gt_name 0) (em_op o_intC (EM.er (em_op o_intC (ES.er (es_var 0)) (EM.er em_int))) (EM.er em_int)))))
      (st_setItem 4 (em_op o_int (EM.er (em_op o_int (er_ixL (er_var 4) (EM.er (em_op o_intC (ES.er (es_var 2)) (EM.er (em_cb c_len (ar_cons (ES.er (es_var 3)) ar_nil)))))) (EM.er (em_cb c_sum (ar_cons (ES.er (es_var 3)) ar_nil))))) (EM.er (em_cb c_sum (ar_cons (er_var 4) ar_nil)))) (EM.er (em_op o_intC (ES.er (es_var 2)) (EM.er (em_cb c_len (ar_cons (ES.er (es_var 3)) ar_nil))))))) (ST.post (Γn := [4]) (st_setM (M := []) 4 (em_listRev (ES.er (es_var 3)))))))
      (st_seq (ST.post (Γn := [4]) (st_setS 5 (es_ixL (EM.es (em_lst (am_cons0 em_int (am_cons0 em_int (am_cons0 (em_op o_int (EM.er (em_op o_intC (EM.er em_int) (EM.er em_int))) (EM.er em_int)) (am_cons0 (em_op o_int (EM.er (em_op o_intC (EM.er em_int) (EM.er em_int))) (EM.er em_int)) am_nil)))))) (EM.er (em_op o_intC (EM.er (em_op o_intC (EM.er (em_call (S := S_law_cell_at) mono_law_cell_at (ar_cons (ES.er (es_var 0)) (ar_cons (EM.er em_int) ar_nil)))) (EM.er em_int))) (EM.er em_int))))))
      (st_seq (ST.post (Γn := [4]) (st_setS 6 (EM.es (em_lst (am_cons0 (em_comp0 (it_list (es_var 3)) (gt_name 0) (em_op o_intC (ES.er (es_var 1)) (ES.er (es_var 0)))) (am_cons0 (em_comp0 (it_list (es_var 4)) (gt_name 0) (em_op o_intC (ES.er (es_var 1)) (ES.er (es_var 0)))) am_nil))))))
      (st_retR (er_ixL (er_lst (ar_cons (ES.er (es_var 6)) (ar_cons (er_lst (ar_cons (ES.er (es_ixL (es_var 6) (EM.er em_int))) (ar_cons (ES.er (es_ixL (es_var 6) (EM.er em_int))) ar_nil))) ar_nil))) (EM.er (em_cb c_int (ar_cons (EM.er (em_op o_eq (ES.er (es_var 1)) (EM.er em_int))) ar_nil)))))))))))) (fun ds P hS => ?_) h⟩
  obtain ⟨ns, rfl, hz, hP⟩ := hS
  rw [show startD N_law_two [.scr ns] = [some (.scr ns), none, none, none, none, none, none] from rfl]
  refine peel fun R e => ?_
  have rest : R (endsD P) [some (.scr ns), none, none, none, none, none, none] := by
    subst e
    refine peel fun R1 e1 => ?_
    walk_at "go"
    refine cell_at (by omega) ?_
    walk_at "go"
    subst e1
    refine peel fun R2 e2 => ?_
    walk_at "go"
    refine cell_at (by omega) ?_
    walk_at "go"
    subst e2
    refine peel fun R3 e3 => ?_
    walk_at "go"
    refine ⟨ns, rfl, hz, fun xs x1 x8 xb => ?_⟩
    subst e3
    generalize hk : ns.getD 1 0 % 8 = kd
    generalize ht : ns.getD 1 0 / 8 = tn
    refine peel fun R4 e4 => ?_
    have k4 : ∀ ys : List Int, ys.length = xs.length → ys.sum = xs.sum → (∀ y ∈ ys, y.natAbs ≤ 1000000) → R4 (endsD P) [some (.scr ns), some (.int kd), some (.int tn), some (dI xs), some (dI ys), none, none] := by
      subst e4
      intro ys hl hs yb
      have xb' : ∀ x ∈ xs, x.natAbs ≤ 1000000 := fun x hx => by have := xb x hx; omega
      walk_at "go"
      refine cell_at (by omega) ?_
      walk_at "go"
      refine at_4 (emod_lt (by decide)) fun q hq => ?_
      have q1 : q.natAbs ≤ 1000000000000000009 := by omega
      clear hq
      refine comp_ints (ns := xs) (g := fun x => .int (q * x)) (fun R h => h) (by omega) (fun x hx R h => ?_) ?_
      · walk_at "gb"
        have := xb' x hx
        exact ⟨⟨100, 100, by omega, by omega, by decide⟩, h⟩
      refine comp_ints (ns := ys) (g := fun x => .int (q * x)) (fun R h => h) (by omega) (fun x hx R h => ?_) ?_
      · walk_at "gb"
        have := yb x hx
        exact ⟨⟨100, 100, by omega, by omega, by decide⟩, h⟩
      rw [show xs.map (fun x => L3.D.int (q * x)) = (xs.map fun x => q * x).map L3.D.int from map_int, show ys.map (fun x => L3.D.int (q * x)) = (ys.map fun x => q * x).map L3.D.int from map_int]
      refine ⟨by decide, by decide, by decide, ?_⟩
      split
      · exact hP _ _ (by rw [List.length_map]; omega) (by rw [List.length_map]; omega) (by rw [List.length_map, List.length_map]; omega) (by rw [sum_scale, sum_scale, hs]) (bk_scale q1 yb) (bk_scale q1 xb')
      · exact hP _ _ (by rw [List.length_map]; omega) (by rw [List.length_map]; omega) (by rw [List.length_map, List.length_map]; omega) (by rw [sum_scale, sum_scale, hs]) (bk_scale q1 xb') (bk_scale q1 yb)
    walk_at "v"
    split
    · exact ⟨xs, ns, _, rfl, hz, x1, x8, xb, fun ys hl hs hy => k4 ys hl hs fun y h => by have := hy y h; omega⟩
    split
    · refine comp_ints (ns := xs) (g := fun x => .int (x * 69621 % 1009)) (fun R h => h) (by omega) (fun x hx R h => ?_) ?_
      · walk_at "gb"
        have := xb x hx
        first | exact h | exact ⟨⟨100, 100, by omega, by decide, by decide⟩, h⟩
      · rw [map_int]
        walk_at "go"
        have a1 := emod_lt (x := tn) (n := (xs.length : Int)) (by omega)
        generalize he : xs.map (fun x => x * 69621 % 1009) = ys
        have hl : ys.length = xs.length := by rw [← he, List.length_map]
        have hy : ∀ y ∈ ys, y.natAbs ≤ 1009 := fun y h => by
          rw [← he] at h
          obtain ⟨v, _, rfl⟩ := List.mem_map.mp h
          have := emod_lt (x := v * 69621) (n := 1009) (by decide)
          omega
        obtain ⟨g, hg⟩ : ∃ g, tn % (xs.length : Int) = g := ⟨_, rfl⟩
        rw [hg] at a1
        refine setItem_ints (r := ys) (a := g) (v := ys.getD g.toNat 0 + xs.sum - ys.sum) rfl (fun R h' => ?_) (fun R h' => ?_) (by omega) ?_
        · walk_at "go"
          rw [hg]
          refine asO_ints (by omega) ?_
          walk_at "v"
          exact h'
        · walk_at "go"
          rw [hg]
          exact h'
        walk_at "go"
        have s1 := sum_bd xb
        have s2 := sum_bd hy
        have gy := bd_getD (i := g.toNat) hy
        have m1 : xs.length * 40000 ≤ 8 * 40000 := Nat.mul_le_mul_right _ x8
        have m2 : ys.length * 1009 ≤ 8 * 1009 := Nat.mul_le_mul_right _ (by omega)
        refine k4 _ (by rw [List.length_set]; exact hl) ?_ fun y h => ?_
        · rw [Maj.sum_set (by omega)]; omega
        · rcases List.mem_or_eq_of_mem_set h with z | z
          · have := hy y z; omega
          · rw [z]; omega
    · refine ⟨scal_ints, ?_⟩
      rw [← List.map_reverse]
      exact k4 xs.reverse List.length_reverse (List.sum_reverse _) fun y h => by have := xb y (List.mem_reverse.mp h); omega
  walk_at "go"
  split
  · refine asO_ints (by omega) ?_
    walk_at "go"
    split
    · exact ⟨ns, rfl, by omega, hz, fun xs ys a b d f g i => hP xs ys a b d f (bk_of g) (bk_of i)⟩
    · exact rest
  · exact rest
def S_law_bar : DSp := fun ds P => ∃ one other, ds = [dI one, dI other] ∧ one.length < 64 ∧ one.length = other.length ∧ P (barD one other)
theorem above_first {one other : List Int} {i : Nat} (hi : i < one.length) (h1 : ∀ p, p < i → ¬ Maj.topk other (p + 1) < Maj.topk one (p + 1)) (h2 : Maj.topk other (i + 1) < Maj.topk one (i + 1)) : barD one other = .int ((i : Int) + 1) := by
  unfold barD Maj.above
  have e : List.range one.length = List.range i ++ (i :: (List.range (one.length - (i + 1))).map (fun k => i + 1 + k)) := by
    have : one.length = i + (1 + (one.length - (i + 1))) := by omega
    rw [this, List.range_add, List.range_add]
    simp only [List.range_one, List.map_append, List.map_cons, List.map_nil, List.map_map, List.singleton_append, Nat.add_zero]
    congr 2
    have e2 : i + (1 + (one.length - (i + 1))) - (i + 1) = one.length - (i + 1) := by omega
    rw [e2]
    refine List.map_congr_left fun k _ => ?_
    simp; omega
  rw [e, List.filter_append, List.filter_eq_nil_iff.mpr (fun p hp => by
    have := h1 p (List.mem_range.mp hp)
    simpa using this), List.nil_append, List.filter_cons_of_pos (by simpa using h2)]
theorem above_none {one other : List Int} (h1 : ∀ p, p < one.length → ¬ Maj.topk other (p + 1) < Maj.topk one (p + 1)) : barD one other = .non := by
  unfold barD Maj.above
  rw [List.filter_eq_nil_iff.mpr (fun p hp => by
    have := h1 p (List.mem_range.mp hp)
    simpa using this)]
theorem mono_law_bar : DMono S_law_bar := by
  intro xs P P' k h
  unfold S_law_bar at h ⊢
  grind
theorem len_law_bar : ∀ ds P, S_law_bar ds P → ds.length = 2 := by
  intro ds P h
  obtain ⟨_, _, e, _⟩ := h
  rw [e]; rfl
theorem ok_law_bar {f : Addr} {fd : FuncData} (F : FnAt K mg "_law_bar" s_law_bar P_law_bar f fd) (A_ : Fns K mg) (T : Txt K mg base) {c : Cs} (xs : Exs K mg base c) : FnOk P w K mg base CX0 1 f fd P_law_bar (spP K S_law_bar) := by
  refine F.fn.ok sc_law_bar (fun vs H Q E h => spP_len len_law_bar h) (fun cdv A outer s H vs Q E hr h => ?_)
  refine ⟨_, (pss_cons (ps_set (i := 2) sc_law_bar.nd rfl (by first | exact Or.inl rfl | exact Or.inr rfl) (pe_callBK (call_sortedRevK (K := K) rfl) (by rfl) T.sorted_ boot_sorted (pa_cons (pv 0) pa_nil) (pk_cons pe_bl pk_nil)))
      (pss_cons (ps_set (i := 3) sc_law_bar.nd rfl (by first | exact Or.inl rfl | exact Or.inr rfl) (pe_callBK (call_sortedRevK (K := K) rfl) (by rfl) T.sorted_ boot_sorted (pa_cons (pv 1) pa_nil) (pk_cons pe_bl pk_nil)))
      (pss_cons (ps_for PassesOwn.never rfl (pi_range1 rfl T.range_ (pa_cons (pe_callB (call_lenK (K := K) rfl) (by rfl) T.len_ PySem.boot_len (pa_cons (pv 0) pa_nil)) pa_nil)) (pg_name (i := 4) sc_law_bar.nd rfl (by first | exact Or.inl rfl | exact Or.inr rfl)) (pss_one (ps_if (pt_cmpR op_gt (pe_callB (call_sumK (K := K) rfl rfl) (by rfl) T.sum_ boot_sum (pa_cons (pe_slice (sl_listK (K := K) rfl) (pv 2) po_none (po_some (pe_op op_add (pv 4) pe_int))) pa_nil)) (pe_callB (call_sumK (K := K) rfl rfl) (by rfl) T.sum_ boot_sum (pa_cons (pe_slice (sl_listK (K := K) rfl) (pv 3) po_none (po_some (pe_op op_add (pv 4) pe_int))) pa_nil)) (nomark _)) (pss_one (ps_ret (pe_op op_add (pv 4) pe_int))) pss_nil)))
      (pss_one (ps_ret pe_non))))), fn_val (Γn := []) (N := N_law_bar) (st_seq (ST.post (Γn := []) (st_setS 2 (EM.es (em_sortedRev (ar_cons (ES.er (es_var 0)) ar_nil)))))
      (st_seq (ST.post (Γn := []) (st_setS 3 (EM.es (em_sortedRev (ar_cons (ES.er (es_var 1)) ar_nil)))))
      (st_seq (st_for (it_rng1 (ar_cons (EM.er (em_cb c_len (ar_cons (ES.er (es_var 0)) ar_nil))) ar_nil)) (gt_name 4) (st_if (tr_test (EM.er (em_op o_bl (EM.er (em_cb c_sum (ar_cons (EM.er (em_sl (ES.er (es_var 2)) or_none (or_some (EM.er (em_op o_int (ES.er (es_var 4)) (EM.er em_int)))))) ar_nil))) (EM.er (em_cb c_sum (ar_cons (EM.er (em_sl (ES.er (es_var 3)) or_none (or_some (EM.er (em_op o_int (ES.er (es_var 4)) (EM.er em_int)))))) ar_nil)))))) (st_ret (M := []) (em_op o_int (ES.er (es_var 4)) (EM.er em_int))) st_next))
      (st_ret (M := []) em_non)))) (fun ds P hS => ?_) h⟩
  obtain ⟨one, other, rfl, hl, he, hP⟩ := hS
  rw [show startD N_law_bar [dI one, dI other] = [some (dI one), some (dI other), none, none, none] from rfl]
  walk_at "v"
  refine ⟨hl, fun ms hp ho => ?_⟩
  rw [fall_eq hp ho]
  walk_at "v"
  refine ⟨by omega, fun ms' hp' ho' => ?_⟩
  rw [fall_eq hp' ho']
  walk_at "go"
  refine loop_rng (fun i δ => ∃ o4 : Option D, δ = [some (dI one), some (dI other), some (dI (fall one)), some (dI (fall other)), o4] ∧ ∀ p, p < i → ¬ Maj.topk other (p + 1) < Maj.topk one (p + 1)) ⟨none, rfl, fun p hp => absurd hp (by omega)⟩ ?_ ?_
  · rintro i δ N hi ⟨o4, rfl, hb⟩ hN
    walk_at "go"
    rw [cutD_to (by omega), cutD_to (by omega), ← List.map_take, ← List.map_take]
    walk_at "v"
    have e : (0 + (i : Int) + 1).toNat = i + 1 := by omega
    rw [e]
    split
    · rename_i c
      rw [above_first hi hb c] at hP
      rw [Int.zero_add]
      exact ⟨scal_ints, hP⟩
    · rename_i c
      refine ⟨scal_ints, hN _ ⟨_, rfl, fun p hp => ?_⟩⟩
      by_cases q : p = i
      · subst q; exact c
      · exact hb p (by omega)
  · rintro δ ⟨o4, rfl, hb⟩
    walk_at "v"
    rw [above_none hb] at hP
    exact hP
def S_law_even : DSp := fun ds P => ∃ (t : List (List Int)) (n : Nat) (b : Int) (z x : Nat → Int), ds = [dT t, .int n] ∧ Rect n n t ∧ 1 ≤ n ∧ n ≤ 8 ∧ LeadF n (cellAt t) b z x ∧ 1 ≤ b ∧ P (.bl true)
theorem LeadF.row {n i : Nat} {t : List (List Int)} {b : Int} {z x : Nat → Int} (h : LeadF n (cellAt t) b z x) (hR : Rect n n t) (hi : i < n) : (rowAt t i).sum = b := (row_sum (hR.row hi)).trans (h.rs i hi)
theorem col_sum {n j : Nat} {t : List (List Int)} (hR : Rect n n t) : (colOf t j).sum = Sg n (fun i => cellAt t i j) := by
  rw [row_sum (r := colOf t j) (n := n) (by rw [len_colOf]; exact hR.1)]
  refine Sg_congr fun i hi => ?_
  unfold colOf cellAt
  rw [List.getD_eq_getElem?_getD, List.getElem?_map, List.getElem?_eq_getElem (by rw [hR.1]; exact hi), List.getD_eq_getElem?_getD (l := t), List.getElem?_eq_getElem (by rw [hR.1]; exact hi)]; rfl
theorem LeadF.mem {n : Nat} {t : List (List Int)} {b : Int} {z x : Nat → Int} (h : LeadF n (cellAt t) b z x) (hR : Rect n n t) : ∀ r ∈ t, ∀ v ∈ r, 0 ≤ v := fun r hr v hv => by
  obtain ⟨i, hi, rfl⟩ := List.mem_iff_getElem.mp hr
  obtain ⟨j, hj, rfl⟩ := List.mem_iff_getElem.mp hv
  have := h.nn i j (by rw [hR.1] at hi; exact hi) (by rw [hR.2 _ hr] at hj; exact hj)
  unfold cellAt at this
  rw [List.getD_eq_getElem?_getD (l := t), List.getElem?_eq_getElem hi, Option.getD_some, List.getD_eq_getElem?_getD, List.getElem?_eq_getElem hj] at this
  exact this
theorem mono_law_even : DMono S_law_even := by
  intro xs P P' k h
  obtain ⟨t, n, b, z, x, e, h1, h2, h3, h4, h5, h⟩ := h
  exact ⟨t, n, b, z, x, e, h1, h2, h3, h4, h5, k _ h⟩
theorem len_law_even : ∀ ds P, S_law_even ds P → ds.length = 2 := by
  intro ds P h
  obtain ⟨_, _, _, _, _, e, _⟩ := h
  rw [e]; rfl
theorem ok_law_even {f : Addr} {fd : FuncData} (F : FnAt K mg "_law_even" s_law_even P_law_even f fd) (A_ : Fns K mg) (T : Txt K mg base) {c : Cs} (xs : Exs K mg base c) : FnOk P w K mg base CX0 2 f fd P_law_even (spP K S_law_even) := by
  obtain ⟨f0, d0, E_law_whole⟩ := A_.h_law_whole
  have G_law_whole : FnOk P w K mg base CX0 1 f0 d0 P_law_whole (spP K S_law_whole) := ok_law_whole E_law_whole A_ T xs
  refine F.fn.ok sc_law_even (fun vs H Q E h => spP_len len_law_even h) (fun cdv A outer s H vs Q E hr h => ?_)
  refine ⟨_, (pss_cons (ps_if (PW.pt (pw_or (pt_not (pt_val (pe_callB (call_isinstK (K := K) rfl) (by rfl) T.isinstance_ boot_isinstance (pa_cons (pv 0) (pa_cons (pe_bltn (v := .ty "list") rfl T.list_ boot_list rfl) pa_nil))))) (pw_or1 (pt_cmpR op_ne (pe_callB (call_lenK (K := K) rfl) (by rfl) T.len_ PySem.boot_len (pa_cons (pv 0) pa_nil)) (pv 1) (nomark _))))) (pss_one (ps_ret pe_bl)) pss_nil)
      (pss_cons (ps_for PassesOwn.never rfl (pi_listK (K := K) rfl (pv 0)) (pg_name (i := 2) sc_law_even.nd rfl (by first | exact Or.inl rfl | exact Or.inr rfl)) (pss_cons (ps_if (PW.pt (pw_or (pt_not (pt_val (pe_callB (call_isinstK (K := K) rfl) (by rfl) T.isinstance_ boot_isinstance (pa_cons (pv 2) (pa_cons (pe_bltn (v := .ty "list") rfl T.list_ boot_list rfl) pa_nil))))) (pw_or1 (pt_cmpR op_ne (pe_callB (call_lenK (K := K) rfl) (by rfl) T.len_ PySem.boot_len (pa_cons (pv 2) pa_nil)) (pv 1) (nomark _))))) (pss_one (ps_ret pe_bl)) pss_nil)
      (pss_one (ps_for PassesOwn.never rfl (pi_listK (K := K) rfl (pv 2)) (pg_name (i := 3) sc_law_even.nd rfl (by first | exact Or.inl rfl | exact Or.inr rfl)) (pss_one (ps_if (PW.pt (pw_or (pt_not (pt_val (pe_call G_law_whole (hr.mono (by decide)) rfl E_law_whole.mg E_law_whole.fn.kp E_law_whole.bd .nil pass0 (pa_cons (pv 3) pa_nil)))) (pw_or1 (pt_cmpR op_lt (pv 3) pe_int (nomark _))))) (pss_one (ps_ret pe_bl)) pss_nil))))))
      (pss_cons (ps_set (i := 4) sc_law_even.nd rfl (by first | exact Or.inl rfl | exact Or.inr rfl) (pe_callB (call_sumK (K := K) rfl rfl) (by rfl) T.sum_ boot_sum (pa_cons (pe_ix (ix_listK (K := K) rfl) (pv 0) pe_int (fun _ _ => rfl)) pa_nil)))
      (pss_cons (ps_for PassesOwn.never rfl (pi_range1 rfl T.range_ (pa_cons (pv 1) pa_nil)) (pg_name (i := 5) sc_law_even.nd rfl (by first | exact Or.inl rfl | exact Or.inr rfl)) (pss_one (ps_if (PW.pt (pw_or (pt_cmpR op_ne (pe_callB (call_sumK (K := K) rfl rfl) (by rfl) T.sum_ boot_sum (pa_cons (pe_ix (ix_listK (K := K) rfl) (pv 0) (pv 5) (fun _ _ => rfl)) pa_nil)) (pv 4) (nomark _)) (pw_or1 (pt_cmpR op_ne (pe_callB (call_sumK (K := K) rfl rfl) (by rfl) T.sum_ boot_sum (pa_cons (pe_comp0 (CompScope.of (sc0 := (defScope s_law_even)) (tn := ["_law_line"]) (cap := ["_law_k"]) (idx := [5]) (by decide +kernel) rfl rfl) (pi_listK (K := K) rfl (pv 0)) (GSet.name (by decide)) (fun _ _ _ _ _ => pg_name (i := 0) (nodupB_iff (l := ["_law_line", "_law_k"]) (by decide +kernel)) rfl (by first | exact Or.inl rfl | exact Or.inr rfl) (by first | exact .inl rfl | exact .inr rfl)) (fun _ _ _ _ _ => (pe_ix (ix_listK (K := K) rfl) (pv 0) (pv 1) (fun _ _ => rfl)))) pa_nil)) (pv 4) (nomark _))))) (pss_one (ps_ret pe_bl)) pss_nil)))
      (pss_one (ps_ret (pe_cmpR op_gt (pv 4) pe_int (nomark _)))))))), fn_val (Γn := []) (N := N_law_even) (st_seq (st_if (tr_or (tr_not (tr_b (EM.er (em_isinst kit_list (ES.er (es_var 0)))))) (tr_test (EM.er (em_op o_ne (EM.er (em_cb c_len (ar_cons (ES.er (es_var 0)) ar_nil))) (ES.er (es_var 1)))))) (st_ret (M := []) em_bl) st_next)
      (st_seq (st_for (it_list (es_var 0)) (gt_name 2) (st_seq (st_if (tr_or (tr_not (tr_b (EM.er (em_isinst kit_list (ES.er (es_var 2)))))) (tr_test (EM.er (em_op o_ne (EM.er (em_cb c_len (ar_cons (ES.er (es_var 2)) ar_nil))) (ES.er (es_var 1)))))) (st_ret (M := []) em_bl) st_next)
      (st_for (it_list (es_var 2)) (gt_name 3) (st_if (tr_or (tr_not (tr_b (EM.er (em_call (S := S_law_whole) mono_law_whole (ar_cons (ES.er (es_var 3)) ar_nil))))) (tr_test (EM.er (em_op o_bl (ES.er (es_var 3)) (EM.er em_int))))) (st_ret (M := []) em_bl) st_next))))
      (st_seq (ST.post (Γn := []) (st_setS 4 (EM.es (em_cb c_sum (ar_cons (ES.er (es_ixL (es_var 0) (EM.er em_int))) ar_nil)))))
      (st_seq (st_for (it_rng1 (ar_cons (ES.er (es_var 1)) ar_nil)) (gt_name 5) (st_if (tr_or (tr_test (EM.er (em_op o_ne (EM.er (em_cb c_sum (ar_cons (ES.er (es_ixL (es_var 0) (ES.er (es_var 5)))) ar_nil))) (ES.er (es_var 4))))) (tr_test (EM.er (em_op o_ne (EM.er (em_cb c_sum (ar_cons (EM.er (em_comp0 (it_list (es_var 0)) (gt_name 0) (ER.scal (ES.er (es_ixL (es_var 0) (ES.er (es_var 1))))))) ar_nil))) (ES.er (es_var 4)))))) (st_ret (M := []) em_bl) st_next))
      (st_ret (M := []) (em_op o_bl (ES.er (es_var 4)) (EM.er em_int))))))) (fun ds P hS => ?_) h⟩
  obtain ⟨t, n, b, z, x, rfl, hR, n1, n8, hL, b1, hP⟩ := hS
  rw [show startD N_law_even [dT t, .int n] = [some (dT t), some (.int n), none, none, none, none] from rfl]
  have ht := hR.1
  walk_at "go"
  rw [if_neg (by omega)]
  refine loop_any (as := t) (f := dI) (fun i δ => ∃ (o2 o3 : Option D), δ = [some (dT t), some (.int n), o2, o3, none, none]) ⟨none, none, rfl⟩ ?_ ?_
  · rintro i r δ N e ⟨o2, o3, rfl⟩ hN
    have hr := List.mem_of_getElem? e
    have lr := hR.2 r hr
    have nr := hL.mem hR r hr
    walk_at "go"
    rw [if_neg (by omega)]
    refine loop_any (as := r) (f := L3.D.int) (fun i δ => ∃ (o3 : Option D), δ = [some (dT t), some (.int n), some (dI r), o3, none, none]) ⟨_, rfl⟩ ?_ ?_
    · rintro j v δ N' e' ⟨o3, rfl⟩ hN'
      have v0 := nr v (List.mem_of_getElem? e')
      walk_at "go"
      refine ⟨v, rfl, ?_⟩
      walk_at "go"
      rw [if_neg (by omega)]
      exact hN' _ ⟨_, rfl⟩
    · rintro δ ⟨o3, rfl⟩
      exact hN _ ⟨_, _, rfl⟩
  · rintro δ ⟨o2, o3, rfl⟩
    walk_at "go"
    refine asO_rows (by omega) ?_
    walk_at "go"
    rw [show (rowAt t 0).sum = b from hL.row hR (by omega)]
    refine loop_rng (lo := 0) (n := n) (fun i δ => ∃ (o5 : Option D), δ = [some (dT t), some (.int n), o2, o3, some (.int b), o5]) ⟨_, rfl⟩ ?_ ?_
    · rintro i δ N hi ⟨o5, rfl⟩ hN
      walk_at "go"
      refine asO_rows (by omega) ?_
      walk_at "go"
      rw [show (rowAt t (0 + (i : Int)).toNat).sum = b from hL.row hR (by omega)]
      rw [if_neg (fun z => z rfl)]
      refine comp_rows (t := t) (g := fun r => .int (r.getD i 0)) (fun R h => h) (by omega) (fun r hr R h => ?_) ?_
      · walk_at "gb"
        have := hR.2 r hr
        refine asO_ints (by omega) ?_
        rw [show (0 + (i : Int)).toNat = i by omega]
        exact ⟨rfl, h⟩
      · rw [map_int]
        walk_at "go"
        rw [show (t.map fun r => r.getD i 0).sum = b from (col_sum hR).trans (hL.cs i hi)]
        rw [if_neg (fun z => z rfl)]
        exact hN _ ⟨_, rfl⟩
    · rintro δ ⟨o5, rfl⟩
      walk_at "go"
      rw [decide_eq_true (by omega)]
      exact hP
theorem zip_tab {t : List (List Int)} {one : List Int} (h : t.length = one.length) : (((t.map dI).zip (one.map L3.D.int)).map fun p => L3.D.tup [p.1, p.2]) = (List.range t.length).map fun i => L3.D.tup [dI (rowAt t i), .int (one.getD i 0)] := by
  refine List.ext_getElem (by simp [h]) fun i h1 h2 => ?_
  have q1 : i < t.length := by simpa using h2
  have q2 : i < one.length := by omega
  rw [List.getElem_map, List.getElem_zip, List.getElem_map, List.getElem_map, List.getElem_map, List.getElem_range]
  show L3.D.tup [dI t[i], .int one[i]] = L3.D.tup [dI (t.getD i []), .int (one.getD i 0)]
  rw [List.getD_eq_getElem?_getD, List.getD_eq_getElem?_getD, List.getElem?_eq_getElem q1, List.getElem?_eq_getElem q2]; rfl
theorem zip_two {xs one : List Int} (h : xs.length = one.length) : (((xs.map L3.D.int).zip (one.map L3.D.int)).map fun p => L3.D.tup [p.1, p.2]) = (List.range xs.length).map fun i => L3.D.tup [.int (xs.getD i 0), .int (one.getD i 0)] := by
  refine List.ext_getElem (by simp [h]) fun i h1 h2 => ?_
  have q1 : i < xs.length := by simpa using h2
  have q2 : i < one.length := by omega
  rw [List.getElem_map, List.getElem_zip, List.getElem_map, List.getElem_map, List.getElem_map, List.getElem_range]
  show L3.D.tup [.int xs[i], .int one[i]] = L3.D.tup [.int (xs.getD i 0), .int (one.getD i 0)]
  rw [List.getD_eq_getElem?_getD, List.getD_eq_getElem?_getD, List.getElem?_eq_getElem q1, List.getElem?_eq_getElem q2]; rfl
def S_law_leads : DSp := fun ds P => ∃ (t : List (List Int)) (other one : List Int) (b : Int), ds = [dT t, dI other, dI one] ∧ Rect one.length one.length t ∧ other.length = one.length ∧ 1 ≤ one.length ∧ one.length ≤ 8 ∧ LeadF one.length (cellAt t) b (atF other) (atF one) ∧ 1 ≤ b ∧ BkT 1500 t ∧ Bk 98 other ∧ Bk 98 one ∧ P (.bl true)
theorem mono_law_leads : DMono S_law_leads := by
  intro xs P P' k h
  obtain ⟨t, o, one, b, e, h1, h2, h3, h4, h5, h6, h7, h8, h9, h⟩ := h
  exact ⟨t, o, one, b, e, h1, h2, h3, h4, h5, h6, h7, h8, h9, k _ h⟩
theorem len_law_leads : ∀ ds P, S_law_leads ds P → ds.length = 3 := by
  intro ds P h
  obtain ⟨_, _, _, _, e, _⟩ := h
  rw [e]; rfl
theorem ok_law_leads {f : Addr} {fd : FuncData} (F : FnAt K mg "_law_leads" s_law_leads P_law_leads f fd) (A_ : Fns K mg) (T : Txt K mg base) {c : Cs} (xs : Exs K mg base c) : FnOk P w K mg base CX0 3 f fd P_law_leads (spP K S_law_leads) := by
  obtain ⟨f0, d0, E_law_even⟩ := A_.h_law_even
  have G_law_even : FnOk P w K mg base CX0 2 f0 d0 P_law_even (spP K S_law_even) := ok_law_even E_law_even A_ T xs
  refine F.fn.ok sc_law_leads (fun vs H Q E h => spP_len len_law_leads h) (fun cdv A outer s H vs Q E hr h => ?_)
  refine ⟨_, (pss_cons (ps_if (pt_not (pt_val (pe_call G_law_even (hr.mono (by decide)) rfl E_law_even.mg E_law_even.fn.kp E_law_even.bd .nil pass0 (pa_cons (pv 0) (pa_cons (pe_callB (call_lenK (K := K) rfl) (by rfl) T.len_ PySem.boot_len (pa_cons (pv 2) pa_nil)) pa_nil))))) (pss_one (ps_ret pe_bl)) pss_nil)
      (pss_cons (ps_for PassesOwn.never rfl (pi_zipK (K := K) rfl rfl T.zip_ (pa_cons (pv 0) (pa_cons (pv 2) pa_nil))) (pg_tupK (K := K) rfl rfl (pgs_cons (pg_name (i := 3) sc_law_leads.nd rfl (by first | exact Or.inl rfl | exact Or.inr rfl)) (pgs_cons (pg_name (i := 4) sc_law_leads.nd rfl (by first | exact Or.inl rfl | exact Or.inr rfl)) pgs_nil))) (pss_cons (ps_set (i := 5) sc_law_leads.nd rfl (by first | exact Or.inl rfl | exact Or.inr rfl) pe_int)
      (pss_cons (ps_for PassesOwn.never rfl (pi_zipK (K := K) rfl rfl T.zip_ (pa_cons (pv 3) (pa_cons (pv 1) pa_nil))) (pg_tupK (K := K) rfl rfl (pgs_cons (pg_name (i := 6) sc_law_leads.nd rfl (by first | exact Or.inl rfl | exact Or.inr rfl)) (pgs_cons (pg_name (i := 7) sc_law_leads.nd rfl (by first | exact Or.inl rfl | exact Or.inr rfl)) pgs_nil))) (pss_one (ps_set (i := 5) sc_law_leads.nd rfl (by first | exact Or.inl rfl | exact Or.inr rfl) (pe_op op_add (pv 5) (pe_op op_mulB (pv 6) (pv 7))))))
      (pss_one (ps_if (pt_cmpR op_ne (pv 5) (pe_op op_mulB (pv 4) (pe_callB (call_sumK (K := K) rfl rfl) (by rfl) T.sum_ boot_sum (pa_cons (pv 3) pa_nil))) (nomark _)) (pss_one (ps_ret pe_bl)) pss_nil)))))
      (pss_one (ps_ret pe_bl)))), fn_val (Γn := []) (N := N_law_leads) (st_seq (st_if (tr_not (tr_b (EM.er (em_call (S := S_law_even) mono_law_even (ar_cons (ES.er (es_var 0)) (ar_cons (EM.er (em_cb c_len (ar_cons (ES.er (es_var 2)) ar_nil))) ar_nil)))))) (st_ret (M := []) em_bl) st_next)
      (st_seq (st_for (it_zip (es_var 0) (es_var 2)) (gt_tup (gts_cons (gt_name 3) (gts_cons (gt_name 4) gts_nil))) (st_seq (ST.post (Γn := []) (st_setS 5 (EM.es em_int)))
      (st_seq (st_for (it_zip (es_var 3) (es_var 1)) (gt_tup (gts_cons (gt_name 6) (gts_cons (gt_name 7) gts_nil))) (ST.post (Γn := []) (st_setS 5 (EM.es (em_op o_int (ES.er (es_var 5)) (EM.er (em_op o_intC (ES.er (es_var 6)) (ES.er (es_var 7)))))))))
      (st_if (tr_test (EM.er (em_op o_ne (ES.er (es_var 5)) (EM.er (em_op o_intC (ES.er (es_var 4)) (EM.er (em_cb c_sum (ar_cons (ES.er (es_var 3)) ar_nil)))))))) (st_ret (M := []) em_bl) st_next))))
      (st_ret (M := []) em_bl))) (fun ds P hS => ?_) h⟩
  obtain ⟨t, other, one, b, rfl, hR, lo, n1, n8, hL, b1, bt, bo, b2, hP⟩ := hS
  rw [show startD N_law_leads [dT t, dI other, dI one] = [some (dT t), some (dI other), some (dI one), none, none, none, none, none] from rfl]
  have ht := hR.1
  have bb : b.natAbs < 2 ^ 1504 := by
    have := hL.bot n1 n8 bt
    have e : ((b.natAbs : Nat) : Int) < 2 ^ 1504 := by rw [Int.natAbs_of_nonneg (by omega)]; exact this
    exact_mod_cast e
  walk_at "go"
  refine ⟨t, one.length, b, _, _, rfl, hR, n1, n8, hL, b1, ?_⟩
  walk_at "go"
  refine ⟨by rw [List.length_map, List.length_map]; exact ht, ?_⟩
  rw [zip_tab ht]
  refine loop_any (as := List.range t.length) (f := fun i => L3.D.tup [dI (rowAt t i), .int (one.getD i 0)]) (fun i δ => ∃ (o3 o4 o5 o6 o7 : Option D), δ = [some (dT t), some (dI other), some (dI one), o3, o4, o5, o6, o7]) ⟨none, none, none, none, none, rfl⟩ ?_ ?_
  · rintro i i' δ N e ⟨o3, o4, o5, o6, o7, rfl⟩ hN
    obtain ⟨q1, q2⟩ := List.getElem?_eq_some_iff.mp e
    rw [List.getElem_range] at q2
    subst q2
    have hi : i < one.length := by rw [List.length_range] at q1; omega
    have lr := hR.row hi
    walk_at "go"
    refine ⟨by rw [List.length_map, List.length_map]; omega, ?_⟩
    rw [zip_two (xs := rowAt t i) (one := other) (by omega)]
    refine loop_any (as := List.range (rowAt t i).length) (f := fun j => L3.D.tup [.int ((rowAt t i).getD j 0), .int (other.getD j 0)]) (fun j δ => ∃ (o6 o7 : Option D), δ = [some (dT t), some (dI other), some (dI one), some (dI (rowAt t i)), some (.int (one.getD i 0)), some (.int (Sg j fun j => cellAt t i j * atF other j)), o6, o7]) ⟨_, _, rfl⟩ ?_ ?_
    · rintro j j' δ N' e' ⟨o6, o7, rfl⟩ hN'
      obtain ⟨p1, p2⟩ := List.getElem?_eq_some_iff.mp e'
      rw [List.getElem_range] at p2
      subst p2
      walk_at "go"
      exact ⟨⟨1500, 98, bt i j, bo j, by decide⟩, hN' _ ⟨_, _, by rw [Sg_succ]; rfl⟩⟩
    · rintro δ ⟨o6, o7, rfl⟩
      rw [List.length_range, lr]
      walk_at "go"
      rw [show (rowAt t i).sum = b from hL.row hR hi, hL.dt i hi]
      refine ⟨⟨98, 1504, b2 i, bb, by decide⟩, ?_⟩
      rw [if_neg (fun z => z rfl)]
      exact hN _ ⟨_, _, _, _, _, rfl⟩
  · rintro δ ⟨o3, o4, o5, o6, o7, rfl⟩
    walk_at "go"
    exact hP
def S_law_asked : DSp := fun ds P => ∃ one other, ds = [dI one, dI other] ∧ 1 ≤ one.length ∧ one.length ≤ 8 ∧ Alike one other ∧ Bk 98 one ∧ Bk 98 other ∧ P (.bl true)
theorem mono_law_asked : DMono S_law_asked := by
  intro xs P P' k h
  unfold S_law_asked at h ⊢
  grind
theorem len_law_asked : ∀ ds P, S_law_asked ds P → ds.length = 2 := by
  intro ds P h
  obtain ⟨_, _, e, _⟩ := h
  rw [e]; rfl
theorem ok_law_asked {f : Addr} {fd : FuncData} (F : FnAt K mg "_law_asked" s_law_asked P_law_asked f fd) (A_ : Fns K mg) (T : Txt K mg base) {c : Cs} (xs : Exs K mg base c) : FnOk P w K mg base CX0 7 f fd P_law_asked (spP K S_law_asked) := by
  obtain ⟨f0, d0, E_lead_to⟩ := A_.h_lead_to
  have G_lead_to : FnOk P w K mg base (CXR P w) 6 f0 d0 P_lead_to (spX K (S_lead_to c)) := ok_lead_to E_lead_to A_ T xs
  obtain ⟨f1, d1, E_law_bar⟩ := A_.h_law_bar
  have G_law_bar : FnOk P w K mg base CX0 1 f1 d1 P_law_bar (spP K S_law_bar) := ok_law_bar E_law_bar A_ T xs
  obtain ⟨f2, d2, E_law_leads⟩ := A_.h_law_leads
  have G_law_leads : FnOk P w K mg base CX0 3 f2 d2 P_law_leads (spP K S_law_leads) := ok_law_leads E_law_leads A_ T xs
  obtain ⟨f3, d3, E_law_whole⟩ := A_.h_law_whole
  have G_law_whole : FnOk P w K mg base CX0 1 f3 d3 P_law_whole (spP K S_law_whole) := ok_law_whole E_law_whole A_ T xs
  refine F.fn.ok sc_law_asked (fun vs H Q E h => spP_len len_law_asked h) (fun cdv A outer s H vs Q E hr h => ?_)
  refine ⟨_, (pss_cons (ps_set (i := 2) sc_law_asked.nd rfl (by first | exact Or.inl rfl | exact Or.inr rfl) (pe_lst (pa_cons (pe_callTy (call_listK (K := K) rfl) (by rfl) T.list_ boot_list (pa_cons (pv 0) pa_nil)) (pa_cons (pe_callTy (call_listK (K := K) rfl) (by rfl) T.list_ boot_list (pa_cons (pv 1) pa_nil)) pa_nil))))
      (pss_cons (ps_set (i := 3) sc_law_asked.nd rfl (by first | exact Or.inl rfl | exact Or.inr rfl) (pe_call G_lead_to (hr.mono (by decide)) rfl E_lead_to.mg E_lead_to.fn.kp E_lead_to.bd .nil passN (pa_cons (pe_ix (ix_listK (K := K) rfl) (pv 2) pe_int (fun _ _ => rfl)) (pa_cons (pe_ix (ix_listK (K := K) rfl) (pv 2) pe_int (fun _ _ => rfl)) pa_nil))))
      (pss_cons (ps_set (i := 4) sc_law_asked.nd rfl (by first | exact Or.inl rfl | exact Or.inr rfl) (pe_call G_law_bar (hr.mono (by decide)) rfl E_law_bar.mg E_law_bar.fn.kp E_law_bar.bd .nil pass0 (pa_cons (pv 0) (pa_cons (pv 1) pa_nil))))
      (pss_cons (ps_if (PW.pt (pw_or (pt_not (pt_val (pe_callB (call_isinstK (K := K) rfl) (by rfl) T.isinstance_ boot_isinstance (pa_cons (pv 3) (pa_cons (pe_bltn (v := .ty "tuple") rfl T.tuple_ boot_tuple rfl) pa_nil))))) (pw_or (pt_cmpR op_ne (pe_callB (call_lenK (K := K) rfl) (by rfl) T.len_ PySem.boot_len (pa_cons (pv 3) pa_nil)) pe_int (nomark _)) (pw_or1 (pt_cmpR (op_neL hr.units) (pv 2) (pe_lst (pa_cons (pv 0) (pa_cons (pv 1) pa_nil))) (nomark _)))))) (pss_one (ps_ret pe_bl)) pss_nil)
      (pss_cons (ps_if (pt_cmpR op_notN (pv 4) pe_non (nomark _)) (pss_one (ps_ret (pe_and (pe_cmpR op_eq (pe_ix (ix_tupK (K := K) rfl) (pv 3) pe_int (fun _ _ => rfl)) pe_str (nomark _)) (pe_and (pe_call G_law_whole (hr.mono (by decide)) rfl E_law_whole.mg E_law_whole.fn.kp E_law_whole.bd .nil pass0 (pa_cons (pe_ix (ix_tupK (K := K) rfl) (pv 3) pe_int (fun _ _ => rfl)) pa_nil)) (pe_one (pe_cmpR op_eq (pe_ix (ix_tupK (K := K) rfl) (pv 3) pe_int (fun _ _ => rfl)) (pv 4) (nomark _))))))) pss_nil)
      (pss_cons (ps_expr (pe_bm0 PySem.F.plainAttrs_list PySem.F.slot_list_clear PySem.F.type_list_clear mt_clear (pe_ix (ix_listK (K := K) rfl) (pv 2) pe_int (fun _ _ => rfl))))
      (pss_cons (ps_expr (pe_bm0 PySem.F.plainAttrs_list PySem.F.slot_list_clear PySem.F.type_list_clear mt_clear (pe_ix (ix_listK (K := K) rfl) (pv 2) pe_int (fun _ _ => rfl))))
      (pss_cons (ps_if (PW.pt (pw_or (pt_cmpR op_ne (pe_ix (ix_tupK (K := K) rfl) (pv 3) pe_int (fun _ _ => rfl)) pe_str (nomark _)) (pw_or1 (pt_not (pt_val (pe_call G_law_leads (hr.mono (by decide)) rfl E_law_leads.mg E_law_leads.fn.kp E_law_leads.bd .nil pass0 (pa_cons (pe_ix (ix_tupK (K := K) rfl) (pv 3) pe_int (fun _ _ => rfl)) (pa_cons (pv 1) (pa_cons (pv 0) pa_nil))))))))) (pss_one (ps_ret pe_bl)) pss_nil)
      (pss_cons (ps_for PassesOwn.never rfl (pi_listK (K := K) rfl (pe_ix (ix_tupK (K := K) rfl) (pv 3) pe_int (fun _ _ => rfl))) (pg_name (i := 5) sc_law_asked.nd rfl (by first | exact Or.inl rfl | exact Or.inr rfl)) (pss_one (ps_expr (pe_bm0 PySem.F.plainAttrs_list PySem.F.slot_list_clear PySem.F.type_list_clear mt_clear (pv 5)))))
      (pss_cons (ps_expr (pe_bm0 PySem.F.plainAttrs_list PySem.F.slot_list_clear PySem.F.type_list_clear mt_clear (pe_ix (ix_tupK (K := K) rfl) (pv 3) pe_int (fun _ _ => rfl))))
      (pss_cons (ps_set (i := 6) sc_law_asked.nd rfl (by first | exact Or.inl rfl | exact Or.inr rfl) (pe_call G_lead_to (hr.mono (by decide)) rfl E_lead_to.mg E_lead_to.fn.kp E_lead_to.bd .nil passN (pa_cons (pv 0) (pa_cons (pv 1) pa_nil))))
      (pss_one (ps_ret (pe_and (pe_cmpR op_eq (pe_ix (ix_tupK (K := K) rfl) (pv 6) pe_int (fun _ _ => rfl)) pe_str (nomark _)) (pe_one (pe_call G_law_leads (hr.mono (by decide)) rfl E_law_leads.mg E_law_leads.fn.kp E_law_leads.bd .nil pass0 (pa_cons (pe_ix (ix_tupK (K := K) rfl) (pv 6) pe_int (fun _ _ => rfl)) (pa_cons (pv 1) (pa_cons (pv 0) pa_nil))))))))))))))))))), fn_val (Γn := [2]) (N := N_law_asked) (st_seq (ST.post (Γn := [2]) (st_setM (M := []) 2 (em_lst (am_cons0 (em_cb c_list (ar_cons (ES.er (es_var 0)) ar_nil)) (am_cons0 (em_cb c_list (ar_cons (ES.er (es_var 1)) ar_nil)) am_nil)))))
      (st_seq (ST.post (Γn := [3, 2]) (st_setM (M := []) 3 (em_noX mono_lead_to (ar_cons (er_ixL (er_var 2) (EM.er em_int)) (ar_cons (er_ixL (er_var 2) (EM.er em_int)) ar_nil)))))
      (st_seq (ST.post (Γn := [3, 2]) (st_setS 4 (EM.es (em_call (S := S_law_bar) mono_law_bar (ar_cons (ES.er (es_var 0)) (ar_cons (ES.er (es_var 1)) ar_nil))))))
      (st_seq (st_if (tr_or (tr_not (tr_b (EM.er (em_isinst kit_tuple (er_var 3))))) (tr_or (tr_test (EM.er (em_op o_ne (EM.er (em_cb c_len (ar_cons (er_var 3) ar_nil))) (EM.er em_int)))) (tr_test (EM.er (em_op o_neL (er_var 2) (er_lst (ar_cons (ES.er (es_var 0)) (ar_cons (ES.er (es_var 1)) ar_nil)))))))) (st_ret (M := []) em_bl) st_next)
      (st_seq (st_if (tr_test (EM.er (em_op o_notN (ES.er (es_var 4)) (EM.er em_non)))) (st_ret (M := []) (em_andV (EM.er (em_op o_eq (er_ixT (er_var 3) (EM.er em_int)) (EM.er em_str))) (em_andV (EM.er (em_call (S := S_law_whole) mono_law_whole (ar_cons (er_ixT (er_var 3) (EM.er em_int)) ar_nil))) (em_op o_eq (er_ixT (er_var 3) (EM.er em_int)) (ES.er (es_var 4)))))) st_next)
      (st_seq (st_clearL 2 0)
      (st_seq (st_clearL 2 1)
      (st_seq (st_if (tr_or (tr_test (EM.er (em_op o_ne (er_ixT (er_var 3) (EM.er em_int)) (EM.er em_str)))) (tr_not (tr_b (EM.er (em_call (S := S_law_leads) mono_law_leads (ar_cons (er_ixT (er_var 3) (EM.er em_int)) (ar_cons (ES.er (es_var 1)) (ar_cons (ES.er (es_var 0)) ar_nil)))))))) (st_ret (M := []) em_bl) st_next)
      (st_seq2 (ST.post (Γn := [2]) (st_clearTL2 3 5 1))
      (st_seq (ST.post (Γn := [2]) (st_setS 6 (EM.es (em_noX mono_lead_to (ar_cons (ES.er (es_var 0)) (ar_cons (ES.er (es_var 1)) ar_nil))))))
      (st_ret (M := []) (em_andV (EM.er (em_op o_eq (ES.er (es_ixT (es_var 6) (EM.er em_int))) (EM.er em_str))) (em_call (S := S_law_leads) mono_law_leads (ar_cons (ES.er (es_ixT (es_var 6) (EM.er em_int))) (ar_cons (ES.er (es_var 1)) (ar_cons (ES.er (es_var 0)) ar_nil)))))))))))))))) (fun ds P hS => ?_) h⟩
  obtain ⟨one, other, rfl, h1, h8, ha, b1, b2, hP⟩ := hS
  rw [show startD N_law_asked [dI one, dI other] = [some (dI one), some (dI other), none, none, none, none, none] from rfl]
  walk_at "go"
  refine ⟨one, other, rfl, h1, h8, fun _ => b2, fun _ => ⟨fun i e => ?_, fun e t b hT hL b0 bt => ?_⟩, fun z => absurd ha z⟩
  · refine ⟨one, other, rfl, by omega, ha.1, ?_⟩
    rw [e]
    walk_at "go"
    rw [if_neg (by decide)]
    refine ⟨by decide, vEqL_rows (xs := [one, other]) (ys := [one, other]) ?_⟩
    walk_at "go"
    refine ⟨i, rfl, ?_⟩
    walk_at "go"
    exact hP
  · refine ⟨one, other, rfl, by omega, ha.1, ?_⟩
    rw [e]
    walk_at "go"
    rw [if_neg (by decide)]
    refine ⟨by decide, vEqL_rows (xs := [one, other]) (ys := [one, other]) ?_⟩
    walk_at "go"
    refine ⟨_, _, rfl, rfl, scal_ints, ?_⟩
    walk_at "go"
    refine ⟨_, _, rfl, rfl, scal_ints, ?_⟩
    walk_at "go"
    refine ⟨t, other, one, b, rfl, hT, ha.1.symm, h1, h8, hL, b0, bt, b2, b1, ?_⟩
    walk_at "go"
    refine asLst_in (es := t.map dI) rfl ⟨fun d hd => ?_, ?_⟩
    · obtain ⟨r, _, rfl⟩ := List.mem_map.mp hd
      exact ⟨_, rfl⟩
    refine ⟨one, other, rfl, h1, h8, fun _ => b2, fun _ => ⟨fun i e' => (by rw [e] at e'; cases e'), fun _ t2 b3 hT2 hL2 b02 bt2 => ?_⟩, fun z => absurd ha z⟩
    walk_at "go"
    exact ⟨t2, other, one, b3, rfl, hT2, ha.1.symm, h1, h8, hL2, b02, bt2, b2, b1, hP⟩
def S_law_refused : DSp := fun ds P => ∃ one other, ds = [dI one, dI other] ∧ 1 ≤ one.length ∧ one.length ≤ 8 ∧ ¬ Alike one other ∧ P (.bl true)
theorem mono_law_refused : DMono S_law_refused := by
  intro xs P P' k h
  unfold S_law_refused at h ⊢
  grind
theorem len_law_refused : ∀ ds P, S_law_refused ds P → ds.length = 2 := by
  intro ds P h
  obtain ⟨_, _, e, _⟩ := h
  rw [e]; rfl
theorem ok_law_refused {f : Addr} {fd : FuncData} (F : FnAt K mg "_law_refused" s_law_refused P_law_refused f fd) (A_ : Fns K mg) (T : Txt K mg base) {c : Cs} (xs : Exs K mg base c) : FnOk P w K mg base CX0 7 f fd P_law_refused (spP K S_law_refused) := by
  obtain ⟨f0, d0, E_lead_to⟩ := A_.h_lead_to
  have G_lead_to : FnOk P w K mg base (CXR P w) 6 f0 d0 P_lead_to (spX K (S_lead_to c)) := ok_lead_to E_lead_to A_ T xs
  refine F.fn.ok sc_law_refused (fun vs H Q E h => spP_len len_law_refused h) (fun cdv A outer s H vs Q E hr h => ?_)
  refine ⟨_, (pss_cons (ps_set (i := 2) sc_law_refused.nd rfl (by first | exact Or.inl rfl | exact Or.inr rfl) pe_int)
      (pss_cons (ps_try (i := 3) rfl rfl G_lead_to (hr.mono (by decide)) rfl E_lead_to.mg E_lead_to.fn.kp E_lead_to.bd (pa_cons (pv 0) (pa_cons (pv 1) pa_nil)) xs.o_NotAlike xs.o_NotAlike xs.m_NotAlike rfl (by simp) sc_law_refused.nd rfl rfl (fun a oe hc => (pss_cons (ps_set (i := 2) sc_law_refused.nd rfl (by first | exact Or.inl rfl | exact Or.inr rfl) pe_int)
      (pss_cons (ps_if (pt_val (pe_callB (call_isx hc xs.k_NotAlike) (by rfl) T.isinstance_ boot_isinstance (pa_cons (pv 3) (pa_cons (pe_tup (pa_cons (pe_glob (v := .ref c.NoTable) rfl xs.m_NoTable rfl) (pa_cons (pe_glob (v := .ref c.NoBottom) rfl xs.m_NoBottom rfl) (pa_cons (pe_glob (v := .ref c.NoStep) rfl xs.m_NoStep rfl) (pa_cons (pe_glob (v := .ref c.NoMix) rfl xs.m_NoMix rfl) (pa_cons (pe_glob (v := .ref c.NotEven) rfl xs.m_NotEven rfl) (pa_cons (pe_glob (v := .ref c.NoSwap) rfl xs.m_NoSwap rfl) pa_nil))))))) pa_nil)))) (pss_one (ps_set (i := 2) sc_law_refused.nd rfl (by first | exact Or.inl rfl | exact Or.inr rfl) pe_int)) pss_nil)
      (pss_one (ps_if (pt_val (pe_callB (call_isx hc xs.k_NotAlike) (by rfl) T.isinstance_ boot_isinstance (pa_cons (pv 3) (pa_cons (pe_tup (pa_cons (pe_glob (v := .ref c.NoBounds) rfl xs.m_NoBounds rfl) (pa_cons (pe_glob (v := .ref c.NoPlace) rfl xs.m_NoPlace rfl) (pa_cons (pe_glob (v := .ref c.NoSums) rfl xs.m_NoSums rfl) (pa_cons (pe_glob (v := .ref c.TooGreat) rfl xs.m_TooGreat rfl) (pa_cons (pe_glob (v := .ref c.NoNumber) rfl xs.m_NoNumber rfl) (pa_cons (pe_glob (v := .ref c.NoText) rfl xs.m_NoText rfl) pa_nil))))))) pa_nil)))) (pss_one (ps_set (i := 2) sc_law_refused.nd rfl (by first | exact Or.inl rfl | exact Or.inr rfl) pe_int)) pss_nil))))))
      (pss_cons (ps_if (pt_cmpR op_ne (pv 2) pe_int (nomark _)) (pss_one (ps_ret pe_bl)) pss_nil)
      (pss_cons (ps_try (i := 3) rfl rfl G_lead_to (hr.mono (by decide)) rfl E_lead_to.mg E_lead_to.fn.kp E_lead_to.bd (pa_cons (pv 0) (pa_cons (pv 1) pa_nil)) xs.o_NotAlike xs.o_MixError xs.m_MixError rfl (by simp) sc_law_refused.nd rfl rfl (fun a oe hc => (pss_one (ps_set (i := 2) sc_law_refused.nd rfl (by first | exact Or.inl rfl | exact Or.inr rfl) (pe_op op_mulB pe_int (pe_callTy call_int1 (by rfl) T.int_ boot_int (pa_cons (pe_callB (call_isx hc xs.k_NotAlike) (by rfl) T.isinstance_ boot_isinstance (pa_cons (pv 3) (pa_cons (pe_bltn (v := .ty "ValueError") rfl T.ValueError_ (by rfl) rfl) pa_nil))) pa_nil)))))))
      (pss_one (ps_ret (pe_cmpR op_eq (pv 2) pe_int (nomark _)))))))), fn_val (Γn := []) (N := N_law_refused) (st_seq (ST.post (Γn := []) (st_setS 2 (EM.es em_int)))
      (st_seq (st_tryI 3 mono_lead_to (ar_cons (ES.er (es_var 0)) (ar_cons (ES.er (es_var 1)) ar_nil)) (sti_seq (sti_set 2 (EM.es em_int)) (sti_seq (sti_if (b := false) (fun a σ H Q hi q => isx_tup (fun _ _ _ h => h) (by simp) xs.t1 hi (fun H' s => ⟨_, rfl, q H' s⟩)) (sti_set 2 (EM.es em_int)) sti_next) (sti_if (b := false) (fun a σ H Q hi q => isx_tup (fun _ _ _ h => h) (by simp) xs.t2 hi (fun H' s => ⟨_, rfl, q H' s⟩)) (sti_set 2 (EM.es em_int)) sti_next))))
      (st_seq (st_if (tr_test (EM.er (em_op o_ne (ES.er (es_var 2)) (EM.er em_int)))) (st_ret (M := []) em_bl) st_next)
      (st_seq (st_tryI 3 mono_lead_to (ar_cons (ES.er (es_var 0)) (ar_cons (ES.er (es_var 1)) ar_nil)) (sti_know 2 (n := 3) (fun a σ H Q hi q => isx_one xs.v_NotAlike hi (.inr ⟨true, rfl, ⟨3, 1, rfl, rfl, ⟨64, 64, by decide, by decide, by decide⟩, q _ (Same.refl _)⟩⟩))))
      (st_ret (M := []) (em_op o_eq (ES.er (es_var 2)) (EM.er em_int))))))) (fun ds P hS => ?_) h⟩
  obtain ⟨one, other, rfl, h1, hl, hn, hP⟩ := hS
  rw [show startD N_law_refused [dI one, dI other] = [some (dI one), some (dI other), none, none] from rfl]
  walk_at "go"
  refine ⟨one, other, rfl, h1, hl, fun h => absurd h hn, fun h => absurd h hn, fun _ => ⟨rfl, by omega, one, other, rfl, h1, hl, fun h => absurd h hn, fun h => absurd h hn, fun _ => ⟨rfl, ?_⟩⟩⟩
  rw [decide_true]
  exact hP
def S_law : DSp := fun ds P => ∃ ns, ds = [.scr ns] ∧ ns.length ≤ 63 ∧ P (.bl true)
theorem law_goal {ns : List Int} {P : DK} (hl : ns.length ≤ 63) (h : P (.bl true)) : S_law [.scr ns] P := ⟨ns, rfl, hl, h⟩
theorem mono_law : DMono S_law := by
  intro xs P P' k h
  unfold S_law at h ⊢
  grind
theorem len_law : ∀ ds P, S_law ds P → ds.length = 1 := by
  intro ds P h
  obtain ⟨_, e, _⟩ := h
  rw [e]; rfl
theorem ok_law {f : Addr} {fd : FuncData} (F : FnAt K mg "law" s_law P_law f fd) (A_ : Fns K mg) (T : Txt K mg base) {c : Cs} (xs : Exs K mg base c) : FnOk P w K mg base CX0 8 f fd P_law (spP K S_law) := by
  obtain ⟨f0, d0, E_law_two⟩ := A_.h_law_two
  have G_law_two : FnOk P w K mg base CX0 3 f0 d0 P_law_two (spR K S_law_two) := ok_law_two E_law_two A_ T xs
  obtain ⟨f1, d1, E_law_refused⟩ := A_.h_law_refused
  have G_law_refused : FnOk P w K mg base CX0 7 f1 d1 P_law_refused (spP K S_law_refused) := ok_law_refused E_law_refused A_ T xs
  obtain ⟨f2, d2, E_law_asked⟩ := A_.h_law_asked
  have G_law_asked : FnOk P w K mg base CX0 7 f2 d2 P_law_asked (spP K S_law_asked) := ok_law_asked E_law_asked A_ T xs
  refine F.fn.ok sc_law (fun vs H Q E h => spP_len len_law h) (fun cdv A outer s H vs Q E hr h => ?_)
  refine ⟨_, (pss_cons (ps_asg (pe_call G_law_two (hr.mono (by decide)) rfl E_law_two.mg E_law_two.fn.kp E_law_two.bd .nil pass0 (pa_cons (pv 0) pa_nil)) (pg_lstK (K := K) rfl rfl (pgs_cons (pg_name (i := 1) sc_law.nd rfl (by first | exact Or.inl rfl | exact Or.inr rfl)) (pgs_cons (pg_name (i := 2) sc_law.nd rfl (by first | exact Or.inl rfl | exact Or.inr rfl)) pgs_nil))))
      (pss_cons (ps_if (PW.pt (pw_or (pt_not (pt_val (pe_call G_law_asked (hr.mono (by decide)) rfl E_law_asked.mg E_law_asked.fn.kp E_law_asked.bd .nil pass0 (pa_cons (pv 1) (pa_cons (pv 2) pa_nil))))) (pw_or1 (pt_not (pt_val (pe_call G_law_asked (hr.mono (by decide)) rfl E_law_asked.mg E_law_asked.fn.kp E_law_asked.bd .nil pass0 (pa_cons (pv 2) (pa_cons (pv 1) pa_nil)))))))) (pss_one (ps_ret pe_bl)) pss_nil)
      (pss_cons (ps_set (i := 3) sc_law.nd rfl (by first | exact Or.inl rfl | exact Or.inr rfl) (pe_op op_cat (pe_slice (sl_listK (K := K) rfl) (pv 1) po_none (po_some (pe_un un_neg pe_int))) (pe_lst (pa_cons (pe_op op_add (pe_ix (ix_listK (K := K) rfl) (pv 1) (pe_un un_neg pe_int) (fun _ _ => rfl)) pe_int) pa_nil))))
      (pss_cons (ps_if (PW.pt (pw_or (pt_not (pt_val (pe_call G_law_refused (hr.mono (by decide)) rfl E_law_refused.mg E_law_refused.fn.kp E_law_refused.bd .nil pass0 (pa_cons (pv 3) (pa_cons (pv 2) pa_nil))))) (pw_or1 (pt_not (pt_val (pe_call G_law_refused (hr.mono (by decide)) rfl E_law_refused.mg E_law_refused.fn.kp E_law_refused.bd .nil pass0 (pa_cons (pe_slice (sl_listK (K := K) rfl) (pv 1) po_none (po_some pe_int)) (pa_cons (pe_op op_cat (pe_slice (sl_listK (K := K) rfl) (pv 1) po_none (po_some pe_int)) (pe_lst (pa_cons pe_int pa_nil))) pa_nil)))))))) (pss_one (ps_ret pe_bl)) pss_nil)
      (pss_one (ps_ret (pe_and (pe_call G_law_refused (hr.mono (by decide)) rfl E_law_refused.mg E_law_refused.fn.kp E_law_refused.bd .nil pass0 (pa_cons (pv 2) (pa_cons (pv 3) pa_nil))) (pe_one (pe_call G_law_refused (hr.mono (by decide)) rfl E_law_refused.mg E_law_refused.fn.kp E_law_refused.bd .nil pass0 (pa_cons (pe_op op_cat (pe_slice (sl_listK (K := K) rfl) (pv 1) po_none (po_some pe_int)) (pe_lst (pa_cons pe_int pa_nil))) (pa_cons (pe_slice (sl_listK (K := K) rfl) (pv 1) po_none (po_some pe_int)) pa_nil))))))))))), fn_val (Γn := []) (N := N_law) (st_seq (st_asgS (ER.es0 (er_call (S := S_law_two) mono_law_two (ar_cons (ES.er (es_var 0)) ar_nil))) (gt_lst (gts_cons (gt_name 1) (gts_cons (gt_name 2) gts_nil))))
      (st_seq (st_if (tr_or (tr_not (tr_b (EM.er (em_call (S := S_law_asked) mono_law_asked (ar_cons (ES.er (es_var 1)) (ar_cons (ES.er (es_var 2)) ar_nil)))))) (tr_not (tr_b (EM.er (em_call (S := S_law_asked) mono_law_asked (ar_cons (ES.er (es_var 2)) (ar_cons (ES.er (es_var 1)) ar_nil))))))) (st_ret (M := []) em_bl) st_next)
      (st_seq (ST.post (Γn := []) (st_setS 3 (EM.es (em_op o_cat (EM.er (em_sl (ES.er (es_var 1)) or_none (or_some (EM.er (em_un u_int (EM.er em_int)))))) (EM.er (em_lst (am_cons0 (em_op o_int (ES.er (es_ixL (es_var 1) (EM.er (em_un u_int (EM.er em_int))))) (EM.er em_int)) am_nil)))))))
      (st_seq (st_if (tr_or (tr_not (tr_b (EM.er (em_call (S := S_law_refused) mono_law_refused (ar_cons (ES.er (es_var 3)) (ar_cons (ES.er (es_var 2)) ar_nil)))))) (tr_not (tr_b (EM.er (em_call (S := S_law_refused) mono_law_refused (ar_cons (EM.er (em_sl (ES.er (es_var 1)) or_none (or_some (EM.er em_int)))) (ar_cons (EM.er (em_op o_cat (EM.er (em_sl (ES.er (es_var 1)) or_none (or_some (EM.er em_int)))) (EM.er (em_lst (am_cons0 em_int am_nil))))) ar_nil))))))) (st_ret (M := []) em_bl) st_next)
      (st_ret (M := []) (em_andV (EM.er (em_call (S := S_law_refused) mono_law_refused (ar_cons (ES.er (es_var 2)) (ar_cons (ES.er (es_var 3)) ar_nil)))) (em_call (S := S_law_refused) mono_law_refused (ar_cons (EM.er (em_op o_cat (EM.er (em_sl (ES.er (es_var 1)) or_none (or_some (EM.er em_int)))) (EM.er (em_lst (am_cons0 em_int am_nil))))) (ar_cons (EM.er (em_sl (ES.er (es_var 1)) or_none (or_some (EM.er em_int)))) ar_nil))))))))) (fun ds P hS => ?_) h⟩
  obtain ⟨ns, rfl, hz, hP⟩ := hS
  rw [show startD N_law [.scr ns] = [some (.scr ns), none, none, none] from rfl]
  walk_at "go"
  refine ⟨ns, rfl, hz, fun xs ys x1 x8 hl hs bx by' => ?_⟩
  walk_at "go"
  have last := init_sum x1
  refine ⟨xs, ys, rfl, x1, x8, ⟨hl.symm, hs.symm⟩, bx, by', ?_⟩
  refine ⟨ys, xs, rfl, by omega, by omega, ⟨hl, hs⟩, by', bx, ?_⟩
  rw [cutD_init, cutD_to (by omega), ← List.map_take, ← List.map_take, List.length_map]
  generalize hq : xs.getD (xs.length - 1) 0 = q at last
  have hz : L3.D.lst ((xs.take (xs.length - 1)).map L3.D.int ++ [.int (q + 1)]) = dI (xs.take (xs.length - 1) ++ [q + 1]) := by rw [dI, List.map_append]; rfl
  have hz1 : (xs.take (xs.length - 1) ++ [q + 1]).length = xs.length := by rw [List.length_append, List.length_take]; simp; omega
  have hz2 : (xs.take (xs.length - 1) ++ [q + 1]).sum = xs.sum + 1 := by rw [List.sum_append]; simp; omega
  have e7 : (7 : Int).toNat = 7 := rfl
  rw [e7]
  have h7 : 1 ≤ (xs.take 7).length ∧ (xs.take 7).length ≤ 7 := by rw [List.length_take]; omega
  have h8 : (xs.take 7 ++ [0]).length = (xs.take 7).length + 1 := by rw [List.length_append]; rfl
  have e1 : L3.D.lst ((xs.take 7).map L3.D.int ++ [.int 0]) = dI (xs.take 7 ++ [0]) := by rw [dI, List.map_append]; rfl
  refine ⟨scal_ints, asO_lastI x1 ?_⟩
  rw [hq]
  walk_at "go"
  refine ⟨⟨scal_ints, rfl, by rw [List.length_take]; omega⟩, ?_⟩
  rw [hz]
  refine ⟨_, ys, rfl, by omega, by omega, fun z => by have := z.2; omega, ?_⟩
  rw [e1]
  refine ⟨scal_ints, scal_ints, by omega, ⟨scal_ints, rfl, by omega⟩, ?_⟩
  refine ⟨xs.take 7, _, rfl, by omega, by omega, fun z => by have := z.1; omega, ?_⟩
  refine ⟨ys, _, rfl, by omega, by omega, fun z => by have := z.2; omega, ?_⟩
  refine ⟨scal_ints, by omega, ⟨scal_ints, rfl, by omega⟩, scal_ints, ?_⟩
  exact ⟨_, xs.take 7, rfl, by omega, by omega, fun z => by have := z.1; omega, hP⟩
end
end Mine
set_option Elab.async false
set_option linter.all false
set_option maxRecDepth 100000
set_option maxHeartbeats 16000000
namespace Mine
open PySem L2 PyProof.Rows
theorem all_mk {l : PySem.W.OpenLaw} {w : World} {K : PySem.W.Frag} {h : Heap} {mg : Str → Option Value} {fa f0 f1 f2 f3 f4 f5 f6 f7 f8 f9 f10 f11 f12 f13 f14 f15 f16 f17 f18 f19 f20 f21 f22 f23 f24 f25 f26 f27 f28 f29 f30 f31 f32 f33 f34 f35 f36 f37 f38 f39 da21 : Addr} (X : K.In h) (G : h.Ns mainGlobals mg) (hfa : mg "law" = some (.ref fa))
    {od0 an0 od1 an1 od2 an2 od3 an3 od4 an4 od5 an5 od6 an6 od7 an7 od8 an8 od9 an9 od10 an10 od11 an11 od12 an12 od13 an13 od14 an14 od15 an15 od16 an16 od17 an17 od18 an18 od19 an19 od20 an20 od21 an21 od22 an22 od23 an23 od24 an24 od25 an25 od26 an26 od27 an27 od28 an28 od29 an29 od30 an30 od31 an31 od32 an32 od33 an33 od34 an34 od35 an35 od36 an36 od37 an37 od38 an38 od39 an39 : Option Addr} {sl0 sl1 sl2 sl3 sl4 sl5 sl6 sl7 sl8 sl9 sl10 sl11 sl12 sl13 sl14 sl15 sl16 sl17 sl18 sl19 sl20 sl21 sl22 sl23 sl24 sl25 sl26 sl27 sl28 sl29 sl30 sl31 sl32 sl33 sl34 sl35 sl36 sl37 sl38 sl39 : Array (Option Value)} {oc0 kV0 dc0 pm0 cd0 ct0 oc1 kV1 dc1 pm1 cd1 ct1 oc2 kV2 dc2 pm2 cd2 ct2 oc3 kV3 dc3 pm3 cd3 ct3 oc4 kV4 dc4 pm4 cd4 ct4 oc5 kV5 dc5 pm5 cd5 ct5 oc6 kV6 dc6 pm6 cd6 ct6 oc7 kV7 dc7 pm7 cd7 ct7 oc8 kV8 dc8 pm8 cd8 ct8 oc9 kV9 dc9 pm9 cd9 ct9 oc10 kV10 dc10 pm10 cd10 ct10 oc11 kV11 dc11 pm11 cd11 ct11 oc12 kV12 dc12 pm12 cd12 ct12 oc13 kV13 dc13 pm13 cd13 ct13 oc14 kV14 dc14 pm14 cd14 ct14 oc15 kV15 dc15 pm15 cd15 ct15 oc16 kV16 dc16 pm16 cd16 ct16 oc17 kV17 dc17 pm17 cd17 ct17 oc18 kV18 dc18 pm18 cd18 ct18 oc19 kV19 dc19 pm19 cd19 ct19 oc20 kV20 dc20 pm20 cd20 ct20 oc21 kV21 dc21 pm21 cd21 ct21 oc22 kV22 dc22 pm22 cd22 ct22 oc23 kV23 dc23 pm23 cd23 ct23 oc24 kV24 dc24 pm24 cd24 ct24 oc25 kV25 dc25 pm25 cd25 ct25 oc26 kV26 dc26 pm26 cd26 ct26 oc27 kV27 dc27 pm27 cd27 ct27 oc28 kV28 dc28 pm28 cd28 ct28 oc29 kV29 dc29 pm29 cd29 ct29 oc30 kV30 dc30 pm30 cd30 ct30 oc31 kV31 dc31 pm31 cd31 ct31 oc32 kV32 dc32 pm32 cd32 ct32 oc33 kV33 dc33 pm33 cd33 ct33 oc34 kV34 dc34 pm34 cd34 ct34 oc35 kV35 dc35 pm35 cd35 ct35 oc36 kV36 dc36 pm36 cd36 ct36 oc37 kV37 dc37 pm37 cd37 ct37 oc38 kV38 dc38 pm38 cd38 ct38 oc39 kV39 dc39 pm39 cd39 ct39 : Value}
    (a0 : PySem.W.nsIn K mainGlobals "falling" = some (some (.ref f0))) (l0 : K.lookup f0 = some ⟨oc0, od0, .func (PySem.W.fnOf "falling" "falling" (defArgs s_falling) (defBody s_falling) (defScope s_falling) .none kV0 dc0 pm0 an0 cd0 ct0), sl0⟩) (c0 : PySem.W.codeIn K cd0 "falling" = true) (k0 : PySem.W.keepIn K (.ref f0) = true)
    (a1 : PySem.W.nsIn K mainGlobals "falling_places" = some (some (.ref f1))) (l1 : K.lookup f1 = some ⟨oc1, od1, .func (PySem.W.fnOf "falling_places" "falling_places" (defArgs s_falling_places) (defBody s_falling_places) (defScope s_falling_places) .none kV1 dc1 pm1 an1 cd1 ct1), sl1⟩) (c1 : PySem.W.codeIn K cd1 "falling_places" = true) (k1 : PySem.W.keepIn K (.ref f1) = true)
    (a2 : PySem.W.nsIn K mainGlobals "places_below" = some (some (.ref f2))) (l2 : K.lookup f2 = some ⟨oc2, od2, .func (PySem.W.fnOf "places_below" "places_below" (defArgs s_places_below) (defBody s_places_below) (defScope s_places_below) .none kV2 dc2 pm2 an2 cd2 ct2), sl2⟩) (c2 : PySem.W.codeIn K cd2 "places_below" = true) (k2 : PySem.W.keepIn K (.ref f2) = true)
    (a3 : PySem.W.nsIn K mainGlobals "heads_of" = some (some (.ref f3))) (l3 : K.lookup f3 = some ⟨oc3, od3, .func (PySem.W.fnOf "heads_of" "heads_of" (defArgs s_heads_of) (defBody s_heads_of) (defScope s_heads_of) .none kV3 dc3 pm3 an3 cd3 ct3), sl3⟩) (c3 : PySem.W.codeIn K cd3 "heads_of" = true) (k3 : PySem.W.keepIn K (.ref f3) = true)
    (a4 : PySem.W.nsIn K mainGlobals "check_alike" = some (some (.ref f4))) (l4 : K.lookup f4 = some ⟨oc4, od4, .func (PySem.W.fnOf "check_alike" "check_alike" (defArgs s_check_alike) (defBody s_check_alike) (defScope s_check_alike) .none kV4 dc4 pm4 an4 cd4 ct4), sl4⟩) (c4 : PySem.W.codeIn K cd4 "check_alike" = true) (k4 : PySem.W.keepIn K (.ref f4) = true)
    (a5 : PySem.W.nsIn K mainGlobals "first_head_above" = some (some (.ref f5))) (l5 : K.lookup f5 = some ⟨oc5, od5, .func (PySem.W.fnOf "first_head_above" "first_head_above" (defArgs s_first_head_above) (defBody s_first_head_above) (defScope s_first_head_above) .none kV5 dc5 pm5 an5 cd5 ct5), sl5⟩) (c5 : PySem.W.codeIn K cd5 "first_head_above" = true) (k5 : PySem.W.keepIn K (.ref f5) = true)
    (a6 : PySem.W.nsIn K mainGlobals "bar_of" = some (some (.ref f6))) (l6 : K.lookup f6 = some ⟨oc6, od6, .func (PySem.W.fnOf "bar_of" "bar_of" (defArgs s_bar_of) (defBody s_bar_of) (defScope s_bar_of) .none kV6 dc6 pm6 an6 cd6 ct6), sl6⟩) (c6 : PySem.W.codeIn K cd6 "bar_of" = true) (k6 : PySem.W.keepIn K (.ref f6) = true)
    (a7 : PySem.W.nsIn K mainGlobals "is_number" = some (some (.ref f7))) (l7 : K.lookup f7 = some ⟨oc7, od7, .func (PySem.W.fnOf "is_number" "is_number" (defArgs s_is_number) (defBody s_is_number) (defScope s_is_number) .none kV7 dc7 pm7 an7 cd7 ct7), sl7⟩) (c7 : PySem.W.codeIn K cd7 "is_number" = true) (k7 : PySem.W.keepIn K (.ref f7) = true)
    (a8 : PySem.W.nsIn K mainGlobals "is_place" = some (some (.ref f8))) (l8 : K.lookup f8 = some ⟨oc8, od8, .func (PySem.W.fnOf "is_place" "is_place" (defArgs s_is_place) (defBody s_is_place) (defScope s_is_place) .none kV8 dc8 pm8 an8 cd8 ct8), sl8⟩) (c8 : PySem.W.codeIn K cd8 "is_place" = true) (k8 : PySem.W.keepIn K (.ref f8) = true)
    (a9 : PySem.W.nsIn K mainGlobals "can_step" = some (some (.ref f9))) (l9 : K.lookup f9 = some ⟨oc9, od9, .func (PySem.W.fnOf "can_step" "can_step" (defArgs s_can_step) (defBody s_can_step) (defScope s_can_step) .none kV9 dc9 pm9 an9 cd9 ct9), sl9⟩) (c9 : PySem.W.codeIn K cd9 "can_step" = true) (k9 : PySem.W.keepIn K (.ref f9) = true)
    (a10 : PySem.W.nsIn K mainGlobals "step_made" = some (some (.ref f10))) (l10 : K.lookup f10 = some ⟨oc10, od10, .func (PySem.W.fnOf "step_made" "step_made" (defArgs s_step_made) (defBody s_step_made) (defScope s_step_made) .none kV10 dc10 pm10 an10 cd10 ct10), sl10⟩) (c10 : PySem.W.codeIn K cd10 "step_made" = true) (k10 : PySem.W.keepIn K (.ref f10) = true)
    (a11 : PySem.W.nsIn K mainGlobals "steps_to" = some (some (.ref f11))) (l11 : K.lookup f11 = some ⟨oc11, od11, .func (PySem.W.fnOf "steps_to" "steps_to" (defArgs s_steps_to) (defBody s_steps_to) (defScope s_steps_to) .none kV11 dc11 pm11 an11 cd11 ct11), sl11⟩) (c11 : PySem.W.codeIn K cd11 "steps_to" = true) (k11 : PySem.W.keepIn K (.ref f11) = true)
    (a12 : PySem.W.nsIn K mainGlobals "row_behind" = some (some (.ref f12))) (l12 : K.lookup f12 = some ⟨oc12, od12, .func (PySem.W.fnOf "row_behind" "row_behind" (defArgs s_row_behind) (defBody s_row_behind) (defScope s_row_behind) .none kV12 dc12 pm12 an12 cd12 ct12), sl12⟩) (c12 : PySem.W.codeIn K cd12 "row_behind" = true) (k12 : PySem.W.keepIn K (.ref f12) = true)
    (a13 : PySem.W.nsIn K mainGlobals "evening_steps" = some (some (.ref f13))) (l13 : K.lookup f13 = some ⟨oc13, od13, .func (PySem.W.fnOf "evening_steps" "evening_steps" (defArgs s_evening_steps) (defBody s_evening_steps) (defScope s_evening_steps) .none kV13 dc13 pm13 an13 cd13 ct13), sl13⟩) (c13 : PySem.W.codeIn K cd13 "evening_steps" = true) (k13 : PySem.W.keepIn K (.ref f13) = true)
    (a14 : PySem.W.nsIn K mainGlobals "evening_step" = some (some (.ref f14))) (l14 : K.lookup f14 = some ⟨oc14, od14, .func (PySem.W.fnOf "evening_step" "evening_step" (defArgs s_evening_step) (defBody s_evening_step) (defScope s_evening_step) .none kV14 dc14 pm14 an14 cd14 ct14), sl14⟩) (c14 : PySem.W.codeIn K cd14 "evening_step" = true) (k14 : PySem.W.keepIn K (.ref f14) = true)
    (a15 : PySem.W.nsIn K mainGlobals "exchanges_to" = some (some (.ref f15))) (l15 : K.lookup f15 = some ⟨oc15, od15, .func (PySem.W.fnOf "exchanges_to" "exchanges_to" (defArgs s_exchanges_to) (defBody s_exchanges_to) (defScope s_exchanges_to) .none kV15 dc15 pm15 an15 cd15 ct15), sl15⟩) (c15 : PySem.W.codeIn K cd15 "exchanges_to" = true) (k15 : PySem.W.keepIn K (.ref f15) = true)
    (a16 : PySem.W.nsIn K mainGlobals "exchange_step" = some (some (.ref f16))) (l16 : K.lookup f16 = some ⟨oc16, od16, .func (PySem.W.fnOf "exchange_step" "exchange_step" (defArgs s_exchange_step) (defBody s_exchange_step) (defScope s_exchange_step) .none kV16 dc16 pm16 an16 cd16 ct16), sl16⟩) (c16 : PySem.W.codeIn K cd16 "exchange_step" = true) (k16 : PySem.W.keepIn K (.ref f16) = true)
    (a17 : PySem.W.nsIn K mainGlobals "check_bottom" = some (some (.ref f17))) (l17 : K.lookup f17 = some ⟨oc17, od17, .func (PySem.W.fnOf "check_bottom" "check_bottom" (defArgs s_check_bottom) (defBody s_check_bottom) (defScope s_check_bottom) .none kV17 dc17 pm17 an17 cd17 ct17), sl17⟩) (c17 : PySem.W.codeIn K cd17 "check_bottom" = true) (k17 : PySem.W.keepIn K (.ref f17) = true)
    (a18 : PySem.W.nsIn K mainGlobals "greatest_divisor" = some (some (.ref f18))) (l18 : K.lookup f18 = some ⟨oc18, od18, .func (PySem.W.fnOf "greatest_divisor" "greatest_divisor" (defArgs s_greatest_divisor) (defBody s_greatest_divisor) (defScope s_greatest_divisor) .none kV18 dc18 pm18 an18 cd18 ct18), sl18⟩) (c18 : PySem.W.codeIn K cd18 "greatest_divisor" = true) (k18 : PySem.W.keepIn K (.ref f18) = true)
    (a19 : PySem.W.nsIn K mainGlobals "divisor_of" = some (some (.ref f19))) (l19 : K.lookup f19 = some ⟨oc19, od19, .func (PySem.W.fnOf "divisor_of" "divisor_of" (defArgs s_divisor_of) (defBody s_divisor_of) (defScope s_divisor_of) .none kV19 dc19 pm19 an19 cd19 ct19), sl19⟩) (c19 : PySem.W.codeIn K cd19 "divisor_of" = true) (k19 : PySem.W.keepIn K (.ref f19) = true)
    (a20 : PySem.W.nsIn K mainGlobals "divided_row" = some (some (.ref f20))) (l20 : K.lookup f20 = some ⟨oc20, od20, .func (PySem.W.fnOf "divided_row" "divided_row" (defArgs s_divided_row) (defBody s_divided_row) (defScope s_divided_row) .none kV20 dc20 pm20 an20 cd20 ct20), sl20⟩) (c20 : PySem.W.codeIn K cd20 "divided_row" = true) (k20 : PySem.W.keepIn K (.ref f20) = true)
    (a21 : PySem.W.nsIn K mainGlobals "least_terms" = some (some (.ref f21))) (l21 : K.lookup f21 = some ⟨oc21, od21, .func (PySem.W.fnOf "least_terms" "least_terms" (defArgs s_least_terms) (defBody s_least_terms) (defScope s_least_terms) (.ref da21) kV21 dc21 pm21 an21 cd21 ct21), sl21⟩) (c21 : PySem.W.codeIn K cd21 "least_terms" = true) (k21 : PySem.W.keepIn K (.ref f21) = true)
    (a22 : PySem.W.nsIn K mainGlobals "lead_to" = some (some (.ref f22))) (l22 : K.lookup f22 = some ⟨oc22, od22, .func (PySem.W.fnOf "lead_to" "lead_to" (defArgs s_lead_to) (defBody s_lead_to) (defScope s_lead_to) .none kV22 dc22 pm22 an22 cd22 ct22), sl22⟩) (c22 : PySem.W.codeIn K cd22 "lead_to" = true) (k22 : PySem.W.keepIn K (.ref f22) = true)
    (a23 : PySem.W.nsIn K mainGlobals "plain_table" = some (some (.ref f23))) (l23 : K.lookup f23 = some ⟨oc23, od23, .func (PySem.W.fnOf "plain_table" "plain_table" (defArgs s_plain_table) (defBody s_plain_table) (defScope s_plain_table) .none kV23 dc23 pm23 an23 cd23 ct23), sl23⟩) (c23 : PySem.W.codeIn K cd23 "plain_table" = true) (k23 : PySem.W.keepIn K (.ref f23) = true)
    (a24 : PySem.W.nsIn K mainGlobals "plain_row" = some (some (.ref f24))) (l24 : K.lookup f24 = some ⟨oc24, od24, .func (PySem.W.fnOf "plain_row" "plain_row" (defArgs s_plain_row) (defBody s_plain_row) (defScope s_plain_row) .none kV24 dc24 pm24 an24 cd24 ct24), sl24⟩) (c24 : PySem.W.codeIn K cd24 "plain_row" = true) (k24 : PySem.W.keepIn K (.ref f24) = true)
    (a25 : PySem.W.nsIn K mainGlobals "led_table" = some (some (.ref f25))) (l25 : K.lookup f25 = some ⟨oc25, od25, .func (PySem.W.fnOf "led_table" "led_table" (defArgs s_led_table) (defBody s_led_table) (defScope s_led_table) .none kV25 dc25 pm25 an25 cd25 ct25), sl25⟩) (c25 : PySem.W.codeIn K cd25 "led_table" = true) (k25 : PySem.W.keepIn K (.ref f25) = true)
    (a26 : PySem.W.nsIn K mainGlobals "mixed_row" = some (some (.ref f26))) (l26 : K.lookup f26 = some ⟨oc26, od26, .func (PySem.W.fnOf "mixed_row" "mixed_row" (defArgs s_mixed_row) (defBody s_mixed_row) (defScope s_mixed_row) .none kV26 dc26 pm26 an26 cd26 ct26), sl26⟩) (c26 : PySem.W.codeIn K cd26 "mixed_row" = true) (k26 : PySem.W.keepIn K (.ref f26) = true)
    (a27 : PySem.W.nsIn K mainGlobals "_law_cell_at" = some (some (.ref f27))) (l27 : K.lookup f27 = some ⟨oc27, od27, .func (PySem.W.fnOf "_law_cell_at" "_law_cell_at" (defArgs s_law_cell_at) (defBody s_law_cell_at) (defScope s_law_cell_at) .none kV27 dc27 pm27 an27 cd27 ct27), sl27⟩) (c27 : PySem.W.codeIn K cd27 "_law_cell_at" = true) (k27 : PySem.W.keepIn K (.ref f27) = true)
    (a28 : PySem.W.nsIn K mainGlobals "_law_whole" = some (some (.ref f28))) (l28 : K.lookup f28 = some ⟨oc28, od28, .func (PySem.W.fnOf "_law_whole" "_law_whole" (defArgs s_law_whole) (defBody s_law_whole) (defScope s_law_whole) .none kV28 dc28 pm28 an28 cd28 ct28), sl28⟩) (c28 : PySem.W.codeIn K cd28 "_law_whole" = true) (k28 : PySem.W.keepIn K (.ref f28) = true)
    (a29 : PySem.W.nsIn K mainGlobals "_law_tops" = some (some (.ref f29))) (l29 : K.lookup f29 = some ⟨oc29, od29, .func (PySem.W.fnOf "_law_tops" "_law_tops" (defArgs s_law_tops) (defBody s_law_tops) (defScope s_law_tops) .none kV29 dc29 pm29 an29 cd29 ct29), sl29⟩) (c29 : PySem.W.codeIn K cd29 "_law_tops" = true) (k29 : PySem.W.keepIn K (.ref f29) = true)
    (a30 : PySem.W.nsIn K mainGlobals "_law_poorer" = some (some (.ref f30))) (l30 : K.lookup f30 = some ⟨oc30, od30, .func (PySem.W.fnOf "_law_poorer" "_law_poorer" (defArgs s_law_poorer) (defBody s_law_poorer) (defScope s_law_poorer) .none kV30 dc30 pm30 an30 cd30 ct30), sl30⟩) (c30 : PySem.W.codeIn K cd30 "_law_poorer" = true) (k30 : PySem.W.keepIn K (.ref f30) = true)
    (a31 : PySem.W.nsIn K mainGlobals "_law_digits" = some (some (.ref f31))) (l31 : K.lookup f31 = some ⟨oc31, od31, .func (PySem.W.fnOf "_law_digits" "_law_digits" (defArgs s_law_digits) (defBody s_law_digits) (defScope s_law_digits) .none kV31 dc31 pm31 an31 cd31 ct31), sl31⟩) (c31 : PySem.W.codeIn K cd31 "_law_digits" = true) (k31 : PySem.W.keepIn K (.ref f31) = true)
    (a32 : PySem.W.nsIn K mainGlobals "_law_digit_rows" = some (some (.ref f32))) (l32 : K.lookup f32 = some ⟨oc32, od32, .func (PySem.W.fnOf "_law_digit_rows" "_law_digit_rows" (defArgs s_law_digit_rows) (defBody s_law_digit_rows) (defScope s_law_digit_rows) .none kV32 dc32 pm32 an32 cd32 ct32), sl32⟩) (c32 : PySem.W.codeIn K cd32 "_law_digit_rows" = true) (k32 : PySem.W.keepIn K (.ref f32) = true)
    (a33 : PySem.W.nsIn K mainGlobals "_law_two" = some (some (.ref f33))) (l33 : K.lookup f33 = some ⟨oc33, od33, .func (PySem.W.fnOf "_law_two" "_law_two" (defArgs s_law_two) (defBody s_law_two) (defScope s_law_two) .none kV33 dc33 pm33 an33 cd33 ct33), sl33⟩) (c33 : PySem.W.codeIn K cd33 "_law_two" = true) (k33 : PySem.W.keepIn K (.ref f33) = true)
    (a34 : PySem.W.nsIn K mainGlobals "_law_bar" = some (some (.ref f34))) (l34 : K.lookup f34 = some ⟨oc34, od34, .func (PySem.W.fnOf "_law_bar" "_law_bar" (defArgs s_law_bar) (defBody s_law_bar) (defScope s_law_bar) .none kV34 dc34 pm34 an34 cd34 ct34), sl34⟩) (c34 : PySem.W.codeIn K cd34 "_law_bar" = true) (k34 : PySem.W.keepIn K (.ref f34) = true)
    (a35 : PySem.W.nsIn K mainGlobals "_law_even" = some (some (.ref f35))) (l35 : K.lookup f35 = some ⟨oc35, od35, .func (PySem.W.fnOf "_law_even" "_law_even" (defArgs s_law_even) (defBody s_law_even) (defScope s_law_even) .none kV35 dc35 pm35 an35 cd35 ct35), sl35⟩) (c35 : PySem.W.codeIn K cd35 "_law_even" = true) (k35 : PySem.W.keepIn K (.ref f35) = true)
    (a36 : PySem.W.nsIn K mainGlobals "_law_leads" = some (some (.ref f36))) (l36 : K.lookup f36 = some ⟨oc36, od36, .func (PySem.W.fnOf "_law_leads" "_law_leads" (defArgs s_law_leads) (defBody s_law_leads) (defScope s_law_leads) .none kV36 dc36 pm36 an36 cd36 ct36), sl36⟩) (c36 : PySem.W.codeIn K cd36 "_law_leads" = true) (k36 : PySem.W.keepIn K (.ref f36) = true)
    (a37 : PySem.W.nsIn K mainGlobals "_law_asked" = some (some (.ref f37))) (l37 : K.lookup f37 = some ⟨oc37, od37, .func (PySem.W.fnOf "_law_asked" "_law_asked" (defArgs s_law_asked) (defBody s_law_asked) (defScope s_law_asked) .none kV37 dc37 pm37 an37 cd37 ct37), sl37⟩) (c37 : PySem.W.codeIn K cd37 "_law_asked" = true) (k37 : PySem.W.keepIn K (.ref f37) = true)
    (a38 : PySem.W.nsIn K mainGlobals "_law_refused" = some (some (.ref f38))) (l38 : K.lookup f38 = some ⟨oc38, od38, .func (PySem.W.fnOf "_law_refused" "_law_refused" (defArgs s_law_refused) (defBody s_law_refused) (defScope s_law_refused) .none kV38 dc38 pm38 an38 cd38 ct38), sl38⟩) (c38 : PySem.W.codeIn K cd38 "_law_refused" = true) (k38 : PySem.W.keepIn K (.ref f38) = true)
    (a39 : PySem.W.nsIn K mainGlobals "law" = some (some (.ref f39))) (l39 : K.lookup f39 = some ⟨oc39, od39, .func (PySem.W.fnOf "law" "law" (defArgs s_law) (defBody s_law) (defScope s_law) .none kV39 dc39 pm39 an39 cd39 ct39), sl39⟩) (c39 : PySem.W.codeIn K cd39 "law" = true) (k39 : PySem.W.keepIn K (.ref f39) = true)
    {dcl21 : Value} {ddd21 : Option Addr} {dsl21 : Array (Option Value)} {dtk21 : Tok} {dn21 : Nat} (d21 : K.lookup da21 = some ⟨dcl21, ddd21, .seq #[Value.int 1 dtk21] dn21, dsl21⟩)
    {C_MixError C_NoTable C_NoBottom C_NotAlike C_NoStep C_NoMix C_NotEven C_NoSwap C_NoBounds C_NoPlace C_NoSums C_TooGreat C_NoNumber C_NoText : Addr}
    {dd_MixError : Option Addr} {nm_MixError qn_MixError : Str} {bs_MixError : List Value} {ns_MixError : Addr} {hd_MixError : Bool} {sn_MixError : List Str} {sub_MixError : List Value} {ab_MixError : Bool} {col_MixError : Option Bool} {k0_MixError k1_MixError k2_MixError k3_MixError k5_MixError : Option Value}
    {dd_NoBottom : Option Addr} {nm_NoBottom qn_NoBottom : Str} {bs_NoBottom : List Value} {ns_NoBottom : Addr} {hd_NoBottom : Bool} {sn_NoBottom : List Str} {sub_NoBottom : List Value} {ab_NoBottom : Bool} {col_NoBottom : Option Bool} {k0_NoBottom k1_NoBottom k2_NoBottom k3_NoBottom k5_NoBottom : Option Value}
    {dd_NoStep : Option Addr} {nm_NoStep qn_NoStep : Str} {bs_NoStep : List Value} {ns_NoStep : Addr} {hd_NoStep : Bool} {sn_NoStep : List Str} {sub_NoStep : List Value} {ab_NoStep : Bool} {col_NoStep : Option Bool} {k0_NoStep k1_NoStep k2_NoStep k3_NoStep k5_NoStep : Option Value}
    {dd_NotAlike : Option Addr} {nm_NotAlike qn_NotAlike : Str} {bs_NotAlike : List Value} {ns_NotAlike : Addr} {hd_NotAlike : Bool} {sn_NotAlike : List Str} {sub_NotAlike : List Value} {ab_NotAlike : Bool} {col_NotAlike : Option Bool} {k0_NotAlike k1_NotAlike k2_NotAlike k3_NotAlike k5_NotAlike : Option Value}
    (e_MixError : PySem.W.nsIn K mainGlobals "MixError" = some (some (.ref C_MixError)))
    (e_NoTable : PySem.W.nsIn K mainGlobals "NoTable" = some (some (.ref C_NoTable)))
    (e_NoBottom : PySem.W.nsIn K mainGlobals "NoBottom" = some (some (.ref C_NoBottom)))
    (e_NotAlike : PySem.W.nsIn K mainGlobals "NotAlike" = some (some (.ref C_NotAlike)))
    (e_NoStep : PySem.W.nsIn K mainGlobals "NoStep" = some (some (.ref C_NoStep)))
    (e_NoMix : PySem.W.nsIn K mainGlobals "NoMix" = some (some (.ref C_NoMix)))
    (e_NotEven : PySem.W.nsIn K mainGlobals "NotEven" = some (some (.ref C_NotEven)))
    (e_NoSwap : PySem.W.nsIn K mainGlobals "NoSwap" = some (some (.ref C_NoSwap)))
    (e_NoBounds : PySem.W.nsIn K mainGlobals "NoBounds" = some (some (.ref C_NoBounds)))
    (e_NoPlace : PySem.W.nsIn K mainGlobals "NoPlace" = some (some (.ref C_NoPlace)))
    (e_NoSums : PySem.W.nsIn K mainGlobals "NoSums" = some (some (.ref C_NoSums)))
    (e_TooGreat : PySem.W.nsIn K mainGlobals "TooGreat" = some (some (.ref C_TooGreat)))
    (e_NoNumber : PySem.W.nsIn K mainGlobals "NoNumber" = some (some (.ref C_NoNumber)))
    (e_NoText : PySem.W.nsIn K mainGlobals "NoText" = some (some (.ref C_NoText)))
    (u_MixError : K.lookup C_MixError = some ⟨.type "type", dd_MixError, .cls ⟨nm_MixError, bs_MixError, .ref C_MixError :: VB, ns_MixError, qn_MixError, hd_MixError, sn_MixError, sub_MixError, ab_MixError, col_MixError, false⟩, #[k0_MixError, k1_MixError, k2_MixError, k3_MixError, some (.builtin "ValueError.__new__"), k5_MixError]⟩) (v_MixError : PySem.W.excIn K C_MixError VB "ValueError.__new__" = true)
    (u_NoBottom : K.lookup C_NoBottom = some ⟨.type "type", dd_NoBottom, .cls ⟨nm_NoBottom, bs_NoBottom, .ref C_NoBottom :: .ref C_MixError :: VB, ns_NoBottom, qn_NoBottom, hd_NoBottom, sn_NoBottom, sub_NoBottom, ab_NoBottom, col_NoBottom, false⟩, #[k0_NoBottom, k1_NoBottom, k2_NoBottom, k3_NoBottom, some (.builtin "ValueError.__new__"), k5_NoBottom]⟩) (v_NoBottom : PySem.W.excIn K C_NoBottom VB "ValueError.__new__" = true)
    (u_NoStep : K.lookup C_NoStep = some ⟨.type "type", dd_NoStep, .cls ⟨nm_NoStep, bs_NoStep, .ref C_NoStep :: .ref C_MixError :: VB, ns_NoStep, qn_NoStep, hd_NoStep, sn_NoStep, sub_NoStep, ab_NoStep, col_NoStep, false⟩, #[k0_NoStep, k1_NoStep, k2_NoStep, k3_NoStep, some (.builtin "ValueError.__new__"), k5_NoStep]⟩) (v_NoStep : PySem.W.excIn K C_NoStep VB "ValueError.__new__" = true)
    (u_NotAlike : K.lookup C_NotAlike = some ⟨.type "type", dd_NotAlike, .cls ⟨nm_NotAlike, bs_NotAlike, .ref C_NotAlike :: .ref C_MixError :: VB, ns_NotAlike, qn_NotAlike, hd_NotAlike, sn_NotAlike, sub_NotAlike, ab_NotAlike, col_NotAlike, false⟩, #[k0_NotAlike, k1_NotAlike, k2_NotAlike, k3_NotAlike, some (.builtin "ValueError.__new__"), k5_NotAlike]⟩) (v_NotAlike : PySem.W.excIn K C_NotAlike VB "ValueError.__new__" = true)
    (ga_NoBottom : PySem.W.findIn K (.ref C_NoBottom) "__getattribute__" = some (some (.builtin "BaseException.__getattribute__"))) (ge_NoBottom : PySem.W.findIn K (.ref C_NoBottom) "__getattr__" = some none) (cl_NoBottom : PySem.W.findIn K (.ref C_NoBottom) "__class__" = some (some (.builtin "object.__class__"))) (ob_NoBottom : PySem.W.mroIn K C_NoBottom (.type "object") = some true) (be_NoBottom : PySem.W.mroIn K C_NoBottom (.type "BaseException") = some true)
    (ga_NoStep : PySem.W.findIn K (.ref C_NoStep) "__getattribute__" = some (some (.builtin "BaseException.__getattribute__"))) (ge_NoStep : PySem.W.findIn K (.ref C_NoStep) "__getattr__" = some none) (cl_NoStep : PySem.W.findIn K (.ref C_NoStep) "__class__" = some (some (.builtin "object.__class__"))) (ob_NoStep : PySem.W.mroIn K C_NoStep (.type "object") = some true) (be_NoStep : PySem.W.mroIn K C_NoStep (.type "BaseException") = some true)
    (ga_NotAlike : PySem.W.findIn K (.ref C_NotAlike) "__getattribute__" = some (some (.builtin "BaseException.__getattribute__"))) (ge_NotAlike : PySem.W.findIn K (.ref C_NotAlike) "__getattr__" = some none) (cl_NotAlike : PySem.W.findIn K (.ref C_NotAlike) "__class__" = some (some (.builtin "object.__class__"))) (ob_NotAlike : PySem.W.mroIn K C_NotAlike (.type "object") = some true) (be_NotAlike : PySem.W.mroIn K C_NotAlike (.type "BaseException") = some true)
    (kt1 : PySem.W.kitAny K (.ref C_NotAlike) [.ref C_NoTable, .ref C_NoBottom, .ref C_NoStep, .ref C_NoMix, .ref C_NotEven, .ref C_NoSwap] = some false)
    (kt2 : PySem.W.kitAny K (.ref C_NotAlike) [.ref C_NoBounds, .ref C_NoPlace, .ref C_NoSums, .ref C_TooGreat, .ref C_NoNumber, .ref C_NoText] = some false)
    (kv_NotAlike : PySem.W.kitOne K (.ref C_NotAlike) (.type "ValueError") = some true)
    {c_fp : Addr} (hcf : cd1 = .ref c_fp) (hch : PySem.W.codeHdIn K c_fp L3.tabP = true)
    (z_len : PySem.W.nsIn K mainGlobals "len" = some none) (z_isinstance : PySem.W.nsIn K mainGlobals "isinstance" = some none) (z_int : PySem.W.nsIn K mainGlobals "int" = some none) (z_bool : PySem.W.nsIn K mainGlobals "bool" = some none) (z_list : PySem.W.nsIn K mainGlobals "list" = some none) (z_range : PySem.W.nsIn K mainGlobals "range" = some none) (z_sum : PySem.W.nsIn K mainGlobals "sum" = some none) (z_sorted : PySem.W.nsIn K mainGlobals "sorted" = some none) (z_tuple : PySem.W.nsIn K mainGlobals "tuple" = some none) (z_str : PySem.W.nsIn K mainGlobals "str" = some none) (z_min : PySem.W.nsIn K mainGlobals "min" = some none) (z_reversed : PySem.W.nsIn K mainGlobals "reversed" = some none) (z_abs : PySem.W.nsIn K mainGlobals "abs" = some none) (z_zip : PySem.W.nsIn K mainGlobals "zip" = some none) (z_ValueError : PySem.W.nsIn K mainGlobals "ValueError" = some none) :
    ∃ fd : FuncData, (∀ (s : Shared) (v : Value), BindsTo s fd ⟨[v], []⟩ [("_law_script", v)]) ∧ ∀ base : Heap, K.In base → base.Ns mainGlobals mg → L3.BMd base mg → FnOk l.prog w K mg base CX0 8 fa fd P_law (L3.spP K S_law) := by
  have e := hfa.symm.trans (PySem.W.mg_of X G a39)
  cases e
  have T : ∀ base : Heap, L3.BMd base mg → Txt K mg base := fun base hbm_ => ⟨PySem.W.mg_none_of X G z_len, PySem.W.mg_none_of X G z_isinstance, PySem.W.mg_none_of X G z_int, PySem.W.mg_none_of X G z_bool, PySem.W.mg_none_of X G z_list, PySem.W.mg_none_of X G z_range, PySem.W.mg_none_of X G z_sum, PySem.W.mg_none_of X G z_sorted, PySem.W.mg_none_of X G z_tuple, PySem.W.mg_none_of X G z_str, PySem.W.mg_none_of X G z_min, PySem.W.mg_none_of X G z_reversed, PySem.W.mg_none_of X G z_abs, PySem.W.mg_none_of X G z_zip, PySem.W.mg_none_of X G z_ValueError, ⟨f1, _, c_fp, PySem.W.mg_of X G a1, ⟨_, _, _, l1⟩, hcf, hch, hbm_⟩⟩
  have F0 := fun_mk (st := s_falling) l0 c0 k0
  have E0 : FnAt K mg "falling" s_falling P_falling f0 _ := ⟨F0, PySem.W.mg_of X G a0, F0.binds (ps := P_falling) fun _ _ _ _ _ _ us hl => match us, hl with | [_], _ => rfl⟩
  have F1 := fun_mk (st := s_falling_places) l1 c1 k1
  have E1 : FnAt K mg "falling_places" s_falling_places P_falling_places f1 _ := ⟨F1, PySem.W.mg_of X G a1, F1.binds (ps := P_falling_places) fun _ _ _ _ _ _ us hl => match us, hl with | [_], _ => rfl⟩
  have F2 := fun_mk (st := s_places_below) l2 c2 k2
  have E2 : FnAt K mg "places_below" s_places_below P_places_below f2 _ := ⟨F2, PySem.W.mg_of X G a2, F2.binds (ps := P_places_below) fun _ _ _ _ _ _ us hl => match us, hl with | [_, _], _ => rfl⟩
  have F3 := fun_mk (st := s_heads_of) l3 c3 k3
  have E3 : FnAt K mg "heads_of" s_heads_of P_heads_of f3 _ := ⟨F3, PySem.W.mg_of X G a3, F3.binds (ps := P_heads_of) fun _ _ _ _ _ _ us hl => match us, hl with | [_], _ => rfl⟩
  have F4 := fun_mk (st := s_check_alike) l4 c4 k4
  have E4 : FnAt K mg "check_alike" s_check_alike P_check_alike f4 _ := ⟨F4, PySem.W.mg_of X G a4, F4.binds (ps := P_check_alike) fun _ _ _ _ _ _ us hl => match us, hl with | [_, _], _ => rfl⟩
  have F5 := fun_mk (st := s_first_head_above) l5 c5 k5
  have E5 : FnAt K mg "first_head_above" s_first_head_above P_first_head_above f5 _ := ⟨F5, PySem.W.mg_of X G a5, F5.binds (ps := P_first_head_above) fun _ _ _ _ _ _ us hl => match us, hl with | [_, _], _ => rfl⟩
  have F6 := fun_mk (st := s_bar_of) l6 c6 k6
  have E6 : FnAt K mg "bar_of" s_bar_of P_bar_of f6 _ := ⟨F6, PySem.W.mg_of X G a6, F6.binds (ps := P_bar_of) fun _ _ _ _ _ _ us hl => match us, hl with | [_, _], _ => rfl⟩
  have F7 := fun_mk (st := s_is_number) l7 c7 k7
  have E7 : FnAt K mg "is_number" s_is_number P_is_number f7 _ := ⟨F7, PySem.W.mg_of X G a7, F7.binds (ps := P_is_number) fun _ _ _ _ _ _ us hl => match us, hl with | [_], _ => rfl⟩
  have F8 := fun_mk (st := s_is_place) l8 c8 k8
  have E8 : FnAt K mg "is_place" s_is_place P_is_place f8 _ := ⟨F8, PySem.W.mg_of X G a8, F8.binds (ps := P_is_place) fun _ _ _ _ _ _ us hl => match us, hl with | [_, _], _ => rfl⟩
  have F9 := fun_mk (st := s_can_step) l9 c9 k9
  have E9 : FnAt K mg "can_step" s_can_step P_can_step f9 _ := ⟨F9, PySem.W.mg_of X G a9, F9.binds (ps := P_can_step) fun _ _ _ _ _ _ us hl => match us, hl with | [_, _], _ => rfl⟩
  have F10 := fun_mk (st := s_step_made) l10 c10 k10
  have E10 : FnAt K mg "step_made" s_step_made P_step_made f10 _ := ⟨F10, PySem.W.mg_of X G a10, F10.binds (ps := P_step_made) fun _ _ _ _ _ _ us hl => match us, hl with | [_, _], _ => rfl⟩
  have F11 := fun_mk (st := s_steps_to) l11 c11 k11
  have E11 : FnAt K mg "steps_to" s_steps_to P_steps_to f11 _ := ⟨F11, PySem.W.mg_of X G a11, F11.binds (ps := P_steps_to) fun _ _ _ _ _ _ us hl => match us, hl with | [_, _], _ => rfl⟩
  have F12 := fun_mk (st := s_row_behind) l12 c12 k12
  have E12 : FnAt K mg "row_behind" s_row_behind P_row_behind f12 _ := ⟨F12, PySem.W.mg_of X G a12, F12.binds (ps := P_row_behind) fun _ _ _ _ _ _ us hl => match us, hl with | [_, _], _ => rfl⟩
  have F13 := fun_mk (st := s_evening_steps) l13 c13 k13
  have E13 : FnAt K mg "evening_steps" s_evening_steps P_evening_steps f13 _ := ⟨F13, PySem.W.mg_of X G a13, F13.binds (ps := P_evening_steps) fun _ _ _ _ _ _ us hl => match us, hl with | [_, _], _ => rfl⟩
  have F14 := fun_mk (st := s_evening_step) l14 c14 k14
  have E14 : FnAt K mg "evening_step" s_evening_step P_evening_step f14 _ := ⟨F14, PySem.W.mg_of X G a14, F14.binds (ps := P_evening_step) fun _ _ _ _ _ _ us hl => match us, hl with | [_, _], _ => rfl⟩
  have F15 := fun_mk (st := s_exchanges_to) l15 c15 k15
  have E15 : FnAt K mg "exchanges_to" s_exchanges_to P_exchanges_to f15 _ := ⟨F15, PySem.W.mg_of X G a15, F15.binds (ps := P_exchanges_to) fun _ _ _ _ _ _ us hl => match us, hl with | [_, _], _ => rfl⟩
  have F16 := fun_mk (st := s_exchange_step) l16 c16 k16
  have E16 : FnAt K mg "exchange_step" s_exchange_step P_exchange_step f16 _ := ⟨F16, PySem.W.mg_of X G a16, F16.binds (ps := P_exchange_step) fun _ _ _ _ _ _ us hl => match us, hl with | [_, _, _], _ => rfl⟩
  have F17 := fun_mk (st := s_check_bottom) l17 c17 k17
  have E17 : FnAt K mg "check_bottom" s_check_bottom P_check_bottom f17 _ := ⟨F17, PySem.W.mg_of X G a17, F17.binds (ps := P_check_bottom) fun _ _ _ _ _ _ us hl => match us, hl with | [_], _ => rfl⟩
  have F18 := fun_mk (st := s_greatest_divisor) l18 c18 k18
  have E18 : FnAt K mg "greatest_divisor" s_greatest_divisor P_greatest_divisor f18 _ := ⟨F18, PySem.W.mg_of X G a18, F18.binds (ps := P_greatest_divisor) fun _ _ _ _ _ _ us hl => match us, hl with | [_, _], _ => rfl⟩
  have F19 := fun_mk (st := s_divisor_of) l19 c19 k19
  have E19 : FnAt K mg "divisor_of" s_divisor_of P_divisor_of f19 _ := ⟨F19, PySem.W.mg_of X G a19, F19.binds (ps := P_divisor_of) fun _ _ _ _ _ _ us hl => match us, hl with | [_, _], _ => rfl⟩
  have F20 := fun_mk (st := s_divided_row) l20 c20 k20
  have E20 : FnAt K mg "divided_row" s_divided_row P_divided_row f20 _ := ⟨F20, PySem.W.mg_of X G a20, F20.binds (ps := P_divided_row) fun _ _ _ _ _ _ us hl => match us, hl with | [_, _], _ => rfl⟩
  have F21 : FunD K "least_terms" "least_terms" s_least_terms [Value.int 1 dtk21] f21 _ := ⟨⟨_, _, _, _, _, _, _, _, _, _, _, _, rfl, l21, c21, d21, rfl⟩, k21⟩
  have E21 : FnAtD K mg "least_terms" s_least_terms P_least_terms [.int 1] f21 _ := ⟨⟨_, .cons ⟨_, rfl⟩ .nil, F21, F21.binds (ps := P_least_terms) (ds := [Value.int 1 dtk21]) fun _ _ _ _ _ _ _ us hl => match us, (show us.length = 1 from by rw [List.length_append] at hl; exact Nat.add_right_cancel (show us.length + 1 = 1 + 1 from hl)) with | [_], _ => ⟨_, rfl, rfl⟩⟩, PySem.W.mg_of X G a21, F21.binds (ps := P_least_terms) (ds := []) fun _ _ _ _ _ _ _ us hl => match us, hl with | [_, _], _ => ⟨_, rfl, rfl⟩⟩
  have F22 := fun_mk (st := s_lead_to) l22 c22 k22
  have E22 : FnAt K mg "lead_to" s_lead_to P_lead_to f22 _ := ⟨F22, PySem.W.mg_of X G a22, F22.binds (ps := P_lead_to) fun _ _ _ _ _ _ us hl => match us, hl with | [_, _], _ => rfl⟩
  have F23 := fun_mk (st := s_plain_table) l23 c23 k23
  have E23 : FnAt K mg "plain_table" s_plain_table P_plain_table f23 _ := ⟨F23, PySem.W.mg_of X G a23, F23.binds (ps := P_plain_table) fun _ _ _ _ _ _ us hl => match us, hl with | [_], _ => rfl⟩
  have F24 := fun_mk (st := s_plain_row) l24 c24 k24
  have E24 : FnAt K mg "plain_row" s_plain_row P_plain_row f24 _ := ⟨F24, PySem.W.mg_of X G a24, F24.binds (ps := P_plain_row) fun _ _ _ _ _ _ us hl => match us, hl with | [_, _], _ => rfl⟩
  have F25 := fun_mk (st := s_led_table) l25 c25 k25
  have E25 : FnAt K mg "led_table" s_led_table P_led_table f25 _ := ⟨F25, PySem.W.mg_of X G a25, F25.binds (ps := P_led_table) fun _ _ _ _ _ _ us hl => match us, hl with | [_, _, _], _ => rfl⟩
  have F26 := fun_mk (st := s_mixed_row) l26 c26 k26
  have E26 : FnAt K mg "mixed_row" s_mixed_row P_mixed_row f26 _ := ⟨F26, PySem.W.mg_of X G a26, F26.binds (ps := P_mixed_row) fun _ _ _ _ _ _ us hl => match us, hl with | [_, _, _, _], _ => rfl⟩
  have F27 := fun_mk (st := s_law_cell_at) l27 c27 k27
  have E27 : FnAt K mg "_law_cell_at" s_law_cell_at P_law_cell_at f27 _ := ⟨F27, PySem.W.mg_of X G a27, F27.binds (ps := P_law_cell_at) fun _ _ _ _ _ _ us hl => match us, hl with | [_, _], _ => rfl⟩
  have F28 := fun_mk (st := s_law_whole) l28 c28 k28
  have E28 : FnAt K mg "_law_whole" s_law_whole P_law_whole f28 _ := ⟨F28, PySem.W.mg_of X G a28, F28.binds (ps := P_law_whole) fun _ _ _ _ _ _ us hl => match us, hl with | [_], _ => rfl⟩
  have F29 := fun_mk (st := s_law_tops) l29 c29 k29
  have E29 : FnAt K mg "_law_tops" s_law_tops P_law_tops f29 _ := ⟨F29, PySem.W.mg_of X G a29, F29.binds (ps := P_law_tops) fun _ _ _ _ _ _ us hl => match us, hl with | [_], _ => rfl⟩
  have F30 := fun_mk (st := s_law_poorer) l30 c30 k30
  have E30 : FnAt K mg "_law_poorer" s_law_poorer P_law_poorer f30 _ := ⟨F30, PySem.W.mg_of X G a30, F30.binds (ps := P_law_poorer) fun _ _ _ _ _ _ us hl => match us, hl with | [_, _, _], _ => rfl⟩
  have F31 := fun_mk (st := s_law_digits) l31 c31 k31
  have E31 : FnAt K mg "_law_digits" s_law_digits P_law_digits f31 _ := ⟨F31, PySem.W.mg_of X G a31, F31.binds (ps := P_law_digits) fun _ _ _ _ _ _ us hl => match us, hl with | [_, _, _], _ => rfl⟩
  have F32 := fun_mk (st := s_law_digit_rows) l32 c32 k32
  have E32 : FnAt K mg "_law_digit_rows" s_law_digit_rows P_law_digit_rows f32 _ := ⟨F32, PySem.W.mg_of X G a32, F32.binds (ps := P_law_digit_rows) fun _ _ _ _ _ _ us hl => match us, hl with | [_], _ => rfl⟩
  have F33 := fun_mk (st := s_law_two) l33 c33 k33
  have E33 : FnAt K mg "_law_two" s_law_two P_law_two f33 _ := ⟨F33, PySem.W.mg_of X G a33, F33.binds (ps := P_law_two) fun _ _ _ _ _ _ us hl => match us, hl with | [_], _ => rfl⟩
  have F34 := fun_mk (st := s_law_bar) l34 c34 k34
  have E34 : FnAt K mg "_law_bar" s_law_bar P_law_bar f34 _ := ⟨F34, PySem.W.mg_of X G a34, F34.binds (ps := P_law_bar) fun _ _ _ _ _ _ us hl => match us, hl with | [_, _], _ => rfl⟩
  have F35 := fun_mk (st := s_law_even) l35 c35 k35
  have E35 : FnAt K mg "_law_even" s_law_even P_law_even f35 _ := ⟨F35, PySem.W.mg_of X G a35, F35.binds (ps := P_law_even) fun _ _ _ _ _ _ us hl => match us, hl with | [_, _], _ => rfl⟩
  have F36 := fun_mk (st := s_law_leads) l36 c36 k36
  have E36 : FnAt K mg "_law_leads" s_law_leads P_law_leads f36 _ := ⟨F36, PySem.W.mg_of X G a36, F36.binds (ps := P_law_leads) fun _ _ _ _ _ _ us hl => match us, hl with | [_, _, _], _ => rfl⟩
  have F37 := fun_mk (st := s_law_asked) l37 c37 k37
  have E37 : FnAt K mg "_law_asked" s_law_asked P_law_asked f37 _ := ⟨F37, PySem.W.mg_of X G a37, F37.binds (ps := P_law_asked) fun _ _ _ _ _ _ us hl => match us, hl with | [_, _], _ => rfl⟩
  have F38 := fun_mk (st := s_law_refused) l38 c38 k38
  have E38 : FnAt K mg "_law_refused" s_law_refused P_law_refused f38 _ := ⟨F38, PySem.W.mg_of X G a38, F38.binds (ps := P_law_refused) fun _ _ _ _ _ _ us hl => match us, hl with | [_, _], _ => rfl⟩
  have F39 := fun_mk (st := s_law) l39 c39 k39
  have E39 : FnAt K mg "law" s_law P_law fa _ := ⟨F39, PySem.W.mg_of X G a39, F39.binds (ps := P_law) fun _ _ _ _ _ _ us hl => match us, hl with | [_], _ => rfl⟩
  have A_ : Fns K mg := ⟨⟨_, _, E0⟩, ⟨_, _, E1⟩, ⟨_, _, E2⟩, ⟨_, _, E3⟩, ⟨_, _, E4⟩, ⟨_, _, E5⟩, ⟨_, _, E6⟩, ⟨_, _, E7⟩, ⟨_, _, E8⟩, ⟨_, _, E9⟩, ⟨_, _, E10⟩, ⟨_, _, E11⟩, ⟨_, _, E12⟩, ⟨_, _, E13⟩, ⟨_, _, E14⟩, ⟨_, _, E15⟩, ⟨_, _, E16⟩, ⟨_, _, E17⟩, ⟨_, _, E18⟩, ⟨_, _, E19⟩, ⟨_, _, E20⟩, ⟨_, _, E21⟩, ⟨_, _, E22⟩, ⟨_, _, E23⟩, ⟨_, _, E24⟩, ⟨_, _, E25⟩, ⟨_, _, E26⟩, ⟨_, _, E27⟩, ⟨_, _, E28⟩, ⟨_, _, E29⟩, ⟨_, _, E30⟩, ⟨_, _, E31⟩, ⟨_, _, E32⟩, ⟨_, _, E33⟩, ⟨_, _, E34⟩, ⟨_, _, E35⟩, ⟨_, _, E36⟩, ⟨_, _, E37⟩, ⟨_, _, E38⟩, ⟨_, _, E39⟩⟩
  exact ⟨PySem.W.fnOf "law" "law" (defArgs s_law) (defBody s_law) (defScope s_law) .none kV39 dc39 pm39 an39 cd39 ct39, fun s v => .of_eq rfl, fun base hb _ hbm => ok_law E39 A_ (T base hbm) (c := ⟨C_MixError, C_NoTable, C_NoBottom, C_NotAlike, C_NoStep, C_NoMix, C_NotEven, C_NoSwap, C_NoBounds, C_NoPlace, C_NoSums, C_TooGreat, C_NoNumber, C_NoText⟩) ⟨PySem.W.mg_of X G e_MixError, PySem.W.mg_of X G e_NoTable, PySem.W.mg_of X G e_NoBottom, PySem.W.mg_of X G e_NotAlike, PySem.W.mg_of X G e_NoStep, PySem.W.mg_of X G e_NoMix, PySem.W.mg_of X G e_NotEven, PySem.W.mg_of X G e_NoSwap, PySem.W.mg_of X G e_NoBounds, PySem.W.mg_of X G e_NoPlace, PySem.W.mg_of X G e_NoSums, PySem.W.mg_of X G e_TooGreat, PySem.W.mg_of X G e_NoNumber, PySem.W.mg_of X G e_NoText, ExcObj.of_lookup (ups := []) hb u_MixError rfl v_MixError, ExcObj.of_lookup (ups := [C_MixError]) hb u_NoBottom rfl v_NoBottom, ⟨ga_NoBottom, ge_NoBottom, cl_NoBottom, ob_NoBottom, be_NoBottom, by unfold PySem.W.clsIn; rw [u_NoBottom]; rfl⟩, ExcObj.of_lookup (ups := [C_MixError]) hb u_NoStep rfl v_NoStep, ⟨ga_NoStep, ge_NoStep, cl_NoStep, ob_NoStep, be_NoStep, by unfold PySem.W.clsIn; rw [u_NoStep]; rfl⟩, ExcObj.of_lookup (ups := [C_MixError]) hb u_NotAlike rfl v_NotAlike, ⟨ga_NotAlike, ge_NotAlike, cl_NotAlike, ob_NotAlike, be_NotAlike, by unfold PySem.W.clsIn; rw [u_NotAlike]; rfl⟩, kt1, kt2, kv_NotAlike⟩⟩
theorem walk {l : PySem.W.OpenLaw} {q : Program} {loose : List Str} {XP : (Str → Option Value) → Heap → Prop} {YP : World → Heap → Prop} {d : DefRec} {K : Params → PySem.W.Frag} (hn : l.most = some 63) (hdf : d.params.defaults = [])
    (hY : ∀ (w : World) (h : Heap), YP w h → (K w.params).In h) (hT : ∀ (w : World) (h : Heap), YP w h → h.get? L3.tabP = some (PySem.W.tabObj #[])) (hKP : ∀ w : World, (K w.params).lookup L3.tabP = none) {c_ : Addr} (hcd : ∀ w : World, PySem.W.codeHdIn (K w.params) c_ L3.tabP = true)
    (F : ∀ (w : World) (mg : Str → Option Value) (fa : Addr) (h : Heap), (K w.params).In h → h.Ns mainGlobals mg → mg d.name = some (.ref fa) →
      ∃ fd : FuncData, (∀ (s : Shared) (u : Value), BindsTo s fd ⟨[u], []⟩ [("_law_script", u)]) ∧ ∀ base : Heap, (K w.params).In base → base.Ns mainGlobals mg → L3.BMd base mg → FnOk l.prog w (K w.params) mg base CX0 8 fa fd ["_law_script"] (L3.spP (K w.params) S_law)) :
    PySem.W.WalkO q loose XP YP l.row.toRowW d [] (fun f vs => PySem.call f vs) :=
  L3.walk_ofT (n := 63) (k := 8) (x := "_law_script") (CX := fun _ => CX0) (sp := fun w => L3.spP (K w.params) S_law) hn (by decide) hdf ⟨rfl, by decide, by decide⟩ hY hT hKP hcd F (fun w H a ns hl hO hS => ⟨[.scr ns], ⟨[], _, _, [], [], rfl, rfl, ⟨a, rfl, L3.sc_ofT hO hS, rfl⟩, rfl, rfl⟩, hO.tab, law_goal hl (fun v H' fp s r n => r.1)⟩) fun _ _ _ _ _ z => z
end Mine
open PySem PySem.W PyProof.Rows
def PySem.W.Fast.tw5524062465075483385 : Unit := ()
def PySem.W.Fast.tw14806848059092660615 : Unit := ()
def PySem.W.Fast.tw322543756317317109 : Unit := ()
def PySem.W.Fast.tw10434156869497234635 : Unit := ()
def PySem.W.Fast.tw4079551682936835617 : Unit := ()
def PySem.W.Fast.tw10385849372018491477 : Unit := ()
def PySem.W.Fast.tw4199458896460704050 : Unit := ()
def PySem.W.Fast.tw8940971739930221575 : Unit := ()
def PySem.W.Fast.tw1906168209091276009 : Unit := ()
def PySem.W.Fast.tw14612456351128278934 : Unit := ()
def PySem.W.Fast.tw1567065923348272427 : Unit := ()
def PySem.W.Fast.tw3781938586026469603 : Unit := ()
def PySem.W.Fast.tw17561051203874019497 : Unit := ()
def PySem.W.Fast.tw3635633815108361462 : Unit := ()
def PySem.W.Fast.tw13682133032524192986 : Unit := ()
def PySem.W.Fast.tw3154035219008837205 : Unit := ()
def PySem.W.Fast.tw1775061079683757307 : Unit := ()
def PySem.W.Fast.tw12370529386236056151 : Unit := ()
def PySem.W.Fast.tw3679147326603701009 : Unit := ()
def PySem.W.Fast.tw17070812727668494012 : Unit := ()
def PySem.W.Fast.tw17815726695534220024 : Unit := ()
set_option maxRecDepth 100000 in
set_option maxHeartbeats 0 in
theorem PySem.Challenge.cw_evenmix_k16_whole_lead_holds : PySem.Challenge.rw_evenmix_k16_whole_lead.Holds := by
  w_on; o_law; k_head; (case hw => w_witness2)
  k_fill
  refine Mine.walk (l := PySem.Challenge.rw_evenmix_k16_whole_lead) rfl rfl (fun w h Y => PySem.W.km_in_of Y) (fun w h Y => PySem.W.km_tabs_of Y L3.tabP (by decide)) (fun w => by first | exact rfl | kernel_rfl) (c_ := 196) (fun w => by first | exact rfl | kernel_rfl) ?F
  case F =>
    intro w mg fa h KX G hmg
    refine' Mine.all_mk KX G hmg ?a0 ?l0 ?c0 ?k0 ?a1 ?l1 ?c1 ?k1 ?a2 ?l2 ?c2 ?k2 ?a3 ?l3 ?c3 ?k3 ?a4 ?l4 ?c4 ?k4 ?a5 ?l5 ?c5 ?k5 ?a6 ?l6 ?c6 ?k6 ?a7 ?l7 ?c7 ?k7 ?a8 ?l8 ?c8 ?k8 ?a9 ?l9 ?c9 ?k9 ?a10 ?l10 ?c10 ?k10 ?a11 ?l11 ?c11 ?k11 ?a12 ?l12 ?c12 ?k12 ?a13 ?l13 ?c13 ?k13 ?a14 ?l14 ?c14 ?k14 ?a15 ?l15 ?c15 ?k15 ?a16 ?l16 ?c16 ?k16 ?a17 ?l17 ?c17 ?k17 ?a18 ?l18 ?c18 ?k18 ?a19 ?l19 ?c19 ?k19 ?a20 ?l20 ?c20 ?k20 ?a21 ?l21 ?c21 ?k21 ?a22 ?l22 ?c22 ?k22 ?a23 ?l23 ?c23 ?k23 ?a24 ?l24 ?c24 ?k24 ?a25 ?l25 ?c25 ?k25 ?a26 ?l26 ?c26 ?k26 ?a27 ?l27 ?c27 ?k27 ?a28 ?l28 ?c28 ?k28 ?a29 ?l29 ?c29 ?k29 ?a30 ?l30 ?c30 ?k30 ?a31 ?l31 ?c31 ?k31 ?a32 ?l32 ?c32 ?k32 ?a33 ?l33 ?c33 ?k33 ?a34 ?l34 ?c34 ?k34 ?a35 ?l35 ?c35 ?k35 ?a36 ?l36 ?c36 ?k36 ?a37 ?l37 ?c37 ?k37 ?a38 ?l38 ?c38 ?k38 ?a39 ?l39 ?c39 ?k39 ?d21 ?e_MixError ?e_NoTable ?e_NoBottom ?e_NotAlike ?e_NoStep ?e_NoMix ?e_NotEven ?e_NoSwap ?e_NoBounds ?e_NoPlace ?e_NoSums ?e_TooGreat ?e_NoNumber ?e_NoText ?u_MixError ?v_MixError ?u_NoBottom ?v_NoBottom ?u_NoStep ?v_NoStep ?u_NotAlike ?v_NotAlike ?ga_NoBottom ?ge_NoBottom ?cl_NoBottom ?ob_NoBottom ?be_NoBottom ?ga_NoStep ?ge_NoStep ?cl_NoStep ?ob_NoStep ?be_NoStep ?ga_NotAlike ?ge_NotAlike ?cl_NotAlike ?ob_NotAlike ?be_NotAlike ?kt1 ?kt2 ?kv_NotAlike ?hcf ?hch ?z_len ?z_isinstance ?z_int ?z_bool ?z_list ?z_range ?z_sum ?z_sorted ?z_tuple ?z_str ?z_min ?z_reversed ?z_abs ?z_zip ?z_ValueError
    (case e_MixError => k_is)
    (case e_NoTable => k_is)
    (case e_NoBottom => k_is)
    (case e_NotAlike => k_is)
    (case e_NoStep => k_is)
    (case e_NoMix => k_is)
    (case e_NotEven => k_is)
    (case e_NoSwap => k_is)
    (case e_NoBounds => k_is)
    (case e_NoPlace => k_is)
    (case e_NoSums => k_is)
    (case e_TooGreat => k_is)
    (case e_NoNumber => k_is)
    (case e_NoText => k_is)
    (case a0 => k_is)
    (case l0 => k_is)
    (case c0 => k_is)
    (case k0 => k_is)
    (case a1 => k_is)
    (case l1 => k_is)
    (case c1 => k_is)
    (case k1 => k_is)
    (case a2 => k_is)
    (case l2 => k_is)
    (case c2 => k_is)
    (case k2 => k_is)
    (case a3 => k_is)
    (case l3 => k_is)
    (case c3 => k_is)
    (case k3 => k_is)
    (case a4 => k_is)
    (case l4 => k_is)
    (case c4 => k_is)
    (case k4 => k_is)
    (case a5 => k_is)
    (case l5 => k_is)
    (case c5 => k_is)
    (case k5 => k_is)
    (case a6 => k_is)
    (case l6 => k_is)
    (case c6 => k_is)
    (case k6 => k_is)
    (case a7 => k_is)
    (case l7 => k_is)
    (case c7 => k_is)
    (case k7 => k_is)
    (case a8 => k_is)
    (case l8 => k_is)
    (case c8 => k_is)
    (case k8 => k_is)
    (case a9 => k_is)
    (case l9 => k_is)
    (case c9 => k_is)
    (case k9 => k_is)
    (case a10 => k_is)
    (case l10 => k_is)
    (case c10 => k_is)
    (case k10 => k_is)
    (case a11 => k_is)
    (case l11 => k_is)
    (case c11 => k_is)
    (case k11 => k_is)
    (case a12 => k_is)
    (case l12 => k_is)
    (case c12 => k_is)
    (case k12 => k_is)
    (case a13 => k_is)
    (case l13 => k_is)
    (case c13 => k_is)
    (case k13 => k_is)
    (case a14 => k_is)
    (case l14 => k_is)
    (case c14 => k_is)
    (case k14 => k_is)
    (case a15 => k_is)
    (case l15 => k_is)
    (case c15 => k_is)
    (case k15 => k_is)
    (case a16 => k_is)
    (case l16 => k_is)
    (case c16 => k_is)
    (case k16 => k_is)
    (case a17 => k_is)
    (case l17 => k_is)
    (case c17 => k_is)
    (case k17 => k_is)
    (case a18 => k_is)
    (case l18 => k_is)
    (case c18 => k_is)
    (case k18 => k_is)
    (case a19 => k_is)
    (case l19 => k_is)
    (case c19 => k_is)
    (case k19 => k_is)
    (case a20 => k_is)
    (case l20 => k_is)
    (case c20 => k_is)
    (case k20 => k_is)
    (case a21 => k_is)
    (case l21 => k_is)
    (case c21 => k_is)
    (case k21 => k_is)
    (case a22 => k_is)
    (case l22 => k_is)
    (case c22 => k_is)
    (case k22 => k_is)
    (case a23 => k_is)
    (case l23 => k_is)
    (case c23 => k_is)
    (case k23 => k_is)
    (case a24 => k_is)
    (case l24 => k_is)
    (case c24 => k_is)
    (case k24 => k_is)
    (case a25 => k_is)
    (case l25 => k_is)
    (case c25 => k_is)
    (case k25 => k_is)
    (case a26 => k_is)
    (case l26 => k_is)
    (case c26 => k_is)
    (case k26 => k_is)
    (case a27 => k_is)
    (case l27 => k_is)
    (case c27 => k_is)
    (case k27 => k_is)
    (case a28 => k_is)
    (case l28 => k_is)
    (case c28 => k_is)
    (case k28 => k_is)
    (case a29 => k_is)
    (case l29 => k_is)
    (case c29 => k_is)
    (case k29 => k_is)
    (case a30 => k_is)
    (case l30 => k_is)
    (case c30 => k_is)
    (case k30 => k_is)
    (case a31 => k_is)
    (case l31 => k_is)
    (case c31 => k_is)
    (case k31 => k_is)
    (case a32 => k_is)
    (case l32 => k_is)
    (case c32 => k_is)
    (case k32 => k_is)
    (case a33 => k_is)
    (case l33 => k_is)
    (case c33 => k_is)
    (case k33 => k_is)
    (case a34 => k_is)
    (case l34 => k_is)
    (case c34 => k_is)
    (case k34 => k_is)
    (case a35 => k_is)
    (case l35 => k_is)
    (case c35 => k_is)
    (case k35 => k_is)
    (case a36 => k_is)
    (case l36 => k_is)
    (case c36 => k_is)
    (case k36 => k_is)
    (case a37 => k_is)
    (case l37 => k_is)
    (case c37 => k_is)
    (case k37 => k_is)
    (case a38 => k_is)
    (case l38 => k_is)
    (case c38 => k_is)
    (case k38 => k_is)
    (case a39 => k_is)
    (case l39 => k_is)
    (case c39 => k_is)
    (case k39 => k_is)
    (case d21 => k_is)
    (case u_MixError => k_is)
    (case v_MixError => k_exc)
    (case u_NoBottom => k_is)
    (case v_NoBottom => k_exc)
    (case u_NoStep => k_is)
    (case v_NoStep => k_exc)
    (case u_NotAlike => k_is)
    (case v_NotAlike => k_exc)
    (case ga_NoBottom => k_is)
    (case ge_NoBottom => k_is)
    (case cl_NoBottom => k_is)
    (case ob_NoBottom => k_is)
    (case be_NoBottom => k_is)
    (case ga_NoStep => k_is)
    (case ge_NoStep => k_is)
    (case cl_NoStep => k_is)
    (case ob_NoStep => k_is)
    (case be_NoStep => k_is)
    (case ga_NotAlike => k_is)
    (case ge_NotAlike => k_is)
    (case cl_NotAlike => k_is)
    (case ob_NotAlike => k_is)
    (case be_NotAlike => k_is)
    (case kt1 => kit_is)
    (case kt2 => kit_is)
    (case kv_NotAlike => kit_is)
    (case hcf => exact rfl)
    (case hch => first | exact rfl | k_is)
    (case z_len => k_is)
    (case z_isinstance => k_is)
    (case z_int => k_is)
    (case z_bool => k_is)
    (case z_list => k_is)
    (case z_range => k_is)
    (case z_sum => k_is)
    (case z_sorted => k_is)
    (case z_tuple => k_is)
    (case z_str => k_is)
    (case z_min => k_is)
    (case z_reversed => k_is)
    (case z_abs => k_is)
    (case z_zip => k_is)
    (case z_ValueError => k_is)
