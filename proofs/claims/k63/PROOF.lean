import PyProof.Rows.All
import Wide.All
import OpenK.AllK
import Wide.FinOn
import Lean
import PyProof.EqAt
import PyProof.EqKinds
import PyProof.TupleCall
import PyProof.NeKinds
import PyProof.ZipIter
import KE.KRevIter
import PyProof.ListRange
import KE.LcSums
import PyProof.Rows.MinMaxN
import KE.KTryDeep
import PyProof.ExcArgsOwn
import PyProof.ExcAttrAll.ValueError
import KE.KIntText
import PyProof.JoinWalk
import PyProof.StrCalls
import KE.KIsAll
import KE.RegKIsAll
import PySem.Challenge.RW_evenmix_k63_texts_refused
set_option Elab.async false
set_option linter.all false
set_option maxRecDepth 100000
namespace L2
open PySem PySem.Spec PyProof.Rows
abbrev Key := Sum Int Str
def keyIs : Key → Value → Bool
  | .inl k, v => Value.isInt k v
  | .inr x, v => Value.isStrOf x v
def keyH (w : World) : Key → Int
  | .inl k => hashInt k
  | .inr x => hashStr w x
theorem keyIs_shape : ∀ {k : Key} {v : Value}, keyIs k v = true → (∃ i t, k = Sum.inl i ∧ v = Value.int i t) ∨ (∃ x t, k = Sum.inr x ∧ v = Value.str x t)
  | .inl i, v, h => by
    obtain ⟨t, e⟩ := Value.isInt_shape (k := i) (v := v) h
    exact .inl ⟨i, t, rfl, e⟩
  | .inr x, v, h => by
    obtain ⟨t, e⟩ := Value.isStrOf_shape (x := x) (v := v) h
    exact .inr ⟨x, t, rfl, e⟩
theorem key_ll (a b : Int) : decide ((Sum.inl a : Key) = Sum.inl b) = (a == b) := by
  by_cases e : a = b
  · subst e; simp
  · have h : ¬ (Sum.inl a : Key) = Sum.inl b := fun q => e (Sum.inl.inj q)
    rw [decide_eq_false h]
    exact (beq_eq_false_iff_ne.mpr e).symm
theorem key_rr (a b : Str) : decide ((Sum.inr a : Key) = Sum.inr b) = decide (a = b) := by
  by_cases e : a = b
  · subst e; simp
  · have h : ¬ (Sum.inr a : Key) = Sum.inr b := fun q => e (Sum.inr.inj q)
    rw [decide_eq_false h, decide_eq_false e]
theorem key_lr (a : Int) (b : Str) : decide ((Sum.inl a : Key) = Sum.inr b) = false := decide_eq_false (fun q => nomatch q)
theorem key_rl (a : Str) (b : Int) : decide ((Sum.inr a : Key) = Sum.inl b) = false := decide_eq_false (fun q => nomatch q)
def mixKind (prog : Program) (w : World) : PySem.KeyKind prog w Key where
  is := keyIs
  hash := keyH w
  inj := fun v a b ha hb => by
    rcases keyIs_shape ha with ⟨i, t, rfl, rfl⟩ | ⟨x, t, rfl, rfl⟩
    · rcases keyIs_shape hb with ⟨j, u, rfl, e⟩ | ⟨y, u, rfl, e⟩
      · injection e with e1 _; rw [e1]
      · exact nomatch e
    · rcases keyIs_shape hb with ⟨j, u, rfl, e⟩ | ⟨y, u, rfl, e⟩
      · exact nomatch e
      · injection e with e1 _; rw [e1]
  byValue := fun k v h => by
    rcases keyIs_shape h with ⟨i, t, rfl, rfl⟩ | ⟨x, t, rfl, rfl⟩ <;> rfl
  pyHash := fun hv h => by
    rcases keyIs_shape hv with ⟨i, t, rfl, rfl⟩ | ⟨x, t, rfl, rfl⟩
    · exact wpAny_pyHash_int h
    · exact wpAny_pyHash_str h
  eqBool := fun hu hv h => by
    rcases keyIs_shape hu with ⟨i, t, rfl, rfl⟩ | ⟨x, t, rfl, rfl⟩
    · rcases keyIs_shape hv with ⟨j, u, rfl, rfl⟩ | ⟨y, u, rfl, rfl⟩
      · rw [key_ll] at h; exact wpAny_eqBool_int h
      · rw [key_lr] at h; exact SeqAt.EqAt.int_str i t y u _ _ _ _ h
    · rcases keyIs_shape hv with ⟨j, u, rfl, rfl⟩ | ⟨y, u, rfl, rfl⟩
      · rw [key_rl] at h; exact SeqAt.EqAt.str_int x t j u _ _ _ _ h
      · rw [key_rr] at h; exact wpAny_eqBool_str h
  «strs» := fun k x t v h => by
    rcases keyIs_shape h with ⟨i, u, rfl, e⟩ | ⟨y, u, rfl, e⟩
    · exact nomatch e
    · injection e with e1 _
      subst e1
      cases v <;> rfl
end L2
namespace L2
open PySem PySem.Spec PyProof.Rows
inductive V where
  | non | bl (b : Bool) | int (i : Int) | str (x : Str) | byt (b : Array UInt8) | flt (b : UInt64) | ref (a : Addr) | ty (n : String)
  deriving DecidableEq
def RelV : V → Value → Prop
  | .non, u => u = Value.none
  | .bl b, u => u = Value.bool b
  | .int i, u => ∃ t, u = Value.int i t
  | .str x, u => ∃ t, u = Value.str x t
  | .byt b, u => ∃ t, u = Value.bytes b t
  | .flt b, u => ∃ t, u = Value.float b t
  | .ref a, u => u = Value.ref a
  | .ty n, u => u = Value.type n
abbrev Vals : List V → List Value → Prop := Paired RelV
theorem Vals.length {xs : List V} {us : List Value} (r : Vals xs us) : xs.length = us.length := Paired.length r
theorem Vals.get : ∀ {xs : List V} {us : List Value} {i : Nat} {x : V}, Vals xs us → xs[i]? = some x → ∃ u, us[i]? = some u ∧ RelV x u
  | _, _, _, _, .nil, e => by simp at e
  | _, _, 0, _, .cons r _, e => by simp at e; subst e; exact ⟨_, rfl, r⟩
  | _, _, i + 1, x, .cons _ t, e => by
    obtain ⟨u, h1, h2⟩ := Vals.get (i := i) (x := x) t (by simpa using e)
    exact ⟨u, by simpa using h1, h2⟩
theorem Vals.set {x : V} {u : Value} (r : RelV x u) : ∀ {xs : List V} {us : List Value} (i : Nat), Vals xs us → Vals (xs.set i x) (us.set i u)
  | _, _, _, .nil => .nil
  | _, _, 0, .cons _ t => .cons r t
  | _, _, i + 1, .cons q t => .cons q (Vals.set r i t)
theorem Vals.append : ∀ {xs ys : List V} {us ws : List Value}, Vals xs us → Vals ys ws → Vals (xs ++ ys) (us ++ ws)
  | _, _, _, _, .nil, s => s
  | _, _, _, _, .cons r t, s => .cons r (Vals.append t s)
theorem Vals.take : ∀ {xs : List V} {us : List Value} (n : Nat), Vals xs us → Vals (xs.take n) (us.take n)
  | _, _, 0, _ => .nil
  | _, _, _ + 1, .nil => .nil
  | _, _, n + 1, .cons r t => .cons r (Vals.take n t)
theorem Vals.drop : ∀ {xs : List V} {us : List Value} (n : Nat), Vals xs us → Vals (xs.drop n) (us.drop n)
  | _, _, 0, r => r
  | _, _, _ + 1, .nil => .nil
  | _, _, n + 1, .cons _ t => Vals.drop n t
def RelO : Option V → Option Value → Prop
  | some v, some u => RelV v u
  | none, none => True
  | _, _ => False
def KV {κ : Type} : List (κ × V) → List (κ × Value) → Prop := Paired fun (p : κ × V) (q : κ × Value) => p.1 = q.1 ∧ RelV p.2 q.2
def kV : Key → V
  | .inl i => .int i
  | .inr x => .str x
inductive HO where
    | lst (xs : List V)
    | tup (xs : List V)
    | dK (kvs : List (Key × V)) | dT (kvs : List (List Key × V))
    | set (S : Int → Bool) (n : Nat)
    | ins (C dx : Addr) (fs : List (Str × V))
    | own (x : Addr)
    | xd (fs : List (Str × V))
    | met (f x : Addr)
    | rng (lo hi : Int)
    | frz (o : Obj) (u : HO)
    | tbl (ps : Array Value)
    | ext (φ : Heap → Prop)
abbrev Hp := Addr → Option HO
def upd (H : Hp) (a : Addr) (o : HO) : Hp := fun b => if b = a then some o else H b
theorem upd_same {H : Hp} {a : Addr} {o : HO} : upd H a o a = some o := by unfold upd; rw [if_pos rfl]
theorem upd_ne {H : Hp} {a b : Addr} {o : HO} (h : b ≠ a) : upd H a o b = H b := by unfold upd; rw [if_neg h]
theorem ne_of_none {H : Hp} {a b : Addr} {o : HO} (h : H a = some o) (h' : H b = none) : a ≠ b := by
  intro e; subst e; rw [h] at h'; cases h'
section
variable (P : Program) (w : World)
def ObjOk (H : Hp) (h : Heap) (a : Addr) : HO → Prop
  | .lst xs => xs.length ≤ sizeLine ∧ ∃ (its : List Value) (n : Nat), Vals xs its ∧ h.get? a = some { cls := .type "list", data := .seq its.toArray n }
  | .tup xs => xs.length ≤ sizeLine ∧ ∃ its : List Value, Vals xs its ∧ IsTup h a its.toArray
  | .dK kvs => kvs.length ≤ sizeLine ∧ (a == sysModules) = false ∧ ∃ vs, KV kvs vs ∧ h.DictOf (mixKind P w) a vs
  | .dT kvs => kvs.length ≤ sizeLine ∧ (a == sysModules) = false ∧ ∃ xs : List (List Key × Addr × Value),
      Paired (fun (p : List Key × V) (q : List Key × Addr × Value) => p.1 = q.1 ∧ H q.2.1 = some (.tup (p.1.map kV)) ∧ RelV p.2 q.2.2) kvs xs ∧
      ∃ o es ep, h.get? a = some o ∧ o.ExactDict ∧ o.data = .dict es ep ∧ es.toList = xs.map (entryOfKey (tupleKind (mixKind P w))) ∧ (xs.map (·.1)).Nodup
  | .set S n => h.SetOf (intKind P w) a S n
  | .ins C dx fs => H dx = some (.own a) ∧ fs.length ≤ 1000 ∧ dx ≠ a ∧ h.get? a = some (PySem.W.instObj C dx) ∧
      ∃ mA, h.Ns1 dx mA ∧ (∀ f, RelO (fs.lookup f) (mA f)) ∧ PySem.Within mA (fs.map (·.1))
  | .own _ => ∃ o, h.get? a = some o
  | .xd fs => ∃ mA, h.Ns1 a mA ∧ ∀ f, RelO (fs.lookup f) (mA f)
  | .rng lo hi => ∃ t u v, h.get? a = some { cls := .type "range", data := .fields #[.int lo t, .int hi u, .int 1 v] }
  | .frz o u => h.get? a = some o ∧ ObjOk H h a u
  | .tbl ps => h.get? a = some { cls := .none, data := .fields ps }
  | .met f x => h.get? a = some (PySem.W.methodObj (.ref f) (.ref x))
  | .ext φ => φ h ∧ (∃ o, h.get? a = some o) ∧ ∀ h1 h2 : Heap, φ h1 → (∀ o, h1.get? a = some o → h2.get? a = some o) → φ h2
def HOk (H : Hp) (h : Heap) : Prop := ∀ a o, H a = some o → ObjOk P w H h a o
end
section
variable {P : Program} {w : World} {H H' : Hp} {h h' : Heap} {a : Addr} {o : HO}
theorem ObjOk.lt (x : ObjOk P w H h a o) : a < h.objs.size := by
  cases o with
  | lst xs => obtain ⟨_, _, _, _, e⟩ := x; exact Heap.lt_size e
  | tup xs => obtain ⟨_, _, _, p⟩ := x; exact p.lt
  | dK kvs => obtain ⟨_, _, _, _, o, _, _, e, _⟩ := x; exact Heap.lt_size e
  | dT kvs => obtain ⟨_, _, _, _, o, _, _, e, _⟩ := x; exact Heap.lt_size e
  | set S n => obtain ⟨o, _, _, _, e, _⟩ := x; exact Heap.lt_size e
  | ins C dx fs => obtain ⟨_, _, _, e, _⟩ := x; exact Heap.lt_size e
  | own y => obtain ⟨_, e⟩ := x; exact Heap.lt_size e
  | xd fs => obtain ⟨_, ⟨_, _, _, e, _⟩, _⟩ := x; exact Heap.lt_size e
  | rng lo hi => obtain ⟨_, _, _, e⟩ := x; exact Heap.lt_size e
  | frz ob u => obtain ⟨e, _⟩ := x; exact Heap.lt_size e
  | tbl ps => exact Heap.lt_size (show h.get? a = some _ from x)
  | met f y => exact Heap.lt_size (show h.get? a = some _ from x)
  | ext φ => obtain ⟨_, ⟨_, e⟩, _⟩ := x; exact Heap.lt_size e
theorem Paired.mapP {α β : Type} {F G : α → β → Prop} : ∀ {l₁ : List α} {l₂ : List β}, Paired F l₁ l₂ → (∀ a b, F a b → G a b) → Paired G l₁ l₂
  | _, _, .nil, _ => .nil
  | _, _, .cons r t, f => .cons (f _ _ r) (Paired.mapP t f)
theorem ObjOk.stay (x : ObjOk P w H h a o) (k : ∀ b u, (b = a ∨ H b = some (.own a)) → h.get? b = some u → h'.get? b = some u)
    (ho : ∀ b, H b = some (.own a) → H' b = some (.own a)) (ht : ∀ b xs, H b = some (.tup xs) → H' b = some (.tup xs)) : ObjOk P w H' h' a o := by
  induction o with
  | lst xs => obtain ⟨z, its, n, r, e⟩ := x; exact ⟨z, its, n, r, k _ _ (.inl rfl) e⟩
  | tup xs => obtain ⟨z, its, r, ob, e, c⟩ := x; exact ⟨z, its, r, ob, k _ _ (.inl rfl) e, c⟩
  | dK kvs => obtain ⟨z, y, vs, r, ob, es, ep, e, c⟩ := x; exact ⟨z, y, vs, r, ob, es, ep, k _ _ (.inl rfl) e, c⟩
  | dT kvs =>
    obtain ⟨z, y, xs, r, ob, es, ep, e, c⟩ := x
    exact ⟨z, y, xs, Paired.mapP r fun p q z => ⟨z.1, ht _ _ z.2.1, z.2.2⟩, ob, es, ep, k _ _ (.inl rfl) e, c⟩
  | set S n => obtain ⟨ob, es, ep, t, e, c⟩ := x; exact ⟨ob, es, ep, t, k _ _ (.inl rfl) e, c⟩
  | ins C dx fs =>
    obtain ⟨d, z, ne, e, mA, ⟨od, es, ep, e2, c⟩, r⟩ := x
    exact ⟨ho _ d, z, ne, k _ _ (.inl rfl) e, mA, ⟨od, es, ep, k _ _ (.inr d) e2, c⟩, r⟩
  | own y => obtain ⟨ob, e⟩ := x; exact ⟨ob, k _ _ (.inl rfl) e⟩
  | xd fs => obtain ⟨mA, ⟨od, es, ep, e, c⟩, r⟩ := x; exact ⟨mA, ⟨od, es, ep, k _ _ (.inl rfl) e, c⟩, r⟩
  | rng lo hi => obtain ⟨t, u, v, e⟩ := x; exact ⟨t, u, v, k _ _ (.inl rfl) e⟩
  | frz ob u ih => obtain ⟨e, q⟩ := x; exact ⟨k _ _ (.inl rfl) e, ih q⟩
  | tbl ps =>
    have e : h.get? a = some { cls := .none, data := .fields ps } := x
    show h'.get? a = some { cls := .none, data := .fields ps }
    exact k a _ (.inl rfl) e
  | met f y =>
    have e : h.get? a = some (PySem.W.methodObj (.ref f) (.ref y)) := x
    show h'.get? a = some (PySem.W.methodObj (.ref f) (.ref y))
    exact k a _ (.inl rfl) e
  | ext φ => obtain ⟨p, ⟨o, e⟩, st⟩ := x; exact ⟨st _ _ p fun o q => k _ _ (.inl rfl) q, ⟨o, k _ _ (.inl rfl) e⟩, st⟩
theorem HOk.lt (x : HOk P w H h) (e : H a = some o) : a < h.objs.size := (x a o e).lt
theorem HOk.fresh (x : HOk P w H h) (e : h.objs.size ≤ a) : H a = none := by
  cases q : H a with
  | none => rfl
  | some u => exact absurd (Nat.lt_of_lt_of_le (x.lt q) e) (Nat.lt_irrefl _)
theorem HOk.kept (x : HOk P w H h) (k : ∀ b u, h.get? b = some u → h'.get? b = some u) : HOk P w H h' := fun a o e =>
  (x a o e).stay (fun b u _ q => k b u q) (fun _ q => q) fun _ _ q => q
theorem HOk.laid (x : HOk P w H h) (k : ∀ b u, h.get? b = some u → h'.get? b = some u) (hp : h.objs.size ≤ a) (new : ObjOk P w (upd H a o) h' a o) : HOk P w (upd H a o) h' := fun b u e => by
  have hn := x.fresh hp
  by_cases hb : b = a
  · subst hb; rw [upd_same] at e; cases e; exact new
  · rw [upd_ne hb] at e
    exact (x b u e).stay (fun c v _ q => k c v q) (fun c q => by rw [upd_ne (ne_of_none q hn)]; exact q) fun c xs q => by rw [upd_ne (ne_of_none q hn)]; exact q
end
def Rd (H : Hp) (a : Addr) (u : HO) : Prop := H a = some u ∨ ∃ o, H a = some (.frz o u)
theorem Rd.ok {P : Program} {w : World} {H : Hp} {h : Heap} {a : Addr} {u : HO} (r : Rd H a u) (x : HOk P w H h) : ObjOk P w H h a u := by
  rcases r with r | ⟨o, r⟩
  · exact x a u r
  · obtain ⟨_, q⟩ := x a _ r
    exact q
def Mut : Option HO → Prop
  | some (.lst _) => True
  | some (.dK _) => True
  | some (.dT _) => True
  | some (.set _ _) => True
  | some (.ins _ _ _) => True
  | some (.ext _) => True
  | _ => False
section
variable {P : Program} {w : World} {H : Hp} {h h' : Heap} {x e : Addr} {o' : HO}
theorem HOk.write (ok : HOk P w H h) (mu : Mut (H x)) (he : e = x ∨ H e = some (.own x)) (k : ∀ b u, b ≠ e → h.get? b = some u → h'.get? b = some u) (heo : ∃ u, h'.get? e = some u)
    (new : ObjOk P w (upd H x o') h' x o') : HOk P w (upd H x o') h' := fun b u q => by
  have nown : ∀ c y, H c = some (.own y) → c ≠ x := fun c y r z => by subst z; rw [r] at mu; exact mu
  have ntup : ∀ c xs, H c = some (.tup xs) → c ≠ x := fun c xs r z => by subst z; rw [r] at mu; exact mu
  by_cases hb : b = x
  · subst hb; rw [upd_same] at q; cases q; exact new
  · rw [upd_ne hb] at q
    by_cases hbe : b = e
    · have q' : H b = some (.own x) := by
        rcases he with z | z
        · exact absurd (hbe.trans z) hb
        · rw [hbe]; exact z
      rw [q] at q'; cases q'
      obtain ⟨v, hv⟩ := heo
      exact ⟨v, by rw [hbe]; exact hv⟩
    · refine (ok b u q).stay (fun c v hc r => k c v ?_ r) (fun c r => by rw [upd_ne (nown c b r)]; exact r) fun c xs r => by rw [upd_ne (ntup c xs r)]; exact r
      rcases hc with rfl | hc
      · exact hbe
      · rintro rfl
        rcases he with z | z
        · exact nown c b hc z
        · rw [hc] at z; cases z; exact hb rfl
end
structure Un (fs ex : List Addr) (H H' : Hp) (h h' : Heap) : Prop where
  keep : ∀ b o, h.get? b = some o → H b = none → b ∉ fs → b ∉ ex → h'.get? b = some o
  slot : ∀ b o, h.get? b = some o → H b = none → b ∈ fs → b ∉ ex → ∃ sl, h'.get? b = some { o with slots := sl }
  free : ∀ b o, h.get? b = some o → H b = none → b ∉ ex → H' b = none
  there : ∀ b o, h.get? b = some o → b ∉ ex → ∃ o', h'.get? b = some o'
  tups : ∀ b xs, H b = some (.tup xs) → H' b = some (.tup xs)
  frzs : ∀ b o u, H b = some (.frz o u) → H' b = some (.frz o u)
  tbls : ∀ b ps, H b = some (.tbl ps) → ∃ more, H' b = some (.tbl (ps ++ more))
section
variable {fs fs' ex ex' : List Addr} {H H1 H2 : Hp} {h h1 h2 h' : Heap} {a x e : Addr} {o : HO}
theorem Un.any (u : Un fs ex H H1 h h1) {b : Addr} {ob : Obj} (q : h.get? b = some ob) (n : H b = none) (hx : b ∉ ex) : ∃ sl, h1.get? b = some { ob with slots := sl } := by
  by_cases hb : b ∈ fs
  · exact u.slot b ob q n hb hx
  · exact ⟨ob.slots, u.keep b ob q n hb hx⟩
theorem Un.kept (k : ∀ b u, h.get? b = some u → h'.get? b = some u) : Un fs ex H H h h' :=
  ⟨fun b ob q _ _ _ => k b ob q, fun b ob q _ _ _ => ⟨ob.slots, k b ob q⟩, fun _ _ _ n _ => n, fun b ob q _ => ⟨ob, k b ob q⟩, fun _ _ q => q, fun _ _ _ q => q, fun _ ps q => ⟨#[], by rw [q]; simp⟩⟩
theorem Un.refl : Un fs ex H H h h := Un.kept fun _ _ q => q
theorem Un.laid (k : ∀ b u, h.get? b = some u → h'.get? b = some u) (hp : h.objs.size ≤ a) (hn : H a = none) : Un fs ex H (upd H a o) h h' where
  keep := fun b u q _ _ _ => k b u q
  slot := fun b u q _ _ _ => ⟨u.slots, k b u q⟩
  free := fun b u q n _ => by rw [upd_ne (Nat.ne_of_lt (Nat.lt_of_lt_of_le (Heap.lt_size q) hp))]; exact n
  there := fun b u q _ => ⟨u, k b u q⟩
  tups := fun b xs q => by rw [upd_ne (ne_of_none q hn)]; exact q
  frzs := fun b u xs q => by rw [upd_ne (ne_of_none q hn)]; exact q
  tbls := fun b ps q => ⟨#[], by rw [upd_ne (ne_of_none q hn), q]; simp⟩
theorem Un.write (mu : Mut (H x)) (he : e = x ∨ H e = some (.own x)) (k : ∀ b u, b ≠ e → h.get? b = some u → h'.get? b = some u) (heo : ∃ u, h'.get? e = some u) : Un fs ex H (upd H x o) h h' := by
  have hx : ∀ b, H b = none → b ≠ x := fun b n z => by subst z; rw [n] at mu; exact mu
  have hb : ∀ b, H b = none → b ≠ e := fun b n z => by
    subst z
    rcases he with r | r
    · exact hx b n r
    · rw [n] at r; cases r
  have hm : ∀ b u, H b = some u → ¬ Mut (some u) → b ≠ x := fun b u q nm z => by subst z; rw [q] at mu; exact nm mu
  refine ⟨fun b u q n _ _ => k b u (hb b n) q, fun b u q n _ _ => ⟨u.slots, k b u (hb b n) q⟩, fun b u q n _ => by rw [upd_ne (hx b n)]; exact n, fun b u q _ => ?_,
    fun b xs q => by rw [upd_ne (hm b _ q fun z => z)]; exact q, fun b u xs q => by rw [upd_ne (hm b _ q fun z => z)]; exact q, fun b ps q => ⟨#[], by rw [upd_ne (hm b _ q fun z => z), q]; simp⟩⟩
  by_cases hbe : b = e
  · subst hbe; exact heo
  · exact ⟨u, k b u hbe q⟩
theorem Un.mono (u : Un fs ex H H1 h h1) (hs : ∀ b ∈ fs, b ∈ fs') (hx : ∀ b ∈ ex, b ∈ ex') : Un fs' ex' H H1 h h1 :=
  ⟨fun b ob q n hb he => u.keep b ob q n (fun z => hb (hs b z)) fun z => he (hx b z), fun _ _ q n _ he => u.any q n fun z => he (hx _ z), fun b ob q n he => u.free b ob q n fun z => he (hx b z), fun b ob q he => u.there b ob q fun z => he (hx b z), u.tups, u.frzs, u.tbls⟩
end
def trk (h : Heap) (H : Hp) : List Addr := (List.range h.objs.size).filter fun a => (H a).isSome
def hidT (h : Heap) (H : Hp) : Heap := PySem.W.hideAll h (trk h H)
theorem hidT_size (h : Heap) (H : Hp) : (hidT h H).objs.size = h.objs.size := PySem.W.hideAll_size _ _
theorem hidT_get {h : Heap} {H : Hp} {b : Addr} {o : Obj} (e : h.get? b = some o) (n : H b = none) : (hidT h H).get? b = some o :=
  PySem.W.hideAll_get _ e fun hm => by
    have q : (H b).isSome = true := (List.mem_filter.mp hm).2
    rw [n] at q; simp at q
theorem of_hidT {h : Heap} {H : Hp} {b : Addr} {o : Obj} (e : (hidT h H).get? b = some o) : h.get? b = some o ∧ H b = none := by
  have e' : h.get? b = some o := PySem.W.of_hideAll (trk h H) e
  refine ⟨e', ?_⟩
  cases q : H b with
  | none => rfl
  | some x =>
    have hm : b ∈ trk h H := List.mem_filter.mpr ⟨List.mem_range.mpr (Heap.lt_size e'), by simp [q]⟩
    have z : (hidT h H).get? b = none := PySem.W.hideAll_none (trk h H) hm
    rw [z] at e; cases e
def allNews (g h : Heap) (L : Addr) : List (Addr × Obj) := (List.range h.objs.size).filterMap fun a => if a = L ∨ (g.get? a).isSome = true then none else (h.get? a).map fun o => (a, o)
def rest (g h : Heap) (L d : Addr) : List (Addr × Obj) := (allNews g h L).filter fun p => decide (p.1 ≠ d)
end L2
namespace L2
open PySem PySem.Spec PyProof.Rows
structure Mod (K : PySem.W.Frag) (mg : Str → Option Value) (base : Heap) : Prop where
  kin : K.In base
  glob : base.Ns mainGlobals mg
  blt : ∃ mb, base.Ns builtinsNs mb ∧ ∀ x : Str, x ≠ "__name__" → mb x = bootBuiltins x
  nolimit : base.NoLimit
structure Cx where
  prog : Program
  w : World
  K : PySem.W.Frag
  mg : Str → Option Value
  base : Heap
  A : Around
  N : List Str
  s₀ : Shared
  H₀ : Hp
  env : Env
  outer : List Env
  stack : List Env
  ex : List Addr
  fn : Str → Bool
  calm : Bool
  pn : List (Addr × Obj)
  xe : Value → Shared → Prop
def frs (l : List Env) : List Addr := l.filterMap (·.frame)
abbrev Cx.fs (X : Cx) : List Addr := frs X.outer
def Vis (sc : Scope) (x : Str) : Prop := sc.names.lookup x = some .local ∨ sc.names.lookup x = some .cell ∨ sc.names.lookup x = some .free
def Loc (sc : Scope) (x : Str) : Prop := sc.names.lookup x = some .local ∨ sc.names.lookup x = some .cell
def Look (env : Env) (h : Heap) (m : Str → Option Value) (x : Str) (u : Value) : Prop :=
  (env.kindOf x = some .local ∧ m x = some u) ∨ ((env.kindOf x = some .cell ∨ env.kindOf x = some .free) ∧ ∃ c, env.cells.lookup x = some c ∧ h.IsCell c (some u))
structure Cx.Ok (X : Cx) : Prop where
  mod : Mod X.K X.mg X.base
  kind : X.env.scope.kind = .function
  glob : X.env.globals = mainGlobals
  blt : X.env.builtins = builtinsNs
  above : X.s₀.heap.objs.size ≤ X.env.locals
  inj : ∀ x y c, X.env.cells.lookup x = some c → X.env.cells.lookup y = some c → x = y
  has : ∀ x, (X.env.kindOf x = some .cell ∨ X.env.kindOf x = some .free) → ∃ c, X.env.cells.lookup x = some c
  cab : ∀ x c, X.fn x = true → X.env.cells.lookup x = some c → X.s₀.heap.objs.size ≤ c
  hd : X.calm = true → X.A.handled = none
  frames : X.A.frames = some X.stack
  stk : X.stack = X.outer ∨ (X.stack = X.env :: X.outer ∧ X.env.frame = some X.env.locals)
  exf : ∀ b ∈ X.ex, b ≠ X.env.locals ∧ ∀ x c, X.env.cells.lookup x = some c → c ≠ b
  bs : ∀ b o, X.base.get? b = some o → X.s₀.heap.get? b = some o ∧ X.H₀ b = none
  bsz : X.base.objs.size ≤ X.s₀.heap.objs.size
  noex : ∀ b o, X.base.get? b = some o → b ∉ X.ex
  exfs : ∀ b ∈ X.ex, b ∉ X.fs
  funs : X.s₀.heap.FunFrames X.base X.outer
  frf : ∀ b ∈ X.fs, X.H₀ b = none
structure Inv (X : Cx) (pins : List (Addr × Obj)) (σ : List (Option V)) (H : Hp) (s : Shared) : Prop where
  ok : X.Ok
  os : s.os = X.s₀.os
  bare : AllBare s.gens
  base : Un X.fs X.ex X.H₀ H X.s₀.heap s.heap
  loc : ∃ m, s.heap.Ns X.env.locals m ∧ ∀ (i : Nat) (x : Str) (v : V), X.N[i]? = some x → σ[i]? = some (some v) → Vis X.env.scope x → ∃ u, RelV v u ∧ Look X.env s.heap m x u
  cell : ∀ x c, X.env.cells.lookup x = some c → ∃ v, s.heap.IsCell c v
  free : H X.env.locals = none
  freeC : ∀ x c, X.env.cells.lookup x = some c → H c = none
  pin : ∀ p ∈ X.pn ++ pins, s.heap.get? p.1 = some p.2 ∧ H p.1 = none ∧ p.1 ≠ X.env.locals ∧ p.1 ∉ X.fs ∧ ∀ v, p.2.data ≠ .cell v
  hok : HOk X.prog X.w H s.heap
  len : σ.length = X.N.length
section
variable {X : Cx} {pins : List (Addr × Obj)} {σ : List (Option V)} {H H' : Hp} {s : Shared} {h' : Heap}
theorem Cx.Ok.nofr (ok : X.Ok) {b : Addr} {o : Obj} (e : X.base.get? b = some o) : b ∉ X.fs := fun hb => by
  have := (ok.funs.mem hb).1
  rw [e] at this; cases this
theorem Inv.bs (I : Inv X pins σ H s) : ∀ b o, X.base.get? b = some o → s.heap.get? b = some o ∧ H b = none := fun b o e =>
  ⟨I.base.keep b o (I.ok.bs b o e).1 (I.ok.bs b o e).2 (I.ok.nofr e) (I.ok.noex b o e), I.base.free b o (I.ok.bs b o e).1 (I.ok.bs b o e).2 (I.ok.noex b o e)⟩
theorem Inv.bk (I : Inv X pins σ H s) : ∀ b o, X.base.get? b = some o → s.heap.get? b = some o := fun b o e => (I.bs b o e).1
theorem Inv.mod (I : Inv X pins σ H s) : Mod X.K X.mg X.base := I.ok.mod
theorem Inv.kIn (I : Inv X pins σ H s) : X.K.In s.heap := I.ok.mod.kin.keeps I.bk
theorem Inv.fr (I : Inv X pins σ H s) : ∃ m, Fr X.base X.env.locals s.heap m :=
  let ⟨m, hn, _⟩ := I.loc
  ⟨m, hn, I.bk, Nat.le_trans I.ok.bsz I.ok.above⟩
theorem Inv.lt (I : Inv X pins σ H s) : X.env.locals < s.heap.objs.size := let ⟨_, hn, _⟩ := I.loc; hn.lt
theorem Inv.sz (I : Inv X pins σ H s) : X.s₀.heap.objs.size ≤ s.heap.objs.size := Nat.le_trans I.ok.above (Nat.le_of_lt I.lt)
theorem Inv.nofs (I : Inv X pins σ H s) {a : Addr} (h : s.heap.objs.size ≤ a) : a ∉ X.fs := fun hb => by
  obtain ⟨_, o, ho, _⟩ := I.ok.funs.mem hb
  exact absurd (Nat.lt_of_lt_of_le (Heap.lt_size ho) (Nat.le_trans I.sz h)) (Nat.lt_irrefl _)
theorem Inv.cne (I : Inv X pins σ H s) : ∀ x c, X.env.cells.lookup x = some c → c ≠ X.env.locals := fun x c e z => by
  obtain ⟨v, o, ho, hd⟩ := I.cell x c e
  obtain ⟨m, ⟨o', es, ep, ho', hd', _⟩, _⟩ := I.loc
  rw [z, ho'] at ho; cases ho; rw [hd'] at hd; cases hd
theorem Inv.funs (I : Inv X pins σ H s) : s.heap.FunFrames X.base X.outer := by
  have all : ∀ (l : List Env), (∀ b ∈ frs l, b ∈ X.fs) → X.s₀.heap.FunFrames X.base l → s.heap.FunFrames X.base l := by
    intro l
    induction l with
    | nil => intro _ _; trivial
    | cons env r ih =>
      intro hs hl
      obtain ⟨hk, ⟨L, o, hf, hn, ho, hd⟩, hr⟩ := hl
      have hL : L ∈ X.fs := hs L (by unfold frs; rw [List.filterMap_cons, hf]; exact List.mem_cons_self)
      obtain ⟨sl, e⟩ := I.base.slot L o ho (I.ok.frf L hL) hL fun z => I.ok.exfs L z hL
      exact ⟨hk, ⟨L, _, hf, hn, e, hd⟩, ih (fun b hb => hs b (by unfold frs; rw [List.filterMap_cons, hf]; exact List.mem_cons_of_mem _ hb)) hr⟩
  exact all X.outer (fun _ hb => hb) I.ok.funs
theorem Inv.stack (I : Inv X pins σ H s) : s.heap.FunFrames X.base X.stack := by
  rcases I.ok.stk with e | ⟨e, hf⟩
  · rw [e]; exact I.funs
  · rw [e]
    obtain ⟨m, hn, _⟩ := I.loc
    refine .cons (by rw [I.ok.kind]; decide) hf hn ?_ I.funs
    exact Heap.get?_none_of_le (Nat.le_trans I.ok.bsz I.ok.above)
theorem Inv.stkSub (I : Inv X pins σ H s) : ∀ b ∈ frs X.stack, b ∈ X.env.locals :: X.fs := fun b hb => by
  rcases I.ok.stk with e | ⟨e, hf⟩
  · rw [e] at hb; exact List.mem_cons_of_mem _ hb
  · rw [e] at hb
    unfold frs at hb
    rw [List.filterMap_cons, hf] at hb
    exact hb
theorem Inv.stkFree (I : Inv X pins σ H s) : ∀ b ∈ frs X.stack, H b = none := fun b hb => by
  rcases List.mem_cons.mp (I.stkSub b hb) with e | hb
  · rw [e]; exact I.free
  · obtain ⟨_, o, ho, _⟩ := I.ok.funs.mem hb
    exact I.base.free b o ho (I.ok.frf b hb) fun z => I.ok.exfs b z hb
theorem Inv.step {g' : Array GenState} {t' : Nat} {d' : Drawn} {ch : List Addr} (I : Inv X pins σ H s)
    (hch : ∀ b ∈ ch, (b ∈ X.ex ∨ X.s₀.heap.objs.size ≤ b) ∧ b ≠ X.env.locals ∧ (∀ x c, X.env.cells.lookup x = some c → c ≠ b) ∧ ∀ p ∈ X.pn ++ pins, p.1 ≠ b)
    (keep : ∀ b o, b ≠ X.env.locals → b ∉ X.fs → b ∉ ch → s.heap.get? b = some o → H b = none → h'.get? b = some o)
    (slot : ∀ b o, b ≠ X.env.locals → b ∈ X.fs → b ∉ ch → s.heap.get? b = some o → H b = none → ∃ sl, h'.get? b = some { o with slots := sl }) (free : ∀ b o, b ∉ ch → s.heap.get? b = some o → H b = none → H' b = none)
    (there : ∀ b o, b ∉ ch → s.heap.get? b = some o → ∃ o', h'.get? b = some o')
    (tups : ∀ b xs, H b = some (.tup xs) → H' b = some (.tup xs)) (frzs : ∀ b o u, H b = some (.frz o u) → H' b = some (.frz o u)) (tbls : ∀ b ps, H b = some (.tbl ps) → ∃ more, H' b = some (.tbl (ps ++ more)))
    (ns : ∀ m, s.heap.Ns X.env.locals m → h'.Ns X.env.locals m) (hok : HOk X.prog X.w H' h') (hg : AllBare g') :
    Inv X pins σ H' { s with heap := h', gens := g', drawn := d', toks := t' } := by
  have neL : ∀ b o, X.s₀.heap.get? b = some o → b ≠ X.env.locals := fun b o e => Nat.ne_of_lt (Nat.lt_of_lt_of_le (Heap.lt_size e) I.ok.above)
  have neC : ∀ b o, X.s₀.heap.get? b = some o → b ∉ X.ex → b ∉ ch := fun b o e hx hb => by
    rcases (hch b hb).1 with z | z
    · exact hx z
    · exact absurd (Nat.lt_of_lt_of_le (Heap.lt_size e) z) (Nat.lt_irrefl _)
  have cellK : ∀ x c, X.env.cells.lookup x = some c → ∀ v, s.heap.IsCell c v → h'.IsCell c v := fun x c e v ⟨o, ho, hd⟩ => by
    have nch : c ∉ ch := fun z => (hch c z).2.2.1 x c e rfl
    by_cases hc : c ∈ X.fs
    · obtain ⟨sl, q⟩ := slot c o (I.cne x c e) hc nch ho (I.freeC x c e)
      exact ⟨_, q, hd⟩
    · exact ⟨o, keep c o (I.cne x c e) hc nch ho (I.freeC x c e), hd⟩
  refine ⟨I.ok, I.os, hg, ⟨fun b o e n hb hx => ?_, fun b o e n hb hx => ?_, fun b o e n hx => ?_, fun b o e hx => ?_, fun b xs e => tups b xs (I.base.tups b xs e), fun b o xs e => frzs b o xs (I.base.frzs b o xs e), fun b ps e => ?_⟩, ?_, fun x c e => ?_, ?_, fun x c e => ?_, fun p hp => ?_, hok, I.len⟩
  · exact keep b o (neL b o e) hb (neC b o e hx) (I.base.keep b o e n hb hx) (I.base.free b o e n hx)
  · obtain ⟨sl, e1⟩ := I.base.slot b o e n hb hx
    obtain ⟨sl', e2⟩ := slot b _ (neL b o e) hb (neC b o e hx) e1 (I.base.free b o e n hx)
    exact ⟨sl', e2⟩
  · obtain ⟨o', e1⟩ := I.base.there b o e hx
    exact free b o' (neC b o e hx) e1 (I.base.free b o e n hx)
  · obtain ⟨o', e1⟩ := I.base.there b o e hx
    exact there b o' (neC b o e hx) e1
  · obtain ⟨m1, e1⟩ := I.base.tbls b ps e
    obtain ⟨m2, e2⟩ := tbls b _ e1
    exact ⟨m1 ++ m2, by rw [e2, Array.append_assoc]⟩
  · obtain ⟨m, hn, hl⟩ := I.loc
    refine ⟨m, ns m hn, fun i x v e1 e2 e3 => ?_⟩
    obtain ⟨u, r, l⟩ := hl i x v e1 e2 e3
    refine ⟨u, r, ?_⟩
    rcases l with l | ⟨k, c, e, z⟩
    · exact .inl l
    · exact .inr ⟨k, c, e, cellK x c e _ z⟩
  · obtain ⟨v, z⟩ := I.cell x c e
    exact ⟨v, cellK x c e v z⟩
  · obtain ⟨m, ⟨o, _, _, ho, _⟩, _⟩ := I.loc
    exact free _ o (fun z => (hch _ z).2.1 rfl) ho I.free
  · obtain ⟨v, o, ho, hd⟩ := I.cell x c e
    exact free c o (fun z => (hch c z).2.2.1 x c e rfl) ho (I.freeC x c e)
  · obtain ⟨e, n, ne, nf, d⟩ := I.pin p hp
    have nch : p.1 ∉ ch := fun z => (hch p.1 z).2.2.2 p hp rfl
    exact ⟨keep p.1 p.2 ne nf nch e n, free p.1 p.2 nch e n, ne, nf, d⟩
theorem Inv.un {t' : Nat} (I : Inv X pins σ H s) (u : Un X.fs [] H H' s.heap h') (hok : HOk X.prog X.w H' h') : Inv X pins σ H' { s with heap := h', toks := t' } := by
  obtain ⟨m, ⟨o, es, ep, ho, r⟩, _⟩ := id I.loc
  obtain ⟨sl, hL⟩ := u.any ho I.free (by simp)
  exact I.step (g' := s.gens) (d' := s.drawn) (ch := []) (fun _ z => nomatch z) (fun b o _ hb _ e n => u.keep b o e n hb (by simp)) (fun b o _ hb _ e n => u.slot b o e n hb (by simp)) (fun b o _ e n => u.free b o e n (by simp)) (fun b o _ e => u.there b o e (by simp)) u.tups u.frzs u.tbls (fun m' hm => by
    obtain ⟨o', es', ep', ho', r'⟩ := hm
    rw [ho] at ho'; cases ho'
    exact ⟨_, es', ep', hL, r'⟩) hok I.bare
theorem Inv.call {g' : Array GenState} {t' : Nat} {d' : Drawn} {ch : List Addr} (I : Inv X pins σ H s) (u : Un (frs X.stack) ch H H' s.heap h') (hok : HOk X.prog X.w H' h') (hg : AllBare g')
    (hch : ∀ b ∈ ch, (b ∈ X.ex ∨ X.s₀.heap.objs.size ≤ b) ∧ b ≠ X.env.locals ∧ (∀ x c, X.env.cells.lookup x = some c → c ≠ b) ∧ ∀ p ∈ X.pn ++ pins, p.1 ≠ b) :
    Inv X pins σ H' { s with heap := h', gens := g', drawn := d', toks := t' } := by
  obtain ⟨m, ⟨o, es, ep, ho, r⟩, _⟩ := id I.loc
  obtain ⟨sl, hL⟩ := u.any ho I.free fun z => (hch _ z).2.1 rfl
  exact I.step (ch := ch) hch (fun b o hL hb hc e n => u.keep b o e n (fun z => (List.mem_cons.mp (I.stkSub b z)).elim hL hb) hc) (fun b o _ _ hc e n => u.any e n hc) (fun b o hc e n => u.free b o e n hc) (fun b o hc e => u.there b o e hc) u.tups u.frzs u.tbls (fun m' hm => by
    obtain ⟨o', es', ep', ho', r'⟩ := hm
    rw [ho] at ho'; cases ho'
    exact ⟨_, es', ep', hL, r'⟩) hok hg
theorem Inv.turned {t' : Nat} {it : Addr} (I : Inv X pins σ H s) (k : ∀ b o, b ≠ it → s.heap.get? b = some o → h'.get? b = some o) (hn : H it = none) (hL : it ≠ X.env.locals)
    (h1 : it ∈ X.ex ∨ X.s₀.heap.objs.size ≤ it) (h2 : ∀ x c, X.env.cells.lookup x = some c → c ≠ it) (h3 : ∀ p ∈ X.pn ++ pins, p.1 ≠ it) : Inv X pins σ H { s with heap := h', toks := t' } := by
  have nit : ∀ b u, H b = some u → b ≠ it := fun b u e z => by rw [z, hn] at e; cases e
  refine I.step (g' := s.gens) (d' := s.drawn) (ch := [it]) (fun b hb => ?_) (fun b o _ _ hc e _ => k b o (fun z => hc (by simp [z])) e) (fun b o _ _ hc e _ => ⟨o.slots, k b o (fun z => hc (by simp [z])) e⟩) (fun _ _ _ _ n => n)
    (fun b o hc e => ⟨o, k b o (fun z => hc (by simp [z])) e⟩) (fun _ _ e => e) (fun _ _ _ e => e) (fun b ps e => ⟨#[], by rw [e]; simp⟩) (fun m hm => ?_) (fun b u e => ?_) I.bare
  · have e : b = it := by simpa using hb
    subst e
    exact ⟨h1, hL, h2, h3⟩
  · obtain ⟨o, es, ep, ho, r⟩ := hm
    exact ⟨o, es, ep, k _ o (Ne.symm hL) ho, r⟩
  · refine (I.hok b u e).stay (fun c v hc q => k c v ?_ q) (fun _ q => q) fun _ _ q => q
    rcases hc with z | z
    · rw [z]; exact nit b u e
    · exact nit c _ z
theorem Inv.tok (I : Inv X pins σ H s) (t : Nat) : Inv X pins σ H { s with toks := t } := I.un (h' := s.heap) (t' := t) Un.refl I.hok
theorem Inv.kept {t' : Nat} (I : Inv X pins σ H s) (k : ∀ b u, s.heap.get? b = some u → h'.get? b = some u) : Inv X pins σ H { s with heap := h', toks := t' } := I.un (Un.kept k) (I.hok.kept k)
theorem Inv.laid {a : Addr} {o : HO} {t' : Nat} (I : Inv X pins σ H s) (k : ∀ b u, s.heap.get? b = some u → h'.get? b = some u) (hp : s.heap.objs.size ≤ a) (new : ObjOk X.prog X.w (upd H a o) h' a o) :
    Inv X pins σ (upd H a o) { s with heap := h', toks := t' } := I.un (Un.laid k hp (I.hok.fresh hp)) (I.hok.laid k hp new)
theorem Inv.write {x e : Addr} {o : HO} {t' : Nat} (I : Inv X pins σ H s) (mu : Mut (H x)) (he : e = x ∨ H e = some (.own x)) (k : ∀ b u, b ≠ e → s.heap.get? b = some u → h'.get? b = some u) (heo : ∃ u, h'.get? e = some u)
    (new : ObjOk X.prog X.w (upd H x o) h' x o) : Inv X pins σ (upd H x o) { s with heap := h', toks := t' } := I.un (Un.write mu he k heo) (I.hok.write mu he k heo new)
theorem Inv.weak {σ' : List (Option V)} (I : Inv X pins σ H s) (hl : σ'.length = σ.length) (w : ∀ (i : Nat) v, σ'[i]? = some (some v) → σ[i]? = some (some v)) : Inv X pins σ' H s :=
  ⟨I.ok, I.os, I.bare, I.base, let ⟨m, hn, hl'⟩ := I.loc; ⟨m, hn, fun i x v e1 e2 e3 => hl' i x v e1 (w i v e2) e3⟩, I.cell, I.free, I.freeC, I.pin, I.hok, hl.trans I.len⟩
theorem Inv.pins_of {pins' : List (Addr × Obj)} (I : Inv X pins σ H s) (h : ∀ p ∈ pins', s.heap.get? p.1 = some p.2 ∧ H p.1 = none ∧ p.1 ≠ X.env.locals ∧ p.1 ∉ X.fs ∧ ∀ v, p.2.data ≠ .cell v) : Inv X pins' σ H s :=
  ⟨I.ok, I.os, I.bare, I.base, I.loc, I.cell, I.free, I.freeC, fun p hp => (List.mem_append.mp hp).elim (fun z => I.pin p (List.mem_append_left _ z)) (h p), I.hok, I.len⟩
theorem nodup_ix {N : List Str} (hN : N.Nodup) {i j : Nat} {x : Str} (a : N[i]? = some x) (b : N[j]? = some x) : i = j := by
  obtain ⟨h1, e1⟩ := List.getElem?_eq_some_iff.mp a
  obtain ⟨h2, e2⟩ := List.getElem?_eq_some_iff.mp b
  exact (List.getElem_inj hN).mp (e1.trans e2.symm)
theorem store_ok2 {M : Model} {A : Around} {E : Value → Shared → Prop} {i : Nat} {x : Str} {v : V} {u : Value} {Q : Unit → Shared → Prop} (I : Inv X pins σ H s) (hN : X.N.Nodup) (hi : X.N[i]? = some x) (hx : Loc X.env.scope x) (r : RelV v u)
    (h : ∀ s', Inv X pins (σ.set i (some v)) H s' → (∃ a, Heap.SameBut a s.heap s'.heap ∧ (a = X.env.locals ∨ X.env.cells.lookup x = some a)) → Q () s') (hf : X.fn x = true ∨ X.env.scope.names.lookup x = some .local := by first | exact .inl rfl | exact .inr rfl | assumption) : wpAny M A (storeName X.env x u) Q E s := by
  obtain ⟨m, hn, hl⟩ := id I.loc
  have hcls : (X.env.scope.kind == .class || (X.env.scope.kind == .module && X.env.locals != X.env.globals)) = false := by rw [I.ok.kind]; rfl
  have hiσ : i < σ.length := by rw [I.len]; exact (List.getElem?_eq_some_iff.mp hi).1
  have cne := I.cne
  have tracked : ∀ {a : Addr} {h' : Heap}, (∃ o, s.heap.get? a = some o ∧ H a = none) → Heap.SameBut a s.heap h' → HOk X.prog X.w H h' := fun {a h'} ha hs b ob e => by
    obtain ⟨_, _, hfree⟩ := ha
    refine (I.hok b ob e).stay (fun c w' hc q => (hs.2 c ?_).trans q) (fun _ q => q) fun _ _ q => q
    rintro rfl
    rcases hc with rfl | hc
    · rw [hfree] at e; cases e
    · rw [hfree] at hc; cases hc
  rcases hx with hk | hk
  · refine wpAny_storeName_local hk hn (fun h' hn' hs => ?_) hcls
    obtain ⟨oL, _, _, hoL, _⟩ := id hn
    refine h _ ⟨I.ok, I.os, I.bare, ⟨fun b o e n hb hx => ?_, fun b o e n hb hx => ?_, I.base.free, fun b o e hx => ?_, I.base.tups, I.base.frzs, I.base.tbls⟩, ⟨_, hn', fun j y v' e1 e2 e3 => ?_⟩, fun y c e => ?_, I.free, I.freeC, fun p hp => ?_, tracked ⟨oL, hoL, I.free⟩ hs, by simpa using I.len⟩ ⟨_, hs, .inl rfl⟩
    · exact (hs.2 b (Nat.ne_of_lt (Nat.lt_of_lt_of_le (Heap.lt_size e) I.ok.above))).trans (I.base.keep b o e n hb hx)
    · obtain ⟨sl, e1⟩ := I.base.slot b o e n hb hx
      exact ⟨sl, (hs.2 b (Nat.ne_of_lt (Nat.lt_of_lt_of_le (Heap.lt_size e) I.ok.above))).trans e1⟩
    · obtain ⟨o', e1⟩ := I.base.there b o e hx
      exact ⟨o', (hs.2 b (Nat.ne_of_lt (Nat.lt_of_lt_of_le (Heap.lt_size e) I.ok.above))).trans e1⟩
    · by_cases hj : j = i
      · subst hj
        rw [hi] at e1; cases e1
        rw [List.getElem?_set_self hiσ] at e2
        cases e2
        exact ⟨u, r, .inl ⟨hk, by simp⟩⟩
      · rw [List.getElem?_set_ne (Ne.symm hj)] at e2
        obtain ⟨u', r', q⟩ := hl j y v' e1 e2 e3
        refine ⟨u', r', ?_⟩
        rcases q with ⟨k, e⟩ | ⟨k, c, e, z⟩
        · refine .inl ⟨k, ?_⟩
          have : y ≠ x := fun e => hj (nodup_ix hN e1 (e ▸ hi))
          simp [this, e]
        · exact .inr ⟨k, c, e, z.sameBut hs (cne y c e)⟩
    · obtain ⟨w', z⟩ := I.cell y c e
      exact ⟨w', z.sameBut hs (cne y c e)⟩
    · obtain ⟨e, n, ne, nf, d⟩ := I.pin p hp
      exact ⟨(hs.2 p.1 ne).trans e, n, ne, nf, d⟩
  · have hfn : X.fn x = true := by
      rcases hf with z | z
      · exact z
      · rw [z] at hk; cases hk
    obtain ⟨c, hc⟩ := I.ok.has x (.inl hk)
    obtain ⟨w', z⟩ := I.cell x c hc
    refine wpAny_storeName_cell I.ok.kind hk hc z (fun h' hc' hs => ?_)
    obtain ⟨oc, hoc, hocd⟩ := id z
    refine h { s with heap := h' } ⟨I.ok, I.os, I.bare, ⟨fun b o e n hb hx => ?_, fun b o e n hb hx => ?_, I.base.free, fun b o e hx => ?_, I.base.tups, I.base.frzs, I.base.tbls⟩, ⟨m, hn.sameBut hs (Ne.symm (cne x c hc)), fun j y v' e1 e2 e3 => ?_⟩, fun y c' e => ?_, I.free, I.freeC, fun p hp => ?_, tracked ⟨oc, hoc, I.freeC x c hc⟩ hs, by simpa using I.len⟩ ⟨c, hs, .inr hc⟩
    · exact (hs.2 b (Nat.ne_of_lt (Nat.lt_of_lt_of_le (Heap.lt_size e) (I.ok.cab x c hfn hc)))).trans (I.base.keep b o e n hb hx)
    · obtain ⟨sl, e1⟩ := I.base.slot b o e n hb hx
      exact ⟨sl, (hs.2 b (Nat.ne_of_lt (Nat.lt_of_lt_of_le (Heap.lt_size e) (I.ok.cab x c hfn hc)))).trans e1⟩
    · obtain ⟨o', e1⟩ := I.base.there b o e hx
      exact ⟨o', (hs.2 b (Nat.ne_of_lt (Nat.lt_of_lt_of_le (Heap.lt_size e) (I.ok.cab x c hfn hc)))).trans e1⟩
    · by_cases hj : j = i
      · subst hj
        rw [hi] at e1; cases e1
        rw [List.getElem?_set_self hiσ] at e2
        cases e2
        exact ⟨u, r, .inr ⟨.inl hk, c, hc, hc'⟩⟩
      · rw [List.getElem?_set_ne (Ne.symm hj)] at e2
        obtain ⟨u', r', q⟩ := hl j y v' e1 e2 e3
        refine ⟨u', r', ?_⟩
        rcases q with q | ⟨k, c', e, z'⟩
        · exact .inl q
        · refine .inr ⟨k, c', e, z'.sameBut hs ?_⟩
          rintro rfl
          exact hj (nodup_ix hN e1 (I.ok.inj _ _ _ e hc ▸ hi))
    · by_cases hcc : c' = c
      · subst hcc; exact ⟨_, hc'⟩
      · obtain ⟨w2, z2⟩ := I.cell y c' e
        exact ⟨w2, z2.sameBut hs hcc⟩
    · obtain ⟨e, n, ne, nf, d⟩ := I.pin p hp
      refine ⟨(hs.2 p.1 ?_).trans e, n, ne, nf, d⟩
      intro q
      rw [q, hoc] at e
      have q' : oc = p.2 := Option.some.inj e
      exact d w' (by rw [← q']; exact hocd)
theorem store_ok {M : Model} {A : Around} {E : Value → Shared → Prop} {i : Nat} {x : Str} {v : V} {u : Value} {Q : Unit → Shared → Prop} (I : Inv X pins σ H s) (hN : X.N.Nodup) (hi : X.N[i]? = some x) (hx : Loc X.env.scope x) (r : RelV v u)
    (h : ∀ s', Inv X pins (σ.set i (some v)) H s' → Q () s') (hf : X.fn x = true ∨ X.env.scope.names.lookup x = some .local := by first | exact .inl rfl | exact .inr rfl | assumption) : wpAny M A (storeName X.env x u) Q E s :=
  store_ok2 I hN hi hx r (fun s' I' _ => h s' I') hf
theorem Inv.call' {s' : Shared} {ch : List Addr} (I : Inv X pins σ H s) (ho : s'.os = s.os) (u : Un (frs X.stack) ch H H' s.heap s'.heap) (hok : HOk X.prog X.w H' s'.heap) (hg : AllBare s'.gens)
    (hch : ∀ b ∈ ch, (b ∈ X.ex ∨ X.s₀.heap.objs.size ≤ b) ∧ b ≠ X.env.locals ∧ (∀ x c, X.env.cells.lookup x = some c → c ≠ b) ∧ ∀ p ∈ X.pn ++ pins, p.1 ≠ b) : Inv X pins σ H' s' := by
  obtain ⟨h', g', d', t', o'⟩ := s'
  have e : o' = s.os := ho
  subst e
  exact I.call (g' := g') (t' := t') (d' := d') u hok hg hch
end
abbrev XK := Value → Option Addr → Hp → Prop
abbrev St := List (Option V)
abbrev VK := V → Hp → Prop
abbrev TE := St → Hp → VK → Prop
abbrev TT := St → Hp → (Bool → Hp → Prop) → Prop
abbrev TA := St → Hp → (List V → Hp → Prop) → Prop
structure Ends where
  nx : St → Hp → Prop
  rt : VK
  bk : St → Hp → Prop := fun _ _ => False
  ct : St → Hp → Prop := fun _ _ => False
abbrev TS := Ends → St → Hp → Prop
def EP (X : Cx) (pins : List (Addr × Obj)) (σ : St) (Q : VK) (u : Value) (s' : Shared) : Prop := ∃ v H', Inv X pins σ H' s' ∧ RelV v u ∧ Q v H'
def TP (X : Cx) (pins : List (Addr × Obj)) (σ : St) (Q : Bool → Hp → Prop) (b : Bool) (s' : Shared) : Prop := ∃ H', Inv X pins σ H' s' ∧ Q b H'
def AP (X : Cx) (pins : List (Addr × Obj)) (σ : St) (Q : List V → Hp → Prop) (us : List Value) (s' : Shared) : Prop := ∃ vs H', Inv X pins σ H' s' ∧ Vals vs us ∧ Q vs H'
def SP (X : Cx) (pins : List (Addr × Obj)) (D : Ends) (f : Flow) (s' : Shared) : Prop :=
  match f with
  | .next => ∃ σ' H', Inv X pins σ' H' s' ∧ D.nx σ' H'
  | .brk => ∃ σ' H', Inv X pins σ' H' s' ∧ D.bk σ' H'
  | .cont => ∃ σ' H', Inv X pins σ' H' s' ∧ D.ct σ' H'
  | .ret u => ∃ v σ' H', Inv X pins σ' H' s' ∧ RelV v u ∧ D.rt v H'
def PE (X : Cx) (e : Expr) (t : TE) : Prop :=
  ∀ (pins : List (Addr × Obj)) (s : Shared) (σ : St) (H : Hp) (Q : VK), Inv X pins σ H s → t σ H Q → wpAny (model X.prog X.w) X.A (eval e X.env) (EP X pins σ Q) X.xe s
def PT (X : Cx) (e : Expr) (t : TT) : Prop :=
  ∀ (pins : List (Addr × Obj)) (s : Shared) (σ : St) (H : Hp) (Q : Bool → Hp → Prop), Inv X pins σ H s → t σ H Q → wpAny (model X.prog X.w) X.A (isTrue e X.env (eval e X.env)) (TP X pins σ Q) X.xe s
def PW (X : Cx) (e : Expr) (t : TT) : Prop :=
  ∀ (whole : Sem Value) (pins : List (Addr × Obj)) (s : Shared) (σ : St) (H : Hp) (Q : Bool → Hp → Prop), Inv X pins σ H s → t σ H Q → wpAny (model X.prog X.w) X.A (isTrue e X.env whole) (TP X pins σ Q) X.xe s
theorem PW.pt {X : Cx} {e : Expr} {t : TT} (h : PW X e t) : PT X e t := h _
def PA (X : Cx) (es : List Expr) (t : TA) : Prop :=
  ∀ (pos : Pos) (pins : List (Addr × Obj)) (s : Shared) (σ : St) (H : Hp) (Q : List V → Hp → Prop), Inv X pins σ H s → t σ H Q → wpAny (model X.prog X.w) X.A (spliced (backTo pos (starEach es X.env))) (AP X pins σ Q) X.xe s
def PS (X : Cx) (st : Stmt) (t : TS) : Prop :=
  ∀ (pins : List (Addr × Obj)) (s : Shared) (σ : St) (H : Hp) (D : Ends), Inv X pins σ H s → t D σ H → wpAny (model X.prog X.w) X.A (exec st X.env) (SP X pins D) X.xe s
def PSs (X : Cx) (st : List Stmt) (t : TS) : Prop :=
  ∀ (pins : List (Addr × Obj)) (s : Shared) (σ : St) (H : Hp) (D : Ends), Inv X pins σ H s → t D σ H → wpAny (model X.prog X.w) X.A (execs st X.env) (SP X pins D) X.xe s
theorem thn {α : Type} {t : Sem α} {Q Q' : α → Shared → Prop} {M : Model} {A : Around} {E : Value → Shared → Prop} {s : Shared} (h : wpAny M A t Q E s) (hQ : ∀ a s, Q a s → Q' a s) : wpAny M A t Q' E s := wpAny_mono h hQ fun _ _ x => x
end L2
namespace L2
open PySem PySem.Spec PyProof.Rows
section
variable {X : Cx}
theorem bin {a b : Expr} {ta tb : TE} (ha : PE X a ta) (hb : PE X b tb) {pins : List (Addr × Obj)} {s : Shared} {σ : St} {H : Hp} {R : V → V → Hp → Prop} (I : Inv X pins σ H s) (h : ta σ H fun x H1 => tb σ H1 fun y H2 => R x y H2)
    {α : Type} {Q : α → Shared → Prop} {f : Value → Value → Sem α}
    (hf : ∀ v u s2 x y H2, Inv X pins σ H2 s2 → RelV x v → RelV y u → R x y H2 → wpAny (model X.prog X.w) X.A (f v u) Q X.xe s2) :
    wpAny (model X.prog X.w) X.A (eval a X.env) (fun v s₁ => wpAny (model X.prog X.w) X.A (eval b X.env) (fun u s₂ => wpAny (model X.prog X.w) X.A (f v u) Q X.xe s₂) X.xe s₁) X.xe s := by
  refine thn (ha pins s σ H _ I h) fun v s1 ⟨x, H1, I1, r1, q1⟩ => ?_
  refine thn (hb pins s1 σ H1 _ I1 q1) fun u s2 ⟨y, H2, I2, r2, q2⟩ => ?_
  exact hf v u s2 x y H2 I2 r1 r2 q2
def tVar (i : Nat) : TE := fun σ H Q => ∃ v, σ[i]? = some (some v) ∧ Q v H
def tC (v : V) : TE := fun _ H Q => Q v H
theorem pe_var {i : Nat} {x : Str} {pos : Pos} (hN : X.N[i]? = some x) (hv : Vis X.env.scope x) (hd : (x == ("__debug__" : Str)) = false := by decide) (hcd : (x == ("__classdict__" : Str)) = false := by decide) : PE X (.Name x pos) (tVar i) := by
  intro pins s σ H Q I h
  obtain ⟨v, e, h⟩ := h
  obtain ⟨m, hn, hl⟩ := I.loc
  obtain ⟨u, r, l⟩ := hl i x v hN e hv
  have fin : EP X pins σ Q u s := ⟨v, H, I, r, h⟩
  rcases l with ⟨hk, hm⟩ | ⟨hk, c, hc, hcell⟩
  · exact wpAny_Name (wpAny_loadName_local I.ok.kind hk hn hm fin) hd
  · rcases hk with hk | hk
    · exact wpAny_Name (wpAny_loadName_cell I.ok.kind hk hc hcell fin) hd
    · exact wpAny_Name (wpAny_loadName_free I.ok.kind hk hc hcell fin hcd) hd
theorem pe_int {i j pos} : PE X (.Constant (.int i) j pos) (tC (.int i)) := fun _ _ _ H _ I h => wpAny_Constant_int ⟨.int i, H, I.tok _, ⟨_, rfl⟩, h⟩
theorem pe_bl {b j pos} : PE X (.Constant (.bool b) j pos) (tC (.bl b)) := fun _ _ _ H _ I h => Constant_bool ⟨.bl b, H, I, rfl, h⟩
theorem pe_non {j pos} : PE X (.Constant .none j pos) (tC .non) := fun _ _ _ H _ I h => Constant_none ⟨.non, H, I, rfl, h⟩
theorem pe_str {x j pos} : PE X (.Constant (.str x) j pos) (tC (.str x)) := fun _ _ _ H _ I h => Calls.Constant_str ⟨.str x, H, I.tok _, ⟨_, rfl⟩, h⟩
def Gl (X : Cx) (x : Str) : Prop := X.env.kindOf x = some .globalImplicit
theorem ld_glob {E : Value → Shared → Prop} {pins : List (Addr × Obj)} {s : Shared} {σ : St} {H : Hp} {x : Str} {u : Value} {pos : Pos} {Q : Value → Shared → Prop} (I : Inv X pins σ H s) (hg : Gl X x) (hm : X.mg x = some u) (h : Q u s)
    (hd : (x == ("__debug__" : Str)) = false := by decide) : wpAny (model X.prog X.w) X.A (eval (.Name x pos) X.env) Q E s :=
  Calls.Name_function_global I.ok.kind hg (Calls.loadGlobal_global (by rw [I.ok.glob]; exact I.mod.glob.keeps I.bk) hm h) hd
theorem ld_blt {E : Value → Shared → Prop} {pins : List (Addr × Obj)} {s : Shared} {σ : St} {H : Hp} {x : Str} {u : Value} {pos : Pos} {Q : Value → Shared → Prop} (I : Inv X pins σ H s) (hg : Gl X x) (hm : X.mg x = none) (hv : bootBuiltins x = some u) (h : Q u s)
    (hn : x ≠ "__name__" := by decide) (hd : (x == ("__debug__" : Str)) = false := by decide) : wpAny (model X.prog X.w) X.A (eval (.Name x pos) X.env) Q E s := by
  obtain ⟨mb, h1, h2⟩ := I.mod.blt
  exact Calls.Name_function_global I.ok.kind hg (Calls.loadGlobal_builtin (by rw [I.ok.glob]; exact I.mod.glob.keeps I.bk) hm (by rw [I.ok.blt]; exact h1.keeps I.bk) ((h2 x hn).trans hv) h) hd
theorem pe_glob {x : Str} {v : V} {u : Value} {pos : Pos} (hg : Gl X x) (hm : X.mg x = some u) (r : RelV v u) (hd : (x == ("__debug__" : Str)) = false := by decide) : PE X (.Name x pos) (tC v) :=
  fun _ _ _ H _ I h => ld_glob I hg hm ⟨v, H, I, r, h⟩ hd
theorem pe_bltn {x : Str} {v : V} {u : Value} {pos : Pos} (hg : Gl X x) (hm : X.mg x = none) (hv : bootBuiltins x = some u) (r : RelV v u) (hn : x ≠ "__name__" := by decide) (hd : (x == ("__debug__" : Str)) = false := by decide) : PE X (.Name x pos) (tC v) :=
  fun _ _ _ H _ I h => ld_blt I hg hm hv ⟨v, H, I, r, h⟩ hn hd
variable {a b : Expr} {ta tb : TE} {pos : Pos}
def PC (X : Cx) (op : CmpOp) (a b : Expr) (t : TE) : Prop :=
  ∀ (pins : List (Addr × Obj)) (s : Shared) (σ : St) (H : Hp) (Q : VK), Inv X pins σ H s → t σ H Q →
    wpAny (model X.prog X.w) X.A (eval a X.env) (fun v s₁ => wpAny (model X.prog X.w) X.A (eval b X.env) (fun u s₂ => wpAny (model X.prog X.w) X.A (compareOp op v u) (EP X pins σ Q) X.xe s₂) X.xe s₁) X.xe s
theorem nobehind (b : Expr) {op : CmpOp} (h : op ≠ .In) (h2 : op ≠ .NotIn) : behindInMarks op b = false := by
  have e1 : (op == CmpOp.In) = false := by cases op <;> first | rfl | exact absurd rfl h
  have e2 : (op == CmpOp.NotIn) = false := by cases op <;> first | rfl | exact absurd rfl h2
  cases b <;> simp [behindInMarks, e1, e2]
def tB (t : TE) : TT := fun σ H Q => t σ H fun x H1 => ∃ c, x = .bl c ∧ Q c H1
theorem pt_cmp {op : CmpOp} {t : TE} (h : PC X op a b t) (h1 : behindInMarks op b = false := by first | exact nobehind _ (by decide) (by decide) | rfl) : PT X (.Compare a [op] [b] pos) (tB t) := by
  intro pins s σ H Q I hw
  refine wpAny_isTrue_Compare1 (thn (h pins s σ H _ I hw) fun v s1 h1 => thn h1 fun u s2 h2 => thn h2 fun c s3 ⟨x, H1, I1, r1, q1⟩ => ?_) h1
  obtain ⟨d, rfl, q⟩ := q1
  cases r1
  exact wpAny_truthy_bool ⟨H1, I1, q⟩
theorem pt_val {e : Expr} {t : TE} (h : PE X e t) (he : ∀ whole, isTrue e X.env whole = (do let v ← whole; standAt e.pos; holding [v] (truthy v)) := by intro _; rfl) : PT X e (tB t) := by
  intro pins s σ H Q I hw
  refine isTrue_plain (thn (h pins s σ H _ I hw) fun v s1 ⟨x, H1, I1, r1, q1⟩ => ?_) (he _)
  obtain ⟨d, rfl, q⟩ := q1
  cases r1
  exact wpAny_truthy_bool ⟨H1, I1, q⟩
variable {tA tB' : TT} {rest : List Expr}
def tAnd (t u : TT) : TT := fun σ H Q => t σ H fun c H1 => if c = true then u σ H1 Q else Q false H1
def tOr (t u : TT) : TT := fun σ H Q => t σ H fun c H1 => if c = true then Q true H1 else u σ H1 Q
def tNot (t : TT) : TT := fun σ H Q => t σ H fun c H1 => Q (!c) H1
theorem pw_and1 (ha : PT X a tA) : PW X (.BoolOp .And [a] pos) tA := by
  intro wh pins s σ H Q I h
  refine isTrue_and (thn (ha pins s σ H Q I h) fun c s1 e => ?_)
  cases c with
  | true => exact isTrue_and_nil e
  | false => exact e
theorem pw_or1 (ha : PT X a tA) : PW X (.BoolOp .Or [a] pos) tA := by
  intro wh pins s σ H Q I h
  refine isTrue_or (thn (ha pins s σ H Q I h) fun c s1 e => ?_)
  cases c with
  | false => exact isTrue_or_nil e
  | true => exact e
theorem pw_and (ha : PT X a tA) (hb : PW X (.BoolOp .And (b :: rest) pos) tB') : PW X (.BoolOp .And (a :: b :: rest) pos) (tAnd tA tB') := by
  intro wh pins s σ H Q I h
  refine isTrue_and (thn (ha pins s σ H _ I h) fun c s1 ⟨H1, I1, q1⟩ => ?_)
  cases c with
  | true => exact hb wh pins s1 σ H1 Q I1 q1
  | false => exact ⟨H1, I1, q1⟩
theorem pw_or (ha : PT X a tA) (hb : PW X (.BoolOp .Or (b :: rest) pos) tB') : PW X (.BoolOp .Or (a :: b :: rest) pos) (tOr tA tB') := by
  intro wh pins s σ H Q I h
  refine isTrue_or (thn (ha pins s σ H _ I h) fun c s1 ⟨H1, I1, q1⟩ => ?_)
  cases c with
  | true => exact ⟨H1, I1, q1⟩
  | false => exact hb wh pins s1 σ H1 Q I1 q1
theorem pt_not (ha : PT X a tA) : PT X (.UnaryOp .Not a pos) (tNot tA) := by
  intro pins s σ H Q I h
  exact isTrue_not (ha pins s σ H (fun c H1 => Q (!c) H1) I h)
def tAndV (ta tb : TE) : TE := fun σ H Q => ta σ H fun x H1 => ∃ c, x = .bl c ∧ if c = true then tb σ H1 Q else Q (.bl false) H1
def tOrV (ta tb : TE) : TE := fun σ H Q => ta σ H fun x H1 => ∃ c, x = .bl c ∧ if c = true then Q (.bl true) H1 else tb σ H1 Q
def tNotV (ta : TE) : TE := fun σ H Q => ta σ H fun x H1 => ∃ c, x = .bl c ∧ Q (.bl (!c)) H1
theorem pe_one {op} {t : TE} (h : PE X a t) : PE X (.BoolOp op [a] pos) t := fun pins s σ H Q I hw => BoolOp_one (h pins s σ H Q I hw)
theorem pe_and (ha : PE X a ta) (hb : PE X (.BoolOp .And (b :: rest) pos) tb) : PE X (.BoolOp .And (a :: b :: rest) pos) (tAndV ta tb) := by
  intro pins s σ H Q I h
  refine BoolOp_and (thn (ha pins s σ H _ I h) fun v s1 ⟨x, H1, I1, r1, q1⟩ => ?_)
  obtain ⟨c, rfl, q1⟩ := q1
  cases r1
  refine wpAny_truthy_bool ?_
  cases c with
  | true => exact hb pins s1 σ H1 Q I1 q1
  | false => exact ⟨.bl false, H1, I1, rfl, q1⟩
theorem pe_or (ha : PE X a ta) (hb : PE X (.BoolOp .Or (b :: rest) pos) tb) : PE X (.BoolOp .Or (a :: b :: rest) pos) (tOrV ta tb) := by
  intro pins s σ H Q I h
  refine BoolOp_or (thn (ha pins s σ H _ I h) fun v s1 ⟨x, H1, I1, r1, q1⟩ => ?_)
  obtain ⟨c, rfl, q1⟩ := q1
  cases r1
  refine wpAny_truthy_bool ?_
  cases c with
  | false => exact hb pins s1 σ H1 Q I1 q1
  | true => exact ⟨.bl true, H1, I1, rfl, q1⟩
theorem pe_not (ha : PE X a ta) : PE X (.UnaryOp .Not a pos) (tNotV ta) := by
  intro pins s σ H Q I h
  refine UnaryOp_ (thn (ha pins s σ H _ I h) fun v s1 ⟨x, H1, I1, r1, q1⟩ => ?_)
  obtain ⟨c, rfl, q1⟩ := q1
  cases r1
  exact not_of (wpAny_truthy_bool ⟨.bl (!c), H1, I1, rfl, q1⟩)
def tIf (t : TT) (ta tb : TE) : TE := fun σ H Q => t σ H fun c H1 => if c = true then ta σ H1 Q else tb σ H1 Q
theorem pe_ifExp {c : Expr} (hc : PT X c tA) (ha : PE X a ta) (hb : PE X b tb) : PE X (.IfExp c a b pos) (tIf tA ta tb) := by
  intro pins s σ H Q I h
  refine wpAny_IfExp (thn (hc pins s σ H _ I h) fun d s1 ⟨H1, I1, q1⟩ => ?_)
  cases d with
  | true => exact ha pins s1 σ H1 Q I1 q1
  | false => exact hb pins s1 σ H1 Q I1 q1
end
end L2
namespace L2
open PySem PySem.Spec PyProof.Rows
def SqL (K : PySem.W.Frag) (H : Hp) (a : Addr) (xs : List V) : Prop :=
  Rd H a (.lst xs) ∨
    ∃ (o : Obj) (its : Array Value) (n : Nat), K.lookup a = some o ∧ o.cls = .type "list" ∧ o.dict = none ∧ o.data = .seq its n ∧ its.size ≤ sizeLine ∧ Vals xs its.toList
def SqT (K : PySem.W.Frag) (H : Hp) (a : Addr) (xs : List V) : Prop :=
  Rd H a (.tup xs) ∨
    ∃ (o : Obj) (its : Array Value) (n : Nat), K.lookup a = some o ∧ o.cls = .type "tuple" ∧ o.data = .seq its n ∧ its.size ≤ sizeLine ∧ Vals xs its.toList
def absV : Value → Option V
  | .none => some .non
  | .bool b => some (.bl b)
  | .int i _ => some (.int i)
  | .str x _ => some (.str x)
  | .bytes b _ => some (.byt b)
  | .float b _ => some (.flt b)
  | .ref a => some (.ref a)
  | .type n => some (.ty n)
  | _ => none
theorem RelV.abs {x : V} {u : Value} (r : RelV x u) : absV u = some x := by
  cases x with
  | non => cases r; rfl
  | bl _ => cases r; rfl
  | int _ => obtain ⟨t, rfl⟩ := r; rfl
  | str _ => obtain ⟨t, rfl⟩ := r; rfl
  | byt _ => obtain ⟨t, rfl⟩ := r; rfl
  | flt _ => obtain ⟨t, rfl⟩ := r; rfl
  | ref _ => cases r; rfl
  | ty _ => cases r; rfl
theorem RelV.inj {x y : V} {u : Value} (r : RelV x u) (q : RelV y u) : x = y := Option.some.inj (r.abs.symm.trans q.abs)
theorem Vals.inj : ∀ {xs ys : List V} {us : List Value}, Vals xs us → Vals ys us → xs = ys
  | _, _, _, .nil, .nil => rfl
  | _, _, _, .cons r t, .cons r' t' => by rw [r.inj r', Vals.inj t t']
section
variable {X : Cx} {pins : List (Addr × Obj)} {σ : St} {H : Hp} {s : Shared} {a : Addr} {xs ys : List V}
theorem SqL.of {K : PySem.W.Frag} (h : H a = some (.lst xs)) : SqL K H a xs := .inl (.inl h)
theorem SqT.of {K : PySem.W.Frag} (h : H a = some (.tup xs)) : SqT K H a xs := .inl (.inl h)
theorem Inv.list (I : Inv X pins σ H s) (h : SqL X.K H a xs) : ∃ its : List Value, Vals xs its ∧ PlainL s.heap a its.toArray ∧ xs.length ≤ sizeLine := by
  rcases h with h | ⟨o, its, n, hk, hc, hd, hs, hz, r⟩
  · obtain ⟨z, its, n, r, e⟩ := h.ok I.hok
    exact ⟨its, r, ⟨_, n, e, rfl, rfl, rfl⟩, z⟩
  · refine ⟨its.toList, r, ⟨o, n, I.kIn a o hk, hc, hd, by simpa using hs⟩, ?_⟩
    have e := r.length
    simp only [Array.length_toList] at e
    omega
theorem Inv.tuple (I : Inv X pins σ H s) (h : SqT X.K H a xs) : ∃ its : List Value, Vals xs its ∧ IsTup s.heap a its.toArray ∧ xs.length ≤ sizeLine := by
  rcases h with h | ⟨o, its, n, hk, hc, hs, hz, r⟩
  · obtain ⟨z, its, r, p⟩ := h.ok I.hok
    exact ⟨its, r, p, z⟩
  · refine ⟨its.toList, r, ⟨o, I.kIn a o hk, hc, n, by simpa using hs⟩, ?_⟩
    have e := r.length
    simp only [Array.length_toList] at e
    omega
theorem Inv.list_inj (I : Inv X pins σ H s) (h : SqL X.K H a xs) (h' : SqL X.K H a ys) : xs = ys := by
  obtain ⟨its, r, ⟨o, n, e, _, _, d⟩, _⟩ := I.list h
  obtain ⟨its', r', ⟨o', n', e', _, _, d'⟩, _⟩ := I.list h'
  rw [e] at e'; cases e'
  rw [d] at d'
  injection d' with d1 _
  have : its = its' := by simpa using congrArg Array.toList d1
  subst this
  exact r.inj r'
end
abbrev Cx.wish (X : Cx) (E : Value → Shared → Prop) : Cx := { X with xe := E }
abbrev Cx.nox (X : Cx) : Cx := X.wish fun _ _ => False
theorem Cx.Ok.wish {X : Cx} (ok : X.Ok) (E : Value → Shared → Prop) : (X.wish E).Ok :=
  ⟨ok.mod, ok.kind, ok.glob, ok.blt, ok.above, ok.inj, ok.has, ok.cab, ok.hd, ok.frames, ok.stk, ok.exf, ok.bs, ok.bsz, ok.noex, ok.exfs, ok.funs, ok.frf⟩
theorem Cx.Ok.unwish {X : Cx} {E : Value → Shared → Prop} (ok : (X.wish E).Ok) : X.Ok :=
  ⟨ok.mod, ok.kind, ok.glob, ok.blt, ok.above, ok.inj, ok.has, ok.cab, ok.hd, ok.frames, ok.stk, ok.exf, ok.bs, ok.bsz, ok.noex, ok.exfs, ok.funs, ok.frf⟩
section
variable {X : Cx} {pins : List (Addr × Obj)} {σ : St} {H : Hp} {s : Shared} {E : Value → Shared → Prop}
theorem Inv.wish (I : Inv X pins σ H s) (E : Value → Shared → Prop) : Inv (X.wish E) pins σ H s := ⟨I.ok.wish E, I.os, I.bare, I.base, I.loc, I.cell, I.free, I.freeC, I.pin, I.hok, I.len⟩
theorem Inv.unwish (I : Inv (X.wish E) pins σ H s) : Inv X pins σ H s := ⟨I.ok.unwish, I.os, I.bare, I.base, I.loc, I.cell, I.free, I.freeC, I.pin, I.hok, I.len⟩
theorem SP.unwish {D : Ends} {f : Flow} {s' : Shared} (h : SP (X.wish E) pins D f s') : SP X pins D f s' := by
  cases f with
  | next => obtain ⟨σ', H', I, q⟩ := h; exact ⟨σ', H', I.unwish, q⟩
  | brk => obtain ⟨σ', H', I, q⟩ := h; exact ⟨σ', H', I.unwish, q⟩
  | cont => obtain ⟨σ', H', I, q⟩ := h; exact ⟨σ', H', I.unwish, q⟩
  | ret u => obtain ⟨v, σ', H', I, r, q⟩ := h; exact ⟨v, σ', H', I.unwish, r, q⟩
theorem PT.nox {e : Expr} {t : TT} (h : PT X.nox e t) : PT X e t := fun pins s σ H Q I hw =>
  wpAny_mono (h pins s σ H Q (I.wish _) hw) (fun _ _ ⟨H', I', q⟩ => ⟨H', I'.unwish, q⟩) fun _ _ z => False.elim z
theorem PSs.nox {st : List Stmt} {t : TS} (h : PSs X.nox st t) : PSs X st t := fun pins s σ H D I hw =>
  wpAny_mono (h pins s σ H D (I.wish _) hw) (fun _ _ q => q.unwish) fun _ _ z => False.elim z
end
section
variable {X : Cx} {st : Stmt} {rest : List Stmt} {t u : TS} {e : Expr} {te : TE} {pos : Pos}
def tNext : TS := fun D σ H => D.nx σ H
def tSeq (t u : TS) : TS := fun D σ H => t { D with nx := u D } σ H
theorem pss_nil : PSs X [] tNext := fun _ _ σ H _ I h => wpAny_execs_nil ⟨σ, H, I, h⟩
theorem pss_cons (h1 : PS X st t) (h2 : PSs X rest u) : PSs X (st :: rest) (tSeq t u) := by
  intro pins s σ H D I h
  refine wpAny_execs_cons (thn (h1 pins s σ H { D with nx := u D } I h) fun f s1 q => ?_)
  cases f with
  | next =>
    obtain ⟨σ', H', I', q⟩ := q
    exact h2 pins s1 σ' H' D I' q
  | ret v => exact q
  | brk => exact q
  | cont => exact q
theorem pss_one (h1 : PS X st t) : PSs X [st] t := by
  intro pins s σ H D I h
  refine wpAny_execs_cons (thn (h1 pins s σ H D I h) fun f s1 q => ?_)
  cases f with
  | next => exact wpAny_execs_nil q
  | ret v => exact q
  | brk => exact q
  | cont => exact q
theorem Inv.quiet {pins : List (Addr × Obj)} {σ : St} {H : Hp} {s : Shared} (I : Inv X pins σ H s) : interactive X.env = false := by simp [interactive, I.ok.kind]
def tDrop (te : TE) : TS := fun D σ H => te σ H fun _ H1 => D.nx σ H1
theorem ps_expr (he : PE X e te) (hs : swapsWith e none pos.line X.env = pure false := by rfl) : PS X (.Expr e pos) (tDrop te) := by
  intro pins s σ H D I h
  exact wpAny_Expr_any (thn (he pins s σ H _ I h) fun v s1 ⟨x, H1, I1, r1, q1⟩ => ⟨σ, H1, I1, q1⟩) I.quiet hs
def tRet (te : TE) : TS := fun D σ H => te σ H D.rt
theorem ps_ret (he : PE X e te) : PS X (.Return (some e) pos) (tRet te) := by
  intro pins s σ H D I h
  exact wpAny_Return_some (thn (he pins s σ H _ I h) fun v s1 ⟨x, H1, I1, r1, q1⟩ => ⟨x, σ, H1, I1, r1, q1⟩)
def tRetN : TS := fun D _ H => D.rt .non H
def tIfS (c : TT) (t u : TS) : TS := fun D σ H => c σ H fun b H1 => if b = true then t D σ H1 else u D σ H1
theorem ps_if {c : Expr} {a b : List Stmt} {tc : TT} (hc : PT X c tc) (ha : PSs X a t) (hb : PSs X b u) : PS X (.If c a b pos) (tIfS tc t u) := by
  intro pins s σ H D I h
  refine wpAny_If (thn (hc pins s σ H _ I h) fun d s1 ⟨H1, I1, q1⟩ => ?_)
  cases d with
  | true => exact ha pins s1 σ H1 D I1 q1
  | false => exact hb pins s1 σ H1 D I1 q1
end
abbrev TG := V → St → Hp → (St → Hp → Prop) → Prop
abbrev TGs := List V → St → Hp → (St → Hp → Prop) → Prop
def PG (X : Cx) (target : Expr) (t : TG) : Prop :=
  ∀ (pins : List (Addr × Obj)) (s : Shared) (σ : St) (H : Hp) (v : V) (u : Value) (Q : St → Hp → Prop), Inv X pins σ H s → RelV v u → t v σ H Q →
    wpAny (model X.prog X.w) X.A (assign target X.env u) (fun _ s' => ∃ σ' H', Inv X pins σ' H' s' ∧ Q σ' H') X.xe s
def PGs (X : Cx) (ts : List Expr) (t : TGs) : Prop :=
  ∀ (pins : List (Addr × Obj)) (s : Shared) (σ : St) (H : Hp) (vs : List V) (us : List Value) (Q : St → Hp → Prop), Inv X pins σ H s → Vals vs us → t vs σ H Q →
    wpAny (model X.prog X.w) X.A (assignInOrder ((assignEach ts X.env).map (·.2)) us) (fun _ s' => ∃ σ' H', Inv X pins σ' H' s' ∧ Q σ' H') X.xe s
section
variable {X : Cx} {pos : Pos}
def gName (i : Nat) : TG := fun v σ H Q => Q (σ.set i (some v)) H
theorem pg_name {i : Nat} {x : Str} (hN : X.N.Nodup) (hi : X.N[i]? = some x) (hx : Loc X.env.scope x) (hf : X.fn x = true ∨ X.env.scope.names.lookup x = some .local := by first | exact .inl rfl | exact .inr rfl | assumption) : PG X (.Name x pos) (gName i) := by
  intro pins s σ H v u Q I r h
  exact wpAny_assign_Name (store_ok I hN hi hx r (fun s' I' => ⟨_, H, I', h⟩) hf)
def gNil : TGs := fun vs σ H Q => vs = [] ∧ Q σ H
def gCons (t : TG) (u : TGs) : TGs := fun vs σ H Q => ∃ v r, vs = v :: r ∧ t v σ H fun σ' H' => u r σ' H' Q
theorem pgs_nil : PGs X [] gNil := by
  intro pins s σ H vs us Q I r h
  obtain ⟨e, h⟩ := h
  subst e
  cases r
  exact assignInOrder_nil ⟨σ, H, I, h⟩
theorem pgs_cons {e : Expr} {es : List Expr} {t : TG} {u : TGs} (h1 : PG X e t) (h2 : PGs X es u)
    (hs : (assignEach (e :: es) X.env).map (·.2) = assign e X.env :: (assignEach es X.env).map (·.2) := by rfl) : PGs X (e :: es) (gCons t u) := by
  intro pins s σ H vs us Q I r h
  obtain ⟨v, vr, e1, h⟩ := h
  subst e1
  cases r with
  | cons r rr =>
    rw [hs]
    refine assignInOrder_cons (thn (h1 pins s σ H _ _ _ I r h) fun _ s1 ⟨σ1, H1, I1, q1⟩ => ?_)
    exact h2 pins s1 σ1 H1 _ _ Q I1 rr q1
def gTup (K : PySem.W.Frag) (n : Nat) (t : TGs) : TG := fun v σ H Q => ∃ a xs, v = .ref a ∧ SqT K H a xs ∧ xs.length = n ∧ t xs σ H Q
theorem pg_tup {es : List Expr} {k : Nat} {t : TGs} {n : Nat} (hc : X.calm = true) (h : PGs X es t)
    (hn : (assignEach es X.env).length = n := by rfl) (hst : (assignEach es X.env).findIdx? (·.1) = none := by rfl) : PG X (.Tuple es k pos) (gTup X.K n t) := by
  intro pins s σ H v u Q I r hw
  obtain ⟨a, xs, e1, hq, hl, hw⟩ := hw
  subst e1
  cases r
  obtain ⟨its, rv, ht, hz⟩ := I.tuple hq
  refine assign_Tuple_tuple (I.ok.hd hc) ht (by simp [hn, ← hl, rv.length]) hst fun h' hx => ?_
  have I1 : Inv X pins σ H { s with heap := h' } := I.kept (t' := s.toks) fun b o e => hx b o (Nat.ne_of_lt (Heap.lt_size e)) e
  exact h pins _ σ H xs _ Q I1 (by simpa using rv) hw
def tAsg (te : TE) (g : TG) : TS := fun D σ H => te σ H fun x H1 => g x σ H1 D.nx
theorem ps_asg {tg e : Expr} {te : TE} {g : TG} (he : PE X e te) (hg : PG X tg g) (hs : swapsWithSole [tg] e pos.line X.env = pure false := by rfl) (hw : swappedStores [tg] e X.env = pure none := by rfl)
    (h1 : (assignEach [tg] X.env).map (·.2) = [assign tg X.env] := by rfl) : PS X (.Assign [tg] e pos) (tAsg te g) := by
  intro pins s σ H D I h
  refine wpAny_Assign_stores (thn (he pins s σ H _ I h) fun v s1 ⟨x, H1, I1, r1, q1⟩ => ?_) hs hw
  rw [h1]
  exact thn (hg pins s1 σ H1 x v _ I1 r1 q1) fun _ s2 q => q
theorem ps_set {i : Nat} {x : Str} {e : Expr} {te : TE} {pos' : Pos} (hN : X.N.Nodup) (hi : X.N[i]? = some x) (hx : Loc X.env.scope x) (he : PE X e te) (hs : swapsWith e (some (.Name x pos')) pos.line X.env = pure false := by rfl) (hf : X.fn x = true ∨ X.env.scope.names.lookup x = some .local := by first | exact .inl rfl | exact .inr rfl | assumption) :
    PS X (.Assign [.Name x pos'] e pos) (tAsg te (gName i)) := by
  intro pins s σ H D I h
  refine wpAny_Assign_Name (thn (he pins s σ H _ I h) fun v s1 ⟨y, H1, I1, r1, q1⟩ => ?_) hs
  exact store_ok I1 hN hi hx r1 (fun s2 I2 => ⟨_, H1, I2, q1⟩) hf
def tPar (i j : Nat) (ta : TA) : TS := fun D σ H => ta σ H fun vs H1 => ∃ v w, vs = [v, w] ∧ D.nx ((σ.set i (some v)).set j (some w)) H1
theorem ps_par {i j : Nat} {x y : Str} {a b : Expr} {ta : TA} {px py pt : Pos} {kt k2 pt2} (hc : X.calm = true) (hN : X.N.Nodup) (hi : X.N[i]? = some x) (hj : X.N[j]? = some y) (hij : i ≠ j)
    (hx : X.env.scope.names.lookup x = some .local) (hy : X.env.scope.names.lookup y = some .local) (ha : PA X [a, b] ta)
    (hw : swappedStores [.Tuple [.Name x px, .Name y py] kt pt] (.Tuple [a, b] k2 pt2) X.env = pure (some [x, y]))
    (hs : swapsWithSole [.Tuple [.Name x px, .Name y py] kt pt] (.Tuple [a, b] k2 pt2) pos.line X.env = pure false := by rfl) :
    PS X (.Assign [.Tuple [.Name x px, .Name y py] kt pt] (.Tuple [a, b] k2 pt2) pos) (tPar i j ta) := by
  intro pins s σ H D I h
  rw [exec_Assign_arm]
  refine wpAny_bind (wpAny_standAt ?_)
  rw [hs]
  refine wpAny_bind (wpAny_pure ?_)
  rw [if_neg (by decide)]
  refine wpAny_bind (Tuple_ (thn (ha _ pins s σ H _ I h) fun us s1 ⟨vs, H1, I1, r1, q1⟩ => ?_))
  obtain ⟨v, w, e1, q1⟩ := q1
  subst e1
  obtain ⟨u1, u2, rfl, rv, rw'⟩ : ∃ u1 u2, us = [u1, u2] ∧ RelV v u1 ∧ RelV w u2 := by
    cases r1 with
    | cons p q =>
      cases q with
      | cons p' q' =>
        cases q'
        exact ⟨_, _, rfl, p, p'⟩
  refine wpAny_newObj_type ?_ (by show 2 ≤ sizeLine; decide)
  have I2 : Inv X pins σ H1 { s1 with heap := s1.heap.push { cls := .type "tuple", data := .seq [u1, u2].toArray } } := I1.kept (t' := s1.toks) fun b o e => Heap.get?_push_of_some _ e
  rw [hw]
  refine wpAny_bind (wpAny_pure ?_)
  show wpAny (model X.prog X.w) X.A (do rule "assign.swapped-stores"; let items ← unpackItems (.ref s1.heap.objs.size) 2 none; assignInOrder [fun v => bindName X.env y v, fun v => bindName X.env x v] items.reverse; pure Flow.next) _ _ _
  refine wpAny_bind (wpAny_rule (wpAny_bind (unpackItems_tuple (items := #[u1, u2]) (I.ok.hd hc) (IsTup.new s1.heap _) fun h' hx' => ?_)))
  have I3 := I2.kept (h' := h') (t' := s1.toks) fun b o e => hx' b o (Nat.ne_of_lt (Heap.lt_size e)) e
  show wpAny _ _ (assignInOrder [fun v => bindName X.env y v, fun v => bindName X.env x v] [u2, u1] >>= fun _ => pure Flow.next) _ _ _
  refine wpAny_bind (assignInOrder_cons (wpAny_bindName (store_ok I3 hN hj (.inl hy) rw' (fun s2 I4 => ?_) (.inr hy))))
  refine assignInOrder_cons (wpAny_bindName (store_ok I4 hN hi (.inl hx) rv (fun s3 I5 => assignInOrder_nil (wpAny_pure ?_)) (.inr hx)))
  rw [List.set_comm _ _ (Ne.symm hij)] at I5
  exact ⟨_, H1, I5, q1⟩
end
section
variable {X : Cx} {pos : Pos}
def tWhile (c : TT) (tb : TS) : TS := fun D σ H => ∃ W : Nat → St → Hp → Prop, (∃ m, W m σ H) ∧ ∀ m σ H, W m σ H →
  c σ H fun b H1 => if b = true then ∃ N : St → Hp → Prop, (∀ σ' H', N σ' H' → ∃ m', m' < m ∧ W m' σ' H') ∧ tb { D with nx := N, ct := N, bk := D.nx } σ H1 else D.nx σ H1
theorem ps_while {c : Expr} {body : List Stmt} {tc : TT} {tb : TS} (hp : PassesOwn (model X.prog X.w) X.A X.env X.xe) (hc : PT X c tc) (hb : PSs X body tb) : PS X (.While c body [] pos) (tWhile tc tb) := by
  intro pins s σ H D I h
  obtain ⟨W, ⟨m0, w0⟩, turn⟩ := h
  refine wpAny_While (codeAny_whileLoop (fun n s' => ∃ σ' H', Inv X pins σ' H' s' ∧ W n σ' H') ?_ m0 ⟨σ, H, I, w0⟩)
  rintro n s1 ⟨σ1, H1, I1, w1⟩
  refine wpAny_passesOwn hp (thn (hc pins s1 σ1 H1 _ I1 (turn n σ1 H1 w1)) fun b s2 ⟨H2, I2, q2⟩ => ?_)
  cases b with
  | true =>
    obtain ⟨N, hN, q2⟩ := q2
    rw [if_pos rfl]
    refine wpAny_passesOwn hp (thn (hb pins s2 σ1 H2 _ I2 q2) fun f s3 q3 => ?_)
    cases f with
    | next =>
      obtain ⟨σ3, H3, I3, n3⟩ := q3
      obtain ⟨m', hm, w3⟩ := hN σ3 H3 n3
      exact ⟨m', hm, σ3, H3, I3, w3⟩
    | cont =>
      obtain ⟨σ3, H3, I3, n3⟩ := q3
      obtain ⟨m', hm, w3⟩ := hN σ3 H3 n3
      exact ⟨m', hm, σ3, H3, I3, w3⟩
    | brk => exact q3
    | ret v => exact q3
  | false =>
    rw [if_neg Bool.false_ne_true]
    exact wpAny_execs_nil ⟨σ1, H2, I2, q2⟩
end
structure It where
  go : Nat → Hp → Prop
  yld : Nat → Hp → V → Hp → Prop
  stop : Nat → Hp → Prop
def FpOk (X : Cx) (pins : List (Addr × Obj)) (H : Hp) (b : Addr) : Prop :=
  H b = none ∧ b ≠ X.env.locals ∧ b ∉ X.fs ∧ (b ∈ X.ex ∨ X.s₀.heap.objs.size ≤ b) ∧ (∀ x c, X.env.cells.lookup x = some c → c ≠ b) ∧ ∀ p ∈ X.pn ++ pins, p.1 ≠ b
theorem Inv.fpOk {X : Cx} {pins : List (Addr × Obj)} {σ : St} {H H' : Hp} {s : Shared} {b : Addr} (I : Inv X pins σ H s) (hb : s.heap.objs.size ≤ b) (hn : H' b = none) : FpOk X pins H' b := by
  refine ⟨hn, Nat.ne_of_gt (Nat.lt_of_lt_of_le I.lt hb), I.nofs hb, .inr (Nat.le_trans I.sz hb), fun x c e z => ?_, fun p hp z => ?_⟩
  · obtain ⟨v, q⟩ := I.cell x c e
    exact absurd (Nat.lt_of_lt_of_le q.lt (by rw [z]; exact hb)) (Nat.lt_irrefl _)
  · exact absurd (Nat.lt_of_lt_of_le (Heap.lt_size (I.pin p hp).1) (by rw [z]; exact hb)) (Nat.lt_irrefl _)
structure Turn (P : Program) (w : World) (K : PySem.W.Frag) (tg : Expr) (J : It) (fp : List Addr) (it : Addr) (tn : Nat → Heap → Prop) : Prop where
  mem : it ∈ fp
  obj : ∀ i h, tn i h → ∀ b ∈ fp, ∃ o, h.get? b = some o ∧ ∀ v, o.data ≠ .cell v
  keep : ∀ i h h', tn i h → (∀ b ∈ fp, ∀ o, h.get? b = some o → h'.get? b = some o) → tn i h'
  item : ∀ (X : Cx), X.prog = P → X.w = w → X.K = K → X.calm = true → ∀ (i : Nat) (pins : List (Addr × Obj)) (s : Shared) (σ : St) (H : Hp) (E : Value → Shared → Prop), Inv X pins σ H s → (∀ b ∈ fp, FpOk X pins H b) → tn i s.heap → J.go i H →
    wpAny (model P w) X.A (pyNext (.ref it)) (fun r s1 => ∃ u, r = some u ∧
      wpAny (model P w) X.A (letOwnedTupleGo tg (.ref it) u) (fun _ s2 => ∃ x H', Inv X pins σ H' s2 ∧ RelV x u ∧ J.yld i H x H' ∧ tn (i + 1) s2.heap ∧ ∀ b ∈ fp, H' b = none) E s1) E s
  done : ∀ (X : Cx), X.prog = P → X.w = w → X.K = K → X.calm = true → ∀ (i : Nat) (pins : List (Addr × Obj)) (s : Shared) (σ : St) (H : Hp) (E : Value → Shared → Prop), Inv X pins σ H s → (∀ b ∈ fp, FpOk X pins H b) → tn i s.heap → J.stop i H →
    wpAny (model P w) X.A (pyNext (.ref it)) (fun r s1 => r = none ∧ Inv X pins σ H s1) E s
  self : ∀ (A : Around) (i : Nat) (s : Shared) (Q : Value → Shared → Prop) (E : Value → Shared → Prop), tn i s.heap → Q (.ref it) s → wpAny (model P w) A (pyIter (.ref it)) Q E s
abbrev TI := St → Hp → (It → Hp → Prop) → Prop
def PIE (X : Cx) (pins : List (Addr × Obj)) (σ : St) (tg : Expr) (R : It → Hp → Prop) (itv : Value) (s2 : Shared) : Prop :=
  ∃ (it : Addr) (fp : List Addr) (tn : Nat → Heap → Prop) (J : It) (H' : Hp), itv = .ref it ∧ Inv X pins σ H' s2 ∧ Turn X.prog X.w X.K tg J fp it tn ∧ tn 0 s2.heap ∧ (∀ b ∈ fp, FpOk X pins H' b) ∧ R J H'
def PI (X : Cx) (tg iter : Expr) (wi : TI) : Prop :=
  ∀ (pins : List (Addr × Obj)) (s : Shared) (σ : St) (H : Hp) (R : It → Hp → Prop), Inv X pins σ H s → wi σ H R →
    wpAny (model X.prog X.w) X.A (eval iter X.env) (fun v s1 => wpAny (model X.prog X.w) X.A (pyIter v) (PIE X pins σ tg R) X.xe s1) X.xe s
theorem go_of {M : Model} {A : Around} {E : Value → Shared → Prop} {s : Shared} {tg : Expr} {it : Addr} {u : Value} {o : Obj} {n : String} {vs : Array Value} {Q : Unit → Shared → Prop} (ho : s.heap.get? it = some o) (hc : o.cls = .type n) (hd : o.data = .fields vs)
    (hn : ["enumerate", "zip", "dict_itemiterator", "dict_reverseitemiterator", "odict_iterator", "itertools.zip_longest", "itertools.pairwise"].contains n = false) (hQ : Q () s) : wpAny M A (letOwnedTupleGo tg (.ref it) u) Q E s := by
  unfold letOwnedTupleGo
  cases tg <;> first
    | exact wpAny_pure hQ
    | (cases u <;> first
        | exact wpAny_pure hQ
        | (refine wpAny_bind (wpAny_load ho ?_)
           rw [hc, hd]
           show wpAny M A (if (["enumerate", "zip", "dict_itemiterator", "dict_reverseitemiterator", "odict_iterator", "itertools.zip_longest", "itertools.pairwise"].contains n && vs[0]? == some (rawInt _)) = true then _ else _) Q E s
           rw [if_neg (by intro h; rw [hn, Bool.false_and] at h; cases h)]
           exact wpAny_pure hQ))
def Itl (K : PySem.W.Frag) (a : Addr) : It :=
  ⟨fun i H => ∃ xs x, SqL K H a xs ∧ xs[i]? = some x, fun i H x H' => H' = H ∧ ∀ xs, SqL K H a xs → xs[i]? = some x, fun i H => ∃ xs, SqL K H a xs ∧ xs.length ≤ i⟩
def Itr (lo : Int) (n : Nat) : It := ⟨fun i _ => i < n, fun i H x H' => H' = H ∧ x = .int (lo + i), fun i _ => n ≤ i⟩
theorem turn_list {P : Program} {w : World} {K : PySem.W.Frag} {tg : Expr} (a it : Addr) : Turn P w K tg (Itl K a) [it] it (fun i h => h.IsListIter it a i) where
  mem := by simp
  obj := fun i h st b hb => by
    have e : b = it := by simpa using hb
    subst e
    obtain ⟨o, e, c, d⟩ := st
    exact ⟨o, e, fun v z => by rw [d] at z; cases z⟩
  keep := fun i h h' st k => st.at fun o e => k it (by simp) o e
  item := by
    intro X hP hw hK hc i pins s σ H E I hf st hg
    subst hP hw hK
    obtain ⟨xs, x, hq, hx⟩ := hg
    obtain ⟨its, rv, p, hz⟩ := I.list hq
    obtain ⟨u, hu, ru⟩ := rv.get hx
    obtain ⟨f0, f1, f2, f3, f4, f5⟩ := hf it (by simp)
    refine wpAny_pyNext_list_item st p.isList (x := u) (by simpa using hu) fun h' st' sb => ?_
    have I1 : Inv X pins σ H { s with heap := h' } := I.turned (t' := s.toks) (fun b o hb e => (sb.2 b hb).trans e) f0 f1 f3 f4 f5
    obtain ⟨o, e, c, d⟩ := id st'
    exact ⟨u, rfl, go_of (s := { s with heap := h' }) e c d (by decide) ⟨x, H, I1, ru, ⟨rfl, fun ys hy => by rw [I.list_inj hy hq]; exact hx⟩, st', fun b hb => (hf b hb).1⟩⟩
  done := by
    intro X hP hw hK hc i pins s σ H E I hf st hg
    subst hP hw hK
    obtain ⟨xs, hq, hx⟩ := hg
    obtain ⟨its, rv, p, hz⟩ := I.list hq
    obtain ⟨f0, f1, f2, f3, f4, f5⟩ := hf it (by simp)
    have hl := rv.length
    exact wpAny_pyNext_list_end (I.ok.hd hc) st p.isList (by simp; omega) fun h' eb => ⟨rfl, I.turned (t' := s.toks) (fun b o hb e => eb b o hb e) f0 f1 f3 f4 f5⟩
  self := fun _ _ _ _ _ st h => wpAny_pyIter_listiter st h
theorem turn_range {P : Program} {w : World} {K : PySem.W.Frag} {tg : Expr} (it : Addr) (lo : Int) (n : Nat) : Turn P w K tg (Itr lo n) [it] it (fun i h => IsRangeIter h it (lo + (i : Nat) * 1) ((n : Int) - (i : Nat)) 1) where
  mem := by simp
  obj := fun i h st b hb => by
    have e : b = it := by simpa using hb
    subst e
    exact ⟨_, st, fun v z => by
      have z' : Data.fields _ = Data.cell v := z
      cases z'⟩
  keep := fun i h h' st k => k it (by simp) _ st
  item := by
    intro X hP hw hK hc i pins s σ H E I hf st hg
    subst hP hw hK
    obtain ⟨f0, f1, f2, f3, f4, f5⟩ := hf it (by simp)
    have W := Walks.range (prog := X.prog) (w := X.w) (I.ok.hd hc) it lo 1 n
    refine W.item i s _ _ hg st fun v h' tk hv st' kk => ?_
    obtain ⟨t, rfl⟩ := hv
    have I1 : Inv X pins σ H { s with heap := h', toks := tk } := I.turned (fun b o hb e => kk b o (by simpa using hb) e) f0 f1 f3 f4 f5
    refine ⟨_, rfl, go_of (s := { s with heap := h', toks := tk }) (n := "range_iterator") st' rfl rfl (by decide) ⟨.int (lo + i), H, I1, ⟨t, ?_⟩, ⟨rfl, rfl⟩, st', fun b hb => (hf b hb).1⟩⟩
    rw [Int.mul_one]
  done := by
    intro X hP hw hK hc i pins s σ H E I hf st hg
    subst hP hw hK
    obtain ⟨f0, f1, f2, f3, f4, f5⟩ := hf it (by simp)
    exact wpAny_pyNext_range_end (I.ok.hd hc) st (by have : n ≤ i := hg; omega) fun h' eb => ⟨rfl, I.turned (t' := s.toks) (fun b o hb e => eb b o hb e) f0 f1 f3 f4 f5⟩
  self := fun _ _ _ _ _ st h => wpAny_pyIter_rangeiter st h
end L2
namespace L2
open PySem PySem.Spec PyProof.Rows
section
variable {X : Cx} {tg : Expr}
def iList (K : PySem.W.Frag) (tl : TE) : TI := fun σ H R => tl σ H fun x H1 => ∃ a, x = .ref a ∧ (∃ xs, SqL K H1 a xs) ∧ R (Itl K a) H1
theorem pi_list {l : Expr} {tl : TE} (hl : PE X l tl) : PI X tg l (iList X.K tl) := by
  intro pins s σ H R I h
  refine thn (hl pins s σ H _ I h) fun v s1 ⟨x, H1, I1, r1, q1⟩ => ?_
  obtain ⟨a, e, ⟨xs, hq⟩, q⟩ := q1
  subst e
  cases r1
  obtain ⟨its, rv, p, hz⟩ := I1.list hq
  refine wpAny_pyIter_list p.isList ?_
  refine ⟨s1.heap.objs.size, [s1.heap.objs.size], _, _, H1, rfl, I1.kept (t' := s1.toks) fun b o e => Heap.get?_push_of_some _ e, turn_list a _, ⟨_, Heap.get?_push_size _ rfl, rfl, rfl⟩, fun b hb => ?_, q⟩
  have e : b = s1.heap.objs.size := by simpa using hb
  subst e
  exact I1.fpOk (Nat.le_refl _) (I1.hok.fresh (Nat.le_refl _))
theorem range_it {pins : List (Addr × Obj)} {σ : St} {H : Hp} {s : Shared} {R : It → Hp → Prop} {E : Value → Shared → Prop} {lo hi : Int} {t u v : Tok} {tk : Nat} (I : Inv X pins σ H s) (h1 : -(2 ^ 62) ≤ lo) (h2 : lo < 2 ^ 62) (h3 : -(2 ^ 62) ≤ hi) (h4 : hi < 2 ^ 62)
    (q : R (Itr lo (hi - lo).toNat) H) : wpAny (model X.prog X.w) X.A (pyIter (.ref s.heap.objs.size)) (PIE X pins σ tg R) E { s with heap := s.heap.push { cls := .type "range", data := .fields #[.int lo t, .int hi u, .int 1 v] }, toks := tk } := by
  refine wpAny_pyIter_range (IsRange.new ..) (small_one h1 h2 h3 h4) ?_
  have I1 : Inv X pins σ H { s with heap := s.heap.push { cls := .type "range", data := .fields #[.int lo t, .int hi u, .int 1 v] }, toks := tk } := I.kept fun b o e => Heap.get?_push_of_some _ e
  refine ⟨(s.heap.push { cls := .type "range", data := .fields #[.int lo t, .int hi u, .int 1 v] }).objs.size, [(s.heap.push { cls := .type "range", data := .fields #[.int lo t, .int hi u, .int 1 v] }).objs.size], _, _, H, rfl,
    I1.kept (t' := tk) fun b o e => Heap.get?_push_of_some _ e, turn_range _ lo (hi - lo).toNat, ?_, fun b hb => ?_, q⟩
  · have e1 : lo + ((0 : Nat) : Int) * 1 = lo := by simp
    have e2 : (((hi - lo).toNat : Nat) : Int) - ((0 : Nat) : Int) = Builtin.Range.rangeSize lo hi 1 := by rw [rangeSize_one]; split <;> omega
    show IsRangeIter _ _ (lo + ((0 : Nat) : Int) * 1) ((((hi - lo).toNat : Nat) : Int) - ((0 : Nat) : Int)) 1
    rw [e1, e2]
    exact Heap.get?_push_size _ rfl
  · have e : b = (s.heap.push { cls := .type "range", data := .fields #[.int lo t, .int hi u, .int 1 v] }).objs.size := by simpa using hb
    subst e
    exact I1.fpOk (Nat.le_refl _) (I1.hok.fresh (Nat.le_refl _))
def iRng1 (ta : TA) : TI := fun σ H R => ta σ H fun vs H1 => ∃ j : Int, vs = [.int j] ∧ -(2 ^ 62) ≤ j ∧ j < 2 ^ 62 ∧ R (Itr 0 j.toNat) H1
theorem pi_range1 {a : Expr} {ta : TA} {p pos : Pos} (hg : Gl X "range") (hm : X.mg "range" = none) (ha : PA X [a] ta) (hs : starEach [a] X.env = [(false, eval a X.env)] := by rfl) : PI X tg (.Call (.Name "range" p) [a] [] pos) (iRng1 ta) := by
  intro pins s σ H R I h
  refine Call_ (ld_blt I hg hm boot_range (PyProof.Rows.callWith_type1 (thn (ha pos pins s σ H _ I h) fun us s1 ⟨vs, H1, I1, r1, q1⟩ => ?_) hs rfl))
  obtain ⟨j, e, q1, q2, q⟩ := q1
  subst e
  cases r1 with
  | cons r rr =>
    cases rr
    obtain ⟨t, rfl⟩ := r
    exact call_range_1 (range_it I1 (by omega) (by omega) q1 q2 (by simpa using q))
def tFor (wi : TI) (g : TG) (tb : TS) : TS := fun D σ H => wi σ H fun J H1 => ∃ W : Nat → Nat → St → Hp → Prop, (∃ m, W 0 m σ H1) ∧ ∀ i m σ H, W i m σ H →
  (J.stop i H ∧ D.nx σ H) ∨ (J.go i H ∧ ∃ N : St → Hp → Prop, (∀ σ' H', N σ' H' → ∃ m', m' < m ∧ W (i + 1) m' σ' H') ∧ ∀ x H', J.yld i H x H' → g x σ H' fun σ2 H2 => tb { D with nx := N, ct := N, bk := D.nx } σ2 H2)
def pinsAt (fp : List Addr) (h : Heap) : List (Addr × Obj) := fp.filterMap fun b => (h.get? b).map fun o => (b, o)
theorem mem_pinsAt {fp : List Addr} {h : Heap} {b : Addr} {o : Obj} (hb : b ∈ fp) (e : h.get? b = some o) : (b, o) ∈ pinsAt fp h := List.mem_filterMap.mpr ⟨b, hb, by rw [e]; rfl⟩
theorem of_pinsAt {fp : List Addr} {h : Heap} {p : Addr × Obj} (hp : p ∈ pinsAt fp h) : p.1 ∈ fp ∧ h.get? p.1 = some p.2 := by
  obtain ⟨b, hb, e⟩ := List.mem_filterMap.mp hp
  cases q : h.get? b with
  | none => rw [q] at e; cases e
  | some o =>
    rw [q] at e
    have e' : (b, o) = p := Option.some.inj e
    subst e'
    exact ⟨hb, q⟩
theorem Inv.pinned {pins : List (Addr × Obj)} {σ : St} {H : Hp} {s : Shared} {fp : List Addr} (I : Inv X pins σ H s) (hf : ∀ b ∈ fp, FpOk X pins H b) (ho : ∀ b ∈ fp, ∃ o, s.heap.get? b = some o ∧ ∀ v, o.data ≠ .cell v) : Inv X (pins ++ pinsAt fp s.heap) σ H s :=
  I.pins_of fun p hp => (List.mem_append.mp hp).elim (fun z => I.pin p (List.mem_append_right _ z)) fun z => by
    obtain ⟨hb, e⟩ := of_pinsAt z
    obtain ⟨f0, f1, f2, _⟩ := hf p.1 hb
    obtain ⟨o, e', d⟩ := ho p.1 hb
    rw [e] at e'; cases e'
    exact ⟨e, f0, f1, f2, d⟩
theorem Inv.unpinned {pins pl : List (Addr × Obj)} {σ : St} {H : Hp} {s : Shared} (I : Inv X (pins ++ pl) σ H s) : Inv X pins σ H s := I.pins_of fun p hp => I.pin p (List.mem_append_right _ (List.mem_append_left _ hp))
theorem ps_for {iter : Expr} {body : List Stmt} {wi : TI} {g : TG} {tb : TS} {pos : Pos} (hp : PassesOwn (model X.prog X.w) X.A X.env X.xe) (hc : X.calm = true) (hi : PI X tg iter wi) (hg : PG X tg g) (hb : PSs X body tb)
    (hs : ∀ x, foldedSetIterable iter X.env x = pure x := by intro _; rfl) : PS X (.For tg iter body [] pos) (tFor wi g tb) := by
  intro pins s σ H D I h
  refine wpAny_For (thn (hi pins s σ H _ I h) fun v s1 h1 => thn h1 fun itv s2 h2 => ?_) hs
  obtain ⟨it, fp, tn, J, H2, e, I2, T, st2, f2, W, ⟨m0, w0⟩, turn⟩ := h2
  subst e
  have stat : ∀ {H' : Hp}, (∀ b ∈ fp, H' b = none) → ∀ b ∈ fp, FpOk X pins H' b := fun hn b hb => ⟨hn b hb, (f2 b hb).2⟩
  refine codeAny_forLoop_any (fun n s' => ∃ i σ' H', Inv X pins σ' H' s' ∧ tn i s'.heap ∧ (∀ b ∈ fp, H' b = none) ∧ W i n σ' H') ?_ m0 ⟨0, σ, H2, I2, st2, fun b hb => (f2 b hb).1, w0⟩
  rintro n s3 ⟨i, σ3, H3, I3, st3, fr3, w3⟩
  rcases turn i n σ3 H3 w3 with ⟨stop, qn⟩ | ⟨go, N, hN, step⟩
  · refine wpAny_passesOwn hp (thn (T.done X rfl rfl rfl hc i pins s3 σ3 H3 X.xe I3 (stat fr3) st3 stop) fun r s4 ⟨hr, I4⟩ => ?_)
    subst hr
    exact wpAny_execs_nil ⟨σ3, H3, I4, qn⟩
  · refine wpAny_passesOwn hp (thn (T.item X rfl rfl rfl hc i pins s3 σ3 H3 X.xe I3 (stat fr3) st3 go) fun r s4 ⟨u, hr, h4⟩ => ?_)
    subst hr
    refine wpAny_passesOwn hp (thn h4 fun _ s5 ⟨x, H5, I5, r5, y5, st5, fr5⟩ => ?_)
    have I5' := I5.pinned (stat fr5) (T.obj _ _ st5)
    refine wpAny_passesOwn hp (thn (hg _ s5 σ3 H5 x u _ I5' r5 (step x H5 y5)) fun _ s6 ⟨σ6, H6, I6, q6⟩ => ?_)
    refine wpAny_passesOwn hp (thn (hb _ s6 σ6 H6 _ I6 q6) fun f s7 q7 => ?_)
    have again : ∀ {σ7 : St} {H7 : Hp}, Inv X (pins ++ pinsAt fp s5.heap) σ7 H7 s7 → N σ7 H7 → ∃ m, m < n ∧ ∃ i σ' H', Inv X pins σ' H' s7 ∧ tn i s7.heap ∧ (∀ b ∈ fp, H' b = none) ∧ W i m σ' H' := fun {σ7 H7} I7 n7 => by
      obtain ⟨m', hm, w7⟩ := hN σ7 H7 n7
      refine ⟨m', hm, i + 1, σ7, H7, I7.unpinned, T.keep _ _ _ st5 fun b hb o e => (I7.pin (b, o) (List.mem_append_right _ (List.mem_append_right _ (mem_pinsAt hb e)))).1, fun b hb => ?_, w7⟩
      obtain ⟨o, e, d⟩ := T.obj _ _ st5 b hb
      exact (I7.pin (b, o) (List.mem_append_right _ (List.mem_append_right _ (mem_pinsAt hb e)))).2.1
    cases f with
    | next => obtain ⟨σ7, H7, I7, n7⟩ := q7; exact again I7 n7
    | cont => obtain ⟨σ7, H7, I7, n7⟩ := q7; exact again I7 n7
    | brk => obtain ⟨σ7, H7, I7, q7⟩ := q7; exact ⟨σ7, H7, I7.unpinned, q7⟩
    | ret v => obtain ⟨x7, σ7, H7, I7, r7, q7⟩ := q7; exact ⟨x7, σ7, H7, I7.unpinned, r7, q7⟩
end
end L2
namespace L2
open PySem PySem.Spec PyProof.Rows
abbrev R2 := V → V → Hp → VK → Prop
def OpR (X : Cx) (f : Value → Value → Sem Value) (r : R2) : Prop :=
  ∀ (pins : List (Addr × Obj)) (s : Shared) (σ : St) (H : Hp) (x y : V) (v u : Value) (Q : VK), Inv X pins σ H s → RelV x v → RelV y u → r x y H Q →
    wpAny (model X.prog X.w) X.A (f v u) (EP X pins σ Q) X.xe s
def CallR (X : Cx) (f : Value) (r : List V → Hp → VK → Prop) : Prop :=
  ∀ (pins : List (Addr × Obj)) (s : Shared) (σ : St) (H : Hp) (xs : List V) (us : List Value) (Q : VK), Inv X pins σ H s → Vals xs us → r xs H Q →
    wpAny (model X.prog X.w) X.A (call f us) (EP X pins σ Q) X.xe s
def tOp (r : R2) (ta tb : TE) : TE := fun σ H Q => ta σ H fun x H1 => tb σ H1 fun y H2 => r x y H2 Q
def rI (C : Int → Int → Prop) (g : Int → Int → V) : R2 := fun x y H Q => ∃ i j, x = .int i ∧ y = .int j ∧ C i j ∧ Q (g i j) H
def rI0 (g : Int → Int → V) : R2 := fun x y H Q => ∃ i j, x = .int i ∧ y = .int j ∧ Q (g i j) H
section
variable {X : Cx} {a b c : Expr} {ta tb tc : TE} {pos : Pos}
theorem binT (ha : PE X a ta) (hb : PE X b tb) {pins : List (Addr × Obj)} {s : Shared} {σ : St} {H : Hp} {R : V → V → Hp → Prop} (I : Inv X pins σ H s)
    (h : ta σ H fun x H1 => tb σ H1 fun y H2 => R x y H2) {Q : Value → Shared → Prop} {f : Value → Value → Sem Value}
    (hf : ∀ v u s2 x y H2, Inv X pins σ H2 s2 → RelV x v → RelV y u → R x y H2 → wpAny (model X.prog X.w) X.A (f v u) Q X.xe s2) :
    wpAny (model X.prog X.w) X.A (eval a X.env) (fun v s₁ => wpAny (model X.prog X.w) X.A (eval b X.env) (fun u s₂ => wpAny (model X.prog X.w) X.A (f v u) Q X.xe s₂) X.xe s₁) X.xe s := by
  refine thn (ha pins s σ H _ I h) fun v s1 ⟨x, H1, I1, r1, q1⟩ => ?_
  refine thn (hb pins s1 σ H1 _ I1 q1) fun u s2 ⟨y, H2, I2, r2, q2⟩ => ?_
  exact hf v u s2 x y H2 I2 r1 r2 q2
theorem pe_op {op : Operator} {r : R2} (ho : OpR X (binaryOp op) r) (ha : PE X a ta) (hb : PE X b tb) : PE X (.BinOp a op b pos) (tOp r ta tb) := by
  intro pins s σ H Q I h
  exact wpAny_BinOp (binT ha hb I h fun v u s2 x y H2 I2 rx ry q => ho pins s2 σ H2 x y v u Q I2 rx ry q)
theorem opI {f : Value → Value → Sem Value} {C : Int → Int → Prop} {g : Int → Int → Int}
    (rule : ∀ (i j : Int) (t u : Tok) (s : Shared) (Q : Value → Shared → Prop) (E : Value → Shared → Prop), C i j → Q (.int (g i j) s.toks) { s with toks := s.toks + 1 } → wpAny (model X.prog X.w) X.A (f (.int i t) (.int j u)) Q E s) :
    OpR X f (rI C fun i j => .int (g i j)) := by
  intro pins s σ H x y v u Q I rx ry h
  obtain ⟨i, j, rfl, rfl, hc, q⟩ := h
  obtain ⟨t, rfl⟩ := rx
  obtain ⟨t', rfl⟩ := ry
  exact rule i j t t' s _ _ hc ⟨.int (g i j), H, I.tok _, ⟨_, rfl⟩, q⟩
theorem opI0 {f : Value → Value → Sem Value} {g : Int → Int → Int}
    (rule : ∀ (i j : Int) (t u : Tok) (s : Shared) (Q : Value → Shared → Prop) (E : Value → Shared → Prop), Q (.int (g i j) s.toks) { s with toks := s.toks + 1 } → wpAny (model X.prog X.w) X.A (f (.int i t) (.int j u)) Q E s) :
    OpR X f (rI0 fun i j => .int (g i j)) := by
  intro pins s σ H x y v u Q I rx ry h
  obtain ⟨i, j, rfl, rfl, q⟩ := h
  obtain ⟨t, rfl⟩ := rx
  obtain ⟨t', rfl⟩ := ry
  exact rule i j t t' s _ _ ⟨.int (g i j), H, I.tok _, ⟨_, rfl⟩, q⟩
theorem opB0 {f : Value → Value → Sem Value} {g : Int → Int → Bool}
    (rule : ∀ (i j : Int) (t u : Tok) (s : Shared) (Q : Value → Shared → Prop) (E : Value → Shared → Prop), Q (.bool (g i j)) s → wpAny (model X.prog X.w) X.A (f (.int i t) (.int j u)) Q E s) :
    OpR X f (rI0 fun i j => .bl (g i j)) := by
  intro pins s σ H x y v u Q I rx ry h
  obtain ⟨i, j, rfl, rfl, q⟩ := h
  obtain ⟨t, rfl⟩ := rx
  obtain ⟨t', rfl⟩ := ry
  exact rule i j t t' s _ _ ⟨.bl (g i j), H, I, rfl, q⟩
def CPow (i j : Int) : Prop := 0 ≤ j ∧ j ≤ 1000000 ∧ i.natAbs < 2 ^ 64
theorem op_add : OpR X (binaryOp .Add) (rI0 fun i j => .int (i + j)) := opI0 fun _ _ _ _ _ _ _ q => add_int q
theorem op_sub : OpR X (binaryOp .Sub) (rI0 fun i j => .int (i - j)) := opI0 fun _ _ _ _ _ _ _ q => sub_int q
theorem op_mod : OpR X (binaryOp .Mod) (rI (fun _ j => 0 < j) fun i j => .int (i % j)) := opI fun i j _ _ _ _ _ hc q => by
  have h1 : (0 : Int) < j := hc
  exact mod_int' (by omega) (by rw [Int.fmod_eq_emod_of_nonneg i (by omega)]; exact q)
theorem op_pow : OpR X (binaryOp .Pow) (rI CPow fun i j => .int (i ^ j.toNat)) := opI fun _ _ _ _ _ _ _ hc q => pow_int_small hc.1 hc.2.1 hc.2.2 q
end
def scal : V → V → Bool
  | .non, .non => true | .non, .int _ => true | .int _, .non => true | .non, .bl _ => true | .bl _, .non => true | .non, .str _ => true | .str _, .non => true
  | .int _, .int _ => true | .bl _, .bl _ => true | .str _, .str _ => true | .byt _, .byt _ => true
  | .int _, .str _ => true | .str _, .int _ => true | .bl _, .str _ => true | .str _, .bl _ => true
  | _, _ => false
def rEq : R2 := fun x y H Q => scal x y = true ∧ Q (.bl (decide (x = y))) H
def rNe : R2 := fun x y H Q => scal x y = true ∧ Q (.bl (!decide (x = y))) H
theorem dec_int {i j : Int} : decide (V.int i = V.int j) = (i == j) := by
  rw [Bool.eq_iff_iff]
  simp
theorem dec_bl {i j : Bool} : decide (V.bl i = V.bl j) = (i == j) := by
  rw [Bool.eq_iff_iff]
  simp
theorem dec_str {i j : Str} : decide (V.str i = V.str j) = (i == j) := by
  rw [Bool.eq_iff_iff]
  simp
theorem dec_byt {i j : Array UInt8} : decide (V.byt i = V.byt j) = (i.toList == j.toList) := by
  rw [Bool.eq_iff_iff]
  cases i
  cases j
  simp
section
variable {X : Cx} {a b c : Expr} {ta tb tc : TE} {pos : Pos}
theorem fin_bl {pins : List (Addr × Obj)} {σ : St} {H : Hp} {s : Shared} {Q : VK} {k k' : Bool} (I : Inv X pins σ H s) (q : Q (.bl k) H) (e : k = k') : EP X pins σ Q (.bool k') s := by
  subst e
  exact ⟨.bl k, H, I, rfl, q⟩
theorem op_eq : OpR X (compareOp .Eq) rEq := by
  intro pins s σ H x y v u Q I rx ry h
  obtain ⟨hs, q⟩ := h
  cases x with
  | non =>
    cases rx
    cases y with
    | non => cases ry; exact PySem.EqNone.eq_none_none (fin_bl I q (by simp))
    | bl j => cases ry; exact PySem.EqNone.eq_none_bool (fin_bl I q (by simp))
    | int j => obtain ⟨t', rfl⟩ := ry; exact PySem.EqNone.eq_none_int (fin_bl I q (by simp))
    | str j => obtain ⟨t', rfl⟩ := ry; exact PySem.EqNone.eq_none_str (fin_bl I q (by simp))
    | _ => exact absurd (show false = true from hs) Bool.false_ne_true
  | bl i =>
    cases rx
    cases y with
    | non => cases ry; exact PySem.EqNone.eq_bool_none (fin_bl I q (by simp))
    | bl j => cases ry; exact eq_bool (fin_bl I q dec_bl)
    | str j => obtain ⟨t', rfl⟩ := ry; exact PySem.EqMixed.eq_bool_str (fin_bl I q (by simp))
    | _ => exact absurd (show false = true from hs) Bool.false_ne_true
  | int i =>
    obtain ⟨t, rfl⟩ := rx
    cases y with
    | non => cases ry; exact PySem.EqNone.eq_int_none (fin_bl I q (by simp))
    | int j => obtain ⟨t', rfl⟩ := ry; exact eq_int (fin_bl I q dec_int)
    | str j => obtain ⟨t', rfl⟩ := ry; exact PySem.EqMixed.eq_int_str (fin_bl I q (by simp))
    | _ => exact absurd (show false = true from hs) Bool.false_ne_true
  | str i =>
    obtain ⟨t, rfl⟩ := rx
    cases y with
    | non => cases ry; exact PySem.EqNone.eq_str_none (fin_bl I q (by simp))
    | bl j => cases ry; exact PySem.EqMixed.eq_str_bool (fin_bl I q (by simp))
    | int j => obtain ⟨t', rfl⟩ := ry; exact PySem.EqMixed.eq_str_int (fin_bl I q (by simp))
    | str j => obtain ⟨t', rfl⟩ := ry; exact eq_str (fin_bl I q dec_str)
    | _ => exact absurd (show false = true from hs) Bool.false_ne_true
  | byt i =>
    obtain ⟨t, rfl⟩ := rx
    cases y with
    | byt j => obtain ⟨t', rfl⟩ := ry; exact PySem.W.eq_bytes (fin_bl I q dec_byt)
    | _ => exact absurd (show false = true from hs) Bool.false_ne_true
  | _ => cases y <;> exact absurd (show false = true from hs) Bool.false_ne_true
theorem op_ne : OpR X (compareOp .NotEq) rNe := by
  intro pins s σ H x y v u Q I rx ry h
  obtain ⟨hs, q⟩ := h
  cases x with
  | non =>
    cases rx
    cases y with
    | non => cases ry; exact PySem.EqNone.ne_none_none (fin_bl I q (by simp))
    | bl j => cases ry; exact PySem.EqNone.ne_none_bool (fin_bl I q (by simp))
    | int j => obtain ⟨t', rfl⟩ := ry; exact PySem.EqNone.ne_none_int (fin_bl I q (by simp))
    | str j => obtain ⟨t', rfl⟩ := ry; exact PySem.EqNone.ne_none_str (fin_bl I q (by simp))
    | _ => exact absurd (show false = true from hs) Bool.false_ne_true
  | bl i =>
    cases rx
    cases y with
    | non => cases ry; exact PySem.EqNone.ne_bool_none (fin_bl I q (by simp))
    | bl j => cases ry; exact ne_bool (fin_bl I q (congrArg not dec_bl))
    | str j => obtain ⟨t', rfl⟩ := ry; exact PySem.EqMixed.ne_bool_str (fin_bl I q (by simp))
    | _ => exact absurd (show false = true from hs) Bool.false_ne_true
  | int i =>
    obtain ⟨t, rfl⟩ := rx
    cases y with
    | non => cases ry; exact PySem.EqNone.ne_int_none (fin_bl I q (by simp))
    | int j => obtain ⟨t', rfl⟩ := ry; exact ne_int (fin_bl I q (congrArg not dec_int))
    | str j => obtain ⟨t', rfl⟩ := ry; exact PySem.EqMixed.ne_int_str (fin_bl I q (by simp))
    | _ => exact absurd (show false = true from hs) Bool.false_ne_true
  | str i =>
    obtain ⟨t, rfl⟩ := rx
    cases y with
    | non => cases ry; exact PySem.EqNone.ne_str_none (fin_bl I q (by simp))
    | bl j => cases ry; exact PySem.EqMixed.ne_str_bool (fin_bl I q (by simp))
    | int j => obtain ⟨t', rfl⟩ := ry; exact PySem.EqMixed.ne_str_int (fin_bl I q (by simp))
    | str j => obtain ⟨t', rfl⟩ := ry; exact ne_str (fin_bl I q (congrArg not dec_str))
    | _ => exact absurd (show false = true from hs) Bool.false_ne_true
  | byt i =>
    obtain ⟨t, rfl⟩ := rx
    cases y with
    | byt j => obtain ⟨t', rfl⟩ := ry; exact PySem.W.ne_bytes (fin_bl I q (congrArg not dec_byt))
    | _ => exact absurd (show false = true from hs) Bool.false_ne_true
  | _ => cases y <;> exact absurd (show false = true from hs) Bool.false_ne_true
theorem op_lt : OpR X (compareOp .Lt) (rI0 fun i j => .bl (decide (i < j))) := opB0 fun _ _ _ _ _ _ _ q => lt_int q
theorem op_le : OpR X (compareOp .LtE) (rI0 fun i j => .bl (decide (i ≤ j))) := opB0 fun _ _ _ _ _ _ _ q => le_int q
theorem op_gt : OpR X (compareOp .Gt) (rI0 fun i j => .bl (decide (j < i))) := opB0 fun _ _ _ _ _ _ _ q => gt_int q
theorem op_ge : OpR X (compareOp .GtE) (rI0 fun i j => .bl (decide (j ≤ i))) := opB0 fun _ _ _ _ _ _ _ q => ge_int q
theorem op_in_str : OpR X (compareOp .In) (fun x y H Q => ∃ i j, x = .str i ∧ y = .str j ∧ Q (.bl (!(Builtin.Str.occurrences j i 0 j.length 1).isEmpty)) H) := by
  intro pins s σ H x y v u Q I rx ry h
  obtain ⟨i, j, rfl, rfl, q⟩ := h
  obtain ⟨t, rfl⟩ := rx
  obtain ⟨t', rfl⟩ := ry
  exact in_str (fin_bl I q rfl)
theorem op_notN : OpR X (compareOp .IsNot) (fun x y H Q => y = .non ∧ Q (.bl (!decide (x = .non))) H) := by
  intro pins s σ H x y v u Q I rx ry h
  obtain ⟨rfl, q⟩ := h
  cases ry
  refine isnot_none_gen (fin_bl I q ?_)
  cases x <;> first
    | (cases rx; rfl)
    | (obtain ⟨t, rfl⟩ := rx; rfl)
theorem nomark (b : Expr) {op : CmpOp} (h : op ≠ .In := by decide) (h2 : op ≠ .NotIn := by decide) : behindInMarks op b = false := by
  have e1 : (op == CmpOp.In) = false := by cases op <;> first | rfl | exact absurd rfl h
  have e2 : (op == CmpOp.NotIn) = false := by cases op <;> first | rfl | exact absurd rfl h2
  cases b <;> simp [behindInMarks, e1, e2]
theorem pe_cmpR {op : CmpOp} {r : R2} (ho : OpR X (compareOp op) r) (ha : PE X a ta) (hb : PE X b tb) (hm : behindInMarks op b = false) : PE X (.Compare a [op] [b] pos) (tOp r ta tb) := by
  intro pins s σ H Q I h
  exact wpAny_Compare1 (binT ha hb I h fun v u s2 x y H2 I2 rx ry q => ho pins s2 σ H2 x y v u Q I2 rx ry q) hm
def tTest (t : TE) : TT := fun σ H Q => t σ H fun x H' => ∃ k, x = .bl k ∧ Q k H'
theorem pt_cmpR {op : CmpOp} {r : R2} (ho : OpR X (compareOp op) r) (ha : PE X a ta) (hb : PE X b tb) (hm : behindInMarks op b = false) : PT X (.Compare a [op] [b] pos) (tTest (tOp r ta tb)) := by
  intro pins s σ H Q I h
  refine wpAny_isTrue_Compare1 (thn (ha pins s σ H _ I h) fun v s1 ⟨x, H1, I1, r1, q1⟩ => thn (hb pins s1 σ H1 _ I1 q1) fun u s2 ⟨y, H2, I2, r2, q2⟩ =>
    thn (ho pins s2 σ H2 x y v u _ I2 r1 r2 q2) fun c s3 ⟨z, H3, I3, r3, k, e, q3⟩ => ?_) hm
  subst e
  cases r3
  exact wpAny_truthy_bool ⟨H3, I3, q3⟩
def tChain (r r' : R2) (ta tb tc : TE) : TE := fun σ H Q => ta σ H fun x H1 => tb σ H1 fun y H2 => r x y H2 fun z H3 => ∃ k, z = .bl k ∧
  (if k = true then tc σ H3 fun w' H4 => r' y w' H4 Q else Q (.bl false) H3)
theorem pt_chain {op op' : CmpOp} {r r' : R2} (ho : OpR X (compareOp op) r) (ho' : OpR X (compareOp op') r') (ha : PE X a ta) (hb : PE X b tb) (hc : PE X c tc)
    (hm : lastMarks [op, op'] [b, c] = false := by with_unfolding_all rfl) : PT X (.Compare a [op, op'] [b, c] pos) (tTest (tChain r r' ta tb tc)) := by
  intro pins s σ H Q I h
  refine isTrue_chain (thn (ha pins s σ H _ I h) fun v s1 ⟨x, H1, I1, r1, q1⟩ => test_link (thn (hb pins s1 σ H1 _ I1 q1) fun u s2 ⟨y, H2, I2, r2, q2⟩ =>
    thn (ho pins s2 σ H2 x y v u _ I2 r1 r2 q2) fun d s3 ⟨z, H3, I3, r3, k, e, q3⟩ => ?_)) hm
  subst e
  cases r3
  refine wpAny_truthy_bool ?_
  cases k with
  | false =>
    obtain ⟨k', e', q'⟩ := q3
    cases e'
    exact ite_ff ⟨H3, I3, q'⟩
  | true =>
    refine ite_tt (test_last (thn (hc pins s3 σ H3 _ I3 q3) fun w' s4 ⟨z', H4, I4, r4, q4⟩ => thn (ho' pins s4 σ H4 y z' u w' _ I4 r2 r4 q4) fun d' s5 ⟨z2, H5, I5, r5, k2, e2, q5⟩ => ?_))
    subst e2
    cases r5
    exact wpAny_truthy_bool ⟨H5, I5, q5⟩
theorem line63 : (sizeLine : Nat) < 2 ^ 63 := by rw [sizeLine_eq]; decide
theorem op_add_str : OpR X (binaryOp .Add) (fun x y H Q => ∃ i j, x = .str i ∧ y = .str j ∧ i.length + j.length ≤ sizeLine ∧ Q (.str (i ++ j)) H) := by
  intro pins s σ H x y v u Q I rx ry h
  obtain ⟨i, j, rfl, rfl, hz, q⟩ := h
  obtain ⟨t, rfl⟩ := rx
  obtain ⟨t', rfl⟩ := ry
  exact add_str (fun t' tk => ⟨.str (i ++ j), H, I.tok _, ⟨_, rfl⟩, q⟩) hz
def PlainIxT (b : Expr) : Prop := ∀ o i, subscripted b false o i = operate [o, i] (getItem o i)
theorem pe_item_str (ha : PE X a ta) (hb : PE X b tb) (hs : PlainIxT b) :
    PE X (.Subscript a b pos) (tOp (fun x y H Q => ∃ z i c, x = .str z ∧ y = .int i ∧ 0 ≤ i ∧ i < 2 ^ 63 ∧ i < z.length ∧ z.cps[i.toNat]? = some c ∧ Q (.str ⟨#[c]⟩) H) ta tb) := by
  intro pins s σ H Q I h
  refine Subscript_ (binT ha hb I h fun v u s2 x y H2 I2 rx ry q => ?_)
  obtain ⟨z, i, c, rfl, rfl, h0, h63, h1, hc, q⟩ := q
  obtain ⟨t, rfl⟩ := rx
  obtain ⟨t', rfl⟩ := ry
  have e : seqIndex? i z.length = some i.toNat := PySem.StrLaws.seqIndex_nonneg h0 h1
  exact tail_any (typeIs_str s2 z t) slot_str_getitem.lookup (getItem_str (c := c) (by
    have e1 : decide (i < -(2 ^ 63 : Int)) = false := decide_eq_false (by omega)
    have e2 : decide (i ≥ 2 ^ 63) = false := decide_eq_false (by omega)
    rw [e1, e2] <;> rfl) (by rw [e]; exact hc) ⟨.str ⟨#[c]⟩, H2, I2.tok _, ⟨_, rfl⟩, q⟩) (hs _ _)
theorem vals1 {x : V} {us : List Value} (r : Vals [x] us) : ∃ u, us = [u] ∧ RelV x u := by
  cases r with
  | cons r1 r2 => cases r2; exact ⟨_, rfl, r1⟩
theorem vals2 {x y : V} {us : List Value} (r : Vals [x, y] us) : ∃ u w', us = [u, w'] ∧ RelV x u ∧ RelV y w' := by
  cases r with
  | cons r1 r2 =>
    cases r2 with
    | cons r3 r4 => cases r4; exact ⟨_, _, rfl, r1, r3⟩
theorem call_abs : CallR X (.builtin "abs") (fun xs H Q => ∃ i, xs = [.int i] ∧ Q (.int (if i < 0 then -i else i)) H) := by
  intro pins s σ H xs us Q I r h
  obtain ⟨i, rfl, q⟩ := h
  obtain ⟨u, rfl, t, rfl⟩ := vals1 r
  exact call_abs_int fun u tk => ⟨.int (if i < 0 then -i else i), H, I.tok _, ⟨_, rfl⟩, q⟩
theorem call_int1 : CallR X (.type "int") (fun xs H Q => (∃ i, xs = [.int i] ∧ Q (.int i) H) ∨ ∃ k, xs = [.bl k] ∧ Q (.int (if k then 1 else 0)) H) := by
  intro pins s σ H xs us Q I r h
  rcases h with ⟨i, rfl, q⟩ | ⟨k, rfl, q⟩
  · obtain ⟨u, rfl, t, rfl⟩ := vals1 r
    exact call_int_int ⟨.int i, H, I, ⟨_, rfl⟩, q⟩
  · obtain ⟨u, rfl, r1⟩ := vals1 r
    cases r1
    exact call_int_bool ⟨.int (if k then 1 else 0), H, I.tok _, ⟨_, rfl⟩, q⟩
theorem call_str_int : CallR X (.type "str") (fun xs H Q => ∃ i, xs = [.int i] ∧ i.natAbs.log2 < 1920 ∧ Q (.str (toString i)) H) := by
  intro pins s σ H xs us Q I r h
  obtain ⟨i, rfl, hz, q⟩ := h
  obtain ⟨u, rfl, t, rfl⟩ := vals1 r
  exact PySem.P.str_of_int hz ⟨.str _, H, I.tok _, ⟨_, rfl⟩, q⟩
end
end L2
namespace L2
open PySem PySem.Spec PyProof.Rows
structure ObjM (h : Heap) (x dx C : Addr) (mA : Str → Option Value) : Prop where
  obj : h.get? x = some (PySem.W.instObj C dx)
  ns : h.Ns1 dx mA
  ne : dx ≠ x
theorem lookIn_ns {h : Heap} {dx : Addr} {mA : Str → Option Value} (n : h.Ns1 dx mA) : ∃ od, h.get? dx = some od ∧ ∀ name, PySem.W.lookIn name od = some (mA name) := by
  obtain ⟨o, es, ep, ho, hd, hk, _, hm⟩ := n
  refine ⟨o, ho, fun name => ?_⟩
  have e := hm name
  unfold nsFind findBy at e
  rw [← Array.find?_toList] at e
  unfold PySem.W.lookIn
  rw [hd]
  dsimp only
  split
  · rename_i y q
    rw [q] at e
    exact congrArg some e
  · rename_i q
    rw [q] at e
    have a : es.toList.any (·.refKey) = false := by
      rw [List.any_eq_false]
      intro y hy
      obtain ⟨z, t, hkey⟩ := hk y (Array.mem_toList_iff.mp hy)
      simp [DictEntry.refKey, hkey]
    have a' : ¬ es.toList.any (·.refKey) = true := by rw [a]; exact Bool.false_ne_true
    rw [if_neg a']
    exact congrArg some e
theorem ObjM.look {h : Heap} {x dx C : Addr} {mA : Str → Option Value} (I : ObjM h x dx C mA) : ∃ od, PySem.W.InstAt h x (PySem.W.instObj C dx) C (some od) ∧ ∀ name, PySem.W.lookIn name od = some (mA name) :=
  let ⟨od, ho, hl⟩ := lookIn_ns I.ns
  ⟨od, ⟨I.obj, rfl, rfl, ho⟩, hl⟩
section
variable {prog : Program} {w : World} {A : Around} {E : Value → Shared → Prop} {s : Shared} {K : PySem.W.Frag} {x dx C f : Addr} {mA : Str → Option Value} {name : Str} {v : Value}
end
section
variable {P : Program} {w : World} {H H' : Hp} {h h' : Heap} {a C dx : Addr} {fs fs' : List (Str × V)}
theorem ins_get (hok : HOk P w H h) (e : H a = some (.ins C dx fs)) : ∃ mA, ObjM h a dx C mA ∧ (∀ f, RelO (fs.lookup f) (mA f)) ∧ PySem.Within mA (fs.map (·.1)) ∧ fs.length ≤ 1000 ∧ H dx = some (.own a) := by
  obtain ⟨d, z, ne, ob, mA, n, r, q⟩ := (show ObjOk P w H h a (.ins C dx fs) from hok a _ e)
  exact ⟨mA, ⟨ob, n, ne⟩, r, q, z, d⟩
end
structure Cls (K : PySem.W.Frag) (C : Addr) : Prop where
  pg : PySem.W.plainGet K C Str.empty = true
  hd : PySem.W.hasDictIn K C = true
  po : PySem.W.plainOver K C = true
  sa : PySem.W.findIn K (.ref C) "__setattr__" = some (some (.builtin "object.__setattr__"))
theorem Cls.get {K : PySem.W.Frag} {C : Addr} (c : Cls K C) (f : Str) : PySem.W.plainGet K C f = true := c.pg
section
variable {X : Cx} {pins : List (Addr × Obj)} {σ : St} {H : Hp} {s : Shared} {a C dx : Addr} {fs : List (Str × V)} {f : Str} {v : V} {A : Around} {E : Value → Shared → Prop}
end
section
variable {X : Cx} {o e value : Expr} {f : Str} {pos pos' tpos : Pos} {ta tv : TE}
end
section
variable {X : Cx} {pins : List (Addr × Obj)} {σ : St} {H : Hp} {s : Shared} {A : Around} {E : Value → Shared → Prop} {Q : Value → Shared → Prop} {c : Value} {b : Bool}
inductive TyOf (K : PySem.W.Frag) (H : Hp) : V → Value → Prop where
  | non : TyOf K H .non (.type "NoneType")
  | bl (x : Bool) : TyOf K H (.bl x) (.type "bool")
  | int (i : Int) : TyOf K H (.int i) (.type "int")
  | str (x : Str) : TyOf K H (.str x) (.type "str")
  | flt (x : UInt64) : TyOf K H (.flt x) (.type "float")
  | lst {a : Addr} {xs : List V} (e : H a = some (.lst xs)) : TyOf K H (.ref a) (.type "list")
  | frz {a : Addr} {o : Obj} {xs : List V} (e : H a = some (.frz o (.lst xs))) : TyOf K H (.ref a) (.type "list")
  | tup {a : Addr} {xs : List V} (e : H a = some (.tup xs)) : TyOf K H (.ref a) (.type "tuple")
  | dK {a : Addr} {kvs : List (Key × V)} (e : H a = some (.dK kvs)) : TyOf K H (.ref a) (.type "dict")
  | dT {a : Addr} {kvs : List (List Key × V)} (e : H a = some (.dT kvs)) : TyOf K H (.ref a) (.type "dict")
  | ins {a C dx : Addr} {fs : List (Str × V)} (e : H a = some (.ins C dx fs)) (cl : Cls K C) (ha : PySem.W.findIn K (.ref C) "__class__" = some (some (.builtin "object.__class__")))
      (hn : PySem.W.specialIn K (.builtin "object.__class__") "__get__" = some (some (.builtin "getset_descriptor.__get__"))) (htk : PySem.W.takesIn K (.builtin "object.__class__") = some true)
      (hm : PySem.W.mroIn K C (.type "object") = some true) : TyOf K H (.ref a) (.ref C)
theorem isinst_ok {x : V} {u t : Value} (I : Inv X pins σ H s) (rx : RelV x u) (ty : TyOf X.K H x t) (e : PySem.W.kitOne X.K t c = some b) (h : ∀ tk, Q (.bool b) { s with toks := tk }) :
    wpAny (model X.prog X.w) A (call (.builtin "isinstance") [u, c]) Q E s := by
  cases ty with
  | non => cases (show u = Value.none from rx); exact PySem.W.kia_one PySem.W.kitx_none I.kIn True.intro e (fun z => nomatch z) h
  | bl y => cases (show u = Value.bool y from rx); exact PySem.W.kia_one PySem.W.kitx_bool I.kIn True.intro e (fun z => nomatch z) h
  | int i => obtain ⟨t, q⟩ := (show ∃ t, u = Value.int i t from rx); cases q; exact PySem.W.kia_one PySem.W.kitx_int I.kIn True.intro e (fun z => nomatch z) h
  | str y => obtain ⟨t, q⟩ := (show ∃ t, u = Value.str y t from rx); cases q; exact PySem.W.kia_one PySem.W.kitx_str I.kIn True.intro e (fun z => nomatch z) h
  | flt y => obtain ⟨t, q⟩ := (show ∃ t, u = Value.float y t from rx); cases q; exact PySem.W.kia_one PySem.W.kitx_float I.kIn True.intro e (fun z => nomatch z) h
  | @lst a xs ea =>
    cases (show u = Value.ref a from rx)
    obtain ⟨_, _, n, _, h1⟩ := (show ObjOk X.prog X.w H s.heap a (.lst xs) from I.hok a _ ea)
    exact PySem.W.kia_one PySem.W.kitx_list I.kIn ⟨_, h1, rfl⟩ e (fun z => nomatch z) h
  | @frz a ob xs ea =>
    cases (show u = Value.ref a from rx)
    obtain ⟨_, _, _, n, _, h1⟩ := (show ObjOk X.prog X.w H s.heap a (.frz ob (.lst xs)) from I.hok a _ ea)
    exact PySem.W.kia_one PySem.W.kitx_list I.kIn ⟨_, h1, rfl⟩ e (fun z => nomatch z) h
  | @tup a xs ea =>
    cases (show u = Value.ref a from rx)
    obtain ⟨_, _, _, p⟩ := (show ObjOk X.prog X.w H s.heap a (.tup xs) from I.hok a _ ea)
    obtain ⟨o, h1, h2, _⟩ := p
    exact PySem.W.kia_one PySem.W.kitx_tuple I.kIn ⟨o, h1, h2⟩ e (fun z => nomatch z) h
  | @dK a kvs ea =>
    cases (show u = Value.ref a from rx)
    obtain ⟨_, _, vs, _, p⟩ := (show ObjOk X.prog X.w H s.heap a (.dK kvs) from I.hok a _ ea)
    obtain ⟨o, es, ep, h1, h2, _⟩ := p
    exact PySem.W.kia_one PySem.W.kitx_dict I.kIn ⟨o, h1, h2.1⟩ e (fun z => nomatch z) h
  | @dT a kvs ea =>
    cases (show u = Value.ref a from rx)
    obtain ⟨_, _, xs, _, o, es, ep, h1, h2, _⟩ := (show ObjOk X.prog X.w H s.heap a (.dT kvs) from I.hok a _ ea)
    exact PySem.W.kia_one PySem.W.kitx_dict I.kIn ⟨o, h1, h2.1⟩ e (fun z => nomatch z) h
  | @ins a C dx fs ea cl ha hn htk hm =>
    cases (show u = Value.ref a from rx)
    obtain ⟨mA, O, _⟩ := ins_get I.hok ea
    obtain ⟨od, J, _⟩ := O.look
    exact PySem.W.kia_one (PySem.W.kitx_own (cl.get _) cl.hd ha hn htk hm) I.kIn J e (fun z => nomatch z) h
end
end L2
namespace L2
open PySem PySem.Spec PyProof.Rows
structure Room (k : Nat) (A : Around) : Prop where
  hd : A.handled = none
  dp : A.depth + 3 * k + 5 < recursionLimit
  un : A.units + 16 * k + 200 < cLine
theorem Room.mono {j k : Nat} {A : Around} (r : Room k A) (h : j ≤ k) : Room j A := ⟨r.hd, by have := r.dp; omega, by have := r.un; omega⟩
theorem Room.deeper {k : Nat} {A : Around} (r : Room (k + 1) A) (env : Env) : Room k (A.deeper env) :=
  ⟨r.hd, by have := r.dp; show A.depth + 1 + 3 * k + 5 < _; omega, by have := r.un; show A.units + 3 + 16 * k + 200 < _; omega⟩
theorem Room.depth {k : Nat} {A : Around} (r : Room k A) : A.depth < recursionLimit := by have := r.dp; omega
theorem Room.units {k : Nat} {A : Around} (r : Room k A) : A.units + 64 < cLine := by have := r.un; omega
def tNil : TA := fun _ H Q => Q [] H
def tCons (ta : TE) (tr : TA) : TA := fun σ H Q => ta σ H fun x H1 => tr σ H1 fun xs H2 => Q (x :: xs) H2
section
variable {X : Cx} {e : Expr} {es : List Expr} {te : TE} {t : TA} {pos : Pos}
theorem pa_nil : PA X [] tNil := fun _ _ _ _ H Q I h => Calls.spliced_nil ⟨[], H, I, .nil, h⟩
theorem pa_cons (ha : PE X e te) (hr : PA X es t) (hs : starEach (e :: es) X.env = (false, eval e X.env) :: starEach es X.env := by rfl) : PA X (e :: es) (tCons te t) := by
  intro pos pins s σ H Q I h
  rw [hs]
  show wpAny _ _ (spliced ((false, eval e X.env) :: backTo pos (starEach es X.env))) _ _ s
  refine Calls.spliced_cons (thn (ha pins s σ H _ I h) fun u s1 ⟨x, H1, I1, r1, q1⟩ => ?_)
  exact thn (hr pos pins s1 σ H1 _ I1 q1) fun us s2 ⟨xs, H2, I2, r2, q2⟩ => ⟨x :: xs, H2, I2, .cons r1 r2, q2⟩
def tTup (t : TA) : TE := fun σ H Q => t σ H fun xs H1 => xs.length ≤ sizeLine ∧ ∀ p, H1 p = none → Q (.ref p) (upd H1 p (.tup xs))
def tLst (t : TA) : TE := fun σ H Q => t σ H fun xs H1 => xs.length ≤ sizeLine ∧ ∀ p, H1 p = none → Q (.ref p) (upd H1 p (.lst xs))
theorem pe_tup {x1} (h : PA X es t) : PE X (.Tuple es x1 pos) (tTup t) := by
  intro pins s σ H Q I hq
  refine wpAny_Tuple_spliced (thn (h pos pins s σ H _ I hq) fun us s1 ⟨xs, H1, I1, r, z, q⟩ => ⟨by rw [← r.length]; exact z, ?_⟩)
  have hf : H1 s1.heap.objs.size = none := I1.hok.fresh (Nat.le_refl _)
  refine ⟨.ref s1.heap.objs.size, upd H1 s1.heap.objs.size (.tup xs), I1.laid (t' := s1.toks) (fun b u e => Heap.get?_push_of_some _ e) (Nat.le_refl _) ?_, rfl, q _ hf⟩
  exact ⟨z, us, r, ⟨_, Heap.get?_push_size _ rfl, rfl, _, rfl⟩⟩
theorem pe_lst (h : PA X es t) : PE X (.List es pos) (tLst t) := by
  intro pins s σ H Q I hq
  refine wpAny_List_spliced (thn (h pos pins s σ H _ I hq) fun us s1 ⟨xs, H1, I1, r, z, q⟩ => ⟨by rw [← r.length]; exact z, ?_⟩)
  have hf : H1 s1.heap.objs.size = none := I1.hok.fresh (Nat.le_refl _)
  refine ⟨.ref s1.heap.objs.size, upd H1 s1.heap.objs.size (.lst xs), I1.laid (t' := s1.toks) (fun b u e => Heap.get?_push_of_some _ e) (Nat.le_refl _) ?_, rfl, q _ hf⟩
  exact ⟨z, us, 0, r, Heap.get?_push_size _ rfl⟩
end
abbrev Sp := List V → Hp → VK → XK → Prop
abbrev CXT := List Env → Hp → Shared → XK → Value → Shared → Prop
structure Env0 (P : Program) (w : World) (K : PySem.W.Frag) (mg : Str → Option Value) (base : Heap) (A : Around) (outer : List Env) (s : Shared) (H : Hp) : Prop where
  frames : A.frames = some outer
  mod : Mod K mg base
  bs : ∀ b o, base.get? b = some o → s.heap.get? b = some o ∧ H b = none
  bsz : base.objs.size ≤ s.heap.objs.size
  funs : s.heap.FunFrames base outer
  frf : ∀ b ∈ frs outer, H b = none
  hok : HOk P w H s.heap
  bare : AllBare s.gens
def CE (outer : List Env) (P : Program) (w : World) (H : Hp) (s : Shared) (Q : VK) (u : Value) (s' : Shared) : Prop :=
  ∃ v H', s'.os = s.os ∧ AllBare s'.gens ∧ Un (frs outer) [] H H' s.heap s'.heap ∧ HOk P w H' s'.heap ∧ RelV v u ∧ Q v H'
def CR (CX : CXT) (outer : List Env) (P : Program) (w : World) (H : Hp) (s : Shared) (Q : VK) (E : XK) (r : Result) (s' : Shared) : Prop :=
  match r with
  | .ok (.ret u) => CE outer P w H s Q u s'
  | .ok _ => False
  | .error e => CX outer H s E e s'
structure FnOk (P : Program) (w : World) (K : PySem.W.Frag) (mg : Str → Option Value) (base : Heap) (CX : CXT) (k : Nat) (f : Addr) (fd : FuncData) (ps : List Str) (sp : Sp) : Prop where
  len : ∀ vs H Q E, sp vs H Q E → vs.length = ps.length
  run : ∀ (A : Around) (outer : List Env) (s : Shared) (H : Hp) (args : Args) (us : List Value) (vs : List V) (Q : VK) (E : XK), Room k A → Env0 P w K mg base A outer s H → BindsTo s fd args (ps.zip us) → Vals vs us → sp vs H Q E →
    codeAny (model P w) A (.call (.ref f) args) (CR CX outer P w H s Q E) s
theorem FnOk.mono {P : Program} {w : World} {K : PySem.W.Frag} {mg : Str → Option Value} {base : Heap} {CX : CXT} {j k : Nat} {f : Addr} {fd : FuncData} {ps : List Str} {sp : Sp} (F : FnOk P w K mg base CX j f fd ps sp) (h : j ≤ k) :
    FnOk P w K mg base CX k f fd ps sp := ⟨F.len, fun A outer s H args us vs Q E hr => F.run A outer s H args us vs Q E (hr.mono h)⟩
theorem FnOk.imp {P : Program} {w : World} {K : PySem.W.Frag} {mg : Str → Option Value} {base : Heap} {CX : CXT} {k : Nat} {f : Addr} {fd : FuncData} {ps : List Str} {sp sp' : Sp} (F : FnOk P w K mg base CX k f fd ps sp)
    (h : ∀ vs H Q E, sp' vs H Q E → sp vs H Q E) : FnOk P w K mg base CX k f fd ps sp' :=
  ⟨fun vs H Q E q => F.len vs H Q E (h _ _ _ _ q), fun A outer s H args us vs Q E hr he hb hv hs => F.run A outer s H args us vs Q E hr he hb hv (h _ _ _ _ hs)⟩
section
variable {X : Cx} {pins : List (Addr × Obj)} {σ : St} {H : Hp} {s s' : Shared}
theorem Inv.env0 (I : Inv X pins σ H s) : Env0 X.prog X.w X.K X.mg X.base X.A X.stack s H :=
  ⟨I.ok.frames, I.ok.mod, I.bs, Nat.le_trans I.ok.bsz I.sz, I.stack, I.stkFree, I.hok, I.bare⟩
theorem Inv.after {Q : VK} {u : Value} (I : Inv X pins σ H s) (h : CE X.stack X.prog X.w H s Q u s') : EP X pins σ Q u s' := by
  obtain ⟨v, H', os, bare, un, hok, r, q⟩ := h
  obtain ⟨hh, g, d, t, os'⟩ := s'
  obtain rfl : os' = s.os := os
  exact ⟨v, H', I.call (h' := hh) (g' := g) (d' := d) (t' := t) (ch := []) un hok bare (fun b z => absurd z (by simp)), r, q⟩
end
def tCall (sp : Sp) (dvs : List V) (E : XK) (t : TA) : TE := fun σ H Q => t σ H fun vs H1 => sp (vs ++ dvs) H1 Q E
def Binds (K : PySem.W.Frag) (fd : FuncData) (ps : List Str) (ds : List Value) : Prop :=
  ∀ (s : Shared) (us : List Value), K.In s.heap → (us ++ ds).length = ps.length → BindsTo s fd ⟨us, []⟩ (ps.zip (us ++ ds))
theorem Binds.all {K : PySem.W.Frag} {fd : FuncData} {ps : List Str} (h : ∀ us : List Value, us.length = ps.length → bindArgs fd ⟨us, []⟩ = pure (ps.zip us)) : Binds K fd ps [] := fun s us _ hl => by
  rw [List.append_nil] at hl ⊢
  exact .of_eq (h us hl)
def Passes (CX : CXT) (X : Cx) (E : XK) : Prop := ∀ (pins : List (Addr × Obj)) (σ : St) (H : Hp) (s : Shared) (e : Value) (s' : Shared), Inv X pins σ H s → CX X.stack H s E e s' → X.xe e s'
section
variable {X : Cx} {CX : CXT} {k : Nat} {f C : Addr} {fd : FuncData} {ps : List Str} {sp : Sp} {dvs : List V} {ds : List Value} {E : XK} {x m : Str} {p pos apos : Pos} {e o : Expr} {es : List Expr} {ta : TE} {t : TA}
theorem run_fn {pins : List (Addr × Obj)} {σ : St} {H : Hp} {s : Shared} {Q : VK} {us : List Value} {vs : List V} (F : FnOk X.prog X.w X.K X.mg X.base CX k f fd ps sp) (hr : Room k X.A) (hb : Binds X.K fd ps ds) (hd : Vals dvs ds) (hx : Passes CX X E)
    (I : Inv X pins σ H s) (r : Vals vs us) (h : sp (vs ++ dvs) H Q E) : wpAny (model X.prog X.w) X.A (call (.ref f) us) (EP X pins σ Q) X.xe s := by
  have r2 : Vals (vs ++ dvs) (us ++ ds) := r.append hd
  have hl : (us ++ ds).length = ps.length := by rw [← r2.length]; exact F.len _ _ _ _ h
  refine wpAny_call (codeAny_mono (F.run X.A X.stack s H ⟨us, []⟩ (us ++ ds) (vs ++ dvs) Q E hr I.env0 (hb s us I.kIn hl) r2 h) fun r s' hq => ?_)
  cases r with
  | error e => exact hx pins σ H s e s' I hq
  | ok fl =>
    cases fl with
    | ret u => exact I.after hq
    | next => exact False.elim hq
    | brk => exact False.elim hq
    | cont => exact False.elim hq
theorem pe_call (F : FnOk X.prog X.w X.K X.mg X.base CX k f fd ps sp) (hr : Room k X.A) (hg : Gl X x) (hm : X.mg x = some (.ref f)) (hk : PySem.W.keepIn X.K (.ref f) = true) (hb : Binds X.K fd ps ds) (hd : Vals dvs ds) (hx : Passes CX X E)
    (ha : PA X (e :: es) t) (hdb : (x == ("__debug__" : Str)) = false := by decide) (he : starEach (e :: es) X.env = (false, eval e X.env) :: starEach es X.env := by rfl) (hpl : (backTo pos (starEach es X.env)).any (·.1) = false := by rfl) :
    PE X (.Call (.Name x p) (e :: es) [] pos) (tCall sp dvs E t) := by
  intro pins s σ H Q I h
  refine wpAny_Call_Name_kw (ld_glob I hg hm ?_ hdb)
  refine PySem.W.callWith_K (h₀ := X.base) I.ok.mod.kin hk (thn (ha pos pins s σ H _ I h) fun us s1 ⟨vs, H1, I1, r, q⟩ => ⟨I1.kIn, ?_⟩) he hpl
  exact run_fn F hr hb hd hx I1 r q
end
section
variable {X : Cx} {CX : CXT} {k : Nat} {f C : Addr} {fd : FuncData} {ps ks : List Str} {sp : Sp} {E : XK} {x m : Str} {p pos apos kpos : Pos} {e o : Expr} {es : List Expr} {kws : List Keyword} {te ta : TE} {t tk : TA} {nm : Option Str}
variable {g : List Value → List Value → List Value} {gV : List V → List V → List V}
end
structure FnScope (N P : List Str) (sc : Scope) : Prop where
  kind : sc.kind = .function
  co : sc.isCoroutine = false
  gen : sc.isGenerator = false
  nd : N.Nodup
  pre : N.take P.length = P
  par : ∀ x ∈ P, sc.names.lookup x = some .local ∨ sc.names.lookup x = some .cell
  nofree : ∀ y ∈ sc.names, y.2 ≠ .free
theorem bindL_out {kindOf : Str → Option NameKind} {x : Str} : ∀ {binds : List (Str × Value)} {m : Str → Option Value}, (∀ v, (x, v) ∉ binds) → bindL kindOf binds m x = m x
  | [], _, _ => rfl
  | (n, v) :: r, m, h => by
    unfold bindL
    rw [bindL_out fun w hw => h w (List.mem_cons_of_mem _ hw)]
    split
    · have : x ≠ n := by rintro rfl; exact h v List.mem_cons_self
      simp [this]
    · rfl
theorem bindC_out {kindOf : Str → Option NameKind} {x : Str} : ∀ {binds : List (Str × Value)} {m : Str → Option Value}, (∀ v, (x, v) ∉ binds) → bindC kindOf binds m x = m x
  | [], _, _ => rfl
  | (n, v) :: r, m, h => by
    unfold bindC
    rw [bindC_out fun w hw => h w (List.mem_cons_of_mem _ hw)]
    split
    · rfl
    · have : x ≠ n := by rintro rfl; exact h v List.mem_cons_self
      simp [this]
theorem bindL_get {kindOf : Str → Option NameKind} {x : Str} {v : Value} : ∀ {P : List Str} {vs : List Value} {i : Nat} {m : Str → Option Value}, P.Nodup → P[i]? = some x → vs[i]? = some v → kindOf x = some .local →
    bindL kindOf (P.zip vs) m x = some v
  | [], _, _, _, _, h, _, _ => by simp at h
  | _ :: _, [], _, _, _, _, h, _ => by simp at h
  | p :: P, w :: vs, 0, m, nd, h1, h2, hk => by
    simp at h1 h2; subst h1; subst h2
    show bindL kindOf ((p, w) :: P.zip vs) m p = _
    unfold bindL
    rw [bindL_out fun v hv => (List.nodup_cons.mp nd).1 (List.of_mem_zip hv).1, if_pos hk]
    simp
  | p :: P, w :: vs, i + 1, m, nd, h1, h2, hk => by
    show bindL kindOf ((p, w) :: P.zip vs) m x = _
    unfold bindL
    exact bindL_get (i := i) (List.nodup_cons.mp nd).2 (by simpa using h1) (by simpa using h2) hk
theorem bindC_get {kindOf : Str → Option NameKind} {x : Str} {v : Value} : ∀ {P : List Str} {vs : List Value} {i : Nat} {m : Str → Option Value}, P.Nodup → P[i]? = some x → vs[i]? = some v → kindOf x ≠ some .local →
    bindC kindOf (P.zip vs) m x = some v
  | [], _, _, _, _, h, _, _ => by simp at h
  | _ :: _, [], _, _, _, _, h, _ => by simp at h
  | p :: P, w :: vs, 0, m, nd, h1, h2, hk => by
    simp at h1 h2; subst h1; subst h2
    show bindC kindOf ((p, w) :: P.zip vs) m p = _
    unfold bindC
    rw [bindC_out fun v hv => (List.nodup_cons.mp nd).1 (List.of_mem_zip hv).1, if_neg hk]
    simp
  | p :: P, w :: vs, i + 1, m, nd, h1, h2, hk => by
    show bindC kindOf ((p, w) :: P.zip vs) m x = _
    unfold bindC
    exact bindC_get (i := i) (List.nodup_cons.mp nd).2 (by simpa using h1) (by simpa using h2) hk
def start (N : List Str) (vs : List V) : St := vs.map some ++ List.replicate (N.length - vs.length) none
def cxOf (CX : CXT) (P : Program) (w : World) (K : PySem.W.Frag) (mg : Str → Option Value) (base : Heap) (N : List Str) (qual : Str) (scope : Scope) (f : Addr) (cd : Value) (A : Around) (outer : List Env) (s : Shared) (H : Hp) (E : XK) : Cx where
  prog := P
  w := w
  K := K
  mg := mg
  base := base
  A := A.deeper (envOfC qual scope s.heap.objs.size f cd)
  N := N
  s₀ := s
  H₀ := H
  env := envOfC qual scope s.heap.objs.size f cd
  outer := outer
  stack := envOfC qual scope s.heap.objs.size f cd :: outer
  ex := []
  calm := true
  fn := fun _ => true
  pn := []
  xe := fun e s' => wpAny (model P w) (A.deeper (envOfC qual scope s.heap.objs.size f cd)) (leaving (envOfC qual scope s.heap.objs.size f cd) e) (fun _ s'' => CX outer H s E e s'') (fun e' s'' => CX outer H s E e' s'') s'
theorem cell_has {sc : Scope} {n : Nat} {x : Str} (h : sc.names.lookup x = some .cell) : ∃ c, (cellsFrom n sc.names []).lookup x = some c := by
  have q := PySem.W.cellsFrom_some sc.names n [] (.inl h)
  exact Option.isSome_iff_exists.mp q
theorem inv_start {CX : CXT} {P : Program} {w : World} {K : PySem.W.Frag} {mg : Str → Option Value} {base : Heap} {N ps : List Str} {qual : Str} {scope : Scope} {f : Addr} {cd : Value} {A : Around} {outer : List Env} {s s1 : Shared} {H : Hp} {E : XK} {us : List Value} {vs : List V}
    (S : FnScope N ps scope) (hd : A.handled = none) (e0 : Env0 P w K mg base A outer s H) (hl : vs.length = ps.length) (r : Vals vs us)
    (x : InCallC s s.heap.objs.size (bindL (envOfC qual scope s.heap.objs.size f cd).kindOf (ps.zip us) fun _ => none) (cellsFrom (s.heap.objs.size + 1) scope.names []) (bindC (envOfC qual scope s.heap.objs.size f cd).kindOf (ps.zip us) fun _ => none) s1) :
    Inv (cxOf CX P w K mg base N qual scope f cd A outer s H E) [] (start N vs) H s1 := by
  have hpl : ps.length ≤ N.length := by have := congrArg List.length S.pre; rw [List.length_take] at this; omega
  obtain ⟨h1, tk, rfl, hk⟩ := x.done
  have noA : ∀ b : Addr, b ∉ (cxOf CX P w K mg base N qual scope f cd A outer s H E).ex := fun b z => absurd (show b ∈ ([] : List Addr) from z) (by simp)
  refine ⟨⟨e0.mod, S.kind, rfl, rfl, Nat.le_refl _, fun y z c h1 h2 => ?_, fun y hy => ?_, fun y c _ h => ?_, fun _ => hd, Around.frames_deeper e0.frames, .inr ⟨rfl, rfl⟩, fun b z => absurd z (noA b), e0.bs, e0.bsz, fun b _ _ => noA b, fun b z => absurd z (noA b), e0.funs, e0.frf⟩,
    rfl, e0.bare, Un.kept hk, ⟨_, x.toInCall.ns, fun i y v h1 h2 h3 => ?_⟩, fun y c h => ⟨_, x.cell y c h⟩, e0.hok.fresh (Nat.le_refl _), fun y c h => ?_, fun p hp => absurd (show p ∈ ([] : List (Addr × Obj)) from hp) (by simp), e0.hok.kept hk, ?_⟩
  · exact name_of_addr x.apart (PySem.mem_of_lookup h1) (PySem.mem_of_lookup h2)
  · have hy : scope.names.lookup y = some .cell ∨ scope.names.lookup y = some .free := hy
    rcases hy with hy | hy
    · exact cell_has hy
    · exact absurd rfl (S.nofree _ (PySem.mem_of_lookup hy))
  · exact Nat.le_of_lt (x.above y c (PySem.mem_of_lookup h))
  · have hi : i < vs.length := by
      unfold start at h2
      by_cases hi : i < vs.length
      · exact hi
      · rw [List.getElem?_append_right (by simpa using hi)] at h2
        rw [List.getElem?_replicate] at h2
        split at h2 <;> cases h2
    have ha : vs[i]? = some v := by
      unfold start at h2
      rw [List.getElem?_append_left (by simpa using hi), List.getElem?_map] at h2
      cases e : vs[i]? with
      | none => rw [e] at h2; cases h2
      | some a => rw [e] at h2; cases h2; rfl
    obtain ⟨u, hu, rv⟩ := r.get ha
    have hp : ps[i]? = some y := by
      rw [← S.pre, List.getElem?_take_of_lt (by omega)]; exact h1
    have ndP : ps.Nodup := by rw [← S.pre]; exact S.nd.sublist (List.take_sublist _ _)
    refine ⟨u, rv, ?_⟩
    rcases S.par y (List.mem_of_getElem? hp) with k | k
    · exact .inl ⟨k, bindL_get ndP hp hu k⟩
    · obtain ⟨c, e⟩ := cell_has (n := s.heap.objs.size + 1) k
      refine .inr ⟨.inl k, c, e, ?_⟩
      have q := x.cell y c e
      rw [bindC_get ndP hp hu (by show scope.names.lookup y ≠ _; rw [k]; decide)] at q
      exact q
  · exact e0.hok.fresh (Nat.le_of_lt (x.above y c (PySem.mem_of_lookup h)))
  · unfold start
    show _ = N.length
    rw [List.length_append, List.length_map, List.length_replicate]
    omega
theorem fn_of {CX : CXT} {P : Program} {w : World} {K : PySem.W.Frag} {mg : Str → Option Value} {base : Heap} {k : Nat} {f : Addr} {name qual : Str} {params : Arguments} {body : List Stmt} {scope : Scope} {dV kV doc pm cdv ct oc : Value} {an od : Option Addr}
    {osl : Array (Option Value)} {N ps : List Str} {sp : Sp} (lk : K.lookup f = some ⟨oc, od, .func (PySem.W.fnOf name qual params body scope dV kV doc pm an cdv ct), osl⟩) (hcd : PySem.W.codeIn K cdv qual = true) (S : FnScope N ps scope)
    (len : ∀ vs H Q E, sp vs H Q E → vs.length = ps.length)
    (hbody : ∀ (A : Around) (outer : List Env) (s : Shared) (H : Hp) (vs : List V) (Q : VK) (E : XK), Room k (A.deeper (envOfC qual scope s.heap.objs.size f cdv)) → sp vs H Q E →
      ∃ t, PSs (cxOf CX P w K mg base N qual scope f cdv A outer s H E) body t ∧ t { nx := fun _ H' => Q .non H', rt := Q } (start N vs) H) :
    FnOk P w K mg base CX (k + 1) f (PySem.W.fnOf name qual params body scope dV kV doc pm an cdv ct) ps sp := by
  refine ⟨len, fun A outer s H args us vs Q E hr e0 hb r hsp => ?_⟩
  have hl := len _ _ _ _ hsp
  have KX : K.In s.heap := e0.mod.kin.keeps fun b o e => (e0.bs b o e).1
  have lim : s.heap.NoLimit := e0.mod.nolimit.keeps fun b o e => (e0.bs b o e).1
  have hkind : ∀ y ∈ ps.zip us, scope.names.lookup y.1 = some .local ∨ (scope.names.lookup y.1 = some .cell ∧ ((cellsFrom (s.heap.objs.size + 1) scope.names []).lookup y.1).isSome = true) := fun ⟨n, v⟩ hy => by
    rcases S.par n (List.of_mem_zip hy).1 with q | q
    · exact .inl q
    · exact .inr ⟨q, PySem.W.cellsFrom_some _ _ _ (.inl q)⟩
  refine codeAny_call_function hr.depth (KX _ _ lk) rfl S.co S.gen rfl (PySem.W.codeRec_of KX hcd) (hb _ _ _ _ ?_)
  refine wpAny_newFunctionEnv_cells S.kind hkind fun env he s1 x => ?_
  subst he
  refine ⟨lim.keeps x.toInCall.keep, codeAny_func ?_⟩
  obtain ⟨t, ht, hq⟩ := hbody A outer s H vs Q E (hr.deeper _) hsp
  have I : Inv (cxOf CX P w K mg base N qual scope f cdv A outer s H E) [] (start N vs) H s1 := inv_start S hr.hd e0 hl r x
  refine wpAny_mono (ht [] s1 (start N vs) H _ I hq) (fun fl s' hs => ?_) fun e s' hs => hs
  have fin : ∀ {σ' : St} {H' : Hp} {v : V} {u : Value}, Inv (cxOf CX P w K mg base N qual scope f cdv A outer s H E) [] σ' H' s' → RelV v u → Q v H' → CE outer P w H s Q u s' :=
    fun {σ' H' v u} J rv q => ⟨v, H', J.os, J.bare, J.base, J.hok, rv, q⟩
  cases fl with
  | ret u =>
    obtain ⟨v, σ', H', J, rv, q⟩ := hs
    exact fin J rv q
  | next =>
    obtain ⟨σ', H', J, q⟩ := hs
    exact fin (v := V.non) (u := Value.none) J rfl q
  | brk =>
    obtain ⟨_, _, _, q⟩ := hs
    exact False.elim q
  | cont =>
    obtain ⟨_, _, _, q⟩ := hs
    exact False.elim q
end L2
namespace L2
open PySem PySem.Spec PyProof.Rows
section
variable {X : Cx} {x : Str} {p pos : Pos} {e : Expr} {es : List Expr} {t : TA} {id T : String} {r : List V → Hp → VK → Prop}
def tCB (r : List V → Hp → VK → Prop) (t : TA) : TE := fun σ H Q => t σ H fun vs H1 => r vs H1 Q
theorem pe_callB (hc : CallR X (.builtin id) r) (hg : Gl X x) (hm : X.mg x = none) (hv : bootBuiltins x = some (.builtin id)) (ha : PA X (e :: es) t) (hn : x ≠ "__name__" := by decide) (hdb : (x == ("__debug__" : Str)) = false := by decide)
    (he : starEach (e :: es) X.env = (false, eval e X.env) :: starEach es X.env := by rfl) (hpl : (backTo pos (starEach es X.env)).any (·.1) = false := by rfl) : PE X (.Call (.Name x p) (e :: es) [] pos) (tCB r t) := by
  intro pins s σ H Q I h
  refine wpAny_Call_Name_kw (ld_blt I hg hm hv ?_ hn hdb)
  exact PyProof.Rows.callWith_builtin1 (thn (ha pos pins s σ H _ I h) fun us s1 ⟨vs, H1, I1, r1, q1⟩ => hc pins s1 σ H1 vs us Q I1 r1 q1) he hpl
theorem pe_callTy (hc : CallR X (.type T) r) (hg : Gl X x) (hm : X.mg x = none) (hv : bootBuiltins x = some (.type T)) (ha : PA X (e :: es) t) (hn : x ≠ "__name__" := by decide) (hdb : (x == ("__debug__" : Str)) = false := by decide)
    (he : starEach (e :: es) X.env = (false, eval e X.env) :: starEach es X.env := by rfl) (hpl : (backTo pos (starEach es X.env)).any (·.1) = false := by rfl) : PE X (.Call (.Name x p) (e :: es) [] pos) (tCB r t) := by
  intro pins s σ H Q I h
  refine wpAny_Call_Name_kw (ld_blt I hg hm hv ?_ hn hdb)
  exact PyProof.Rows.callWith_type1 (thn (ha pos pins s σ H _ I h) fun us s1 ⟨vs, H1, I1, r1, q1⟩ => hc pins s1 σ H1 vs us Q I1 r1 q1) he hpl
end
end L2
namespace HT
open PySem PyProof.Rows
section
open PySem.SeqAt
open PySem.AutoSeq1 (wpAny_loadPart')
open PySem.MeetsSeq PySem.MeetsSeq2 PySem.MeetsSeq3
end
section
variable {prog : Program} {w : World} {A : Around} {E : Value → Shared → Prop} {s : Shared}
def sIx (n d : Nat) : Option Int → Nat
  | none => d
  | some v => if v < 0 then (v + (n : Int)).toNat else min v.toNat n
theorem sIx_none (n d : Nat) : sIx n d none = d := rfl
theorem sIx_nat (n d k : Nat) : sIx n d (some (k : Int)) = min k n := by
  show (if (k : Int) < 0 then ((k : Int) + (n : Int)).toNat else min (k : Int).toNat n) = min k n
  rw [if_neg (by omega), Int.toNat_natCast]
end
end HT
namespace L2
open PySem PySem.Spec PyProof.Rows
abbrev TO := St → Hp → (Option Int → Hp → Prop) → Prop
def PO (X : Cx) (e : Option Expr) (t : TO) : Prop :=
  ∀ (pins : List (Addr × Obj)) (s : Shared) (σ : St) (H : Hp) (Q : Option Int → Hp → Prop), Inv X pins σ H s → t σ H Q →
    wpAny (model X.prog X.w) X.A (evalPart e X.env) (fun u s' => ∃ o H', Inv X pins σ H' s' ∧ IsPart u o ∧ Q o H') X.xe s
def tNoPart : TO := fun _ H Q => Q none H
def tPart (t : TE) : TO := fun σ H Q => t σ H fun x H1 => ∃ i, x = .int i ∧ Q (some i) H1
section
variable {X : Cx} {e : Expr} {te : TE} {lo hi : Option Expr} {tl th : TO} {pos p2 : Pos}
theorem po_none : PO X none tNoPart := by
  intro pins s σ H Q I h
  rw [evalPart_none]
  exact wpAny_pure ⟨none, H, I, .none, h⟩
theorem po_some (h : PE X e te) : PO X (some e) (tPart te) := by
  intro pins s σ H Q I hw
  rw [evalPart_some]
  refine thn (h pins s σ H _ I hw) fun u s1 ⟨x, H1, I1, r1, q1⟩ => ?_
  obtain ⟨i, rfl, q⟩ := q1
  obtain ⟨t, rfl⟩ := r1
  exact ⟨some i, H1, I1, .int i t, q⟩
def SlR (X : Cx) (r : V → Option Int → Option Int → Hp → VK → Prop) : Prop :=
  ∀ (pins : List (Addr × Obj)) (s : Shared) (σ : St) (H : Hp) (x : V) (v vl vu : Value) (lo hi : Option Int) (sl : Addr) (Q : VK), Inv X pins σ H s → RelV x v → s.heap.IsSliceOf sl vl vu .none → IsPart vl lo → IsPart vu hi → r x lo hi H Q →
    ∃ T id, typeLookup (.type T) "__getitem__" = pure (some (.builtin id)) ∧ s.TypeIs v T ∧ wpAny (model X.prog X.w) X.A (getItem v (.ref sl)) (EP X pins σ Q) X.xe s
def tSl (r : V → Option Int → Option Int → Hp → VK → Prop) (te : TE) (tl th : TO) : TE := fun σ H Q => te σ H fun x H1 => tl σ H1 fun l H2 => th σ H2 fun u H3 => r x l u H3 Q
theorem pe_slice {r : V → Option Int → Option Int → Hp → VK → Prop} (hr : SlR X r) (he : PE X e te) (hl : PO X lo tl) (hu : PO X hi th) : PE X (.Subscript e (.Slice lo hi none p2) pos) (tSl r te tl th) := by
  intro pins s σ H Q I h
  refine Subscript_ (thn (he pins s σ H _ I h) fun v s1 ⟨x, H1, I1, r1, q1⟩ => ?_)
  refine wpAny_Slice (thn (hl pins s1 σ H1 _ I1 q1) fun vl s2 ⟨l, H2, I2, pl, q2⟩ => thn (hu pins s2 σ H2 _ I2 q2) fun vu s3 ⟨u, H3, I3, pu, q3⟩ => ?_)
  rw [evalPart_none]
  refine wpAny_pure ?_
  have I4 : Inv X pins σ H3 { s3 with heap := s3.heap.push { cls := .type "slice", data := .fields #[vl, vu, .none] } } := I3.kept (t' := s3.toks) fun b ob q => Heap.get?_push_of_some _ q
  obtain ⟨T, id, hT, ht, hg⟩ := hr pins { s3 with heap := s3.heap.push { cls := .type "slice", data := .fields #[vl, vu, .none] } } σ H3 x v vl vu l u s3.heap.objs.size Q I4 r1 (Heap.IsSliceOf.new ..) pl pu q3
  show wpAny (model X.prog X.w) X.A (subscriptTail e (.Slice lo hi none p2) v (.ref s3.heap.objs.size)) (EP X pins σ Q) X.xe { s3 with heap := s3.heap.push { cls := .type "slice", data := .fields #[vl, vu, .none] } }
  exact tail_any (ops := [.ref s3.heap.objs.size, v]) ht hT hg (by with_unfolding_all rfl)
def cutV (xs : List V) (lo hi : Option Int) : List V := (xs.drop (HT.sIx xs.length 0 lo)).take (HT.sIx xs.length xs.length hi - HT.sIx xs.length 0 lo)
theorem cutV_length (xs : List V) (lo hi : Option Int) : (cutV xs lo hi).length ≤ xs.length := by
  unfold cutV
  rw [List.length_take, List.length_drop]
  omega
end
end L2
namespace L2
open PySem PySem.Spec PyProof.Rows
def ixN (n : Nat) (i : Int) : Option Nat := if 0 ≤ i then (if i < n then some i.toNat else none) else if -(n : Int) ≤ i then some (i + n).toNat else none
def atI {α : Type} (xs : List α) (i : Int) : Option α := (ixN xs.length i).bind fun j => xs[j]?
theorem ixN_seq {n : Nat} {i : Int} {j : Nat} (h : ixN n i = some j) : seqIndex? i n = some j ∧ j < n ∧ -(n : Int) ≤ i ∧ i < n := by
  unfold ixN at h
  by_cases h0 : 0 ≤ i
  · rw [if_pos h0] at h
    by_cases h1 : i < n
    · rw [if_pos h1] at h
      have e : i.toNat = j := Option.some.inj h
      exact ⟨by rw [seqIndex_of h0 h1, e], by omega, by omega, h1⟩
    · rw [if_neg h1] at h; cases h
  · rw [if_neg h0] at h
    by_cases h1 : -(n : Int) ≤ i
    · rw [if_pos h1] at h
      have e : (i + n).toNat = j := Option.some.inj h
      exact ⟨by rw [seqIndex_neg (by omega) h1, e], by omega, h1, by omega⟩
    · rw [if_neg h1] at h; cases h
theorem atI_get {α : Type} {xs : List α} {i : Int} {v : α} (h : atI xs i = some v) : ∃ j, seqIndex? i xs.length = some j ∧ xs[j]? = some v ∧ j < xs.length ∧ -(xs.length : Int) ≤ i ∧ i < xs.length := by
  unfold atI at h
  cases e : ixN xs.length i with
  | none => rw [e] at h; cases h
  | some j =>
    rw [e] at h
    obtain ⟨h1, h2, h3, h4⟩ := ixN_seq e
    exact ⟨j, h1, h, h2, h3, h4⟩
def PlainIx (b : Expr) : Prop := ∀ o i, subscripted b false o i = operate [o, i] (getItem o i)
def IxR (X : Cx) (r : R2) : Prop :=
  ∀ (value slice : Expr) (pins : List (Addr × Obj)) (s : Shared) (σ : St) (H : Hp) (x y : V) (v u : Value) (Q : VK), Inv X pins σ H s → RelV x v → RelV y u → r x y H Q →
    subscripted slice false v u = operate [v, u] (getItem v u) → wpAny (model X.prog X.w) X.A (subscriptTail value slice v u) (EP X pins σ Q) X.xe s
def MtR (X : Cx) (id : String) (r : V → List V → Hp → VK → Prop) : Prop :=
  ∀ (pins : List (Addr × Obj)) (s : Shared) (σ : St) (H : Hp) (x : V) (xs : List V) (v : Value) (us : List Value) (Q : VK), Inv X pins σ H s → RelV x v → Vals xs us → r x xs H Q →
    wpAny (model X.prog X.w) X.A (call (.builtin id) (v :: us)) (EP X pins σ Q) X.xe s
section
variable {X : Cx} {a b : Expr} {ta tb : TE} {pos : Pos}
theorem pe_ix {r : R2} (hr : IxR X r) (ha : PE X a ta) (hb : PE X b tb) (hs : PlainIx b) : PE X (.Subscript a b pos) (tOp r ta tb) := by
  intro pins s σ H Q I h
  exact Subscript_ (binT ha hb I h fun v u s2 x y H2 I2 rx ry q => hr a b pins s2 σ H2 x y v u Q I2 rx ry q (hs _ _))
def rIxL (K : PySem.W.Frag) : R2 := fun x y H Q => ∃ p xs i v, x = .ref p ∧ y = .int i ∧ SqL K H p xs ∧ atI xs i = some v ∧ Q v H
def rIxT (K : PySem.W.Frag) : R2 := fun x y H Q => ∃ p xs i v, x = .ref p ∧ y = .int i ∧ SqT K H p xs ∧ atI xs i = some v ∧ Q v H
theorem ix_list : IxR X (rIxL X.K) := by
  intro value slice pins s σ H x y v u Q I rx ry h hs
  obtain ⟨p, xs, i, z, rfl, rfl, hq, he, q⟩ := h
  cases rx
  obtain ⟨t, rfl⟩ := ry
  obtain ⟨its, r, pl, hz⟩ := I.list hq
  obtain ⟨j, h1, h2, h3, h4, h5⟩ := atI_get he
  obtain ⟨w, ew, rw'⟩ := r.get h2
  have hl := r.length
  have hn := line63
  have fin : EP X pins σ Q w s := ⟨z, H, I, rw', q⟩
  by_cases h0 : 0 ≤ i
  · have hj : i.toNat = j := by
      rw [seqIndex_of h0 h5] at h1
      exact Option.some.inj h1
    exact item_listR pl.isList h0 (by omega) (by rw [hj]; simpa using ew) fin hs
  · have hj : (i + (its.toArray.size : Int)).toNat = j := by
      rw [seqIndex_neg (by omega) h4] at h1
      rw [List.size_toArray, ← hl]
      exact Option.some.inj h1
    exact subscriptTail_builtinR (x := w) pl.isList.typeIs slot_list_getitem.lookup
      (wpAny_getItem_list_neg (Q := fun r s' => r = w ∧ EP X pins σ Q r s') pl.isList (by omega) (by rw [List.size_toArray] <;> omega) (by omega) (by rw [hj]; simpa using ew) ⟨rfl, fin⟩) hs
theorem ix_tup : IxR X (rIxT X.K) := by
  intro value slice pins s σ H x y v u Q I rx ry h hs
  obtain ⟨p, xs, i, z, rfl, rfl, hq, he, q⟩ := h
  cases rx
  obtain ⟨t, rfl⟩ := ry
  obtain ⟨its, r, pl, hz⟩ := I.tuple hq
  obtain ⟨j, h1, h2, h3, h4, h5⟩ := atI_get he
  obtain ⟨w, ew, rw'⟩ := r.get h2
  have hl := r.length
  have hn := line63
  have fin : EP X pins σ Q w s := ⟨z, H, I, rw', q⟩
  exact subscriptTail_builtinR (x := w) pl.typeIs slot_tuple_getitem.lookup
    (getItem_tuple (j := j) (Q := fun r s' => r = w ∧ EP X pins σ Q r s') pl (by omega) (by omega) (by rw [List.size_toArray, ← hl]; exact h1) (by simpa using ew) ⟨rfl, fin⟩) hs
theorem Inv.lst {pins : List (Addr × Obj)} {σ : St} {H : Hp} {s : Shared} {p : Addr} {xs : List V} (I : Inv X pins σ H s) (h : H p = some (.lst xs)) :
    ∃ (its : List Value) (n : Nat), Vals xs its ∧ s.heap.get? p = some { cls := .type "list", data := .seq its.toArray n } ∧ xs.length ≤ sizeLine := by
  obtain ⟨z, its, n, r, e⟩ := I.hok p _ h
  exact ⟨its, n, r, e, z⟩
theorem slice_bounds (lo hi : Option Int) (n : Nat) : (sliceBounds lo hi none n).1 = ((HT.sIx n 0 lo : Nat) : Int) ∧ (sliceBounds lo hi none n).2.1 = ((HT.sIx n n hi : Nat) : Int) ∧ (sliceBounds lo hi none n).2.2 = 1 := by
  refine ⟨?_, ?_, rfl⟩
  · cases lo with
    | none => simp [sliceBounds, HT.sIx]
    | some i =>
      simp only [sliceBounds, HT.sIx, Option.getD_none, show (1 : Int) > 0 by decide, if_true]
      by_cases h : i < 0
      · simp only [h, if_true] <;> omega
      · simp only [h, if_false] <;> omega
  · cases hi with
    | none => simp [sliceBounds, HT.sIx]
    | some i =>
      simp only [sliceBounds, HT.sIx, Option.getD_none, show (1 : Int) > 0 by decide, if_true]
      by_cases h : i < 0
      · simp only [h, if_true] <;> omega
      · simp only [h, if_false] <;> omega
theorem slicePick_cut (its : List Value) (lo hi : Option Int) : slicePick its.toArray lo hi none = ((its.drop (HT.sIx its.length 0 lo)).take (HT.sIx its.length its.length hi - HT.sIx its.length 0 lo)).toArray := by
  obtain ⟨h1, h2, h3⟩ := slice_bounds lo hi its.toArray.size
  unfold slicePick
  rw [h1, h2, h3]
  simp only [sliceRange_one, pick_run, List.size_toArray] <;> rfl
def rSlL (K : PySem.W.Frag) : V → Option Int → Option Int → Hp → VK → Prop := fun x lo hi H Q => ∃ a xs, x = .ref a ∧ SqL K H a xs ∧ ∀ p, H p = none → Q (.ref p) (upd H p (.lst (cutV xs lo hi)))
theorem sl_list : SlR X (rSlL X.K) := by
  intro pins s σ H x v vl vu lo hi sl Q I rx hs pl pu h
  obtain ⟨a, xs, rfl, hx, q⟩ := h
  cases rx
  obtain ⟨its, r, ht, hz⟩ := I.list hx
  have hlen := r.length
  refine ⟨"list", _, slot_list_getitem.lookup, ht.isList.typeIs, ?_⟩
  refine wpAny_getItem_list_slice ht.isList hs pl pu .none (by simp) ?_ (by rw [List.size_toArray] <;> omega)
  rw [slicePick_cut, ← hlen]
  refine ⟨.ref s.heap.objs.size, _, I.laid (t' := s.toks) (o := .lst (cutV xs lo hi)) (fun b ob q => Heap.get?_push_of_some _ q) (Nat.le_refl _) ?_, rfl, q _ (I.hok.fresh (Nat.le_refl _))⟩
  exact ⟨Nat.le_trans (cutV_length xs lo hi) hz, _, 0, (r.drop (HT.sIx xs.length 0 lo)).take (HT.sIx xs.length xs.length hi - HT.sIx xs.length 0 lo), Heap.get?_push_size _ rfl⟩
def flatV : V → Bool
  | .non => true
  | .bl _ => true
  | .int _ => true
  | .str _ => true
  | _ => false
def eqV : V → V → Bool
  | .non, .non => true
  | .bl a, .bl b => a == b
  | .bl a, .int b => (if a then 1 else 0) == b
  | .int a, .bl b => a == (if b then 1 else 0)
  | .int a, .int b => a == b
  | .str a, .str b => a == b
  | _, _ => false
theorem eqAt_V {A : Around} {s : Shared} {y x : V} {u v : Value} (ry : RelV y u) (rx : RelV x v) (fy : flatV y = true) (fx : flatV x = true) : SeqAt.EqAt A s u v (eqV y x) := by
  cases y with
  | non =>
    cases ry
    cases x with
    | non => cases rx; exact SeqAt.EqAt.same _
    | bl b => cases rx; exact SeqAt.EqAt.none_bool b
    | int b => obtain ⟨t, rfl⟩ := rx; exact SeqAt.EqAt.none_int b t
    | str b => obtain ⟨t, rfl⟩ := rx; exact SeqAt.EqAt.none_str b t
    | _ => exact absurd (show false = true from fx) Bool.false_ne_true
  | bl a =>
    cases ry
    cases x with
    | non => cases rx; exact SeqAt.EqAt.bool_none a
    | bl b => cases rx; exact SeqAt.EqAt.bool_bool a b
    | int b => obtain ⟨t, rfl⟩ := rx; exact SeqAt.EqAt.bool_int a b t
    | str b => obtain ⟨t, rfl⟩ := rx; exact SeqAt.EqAt.bool_str a b t
    | _ => exact absurd (show false = true from fx) Bool.false_ne_true
  | int a =>
    obtain ⟨t', rfl⟩ := ry
    cases x with
    | non => cases rx; exact SeqAt.EqAt.int_none a t'
    | bl b => cases rx; exact SeqAt.EqAt.int_bool a t' b
    | int b => obtain ⟨t, rfl⟩ := rx; exact SeqAt.EqAt.int_int a t' b t
    | str b => obtain ⟨t, rfl⟩ := rx; exact SeqAt.EqAt.int_str a t' b t
    | _ => exact absurd (show false = true from fx) Bool.false_ne_true
  | str a =>
    obtain ⟨t', rfl⟩ := ry
    cases x with
    | non => cases rx; exact SeqAt.EqAt.str_none a t'
    | bl b => cases rx; exact SeqAt.EqAt.str_bool a t' b
    | int b => obtain ⟨t, rfl⟩ := rx; exact SeqAt.EqAt.str_int a t' b t
    | str b => obtain ⟨t, rfl⟩ := rx; exact SeqAt.EqAt.str_str a t' b t
    | _ => exact absurd (show false = true from fx) Bool.false_ne_true
  | _ => exact absurd (show false = true from fy) Bool.false_ne_true
theorem call_len_seq : CallR X (.builtin "len") (fun xs H Q => ∃ p ys, xs = [.ref p] ∧ (SqL X.K H p ys ∨ SqT X.K H p ys) ∧ Q (.int ys.length) H) := by
  intro pins s σ H xs us Q I r h
  obtain ⟨p, ys, rfl, hq, q⟩ := h
  obtain ⟨u, rfl, rx⟩ := vals1 r
  cases rx
  have hn := line63
  rcases hq with hq | hq
  · obtain ⟨its, r', pl, hz⟩ := I.list hq
    have hlen := r'.length
    exact Calls.call_len_list pl.isList (by simp only [List.size_toArray] <;> omega) ⟨.int ys.length, H, I.tok _, ⟨s.toks + 1, by rw [List.size_toArray, hlen]⟩, q⟩
  · obtain ⟨its, r', pl, hz⟩ := I.tuple hq
    have hlen := r'.length
    exact len_tuple pl (by simp only [List.size_toArray] <;> omega) ⟨.int ys.length, H, I.tok _, ⟨s.toks + 1, by rw [List.size_toArray, hlen]⟩, q⟩
theorem call_len_str : CallR X (.builtin "len") (fun xs H Q => ∃ z, xs = [.str z] ∧ z.length ≤ sizeLine ∧ Q (.int z.length) H) := by
  intro pins s σ H xs us Q I r h
  obtain ⟨z, rfl, hz, q⟩ := h
  obtain ⟨u, rfl, t, rfl⟩ := vals1 r
  have hn := line63
  exact len_str (by omega) ⟨.int z.length, H, I.tok _, ⟨_, rfl⟩, q⟩
def tyV (K : PySem.W.Frag) (T : String) (x : V) (H : Hp) : Prop := match x with
  | .str _ => T = "str"
  | .int _ => T = "int"
  | .ref p => (T = "list" ∧ ∃ xs, SqL K H p xs) ∨ (T = "tuple" ∧ ∃ o, K.lookup p = some o ∧ o.cls = .type "tuple" ∧ o.dict = none) ∨
      (T = "dict" ∧ ((∃ kvs, H p = some (.dK kvs)) ∨ ∃ kvs, H p = some (.dT kvs))) ∨ (T = "set" ∧ ∃ S n, H p = some (.set S n))
  | _ => False
theorem tyV_is {pins : List (Addr × Obj)} {σ : St} {H : Hp} {s : Shared} {T : String} {x : V} {v : Value} (I : Inv X pins σ H s) (r : RelV x v) (ty : tyV X.K T x H) :
    s.TypeIs v T ∧ ∀ a, v = .ref a → ∃ ob, s.heap.get? a = some ob ∧ ob.dict = none := by
  cases x with
  | str z =>
    obtain ⟨t, rfl⟩ := r
    cases (show T = "str" from ty)
    exact ⟨typeIs_str s z t, fun _ e => nomatch e⟩
  | int i =>
    obtain ⟨t, rfl⟩ := r
    cases (show T = "int" from ty)
    exact ⟨typeIs_int s i t, fun _ e => nomatch e⟩
  | ref p =>
    cases r
    rcases ty with ⟨rfl, xs, hq⟩ | ⟨rfl, o, hk, hc, hd⟩ | ⟨rfl, hk⟩ | ⟨rfl, S, n, hk⟩
    · obtain ⟨its, _, pl, _⟩ := I.list hq
      refine ⟨pl.isList.typeIs, fun a e => ?_⟩
      cases e
      obtain ⟨o, n, e, c, hd, _⟩ := pl
      exact ⟨o, e, hd⟩
    · refine ⟨⟨o, I.kIn p o hk, hc⟩, fun a e => ?_⟩
      cases e
      exact ⟨o, I.kIn _ o hk, hd⟩
    · have z : ∃ o, s.heap.get? p = some o ∧ o.ExactDict := by
        rcases hk with ⟨kvs, hk⟩ | ⟨kvs, hk⟩
        · obtain ⟨_, _, _, _, o, _, _, e, ex, _⟩ := I.hok p _ hk
          exact ⟨o, e, ex⟩
        · obtain ⟨_, _, _, _, o, _, _, e, ex, _⟩ := I.hok p _ hk
          exact ⟨o, e, ex⟩
      obtain ⟨o, e, ex⟩ := z
      refine ⟨⟨o, e, ex.1⟩, fun a e2 => ?_⟩
      cases e2
      exact ⟨o, e, ex.2.1⟩
    · obtain ⟨o, _, _, _, e, ex, _⟩ := I.hok p _ hk
      refine ⟨⟨o, e, ex.1⟩, fun a e2 => ?_⟩
      cases e2
      exact ⟨o, e, ex.2.1⟩
  | _ => exact False.elim ty
def tBM (K : PySem.W.Frag) (T : String) (r : V → List V → Hp → VK → Prop) (to : TE) (t : TA) : TE := fun σ H Q => to σ H fun x H1 => tyV K T x H1 ∧ t σ H1 fun xs H2 => r x xs H2 Q
variable {o e : Expr} {es : List Expr} {to : TE} {t : TA} {name : Str} {apos cpos : Pos} {T id : String} {r : V → List V → Hp → VK → Prop}
theorem pe_bm (pa : PlainAttrs T) (slot : Slot T name id) (hty : typeOf (.builtin id) = pure (.type "method_descriptor")) (hm : MtR X id r) (ho : PE X o to) (ha : PA X (e :: es) t)
    (hbase : attributeBase o name X.env (eval o X.env) = eval o X.env := by rfl)
    (hfew : ((backTo cpos (starEach (e :: es) X.env)).all (fun x => !x.1) && (backToKw cpos (keywordEach [] X.env)).all (fun x => x.1.isSome)
      && decide ((e :: es).length + ([] : List Keyword).length + (if ([] : List Keyword).isEmpty then 0 else 1) < 30)) = true := by rfl)
    (hline : (apos.endLine == cpos.line) = true := by rfl) (hs : starEach (e :: es) X.env = (false, eval e X.env) :: starEach es X.env := by rfl) (hplain : (backTo cpos (starEach es X.env)).any (·.1) = false := by rfl) :
    PE X (.Call (.Attribute o name apos) (e :: es) [] cpos) (tBM X.K T r to t) := by
  intro pins s σ H Q I h
  refine wpAny_Call_method_late hbase hfew hline rfl (thn (ho pins s σ H _ I h) fun v s1 ⟨x, H1, I1, r1, ty, q1⟩ => ?_)
  obtain ⟨h1, h2⟩ := tyV_is I1 r1 ty
  refine ⟨T, id, pa, slot, hty, h1, h2, ?_⟩
  have hA := ha cpos pins s1 σ H1 _ I1 q1
  rw [hs] at hA ⊢
  refine Calls.callWith_builtin (by show (false || (backTo cpos (starEach es X.env)).any (·.1)) = false; rw [hplain] <;> rfl) (Calls.evalArgs_plain ?_)
  exact thn hA fun us s2 ⟨vs, H2, I2, r2, q2⟩ => hm pins s2 σ H2 x vs v us Q I2 r1 r2 q2
/- xs.append(e), list.index on a module's tuple .. are MtR facts of 06m -/
end
end L2
namespace L2
open PySem PySem.Spec PyProof.Rows
def MtM (X : Cx) (id : String) (r : V → List V → Hp → VK → Prop) : Prop :=
  ∀ (pins : List (Addr × Obj)) (s : Shared) (σ : St) (H : Hp) (x : V) (xs : List V) (v : Value) (us : List Value) (Q : VK), Inv X pins σ H s → RelV x v → Vals xs us → r x xs H Q →
    wpAny (model X.prog X.w) X.A (call (.builtin id) (v :: us)) (EP X pins σ Q) X.xe s
theorem Vals.one : ∀ {x : V} {us : List Value}, Vals [x] us → ∃ u, us = [u] ∧ RelV x u
  | _, _, .cons r .nil => ⟨_, rfl, r⟩
theorem Vals.eraseIdx : ∀ {xs : List V} {us : List Value} (i : Nat), Vals xs us → Vals (xs.eraseIdx i) (us.eraseIdx i)
  | _, _, _, .nil => .nil
  | _, _, 0, .cons _ t => t
  | _, _, i + 1, .cons r t => .cons r (Vals.eraseIdx i t)
theorem Vals.reverse {xs : List V} {us : List Value} (h : Vals xs us) : Vals xs.reverse us.reverse := by
  induction h with
  | nil => exact .nil
  | cons r t ih => rw [List.reverse_cons, List.reverse_cons]; exact Vals.append ih (.cons r .nil)
theorem Vals.rep {xs : List V} {us : List Value} (h : Vals xs us) : ∀ k : Nat, Vals (List.replicate k xs).flatten (List.replicate k us).flatten
  | 0 => .nil
  | k + 1 => by
    rw [List.replicate_succ, List.replicate_succ, List.flatten_cons, List.flatten_cons]
    exact Vals.append h (Vals.rep h k)
theorem foldl_rep (its : List Value) : ∀ (k : Nat) (acc : List Value),
    List.foldl (fun x1 x2 => x1 ++ x2) acc.toArray (List.replicate k its.toArray) = (acc ++ (List.replicate k its).flatten).toArray
  | 0, acc => by simp
  | k + 1, acc => by
    have e : acc.toArray ++ its.toArray = (acc ++ its).toArray := by simp
    have e2 : (acc ++ its) ++ (List.replicate k its).flatten = acc ++ (List.replicate (k + 1) its).flatten := by
      rw [List.replicate_succ, List.flatten_cons, List.append_assoc]
    rw [← e2, ← foldl_rep its k (acc ++ its), ← e, List.replicate_succ, List.foldl_cons]
section
variable {X : Cx} {pins : List (Addr × Obj)} {σ : St} {H : Hp} {s : Shared} {l b : Addr} {xs ys zs : List V}
theorem Inv.lset {its its' : List Value} {n : Nat} {f : Array Value → Array Value} {t' : Nat} (I : Inv X pins σ H s) (hH : H l = some (.lst xs))
    (e : s.heap.get? l = some { cls := .type "list", data := .seq its.toArray n }) (hf : f its.toArray = its'.toArray) (hv : Vals ys its') (hz : ys.length ≤ sizeLine) :
    Inv X pins σ (upd H l (.lst ys)) { s with heap := s.heap.update l (Obj.mapSeq f), toks := t' } := by
  have q := PySem.IsL.update e f
  rw [hf] at q
  refine I.write (x := l) (e := l) (by rw [hH]; exact trivial) (.inl rfl) (fun b' u hb hu => (Heap.get?_update_other s.heap (Obj.mapSeq f) (Ne.symm hb)).trans hu) ⟨_, q⟩ ?_
  exact ⟨hz, its', _, hv, q⟩
theorem Inv.lnew {its : List Value} {t' : Nat} (I : Inv X pins σ H s) (hv : Vals ys its) (hz : ys.length ≤ sizeLine) :
    Inv X pins σ (upd H s.heap.objs.size (.lst ys)) { s with heap := s.heap.push { cls := .type "list", data := .seq its.toArray }, toks := t' } :=
  I.laid (fun _ _ q => Heap.get?_push_of_some _ q) (Nat.le_refl _) ⟨hz, its, 0, hv, Heap.get?_push_size _ rfl⟩
theorem Inv.fresh (I : Inv X pins σ H s) : H s.heap.objs.size = none := I.hok.fresh (Nat.le_refl _)
theorem Inv.lstM (I : Inv X pins σ H s) (hH : H l = some (.lst xs)) : xs.length ≤ sizeLine ∧ ∃ (its : List Value) (n : Nat), Vals xs its ∧ xs.length = its.length ∧ s.heap.get? l = some { cls := .type "list", data := .seq its.toArray n } := by
  obtain ⟨z, its, n, r, e⟩ := I.hok l _ hH
  exact ⟨z, its, n, r, r.length, e⟩
theorem notLongL {n : Nat} (h : n ≤ sizeLine) : Builtin.List.listTooLong n = false := by
  unfold Builtin.List.listTooLong
  exact decide_eq_false (by omega)
end
section
variable {X : Cx}
def rAppend : V → List V → Hp → VK → Prop := fun x vs H Q => ∃ l xs y, x = .ref l ∧ vs = [y] ∧ H l = some (.lst xs) ∧ xs.length < sizeLine ∧ Q .non (upd H l (.lst (xs ++ [y])))
theorem mt_append : MtM X "list.append" rAppend := by
  intro pins s σ H x vs v us Q I rx rv h
  obtain ⟨l, xs, y, rfl, rfl, hH, hz, q⟩ := h
  cases rx
  obtain ⟨u, rfl, ru⟩ := rv.one
  obtain ⟨z, its, n, r, hl, e⟩ := I.lstM hH
  refine call_meets F.slot_list_append ⟨_, e, rfl⟩ F.entry_list_append (F.args_list_append_2 _ _) (PySem.list_append l its.toArray n u (by rw [List.size_toArray]; omega)) ⟨e, ?_⟩
  refine ⟨.non, _, I.lset (its' := its ++ [u]) hH e (by simp) (r.append (.cons ru .nil)) ?_, rfl, q⟩
  rw [List.length_append, List.length_singleton]
  omega
def rExtend : V → List V → Hp → VK → Prop := fun x vs H Q => ∃ l b xs zs, x = .ref l ∧ vs = [.ref b] ∧ H l = some (.lst xs) ∧ H b = some (.lst zs) ∧ xs.length + zs.length ≤ sizeLine ∧ Q .non (upd H l (.lst (xs ++ zs)))
theorem mt_extend : MtM X "list.extend" rExtend := by
  intro pins s σ H x vs v us Q I rx rv h
  obtain ⟨l, b, xs, zs, rfl, rfl, hH, hB, hz, q⟩ := h
  cases rx
  obtain ⟨u, rfl, ru⟩ := rv.one
  cases ru
  obtain ⟨z, its, n, r, hl, e⟩ := I.lstM hH
  obtain ⟨z2, its2, n2, r2, hl2, e2⟩ := I.lstM hB
  have hsz : its.toArray.size + its2.toArray.size ≤ sizeLine := by rw [List.size_toArray, List.size_toArray]; omega
  have hlong : ¬ (!its.toArray.isEmpty && Builtin.List.listTooLong (its.toArray.size + its2.toArray.size)) = true := by
    rw [notLongL hsz, Bool.and_false]
    exact Bool.false_ne_true
  refine call_meets F.slot_list_extend ⟨_, e, rfl⟩ F.entry_list_extend (F.args_list_extend_2 _ _)
    (AutoSeq1.list_extend_list_list_0 l its.toArray n b its2.toArray n2 hlong (by rw [List.size_toArray]; omega) (by omega)) ⟨e, e2, ?_⟩
  refine ⟨.non, _, I.lset (its' := its ++ its2) hH e (by simp) (r.append r2) ?_, rfl, q⟩
  rw [List.length_append]
  omega
def rCat : R2 := fun x y H Q => ∃ l b xs zs, x = .ref l ∧ y = .ref b ∧ H l = some (.lst xs) ∧ H b = some (.lst zs) ∧ xs.length + zs.length ≤ sizeLine ∧ ∀ p, H p = none → Q (.ref p) (upd H p (.lst (xs ++ zs)))
theorem op_cat : OpR X (binaryOp .Add) rCat := by
  intro pins s σ H x y v u Q I rx ry h
  obtain ⟨l, b, xs, zs, rfl, rfl, hH, hB, hz, q⟩ := h
  cases rx
  cases ry
  obtain ⟨z, its, n, r, hl, e⟩ := I.lstM hH
  obtain ⟨z2, its2, n2, r2, hl2, e2⟩ := I.lstM hB
  refine PySem.P.add_list e e2 ?_ (by rw [List.size_toArray, List.size_toArray]; omega)
  have ea : its.toArray ++ its2.toArray = (its ++ its2).toArray := by simp
  rw [ea]
  exact ⟨.ref _, _, I.lnew (t' := s.toks) (r.append r2) (by rw [List.length_append]; omega), rfl, q _ I.fresh⟩
def rRep : R2 := fun x y H Q => ∃ l k xs, x = .ref l ∧ y = .int k ∧ H l = some (.lst xs) ∧ -(2 ^ 63) ≤ k ∧ k < 2 ^ 63 ∧ xs.length * k.toNat ≤ sizeLine ∧
  ∀ p, H p = none → Q (.ref p) (upd H p (.lst (List.replicate k.toNat xs).flatten))
theorem len_rep {α : Type} (xs : List α) (k : Nat) : (List.replicate k xs).flatten.length = k * xs.length := by
  induction k with
  | zero => simp
  | succ k ih => rw [List.replicate_succ, List.flatten_cons, List.length_append, ih, Nat.succ_mul, Nat.add_comm]
theorem op_rep : OpR X (binaryOp .Mult) rRep := by
  intro pins s σ H x y v u Q I rx ry h
  obtain ⟨l, k, xs, rfl, rfl, hH, h1, h2, hz, q⟩ := h
  cases rx
  obtain ⟨t, rfl⟩ := ry
  obtain ⟨z, its, n, r, hl, e⟩ := I.lstM hH
  have hlen : its.toArray.size * k.toNat ≤ sizeLine := by rw [List.size_toArray, ← hl]; exact hz
  have hcap : ¬ its.toArray.size * k.toNat > (2 ^ 63 - 1) / 8 := by
    have : (sizeLine : Nat) ≤ (2 ^ 63 - 1) / 8 := by decide
    omega
  have hfit : ¬ (!Builtin.List.listFitsIndex k) = true := by
    rw [fitsIndex_both h1 h2]
    exact Bool.false_ne_true
  have hlong : ¬ Builtin.List.listTooLong (its.toArray.size * k.toNat) = true := by
    rw [notLongL hlen]
    exact Bool.false_ne_true
  have hnew : List.foldl (fun x1 x2 => x1 ++ x2) #[] (List.replicate (if its.toArray.isEmpty = true then 0 else k.toNat) its.toArray) = (List.replicate k.toNat its).flatten.toArray := by
    have f0 : ∀ m : Nat, List.foldl (fun x1 x2 => x1 ++ x2) #[] (List.replicate m its.toArray) = (List.replicate m its).flatten.toArray := fun m => by
      have := foldl_rep its m []
      rw [List.nil_append] at this
      exact this
    rw [f0]
    cases its with
    | nil => simp
    | cons a r' => rw [if_neg (by simp)]
  refine wpAny_binaryOp_repeat_ref (T := "list") (U := "int") (by decide) ⟨_, e, rfl⟩ (fun s' => typeIs_int s' k t) noFill_list_mul F.fills_int_mul F.slot_int_rmul repeat_list F.slot_int_index.lookup
    (call_meets F.slot_int_rmul (typeIs_int s k t) F.entry_int_rmul (F.args_int_rmul_2 _ _) (int___rmul___int_list k t l its.toArray n)
      ⟨e, rfl, ⟨_, e, rfl⟩, call_meets F.slot_list_mul ⟨_, e, rfl⟩ F.entry_list_mul (F.args_list_mul_2 _ _) (AutoListH.list___mul___list_int_3 l its.toArray n k t hfit hcap hlong) ⟨e, ?_⟩⟩)
  rw [hnew]
  exact ⟨.ref _, _, I.lnew (t' := s.toks) (r.rep k.toNat) (by rw [len_rep, Nat.mul_comm]; exact hz), rfl, q _ I.fresh⟩
end
section
variable {prog : Program} {w : World} {A : Around} {E : Value → Shared → Prop} {s : Shared}
end
section
variable {X : Cx}
end
end L2
namespace Att
open PySem PySem.W PySem.Calls PyProof.Rows
theorem ints_of_wellAll {P : Params} {h : Heap} : ∀ (ns : List Int) (vs : List Value), WellAll P h vs (ns.map WData.int) → IntsAre vs ns := by
  intro ns
  induction ns with
  | nil =>
    intro vs w
    rw [List.map_nil] at w
    cases w
    exact .nil
  | cons n ns ih =>
    intro vs w
    rw [List.map_cons] at w
    cases w with
    | cons a b =>
      cases a
      exact .cons _ _ (ih _ b)
theorem script_of {l : OpenLaw} {n : Nat} (hn : l.most = some n) {P : Params} {h : Heap} {args : List WData} {vals : List Value}
    (hpre : l.row.toRowW.claim.pre args = true) (hwl : WellAll P h vals args) :
    ∃ a vs ns, vals = [Value.ref a] ∧ args = [WData.list (ns.map WData.int)] ∧ h.get? a = some { cls := .type "list", data := .seq vs.toArray } ∧ IntsAre vs ns ∧ ns.length ≤ n := by
  have hsh : WShape.hasAll [] args [.list .int] = true := (pre_splitW hpre).1
  have hc : l.pre.holds [] { args := args } = true := (pre_splitW hpre).2
  obtain ⟨d, r, rfl, h1, h2⟩ := hasAllW_cons hsh
  obtain rfl := hasAllW_nil h2
  obtain ⟨xs, rfl, h3⟩ := hasW_list h1
  obtain ⟨ns, rfl⟩ := items_int h3
  have hlen : ns.length ≤ n := by
    unfold OpenLaw.pre at hc
    have h4 : (WTm.not (.lt (.lit (.int (n : Int))) (.len (.arg 0)))).holds [] { args := [.list (ns.map .int)] } = true := by
      have h4 := (holds_andW hc).1
      rw [hn] at h4
      exact h4
    have h5 := condW_of h4 (w_not (w_lt w_lit (w_len_list (w_arg rfl))))
    rw [List.length_map] at h5
    refine Nat.le_of_not_lt fun q => ?_
    have q' : (n : Int) < ((ns.length : Nat) : Int) := by omega
    first
      | (rw [decide_eq_true q'] at h5; exact absurd h5 (by decide))
      | (simp at h5; omega)
  cases hwl with
  | cons w1 w2 =>
    cases w2
    cases w1 with
    | list ho hall => exact ⟨_, _, ns, rfl, rfl, ho, ints_of_wellAll ns _ hall, hlen⟩
theorem post_true (l : OpenLaw) (args : List WData) : l.row.toRowW.claim.post args (.bool true) args = true :=
  postW_of (r := l.row.toRowW) (X := (true == true))
    (show WShape.has [] (.bool true) .bool = true by first | rfl | decide | simp [WShape.has, WShape.arms, WShape.armsAll])
    (show (WTm.eq .res (.lit (.bool true))).value [] { args := args, res := some (.bool true), after := args } = some (.bool (true == true)) from w_eq_bool (w_res rfl) w_lit) rfl
theorem attach_call {l : OpenLaw} {n : Nat} {q : Program} {loose : List Str} {XP : (Str → Option Value) → Heap → Prop} {YP : World → Heap → Prop} {d : DefRec}
    (hn : l.most = some n) (hdf : d.params.defaults = [])
    (call : ∀ (w : World) (s₀ s₁ : Shared) (mg mb : Str → Option Value) (fa : Addr) (o : Obj) (pm cd doc : Value) (a : Addr) (vs : List Value) (ns : List Int),
      Ground q loose [] XP w s₀ mg mb s₁.heap → YP w s₁.heap →
      s₁.heap.get? fa = some o → o.data = .func (docDef d.name d.params d.body d.scope pm cd doc) → s₁.heap.CodeRec cd d.name → mg d.name = some (.ref fa) →
      s₁.heap.get? a = some { cls := .type "list", data := .seq vs.toArray } → IntsAre vs ns → ns.length ≤ n → s₁.gens = #[] →
      codeAny (model l.prog w) callerA (.call (.ref fa) ⟨[.ref a], []⟩) (fun r s' => r = .ok (.ret (.bool true)) ∧ OldK s₁.heap s'.heap ∧ s'.os = s₁.os ∧ AllBare s'.gens) s₁) :
    WalkO q loose XP YP l.row.toRowW d [] (fun f vs => PySem.call f vs) := by
  intro w s₀ s₁ mg mb G Y fa o pm cd doc dV kV ho hd hcd hD hmg hg args vals as hpre hlay hrd hwl hlo
  obtain rfl : dV = .none := Dflts.none hD hdf
  obtain rfl : kV = .none := Dflts.noKw hD
  obtain ⟨a, vs, ns, rfl, rfl, hobj, hints, hlen⟩ := script_of hn hpre hwl
  refine enter_call (codeAny_mono (call w s₀ s₁ mg mb fa o pm cd doc a vs ns G Y ho (fd_plain hd) hcd hmg hobj hints hlen hg) fun r s' hq => ?_)
  obtain ⟨rfl, h2, h3, h4⟩ := hq
  exact ⟨.inl ⟨.bool true, .bool true, [], rfl, fun _ => rfl, .bool true, post_true l _, fun _ => ⟨List.Pairwise.nil, fun _ hm => (nomatch hm)⟩⟩, h2, h3, h4⟩
section
variable {prog : Program} {w : World} {A : Around} {E : Value → Shared → Prop} {s : Shared} {K : Frag}
def ledger (h : Heap) (L d : Addr) : List (Addr × Obj) := (List.range h.objs.size).filterMap fun a => if a = L ∨ a = d then none else (h.get? a).map fun o => (a, o)
end
end Att
namespace L2
open PySem PySem.Spec PyProof.Rows
theorem vals_ints : ∀ {vs : List Value} {ns : List Int}, IntsAre vs ns → Vals (ns.map V.int) vs
  | _, _, .nil => .nil
  | _, _, .cons n t h => .cons ⟨t, rfl⟩ (vals_ints h)
def Only (H : Hp) : Prop := ∀ b, H b = none ∨ ∃ o xs, H b = some (.frz o (.lst xs))
theorem law_call {P : Program} {w : World} {K : PySem.W.Frag} {mg mb : Str → Option Value} {CX : CXT} {k : Nat} {fa a : Addr} {fd : FuncData} {x : Str} {sp : Sp} {s₁ : Shared} {vs : List Value} {ns : List Int}
    (KX : K.In s₁.heap) (hns : s₁.heap.Ns mainGlobals mg) (hb : s₁.heap.Ns builtinsNs mb) (hbb : ∀ x : Str, x ≠ "__name__" → mb x = bootBuiltins x) (hlim : s₁.heap.NoLimit) (hg : s₁.gens = #[])
    (ha : s₁.heap.get? a = some { cls := .type "list", data := .seq vs.toArray }) (hi : IntsAre vs ns) (hl : ns.length ≤ sizeLine) (hr : Room k callerA)
    (F : ∀ base : Heap, K.In base → base.Ns mainGlobals mg → FnOk P w K mg base CX k fa fd [x] sp) (hbind : ∀ (s : Shared) (u : Value), BindsTo s fd ⟨[u], []⟩ [(x, u)])
    (hsp : ∀ H : Hp, Only H → SqL K H a (ns.map V.int) → sp [.ref a] H (fun v _ => v = .bl true) fun _ _ _ => False)
    (hCX : ∀ H e s', CX [] H s₁ (fun _ _ _ => False) e s' → False) :
    codeAny (model P w) callerA (.call (.ref fa) ⟨[.ref a], []⟩) (fun r s' => r = .ok (.ret (.bool true)) ∧ OldK s₁.heap s'.heap ∧ s'.os = s₁.os ∧ AllBare s'.gens) s₁ := by
  have rv := vals_ints hi
  have lenV := hi.length
  have core : ∀ H : Hp, Only H → SqL K H a (ns.map V.int) → HOk P w H s₁.heap → (∀ b, H b ≠ none → b = a) → (H a ≠ none → K.lookup a = none) →
      codeAny (model P w) callerA (.call (.ref fa) ⟨[.ref a], []⟩) (fun r s' => r = .ok (.ret (.bool true)) ∧ OldK s₁.heap s'.heap ∧ s'.os = s₁.os ∧ AllBare s'.gens) s₁ := by
    intro H hO hS hok hA hK
    have base_of : ∀ {b : Addr} {o : Obj}, s₁.heap.get? b = some o → H b = none → (hidT s₁.heap H).get? b = some o := fun e n => hidT_get e n
    have noA : ∀ {b : Addr} {o : Obj} {es : Array DictEntry} {ep : Nat}, s₁.heap.get? b = some o → o.data = .dict es ep → H b = none := fun {b o es ep} e d => by
      cases q : H b with
      | none => rfl
      | some u =>
        have e' : b = a := hA b (by rw [q]; simp)
        subst e'
        rw [ha] at e; cases e
        have d' : Data.seq vs.toArray _ = Data.dict es ep := d
        cases d'
    have nsK : ∀ {b : Addr} {m : Str → Option Value}, s₁.heap.Ns b m → (hidT s₁.heap H).Ns b m := fun {b m} ⟨o, es, ep, e, d, r⟩ => ⟨o, es, ep, base_of e (noA e d), d, r⟩
    have hKb : K.In (hidT s₁.heap H) := fun b o e => base_of (KX b o e) (by
      cases q : H b with
      | none => rfl
      | some u =>
        have e' : b = a := hA b (by rw [q]; simp)
        subst e'
        rw [hK (by rw [q]; simp)] at e; cases e)
    have hM : Mod K mg (hidT s₁.heap H) := ⟨hKb, nsK hns, ⟨mb, nsK hb, hbb⟩, let ⟨mc, h1, h2⟩ := hlim; ⟨mc, nsK h1, h2⟩⟩
    have e0 : Env0 P w K mg (hidT s₁.heap H) callerA [] s₁ H := ⟨rfl, hM, fun b o e => of_hidT e, Nat.le_of_eq (hidT_size _ _), trivial, fun b hb => absurd (show b ∈ ([] : List Addr) from hb) (by simp), hok, .of_eq hg⟩
    refine codeAny_mono ((F _ hKb (nsK hns)).run callerA [] s₁ H ⟨[.ref a], []⟩ [.ref a] [.ref a] _ _ hr e0 (hbind s₁ (.ref a)) (.cons rfl .nil) (hsp H hO hS)) fun r s' h => ?_
    cases r with
    | error e => exact (hCX H e s' h).elim
    | ok fl =>
      cases fl with
      | next => exact False.elim h
      | brk => exact False.elim h
      | cont => exact False.elim h
      | ret u =>
        obtain ⟨v, H', os, bare, un, hok', r', q⟩ := h
        have q' : v = .bl true := q
        subst q'
        obtain rfl : u = Value.bool true := r'
        refine ⟨rfl, OldK.of_keep fun b o e => ?_, os, bare⟩
        cases q : H b with
        | none => exact un.keep b o e q (by intro z; exact absurd (show b ∈ ([] : List Addr) from z) (by simp)) (by simp)
        | some u =>
          rcases hO b with z | ⟨ob, xs, z⟩
          · rw [q] at z; cases z
          · have z2 := un.frzs b ob _ z
            obtain ⟨e1, _⟩ := hok b _ z
            obtain ⟨e2, _⟩ := hok' b _ z2
            rw [e] at e1; cases e1
            exact e2
  cases hk : K.lookup a with
  | some o =>
    have e := KX a o hk
    rw [ha] at e
    cases e
    refine core (fun _ => none) (fun _ => .inl rfl) (.inr ⟨_, vs.toArray, _, hk, rfl, rfl, rfl, by rw [List.size_toArray, lenV]; exact hl, by simpa using rv⟩) (fun b u z => by have z' : (none : Option HO) = some u := z; cases z') (fun b z => absurd rfl z) fun z => absurd rfl z
  | none =>
    refine core (fun b => if b = a then some (.frz { cls := .type "list", data := .seq vs.toArray } (.lst (ns.map V.int))) else none) (fun b => ?_) (.inl (.inr ⟨{ cls := .type "list", data := .seq vs.toArray }, if_pos rfl⟩)) (fun b u z => ?_) (fun b z => ?_) fun _ => hk
    · by_cases hb : b = a
      · exact .inr ⟨_, _, if_pos hb⟩
      · exact .inl (if_neg hb)
    · by_cases hb : b = a
      · have z' := (if_pos hb).symm.trans z
        cases z'
        subst hb
        exact ⟨ha, by rw [List.length_map]; exact hl, vs, _, rv, ha⟩
      · have z' := (if_neg hb).symm.trans z
        cases z'
    · by_cases hb : b = a
      · exact hb
      · exact absurd (if_neg hb) z
end L2
namespace L2
open PySem PySem.Spec PyProof.Rows
theorem walk_of {l : PySem.W.OpenLaw} {n k : Nat} {q : Program} {loose : List Str} {XP : (Str → Option Value) → Heap → Prop} {YP : World → Heap → Prop} {d : DefRec} {K : Params → PySem.W.Frag} {CX : World → CXT} {sp : World → Sp} {x : Str}
    (hn : l.most = some n) (hn2 : n ≤ sizeLine) (hdf : d.params.defaults = []) (hr : Room k callerA)
    (hY : ∀ (w : World) (h : Heap), YP w h → (K w.params).In h)
    (F : ∀ (w : World) (mg : Str → Option Value) (fa : Addr) (h : Heap), (K w.params).In h → h.Ns mainGlobals mg → mg d.name = some (.ref fa) →
      ∃ fd : FuncData, (∀ (s : Shared) (u : Value), BindsTo s fd ⟨[u], []⟩ [(x, u)]) ∧
        ∀ base : Heap, (K w.params).In base → base.Ns mainGlobals mg → FnOk l.prog w (K w.params) mg base (CX w) k fa fd [x] (sp w))
    (hsp : ∀ (w : World) (H : Hp) (a : Addr) (ns : List Int), ns.length ≤ n → Only H → SqL (K w.params) H a (ns.map V.int) → sp w [.ref a] H (fun v _ => v = .bl true) fun _ _ _ => False)
    (hCX : ∀ (w : World) (H : Hp) (s : Shared) (e : Value) (s' : Shared), CX w [] H s (fun _ _ _ => False) e s' → False) :
    PySem.W.WalkO q loose XP YP l.row.toRowW d [] (fun f vs => PySem.call f vs) := by
  refine Att.attach_call hn hdf fun w s₀ s₁ mg mb fa o pm cd doc a vs ns G Y ho hd hcd hmg hobj hints hlen hg => ?_
  have KX := hY w _ Y
  obtain ⟨fd, hb, hF⟩ := F w mg fa _ KX G.T.g hmg
  exact law_call KX G.T.g G.T.b G.T.builtins G.T.nolimit hg hobj hints (Nat.le_trans hlen hn2) hr hF hb (fun H hO hS => hsp w H a ns hlen hO hS) fun H e s' => hCX w H s₁ e s'
end L2
/- THE LAST THEOREM (shape; LID, My.* are yours):
   My.Adr: a structure of the addresses that your layer names (classes, functions); My.Txt K t: a structure (Prop) of the equations over K;
   My.txt_mk : {K} {implicit addresses ..} (e1 : nsIn K mainGlobals "law" = some (some (.ref f))) (e2 : K.lookup f = some ⟨oc, od, .func (fnOf "law" "law" params body scope dV kV doc pm an cdv ct), sl⟩) (e3 : codeIn K cdv "law" = true) .. : ∃ t, My.Txt K t
set_option maxRecDepth 100000 in
set_option maxHeartbeats 0 in
theorem PySem.Challenge.cw_LID_holds : PySem.Challenge.rw_LID.Holds := by
  w_on; o_law; k_head; (case hw => w_witness2)
  k_fill
  refine L2.walk_of (l := PySem.Challenge.rw_LID) (n := 63) (k := 40) (x := "script") (CX := fun w => ..) (sp := fun _ => My.sp_law) rfl (by decide) rfl ⟨rfl, by decide, by decide⟩ (fun w h Y => PySem.W.kIn_of Y) ?F ?S ?C
  case F =>
    intro w mg fa h KX G hmg
    have T : ∃ t, My.Txt (L2.KOf KX) t := by
      dsimp only [L2.KOf]                          -- K must stand as «<heap const> w.params» for k_is
      refine' My.txt_mk ?e1 ?e2 ?e3 ..
      (case e1 => PySem.W.k_is)                    -- in the order: a name -> its address -> its object -> its parts
      (case e2 => PySem.W.k_is)
      ..
    obtain ⟨t, T⟩ := T
    have e0 := hmg.symm.trans (PySem.W.mg_of KX G T.law)
    cases e0                                       -- fa is the law's own address
    exact ⟨_, fun s u => .of_eq rfl, fun base kb nb => My.law_fn T kb nb⟩     -- if «.of_eq rfl» comes too early: refine' ⟨_, ?b, fun base kb nb => My.law_fn T kb nb⟩; exact fun s u => .of_eq rfl
  case S => exact fun w H a ns hl hO hS => ..
  case C => exact ..
(the tactic k_is has no namespace: write k_is) -/
namespace L2
open PySem PySem.Spec PyProof.Rows
def defArgs (s : Stmt) : Arguments := match s with
  | .FunctionDef _ a _ _ _ _ _ _ _ _ => a
  | _ => { posonlyargs := [], args := [], vararg := none, kwonlyargs := [], kw_defaults := [], kwarg := none, defaults := [] }
def defBody (s : Stmt) : List Stmt := match s with
  | .FunctionDef _ _ b _ _ _ _ _ _ _ => b
  | _ => []
def defScope (s : Stmt) : Scope := match s with
  | .FunctionDef _ _ _ _ _ _ sc _ _ _ => sc
  | _ => { kind := .function, names := [], isGenerator := false, isCoroutine := false }
abbrev CX0 : CXT := fun _ _ _ _ _ _ => False
abbrev E0 : XK := fun _ _ _ => False
theorem pass0 {X : Cx} : Passes CX0 X E0 := fun _ _ _ _ _ _ _ h => h.elim
structure Fun (K : PySem.W.Frag) (x qual : Str) (st : Stmt) (f : Addr) (fd : FuncData) : Prop where
  ex : ∃ (oc : Value) (od : Option Addr) (kV doc pm : Value) (an : Option Addr) (cdv ct : Value) (osl : Array (Option Value)),
    fd = PySem.W.fnOf x qual (defArgs st) (defBody st) (defScope st) .none kV doc pm an cdv ct ∧ K.lookup f = some ⟨oc, od, .func fd, osl⟩ ∧ PySem.W.codeIn K cdv qual = true
  kp : PySem.W.keepIn K (.ref f) = true
section
variable {P : Program} {w : World} {K : PySem.W.Frag} {mg : Str → Option Value} {base : Heap}
theorem Fun.ok {x qual : Str} {st : Stmt} {f : Addr} {fd : FuncData} {N ps : List Str} {k : Nat} {sp : Sp} (F : Fun K x qual st f fd) (S : FnScope N ps (defScope st)) (len : ∀ vs H Q E, sp vs H Q E → vs.length = ps.length)
    (hbody : ∀ (cdv : Value) (A : Around) (outer : List Env) (s : Shared) (H : Hp) (vs : List V) (Q : VK) (E : XK), Room k (A.deeper (envOfC qual (defScope st) s.heap.objs.size f cdv)) → sp vs H Q E →
      ∃ t, PSs (cxOf CX0 P w K mg base N qual (defScope st) f cdv A outer s H E).nox (defBody st) t ∧ t { nx := fun _ H' => Q .non H', rt := Q } (start N vs) H) : FnOk P w K mg base CX0 (k + 1) f fd ps sp := by
  obtain ⟨oc, od, kV, doc, pm, an, cdv, ct, osl, rfl, lk, hcd⟩ := F.ex
  refine fn_of lk hcd S len fun A outer s H vs Q E hr hsp => ?_
  obtain ⟨t, h, q⟩ := hbody cdv A outer s H vs Q E hr hsp
  exact ⟨t, h.nox, q⟩
theorem Fun.binds {x qual : Str} {st : Stmt} {f : Addr} {fd : FuncData} {ps : List Str} (F : Fun K x qual st f fd)
    (h : ∀ (kV doc pm : Value) (an : Option Addr) (cdv ct : Value) (us : List Value), us.length = ps.length → bindArgs (PySem.W.fnOf x qual (defArgs st) (defBody st) (defScope st) .none kV doc pm an cdv ct) ⟨us, []⟩ = pure (ps.zip us)) : Binds K fd ps [] := by
  obtain ⟨oc, od, kV, doc, pm, an, cdv, ct, osl, rfl, lk, hcd⟩ := F.ex
  exact .all (h kV doc pm an cdv ct)
theorem fun_mk {x qual : Str} {st : Stmt} {f : Addr} {oc : Value} {od an : Option Addr} {osl : Array (Option Value)} {kV doc pm cdv ct : Value} (l : K.lookup f = some ⟨oc, od, .func (PySem.W.fnOf x qual (defArgs st) (defBody st) (defScope st) .none kV doc pm an cdv ct), osl⟩)
    (c : PySem.W.codeIn K cdv qual = true) (k : PySem.W.keepIn K (.ref f) = true) : Fun K x qual st f (PySem.W.fnOf x qual (defArgs st) (defBody st) (defScope st) .none kV doc pm an cdv ct) := ⟨⟨oc, od, kV, doc, pm, an, cdv, ct, osl, rfl, l, c⟩, k⟩
end
theorem small1000 {n : Nat} (h : n ≤ 1000) : n < sizeLine := Nat.lt_of_le_of_lt h (by decide)
section
variable {X : Cx}
theorem pv (i : Nat) {x : Str} {pos : Pos} (hN : X.N[i]? = some x := by rfl) (hv : Vis X.env.scope x := by first | exact Or.inl rfl | exact Or.inr (Or.inl rfl) | exact Or.inr (Or.inr rfl)) (hd : (x == ("__debug__" : Str)) = false := by decide)
    (hcd : (x == ("__classdict__" : Str)) = false := by decide) : PE X (.Name x pos) (tVar i) := pe_var hN hv hd hcd
end
def Same (H H' : Hp) : Prop := ∀ b o, H b = some o → H' b = some o
theorem Same.refl (H : Hp) : Same H H := fun _ _ h => h
theorem Same.trans {H H1 H2 : Hp} (a : Same H H1) (b : Same H1 H2) : Same H H2 := fun c o h => b c o (a c o h)
theorem Same.free {H H' : Hp} (e : Same H H') {l : Addr} (h : H' l = Option.none) : H l = Option.none := by
  cases q : H l with
  | none => rfl
  | some o =>
    rw [e l o q] at h
    cases h
theorem Same.seq {K : PySem.W.Frag} {H H' : Hp} {a : Addr} {xs : List V} (e : Same H H') (h : SqL K H a xs) : SqL K H' a xs := by
  rcases h with (h | ⟨o, h⟩) | h
  · exact .inl (.inl (e _ _ h))
  · exact .inl (.inr ⟨o, e _ _ h⟩)
  · exact .inr h
end L2
set_option Elab.async false
set_option linter.all false
set_option maxRecDepth 100000
set_option maxHeartbeats 4000000
namespace L2
open PySem PySem.Spec PyProof.Rows
def clFrom (env : Env) : List (Str × NameKind) → List (Str × Addr) → List (Str × Addr)
  | [], acc => acc
  | (n, k) :: r, acc => clFrom env r (if k == .free then (n, (env.cells.lookup n).getD 0) :: acc else acc)
theorem closureFor_eq {scope : Scope} {env : Env} (h : ∀ n, (n, NameKind.free) ∈ scope.names → ∃ c, env.cells.lookup n = some c) : closureFor scope env = pure (clFrom env scope.names []) := by
  have go : ∀ (names : List (Str × NameKind)) (acc : List (Str × Addr)), (∀ n, (n, NameKind.free) ∈ names → ∃ c, env.cells.lookup n = some c) →
      (forIn names acc (fun (x : Str × NameKind) (cs : List (Str × Addr)) => match x with
        | (name, kind) => if (kind == .free) = true then (do let c ← cellOf env name; pure (ForInStep.yield ((name, c) :: cs))) else pure (ForInStep.yield cs)) : Sem (List (Str × Addr))) = pure (clFrom env names acc) := by
    intro names
    induction names with
    | nil => intro acc _; rfl
    | cons x r ih =>
      intro acc hn
      obtain ⟨n, k⟩ := x
      rw [List.forIn_cons]
      have hr : ∀ m, (m, NameKind.free) ∈ r → ∃ c, env.cells.lookup m = some c := fun m hm => hn m (List.mem_cons_of_mem _ hm)
      by_cases hk : k = .free
      · subst hk
        obtain ⟨c, hc⟩ := hn n List.mem_cons_self
        have e : cellOf env n = pure c := by unfold cellOf; rw [hc]
        have e2 : clFrom env ((n, NameKind.free) :: r) acc = clFrom env r ((n, c) :: acc) := by
          show clFrom env r (if (NameKind.free == NameKind.free) = true then (n, (env.cells.lookup n).getD 0) :: acc else acc) = _
          rw [if_pos (by decide), hc]; rfl
        rw [e2, ← ih _ hr]
        show (do let __do_lift ← (if (NameKind.free == NameKind.free) = true then (do let c ← cellOf env n; pure (ForInStep.yield ((n, c) :: acc))) else pure (ForInStep.yield acc) : Sem (ForInStep (List (Str × Addr)))); _) = _
        rw [if_pos (by decide), e]
        rfl
      · have hb : (k == NameKind.free) = false := by simpa using hk
        have e2 : clFrom env ((n, k) :: r) acc = clFrom env r acc := by
          show clFrom env r (if (k == NameKind.free) = true then (n, (env.cells.lookup n).getD 0) :: acc else acc) = _
          rw [hb]; rfl
        rw [e2, ← ih _ hr]
        show (do let __do_lift ← (if (k == NameKind.free) = true then (do let c ← cellOf env n; pure (ForInStep.yield ((n, c) :: acc))) else pure (ForInStep.yield acc) : Sem (ForInStep (List (Str × Addr)))); _) = _
        rw [hb]
        rfl
  have e := go scope.names [] h
  unfold closureFor
  exact congrArg (fun (m : Sem (List (Str × Addr))) => m >>= fun r => pure r) e
theorem clFrom_mem {env : Env} : ∀ {names : List (Str × NameKind)} {acc : List (Str × Addr)} {n : Str} {c : Addr}, (n, c) ∈ clFrom env names acc → (n, c) ∈ acc ∨ ((n, NameKind.free) ∈ names ∧ c = (env.cells.lookup n).getD 0)
  | [], acc, n, c, h => .inl h
  | (m, k) :: r, acc, n, c, h => by
    rcases clFrom_mem (names := r) h with h | ⟨h, e⟩
    · by_cases hk : k = .free
      · subst hk
        rw [if_pos (by decide)] at h
        rcases List.mem_cons.mp h with e | h
        · cases e; exact .inr ⟨List.mem_cons_self, rfl⟩
        · exact .inl h
      · have hb : (k == NameKind.free) = false := by simpa using hk
        rw [hb] at h
        exact .inl h
    · exact .inr ⟨List.mem_cons_of_mem _ h, e⟩
theorem lookup_of_mem {α : Type} : ∀ {l : List (Str × α)} {n : Str} {c : α}, (n, c) ∈ l → ∃ d, l.lookup n = some d
  | [], _, _, h => nomatch h
  | (k, v) :: r, n, c, h => by
    rw [List.lookup_cons]
    cases hb : n == k with
    | true => exact ⟨v, rfl⟩
    | false =>
      rcases List.mem_cons.mp h with e | h
      · cases e; simp at hb
      · exact lookup_of_mem h
theorem clFrom_acc {env : Env} : ∀ {names : List (Str × NameKind)} {acc : List (Str × Addr)} {n : Str} {c : Addr}, (n, c) ∈ acc → (n, c) ∈ clFrom env names acc
  | [], acc, n, c, h => h
  | (m, k) :: r, acc, n, c, h => by
    refine clFrom_acc (names := r) ?_
    split
    · exact List.mem_cons_of_mem _ h
    · exact h
theorem clFrom_has {env : Env} : ∀ {names : List (Str × NameKind)} {acc : List (Str × Addr)} {n : Str}, (n, NameKind.free) ∈ names → (n, (env.cells.lookup n).getD 0) ∈ clFrom env names acc
  | [], acc, n, h => nomatch h
  | (m, k) :: r, acc, n, h => by
    rcases List.mem_cons.mp h with e | h
    · cases e
      refine clFrom_acc (names := r) ?_
      rw [if_pos (by decide)]
      exact List.mem_cons_self
    · exact clFrom_has (names := r) h
theorem cellsFrom_mem : ∀ {names : List (Str × NameKind)} {n : Nat} {acc : List (Str × Addr)} {x : Str} {c : Addr}, (x, c) ∈ cellsFrom n names acc → (x, c) ∈ acc ∨ ((x, NameKind.cell) ∈ names ∧ n ≤ c)
  | [], n, acc, x, c, h => .inl h
  | (m, k) :: r, n, acc, x, c, h => by
    unfold cellsFrom at h
    by_cases hk : k = .cell
    · subst hk
      rw [if_pos (by decide)] at h
      rcases cellsFrom_mem (names := r) h with h | ⟨h, e⟩
      · rcases List.mem_cons.mp h with e | h
        · cases e; exact .inr ⟨List.mem_cons_self, Nat.le_refl _⟩
        · exact .inl h
      · exact .inr ⟨List.mem_cons_of_mem _ h, by omega⟩
    · have hb : (k == NameKind.cell) = false := by simpa using hk
      rw [hb] at h
      rcases cellsFrom_mem (names := r) h with h | ⟨h, e⟩
      · exact .inl h
      · exact .inr ⟨List.mem_cons_of_mem _ h, e⟩
theorem cellsFrom_acc : ∀ {names : List (Str × NameKind)} {n : Nat} {acc : List (Str × Addr)} {x : Str} {c : Addr}, (x, c) ∈ acc → (x, c) ∈ cellsFrom n names acc
  | [], n, acc, x, c, h => h
  | (m, k) :: r, n, acc, x, c, h => by
    unfold cellsFrom
    split
    · exact cellsFrom_acc (names := r) (List.mem_cons_of_mem _ h)
    · exact cellsFrom_acc (names := r) h
theorem cellsFrom_has : ∀ {names : List (Str × NameKind)} {n : Nat} {acc : List (Str × Addr)} {x : Str}, (x, NameKind.cell) ∈ names → ∃ c, (x, c) ∈ cellsFrom n names acc
  | [], n, acc, x, h => nomatch h
  | (m, k) :: r, n, acc, x, h => by
    unfold cellsFrom
    rcases List.mem_cons.mp h with e | h
    · cases e
      rw [if_pos (by decide)]
      exact ⟨n, cellsFrom_acc (names := r) List.mem_cons_self⟩
    · split
      · exact cellsFrom_has (names := r) h
      · exact cellsFrom_has (names := r) h
theorem pushCells_cell : ∀ {names : List (Str × NameKind)} {h : Heap} {acc : List (Str × Addr)} {x : Str} {c : Addr}, (x, c) ∈ cellsFrom h.objs.size names acc → (x, c) ∈ acc ∨ (pushCells h names).IsCell c none
  | [], h, acc, x, c, m => .inl m
  | (n, k) :: r, h, acc, x, c, m => by
    unfold cellsFrom at m
    unfold pushCells
    split at m
    · rename_i hk
      rw [if_pos hk]
      have m' : (x, c) ∈ cellsFrom (h.push { cls := .type "cell", data := .cell none }).objs.size r ((n, h.objs.size) :: acc) := by rw [Heap.size_push]; exact m
      rcases pushCells_cell (names := r) m' with z | z
      · rcases List.mem_cons.mp z with e | z
        · cases e
          exact .inr ⟨_, pushCells_keeps _ _ _ _ (Heap.get?_push_size _ rfl), rfl⟩
        · exact .inl z
      · exact .inr z
    · rename_i hk
      rw [if_neg hk]
      exact pushCells_cell (names := r) m
theorem cellsFrom_inj : ∀ {names : List (Str × NameKind)} {n : Nat} {acc : List (Str × Addr)}, (∀ x c, (x, c) ∈ acc → c < n) → (∀ x y c, (x, c) ∈ acc → (y, c) ∈ acc → x = y) →
    ∀ x y c, (x, c) ∈ cellsFrom n names acc → (y, c) ∈ cellsFrom n names acc → x = y
  | [], n, acc, lt, inj, x, y, c, h, h' => inj x y c h h'
  | (m, k) :: r, n, acc, lt, inj, x, y, c, h, h' => by
    unfold cellsFrom at h h'
    split at h
    · rename_i hk
      rw [if_pos hk] at h'
      refine cellsFrom_inj (names := r) (n := n + 1) (acc := (m, n) :: acc) (fun x c hm => ?_) (fun x y c hm hm' => ?_) x y c h h'
      · rcases List.mem_cons.mp hm with e | hm
        · cases e; exact Nat.lt_succ_self _
        · exact Nat.lt_succ_of_lt (lt _ _ hm)
      · rcases List.mem_cons.mp hm with e | hm <;> rcases List.mem_cons.mp hm' with e' | hm'
        · cases e; cases e'; rfl
        · cases e; exact absurd (lt _ _ hm') (Nat.lt_irrefl _)
        · cases e'; exact absurd (lt _ _ hm) (Nat.lt_irrefl _)
        · exact inj _ _ _ hm hm'
    · rename_i hk
      rw [if_neg hk] at h'
      exact cellsFrom_inj (names := r) lt inj x y c h h'
theorem lookup_relabel {env : Env} : ∀ {names : List (Str × NameKind)} {x : Str},
    (names.map fun (n, k) => if (k == NameKind.free && env.scope.kind == .function && env.kindOf n == some .cell) then (n, NameKind.cell) else (n, k)).lookup x =
      (names.lookup x).map fun k => if (k == NameKind.free && env.scope.kind == .function && env.kindOf x == some .cell) = true then NameKind.cell else k
  | [], x => rfl
  | (n, k) :: r, x => by
    have ih := @lookup_relabel env r x
    show List.lookup x ((if (k == NameKind.free && env.scope.kind == .function && env.kindOf n == some .cell) = true then (n, NameKind.cell) else (n, k)) :: _) = _
    have e : (if (k == NameKind.free && env.scope.kind == .function && env.kindOf n == some .cell) = true then (n, NameKind.cell) else (n, k)) = (n, if (k == NameKind.free && env.scope.kind == .function && env.kindOf n == some .cell) = true then NameKind.cell else k) := by split <;> rfl
    rw [e, List.lookup_cons, List.lookup_cons]
    cases hx : x == n with
    | true =>
      have hx' := beq_iff_eq.mp hx
      subst hx'
      rfl
    | false => exact ih
structure CompScope (X : Cx) (scope : Scope) (tn cap : List Str) (idx : List Nat) : Prop where
  kind : scope.kind = .function
  nd : (scope.names.map (·.1)).Nodup
  tnd : (tn ++ cap).Nodup
  ct : ∀ y ∈ cap, scope.names.lookup y = some .free
  ci : idx.map (fun i => X.N[i]?) = cap.map some
  fr : ∀ y ∈ scope.names, y.2 = .free → X.env.scope.names.lookup y.1 = some .cell ∨ X.env.scope.names.lookup y.1 = some .free
theorem lookup_nd {α : Type} : ∀ {l : List (Str × α)} {n : Str} {c : α}, (l.map (·.1)).Nodup → (n, c) ∈ l → l.lookup n = some c
  | [], _, _, _, h => nomatch h
  | (k, v) :: r, n, c, nd, h => by
    obtain ⟨h1, h2⟩ := List.nodup_cons.mp nd
    rw [List.lookup_cons]
    rcases List.mem_cons.mp h with e | hm
    · cases e; simp
    · have hne : n ≠ k := fun e => h1 (List.mem_map.mpr ⟨_, hm, e⟩)
      have hb : (n == k) = false := beq_eq_false_iff_ne.mpr hne
      rw [hb]
      exact lookup_nd h2 hm
def caps (σ : St) (idx : List Nat) : St := idx.map fun i => (σ[i]?).getD none
def cbase (k : Nat) (idx : List Nat) (σ : St) : St := List.replicate k none ++ caps σ idx
def cxC (X : Cx) (N' : List Str) (scope : Scope) (cs : List (Str × Addr)) (C : Addr) (fp : List Addr) (s₀ : Shared) (H₀ : Hp) : Cx where
  prog := X.prog
  w := X.w
  K := X.K
  mg := X.mg
  base := X.base
  A := X.A
  N := N'
  s₀ := s₀
  H₀ := H₀
  env := compEnvC scope cs C X.env
  outer := X.stack
  stack := X.stack
  ex := fp
  fn := fun x => scope.names.lookup x == some .local || scope.names.lookup x == some .cell
  calm := X.calm
  pn := []
  xe := fun _ _ => False
theorem wpAny_newEnv_comp {M : Model} {A : Around} {E : Value → Shared → Prop} {s : Shared} {scope : Scope} {globals : Addr} {cl : List (Str × Addr)} {qual : Str} {env0 : Env} {Q : Env → Shared → Prop}
    (hQ : Q { scope := scope, locals := s.heap.objs.size, globals := globals, cells := cellsFrom (s.heap.objs.size + 1) scope.names cl, qual := qual, func := none, code := env0.code, frame := env0.frame, builtins := env0.builtins }
      { s with heap := pushCells (s.heap.push { cls := .type "dict", data := .dict #[] }) scope.names }) :
    wpAny M A (newFunctionEnv scope globals cl [] qual none .none (some env0)) Q E s := by
  simp only [newFunctionEnv, Option.isSome_some, if_true]
  refine wpAny_bind (wpAny_alloc ?_)
  refine wpAny_bind (wpAny_layCells _ (fun name kind cells => by cases hkc : kind == NameKind.cell <;> simp [hkc]) _ _ _ _ ?_)
  rw [show ({ s with heap := s.heap.push { cls := .type "dict", data := .dict #[] } } : Shared).heap.objs.size = s.heap.objs.size + 1 from Heap.size_push ..]
  exact wpAny_bind (wpAny_pure (wpAny_pure hQ))
section
variable {prog : Program} {w : World} {A : Around} {R : Result → Shared → Prop} {s : Shared}
theorem compLoop_any {elt target iter : Expr} {ifs : List Expr} {scope : Scope} {pos : Pos} {it acc : Value} {env : Env} (I : Nat → Shared → Prop)
    (turn : ∀ n s, I n s → wpAny (model prog w) A (pyNext it) (fun r s₁ => match r with
      | none => R (.ok .next) s₁
      | some v => wpAny (model prog w) A (letOwnedTupleGo target it v) (fun _ s₁' => wpAny (model prog w) A (assign target env v) (fun _ s₂ =>
          wpAny (model prog w) A (forIn ifs true fun c r => if r = true then do let ok ← isTrue c env (eval c env); pure (ForInStep.yield ok) else pure (ForInStep.yield r)) (fun ok s₃ =>
            if ok = true then wpAny (model prog w) A (eval elt env) (fun x s₄ =>
              wpAny (model prog w) A (call (.builtin "list.append") [acc, x]) (fun _ s₅ => ∃ m, m < n ∧ I m s₅) (fun _ _ => False) s₄) (fun _ _ => False) s₃
            else ∃ m, m < n ∧ I m s₃) (fun _ _ => False) s₂) (fun _ _ => False) s₁') (fun _ _ => False) s₁) (fun _ _ => False) s)
    (n : Nat) (h : I n s) :
    codeAny (model prog w) A (.compLoop (.ListComp elt [⟨target, iter, ifs, 0⟩] scope pos) 0 it acc env) R s := by
  refine codeAny_loop rfl I (fun n s hI => ?_) n h
  show wpAny _ A ((compTurn (.ListComp elt [⟨target, iter, ifs, 0⟩] scope pos) 0 it acc env).onRaise (fun x => do noteFrame x env; theTreesLotGoes x)) _ _ s
  refine wpAny_noted ?_
  rw [compTurn_list]
  refine wpAny_bind (wpAny_standAt (wpAny_bind (wpAny_mono (turn n s hI) (fun r s₁ h₁ => ?_) fun _ _ h' => h'.elim)))
  cases r with
  | none => exact wpAny_pure h₁
  | some v =>
    refine wpAny_bind (wpAny_mono h₁ (fun _ s₁' h₁' => ?_) fun _ _ h' => h'.elim)
    refine wpAny_bind (wpAny_mono h₁' (fun _ s₂ h₂ => wpAny_bind (wpAny_mono h₂ (fun ok s₃ h₃ => ?_) fun _ _ h' => h'.elim)) fun _ _ h' => h'.elim)
    cases ok with
    | false => exact wpAny_pure ⟨rfl, h₃⟩
    | true =>
      exact wpAny_bind (wpAny_bind (wpAny_mono h₃ (fun x s₄ h₄ => wpAny_bind (wpAny_mono h₄ (fun _ s₅ h₅ => wpAny_pure (wpAny_pure ⟨rfl, h₅⟩)) fun _ _ h' => h'.elim)) fun _ _ h' => h'.elim))
end
section
variable {X : Cx} {pins : List (Addr × Obj)} {σ : St} {H : Hp} {s2 : Shared} {scope : Scope} {tn cap : List Str} {idx : List Nat} {fp : List Addr}
abbrev cObjL : Obj := { cls := .type "list", data := .seq ([] : List Value).toArray }
abbrev cObjF : Obj := { cls := .type "dict", data := .dict #[] }
abbrev cHeap (h : Heap) (scope : Scope) : Heap := pushCells ((h.push cObjL).push cObjF) scope.names
abbrev cCells (X : Cx) (h : Heap) (scope : Scope) : List (Str × Addr) := cellsFrom (h.objs.size + 1 + 1) scope.names (clFrom X.env scope.names [])
theorem caps_get {σ : St} {idx : List Nat} {j : Nat} {v : V} (h : (caps σ idx)[j]? = some (some v)) : ∃ i, idx[j]? = some i ∧ σ[i]? = some (some v) := by
  unfold caps at h
  rw [List.getElem?_map] at h
  cases e : idx[j]? with
  | none => rw [e] at h; cases h
  | some i =>
    rw [e] at h
    have h' : (σ[i]?).getD none = some v := Option.some.inj h
    refine ⟨i, rfl, ?_⟩
    cases q : σ[i]? with
    | none => rw [q] at h'; cases h'
    | some o => rw [q] at h'; have h'' : o = some v := h'; rw [h'']
theorem comp_start (I : Inv X pins σ H s2) (S : CompScope X scope tn cap idx) (hf : ∀ b ∈ fp, FpOk X pins H b) (hfl : ∀ b ∈ fp, b < s2.heap.objs.size) :
    Inv (cxC X (tn ++ cap) scope (cCells X s2.heap scope) (s2.heap.objs.size + 1) fp s2 H) [(s2.heap.objs.size, cObjL)] (cbase tn.length idx σ) H { s2 with heap := cHeap s2.heap scope } := by
  have old : ∀ b o, s2.heap.get? b = some o → (cHeap s2.heap scope).get? b = some o := fun b o e => pushCells_keeps _ _ _ _ (Heap.get?_push_of_some _ (Heap.get?_push_of_some _ e))
  have hsz : ((s2.heap.push cObjL).push cObjF).objs.size = s2.heap.objs.size + 1 + 1 := by rw [Heap.size_push, Heap.size_push]
  have hacc : (cHeap s2.heap scope).get? s2.heap.objs.size = some cObjL := pushCells_keeps _ _ _ _ (Heap.get?_push_of_some _ (Heap.get?_push_size _ rfl))
  have hns : (cHeap s2.heap scope).Ns (s2.heap.objs.size + 1) (fun _ => none) := by
    have e := (Heap.Ns.new (s2.heap.push cObjL) (.type "dict")).keeps (pushCells_keeps scope.names _)
    rw [Heap.size_push] at e
    exact e
  have clm : ∀ x c, (x, c) ∈ clFrom X.env scope.names [] → X.env.cells.lookup x = some c ∧ (x, NameKind.free) ∈ scope.names := fun x c h => by
    rcases clFrom_mem h with z | ⟨z, e⟩
    · nomatch z
    · obtain ⟨d, hd⟩ := I.ok.has x (S.fr _ z rfl)
      rw [hd] at e
      have e' : c = d := e
      subst e'
      exact ⟨hd, z⟩
  have csm : ∀ x c, (x, c) ∈ cCells X s2.heap scope → (X.env.cells.lookup x = some c ∧ (x, NameKind.free) ∈ scope.names) ∨ ((x, NameKind.cell) ∈ scope.names ∧ s2.heap.objs.size + 1 + 1 ≤ c) := fun x c h => by
    rcases cellsFrom_mem h with z | z
    · exact .inl (clm x c z)
    · exact .inr z
  have clt : ∀ x c, X.env.cells.lookup x = some c → c < s2.heap.objs.size := fun x c h => by
    obtain ⟨v, q⟩ := I.cell x c h
    exact q.lt
  have freeK : ∀ x, (x, NameKind.free) ∈ scope.names → scope.names.lookup x = some .free := fun x h => lookup_nd S.nd h
  have cellK : ∀ x, (x, NameKind.cell) ∈ scope.names → scope.names.lookup x = some .cell := fun x h => lookup_nd S.nd h
  refine ⟨⟨I.ok.mod, S.kind, I.ok.glob, I.ok.blt, Nat.le_succ _, fun x y c h1 h2 => ?_, fun x hx => ?_, fun x c hfn h => ?_, I.ok.hd, I.ok.frames, .inl rfl, fun b hb => ⟨?_, fun x c h => ?_⟩, I.bs, Nat.le_trans I.ok.bsz I.sz, fun b o e hb => ?_, fun b hb z => ?_, I.stack, I.stkFree⟩,
    rfl, I.bare, Un.kept old, ⟨_, hns, fun i x v e1 e2 e3 => ?_⟩, fun x c h => ?_, I.hok.fresh (Nat.le_succ _), fun x c h => ?_, fun p hp => ?_, I.hok.kept old, ?_⟩
  · exact cellsFrom_inj (fun x c h => Nat.lt_succ_of_lt (Nat.lt_succ_of_lt (clt x c (clm x c h).1))) (fun x y c h h' => I.ok.inj x y c (clm x c h).1 (clm y c h').1) x y c (PySem.mem_of_lookup h1) (PySem.mem_of_lookup h2)
  · have hx : (relabel scope X.env).names.lookup x = some .cell ∨ (relabel scope X.env).names.lookup x = some .free := hx
    have e := @lookup_relabel X.env scope.names x
    have hk : ∃ k, scope.names.lookup x = some k ∧ (k = .cell ∨ k = .free) := by
      cases q : scope.names.lookup x with
      | none =>
        rw [q] at e
        rcases hx with z | z
        · have z' := e.symm.trans z; cases z'
        · have z' := e.symm.trans z; cases z'
      | some k =>
        rw [q] at e
        refine ⟨k, rfl, ?_⟩
        cases k with
        | cell => exact .inl rfl
        | free => exact .inr rfl
        | _ =>
          exfalso
          rcases hx with z | z
          · have z' := e.symm.trans z; cases z'
          · have z' := e.symm.trans z; cases z'
    obtain ⟨k, hk, hk2⟩ := hk
    have hm := PySem.mem_of_lookup hk
    rcases hk2 with rfl | rfl
    · obtain ⟨c, hc⟩ := cellsFrom_has (n := s2.heap.objs.size + 1 + 1) (acc := clFrom X.env scope.names []) hm
      exact lookup_of_mem hc
    · exact lookup_of_mem (cellsFrom_acc (clFrom_has (env := X.env) (acc := []) hm))
  · rcases csm x c (PySem.mem_of_lookup h) with ⟨_, z⟩ | ⟨_, z⟩
    · have hfn : (scope.names.lookup x == some .local || scope.names.lookup x == some .cell) = true := hfn
      rw [freeK x z] at hfn
      exact absurd hfn (by decide)
    · show s2.heap.objs.size ≤ c
      omega
  · -- b is not the block's frame
    intro z
    have z' : b = s2.heap.objs.size + 1 := z
    exact absurd (hfl b hb) (by rw [z']; exact Nat.not_lt.mpr (Nat.le_succ _))
  · rcases csm x c (PySem.mem_of_lookup h) with ⟨z, _⟩ | ⟨_, z⟩
    · exact (hf b hb).2.2.2.2.1 x c z
    · intro e
      exact absurd (hfl b hb) (by rw [← e]; exact Nat.not_lt.mpr (Nat.le_trans (Nat.le_trans (Nat.le_succ _) (Nat.le_succ _)) z))
  · rcases (hf b hb).2.2.2.1 with z | z
    · exact I.ok.noex b o e z
    · exact absurd (Nat.lt_of_lt_of_le (Heap.lt_size e) (Nat.le_trans I.ok.bsz z)) (Nat.lt_irrefl _)
  · obtain ⟨_, f1, f2, _⟩ := hf b hb
    rcases List.mem_cons.mp (I.stkSub b z) with e | e
    · exact f1 e
    · exact f2 e
  · -- the names
    have e1 : (tn ++ cap)[i]? = some x := e1
    have e2 : (cbase tn.length idx σ)[i]? = some (some v) := e2
    unfold cbase at e2
    by_cases hi : i < tn.length
    · rw [List.getElem?_append_left (by rw [List.length_replicate]; exact hi), List.getElem?_replicate, if_pos hi] at e2
      cases e2
    · rw [List.getElem?_append_right (by rw [List.length_replicate]; omega), List.length_replicate] at e2
      rw [List.getElem?_append_right (by omega)] at e1
      obtain ⟨i0, h1, h2⟩ := caps_get e2
      have hN : X.N[i0]? = some x := by
        have q := congrArg (fun l => l[i - tn.length]?) S.ci
        simp only [List.getElem?_map, h1, e1, Option.map_some] at q
        exact Option.some.inj q
      have hfr := S.ct x (List.mem_of_getElem? e1)
      have hmem := PySem.mem_of_lookup hfr
      have hk := S.fr _ hmem rfl
      obtain ⟨m, hn, hl⟩ := I.loc
      obtain ⟨u, r, l⟩ := hl i0 x v hN h2 (hk.elim (fun z => .inr (.inl z)) fun z => .inr (.inr z))
      refine ⟨u, r, .inr ⟨?_, ?_⟩⟩
      · show (relabel scope X.env).names.lookup x = some .cell ∨ (relabel scope X.env).names.lookup x = some .free
        have e := @lookup_relabel X.env scope.names x
        rw [hfr] at e
        have e' : (relabel scope X.env).names.lookup x = some (if (NameKind.free == NameKind.free && X.env.scope.kind == .function && X.env.kindOf x == some .cell) = true then NameKind.cell else NameKind.free) := e
        rw [e']
        split
        · exact .inl rfl
        · exact .inr rfl
      · rcases l with ⟨hk', _⟩ | ⟨_, c, hc, z⟩
        · exfalso
          have hk' : X.env.scope.names.lookup x = some .local := hk'
          rcases hk with q | q
          · have q : X.env.scope.names.lookup x = some .cell := q
            rw [q] at hk'; cases hk'
          · have q : X.env.scope.names.lookup x = some .free := q
            rw [q] at hk'; cases hk'
        · obtain ⟨d, hd⟩ := lookup_of_mem (cellsFrom_acc (names := scope.names) (n := s2.heap.objs.size + 1 + 1) (clFrom_has (env := X.env) (acc := []) hmem))
          refine ⟨c, ?_, z.keeps old⟩
          rcases csm x d (PySem.mem_of_lookup hd) with ⟨q, _⟩ | ⟨q, _⟩
          · rw [hc] at q; cases q; exact hd
          · have := cellK x q; rw [hfr] at this; cases this
  · have hm : (x, c) ∈ cellsFrom ((s2.heap.push cObjL).push cObjF).objs.size scope.names (clFrom X.env scope.names []) := by rw [hsz]; exact PySem.mem_of_lookup h
    rcases pushCells_cell hm with z | z
    · obtain ⟨v, q⟩ := I.cell x c (clm x c z).1
      exact ⟨v, q.keeps old⟩
    · exact ⟨_, z⟩
  · rcases csm x c (PySem.mem_of_lookup h) with ⟨z, _⟩ | ⟨_, z⟩
    · exact I.freeC x c z
    · exact I.hok.fresh (by omega)
  · have hp' : p ∈ [(s2.heap.objs.size, cObjL)] := hp
    obtain rfl := List.mem_singleton.mp hp'
    refine ⟨hacc, I.hok.fresh (Nat.le_refl _), Nat.ne_of_lt (Nat.lt_succ_self _), fun z => ?_, fun v z => ?_⟩
    · rcases List.mem_cons.mp (I.stkSub _ z) with e | e
      · exact absurd I.lt (by rw [← e]; exact Nat.lt_irrefl _)
      · exact I.nofs (Nat.le_refl _) e
    · have z' : Data.seq _ _ = Data.cell v := z
      cases z'
  · show (cbase tn.length idx σ).length = (tn ++ cap).length
    have := congrArg List.length S.ci
    unfold cbase caps
    simp only [List.length_append, List.length_replicate, List.length_map] at this ⊢
    omega
theorem comp_back {N' : List Str} {cs : List (Str × Addr)} {C D : Addr} {pins' : List (Addr × Obj)} {σ' : St} {H8 : Hp} {s8 : Shared} {vs : List V} {its : List Value} {n : Nat} (I : Inv X pins σ H s2) (hf : ∀ b ∈ fp, FpOk X pins H b)
    (J : Inv (cxC X N' scope cs C fp s2 H) pins' σ' H8 s8) (hD : s2.heap.objs.size ≤ D) (hD8 : H8 D = none) (hget : s8.heap.get? D = some { cls := .type "list", data := .seq its.toArray n }) (r : Vals vs its) (hz : vs.length ≤ sizeLine) :
    Inv X pins σ (upd H8 D (.lst vs)) s8 := by
  have u := J.base
  have hb : ∀ b o, s2.heap.get? b = some o → b ≠ D := fun b o e => Nat.ne_of_lt (Nat.lt_of_lt_of_le (Heap.lt_size e) hD)
  refine I.call' (ch := fp) J.os ⟨u.keep, u.slot, fun b o e n hx => ?_, u.there, fun b xs e => ?_, fun b o xs e => ?_, fun b ps e => ?_⟩ (fun b o e => ?_) J.bare fun b hbf => ?_
  · rw [upd_ne (hb b o e)]; exact u.free b o e n hx
  · have q := u.tups b xs e
    rw [upd_ne (ne_of_none q hD8)]; exact q
  · have q := u.frzs b o xs e
    rw [upd_ne (ne_of_none q hD8)]; exact q
  · obtain ⟨m, q⟩ := u.tbls b ps e
    exact ⟨m, by rw [upd_ne (ne_of_none q hD8)]; exact q⟩
  · by_cases e1 : b = D
    · subst e1
      rw [upd_same] at e
      cases e
      exact ⟨hz, its, n, r, hget⟩
    · rw [upd_ne e1] at e
      exact (J.hok b o e).stay (fun _ _ _ q => q) (fun c q => by rw [upd_ne (ne_of_none q hD8)]; exact q) fun c xs q => by rw [upd_ne (ne_of_none q hD8)]; exact q
  · obtain ⟨_, f1, _, f3, f4, f5⟩ := hf b hbf
    exact ⟨f3, f1, f4, f5⟩
def PTs (X : Cx) (ifs : List Expr) (tt : TT) : Prop :=
  ∀ (pins : List (Addr × Obj)) (s : Shared) (σ : St) (H : Hp) (Q : Bool → Hp → Prop), Inv X pins σ H s → tt σ H Q →
    wpAny (model X.prog X.w) X.A (forIn ifs true fun c r => if r = true then do let ok ← isTrue c X.env (eval c X.env); pure (ForInStep.yield ok) else pure (ForInStep.yield r)) (TP X pins σ Q) X.xe s
def tYes : TT := fun _ H Q => Q true H
theorem pts_nil : PTs X [] tYes := fun _ _ _ H _ I h => wpAny_tests_nil ⟨H, I, h⟩
theorem pts_one {c : Expr} {tc : TT} (h : PT X c tc) : PTs X [c] tc := fun pins s σ H Q I q => wpAny_tests_one (h pins s σ H Q I q)
def tComp (wi : TI) (g : TG) (tt : TT) (te : TE) (k : Nat) (idx : List Nat) : TE := fun σ H Q => wi σ H fun J H1 =>
  ∃ W : Nat → Nat → List V → Hp → Prop, (∃ m, W 0 m [] H1) ∧ ∀ i m vs H, W i m vs H →
    (J.stop i H ∧ vs.length ≤ sizeLine ∧ ∀ p, H p = none → Q (.ref p) (upd H p (.lst vs))) ∨
    (J.go i H ∧ vs.length ≤ sizeLine ∧ ∃ N : List V → Hp → Prop, (∀ vs' H', N vs' H' → ∃ m', m' < m ∧ W (i + 1) m' vs' H') ∧ ∀ x H', J.yld i H x H' → g x (cbase k idx σ) H' fun σ2 H2 => tt σ2 H2 fun b H3 =>
      if b = true then te σ2 H3 fun v H4 => N (vs ++ [v]) H4 else N vs H3)
def GSet (k : Nat) (g : TG) : Prop := ∀ x σ H Q, g x σ H Q → g x σ H fun σ2 H2 => Q σ2 H2 ∧ σ2.length = σ.length ∧ ∀ j, k ≤ j → σ2[j]? = σ[j]?
theorem GSet.name {i k : Nat} (h : i < k) : GSet k (gName i) := fun x σ H Q q => ⟨q, by simp, fun j hj => by rw [List.getElem?_set_ne (by omega)]⟩
theorem cbase_low {k j : Nat} {idx : List Nat} {σ : St} {v : V} (h : (cbase k idx σ)[j]? = some (some v)) : k ≤ j := by
  by_cases hj : j < k
  · unfold cbase at h
    rw [List.getElem?_append_left (by rw [List.length_replicate]; exact hj), List.getElem?_replicate, if_pos hj] at h
    cases h
  · omega
theorem comp_block {elt target iter : Expr} {ifs : List Expr} {pos : Pos} {g : TG} {tt : TT} {te : TE} {E : Value → Shared → Prop} {it : Addr} {tnn : Nat → Heap → Prop} {J : It} {Q : VK} {RR : Value → Addr → Result → Shared → Prop}
    (hcalm : X.calm = true) (S : CompScope X scope tn cap idx) (hgs : GSet tn.length g)
    (hg : ∀ cs C fp s₀ H₀, PG (cxC X (tn ++ cap) scope cs C fp s₀ H₀) target g) (ht : ∀ cs C fp s₀ H₀, PTs (cxC X (tn ++ cap) scope cs C fp s₀ H₀) ifs tt)
    (he : ∀ cs C fp s₀ H₀, PE (cxC X (tn ++ cap) scope cs C fp s₀ H₀) elt te)
    (I : Inv X pins σ H s2) (T : Turn X.prog X.w X.K target J fp it tnn) (st2 : tnn 0 s2.heap) (f2 : ∀ b ∈ fp, FpOk X pins H b)
    (hW : ∃ W : Nat → Nat → List V → Hp → Prop, (∃ m, W 0 m [] H) ∧ ∀ i m vs H, W i m vs H →
      (J.stop i H ∧ vs.length ≤ sizeLine ∧ ∀ p, H p = none → Q (.ref p) (upd H p (.lst vs))) ∨
      (J.go i H ∧ vs.length ≤ sizeLine ∧ ∃ N : List V → Hp → Prop, (∀ vs' H', N vs' H' → ∃ m', m' < m ∧ W (i + 1) m' vs' H') ∧ ∀ x H', J.yld i H x H' → g x (cbase tn.length idx σ) H' fun σ2 H2 => tt σ2 H2 fun b H3 =>
        if b = true then te σ2 H3 fun v H4 => N (vs ++ [v]) H4 else N vs H3))
    (hRR : ∀ (s8 : Shared) (H8 : Hp) (C D : Addr) (m : Str → Option Value), Inv X pins σ H8 s8 → s8.heap.Ns C m → H8 C = none → s2.heap.objs.size ≤ C → Q (.ref D) H8 → RR (.ref D) C (.ok .next) s8) :
    wpAny (model X.prog X.w) X.A (newList []) (fun acc s₃ => wpAny (model X.prog X.w) X.A (newFunctionEnv scope X.env.globals (clFrom X.env scope.names []) [] X.env.qual none .none (some X.env)) (fun cenv s₄ =>
      codeAny (model X.prog X.w) X.A (.compStart (.ListComp elt [⟨target, iter, ifs, 0⟩] scope pos) 0 (.ref it) acc { cenv with scope := relabel scope X.env }) (RR acc cenv.locals) s₄) E s₃) E s2 := by
  obtain ⟨W, ⟨m0, w0⟩, turn⟩ := hW
  have hfl : ∀ b ∈ fp, b < s2.heap.objs.size := fun b hb => by
    obtain ⟨o, e, _⟩ := T.obj _ _ st2 b hb
    exact Heap.lt_size e
  have I4 := comp_start I S f2 hfl
  refine wpAny_newObj_type (wpAny_newEnv_comp ?_)
  have e1 : ({ s2 with heap := s2.heap.push cObjL } : Shared).heap.objs.size = s2.heap.objs.size + 1 := Heap.size_push ..
  rw [e1]
  generalize hX' : cxC X (tn ++ cap) scope (cCells X s2.heap scope) (s2.heap.objs.size + 1) fp s2 H = X' at I4
  have hA : X'.A = X.A := by subst hX'; rfl
  have hprog : X'.prog = X.prog := by subst hX'; rfl
  have hw : X'.w = X.w := by subst hX'; rfl
  have hK : X'.K = X.K := by subst hX'; rfl
  have hcal : X'.calm = true := by subst hX'; exact hcalm
  have hxe : X'.xe = fun _ _ => False := by subst hX'; rfl
  have hloc : X'.env.locals = s2.heap.objs.size + 1 := by subst hX'; rfl
  have hpn : X'.pn = [] := by subst hX'; rfl
  have hex : X'.ex = fp := by subst hX'; rfl
  have hs0 : X'.s₀ = s2 := by subst hX'; rfl
  have hg' : PG X' target g := by subst hX'; exact hg _ _ _ _ _
  have ht' : PTs X' ifs tt := by subst hX'; exact ht _ _ _ _ _
  have he' : PE X' elt te := by subst hX'; exact he _ _ _ _ _
  have henv : X'.env = { scope := relabel scope X.env, locals := s2.heap.objs.size + 1, globals := X.env.globals, cells := cCells X s2.heap scope, qual := X.env.qual, func := none, code := X.env.code, frame := X.env.frame, builtins := X.env.builtins } := by subst hX'; rfl
  let lo : List Value → Nat → Obj := fun its n => { cls := .type "list", data := .seq its.toArray n }
  have stat : ∀ {H' : Hp} {pl : List (Addr × Obj)}, (∀ b ∈ fp, H' b = none) → (∀ p ∈ pl, p.1 ∉ fp) → ∀ b ∈ fp, FpOk X' pl H' b := fun {H' pl} hn hp b hb => by
    have q := I4.ok.exf b (by rw [hex]; exact hb)
    have q2 := I4.ok.exfs b (by rw [hex]; exact hb)
    refine ⟨hn b hb, q.1, q2, .inl (by rw [hex]; exact hb), q.2, fun p hp' z => ?_⟩
    rw [hpn] at hp'
    exact hp p hp' (by rw [z]; exact hb)
  have Dfp : s2.heap.objs.size ∉ fp := fun z => Nat.lt_irrefl _ (hfl _ z)
  have D1 : ∀ (o : Obj), ∀ p ∈ [((s2.heap.objs.size : Addr), o)], p.1 ∉ fp := fun o p hp => by
    obtain rfl := List.mem_singleton.mp hp
    exact Dfp
  have loop : ∀ s3 : Shared, s3 = { s2 with heap := cHeap s2.heap scope } →
      codeAny (model X.prog X.w) X.A (.compLoop (.ListComp elt [⟨target, iter, ifs, 0⟩] scope pos) 0 (.ref it) (.ref s2.heap.objs.size) X'.env) (RR (.ref s2.heap.objs.size) (s2.heap.objs.size + 1)) s3 := by
    intro s3 hs3
    subst hs3
    refine compLoop_any (fun n s' => ∃ i vs its nn σ' H', Inv X' [(s2.heap.objs.size, lo its nn)] σ' H' s' ∧ (∀ (j : Nat) v, (cbase tn.length idx σ)[j]? = some (some v) → σ'[j]? = some (some v)) ∧ σ'.length = (cbase tn.length idx σ).length ∧ tnn i s'.heap ∧ (∀ b ∈ fp, H' b = none) ∧ Vals vs its ∧ W i n vs H') ?_ m0
      ⟨0, [], [], 0, _, H, I4, fun _ _ z => z, rfl, T.keep _ _ _ st2 (fun b hb o e => pushCells_keeps _ _ _ _ (Heap.get?_push_of_some _ (Heap.get?_push_of_some _ e))), fun b hb => (f2 b hb).1, .nil, w0⟩
    rintro n s' ⟨i, vs, its, nn, σ', H', I', hσ, hσl, st', fr', rv, w'⟩
    have I5 : Inv X' [(s2.heap.objs.size, lo its nn)] (cbase tn.length idx σ) H' s' := I'.weak hσl.symm hσ
    rcases turn i n vs H' w' with ⟨stop, hz, q⟩ | ⟨go, hz, N, hN, step⟩
    · -- it ends
      have td := T.done X' hprog hw hK hcal i _ s' _ H' (fun _ _ => False) I5 (stat fr' (D1 _)) st' stop
      rw [hA] at td
      refine thn td fun r s8 ⟨hr, I8⟩ => ?_
      subst hr
      obtain ⟨hp1, hp2, _⟩ := I8.pin (s2.heap.objs.size, lo its nn) (by rw [hpn]; exact List.mem_singleton.mpr rfl)
      have J8 : Inv X pins σ (upd H' s2.heap.objs.size (.lst vs)) s8 := by
        subst hX'
        exact comp_back I f2 I8 (Nat.le_refl _) hp2 hp1 rv hz
      obtain ⟨m, hm, _⟩ := I8.loc
      rw [hloc] at hm
      have hCf : H' (s2.heap.objs.size + 1) = none := by have := I8.free; rw [hloc] at this; exact this
      refine hRR s8 _ _ _ m J8 hm ?_ (Nat.le_succ _) (q _ hp2)
      rw [upd_ne (Nat.ne_of_gt (Nat.lt_succ_self _))]
      exact hCf
    · -- a turn
      have ti := T.item X' hprog hw hK hcal i _ s' _ H' (fun _ _ => False) I5 (stat fr' (D1 _)) st' go
      rw [hA] at ti
      refine thn ti fun r s5 ⟨u, hr, h5⟩ => ?_
      subst hr
      refine thn h5 fun _ s6 ⟨x, H6, I6, r6, y6, st6, fr6⟩ => ?_
      have I6' := I6.pinned (stat fr6 (D1 _)) (T.obj _ _ st6)
      have ag := hg' _ s6 _ H6 x u _ I6' r6 (hgs _ _ _ _ (step x H6 y6))
      rw [hprog, hw, hA, hxe] at ag
      refine thn ag fun _ s7 ⟨σ7, H7, I7, q7, hl7, hj7⟩ => ?_
      have at7 := ht' _ s7 σ7 H7 _ I7 q7
      rw [hprog, hw, hA, hxe] at at7
      refine thn at7 fun b s8 ⟨H8, I8, q8⟩ => ?_
      have again : ∀ {s9 : Shared} {H9 : Hp} {vs9 : List V} {its9 : List Value} {n9 : Nat}, Inv X' ([(s2.heap.objs.size, lo its9 n9)] ++ pinsAt fp s6.heap) σ7 H9 s9 → Vals vs9 its9 → N vs9 H9 →
          ∃ m, m < n ∧ ∃ i vs its nn σ' H', Inv X' [(s2.heap.objs.size, lo its nn)] σ' H' s9 ∧ (∀ (j : Nat) v, (cbase tn.length idx σ)[j]? = some (some v) → σ'[j]? = some (some v)) ∧ σ'.length = (cbase tn.length idx σ).length ∧ tnn i s9.heap ∧ (∀ b ∈ fp, H' b = none) ∧ Vals vs its ∧ W i m vs H' := by
        intro s9 H9 vs9 its9 n9 I9 r9 n9'
        obtain ⟨m', hm', w9⟩ := hN _ _ n9'
        refine ⟨m', hm', i + 1, vs9, its9, n9, σ7, H9, I9.unpinned, fun j v e => by rw [hj7 j (cbase_low e)]; exact e, hl7, T.keep _ _ _ st6 fun b hb o e => (I9.pin (b, o) (List.mem_append_right _ (List.mem_append_right _ (mem_pinsAt hb e)))).1, fun b hb => ?_, r9, w9⟩
        obtain ⟨o, e, d⟩ := T.obj _ _ st6 b hb
        exact (I9.pin (b, o) (List.mem_append_right _ (List.mem_append_right _ (mem_pinsAt hb e)))).2.1
      cases b with
      | false =>
        exact again I8 rv q8
      | true =>
        have ae := he' _ s8 σ7 H8 _ I8 q8
        rw [hprog, hw, hA, hxe] at ae
        refine thn ae fun xv s9 ⟨v9, H9, I9, r9, q9⟩ => ?_
        obtain ⟨hp1, hp2, hp3, hp4, _⟩ := I9.pin (s2.heap.objs.size, lo its nn) (List.mem_append_right _ (List.mem_append_left _ (List.mem_singleton.mpr rfl)))
        have rvl := rv.length
        refine append_at (hsz := by rw [List.size_toArray]; omega) hp1 fun h' hs' ho' => ?_
        have nfp : ∀ p ∈ pinsAt fp s6.heap, p.1 ≠ s2.heap.objs.size := fun p hp z => Dfp (by rw [← z]; exact (of_pinsAt hp).1)
        have I10 : Inv X' (pinsAt fp s6.heap) σ7 H9 s9 := I9.pins_of fun p hp => I9.pin p (List.mem_append_right _ (List.mem_append_right _ hp))
        have I11 : Inv X' (pinsAt fp s6.heap) σ7 H9 { s9 with heap := h' } := I10.turned (t' := s9.toks) (it := s2.heap.objs.size) (fun b o hb e => hs'.extBut b o hb e) hp2 hp3 (.inr (by rw [hs0]; exact Nat.le_refl _))
          (fun x c e z => by
            obtain ⟨v, o, q1, q2⟩ := I9.cell x c e
            rw [z, hp1] at q1
            cases q1
            cases q2) (fun p hp => by rw [hpn] at hp; exact nfp p hp)
        have eo : ({ cls := .type "list", data := .seq (its.toArray.push xv) (nn + 1) } : Obj) = lo (its ++ [xv]) (nn + 1) := by
          show ({ cls := .type "list", data := .seq (its.toArray.push xv) (nn + 1) } : Obj) = { cls := .type "list", data := .seq (its ++ [xv]).toArray (nn + 1) }
          rw [List.push_toArray]
        refine again (vs9 := vs ++ [v9]) (its9 := its ++ [xv]) (n9 := nn + 1) (I11.pins_of fun p hp => ?_) (rv.append (.cons r9 .nil)) q9
        rcases List.mem_append.mp hp with hp | hp
        · obtain rfl := List.mem_singleton.mp hp
          refine ⟨ho'.trans (congrArg some eo), hp2, hp3, hp4, fun v z => ?_⟩
          have z' : Data.seq _ _ = Data.cell v := z
          cases z'
        · exact I11.pin p (List.mem_append_right _ hp)
  refine codeAny_compStart_list ?_ ?_
  · have := loop _ rfl
    rw [henv] at this
    exact this
  · refine T.self _ 0 _ _ _ (T.keep _ _ _ st2 (fun b hb o e => pushCells_keeps _ _ _ _ (Heap.get?_push_of_some _ (Heap.get?_push_of_some _ e)))) ?_
    have := loop _ rfl
    rw [henv] at this
    exact this
theorem clos_eq (I : Inv X pins σ H s2) (S : CompScope X scope tn cap idx) : closureFor scope X.env = pure (clFrom X.env scope.names []) :=
  closureFor_eq fun n hm => I.ok.has n (S.fr _ hm rfl)
theorem names_ok (S : CompScope X scope tn cap idx) : ∀ x ∈ scope.names, x.2 = .local → scope.names.lookup x.1 = some .local := fun x hx e => by
  obtain ⟨n, k⟩ := x
  have e' : k = NameKind.local := e
  subst e'
  exact lookup_nd S.nd hx
theorem pe_comp {elt target iter : Expr} {ifs : List Expr} {pos : Pos} {wi : TI} {g : TG} {tt : TT} {te : TE} (hcalm : X.calm = true) (S : CompScope X scope tn cap idx) (hi : PI X target iter wi) (hgs : GSet tn.length g)
    (hg : ∀ cs C fp s₀ H₀, PG (cxC X (tn ++ cap) scope cs C fp s₀ H₀) target g) (ht : ∀ cs C fp s₀ H₀, PTs (cxC X (tn ++ cap) scope cs C fp s₀ H₀) ifs tt)
    (he : ∀ cs C fp s₀ H₀, PE (cxC X (tn ++ cap) scope cs C fp s₀ H₀) elt te) (hs : ∀ x, foldedSetIterable iter X.env x = pure x := by intro _; rfl) :
    PE X (.ListComp elt [⟨target, iter, ifs, 0⟩] scope pos) (tComp wi g tt te tn.length idx) := by
  intro pins s σ H Q I h
  rw [eval_ListComp]
  refine wpAny_comprehension_free (use := none) rfl hs (clos_eq I S) S.kind (names_ok S) (thn (hi pins s σ H _ I h) fun v s1 h1 => thn h1 fun itv s2 h2 => ?_)
  obtain ⟨it, fp, tnn, J, H2, e, I2, T, st2, f2, hW⟩ := h2
  subst e
  refine comp_block hcalm S hgs hg ht he I2 T st2 f2 hW fun s8 H8 C D m I8 hm hC hsz q => ?_
  refine ⟨m, hm, fun h' hs' => ⟨.ref D, H8, ?_, rfl, q⟩⟩
  exact I8.turned (t' := s8.toks) (it := C) (fun b o hb e => hs'.extBut b o hb e) hC (fun z => absurd I2.lt (by rw [← z]; exact Nat.not_lt.mpr hsz)) (.inr (Nat.le_trans I2.sz hsz))
    (fun x c e z => by
      obtain ⟨v, q⟩ := I2.cell x c e
      exact absurd q.lt (by rw [z]; exact Nat.not_lt.mpr hsz)) (fun p hp z => absurd (Heap.lt_size (I2.pin p hp).1) (by rw [z]; exact Nat.not_lt.mpr hsz))
theorem ps_setC {elt target iter : Expr} {ifs : List Expr} {pos spos py : Pos} {wi : TI} {g : TG} {tt : TT} {te : TE} {i : Nat} {y : Str} (hcalm : X.calm = true) (S : CompScope X scope tn cap idx) (hN : X.N.Nodup) (hy : X.N[i]? = some y) (hx : Loc X.env.scope y)
    (hi : PI X target iter wi) (hgs : GSet tn.length g)
    (hg : ∀ cs C fp s₀ H₀, PG (cxC X (tn ++ cap) scope cs C fp s₀ H₀) target g) (ht : ∀ cs C fp s₀ H₀, PTs (cxC X (tn ++ cap) scope cs C fp s₀ H₀) ifs tt)
    (he : ∀ cs C fp s₀ H₀, PE (cxC X (tn ++ cap) scope cs C fp s₀ H₀) elt te)
    (hsw : swapsWith (.ListComp elt [⟨target, iter, ifs, 0⟩] scope pos) (some (.Name y py)) spos.line X.env = pure true := by rfl) (hs : ∀ x, foldedSetIterable iter X.env x = pure x := by intro _; rfl)
    (hf : X.fn y = true ∨ X.env.scope.names.lookup y = some .local := by first | exact .inl rfl | exact .inr rfl | assumption) :
    PS X (.Assign [.Name y py] (.ListComp elt [⟨target, iter, ifs, 0⟩] scope pos) spos) (tAsg (tComp wi g tt te tn.length idx) (gName i)) := by
  intro pins s σ H D I h
  rw [exec_Assign_Name_used _ _ _ _ hsw]
  refine wpAny_bind (wpAny_standAt (wpAny_bind ?_))
  show wpAny _ X.A (do let _ ← comprehension (.ListComp elt [⟨target, iter, ifs, 0⟩] scope pos) scope X.env _ (newList []) false (eval iter X.env) (some (assign (.Name y py) X.env))) _ _ s
  refine wpAny_bind (wpAny_mono (wpAny_comprehension_free (use := some (assign (.Name y py) X.env)) (Q := fun _ s' => SP X pins D .next s') rfl hs (clos_eq I S) S.kind (names_ok S)
    (thn (hi pins s σ H _ I h) fun v s1 h1 => thn h1 fun itv s2 h2 => ?_)) (fun _ s' hq => wpAny_pure (wpAny_pure hq)) fun _ _ e => e)
  obtain ⟨it, fp, tnn, J, H2, e, I2, T, st2, f2, hW⟩ := h2
  subst e
  refine comp_block (Q := fun x H1 => gName i x σ H1 D.nx) hcalm S hgs hg ht he I2 T st2 f2 hW fun s8 H8 C DD m I8 hm hC hsz q => ?_
  show wpAny _ X.A (assign (.Name y py) X.env (.ref DD)) _ _ _
  have CL : C ≠ X.env.locals := fun z => absurd I2.lt (by rw [← z]; exact Nat.not_lt.mpr hsz)
  have CC : ∀ x c, X.env.cells.lookup x = some c → c ≠ C := fun x c e z => by
    obtain ⟨v, q⟩ := I2.cell x c e
    exact absurd q.lt (by rw [z]; exact Nat.not_lt.mpr hsz)
  refine wpAny_assign_Name (store_ok2 (v := .ref DD) I8 hN hy hx rfl (fun s9 I9 ⟨a, hsb, ha⟩ => ?_) hf)
  have aC : C ≠ a := fun z => by
    rcases ha with e | e
    · exact CL (z.trans e)
    · exact CC _ _ e z.symm
  refine ⟨m, hm.sameBut hsb aC, fun h' hs' => ⟨_, H8, ?_, q⟩⟩
  exact I9.turned (t' := s9.toks) (it := C) (fun b o hb e => hs'.extBut b o hb e) hC CL (.inr (Nat.le_trans I2.sz hsz)) CC (fun p hp z => absurd (Heap.lt_size (I2.pin p hp).1) (by rw [z]; exact Nat.not_lt.mpr hsz))
end
theorem PE.imp {X : Cx} {e : Expr} {t t' : TE} (h : PE X e t) (q : ∀ σ H Q, t' σ H Q → t σ H Q) : PE X e t' := fun pins s σ H Q I z => h pins s σ H Q I (q σ H Q z)
theorem PS.imp {X : Cx} {e : Stmt} {t t' : TS} (h : PS X e t) (q : ∀ D σ H, t' D σ H → t D σ H) : PS X e t' := fun pins s σ H D I z => h pins s σ H D I (q D σ H z)
def CompGo (J : It) (g : TG) (te : TE) (k : Nat) (idx : List Nat) (σ : St) (H1 : Hp) (Q : VK) : Prop :=
  ∃ W : Nat → Nat → List V → Hp → Prop, (∃ m, W 0 m [] H1) ∧ ∀ i m vs H, W i m vs H →
    (J.stop i H ∧ vs.length ≤ sizeLine ∧ ∀ p, H p = none → Q (.ref p) (upd H p (.lst vs))) ∨
    (J.go i H ∧ vs.length ≤ sizeLine ∧ ∃ N : List V → Hp → Prop, (∀ vs' H', N vs' H' → ∃ m', m' < m ∧ W (i + 1) m' vs' H') ∧ ∀ x H', J.yld i H x H' → g x (cbase k idx σ) H' fun σ2 H2 => te σ2 H2 fun v H4 => N (vs ++ [v]) H4)
def tComp0 (wi : TI) (g : TG) (te : TE) (k : Nat) (idx : List Nat) : TE := fun σ H Q => wi σ H fun J H1 => CompGo J g te k idx σ H1 Q
theorem tComp0_eq {wi : TI} {g : TG} {te : TE} {k : Nat} {idx : List Nat} : tComp0 wi g te k idx = tComp wi g tYes te k idx := by
  have e : ∀ (A B : Prop), (if true = true then A else B) = A := fun A B => if_pos rfl
  unfold tComp0 CompGo tComp tYes
  simp only [if_true]
section
variable {X : Cx} {scope : Scope} {tn cap : List Str} {idx : List Nat}
theorem pe_comp0 {elt target iter : Expr} {pos : Pos} {wi : TI} {g : TG} {te : TE} (S : CompScope X scope tn cap idx) (hi : PI X target iter wi) (hgs : GSet tn.length g)
    (hg : ∀ cs C fp s₀ H₀, PG (cxC X (tn ++ cap) scope cs C fp s₀ H₀) target g)
    (he : ∀ cs C fp s₀ H₀, PE (cxC X (tn ++ cap) scope cs C fp s₀ H₀) elt te) (hcalm : X.calm = true := by rfl) (hs : ∀ x, foldedSetIterable iter X.env x = pure x := by intro _; rfl) :
    PE X (.ListComp elt [⟨target, iter, [], 0⟩] scope pos) (tComp0 wi g te tn.length idx) := by
  rw [tComp0_eq]
  exact pe_comp hcalm S hi hgs hg (fun _ _ _ _ _ => pts_nil) he hs
theorem ps_setC0 {elt target iter : Expr} {pos spos py : Pos} {wi : TI} {g : TG} {te : TE} {i : Nat} {y : Str} (S : CompScope X scope tn cap idx) (hN : X.N.Nodup) (hy : X.N[i]? = some y) (hx : Loc X.env.scope y)
    (hi : PI X target iter wi) (hgs : GSet tn.length g)
    (hg : ∀ cs C fp s₀ H₀, PG (cxC X (tn ++ cap) scope cs C fp s₀ H₀) target g)
    (he : ∀ cs C fp s₀ H₀, PE (cxC X (tn ++ cap) scope cs C fp s₀ H₀) elt te) (hcalm : X.calm = true := by rfl)
    (hsw : swapsWith (.ListComp elt [⟨target, iter, [], 0⟩] scope pos) (some (.Name y py)) spos.line X.env = pure true := by rfl) (hs : ∀ x, foldedSetIterable iter X.env x = pure x := by intro _; rfl)
    (hf : X.fn y = true ∨ X.env.scope.names.lookup y = some .local := by first | exact .inl rfl | exact .inr rfl | assumption) :
    PS X (.Assign [.Name y py] (.ListComp elt [⟨target, iter, [], 0⟩] scope pos) spos) (tAsg (tComp0 wi g te tn.length idx) (gName i)) := by
  rw [tComp0_eq]
  exact ps_setC hcalm S hN hy hx hi hgs hg (fun _ _ _ _ _ => pts_nil) he hsw hs hf
end
end L2
set_option Elab.async false
set_option linter.all false
set_option maxRecDepth 100000
set_option maxHeartbeats 4000000
namespace L2
open PySem PySem.Spec PyProof.Rows
inductive D where
  | non | bl (b : Bool) | int (i : Int) | str (x : Str) | lst (ds : List D) | tup (ds : List D)
mutual
def Rf (H : Hp) : D → V → List Addr → Prop
  | .non, v, fp => v = .non ∧ fp = []
  | .bl b, v, fp => v = .bl b ∧ fp = []
  | .int i, v, fp => v = .int i ∧ fp = []
  | .str x, v, fp => v = .str x ∧ fp = []
  | .lst ds, v, fp => ∃ a xs fq, v = .ref a ∧ H a = some (.lst xs) ∧ fp = a :: fq ∧ Rfs H ds xs fq
  | .tup ds, v, fp => ∃ a xs, v = .ref a ∧ H a = some (.tup xs) ∧ Rfs H ds xs fp
def Rfs (H : Hp) : List D → List V → List Addr → Prop
  | [], xs, fp => xs = [] ∧ fp = []
  | d :: ds, xs, fp => ∃ x r f1 f2, xs = x :: r ∧ fp = f1 ++ f2 ∧ Rf H d x f1 ∧ Rfs H ds r f2
end
def Rp (H : Hp) (d : D) (v : V) : Prop := ∃ fp, Rf H d v fp
mutual
theorem Rf.mono {H H' : Hp} : ∀ {d : D} {v : V} {fp : List Addr}, Rf H d v fp → (∀ a ∈ fp, ∀ o, H a = some o → H' a = some o) → (∀ a xs, H a = some (.tup xs) → H' a = some (.tup xs)) → Rf H' d v fp
  | .non, _, _, h, _, _ => h
  | .bl _, _, _, h, _, _ => h
  | .int _, _, _, h, _, _ => h
  | .str _, _, _, h, _, _ => h
  | .lst ds, v, fp, h, k, t => by
    obtain ⟨a, xs, fq, e1, e2, e3, h⟩ := h
    subst e3
    exact ⟨a, xs, fq, e1, k a List.mem_cons_self _ e2, rfl, Rfs.mono h (fun b hb => k b (List.mem_cons_of_mem _ hb)) t⟩
  | .tup ds, v, fp, h, k, t => by
    obtain ⟨a, xs, e1, e2, h⟩ := h
    exact ⟨a, xs, e1, t a xs e2, Rfs.mono h k t⟩
theorem Rfs.mono {H H' : Hp} : ∀ {ds : List D} {vs : List V} {fp : List Addr}, Rfs H ds vs fp → (∀ a ∈ fp, ∀ o, H a = some o → H' a = some o) → (∀ a xs, H a = some (.tup xs) → H' a = some (.tup xs)) → Rfs H' ds vs fp
  | [], _, _, h, _, _ => h
  | d :: ds, vs, fp, h, k, t => by
    obtain ⟨x, r, f1, f2, e1, e2, h1, h2⟩ := h
    subst e2
    exact ⟨x, r, f1, f2, e1, rfl, Rf.mono h1 (fun b hb => k b (List.mem_append_left _ hb)) t, Rfs.mono h2 (fun b hb => k b (List.mem_append_right _ hb)) t⟩
end
mutual
theorem Rf.dom {H : Hp} : ∀ {d : D} {v : V} {fp : List Addr}, Rf H d v fp → ∀ a ∈ fp, ∃ xs, H a = some (.lst xs)
  | .non, _, _, h, a, ha => by obtain ⟨_, rfl⟩ := h; nomatch ha
  | .bl _, _, _, h, a, ha => by obtain ⟨_, rfl⟩ := h; nomatch ha
  | .int _, _, _, h, a, ha => by obtain ⟨_, rfl⟩ := h; nomatch ha
  | .str _, _, _, h, a, ha => by obtain ⟨_, rfl⟩ := h; nomatch ha
  | .lst ds, v, fp, h, b, hb => by
    obtain ⟨a, xs, fq, e1, e2, e3, h⟩ := h
    subst e3
    rcases List.mem_cons.mp hb with e | hb
    · subst e; exact ⟨xs, e2⟩
    · exact Rfs.dom h b hb
  | .tup ds, v, fp, h, b, hb => by
    obtain ⟨a, xs, e1, e2, h⟩ := h
    exact Rfs.dom h b hb
theorem Rfs.dom {H : Hp} : ∀ {ds : List D} {vs : List V} {fp : List Addr}, Rfs H ds vs fp → ∀ a ∈ fp, ∃ xs, H a = some (.lst xs)
  | [], _, _, h, a, ha => by obtain ⟨_, rfl⟩ := h; nomatch ha
  | d :: ds, vs, fp, h, b, hb => by
    obtain ⟨x, r, f1, f2, e1, e2, h1, h2⟩ := h
    subst e2
    rcases List.mem_append.mp hb with hb | hb
    · exact Rf.dom h1 b hb
    · exact Rfs.dom h2 b hb
end
theorem Rf.upd {H : Hp} {d : D} {v : V} {fp : List Addr} {l : Addr} {o : HO} (h : Rf H d v fp) (hl : l ∉ fp) (hm : ∀ xs, H l ≠ some (.tup xs)) : Rf (upd H l o) d v fp :=
  h.mono (fun a ha u e => by rw [upd_ne (fun z => hl (by rw [← z]; exact ha))]; exact e) fun a xs e => by rw [upd_ne (fun z => hm xs (by rw [← z]; exact e))]; exact e
theorem Rfs.length {H : Hp} : ∀ {ds : List D} {vs : List V} {fp : List Addr}, Rfs H ds vs fp → vs.length = ds.length
  | [], _, _, h => by obtain ⟨rfl, _⟩ := h; rfl
  | d :: ds, vs, fp, h => by
    obtain ⟨x, r, f1, f2, e1, e2, h1, h2⟩ := h
    subst e1
    rw [List.length_cons, List.length_cons, Rfs.length h2]
theorem Rfs.append {H : Hp} : ∀ {ds es : List D} {vs ws : List V} {fp fq : List Addr}, Rfs H ds vs fp → Rfs H es ws fq → Rfs H (ds ++ es) (vs ++ ws) (fp ++ fq)
  | [], es, vs, ws, fp, fq, h, h' => by obtain ⟨rfl, rfl⟩ := h; exact h'
  | d :: ds, es, vs, ws, fp, fq, h, h' => by
    obtain ⟨x, r, f1, f2, rfl, rfl, h1, h2⟩ := h
    exact ⟨x, r ++ ws, f1, f2 ++ fq, rfl, List.append_assoc .., h1, Rfs.append h2 h'⟩
theorem Rfs.get {H : Hp} : ∀ {ds : List D} {vs : List V} {fp : List Addr} {i : Nat} {d : D}, Rfs H ds vs fp → ds[i]? = some d → ∃ v f, vs[i]? = some v ∧ Rf H d v f ∧ (∀ a ∈ f, a ∈ fp)
  | [], _, _, _, _, _, e => by simp at e
  | d :: ds, vs, fp, 0, d', h, e => by
    obtain ⟨x, r, f1, f2, rfl, rfl, h1, h2⟩ := h
    simp at e; subst e
    exact ⟨x, f1, rfl, h1, fun a ha => List.mem_append_left _ ha⟩
  | d :: ds, vs, fp, i + 1, d', h, e => by
    obtain ⟨x, r, f1, f2, rfl, rfl, h1, h2⟩ := h
    obtain ⟨v, f, e1, h3, k⟩ := Rfs.get (i := i) h2 (by simpa using e)
    exact ⟨v, f, by simpa using e1, h3, fun a ha => List.mem_append_right _ (k a ha)⟩
abbrev dI (xs : List Int) : D := .lst (xs.map D.int)
abbrev dT (t : List (List Int)) : D := .lst (t.map dI)
theorem Rfs.ints {H : Hp} : ∀ {xs : List Int} {vs : List V} {fp : List Addr}, Rfs H (xs.map D.int) vs fp ↔ vs = xs.map V.int ∧ fp = []
  | [], vs, fp => Iff.rfl
  | x :: xs, vs, fp => by
    constructor
    · rintro ⟨y, r, f1, f2, rfl, rfl, ⟨rfl, rfl⟩, h⟩
      obtain ⟨rfl, rfl⟩ := Rfs.ints.mp h
      exact ⟨rfl, rfl⟩
    · rintro ⟨rfl, rfl⟩
      exact ⟨_, _, [], [], rfl, rfl, ⟨rfl, rfl⟩, Rfs.ints.mpr ⟨rfl, rfl⟩⟩
theorem Rf.row {H : Hp} {xs : List Int} {v : V} {fp : List Addr} : Rf H (dI xs) v fp ↔ ∃ a, v = .ref a ∧ H a = some (.lst (xs.map V.int)) ∧ fp = [a] := by
  constructor
  · rintro ⟨a, ys, fq, rfl, e, rfl, h⟩
    obtain ⟨rfl, rfl⟩ := Rfs.ints.mp h
    exact ⟨a, rfl, e, rfl⟩
  · rintro ⟨a, rfl, e, rfl⟩
    exact ⟨a, _, [], rfl, e, rfl, Rfs.ints.mpr ⟨rfl, rfl⟩⟩
theorem Rp.row {H : Hp} {xs : List Int} {v : V} : Rp H (dI xs) v ↔ ∃ a, v = .ref a ∧ H a = some (.lst (xs.map V.int)) := by
  constructor
  · rintro ⟨fp, h⟩
    obtain ⟨a, h1, h2, _⟩ := Rf.row.mp h
    exact ⟨a, h1, h2⟩
  · rintro ⟨a, h1, h2⟩
    exact ⟨[a], Rf.row.mpr ⟨a, h1, h2, rfl⟩⟩
inductive Rows (H : Hp) : List (List Int) → List Addr → Prop where
  | nil : Rows H [] []
  | cons {xs : List Int} {t : List (List Int)} {a : Addr} {as : List Addr} : H a = some (.lst (xs.map V.int)) → Rows H t as → Rows H (xs :: t) (a :: as)
theorem Rows.length {H : Hp} {t : List (List Int)} {as : List Addr} (h : Rows H t as) : as.length = t.length := by
  induction h with
  | nil => rfl
  | cons _ _ ih => rw [List.length_cons, List.length_cons, ih]
theorem Rows.mono {H H' : Hp} {t : List (List Int)} {as : List Addr} (h : Rows H t as) (k : ∀ a ∈ as, ∀ o, H a = some o → H' a = some o) : Rows H' t as := by
  induction h with
  | nil => exact .nil
  | cons e _ ih => exact .cons (k _ List.mem_cons_self _ e) (ih fun a ha => k a (List.mem_cons_of_mem _ ha))
end L2
set_option Elab.async false
set_option linter.all false
set_option maxRecDepth 100000
set_option maxHeartbeats 4000000
namespace L2
open PySem PySem.Spec PyProof.Rows
section
variable {X : Cx}
theorem call_isinst : CallR X (.builtin "isinstance") (fun xs H Q => ∃ x n t b, xs = [x, .ty n] ∧ TyOf X.K H x t ∧ PySem.W.kitOne X.K t (.type n) = some b ∧ Q (.bl b) H) := by
  intro pins s σ H xs us Q I r h
  obtain ⟨x, n, t, b, rfl, ty, e, q⟩ := h
  obtain ⟨u, w', rfl, rx, rn⟩ := vals2 r
  obtain rfl : w' = Value.type n := rn
  exact isinst_ok I rx ty e fun tk => ⟨.bl b, H, I.tok _, rfl, q⟩
end
section
variable {X : Cx}
end
mutual
def D.plain : D → Bool
  | .non => true | .bl _ => false | .int _ => true | .str _ => true
  | .lst ds => D.plains ds | .tup ds => D.plains ds
def D.plains : List D → Bool
  | [] => true
  | d :: ds => D.plain d && D.plains ds
end
mutual
def D.depth : D → Nat
  | .lst ds => D.depths ds + 1 | .tup ds => D.depths ds + 1
  | _ => 0
def D.depths : List D → Nat
  | [] => 0
  | d :: ds => max (D.depth d) (D.depths ds)
end
mutual
def D.eqb : D → D → Bool
  | .non, .non => true
  | .int i, .int j => i == j
  | .str i, .str j => i == j
  | .lst a, .lst b => D.eqbs a b
  | .tup a, .tup b => D.eqbs a b
  | _, _ => false
def D.eqbs : List D → List D → Bool
  | [], [] => true
  | a :: as, b :: bs => D.eqb a b && D.eqbs as bs
  | _, _ => false
end
theorem D.eqbs_iff : ∀ {a b : List D}, D.eqbs a b = (decide (a.length = b.length) && (List.range a.length).all fun i => match a[i]?, b[i]? with | some x, some y => D.eqb x y | _, _ => false)
  | [], [] => rfl
  | [], b :: bs => by simp [D.eqbs]
  | a :: as, [] => by simp [D.eqbs]
  | a :: as, b :: bs => by
    rw [D.eqbs, D.eqbs_iff (a := as) (b := bs), List.length_cons, List.range_succ_eq_map, List.all_cons, List.all_map]
    by_cases h : as.length = bs.length
    · simp [h, Function.comp_def]
    · simp [h]
end L2
set_option Elab.async false
set_option linter.all false
set_option maxRecDepth 100000
set_option maxHeartbeats 4000000
namespace L2
open PySem PySem.Spec PyProof.Rows
open PySem.SeqAt
theorem D.plains_get : ∀ {ds : List D} {i : Nat} {d : D}, D.plains ds = true → ds[i]? = some d → d.plain = true
  | [], i, d, _, e => by simp at e
  | c :: ds, 0, d, h, e => by
    simp at e; subst e
    rw [D.plains, Bool.and_eq_true] at h
    exact h.1
  | c :: ds, i + 1, d, h, e => by
    rw [D.plains, Bool.and_eq_true] at h
    exact D.plains_get (i := i) h.2 (by simpa using e)
theorem D.depths_get : ∀ {ds : List D} {i : Nat} {d : D}, ds[i]? = some d → d.depth ≤ D.depths ds
  | [], i, d, e => by simp at e
  | c :: ds, 0, d, e => by
    simp at e; subst e
    rw [D.depths]
    exact Nat.le_max_left _ _
  | c :: ds, i + 1, d, e => by
    rw [D.depths]
    exact Nat.le_trans (D.depths_get (i := i) (by simpa using e)) (Nat.le_max_right _ _)
theorem D.eqbs_all {a b : List D} (hl : a.length = b.length) (f : Nat → Bool) (h : ∀ i x y, a[i]? = some x → b[i]? = some y → f i = D.eqb x y) : D.eqbs a b = (List.range a.length).all f := by
  rw [D.eqbs_iff, decide_eq_true hl, Bool.true_and, Bool.eq_iff_iff]
  simp only [List.all_eq_true, List.mem_range]
  constructor
  · intro q i hi
    have := q i hi
    rw [List.getElem?_eq_getElem hi, List.getElem?_eq_getElem (show i < b.length by omega)] at this
    rw [h i _ _ (List.getElem?_eq_getElem hi) (List.getElem?_eq_getElem (show i < b.length by omega))]
    exact this
  · intro q i hi
    have := q i hi
    rw [h i _ _ (List.getElem?_eq_getElem hi) (List.getElem?_eq_getElem (show i < b.length by omega))] at this
    rw [List.getElem?_eq_getElem hi, List.getElem?_eq_getElem (show i < b.length by omega)]
    exact this
theorem D.eqbs_len {a b : List D} (hl : a.length ≠ b.length) : D.eqbs a b = false := by
  rw [D.eqbs_iff, decide_eq_false hl, Bool.false_and]
theorem eqb_one {H : Hp} : ∀ (n : Nat) (d e : D) (v : V), d.depth ≤ n → Rp H d v → Rp H e v → d.plain = true → D.eqb d e = true := by
  intro n
  induction n with
  | zero =>
    intro d e v hn hd he hp
    obtain ⟨f, hd⟩ := hd
    obtain ⟨g, he⟩ := he
    cases d with
    | non => obtain ⟨rfl, _⟩ := hd; cases e with
      | non => rfl
      | lst ds => obtain ⟨_, _, _, z, _⟩ := he; cases z
      | tup ds => obtain ⟨_, _, z, _⟩ := he; cases z
      | _ => obtain ⟨z, _⟩ := he; cases z
    | bl b => cases hp
    | int i => obtain ⟨rfl, _⟩ := hd; cases e with
      | int j => obtain ⟨z, _⟩ := he; cases z; simp [D.eqb]
      | lst ds => obtain ⟨_, _, _, z, _⟩ := he; cases z
      | tup ds => obtain ⟨_, _, z, _⟩ := he; cases z
      | _ => obtain ⟨z, _⟩ := he; cases z
    | str i => obtain ⟨rfl, _⟩ := hd; cases e with
      | str j => obtain ⟨z, _⟩ := he; cases z; simp [D.eqb]
      | lst ds => obtain ⟨_, _, _, z, _⟩ := he; cases z
      | tup ds => obtain ⟨_, _, z, _⟩ := he; cases z
      | _ => obtain ⟨z, _⟩ := he; cases z
    | lst ds => rw [D.depth] at hn; omega
    | tup ds => rw [D.depth] at hn; omega
  | succ n ih =>
    intro d e v hn hd he hp
    have go : ∀ (ds es : List D) (xs : List V) (f g : List Addr), D.depths ds ≤ n → Rfs H ds xs f → Rfs H es xs g → D.plains ds = true → D.eqbs ds es = true := by
      intro ds es xs f g hn h1 h2 hp
      have l1 := h1.length
      have l2 := h2.length
      rw [D.eqbs_all (by omega) (fun _ => true) (fun i x y e1 e2 => ?_)]
      · simp
      · obtain ⟨v1, f1, q1, r1, _⟩ := h1.get e1
        obtain ⟨v2, f2, q2, r2, _⟩ := h2.get e2
        rw [q1] at q2; cases q2
        exact (ih x y v1 (Nat.le_trans (D.depths_get e1) hn) ⟨_, r1⟩ ⟨_, r2⟩ (D.plains_get hp e1)).symm
    obtain ⟨f, hd⟩ := hd
    obtain ⟨g, he⟩ := he
    cases d with
    | non => obtain ⟨rfl, _⟩ := hd; cases e with
      | non => rfl
      | lst ds => obtain ⟨_, _, _, z, _⟩ := he; cases z
      | tup ds => obtain ⟨_, _, z, _⟩ := he; cases z
      | _ => obtain ⟨z, _⟩ := he; cases z
    | bl b => cases hp
    | int i => obtain ⟨rfl, _⟩ := hd; cases e with
      | int j => obtain ⟨z, _⟩ := he; cases z; simp [D.eqb]
      | lst ds => obtain ⟨_, _, _, z, _⟩ := he; cases z
      | tup ds => obtain ⟨_, _, z, _⟩ := he; cases z
      | _ => obtain ⟨z, _⟩ := he; cases z
    | str i => obtain ⟨rfl, _⟩ := hd; cases e with
      | str j => obtain ⟨z, _⟩ := he; cases z; simp [D.eqb]
      | lst ds => obtain ⟨_, _, _, z, _⟩ := he; cases z
      | tup ds => obtain ⟨_, _, z, _⟩ := he; cases z
      | _ => obtain ⟨z, _⟩ := he; cases z
    | lst ds =>
      obtain ⟨a, xs, fq, rfl, e1, rfl, hd⟩ := hd
      cases e with
      | lst es =>
        obtain ⟨b, ys, gq, z, e2, rfl, he⟩ := he
        cases z
        rw [e1] at e2; cases e2
        rw [D.eqb]
        exact go ds es xs fq gq (by rw [D.depth] at hn; omega) hd he hp
      | tup es =>
        obtain ⟨b, ys, z, e2, he⟩ := he
        cases z
        rw [e1] at e2; cases e2
      | _ => obtain ⟨z, _⟩ := he; cases z
    | tup ds =>
      obtain ⟨a, xs, rfl, e1, hd⟩ := hd
      cases e with
      | tup es =>
        obtain ⟨b, ys, z, e2, he⟩ := he
        cases z
        rw [e1] at e2; cases e2
        rw [D.eqb]
        exact go ds es xs f g (by rw [D.depth] at hn; omega) hd he hp
      | lst es =>
        obtain ⟨b, ys, gq, z, e2, rfl, he⟩ := he
        cases z
        rw [e1] at e2; cases e2
      | _ => obtain ⟨z, _⟩ := he; cases z
theorem eqAt_D {X : Cx} {pins : List (Addr × Obj)} {σ : St} {H : Hp} {s : Shared} (I : Inv X pins σ H s) : ∀ (n : Nat) (d e : D) (x y : V) (u w : Value) (A : Around), d.depth ≤ n → Rp H d x → Rp H e y → RelV x u → RelV y w → d.plain = true → e.plain = true → A.units + n < cLine →
    EqAt A s u w (D.eqb d e) := by
  intro n
  induction n with
  | zero =>
    intro d e x y u w A hn hd he rx ry pd pe hu
    obtain ⟨f, hd⟩ := hd
    obtain ⟨g, he⟩ := he
    have hu' : A.units < cLine := by omega
    cases d with
    | non =>
      obtain ⟨rfl, _⟩ := hd; obtain rfl : u = .none := rx
      cases e with
      | non => obtain ⟨rfl, _⟩ := he; obtain rfl : w = .none := ry; exact EqAt.same _
      | bl b => cases pe
      | int j => obtain ⟨rfl, _⟩ := he; obtain ⟨t, rfl⟩ := ry; exact EqAt.none_int _ _
      | str j => obtain ⟨rfl, _⟩ := he; obtain ⟨t, rfl⟩ := ry; exact EqAt.none_str _ _
      | lst es => obtain ⟨b, ys, gq, rfl, e2, _, he⟩ := he; obtain rfl : w = .ref b := ry; obtain ⟨_, _, pl, _⟩ := I.list (SqL.of e2); exact EqAt.none_list pl.isList hu'
      | tup es => obtain ⟨b, ys, rfl, e2, he⟩ := he; obtain rfl : w = .ref b := ry; obtain ⟨_, _, pl, _⟩ := I.tuple (SqT.of e2); exact EqAt.none_tuple pl hu'
    | bl b => cases pd
    | int i =>
      obtain ⟨rfl, _⟩ := hd; obtain ⟨t0, rfl⟩ := rx
      cases e with
      | non => obtain ⟨rfl, _⟩ := he; obtain rfl : w = .none := ry; exact EqAt.int_none _ _
      | bl b => cases pe
      | int j => obtain ⟨rfl, _⟩ := he; obtain ⟨t, rfl⟩ := ry; exact EqAt.int_int _ _ _ _
      | str j => obtain ⟨rfl, _⟩ := he; obtain ⟨t, rfl⟩ := ry; exact EqAt.int_str _ _ _ _
      | lst es => obtain ⟨b, ys, gq, rfl, e2, _, he⟩ := he; obtain rfl : w = .ref b := ry; obtain ⟨_, _, pl, _⟩ := I.list (SqL.of e2); exact EqAt.int_list _ _ pl.isList hu'
      | tup es => obtain ⟨b, ys, rfl, e2, he⟩ := he; obtain rfl : w = .ref b := ry; obtain ⟨_, _, pl, _⟩ := I.tuple (SqT.of e2); exact EqAt.int_tuple _ _ pl hu'
    | str i =>
      obtain ⟨rfl, _⟩ := hd; obtain ⟨t0, rfl⟩ := rx
      cases e with
      | non => obtain ⟨rfl, _⟩ := he; obtain rfl : w = .none := ry; exact EqAt.str_none _ _
      | bl b => cases pe
      | int j => obtain ⟨rfl, _⟩ := he; obtain ⟨t, rfl⟩ := ry; exact EqAt.str_int _ _ _ _
      | str j => obtain ⟨rfl, _⟩ := he; obtain ⟨t, rfl⟩ := ry; exact EqAt.str_str _ _ _ _
      | lst es => obtain ⟨b, ys, gq, rfl, e2, _, he⟩ := he; obtain rfl : w = .ref b := ry; obtain ⟨_, _, pl, _⟩ := I.list (SqL.of e2); exact EqAt.str_list _ _ pl.isList hu'
      | tup es => obtain ⟨b, ys, rfl, e2, he⟩ := he; obtain rfl : w = .ref b := ry; obtain ⟨_, _, pl, _⟩ := I.tuple (SqT.of e2); exact EqAt.str_tuple _ _ pl hu'
    | lst ds => rw [D.depth] at hn; omega
    | tup ds => rw [D.depth] at hn; omega
  | succ n ih =>
    intro d e x y u w A hn hd he rx ry pd pe hu
    have hu' : A.units < cLine := by omega
    have ud : A.in1.units + n < cLine := by show A.units + 1 + n < cLine; omega
    cases d with
    | non => exact ih _ _ x y u w A (by simp [D.depth]) hd he rx ry pd pe (by omega)
    | bl b => cases pd
    | int i => exact ih _ _ x y u w A (by simp [D.depth]) hd he rx ry pd pe (by omega)
    | str i => exact ih _ _ x y u w A (by simp [D.depth]) hd he rx ry pd pe (by omega)
    | lst ds =>
      have hd0 := hd
      have he0 := he
      obtain ⟨f, a, xs, fq, rfl, e1, rfl, hd⟩ := hd
      obtain rfl : u = .ref a := rx
      obtain ⟨its, rv, pl, hz⟩ := I.list (SqL.of e1)
      obtain ⟨g, he⟩ := he
      cases e with
      | non => obtain ⟨rfl, _⟩ := he; obtain rfl : w = .none := ry; exact EqAt.list_none pl.isList hu'
      | bl b => cases pe
      | int j => obtain ⟨rfl, _⟩ := he; obtain ⟨t, rfl⟩ := ry; exact EqAt.list_int _ _ pl.isList hu'
      | str j => obtain ⟨rfl, _⟩ := he; obtain ⟨t, rfl⟩ := ry; exact EqAt.list_str _ _ pl.isList hu'
      | tup es => obtain ⟨b, ys, rfl, e2, he⟩ := he; obtain rfl : w = .ref b := ry; obtain ⟨_, _, pl2, _⟩ := I.tuple (SqT.of e2); exact EqAt.list_tuple pl.isList pl2 hu'
      | lst es =>
        obtain ⟨b, ys, gq, rfl, e2, rfl, he⟩ := he
        obtain rfl : w = .ref b := ry
        by_cases hab : a = b
        · subst hab
          rw [eqb_one _ _ _ _ (Nat.le_refl _) hd0 he0 pd]
          exact EqAt.same _
        · obtain ⟨its2, rv2, pl2, hz2⟩ := I.list (SqL.of e2)
          refine EqAt.of_refs hab ?_
          have l1 := rv.length
          have l2 := rv2.length
          have m1 := hd.length
          have m2 := he.length
          by_cases hl : ds.length = es.length
          · have key := RcAt.lists (A := A) (e := fun i => match ds[i]?, es[i]? with | some x, some y => D.eqb x y | _, _ => false) pl.isList pl2.isList (by simp; omega) hu' (fun j h1 h2 => by
              have j1 : j < ds.length := by simp at h1; omega
              have j2 : j < es.length := by omega
              simp only [List.getElem?_eq_getElem j1, List.getElem?_eq_getElem j2]
              obtain ⟨v1, f1, q1, r1, _⟩ := hd.get (List.getElem?_eq_getElem j1)
              obtain ⟨v2, f2, q2, r2, _⟩ := he.get (List.getElem?_eq_getElem j2)
              obtain ⟨u1, p1, t1⟩ := rv.get q1
              obtain ⟨u2, p2, t2⟩ := rv2.get q2
              have i1 : its.toArray[j] = u1 := by
                have := List.getElem?_eq_some_iff.mp p1
                obtain ⟨_, z⟩ := this
                simpa using z
              have i2 : its2.toArray[j] = u2 := by
                have := List.getElem?_eq_some_iff.mp p2
                obtain ⟨_, z⟩ := this
                simpa using z
              rw [i1, i2]
              exact ih _ _ v1 v2 u1 u2 A.in1 (by have := D.depths_get (List.getElem?_eq_getElem j1); rw [D.depth] at hn; omega) ⟨_, r1⟩ ⟨_, r2⟩ t1 t2 (D.plains_get pd (List.getElem?_eq_getElem j1)) (D.plains_get pe (List.getElem?_eq_getElem j2)) ud)
            have e3 : D.eqb (.lst ds) (.lst es) = (List.range its.toArray.size).all fun i => match ds[i]?, es[i]? with | some x, some y => D.eqb x y | _, _ => false := by
              rw [D.eqb, D.eqbs_iff, decide_eq_true hl, Bool.true_and]
              rw [show its.toArray.size = ds.length by simp; omega]
              all_goals rfl
            rw [e3]
            exact key
          · rw [D.eqb, D.eqbs_len hl]
            exact RcAt.lists_lengths pl.isList pl2.isList (by simp; omega) hu'
    | tup ds =>
      have hd0 := hd
      have he0 := he
      obtain ⟨f, a, xs, rfl, e1, hd⟩ := hd
      obtain rfl : u = .ref a := rx
      obtain ⟨its, rv, pl, hz⟩ := I.tuple (SqT.of e1)
      obtain ⟨g, he⟩ := he
      cases e with
      | non => obtain ⟨rfl, _⟩ := he; obtain rfl : w = .none := ry; exact EqAt.tuple_none pl hu'
      | bl b => cases pe
      | int j => obtain ⟨rfl, _⟩ := he; obtain ⟨t, rfl⟩ := ry; exact EqAt.tuple_int _ _ pl hu'
      | str j => obtain ⟨rfl, _⟩ := he; obtain ⟨t, rfl⟩ := ry; exact EqAt.tuple_str _ _ pl hu'
      | lst es => obtain ⟨b, ys, gq, rfl, e2, _, he⟩ := he; obtain rfl : w = .ref b := ry; obtain ⟨_, _, pl2, _⟩ := I.list (SqL.of e2); exact EqAt.tuple_list pl pl2.isList hu'
      | tup es =>
        obtain ⟨b, ys, rfl, e2, he⟩ := he
        obtain rfl : w = .ref b := ry
        by_cases hab : a = b
        · subst hab
          rw [eqb_one _ _ _ _ (Nat.le_refl _) hd0 he0 pd]
          exact EqAt.same _
        · obtain ⟨its2, rv2, pl2, hz2⟩ := I.tuple (SqT.of e2)
          refine EqAt.of_refs hab ?_
          have l1 := rv.length
          have l2 := rv2.length
          have m1 := hd.length
          have m2 := he.length
          have key := RcAt.tuples (A := A) (e := fun i => match ds[i]?, es[i]? with | some x, some y => D.eqb x y | _, _ => false) pl pl2 hu' (fun j h1 h2 => by
              have j1 : j < ds.length := by simp at h1; omega
              have j2 : j < es.length := by simp at h2; omega
              simp only [List.getElem?_eq_getElem j1, List.getElem?_eq_getElem j2]
              obtain ⟨v1, f1, q1, r1, _⟩ := hd.get (List.getElem?_eq_getElem j1)
              obtain ⟨v2, f2, q2, r2, _⟩ := he.get (List.getElem?_eq_getElem j2)
              obtain ⟨u1, p1, t1⟩ := rv.get q1
              obtain ⟨u2, p2, t2⟩ := rv2.get q2
              have i1 : its.toArray[j] = u1 := by
                have := List.getElem?_eq_some_iff.mp p1
                obtain ⟨_, z⟩ := this
                simpa using z
              have i2 : its2.toArray[j] = u2 := by
                have := List.getElem?_eq_some_iff.mp p2
                obtain ⟨_, z⟩ := this
                simpa using z
              rw [i1, i2]
              exact ih _ _ v1 v2 u1 u2 A.in1 (by have := D.depths_get (List.getElem?_eq_getElem j1); rw [D.depth] at hn; omega) ⟨_, r1⟩ ⟨_, r2⟩ t1 t2 (D.plains_get pd (List.getElem?_eq_getElem j1)) (D.plains_get pe (List.getElem?_eq_getElem j2)) ud)
          have e3 : D.eqb (.tup ds) (.tup es) = ((List.range (min its.toArray.size its2.toArray.size)).all (fun i => match ds[i]?, es[i]? with | some x, some y => D.eqb x y | _, _ => false) && its.toArray.size == its2.toArray.size) := by
            rw [D.eqb]
            have z1 : its.toArray.size = ds.length := by simp; omega
            have z2 : its2.toArray.size = es.length := by simp; omega
            rw [z1, z2]
            by_cases hl : ds.length = es.length
            · rw [D.eqbs_iff, decide_eq_true hl, Bool.true_and, hl, Nat.min_self, beq_self_eq_true, Bool.and_true]
              all_goals rfl
            · rw [D.eqbs_len hl]
              have : (ds.length == es.length) = false := beq_eq_false_iff_ne.mpr hl
              rw [this, Bool.and_false]
          rw [e3]
          exact key
def eqAtI (ds es : List D) (i : Nat) : Bool := match ds[i]?, es[i]? with | some x, some y => D.eqb x y | _, _ => false
theorem items_eq {X : Cx} {pins : List (Addr × Obj)} {σ : St} {H : Hp} {s : Shared} (I : Inv X pins σ H s) {A : Around} {ds es : List D} {xs ys : List V} {f g : List Addr} {its its2 : List Value} (hd : Rfs H ds xs f) (he : Rfs H es ys g) (rv : Vals xs its) (rv2 : Vals ys its2)
    (pd : D.plains ds = true) (pe : D.plains es = true) (hu : A.units + 1 + D.depths ds < cLine) : ∀ j (h1 : j < its.toArray.size) (h2 : j < its2.toArray.size), EqAt A.in1 s its.toArray[j] its2.toArray[j] (eqAtI ds es j) := by
  intro j h1 h2
  have l1 := rv.length
  have l2 := rv2.length
  have m1 := hd.length
  have m2 := he.length
  have j1 : j < ds.length := by simp at h1; omega
  have j2 : j < es.length := by simp at h2; omega
  unfold eqAtI
  simp only [List.getElem?_eq_getElem j1, List.getElem?_eq_getElem j2]
  obtain ⟨v1, f1, q1, r1, _⟩ := hd.get (List.getElem?_eq_getElem j1)
  obtain ⟨v2, f2, q2, r2, _⟩ := he.get (List.getElem?_eq_getElem j2)
  obtain ⟨u1, p1, t1⟩ := rv.get q1
  obtain ⟨u2, p2, t2⟩ := rv2.get q2
  have i1 : its.toArray[j] = u1 := by
    obtain ⟨_, z⟩ := List.getElem?_eq_some_iff.mp p1
    simpa using z
  have i2 : its2.toArray[j] = u2 := by
    obtain ⟨_, z⟩ := List.getElem?_eq_some_iff.mp p2
    simpa using z
  rw [i1, i2]
  exact eqAt_D I _ _ _ v1 v2 u1 u2 A.in1 (D.depths_get (List.getElem?_eq_getElem j1)) ⟨_, r1⟩ ⟨_, r2⟩ t1 t2 (D.plains_get pd (List.getElem?_eq_getElem j1)) (D.plains_get pe (List.getElem?_eq_getElem j2)) hu
theorem eqbs_range {ds es : List D} (hl : ds.length = es.length) : D.eqbs ds es = (List.range ds.length).all (eqAtI ds es) := by
  rw [D.eqbs_iff, decide_eq_true hl, Bool.true_and]
  rfl
section
variable {X : Cx}
end
theorem D.plains_ints : ∀ (xs : List Int), D.plains (xs.map D.int) = true
  | [] => rfl
  | x :: xs => by rw [List.map_cons, D.plains, D.plains_ints xs]; rfl
theorem D.plains_rows : ∀ (t : List (List Int)), D.plains (t.map dI) = true
  | [] => rfl
  | x :: xs => by rw [List.map_cons, D.plains, D.plains_rows xs, D.plain, D.plains_ints]; rfl
theorem D.depths_ints : ∀ (xs : List Int), D.depths (xs.map D.int) = 0
  | [] => rfl
  | x :: xs => by rw [List.map_cons, D.depths, D.depths_ints xs]; rfl
theorem D.depths_rows : ∀ (t : List (List Int)), D.depths (t.map dI) ≤ 1
  | [] => by rw [List.map_nil, D.depths]; omega
  | x :: xs => by
    have := D.depths_rows xs
    rw [List.map_cons, D.depths, D.depth, D.depths_ints]
    exact Nat.max_le.mpr ⟨Nat.le_refl _, this⟩
theorem D.eqbs_ints : ∀ (xs ys : List Int), D.eqbs (xs.map D.int) (ys.map D.int) = decide (xs = ys)
  | [], [] => rfl
  | [], y :: ys => rfl
  | x :: xs, [] => rfl
  | x :: xs, y :: ys => by
    rw [List.map_cons, List.map_cons, D.eqbs, D.eqbs_ints xs ys, D.eqb]
    by_cases h : x = y
    · subst h; simp
    · have : (x == y) = false := beq_eq_false_iff_ne.mpr h
      simp [this, h]
theorem D.eqbs_rows : ∀ (xs ys : List (List Int)), D.eqbs (xs.map dI) (ys.map dI) = decide (xs = ys)
  | [], [] => rfl
  | [], y :: ys => rfl
  | x :: xs, [] => rfl
  | x :: xs, y :: ys => by
    rw [List.map_cons, List.map_cons, D.eqbs, D.eqbs_rows xs ys, D.eqb, D.eqbs_ints]
    by_cases h : x = y
    · subst h; simp
    · simp [h]
def CMulB (i j : Int) : Prop := ∃ m n : Nat, i.natAbs < 2 ^ m ∧ j.natAbs < 2 ^ n ∧ m + n ≤ 100000000
def CDivB (i j : Int) : Prop := 0 < j ∧ ∃ m : Nat, j.natAbs < 2 ^ m ∧ m ≤ 9000
section
variable {X : Cx}
theorem op_mulB : OpR X (binaryOp .Mult) (rI CMulB fun i j => .int (i * j)) := opI fun i j _ _ _ _ _ hc q => by
  obtain ⟨m, n, h1, h2, h3⟩ := hc
  exact mul_int q (mulOk_of_bits (intBits_le h1) (intBits_le h2) (by omega))
theorem op_fdivB : OpR X (binaryOp .FloorDiv) (rI CDivB fun i j => .int (i / j)) := opI fun i j _ _ _ _ _ hc q => by
  obtain ⟨h0, m, h1, h2⟩ := hc
  have hj : j.natAbs ≠ 0 := by omega
  refine floordiv_int (by omega) ?_ (.inl (PyProof.noPylong_of_log2 (Nat.lt_of_lt_of_le ((Nat.log2_lt hj).mpr h1) h2)))
  rw [Int.fdiv_eq_ediv_of_nonneg i (by omega)]
  exact q
end
def relabelS (scope sc0 : Scope) : Scope := { scope with names := scope.names.map fun (n, k) => if (k == .free && sc0.kind == .function && sc0.names.lookup n == some .cell) then (n, .cell) else (n, k) }
def nodupB : List Str → Bool
  | [] => true
  | x :: xs => !xs.contains x && nodupB xs
theorem nodupB_iff : ∀ {l : List Str}, nodupB l = true → l.Nodup
  | [], _ => List.nodup_nil
  | x :: xs, h => by
    rw [nodupB, Bool.and_eq_true, Bool.not_eq_true'] at h
    refine List.nodup_cons.mpr ⟨fun z => ?_, nodupB_iff h.2⟩
    have := List.contains_iff_mem.mpr z
    rw [this] at h
    exact absurd h.1 (by decide)
def compOk (sc0 scope : Scope) (tn cap : List Str) : Bool :=
  decide (scope.kind = .function) && nodupB (scope.names.map (·.1)) && nodupB (tn ++ cap) && cap.all (fun y => decide (scope.names.lookup y = some .free)) &&
    scope.names.all fun y => !decide (y.2 = .free) || (decide (sc0.names.lookup y.1 = some .cell) || decide (sc0.names.lookup y.1 = some .free))
theorem CompScope.of {X : Cx} {sc0 scope : Scope} {tn cap : List Str} {idx : List Nat} (h : compOk sc0 scope tn cap = true) (e : X.env.scope = sc0) (ci : idx.map (fun i => X.N[i]?) = cap.map some) : CompScope X scope tn cap idx := by
  unfold compOk at h
  simp only [Bool.and_eq_true, decide_eq_true_eq, List.all_eq_true, Bool.or_eq_true, Bool.not_eq_true', decide_eq_false_iff_not] at h
  obtain ⟨⟨⟨⟨h1, h2⟩, h3⟩, h4⟩, h5⟩ := h
  refine ⟨h1, nodupB_iff h2, nodupB_iff h3, h4, ci, fun y hy hf => ?_⟩
  rw [e]
  rcases h5 y hy with z | z
  · exact absurd hf z
  · exact z
structure FnAt (K : PySem.W.Frag) (mg : Str → Option Value) (x : Str) (st : Stmt) (ps : List Str) (f : Addr) (fd : FuncData) : Prop where
  fn : Fun K x x st f fd
  mg : mg x = some (.ref f)
  bd : Binds K fd ps []
theorem Same.new {H : Hp} {p : Addr} {o : HO} (h : H p = none) : Same H (upd H p o) := fun b u e => by rw [upd_ne (ne_of_none e h)]; exact e
end L2
set_option Elab.async false
set_option linter.all false
set_option maxRecDepth 100000
set_option maxHeartbeats 4000000
namespace L2
open PySem PySem.Spec PyProof.Rows
theorem small {n : Nat} (h : n ≤ 100000) : n ≤ sizeLine := Nat.le_trans h (by rw [sizeLine_eq]; decide)
section
variable {X : Cx} {K : PySem.W.Frag}
theorem ix_listK (h : X.K = K) : IxR X (rIxL K) := by subst h; exact ix_list
theorem ix_tupK (h : X.K = K) : IxR X (rIxT K) := by subst h; exact ix_tup
theorem pi_listK {tg l : Expr} {tl : TE} (h : X.K = K) (hl : PE X l tl) : PI X tg l (iList K tl) := by subst h; exact pi_list hl
theorem call_lenK (h : X.K = K) : CallR X (.builtin "len") (fun xs H Q => ∃ p ys, xs = [.ref p] ∧ (SqL K H p ys ∨ SqT K H p ys) ∧ Q (.int ys.length) H) := by subst h; exact call_len_seq
theorem call_isinstK (h : X.K = K) : CallR X (.builtin "isinstance") (fun xs H Q => ∃ x n t b, xs = [x, .ty n] ∧ TyOf K H x t ∧ PySem.W.kitOne K t (.type n) = some b ∧ Q (.bl b) H) := by subst h; exact call_isinst
theorem sl_listK (h : X.K = K) : SlR X (rSlL K) := by subst h; exact sl_list
theorem pg_tupK {es : List Expr} {k : Nat} {t : TGs} {n : Nat} {pos : Pos} (h : X.K = K) (hc : X.calm = true) (ht : PGs X es t)
    (hn : (assignEach es X.env).length = n := by rfl) (hst : (assignEach es X.env).findIdx? (·.1) = none := by rfl) : PG X (.Tuple es k pos) (gTup K n t) := by subst h; exact pg_tup hc ht hn hst
end
structure SameX (H H' : Hp) (bs : List Addr) : Prop where
  keep : ∀ b o, H b = some o → b ∉ bs → H' b = some o
  there : ∀ b ∈ bs, ∃ xs, H' b = some (.lst xs)
theorem SameX.clear {H H' : Hp} {bs : List Addr} {c : Addr} {xs : List V} (s : SameX H H' bs) (hc : c ∈ bs) : SameX H (L2.upd H' c (.lst xs)) bs :=
  ⟨fun b o e hb => by rw [upd_ne (fun z => hb (by rw [z]; exact hc))]; exact s.keep b o e hb, fun b hb => by
    by_cases z : b = c
    · subst z; exact ⟨_, upd_same⟩
    · rw [upd_ne z]; exact s.there b hb⟩
theorem Rows.take {H : Hp} {t : List (List Int)} {as : List Addr} (h : Rows H t as) : ∀ n : Nat, Rows H (t.take n) (as.take n) := by
  induction h with
  | nil => intro n; rw [List.take_nil, List.take_nil]; exact .nil
  | cons e _ ih =>
    intro n
    cases n with
    | zero => exact .nil
    | succ n => exact .cons e (ih n)
theorem kit_same {K : PySem.W.Frag} {n : String} : PySem.W.kitOne K (.type n) (.type n) = some true := by unfold PySem.W.kitOne; rw [if_pos (beq_self_eq_true _)]
end L2
set_option Elab.async false
set_option linter.all false
set_option maxRecDepth 100000
set_option maxHeartbeats 4000000
namespace L2
open PySem PySem.Spec PyProof.Rows
section
variable {X : Cx} {x : Str} {p pos : Pos} {e : Expr} {es : List Expr} {kws : List Keyword} {t tk : TA} {id : String} {ks : List Str} {r : List V → List V → Hp → VK → Prop}
end
section
variable {X : Cx} {K : PySem.W.Frag}
end
section
variable {prog : Program} {w : World} {A : Around} {E : Value → Shared → Prop} {s : Shared}
end
section
variable {X : Cx} {K : PySem.W.Frag} {e : Expr} {te : TE} {p p2 pos pos2 : Pos}
end
end L2
namespace L2
open PySem PySem.Spec PyProof.Rows
def fall (ns : List Int) : List Int := ns.mergeSort fun a b => decide (b ≤ a)
theorem fall_perm (ns : List Int) : (fall ns).Perm ns := List.mergeSort_perm ns _
theorem fall_desc (ns : List Int) : (fall ns).Pairwise (· ≥ ·) := by
  have h := List.pairwise_mergeSort (le := fun a b : Int => decide (b ≤ a)) (fun a b c h1 h2 => by simp only [decide_eq_true_eq] at *; omega) (fun a b => by simp only [Bool.or_eq_true, decide_eq_true_eq]; omega) ns
  exact h.imp fun h => by simpa using h
theorem fall_length (ns : List Int) : (fall ns).length = ns.length := (fall_perm ns).length_eq
end L2
set_option Elab.async false
set_option linter.all false
set_option maxRecDepth 100000
set_option maxHeartbeats 4000000
namespace L3
open PySem L2
inductive D where
  | non | bl (b : Bool) | int (i : Int) | str (x : Str) | lst (ds : List D) | tup (ds : List D) | dic (kvs : List (Key × V)) | dit (kvs : List (List Key × V)) | scr (ns : List Int) | pin (a : Addr) (d : D) | ins (C : Addr) (ns : List Str) (ds : List D)
def Kc (K : PySem.W.Frag) (a : Addr) (xs : List V) : Prop :=
  ∃ (o : Obj) (its : Array Value) (n : Nat), K.lookup a = some o ∧ o.cls = .type "list" ∧ o.dict = none ∧ o.data = .seq its n ∧ its.size ≤ sizeLine ∧ Vals xs its.toList
def Sc (K : PySem.W.Frag) (H : Hp) (a : Addr) (xs : List V) : Prop := (∃ o, H a = some (.frz o (.lst xs))) ∨ Kc K a xs
theorem Sc.seq {K : PySem.W.Frag} {H : Hp} {a : Addr} {xs : List V} (h : Sc K H a xs) : SqL K H a xs := h.elim (fun ⟨o, h⟩ => .inl (.inr ⟨o, h⟩)) .inr
def Im (o : HO) : Prop := (∃ xs, o = .tup xs) ∨ ∃ o' u, o = .frz o' u
section
variable {K : PySem.W.Frag}
mutual
def Rf (K : PySem.W.Frag) (H : Hp) : D → V → List Addr → Prop
  | .non, v, fp => v = .non ∧ fp = []
  | .bl b, v, fp => v = .bl b ∧ fp = []
  | .int i, v, fp => v = .int i ∧ fp = []
  | .str x, v, fp => v = .str x ∧ fp = []
  | .lst ds, v, fp => ∃ a xs fq, v = .ref a ∧ H a = some (.lst xs) ∧ fp = a :: fq ∧ Rfs K H ds xs fq
  | .tup ds, v, fp => ∃ a xs, v = .ref a ∧ H a = some (.tup xs) ∧ Rfs K H ds xs fp
  | .dic kvs, v, fp => ∃ a, v = .ref a ∧ H a = some (.dK kvs) ∧ (∀ p ∈ kvs, flatV p.2 = true) ∧ fp = [a]
  | .dit kvs, v, fp => ∃ a, v = .ref a ∧ H a = some (.dT kvs) ∧ (∀ p ∈ kvs, flatV p.2 = true) ∧ fp = [a]
  | .scr ns, v, fp => ∃ a, v = .ref a ∧ Sc K H a (ns.map V.int) ∧ fp = []
  | .pin a d, v, fp => v = .ref a ∧ Rf K H d v fp
  | .ins C ns ds, v, fp => ∃ a dx xs fq, v = .ref a ∧ H a = some (.ins C dx (ns.zip xs)) ∧ fp = a :: fq ∧ Rfs K H ds xs fq
def Rfs (K : PySem.W.Frag) (H : Hp) : List D → List V → List Addr → Prop
  | [], xs, fp => xs = [] ∧ fp = []
  | d :: ds, xs, fp => ∃ x r f1 f2, xs = x :: r ∧ fp = f1 ++ f2 ∧ Rf K H d x f1 ∧ Rfs K H ds r f2
end
def Rp (K : PySem.W.Frag) (H : Hp) (d : D) (v : V) : Prop := ∃ fp, Rf K H d v fp
def Rps (K : PySem.W.Frag) (H : Hp) (ds : List D) (vs : List V) : Prop := ∃ fp, Rfs K H ds vs fp
mutual
theorem Rf.mono {H H' : Hp} : ∀ {d : D} {v : V} {fp : List Addr}, Rf K H d v fp → (∀ a ∈ fp, ∀ o, H a = some o → H' a = some o) → (∀ a o, H a = some o → Im o → H' a = some o) → Rf K H' d v fp
  | .non, _, _, h, _, _ => h
  | .bl _, _, _, h, _, _ => h
  | .int _, _, _, h, _, _ => h
  | .str _, _, _, h, _, _ => h
  | .lst ds, v, fp, h, k, t => by
    obtain ⟨a, xs, fq, e1, e2, e3, h⟩ := h
    subst e3
    exact ⟨a, xs, fq, e1, k a List.mem_cons_self _ e2, rfl, Rfs.mono h (fun b hb => k b (List.mem_cons_of_mem _ hb)) t⟩
  | .tup ds, v, fp, h, k, t => by
    obtain ⟨a, xs, e1, e2, h⟩ := h
    exact ⟨a, xs, e1, t a _ e2 (.inl ⟨_, rfl⟩), Rfs.mono h k t⟩
  | .dic kvs, v, fp, h, k, t => by
    obtain ⟨a, e1, e2, e3, e4⟩ := h
    subst e4
    exact ⟨a, e1, k a List.mem_cons_self _ e2, e3, rfl⟩
  | .dit kvs, v, fp, h, k, t => by
    obtain ⟨a, e1, e2, e3, e4⟩ := h
    subst e4
    exact ⟨a, e1, k a List.mem_cons_self _ e2, e3, rfl⟩
  | .scr ns, v, fp, h, k, t => by
    obtain ⟨a, e1, e2, e3⟩ := h
    refine ⟨a, e1, ?_, e3⟩
    rcases e2 with ⟨o, e2⟩ | e2
    · exact .inl ⟨o, t a _ e2 (.inr ⟨_, _, rfl⟩)⟩
    · exact .inr e2
  | .pin a d, v, fp, h, k, t => ⟨h.1, Rf.mono h.2 k t⟩
  | .ins C ns ds, v, fp, h, k, t => by
    obtain ⟨a, dx, xs, fq, e1, e2, e3, h⟩ := h
    subst e3
    exact ⟨a, dx, xs, fq, e1, k a List.mem_cons_self _ e2, rfl, Rfs.mono h (fun b hb => k b (List.mem_cons_of_mem _ hb)) t⟩
theorem Rfs.mono {H H' : Hp} : ∀ {ds : List D} {vs : List V} {fp : List Addr}, Rfs K H ds vs fp → (∀ a ∈ fp, ∀ o, H a = some o → H' a = some o) → (∀ a o, H a = some o → Im o → H' a = some o) → Rfs K H' ds vs fp
  | [], _, _, h, _, _ => h
  | d :: ds, vs, fp, h, k, t => by
    obtain ⟨x, r, f1, f2, e1, e2, h1, h2⟩ := h
    subst e2
    exact ⟨x, r, f1, f2, e1, rfl, Rf.mono h1 (fun b hb => k b (List.mem_append_left _ hb)) t, Rfs.mono h2 (fun b hb => k b (List.mem_append_right _ hb)) t⟩
end
theorem Rf.same {H H' : Hp} {d : D} {v : V} {fp : List Addr} (h : Rf K H d v fp) (s : Same H H') : Rf K H' d v fp := h.mono (fun a _ o e => s a o e) fun a o e _ => s a o e
theorem Rfs.same {H H' : Hp} {d : List D} {v : List V} {fp : List Addr} (h : Rfs K H d v fp) (s : Same H H') : Rfs K H' d v fp := h.mono (fun a _ o e => s a o e) fun a o e _ => s a o e
theorem Rp.same {H H' : Hp} {d : D} {v : V} (h : Rp K H d v) (s : Same H H') : Rp K H' d v := let ⟨fp, h⟩ := h; ⟨fp, h.same s⟩
mutual
theorem Rf.dom {H : Hp} : ∀ {d : D} {v : V} {fp : List Addr}, Rf K H d v fp → ∀ a ∈ fp, ∃ o, H a = some o ∧ ¬ Im o
  | .non, _, _, h, a, ha => by obtain ⟨_, rfl⟩ := h; nomatch ha
  | .bl _, _, _, h, a, ha => by obtain ⟨_, rfl⟩ := h; nomatch ha
  | .int _, _, _, h, a, ha => by obtain ⟨_, rfl⟩ := h; nomatch ha
  | .str _, _, _, h, a, ha => by obtain ⟨_, rfl⟩ := h; nomatch ha
  | .lst ds, v, fp, h, b, hb => by
    obtain ⟨a, xs, fq, e1, e2, e3, h⟩ := h
    subst e3
    rcases List.mem_cons.mp hb with e | hb
    · subst e; exact ⟨_, e2, fun z => by rcases z with ⟨_, z⟩ | ⟨_, _, z⟩ <;> cases z⟩
    · exact Rfs.dom h b hb
  | .tup ds, v, fp, h, b, hb => by
    obtain ⟨a, xs, e1, e2, h⟩ := h
    exact Rfs.dom h b hb
  | .dic kvs, v, fp, h, b, hb => by
    obtain ⟨a, e1, e2, e3, e4⟩ := h
    subst e4
    cases List.mem_singleton.mp hb
    exact ⟨_, e2, fun z => by rcases z with ⟨_, z⟩ | ⟨_, _, z⟩ <;> cases z⟩
  | .dit kvs, v, fp, h, b, hb => by
    obtain ⟨a, e1, e2, e3, e4⟩ := h
    subst e4
    cases List.mem_singleton.mp hb
    exact ⟨_, e2, fun z => by rcases z with ⟨_, z⟩ | ⟨_, _, z⟩ <;> cases z⟩
  | .scr ns, v, fp, h, b, hb => by
    obtain ⟨a, e1, e2, e3⟩ := h
    subst e3; nomatch hb
  | .pin a d, v, fp, h, b, hb => Rf.dom h.2 b hb
  | .ins C ns ds, v, fp, h, b, hb => by
    obtain ⟨a, dx, xs, fq, e1, e2, e3, h⟩ := h
    subst e3
    rcases List.mem_cons.mp hb with e | hb
    · subst e; exact ⟨_, e2, fun z => by rcases z with ⟨_, z⟩ | ⟨_, _, z⟩ <;> cases z⟩
    · exact Rfs.dom h b hb
theorem Rfs.dom {H : Hp} : ∀ {ds : List D} {vs : List V} {fp : List Addr}, Rfs K H ds vs fp → ∀ a ∈ fp, ∃ o, H a = some o ∧ ¬ Im o
  | [], _, _, h, a, ha => by obtain ⟨_, rfl⟩ := h; nomatch ha
  | d :: ds, vs, fp, h, b, hb => by
    obtain ⟨x, r, f1, f2, e1, e2, h1, h2⟩ := h
    subst e2
    rcases List.mem_append.mp hb with hb | hb
    · exact Rf.dom h1 b hb
    · exact Rfs.dom h2 b hb
end
theorem Rf.upd {H : Hp} {d : D} {v : V} {fp : List Addr} {l : Addr} {o : HO} (h : Rf K H d v fp) (hl : l ∉ fp) (hm : ∀ o, H l = some o → ¬ Im o) : Rf K (upd H l o) d v fp :=
  h.mono (fun a ha u e => by rw [upd_ne (fun z => hl (by rw [← z]; exact ha))]; exact e) fun a o e i => by rw [upd_ne (fun z => hm o (by rw [← z]; exact e) i)]; exact e
theorem Rfs.upd {H : Hp} {d : List D} {v : List V} {fp : List Addr} {l : Addr} {o : HO} (h : Rfs K H d v fp) (hl : l ∉ fp) (hm : ∀ o, H l = some o → ¬ Im o) : Rfs K (upd H l o) d v fp :=
  h.mono (fun a ha u e => by rw [upd_ne (fun z => hl (by rw [← z]; exact ha))]; exact e) fun a o e i => by rw [upd_ne (fun z => hm o (by rw [← z]; exact e) i)]; exact e
theorem Rfs.length {H : Hp} : ∀ {ds : List D} {vs : List V} {fp : List Addr}, Rfs K H ds vs fp → vs.length = ds.length
  | [], _, _, h => by obtain ⟨rfl, _⟩ := h; rfl
  | d :: ds, vs, fp, h => by
    obtain ⟨x, r, f1, f2, e1, e2, h1, h2⟩ := h
    subst e1
    rw [List.length_cons, List.length_cons, Rfs.length h2]
theorem Rfs.append {H : Hp} : ∀ {ds es : List D} {vs ws : List V} {fp fq : List Addr}, Rfs K H ds vs fp → Rfs K H es ws fq → Rfs K H (ds ++ es) (vs ++ ws) (fp ++ fq)
  | [], es, vs, ws, fp, fq, h, h' => by obtain ⟨rfl, rfl⟩ := h; exact h'
  | d :: ds, es, vs, ws, fp, fq, h, h' => by
    obtain ⟨x, r, f1, f2, rfl, rfl, h1, h2⟩ := h
    exact ⟨x, r ++ ws, f1, f2 ++ fq, rfl, List.append_assoc .., h1, Rfs.append h2 h'⟩
theorem Rfs.one {H : Hp} {d : D} {v : V} {fp : List Addr} (h : Rf K H d v fp) : Rfs K H [d] [v] fp := ⟨v, [], fp, [], rfl, (List.append_nil _).symm, h, rfl, rfl⟩
theorem Rfs.get {H : Hp} : ∀ {ds : List D} {vs : List V} {fp : List Addr} {i : Nat} {d : D}, Rfs K H ds vs fp → ds[i]? = some d → ∃ v f, vs[i]? = some v ∧ Rf K H d v f ∧ (∀ a ∈ f, a ∈ fp)
  | [], _, _, _, _, _, e => by simp at e
  | d :: ds, vs, fp, 0, d', h, e => by
    obtain ⟨x, r, f1, f2, rfl, rfl, h1, h2⟩ := h
    simp at e; subst e
    exact ⟨x, f1, rfl, h1, fun a ha => List.mem_append_left _ ha⟩
  | d :: ds, vs, fp, i + 1, d', h, e => by
    obtain ⟨x, r, f1, f2, rfl, rfl, h1, h2⟩ := h
    obtain ⟨v, f, e1, h3, k⟩ := Rfs.get (i := i) h2 (by simpa using e)
    exact ⟨v, f, by simpa using e1, h3, fun a ha => List.mem_append_right _ (k a ha)⟩
theorem Rfs.get' {H : Hp} {ds : List D} {vs : List V} {fp : List Addr} {i : Nat} {v : V} (h : Rfs K H ds vs fp) (e : vs[i]? = some v) : ∃ d f, ds[i]? = some d ∧ Rf K H d v f ∧ (∀ a ∈ f, a ∈ fp) := by
  have hl := h.length
  obtain ⟨hi, _⟩ := List.getElem?_eq_some_iff.mp e
  have hi' : i < ds.length := by omega
  obtain ⟨v', f, e1, h1, k⟩ := h.get (d := ds[i]) (List.getElem?_eq_getElem hi')
  rw [e] at e1; cases e1
  exact ⟨ds[i], f, List.getElem?_eq_getElem hi', h1, k⟩
def D.scal : D → Bool
  | .non => true | .bl _ => true | .int _ => true | .str _ => true | _ => false
def D.toV : D → V
  | .non => .non | .bl b => .bl b | .int i => .int i | .str x => .str x | _ => .non
theorem Rf.scal {H : Hp} {d : D} {v : V} {fp : List Addr} (h : Rf K H d v fp) (s : d.scal = true) : v = d.toV ∧ fp = [] := by
  cases d <;> first | exact h | cases s
theorem Rf.ofScal {H : Hp} {d : D} (s : d.scal = true) : Rf K H d d.toV [] := by
  cases d <;> first | exact ⟨rfl, rfl⟩ | cases s
theorem Rp.int {H : Hp} {i : Int} {v : V} (h : Rp K H (.int i) v) : v = .int i := h.choose_spec.1
theorem Rp.bl {H : Hp} {i : Bool} {v : V} (h : Rp K H (.bl i) v) : v = .bl i := h.choose_spec.1
theorem Rfs.scals {H : Hp} : ∀ {ds : List D} {vs : List V} {fp : List Addr}, Rfs K H ds vs fp → ds.all D.scal = true → vs = ds.map D.toV ∧ fp = []
  | [], vs, fp, h, _ => h
  | d :: ds, vs, fp, h, s => by
    obtain ⟨x, r, f1, f2, rfl, rfl, h1, h2⟩ := h
    simp only [List.all_cons, Bool.and_eq_true] at s
    obtain ⟨rfl, rfl⟩ := h1.scal s.1
    obtain ⟨rfl, rfl⟩ := Rfs.scals h2 s.2
    exact ⟨rfl, rfl⟩
theorem Rfs.ofScals {H : Hp} : ∀ {ds : List D}, ds.all D.scal = true → Rfs K H ds (ds.map D.toV) []
  | [], _ => ⟨rfl, rfl⟩
  | d :: ds, s => by
    simp only [List.all_cons, Bool.and_eq_true] at s
    exact ⟨_, _, [], [], rfl, rfl, Rf.ofScal s.1, Rfs.ofScals s.2⟩
def D.items : D → Option (List D)
  | .lst ds => some ds | .scr ns => some (ns.map D.int) | _ => none
theorem Rfs.ofInts {H : Hp} : ∀ {ns : List Int}, Rfs K H (ns.map D.int) (ns.map V.int) []
  | [] => ⟨rfl, rfl⟩
  | n :: ns => ⟨_, _, [], [], rfl, rfl, ⟨rfl, rfl⟩, Rfs.ofInts⟩
theorem Rf.seq {H : Hp} {d : D} {ds : List D} {v : V} {fp : List Addr} (h : Rf K H d v fp) (e : d.items = some ds) : ∃ a xs fq, v = .ref a ∧ SqL K H a xs ∧ Rfs K H ds xs fq ∧ ∀ b ∈ fq, b ∈ fp := by
  cases d with
  | lst es =>
    cases e
    obtain ⟨a, xs, fq, e1, e2, rfl, h⟩ := h
    exact ⟨a, xs, fq, e1, .inl (.inl e2), h, fun b hb => List.mem_cons_of_mem _ hb⟩
  | scr ns =>
    cases e
    obtain ⟨a, e1, e2, e3⟩ := h
    exact ⟨a, _, [], e1, e2.seq, Rfs.ofInts, fun b hb => nomatch hb⟩
  | _ => cases e
theorem Rp.seq {H : Hp} {d : D} {ds : List D} {v : V} (h : Rp K H d v) (e : d.items = some ds) : ∃ a xs fq, v = .ref a ∧ SqL K H a xs ∧ Rfs K H ds xs fq :=
  let ⟨_, h⟩ := h; let ⟨a, xs, fq, h1, h2, h3, _⟩ := h.seq e; ⟨a, xs, fq, h1, h2, h3⟩
theorem Rp.tup {H : Hp} {ds : List D} {v : V} (h : Rp K H (.tup ds) v) : ∃ a xs fq, v = .ref a ∧ SqT K H a xs ∧ Rfs K H ds xs fq := by
  obtain ⟨fp, a, xs, e1, e2, h⟩ := h
  exact ⟨a, xs, fp, e1, .inl (.inl e2), h⟩
def Mu (H : Hp) (a : Addr) : Prop := (∃ xs, H a = some (.lst xs)) ∨ (∃ kvs, H a = some (.dK kvs)) ∨ (∃ kvs, H a = some (.dT kvs)) ∨ ∃ C dx fs, H a = some (.ins C dx fs)
theorem Mu.same {H H' : Hp} {a : Addr} (h : Mu H a) (s : Same H H') : Mu H' a := by
  rcases h with ⟨x, h⟩ | ⟨x, h⟩ | ⟨x, h⟩ | ⟨C, dx, fs, h⟩
  · exact .inl ⟨x, s _ _ h⟩
  · exact .inr (.inl ⟨x, s _ _ h⟩)
  · exact .inr (.inr (.inl ⟨x, s _ _ h⟩))
  · exact .inr (.inr (.inr ⟨C, dx, fs, s _ _ h⟩))
theorem Mu.some {H : Hp} {a : Addr} (h : Mu H a) : H a ≠ none := by
  rcases h with ⟨x, h⟩ | ⟨x, h⟩ | ⟨x, h⟩ | ⟨C, dx, fs, h⟩ <;> rw [h] <;> intro z <;> cases z
theorem Mu.notup {H : Hp} {a : Addr} (h : Mu H a) : ∀ o, H a = Option.some o → ¬ Im o := by
  rcases h with ⟨x, h⟩ | ⟨x, h⟩ | ⟨x, h⟩ | ⟨C, dx, fs, h⟩ <;> rw [h] <;> intro o e z <;> cases e <;> rcases z with ⟨_, z⟩ | ⟨_, _, z⟩ <;> cases z
theorem Mu.upd {H : Hp} {a l : Addr} {o : HO} (h : Mu H a) (ho : (∃ xs, o = .lst xs) ∨ (∃ xs, o = .dK xs) ∨ (∃ xs, o = .dT xs) ∨ ∃ C dx fs, o = .ins C dx fs) : Mu (upd H l o) a := by
  by_cases e : a = l
  · subst e
    rcases ho with ⟨xs, rfl⟩ | ⟨xs, rfl⟩ | ⟨xs, rfl⟩ | ⟨C, dx, fs, rfl⟩
    · exact .inl ⟨xs, upd_same⟩
    · exact .inr (.inl ⟨xs, upd_same⟩)
    · exact .inr (.inr (.inl ⟨xs, upd_same⟩))
    · exact .inr (.inr (.inr ⟨C, dx, fs, upd_same⟩))
  · unfold Mu
    rw [upd_ne e]
    exact h
abbrev Dl := List (Option D)
structure Ok (K : PySem.W.Frag) (B0 : Hp) (Γ : List Nat) (fps : Nat → List Addr) (δ : Dl) (σ : St) (H : Hp) : Prop where
  len : σ.length = δ.length
  b0 : Same B0 H
  val : ∀ i d, δ[i]? = some (some d) → ∃ v, σ[i]? = some (some v) ∧ Rf K H d v (fps i)
  non : ∀ i, (∀ d, δ[i]? ≠ some (some d)) → fps i = []
  own : ∀ i ∈ Γ, (fps i).Nodup ∧ ∀ a ∈ fps i, B0 a = none ∧ Mu H a
  dj : ∀ i ∈ Γ, ∀ j, j ≠ i → ∀ a ∈ fps i, a ∉ fps j
variable {B0 : Hp} {Γ : List Nat} {fps : Nat → List Addr} {δ : Dl} {σ : St} {H H' : Hp}
theorem Ok.same (o : Ok K B0 Γ fps δ σ H) (s : Same H H') : Ok K B0 Γ fps δ σ H' :=
  ⟨o.len, o.b0.trans s, fun i d e => let ⟨v, h1, h2⟩ := o.val i d e; ⟨v, h1, h2.same s⟩, o.non, fun i hi => ⟨(o.own i hi).1, fun a ha => ⟨((o.own i hi).2 a ha).1, ((o.own i hi).2 a ha).2.same s⟩⟩, o.dj⟩
theorem Ok.sub {Γ' : List Nat} (o : Ok K B0 Γ fps δ σ H) (h : ∀ i ∈ Γ', i ∈ Γ) : Ok K B0 Γ' fps δ σ H :=
  ⟨o.len, o.b0, o.val, o.non, fun i hi => o.own i (h i hi), fun i hi => o.dj i (h i hi)⟩
theorem Ok.dom (o : Ok K B0 Γ fps δ σ H) {i : Nat} {a : Addr} (h : a ∈ fps i) : H a ≠ none := by
  by_cases e : ∃ d, δ[i]? = some (some d)
  · obtain ⟨d, e⟩ := e
    obtain ⟨v, _, r⟩ := o.val i d e
    obtain ⟨u, hu, _⟩ := r.dom a h
    rw [hu]; intro z; cases z
  · rw [o.non i (fun d z => e ⟨d, z⟩)] at h
    nomatch h
structure Nw (H H' : Hp) (fps : Nat → List Addr) (M : List Nat) (fp : List Addr) : Prop where
  nd : fp.Nodup
  mu : ∀ a ∈ fp, Mu H' a
  src : ∀ a ∈ fp, H a = none ∨ ∃ j ∈ M, a ∈ fps j
theorem Nw.nil {M : List Nat} : Nw H H' fps M [] := ⟨List.nodup_nil, fun _ h => (nomatch h), fun _ h => (nomatch h)⟩
theorem Nw.later {H1 : Hp} {M : List Nat} {fp : List Addr} (n : Nw H1 H' fps M fp) (s : Same H H1) : Nw H H' fps M fp :=
  ⟨n.nd, n.mu, fun a ha => (n.src a ha).elim (fun z => .inl (s.free z)) .inr⟩
theorem Nw.same {H1 : Hp} {M : List Nat} {fp : List Addr} (n : Nw H H' fps M fp) (s : Same H' H1) : Nw H H1 fps M fp := ⟨n.nd, fun a ha => (n.mu a ha).same s, n.src⟩
theorem Nw.any {fps' : Nat → List Addr} {fp : List Addr} (n : Nw H H' fps [] fp) : Nw H H' fps' [] fp := ⟨n.nd, n.mu, fun a ha => (n.src a ha).elim .inl fun ⟨_, h, _⟩ => nomatch h⟩
theorem Nw.fresh {fp : List Addr} (n : Nw H H' fps [] fp) : ∀ a ∈ fp, H a = none := fun a ha => (n.src a ha).elim id fun ⟨_, h, _⟩ => nomatch h
def kill (M : List Nat) (δ : Dl) : Dl := M.foldl (fun δ j => δ.set j none) δ
theorem kill_length : ∀ {M : List Nat} {δ : Dl}, (kill M δ).length = δ.length
  | [], _ => rfl
  | j :: M, δ => by rw [kill, List.foldl_cons]; exact (kill_length (M := M)).trans (by simp)
theorem kill_get : ∀ {M : List Nat} {δ : Dl} {i : Nat} {d : D}, (kill M δ)[i]? = some (some d) ↔ i ∉ M ∧ δ[i]? = some (some d)
  | [], _, _, _ => by simp [kill]
  | j :: M, δ, i, d => by
    rw [kill, List.foldl_cons]
    have := kill_get (M := M) (δ := δ.set j none) (i := i) (d := d)
    rw [kill] at this
    rw [this, List.mem_cons]
    by_cases e : i = j
    · subst e
      simp [List.getElem?_set]
    · rw [List.getElem?_set_ne (Ne.symm e)]
      simp [e]
def minus (Γ M : List Nat) : List Nat := Γ.filter fun i => !M.contains i
theorem mem_minus {Γ M : List Nat} {i : Nat} : i ∈ minus Γ M ↔ i ∈ Γ ∧ i ∉ M := by
  unfold minus
  rw [List.mem_filter]
  simp
theorem Ok.kill (o : Ok K B0 Γ fps δ σ H) (M : List Nat) : Ok K B0 (minus Γ M) (fun i => if i ∈ M then [] else fps i) (kill M δ) σ H := by
  refine ⟨by rw [kill_length]; exact o.len, o.b0, fun i d e => ?_, fun i e => ?_, fun i hi => ?_, fun i hi j hj a ha => ?_⟩
  · obtain ⟨h1, h2⟩ := kill_get.mp e
    rw [if_neg h1]
    exact o.val i d h2
  · by_cases h : i ∈ M
    · rw [if_pos h]
    · rw [if_neg h]
      exact o.non i fun d z => e d (kill_get.mpr ⟨h, z⟩)
  · obtain ⟨h1, h2⟩ := mem_minus.mp hi
    rw [if_neg h2]
    exact o.own i h1
  · obtain ⟨h1, h2⟩ := mem_minus.mp hi
    rw [if_neg h2] at ha
    by_cases h : j ∈ M
    · rw [if_pos h]; exact List.not_mem_nil
    · rw [if_neg h]; exact o.dj i h1 j hj a ha
theorem Ok.setMv {M : List Nat} {x : D} {v : V} {fp : List Addr} (o : Ok K B0 Γ fps δ σ H) (i : Nat) (hM : ∀ j ∈ M, j ∈ Γ) (s : Same H H') (r : Rf K H' x v fp) (n : Nw H H' fps M fp) :
    Ok K B0 (i :: minus (minus Γ M) [i]) (fun j => if j = i then (if i < δ.length then fp else []) else if j ∈ M then [] else fps j) ((L3.kill M δ).set i (some x)) (σ.set i (some v)) H' := by
  have ok := (o.kill M).same s
  have sep : ∀ a ∈ fp, ∀ j, j ∉ M → a ∉ fps j := fun a ha j hj z => by
    rcases n.src a ha with e | ⟨k, hk, e⟩
    · exact o.dom z e
    · exact o.dj k (hM k hk) j (fun q => hj (by rw [q]; exact hk)) a e z
  refine ⟨by simp [kill_length, o.len], ok.b0, fun j d e => ?_, fun j e => ?_, fun j hj => ?_, fun j hj k hk a ha => ?_⟩
  · by_cases h : j = i
    · subst h
      rw [List.getElem?_set] at e
      simp only [kill_length] at e
      by_cases hl : j < δ.length
      · simp [hl] at e
        subst e
        refine ⟨v, ?_, ?_⟩
        · rw [List.getElem?_set]; simp [o.len, hl]
        · rw [if_pos rfl, if_pos hl]; exact r
      · simp [hl] at e
    · rw [List.getElem?_set_ne (Ne.symm h)] at e
      rw [List.getElem?_set_ne (Ne.symm h), if_neg h]
      exact ok.val j d e
  · by_cases h : j = i
    · subst h
      rw [if_pos rfl]
      by_cases hl : j < δ.length
      · exact absurd (by rw [List.getElem?_set]; simp [kill_length, hl]) (e x)
      · rw [if_neg hl]
    · rw [if_neg h]
      exact ok.non j fun d z => e d (by rw [List.getElem?_set_ne (Ne.symm h)]; exact z)
  · by_cases h : j = i
    · subst h
      rw [if_pos rfl]
      split
      · refine ⟨n.nd, fun a ha => ⟨?_, n.mu a ha⟩⟩
        rcases n.src a ha with e | ⟨k, hk, e⟩
        · exact o.b0.free e
        · exact ((o.own k (hM k hk)).2 a e).1
      · exact ⟨List.nodup_nil, fun _ z => nomatch z⟩
    · rw [if_neg h]
      rcases List.mem_cons.mp hj with z | hj
      · exact absurd z h
      · exact ok.own j (mem_minus.mp hj).1
  · by_cases h : j = i
    · subst h
      rw [if_pos rfl] at ha
      rw [if_neg hk]
      split at ha
      · by_cases hm : k ∈ M
        · rw [if_pos hm]; exact List.not_mem_nil
        · rw [if_neg hm]; exact sep a ha k hm
      · nomatch ha
    · rcases List.mem_cons.mp hj with z | hj
      · exact absurd z h
      rw [if_neg h] at ha
      have hj' := mem_minus.mp (mem_minus.mp hj).1
      rw [if_neg hj'.2] at ha
      by_cases hki : k = i
      · rw [if_pos hki]
        split
        · exact fun z => sep a z j hj'.2 ha
        · exact List.not_mem_nil
      · rw [if_neg hki]
        split
        · exact List.not_mem_nil
        · exact o.dj j hj'.1 k hk a ha
theorem Ok.setSh {x : D} {v : V} {fp : List Addr} (o : Ok K B0 Γ fps δ σ H) (i : Nat) (s : Same H H') (r : Rf K H' x v fp) (n : ∀ j ∈ Γ, ∀ a ∈ fp, a ∉ fps j) :
    Ok K B0 (minus Γ [i]) (fun j => if j = i then (if i < δ.length then fp else []) else fps j) (δ.set i (some x)) (σ.set i (some v)) H' := by
  have ok := o.same s
  refine ⟨by simp [o.len], ok.b0, fun j d e => ?_, fun j e => ?_, fun j hj => ?_, fun j hj k hk a ha => ?_⟩
  · by_cases h : j = i
    · subst h
      rw [List.getElem?_set] at e
      by_cases hl : j < δ.length
      · simp [hl] at e
        subst e
        refine ⟨v, ?_, ?_⟩
        · rw [List.getElem?_set]; simp [o.len, hl]
        · rw [if_pos rfl, if_pos hl]; exact r
      · simp [hl] at e
    · rw [List.getElem?_set_ne (Ne.symm h)] at e
      rw [List.getElem?_set_ne (Ne.symm h), if_neg h]
      exact ok.val j d e
  · by_cases h : j = i
    · subst h
      rw [if_pos rfl]
      by_cases hl : j < δ.length
      · exact absurd (by rw [List.getElem?_set]; simp [hl]) (e x)
      · rw [if_neg hl]
    · rw [if_neg h]
      exact ok.non j fun d z => e d (by rw [List.getElem?_set_ne (Ne.symm h)]; exact z)
  · obtain ⟨h1, h2⟩ := mem_minus.mp hj
    rw [if_neg (fun z => h2 (by rw [z]; exact List.mem_singleton.mpr rfl))]
    exact ok.own j h1
  · obtain ⟨h1, h2⟩ := mem_minus.mp hj
    rw [if_neg (fun z => h2 (by rw [z]; exact List.mem_singleton.mpr rfl))] at ha
    by_cases hki : k = i
    · rw [if_pos hki]
      split
      · exact fun z => n j h1 a z ha
      · exact List.not_mem_nil
    · rw [if_neg hki]
      exact o.dj j h1 k hk a ha
theorem Ok.rebase (o : Ok K B0 Γ fps δ σ H) : ∃ B1, Same B0 B1 ∧ Ok K B1 Γ fps δ σ H ∧ (∀ a, (∀ j ∈ Γ, a ∉ fps j) → B1 a = H a) := by
  refine ⟨fun a => if (∃ j ∈ Γ, a ∈ fps j) then none else H a, fun b u e => ?_, ⟨o.len, fun b u e => ?_, o.val, o.non, fun i hi => ⟨(o.own i hi).1, fun a ha => ⟨?_, ((o.own i hi).2 a ha).2⟩⟩, o.dj⟩, fun a h => ?_⟩
  · have : ¬ ∃ j ∈ Γ, b ∈ fps j := fun ⟨j, hj, hb⟩ => by
      have := ((o.own j hj).2 b hb).1
      rw [e] at this; cases this
    show (if _ then _ else _) = _
    rw [if_neg this]
    exact o.b0 b u e
  · by_cases z : ∃ j ∈ Γ, b ∈ fps j
    · simp only [if_pos z] at e; cases e
    · simp only [if_neg z] at e; exact e
  · show (if _ then _ else _) = _
    rw [if_pos ⟨i, hi, ha⟩]
  · show (if _ then _ else _) = _
    rw [if_neg (fun ⟨j, hj, z⟩ => h j hj z)]
theorem Ok.base {B1 : Hp} (o : Ok K B1 Γ fps δ σ H) (s : Same B0 B1) : Ok K B0 Γ fps δ σ H :=
  ⟨o.len, s.trans o.b0, o.val, o.non, fun i hi => ⟨(o.own i hi).1, fun a ha => ⟨s.free ((o.own i hi).2 a ha).1, ((o.own i hi).2 a ha).2⟩⟩, o.dj⟩
end
end L3
set_option Elab.async false
set_option linter.all false
set_option maxRecDepth 100000
set_option maxHeartbeats 4000000
namespace L3
open PySem L2
abbrev DK := D → Prop
abbrev DE := Dl → DK → Prop
abbrev DT := Dl → (Bool → Prop) → Prop
abbrev DA := Dl → (List D → Prop) → Prop
structure ER (K : PySem.W.Frag) (Γ : List Nat) (t : TE) (d : DE) : Prop where
  mono : ∀ δ (P P' : DK), (∀ x, P x → P' x) → d δ P → d δ P'
  run : ∀ {B0 fps δ σ H Q}, Ok K B0 Γ fps δ σ H → d δ (fun x => ∀ v H', Same H H' → Rp K H' x v → Q v H') → t σ H Q
structure ES (K : PySem.W.Frag) (Γ : List Nat) (t : TE) (d : DE) : Prop where
  mono : ∀ δ (P P' : DK), (∀ x, P x → P' x) → d δ P → d δ P'
  run : ∀ {B0 fps δ σ H Q}, Ok K B0 Γ fps δ σ H → d δ (fun x => ∀ v H' fp, Same H H' → Rf K H' x v fp → (∀ j ∈ Γ, ∀ a ∈ fp, a ∉ fps j) → Q v H') → t σ H Q
structure EM (K : PySem.W.Frag) (Γ M : List Nat) (t : TE) (d : DE) : Prop where
  mono : ∀ δ (P P' : DK), (∀ x, P x → P' x) → d δ P → d δ P'
  run : ∀ {B0 fps δ σ H Q}, Ok K B0 Γ fps δ σ H → d δ (fun x => ∀ v H' fp, Same H H' → Rf K H' x v fp → Nw H H' fps M fp → Q v H') → t σ H Q
structure TR (K : PySem.W.Frag) (Γ : List Nat) (t : TT) (d : DT) : Prop where
  mono : ∀ δ (P P' : Bool → Prop), (∀ x, P x → P' x) → d δ P → d δ P'
  run : ∀ {B0 fps δ σ H Q}, Ok K B0 Γ fps δ σ H → d δ (fun b => ∀ H', Same H H' → Q b H') → t σ H Q
structure AR (K : PySem.W.Frag) (Γ : List Nat) (t : TA) (d : DA) : Prop where
  mono : ∀ δ (P P' : List D → Prop), (∀ x, P x → P' x) → d δ P → d δ P'
  run : ∀ {B0 fps δ σ H Q}, Ok K B0 Γ fps δ σ H → d δ (fun xs => ∀ vs H', Same H H' → Rps K H' xs vs → Q vs H') → t σ H Q
structure AS (K : PySem.W.Frag) (Γ : List Nat) (t : TA) (d : DA) : Prop where
  mono : ∀ δ (P P' : List D → Prop), (∀ x, P x → P' x) → d δ P → d δ P'
  run : ∀ {B0 fps δ σ H Q}, Ok K B0 Γ fps δ σ H → d δ (fun xs => ∀ vs H' fp, Same H H' → Rfs K H' xs vs fp → (∀ j ∈ Γ, ∀ a ∈ fp, a ∉ fps j) → Q vs H') → t σ H Q
structure AM (K : PySem.W.Frag) (Γ M : List Nat) (t : TA) (d : DA) : Prop where
  mono : ∀ δ (P P' : List D → Prop), (∀ x, P x → P' x) → d δ P → d δ P'
  run : ∀ {B0 fps δ σ H Q}, Ok K B0 Γ fps δ σ H → d δ (fun xs => ∀ vs H' fp, Same H H' → Rfs K H' xs vs fp → Nw H H' fps M fp → Q vs H') → t σ H Q
section
variable {K : PySem.W.Frag} {Γ M : List Nat} {t ta tb tc : TE} {d da db dc : DE}
theorem EM.es (h : EM K Γ [] t d) : ES K Γ t d := ⟨h.mono, fun o q => h.run o (h.mono _ _ _ (fun x z v H' fp s r n => z v H' fp s r fun j _ a ha y => o.dom y (n.fresh a ha)) q)⟩
theorem ES.er (h : ES K Γ t d) : ER K Γ t d := ⟨h.mono, fun o q => h.run o (h.mono _ _ _ (fun x z v H' fp s r n => z v H' s ⟨fp, r⟩) q)⟩
theorem EM.er (h : EM K Γ M t d) : ER K Γ t d := ⟨h.mono, fun o q => h.run o (h.mono _ _ _ (fun x z v H' fp s r n => z v H' s ⟨fp, r⟩) q)⟩
def vScal (d : DE) (δ : Dl) (P : DK) : Prop := d δ fun x => x.scal = true ∧ P x
theorem ER.scal (h : ER K Γ t d) : EM K Γ [] t (vScal d) := ⟨fun δ P P' k q => h.mono _ _ _ (fun x z => ⟨z.1, k x z.2⟩) q, fun o q => h.run o (h.mono _ _ _ (fun x z v H' s r => by
  obtain ⟨fp, r⟩ := r
  obtain ⟨_, rfl⟩ := r.scal z.1
  exact z.2 v H' [] s r Nw.nil) q)⟩
def vVar (i : Nat) (δ : Dl) (P : DK) : Prop := match δ[i]? with | some (some d) => P d | _ => False
theorem vVar_out {i : Nat} {δ : Dl} {P : DK} (h : vVar i δ P) : ∃ d, δ[i]? = some (some d) ∧ P d := by
  unfold vVar at h
  split at h
  · exact ⟨_, by assumption, h⟩
  · exact h.elim
theorem vVar_mono {i : Nat} : ∀ δ (P P' : DK), (∀ x, P x → P' x) → vVar i δ P → vVar i δ P' := fun δ P P' k h => by
  unfold vVar at h ⊢
  split
  · rename_i e; rw [e] at h; exact k _ h
  · rename_i e; revert h; split
    · rename_i e'; exact absurd e' (e _)
    · exact id
theorem er_var (i : Nat) : ER K Γ (tVar i) (vVar i) := ⟨vVar_mono, fun {B0 fps δ σ H Q} o q => by
  obtain ⟨d, e, q⟩ := vVar_out q
  obtain ⟨v, e1, r⟩ := o.val i d e
  exact ⟨v, e1, q v H (Same.refl H) ⟨_, r⟩⟩⟩
theorem es_var (i : Nat) (h : i ∉ Γ := by decide) : ES K Γ (tVar i) (vVar i) := ⟨vVar_mono, fun {B0 fps δ σ H Q} o q => by
  obtain ⟨d, e, q⟩ := vVar_out q
  obtain ⟨v, e1, r⟩ := o.val i d e
  exact ⟨v, e1, q v H _ (Same.refl H) r fun j hj a ha z => o.dj j hj i (fun y => h (by rw [y]; exact hj)) a z ha⟩⟩
theorem em_var (i : Nat) (h : i ∈ Γ := by decide) : EM K Γ [i] (tVar i) (vVar i) := ⟨vVar_mono, fun {B0 fps δ σ H Q} o q => by
  obtain ⟨d, e, q⟩ := vVar_out q
  obtain ⟨v, e1, r⟩ := o.val i d e
  exact ⟨v, e1, q v H _ (Same.refl H) r ⟨(o.own i h).1, fun a ha => ((o.own i h).2 a ha).2, fun a ha => .inr ⟨i, List.mem_singleton.mpr rfl, ha⟩⟩⟩⟩
def vC (d : D) (_u0 : Dl) (P : DK) : Prop := P d
theorem em_int {i : Int} : EM K Γ [] (tC (.int i)) (vC (.int i)) := ⟨fun _ _ _ k h => k _ h, fun {_ _ _ _ H _} _ q => q _ H [] (Same.refl H) ⟨rfl, rfl⟩ Nw.nil⟩
theorem em_bl {i : Bool} : EM K Γ [] (tC (.bl i)) (vC (.bl i)) := ⟨fun _ _ _ k h => k _ h, fun {_ _ _ _ H _} _ q => q _ H [] (Same.refl H) ⟨rfl, rfl⟩ Nw.nil⟩
theorem em_str {i : Str} : EM K Γ [] (tC (.str i)) (vC (.str i)) := ⟨fun _ _ _ k h => k _ h, fun {_ _ _ _ H _} _ q => q _ H [] (Same.refl H) ⟨rfl, rfl⟩ Nw.nil⟩
theorem em_non : EM K Γ [] (tC .non) (vC .non) := ⟨fun _ _ _ k h => k _ h, fun {_ _ _ _ H _} _ q => q _ H [] (Same.refl H) ⟨rfl, rfl⟩ Nw.nil⟩
abbrev D2 := D → D → DK → Prop
abbrev nf : Nat → List Addr := fun _ => []
structure OpV (K : PySem.W.Frag) (r : R2) (rv : D2) : Prop where
  mono : ∀ x y (P P' : DK), (∀ z, P z → P' z) → rv x y P → rv x y P'
  run : ∀ {H x y v w Q}, Rp K H x v → Rp K H y w → rv x y (fun z => ∀ u H' fp, Same H H' → Rf K H' z u fp → Nw H H' nf [] fp → Q u H') → r v w H Q
def vOp (rv : D2) (da db : DE) (δ : Dl) (P : DK) : Prop := da δ fun x => db δ fun y => rv x y P
theorem em_op {r : R2} {rv : D2} (ho : OpV K r rv) (ha : ER K Γ ta da) (hb : ER K Γ tb db) : EM K Γ [] (tOp r ta tb) (vOp rv da db) :=
  ⟨fun δ P P' k h => ha.mono _ _ _ (fun x z => hb.mono _ _ _ (fun y z => ho.mono x y _ _ k z) z) h,
   fun o q => ha.run o (ha.mono _ _ _ (fun x z v H1 s1 r1 => hb.run (o.same s1) (hb.mono _ _ _ (fun y z w H2 s2 r2 => ho.run (r1.same s2) r2 (ho.mono _ _ _ _ (fun u z u' H' fp s r n => z u' H' fp ((s1.trans s2).trans s) r (n.any.later (s1.trans s2))) z)) z)) q)⟩
abbrev D1 := D → DK → Prop
def vUn (rv : D1) (da : DE) (δ : Dl) (P : DK) : Prop := da δ fun x => rv x P
def vI0 (g : Int → Int → D) (x : D) (y : D) (P : DK) : Prop := match x, y with | .int i, .int j => P (g i j) | _, _ => False
def vI (C : Int → Int → Prop) (g : Int → Int → D) (x : D) (y : D) (P : DK) : Prop := match x, y with | .int i, .int j => C i j ∧ P (g i j) | _, _ => False
def vU (g : Int → D) (x : D) (P : DK) : Prop := match x with | .int i => P (g i) | _ => False
theorem vI0_mono {g : Int → Int → D} : ∀ x y (P P' : DK), (∀ z, P z → P' z) → vI0 g x y P → vI0 g x y P' := fun x y P P' k h => by
  unfold vI0 at h ⊢; revert h; split <;> first | exact k _ | exact id
theorem vI_mono {C : Int → Int → Prop} {g : Int → Int → D} : ∀ x y (P P' : DK), (∀ z, P z → P' z) → vI C g x y P → vI C g x y P' := fun x y P P' k h => by
  unfold vI at h ⊢; revert h; split <;> first | exact fun h => ⟨h.1, k _ h.2⟩ | exact id
theorem vI0_run {f : Int → Int → V} {g : Int → Int → D} (hs : ∀ i j, (g i j).scal = true ∧ (g i j).toV = f i j) : OpV K (rI0 f) (vI0 g) := ⟨vI0_mono, fun {H x y v w Q} r1 r2 h => by
  unfold vI0 at h
  split at h
  · rename_i i j
    refine ⟨i, j, r1.int, r2.int, ?_⟩
    rw [← (hs i j).2]
    exact h _ H [] (Same.refl H) (Rf.ofScal (hs i j).1) Nw.nil
  · exact h.elim⟩
theorem vI_run {C : Int → Int → Prop} {f : Int → Int → V} {g : Int → Int → D} (hs : ∀ i j, (g i j).scal = true ∧ (g i j).toV = f i j) : OpV K (rI C f) (vI C g) := ⟨vI_mono, fun {H x y v w Q} r1 r2 h => by
  unfold vI at h
  split at h
  · rename_i i j
    refine ⟨i, j, r1.int, r2.int, h.1, ?_⟩
    rw [← (hs i j).2]
    exact h.2 _ H [] (Same.refl H) (Rf.ofScal (hs i j).1) Nw.nil
  · exact h.elim⟩
theorem o_int {f : Int → Int → Int} : OpV K (rI0 fun i j => .int (f i j)) (vI0 fun i j => .int (f i j)) := vI0_run fun _ _ => ⟨rfl, rfl⟩
theorem o_bl {f : Int → Int → Bool} : OpV K (rI0 fun i j => .bl (f i j)) (vI0 fun i j => .bl (f i j)) := vI0_run fun _ _ => ⟨rfl, rfl⟩
theorem o_intC {C : Int → Int → Prop} {f : Int → Int → Int} : OpV K (rI C fun i j => .int (f i j)) (vI C fun i j => .int (f i j)) := vI_run fun _ _ => ⟨rfl, rfl⟩
def vEqS (neg : Bool) (x : D) (y : D) (P : DK) : Prop := x.scal = true ∧ y.scal = true ∧ scal x.toV y.toV = true ∧ P (.bl (if neg then !decide (x.toV = y.toV) else decide (x.toV = y.toV)))
theorem vEqS_mono {neg : Bool} : ∀ x y (P P' : DK), (∀ z, P z → P' z) → vEqS neg x y P → vEqS neg x y P' := fun x y P P' k h => ⟨h.1, h.2.1, h.2.2.1, k _ h.2.2.2⟩
theorem o_eq : OpV K rEq (vEqS false) := ⟨vEqS_mono, fun {H x y v w Q} ⟨f1, r1⟩ ⟨f2, r2⟩ h => by
  rw [(r1.scal h.1).1, (r2.scal h.2.1).1]
  exact ⟨h.2.2.1, h.2.2.2 _ H [] (Same.refl H) ⟨rfl, rfl⟩ Nw.nil⟩⟩
theorem o_ne : OpV K rNe (vEqS true) := ⟨vEqS_mono, fun {H x y v w Q} ⟨f1, r1⟩ ⟨f2, r2⟩ h => by
  rw [(r1.scal h.1).1, (r2.scal h.2.1).1]
  exact ⟨h.2.2.1, h.2.2.2 _ H [] (Same.refl H) ⟨rfl, rfl⟩ Nw.nil⟩⟩
theorem vEqS_int {neg : Bool} {i j : Int} {P : DK} : vEqS neg (.int i) (.int j) P ↔ P (.bl (if neg then !decide (i = j) else decide (i = j))) := by
  unfold vEqS
  simp only [D.scal, D.toV, scal, true_and, V.int.injEq]
def vIxL (x : D) (y : D) (P : DK) : Prop := match x.items, y with | some ds, .int i => (match atI ds i with | some d => P d | none => False) | _, _ => False
def vIxT (x : D) (y : D) (P : DK) : Prop := match x, y with | .tup ds, .int i => (match atI ds i with | some d => P d | none => False) | _, _ => False
theorem vIxL_out {x y : D} {P : DK} (h : vIxL x y P) : ∃ ds i d, x.items = some ds ∧ y = .int i ∧ atI ds i = some d ∧ P d := by
  unfold vIxL at h
  split at h
  · split at h
    · exact ⟨_, _, _, by assumption, rfl, by assumption, h⟩
    · exact h.elim
  · exact h.elim
theorem vIxL_in {x : D} {ds : List D} {i : Int} {d : D} {P : DK} (ex : x.items = some ds) (e : atI ds i = some d) (h : P d) : vIxL x (.int i) P := by unfold vIxL; simp only [ex, e]; exact h
theorem vIxL_mono : ∀ x y (P P' : DK), (∀ z, P z → P' z) → vIxL x y P → vIxL x y P' := fun x y P P' k h => by
  obtain ⟨ds, i, d, ex, rfl, e, h⟩ := vIxL_out h; exact vIxL_in ex e (k _ h)
theorem Rfs.at {H : Hp} {ds : List D} {xs : List V} {fq : List Addr} {i : Int} {d : D} (h : Rfs K H ds xs fq) (e : atI ds i = some d) : ∃ v f, atI xs i = some v ∧ Rf K H d v f ∧ ∀ a ∈ f, a ∈ fq := by
  unfold atI at e ⊢
  rw [h.length]
  cases hj : ixN ds.length i with
  | none => rw [hj] at e; cases e
  | some j => rw [hj] at e; exact h.get e
theorem es_ixL (ha : ES K Γ ta da) (hb : ER K Γ tb db) : ES K Γ (tOp (rIxL K) ta tb) (vOp vIxL da db) :=
  ⟨fun δ P P' k h => ha.mono _ _ _ (fun x z => hb.mono _ _ _ (fun y z => vIxL_mono x y _ _ k z) z) h,
   fun o q => ha.run o (ha.mono _ _ _ (fun x z v H1 fp s1 r1 n => hb.run (o.same s1) (hb.mono _ _ _ (fun y z w H2 s2 r2 => by
    obtain ⟨ds, i, d, ex, rfl, e, z⟩ := vIxL_out z
    obtain ⟨a, xs, fq, rfl, hs, hr, hin⟩ := (r1.same s2).seq ex
    obtain ⟨v, f, e1, r3, k⟩ := hr.at e
    exact ⟨a, xs, i, v, rfl, r2.int, hs, e1, z v H2 f (s1.trans s2) r3 fun j hj b hb => n j hj b (hin b (k b hb))⟩) z)) q)⟩
def asB (x : D) (P : Bool → Prop) : Prop := match x with | .bl k => P k | _ => False
def vTest (d : DE) (δ : Dl) (P : Bool → Prop) : Prop := d δ fun x => asB x P
theorem vb_out {x : D} {P : Bool → Prop} (h : asB x P) : ∃ k, x = .bl k ∧ P k := by
  unfold asB at h
  split at h
  · exact ⟨_, rfl, h⟩
  · exact h.elim
theorem vb_in {x : D} {P P' : Bool → Prop} (k : ∀ b, P b → P' b) (h : asB x P) : asB x P' := by
  obtain ⟨b, rfl, h⟩ := vb_out h; exact k b h
theorem tr_test (h : ER K Γ t d) : TR K Γ (tTest t) (vTest d) := ⟨fun δ P P' k q => h.mono _ _ _ (fun x z => vb_in k z) q, fun o q => h.run o (h.mono _ _ _ (fun x z v H' s r => by
  obtain ⟨b, rfl, z⟩ := vb_out z; exact ⟨b, r.bl, z H' s⟩) q)⟩
theorem tr_b (h : ER K Γ t d) : TR K Γ (tB t) (vTest d) := ⟨fun δ P P' k q => h.mono _ _ _ (fun x z => vb_in k z) q, fun o q => h.run o (h.mono _ _ _ (fun x z v H' s r => by
  obtain ⟨b, rfl, z⟩ := vb_out z; exact ⟨b, r.bl, z H' s⟩) q)⟩
def vAnd (c e : DT) (δ : Dl) (P : Bool → Prop) : Prop := c δ fun k => if k = true then e δ P else P false
def vOr (c e : DT) (δ : Dl) (P : Bool → Prop) : Prop := c δ fun k => if k = true then P true else e δ P
def vNot (c : DT) (δ : Dl) (P : Bool → Prop) : Prop := c δ fun k => P (!k)
theorem ite_imp {b : Bool} {A B A' B' : Prop} (h1 : A → A') (h2 : B → B') (h : if b = true then A else B) : if b = true then A' else B' := by
  cases b
  · exact h2 h
  · exact h1 h
theorem tr_and {u1 u2 : TT} {c e : DT} (h1 : TR K Γ u1 c) (h2 : TR K Γ u2 e) : TR K Γ (tAnd u1 u2) (vAnd c e) :=
  ⟨fun δ P P' k q => h1.mono _ _ _ (fun b z => ite_imp (h2.mono _ _ _ k) (k _) z) q,
   fun o q => h1.run o (h1.mono _ _ _ (fun b z H' s => ite_imp (fun z => h2.run (o.same s) (h2.mono _ _ _ (fun b z H2 s2 => z H2 (s.trans s2)) z)) (fun z => z H' s) z) q)⟩
theorem tr_or {u1 u2 : TT} {c e : DT} (h1 : TR K Γ u1 c) (h2 : TR K Γ u2 e) : TR K Γ (tOr u1 u2) (vOr c e) :=
  ⟨fun δ P P' k q => h1.mono _ _ _ (fun b z => ite_imp (k _) (h2.mono _ _ _ k) z) q,
   fun o q => h1.run o (h1.mono _ _ _ (fun b z H' s => ite_imp (fun z => z H' s) (fun z => h2.run (o.same s) (h2.mono _ _ _ (fun b z H2 s2 => z H2 (s.trans s2)) z)) z) q)⟩
theorem tr_not {u1 : TT} {c : DT} (h1 : TR K Γ u1 c) : TR K Γ (tNot u1) (vNot c) :=
  ⟨fun δ P P' k q => h1.mono _ _ _ (fun b z => k _ z) q, fun o q => h1.run o (h1.mono _ _ _ (fun b z H' s => z H' s) q)⟩
def vAndV (da db : DE) (δ : Dl) (P : DK) : Prop := vTest da δ fun k => if k = true then db δ P else P (.bl false)
def vOrV (da db : DE) (δ : Dl) (P : DK) : Prop := vTest da δ fun k => if k = true then P (.bl true) else db δ P
def vNotV (da : DE) (δ : Dl) (P : DK) : Prop := vTest da δ fun k => P (.bl (!k))
theorem em_andV (ha : ER K Γ ta da) (hb : EM K Γ [] tb db) : EM K Γ [] (tAndV ta tb) (vAndV da db) :=
  ⟨fun δ P P' k q => (tr_test ha).mono _ _ _ (fun b z => ite_imp (hb.mono _ _ _ k) (k _) z) q,
   fun o q => ha.run o (ha.mono _ _ _ (fun x z v H' s r => by
    obtain ⟨b, rfl, z⟩ := vb_out z
    exact ⟨b, r.bl, ite_imp (fun z => hb.run (o.same s) (hb.mono _ _ _ (fun y z u H2 fp s2 r2 n2 => z u H2 fp (s.trans s2) r2 (n2.later s)) z)) (fun z => z _ H' [] s ⟨rfl, rfl⟩ Nw.nil) z⟩) q)⟩
theorem em_orV (ha : ER K Γ ta da) (hb : EM K Γ [] tb db) : EM K Γ [] (tOrV ta tb) (vOrV da db) :=
  ⟨fun δ P P' k q => (tr_test ha).mono _ _ _ (fun b z => ite_imp (k _) (hb.mono _ _ _ k) z) q,
   fun o q => ha.run o (ha.mono _ _ _ (fun x z v H' s r => by
    obtain ⟨b, rfl, z⟩ := vb_out z
    exact ⟨b, r.bl, ite_imp (fun z => z _ H' [] s ⟨rfl, rfl⟩ Nw.nil) (fun z => hb.run (o.same s) (hb.mono _ _ _ (fun y z u H2 fp s2 r2 n2 => z u H2 fp (s.trans s2) r2 (n2.later s)) z)) z⟩) q)⟩
def vIf (c : DT) (da db : DE) (δ : Dl) (P : DK) : Prop := c δ fun k => if k = true then da δ P else db δ P
theorem em_if {u : TT} {c : DT} (hc : TR K Γ u c) (ha : EM K Γ [] ta da) (hb : EM K Γ [] tb db) : EM K Γ [] (tIf u ta tb) (vIf c da db) :=
  ⟨fun δ P P' k q => hc.mono _ _ _ (fun b z => ite_imp (ha.mono _ _ _ k) (hb.mono _ _ _ k) z) q,
   fun o q => hc.run o (hc.mono _ _ _ (fun b z H' s => ite_imp (fun z => ha.run (o.same s) (ha.mono _ _ _ (fun y z u H2 fp s2 r2 n2 => z u H2 fp (s.trans s2) r2 (n2.later s)) z)) (fun z => hb.run (o.same s) (hb.mono _ _ _ (fun y z u H2 fp s2 r2 n2 => z u H2 fp (s.trans s2) r2 (n2.later s)) z)) z) q)⟩
def vChain (r r' : D2) (da db dc : DE) (δ : Dl) (P : DK) : Prop := da δ fun x => db δ fun y => r x y fun z => asB z fun k => if k = true then dc δ fun w => r' y w P else P (.bl false)
theorem em_chain {r r' : R2} {rv rv' : D2} (ho : OpV K r rv) (ho' : OpV K r' rv') (ha : ER K Γ ta da) (hb : ER K Γ tb db) (hc : ER K Γ tc dc) : EM K Γ [] (tChain r r' ta tb tc) (vChain rv rv' da db dc) :=
  ⟨fun δ P P' k h => ha.mono _ _ _ (fun x z => hb.mono _ _ _ (fun y z => ho.mono x y _ _ (fun u z => vb_in (fun b z => ite_imp (hc.mono _ _ _ fun w z => ho'.mono _ _ _ _ k z) (k _) z) z) z) z) h,
   fun o q => ha.run o (ha.mono _ _ _ (fun x z v H1 s1 r1 => hb.run (o.same s1) (hb.mono _ _ _ (fun y z w H2 s2 r2 => ho.run (r1.same s2) r2 (ho.mono _ _ _ _ (fun u z u' H3 fp s3 r3 n3 => by
    obtain ⟨b, rfl, z⟩ := vb_out z
    have s13 := (s1.trans s2).trans s3
    refine ⟨b, r3.1, ite_imp (fun z => ?_) (fun z => z _ H3 [] s13 ⟨rfl, rfl⟩ Nw.nil) z⟩
    exact hc.run (o.same s13) (hc.mono _ _ _ (fun w z w' H4 s4 r4 => ho'.run (r2.same (s3.trans s4)) r4 (ho'.mono _ _ _ _ (fun u z u' H' fp s r n => z u' H' fp ((s13.trans s4).trans s) r (n.any.later (s13.trans s4))) z)) z)) z)) z)) q)⟩
def vNil (_u0 : Dl) (P : List D → Prop) : Prop := P []
def vCons (da : DE) (dr : DA) (δ : Dl) (P : List D → Prop) : Prop := da δ fun x => dr δ fun xs => P (x :: xs)
theorem ar_nil : AR K Γ tNil vNil := ⟨fun _ _ _ k h => k _ h, fun {_ _ _ _ H _} o q => q [] H (Same.refl H) ⟨[], rfl, rfl⟩⟩
theorem am_nil : AM K Γ [] tNil vNil := ⟨fun _ _ _ k h => k _ h, fun {_ _ _ _ H _} o q => q [] H [] (Same.refl H) ⟨rfl, rfl⟩ Nw.nil⟩
theorem as_nil : AS K Γ tNil vNil := ⟨fun _ _ _ k h => k _ h, fun {_ _ _ _ H _} o q => q [] H [] (Same.refl H) ⟨rfl, rfl⟩ fun _ _ _ h => nomatch h⟩
theorem ar_cons {tr : TA} {dr : DA} (ha : ER K Γ ta da) (hr : AR K Γ tr dr) : AR K Γ (tCons ta tr) (vCons da dr) :=
  ⟨fun δ P P' k h => ha.mono _ _ _ (fun x z => hr.mono _ _ _ (fun y z => k _ z) z) h,
   fun o q => ha.run o (ha.mono _ _ _ (fun x z v H1 s1 r1 => hr.run (o.same s1) (hr.mono _ _ _ (fun xs z vs H2 s2 r2 => by
    obtain ⟨f1, r1⟩ := r1.same s2
    obtain ⟨f2, r2⟩ := r2
    exact z _ H2 (s1.trans s2) ⟨f1 ++ f2, _, _, f1, f2, rfl, rfl, r1, r2⟩) z)) q)⟩
theorem as_cons {tr : TA} {dr : DA} (ha : ES K Γ ta da) (hr : AS K Γ tr dr) : AS K Γ (tCons ta tr) (vCons da dr) :=
  ⟨fun δ P P' k h => ha.mono _ _ _ (fun x z => hr.mono _ _ _ (fun y z => k _ z) z) h,
   fun o q => ha.run o (ha.mono _ _ _ (fun x z v H1 f1 s1 r1 n1 => hr.run (o.same s1) (hr.mono _ _ _ (fun xs z vs H2 f2 s2 r2 n2 =>
    z _ H2 (f1 ++ f2) (s1.trans s2) ⟨_, _, f1, f2, rfl, rfl, r1.same s2, r2⟩ fun j hj a ha => (List.mem_append.mp ha).elim (n1 j hj a) (n2 j hj a)) z)) q)⟩
theorem am_cons {M' : List Nat} {tr : TA} {dr : DA} (ha : EM K Γ M ta da) (hr : AM K Γ M' tr dr) (hM : ∀ i ∈ M, i ∈ Γ ∧ i ∉ M' := by decide) (hM' : ∀ i ∈ M', i ∈ Γ := by decide) : AM K Γ (M ++ M') (tCons ta tr) (vCons da dr) :=
  ⟨fun δ P P' k h => ha.mono _ _ _ (fun x z => hr.mono _ _ _ (fun y z => k _ z) z) h,
   fun {B0 fps δ σ H Q} o q => ha.run o (ha.mono _ _ _ (fun x z v H1 f1 s1 r1 n1 => hr.run (o.same s1) (hr.mono _ _ _ (fun xs z vs H2 f2 s2 r2 n2 => by
    refine z _ H2 (f1 ++ f2) (s1.trans s2) ⟨_, _, f1, f2, rfl, rfl, r1.same s2, r2⟩ ⟨?_, fun a ha => (List.mem_append.mp ha).elim (fun h => (n1.mu a h).same s2) (n2.mu a), fun a ha => ?_⟩
    · refine List.nodup_append.mpr ⟨n1.nd, n2.nd, fun a h1 b h2 e => ?_⟩
      subst e
      rcases n2.src a h2 with e | ⟨j, hj, e⟩
      · exact (n1.mu a h1).some e
      · rcases n1.src a h1 with e' | ⟨i, hi, e'⟩
        · exact o.dom e e'
        · exact o.dj i (hM i hi).1 j (fun y => (hM i hi).2 (by rw [← y]; exact hj)) a e' e
    · rcases List.mem_append.mp ha with h | h
      · exact (n1.src a h).imp id fun ⟨j, h1, h2⟩ => ⟨j, List.mem_append_left _ h1, h2⟩
      · exact (n2.src a h).elim (fun e => .inl (s1.free e)) fun ⟨j, h1, h2⟩ => .inr ⟨j, List.mem_append_right _ h1, h2⟩) z)) q)⟩
theorem le1000 {n : Nat} (h : n ≤ 1000) : n ≤ sizeLine := Nat.le_trans h (by rw [sizeLine_eq]; decide)
def vLst (da : DA) (δ : Dl) (P : DK) : Prop := da δ fun xs => xs.length ≤ 1000 ∧ P (.lst xs)
def vTup (da : DA) (δ : Dl) (P : DK) : Prop := da δ fun xs => xs.length ≤ 1000 ∧ P (.tup xs)
theorem Same.new' {H : Hp} {p : Addr} {o : HO} (h : H p = none) : Same H (upd H p o) := fun b u e => by rw [upd_ne (ne_of_none e h)]; exact e
theorem em_lst {u : TA} {dr : DA} (hr : AM K Γ M u dr) (hM : ∀ i ∈ M, i ∈ Γ := by decide) : EM K Γ M (tLst u) (vLst dr) :=
  ⟨fun δ P P' k h => hr.mono _ _ _ (fun y z => ⟨z.1, k _ z.2⟩) h,
   fun {B0 fps δ σ H Q} o q => hr.run o (hr.mono _ _ _ (fun xs z vs H1 fp s1 r1 n1 => by
    refine ⟨by rw [r1.length]; exact le1000 z.1, fun p hp => ?_⟩
    have hs : Same H1 (upd H1 p (.lst vs)) := Same.new' hp
    refine z.2 _ _ (p :: fp) (s1.trans hs) ⟨p, vs, fp, rfl, upd_same, rfl, r1.same hs⟩ ⟨List.nodup_cons.mpr ⟨fun h => (n1.mu p h).some hp, n1.nd⟩, fun a ha => ?_, fun a ha => ?_⟩
    · rcases List.mem_cons.mp ha with e | h
      · subst e; exact .inl ⟨vs, upd_same⟩
      · exact (n1.mu a h).same hs
    · rcases List.mem_cons.mp ha with e | h
      · subst e; exact .inl (s1.free hp)
      · exact n1.src a h) q)⟩
theorem em_tup {u : TA} {dr : DA} (hr : AM K Γ M u dr) : EM K Γ M (tTup u) (vTup dr) :=
  ⟨fun δ P P' k h => hr.mono _ _ _ (fun y z => ⟨z.1, k _ z.2⟩) h,
   fun {B0 fps δ σ H Q} o q => hr.run o (hr.mono _ _ _ (fun xs z vs H1 fp s1 r1 n1 => by
    refine ⟨by rw [r1.length]; exact le1000 z.1, fun p hp => ?_⟩
    have hs : Same H1 (upd H1 p (.tup vs)) := Same.new' hp
    exact z.2 _ _ fp (s1.trans hs) ⟨p, vs, rfl, upd_same, r1.same hs⟩ (n1.same hs)) q)⟩
abbrev DSp := List D → DK → Prop
def DMono (S : DSp) : Prop := ∀ xs (P P' : DK), (∀ z, P z → P' z) → S xs P → S xs P'
def spP (K : PySem.W.Frag) (S : DSp) : Sp := fun vs H Q _ => ∃ ds, Rps K H ds vs ∧ S ds fun x => ∀ v H' fp, Same H H' → Rf K H' x v fp → Nw H H' nf [] fp → Q v H'
def spR (K : PySem.W.Frag) (S : DSp) : Sp := fun vs H Q _ => ∃ ds, Rps K H ds vs ∧ S ds fun x => ∀ v H', Same H H' → Rp K H' x v → Q v H'
structure CallV (K : PySem.W.Frag) (r : List V → Hp → VK → Prop) (S : DSp) : Prop where
  mono : DMono S
  run : ∀ {H xs vs Q}, Rps K H xs vs → S xs (fun z => ∀ u H' fp, Same H H' → Rf K H' z u fp → Nw H H' nf [] fp → Q u H') → r vs H Q
def vCall (S : DSp) (dr : DA) (δ : Dl) (P : DK) : Prop := dr δ fun xs => S xs P
theorem em_cb {r : List V → Hp → VK → Prop} {S : DSp} {u : TA} {dr : DA} (hc : CallV K r S) (hr : AR K Γ u dr) : EM K Γ [] (tCB r u) (vCall S dr) :=
  ⟨fun δ P P' k h => hr.mono _ _ _ (fun y z => hc.mono _ _ _ k z) h,
   fun {B0 fps δ σ H Q} o q => hr.run o (hr.mono _ _ _ (fun xs z vs H1 s1 r1 => hc.run r1 (hc.mono _ _ _ (fun u z u' H' fp s r n => z u' H' fp (s1.trans s) r (n.any.later s1)) z)) q)⟩
theorem em_call {S : DSp} {E : XK} {u : TA} {dr : DA} (hS : DMono S) (hr : AR K Γ u dr) : EM K Γ [] (tCall (spP K S) [] E u) (vCall S dr) :=
  ⟨fun δ P P' k h => hr.mono _ _ _ (fun y z => hS _ _ _ k z) h,
   fun {B0 fps δ σ H Q} o q => hr.run o (hr.mono _ _ _ (fun xs z vs H1 s1 r1 => ⟨xs, by rw [List.append_nil]; exact r1, hS _ _ _ (fun u z u' H' fp s r n => z u' H' fp (s1.trans s) r (n.any.later s1)) z⟩) q)⟩
theorem er_call {S : DSp} {E : XK} {u : TA} {dr : DA} (hS : DMono S) (hr : AR K Γ u dr) : ER K Γ (tCall (spR K S) [] E u) (vCall S dr) :=
  ⟨fun δ P P' k h => hr.mono _ _ _ (fun y z => hS _ _ _ k z) h,
   fun {B0 fps δ σ H Q} o q => hr.run o (hr.mono _ _ _ (fun xs z vs H1 s1 r1 => ⟨xs, by rw [List.append_nil]; exact r1, hS _ _ _ (fun u z u' H' s r => z u' H' (s1.trans s) r) z⟩) q)⟩
end
end L3
set_option Elab.async false
set_option linter.all false
set_option maxRecDepth 100000
set_option maxHeartbeats 4000000
namespace L3
open PySem L2
structure DEnds where
  nx : Dl → Prop
  rt : D → Dl → Prop
  bk : Dl → Prop
  ct : Dl → Prop
abbrev DS := DEnds → Dl → Prop
structure RtI (B0 : Hp) (Γr : List Nat) (fps : Nat → List Addr) (H : Hp) (fp : List Addr) : Prop where
  nd : fp.Nodup
  mu : ∀ a ∈ fp, Mu H a
  nw : ∀ a ∈ fp, B0 a = none
  dj : ∀ j ∈ Γr, ∀ a ∈ fp, a ∉ fps j
structure EOk (K : PySem.W.Frag) (ρ : Bool) (Γr Γl Γn : List Nat) (B0 : Hp) (Dn : Ends) (E : DEnds) : Prop where
  nx : ∀ {fps δ σ H}, Ok K B0 Γn fps δ σ H → E.nx δ → Dn.nx σ H
  bk : ∀ {fps δ σ H}, Ok K B0 Γl fps δ σ H → E.bk δ → Dn.bk σ H
  ct : ∀ {fps δ σ H}, Ok K B0 Γl fps δ σ H → E.ct δ → Dn.ct σ H
  rt : ∀ {fps δ σ H x v fp}, Ok K B0 Γr fps δ σ H → Rf K H x v fp → (ρ = true → RtI B0 Γr fps H fp) → E.rt x δ → Dn.rt v H
def ST (K : PySem.W.Frag) (ρ : Bool) (Γr Γl : List Nat) (t : TS) (Γ Γn : List Nat) (d : DS) : Prop :=
  ∀ ⦃B0 : Hp⦄ ⦃Dn : Ends⦄ ⦃E : DEnds⦄ ⦃fps : Nat → List Addr⦄ ⦃δ : Dl⦄ ⦃σ : St⦄ ⦃H : Hp⦄, EOk K ρ Γr Γl Γn B0 Dn E → Ok K B0 Γ fps δ σ H → d E δ → t Dn σ H
section
variable {K : PySem.W.Frag} {ρ : Bool} {Γr Γl Γ Γ1 Γ2 Γn M : List Nat} {t u : TS} {te ta tb : TE} {de da db : DE} {d e : DS}
def vNext (E : DEnds) (δ : Dl) : Prop := E.nx δ
def vSeq (d e : DS) (E : DEnds) (δ : Dl) : Prop := d { E with nx := e E } δ
theorem st_next : ST K ρ Γr Γl tNext Γ Γ vNext := fun _ _ _ _ _ _ _ k o h => k.nx o h
theorem st_seq (h1 : ST K ρ Γr Γl t Γ Γ1 d) (h2 : ST K ρ Γr Γl u Γ1 Γ2 e) : ST K ρ Γr Γl (tSeq t u) Γ Γ2 (vSeq d e) :=
  fun {B0 Dn E fps δ σ H} k o h => h1 (Dn := { Dn with nx := u Dn }) (E := { E with nx := e E }) ⟨fun o h => h2 k o h, k.bk, k.ct, k.rt⟩ o h
theorem ST.post (h : ST K ρ Γr Γl t Γ Γ1 d) (s : ∀ i ∈ Γn, i ∈ Γ1 := by decide) : ST K ρ Γr Γl t Γ Γn d := fun _ _ _ _ _ _ _ k o q => h ⟨fun o h => k.nx (o.sub s) h, k.bk, k.ct, k.rt⟩ o q
def vSetM (M : List Nat) (i : Nat) (de : DE) (E : DEnds) (δ : Dl) : Prop := de δ fun x => E.nx ((kill M δ).set i (some x))
theorem st_setM (i : Nat) (he : EM K Γ M te de) (hM : ∀ j ∈ M, j ∈ Γ := by decide) : ST K ρ Γr Γl (tAsg te (gName i)) Γ (i :: minus (minus Γ M) [i]) (vSetM M i de) :=
  fun _ _ _ _ _ _ _ k o h => he.run o (he.mono _ _ _ (fun x z v H' fp s r n => k.nx (o.setMv i hM s r n) z) h)
def vSet (i : Nat) (de : DE) (E : DEnds) (δ : Dl) : Prop := de δ fun x => E.nx (δ.set i (some x))
theorem st_setS (i : Nat) (he : ES K Γ te de) : ST K ρ Γr Γl (tAsg te (gName i)) Γ (minus Γ [i]) (vSet i de) :=
  fun _ _ _ _ _ _ _ k o h => he.run o (he.mono _ _ _ (fun x z v H' fp s r n => k.nx (o.setSh i s r n) z) h)
def vDrop (de : DE) (E : DEnds) (δ : Dl) : Prop := de δ fun _ => E.nx δ
def vRet (M : List Nat) (de : DE) (E : DEnds) (δ : Dl) : Prop := de δ fun x => E.rt x (kill M δ)
theorem st_ret (he : EM K Γ M te de) (hM : ∀ j ∈ M, j ∈ Γ := by decide) (hr : ∀ j ∈ Γr, j ∈ Γ ∧ j ∉ M := by decide) : ST K ρ Γr Γl (tRet te) Γ Γn (vRet M de) :=
  fun {B0 Dn E fps δ σ H} k o h => he.run o (he.mono _ _ _ (fun x z v H' fp s r n => by
    have ok := ((o.kill M).same s).sub (Γ' := Γr) fun i hi => mem_minus.mpr (hr i hi)
    refine k.rt ok r (fun _ => ⟨n.nd, n.mu, fun a ha => ?_, fun j hj a ha => ?_⟩) z
    · rcases n.src a ha with e | ⟨i, hi, e⟩
      · exact o.b0.free e
      · exact ((o.own i (hM i hi)).2 a e).1
    · show a ∉ if j ∈ M then [] else fps j
      rw [if_neg (hr j hj).2]
      intro z
      rcases n.src a ha with e | ⟨i, hi, e⟩
      · exact o.dom z e
      · exact o.dj i (hM i hi) j (fun y => (hr j hj).2 (by rw [y]; exact hi)) a e z) h)
theorem st_retR (he : ER K Γ te de) (hr : ∀ j ∈ Γr, j ∈ Γ := by decide) : ST K false Γr Γl (tRet te) Γ Γn (vRet [] de) :=
  fun {B0 Dn E fps δ σ H} k o h => he.run o (he.mono _ _ _ (fun x z v H' s r => by
    obtain ⟨fp, r⟩ := r
    exact k.rt ((o.same s).sub hr) r (fun z => by cases z) z) h)
def vRetN (E : DEnds) (δ : Dl) : Prop := E.rt .non δ
theorem st_retN (hr : ∀ j ∈ Γr, j ∈ Γ := by decide) : ST K ρ Γr Γl tRetN Γ Γn vRetN :=
  fun {B0 Dn E fps δ σ H} k o h => k.rt (o.sub hr) (Rf.ofScal (d := .non) rfl) (fun _ => ⟨List.nodup_nil, fun _ h => (nomatch h), fun _ h => (nomatch h), fun _ _ _ h => (nomatch h)⟩) h
def vIfS (c : DT) (d e : DS) (E : DEnds) (δ : Dl) : Prop := c δ fun b => if b = true then d E δ else e E δ
theorem st_if {c : TT} {dc : DT} (hc : TR K Γ c dc) (h1 : ST K ρ Γr Γl t Γ Γn d) (h2 : ST K ρ Γr Γl u Γ Γn e) : ST K ρ Γr Γl (tIfS c t u) Γ Γn (vIfS dc d e) :=
  fun _ _ _ _ _ _ _ k o h => hc.run o (hc.mono _ _ _ (fun b z H' s => ite_imp (fun z => h1 k (o.same s) z) (fun z => h2 k (o.same s) z) z) h)
structure GT (K : PySem.W.Frag) (Γ : List Nat) (g : TG) (dg : D → Dl → (Dl → Prop) → Prop) : Prop where
  mono : ∀ x δ (P P' : Dl → Prop), (∀ z, P z → P' z) → dg x δ P → dg x δ P'
  run : ∀ {B0 fps δ σ H x v fp Q}, Ok K B0 Γ fps δ σ H → Rf K H x v fp → (∀ j ∈ Γ, ∀ a ∈ fp, a ∉ fps j) → dg x δ (fun δ' => ∀ fps' σ', Ok K B0 Γ fps' δ' σ' H → (∀ j ∈ Γ, fps' j = fps j) → Q σ' H) → g v σ H Q
structure GTs (K : PySem.W.Frag) (Γ : List Nat) (g : TGs) (dg : List D → Dl → (Dl → Prop) → Prop) : Prop where
  mono : ∀ x δ (P P' : Dl → Prop), (∀ z, P z → P' z) → dg x δ P → dg x δ P'
  run : ∀ {B0 fps δ σ H x v fp Q}, Ok K B0 Γ fps δ σ H → Rfs K H x v fp → (∀ j ∈ Γ, ∀ a ∈ fp, a ∉ fps j) → dg x δ (fun δ' => ∀ fps' σ', Ok K B0 Γ fps' δ' σ' H → (∀ j ∈ Γ, fps' j = fps j) → Q σ' H) → g v σ H Q
def vgName (i : Nat) (x : D) (δ : Dl) (P : Dl → Prop) : Prop := P (δ.set i (some x))
theorem gt_name (i : Nat) (h : i ∉ Γ := by decide) : GT K Γ (gName i) (vgName i) := ⟨fun _ _ _ _ k h => k _ h, fun {B0 fps δ σ H x v fp Q} o r n q => by
  have ok := (o.setSh i (Same.refl H) r n).sub (Γ' := Γ) fun j hj => mem_minus.mpr ⟨hj, fun z => h (by rw [← List.mem_singleton.mp z]; exact hj)⟩
  exact q _ _ ok fun j hj => by rw [if_neg (fun z => h (by rw [← z]; exact hj))]⟩
def vgNil (xs : List D) (δ : Dl) (P : Dl → Prop) : Prop := match xs with | [] => P δ | _ => False
def vgCons (dg : D → Dl → (Dl → Prop) → Prop) (dr : List D → Dl → (Dl → Prop) → Prop) (xs : List D) (δ : Dl) (P : Dl → Prop) : Prop := match xs with | x :: r => dg x δ fun δ' => dr r δ' P | [] => False
theorem gts_nil : GTs K Γ gNil vgNil := ⟨fun x _ _ _ k h => by cases x with | nil => exact k _ h | cons _ _ => exact h, fun {B0 fps δ σ H x v fp Q} o r n q => by
  cases x with
  | nil => obtain ⟨rfl, _⟩ := r; exact ⟨rfl, q _ _ o fun _ _ => rfl⟩
  | cons _ _ => exact q.elim⟩
theorem gts_cons {g : TG} {gs : TGs} {dg : D → Dl → (Dl → Prop) → Prop} {dr : List D → Dl → (Dl → Prop) → Prop} (h1 : GT K Γ g dg) (h2 : GTs K Γ gs dr) : GTs K Γ (gCons g gs) (vgCons dg dr) :=
  ⟨fun x _ _ _ k h => by
    cases x with
    | nil => exact h
    | cons x r => exact h1.mono _ _ _ _ (fun z h => h2.mono _ _ _ _ k h) h,
   fun {B0 fps δ σ H x v fp Q} o r n q => by
    cases x with
    | nil => exact q.elim
    | cons x xs =>
      obtain ⟨y, ys, f1, f2, rfl, rfl, r1, r2⟩ := r
      refine ⟨y, ys, rfl, h1.run o r1 (fun j hj a ha => n j hj a (List.mem_append_left _ ha)) (h1.mono _ _ _ _ (fun δ' z fps' σ' o' e => ?_) q)⟩
      exact h2.run o' r2 (fun j hj a ha => by rw [e j hj]; exact n j hj a (List.mem_append_right _ ha)) (h2.mono _ _ _ _ (fun δ2 z fps2 σ2 o2 e2 => z fps2 σ2 o2 fun j hj => (e2 j hj).trans (e j hj)) z)⟩
def vgTup (n : Nat) (dg : List D → Dl → (Dl → Prop) → Prop) (x : D) (δ : Dl) (P : Dl → Prop) : Prop := match x with | .tup ds => ds.length = n ∧ dg ds δ P | _ => False
theorem gt_tup {n : Nat} {g : TGs} {dg : List D → Dl → (Dl → Prop) → Prop} (h : GTs K Γ g dg) : GT K Γ (gTup K n g) (vgTup n dg) :=
  ⟨fun x δ P P' k h' => by unfold vgTup at h' ⊢; revert h'; split <;> first | exact fun h' => ⟨h'.1, h.mono _ _ _ _ k h'.2⟩ | exact id,
   fun {B0 fps δ σ H x v fp Q} o r nn q => by
    unfold vgTup at q
    split at q
    · obtain ⟨a, xs, e1, e2, r⟩ := r
      exact ⟨a, xs, e1, .inl (.inl e2), r.length.trans q.1, h.run o r nn q.2⟩
    · exact q.elim⟩
def vAsg (de : DE) (dg : D → Dl → (Dl → Prop) → Prop) (E : DEnds) (δ : Dl) : Prop := de δ fun x => dg x δ E.nx
theorem st_asgS {g : TG} {dg : D → Dl → (Dl → Prop) → Prop} (he : ES K Γ te de) (hg : GT K Γ g dg) : ST K ρ Γr Γl (tAsg te g) Γ Γ (vAsg de dg) :=
  fun _ _ _ _ _ _ _ k o h => he.run o (he.mono _ _ _ (fun x z v H' fp s r n => hg.run (o.same s) r n (hg.mono _ _ _ _ (fun δ' z fps' σ' o' _ => k.nx o' z) z)) h)
structure ItOk (K : PySem.W.Frag) (J : It) (B : Hp) (ds : List D) : Prop where
  go : ∀ {i H}, Same B H → i < ds.length → J.go i H
  yld : ∀ {i H x H' d}, Same B H → J.yld i H x H' → ds[i]? = some d → Same H H' ∧ ∃ fp, Rf K H' d x fp ∧ ∀ a ∈ fp, B a ≠ none
  stop : ∀ {i H}, Same B H → ds.length ≤ i → J.stop i H
abbrev DI := Dl → (List D → Prop) → Prop
structure IT (K : PySem.W.Frag) (Γ : List Nat) (wi : TI) (di : DI) : Prop where
  mono : ∀ δ (P P' : List D → Prop), (∀ x, P x → P' x) → di δ P → di δ P'
  run : ∀ {B0 fps δ σ H R}, Ok K B0 Γ fps δ σ H → di δ (fun ds => ∀ (J : It) (H' : Hp) (fq : List Addr), Same H H' → (∀ j ∈ Γ, ∀ a ∈ fq, a ∉ fps j) →
    (∀ B, Same B H' → (∀ a ∈ fq, B a = H' a) → (∀ a o, H' a = some o → Im o → B a = some o) → ItOk K J B ds) → R J H') → wi σ H R
def asL (x : D) (P : List D → Prop) : Prop := match x.items with | some ds => P ds | none => False
theorem asL_out {x : D} {P : List D → Prop} (h : asL x P) : ∃ ds, x.items = some ds ∧ P ds := by
  unfold asL at h; split at h
  · exact ⟨_, by assumption, h⟩
  · exact h.elim
theorem asL_in {x : D} {ds : List D} {P : List D → Prop} (e : x.items = some ds) (h : P ds) : asL x P := by unfold asL; rw [e]; exact h
def vItL (de : DE) (δ : Dl) (P : List D → Prop) : Prop := de δ fun x => asL x P
theorem it_list (he : ES K Γ te de) : IT K Γ (iList K te) (vItL de) :=
  ⟨fun δ P P' k h => he.mono _ _ _ (fun x z => by obtain ⟨ds, e, z⟩ := asL_out z; exact asL_in e (k _ z)) h,
   fun {B0 fps δ σ H R} o h => he.run o (he.mono _ _ _ (fun x z v H' fp s r n => by
    obtain ⟨ds, ex, z⟩ := asL_out z
    obtain ⟨a, xs, fq, rfl, hs, hr, hin⟩ := r.seq ex
    refine ⟨a, rfl, ⟨xs, hs⟩, z (Itl K a) H' fp s n fun B sB ag im => ?_⟩
    have rB : Rf K B x (.ref a) fp := r.mono (fun b hb u e => by rw [ag b hb]; exact e) im
    obtain ⟨a', xs', fq', e1, hs', hr', hin'⟩ := rB.seq ex
    cases e1
    have sq : ∀ {H2 : Hp}, Same B H2 → SqL K H2 a xs' := fun s2 => by
      rcases hs' with (h | ⟨o', h⟩) | h
      · exact .inl (.inl (s2 _ _ h))
      · exact .inl (.inr ⟨o', s2 _ _ h⟩)
      · exact .inr h
    have hl := hr'.length
    refine ⟨fun {i H2} s2 hi => ⟨xs', xs'[i]'(by omega), sq s2, by simp [hl, hi]⟩, fun {i H2 y H3 d} s2 hy hd => ?_, fun {i H2} s2 hi => ⟨xs', sq s2, by omega⟩⟩
    obtain ⟨rfl, hy⟩ := hy
    have e2 := hy xs' (sq s2)
    obtain ⟨d', f, e3, r3, k3⟩ := hr'.get' e2
    rw [hd] at e3; cases e3
    exact ⟨Same.refl _, f, r3.same s2, fun b hb => by
      obtain ⟨u, hu, _⟩ := r3.dom b hb
      rw [hu]; intro z; cases z⟩) h)⟩
def asI (xs : List D) (P : Int → Prop) : Prop := match xs with | [.int j] => P j | _ => False
def asII (xs : List D) (P : Int → Int → Prop) : Prop := match xs with | [.int i, .int j] => P i j | _ => False
theorem asI_out {xs : List D} {P : Int → Prop} (h : asI xs P) : ∃ j, xs = [.int j] ∧ P j := by
  unfold asI at h; split at h
  · exact ⟨_, rfl, h⟩
  · exact h.elim
def intsD (lo : Int) (n : Nat) : List D := (List.range n).map fun (k : Nat) => .int (lo + (k : Int))
theorem itr_ok {lo : Int} {n : Nat} {B : Hp} : ItOk K (Itr lo n) B (intsD lo n) := ⟨fun {i H2} s2 hi => by unfold Itr; simpa [intsD] using hi, fun {i H2 y H3 d} s2 hy hd => by
  obtain ⟨rfl, rfl⟩ := hy
  unfold intsD at hd
  rw [List.getElem?_map] at hd
  cases e : (List.range n)[i]? with
  | none => rw [e] at hd; cases hd
  | some k =>
    rw [e] at hd
    obtain ⟨h1, h2⟩ := List.getElem?_eq_some_iff.mp e
    rw [List.getElem_range] at h2
    subst h2
    cases hd
    exact ⟨Same.refl _, [], ⟨rfl, rfl⟩, fun _ h => nomatch h⟩, fun {i H2} s2 hi => by unfold Itr; simpa [intsD] using hi⟩
def vRng1 (da : DA) (δ : Dl) (P : List D → Prop) : Prop := da δ fun xs => asI xs fun j => (-(2 ^ 62) ≤ j ∧ j < 2 ^ 62) ∧ P (intsD 0 j.toNat)
def vRng2 (da : DA) (δ : Dl) (P : List D → Prop) : Prop := da δ fun xs => asII xs fun i j => (-(2 ^ 62) ≤ i ∧ i < 2 ^ 62 ∧ -(2 ^ 62) ≤ j ∧ j < 2 ^ 62) ∧ P (intsD i (j - i).toNat)
theorem Rps.ints1 {H : Hp} {j : Int} {vs : List V} (h : Rps K H [.int j] vs) : vs = [.int j] := by
  obtain ⟨fp, x, r, f1, f2, rfl, _, ⟨rfl, _⟩, ⟨rfl, _⟩⟩ := h; rfl
theorem it_rng1 {u : TA} {da : DA} (ha : AR K Γ u da) : IT K Γ (iRng1 u) (vRng1 da) :=
  ⟨fun δ P P' k h => ha.mono _ _ _ (fun x z => by obtain ⟨j, rfl, z⟩ := asI_out z; exact ⟨z.1, k _ z.2⟩) h,
   fun {B0 fps δ σ H R} o h => ha.run o (ha.mono _ _ _ (fun xs z vs H' s r => by
    obtain ⟨j, rfl, z⟩ := asI_out z
    exact ⟨j, r.ints1, z.1.1, z.1.2, z.2 _ H' [] s (fun _ _ _ h => (nomatch h)) fun B _ _ _ => itr_ok⟩) h)⟩
def vLoop (dg : D → Dl → (Dl → Prop) → Prop) (db : DS) (E : DEnds) : List D → Dl → Prop
  | [], δ => E.nx δ
  | x :: xs, δ => dg x δ fun δ' => db { nx := vLoop dg db E xs, ct := vLoop dg db E xs, bk := E.nx, rt := E.rt } δ'
def vFor (di : DI) (dg : D → Dl → (Dl → Prop) → Prop) (db : DS) (E : DEnds) (δ : Dl) : Prop := di δ fun ds => vLoop dg db E ds δ
theorem RtI.base {B1 B0 : Hp} {fps : Nat → List Addr} {H : Hp} {fp : List Addr} (r : RtI B1 Γr fps H fp) (s : Same B0 B1) : RtI B0 Γr fps H fp := ⟨r.nd, r.mu, fun a ha => s.free (r.nw a ha), r.dj⟩
theorem st_for {wi : TI} {di : DI} {g : TG} {dg : D → Dl → (Dl → Prop) → Prop} {tb : TS} {db : DS} (hi : IT K Γ wi di) (hg : GT K Γ g dg) (hb : ST K ρ Γr Γ tb Γ Γ db) : ST K ρ Γr Γl (tFor wi g tb) Γ Γ (vFor di dg db) := by
  intro B0 Dn E fps δ σ H k o h
  refine hi.run o (hi.mono _ _ _ (fun ds z J H1 fq s1 n1 hit => ?_) h)
  obtain ⟨B1, sB, o1, ag⟩ := (o.same s1).rebase
  have hJ : ItOk K J B1 ds := hit B1 o1.b0 (fun a ha => ag a fun j hj => n1 j hj a ha) fun a u e im => by
    rw [ag a fun j hj ha => ((o1.own j hj).2 a ha).2.notup u e im]; exact e
  refine ⟨fun i m σ H => m = ds.length - i ∧ i ≤ ds.length ∧ ∃ fps δ, Ok K B1 Γ fps δ σ H ∧ vLoop dg db E (ds.drop i) δ, ⟨ds.length, by omega, Nat.zero_le _, fps, δ, o1, by rw [List.drop_zero]; exact z⟩, ?_⟩
  rintro i m σ2 H2 ⟨rfl, hi2, fps2, δ2, o2, z2⟩
  by_cases hlt : i < ds.length
  · refine .inr ⟨hJ.go o2.b0 hlt, _, fun σ' H' q => q, fun x H3 hy => ?_⟩
    obtain ⟨s3, fp, r3, n3⟩ := hJ.yld o2.b0 hy (List.getElem?_eq_getElem hlt)
    rw [List.drop_eq_getElem_cons hlt] at z2
    refine hg.run (o2.same s3) r3 (fun j hj a ha hz => n3 a ha ((o2.own j hj).2 a hz).1) (hg.mono _ _ _ _ (fun δ' z' fps' σ' o' e' => ?_) z2)
    refine hb (E := { nx := vLoop dg db E (ds.drop (i + 1)), ct := vLoop dg db E (ds.drop (i + 1)), bk := E.nx, rt := E.rt }) ⟨fun o4 z4 => ⟨ds.length - (i + 1), by omega, rfl, hlt, _, _, o4, z4⟩, fun o4 z4 => k.nx (o4.base sB) z4, fun o4 z4 => ⟨ds.length - (i + 1), by omega, rfl, hlt, _, _, o4, z4⟩, fun o4 r4 i4 z4 => k.rt (o4.base sB) r4 (fun y => (i4 y).base sB) z4⟩ o' z'
  · have e : i = ds.length := by omega
    subst e
    rw [List.drop_length] at z2
    exact .inl ⟨hJ.stop o2.b0 (Nat.le_refl _), k.nx (o2.base sB) z2⟩
def vWhile (c : DT) (db : DS) (E : DEnds) (δ : Dl) : Prop := ∃ W : Nat → Dl → Prop, (∃ m, W m δ) ∧ ∀ m δ, W m δ → c δ fun b => if b = true then db { nx := fun δ' => ∃ m', m' < m ∧ W m' δ', ct := fun δ' => ∃ m', m' < m ∧ W m' δ', bk := E.nx, rt := E.rt } δ else E.nx δ
theorem st_while {c : TT} {dc : DT} {tb : TS} {db : DS} (hc : TR K Γ c dc) (hb : ST K ρ Γr Γ tb Γ Γ db) : ST K ρ Γr Γl (tWhile c tb) Γ Γ (vWhile dc db) := by
  intro B0 Dn E fps δ σ H k o h
  obtain ⟨W, ⟨m, w0⟩, turn⟩ := h
  refine ⟨fun m σ H => ∃ fps δ, Ok K B0 Γ fps δ σ H ∧ W m δ, ⟨m, fps, δ, o, w0⟩, ?_⟩
  rintro m σ2 H2 ⟨fps2, δ2, o2, w2⟩
  refine hc.run o2 (hc.mono _ _ _ (fun b z H' s => ite_imp (fun z => ?_) (fun z => k.nx (o2.same s) z) z) (turn m δ2 w2))
  refine ⟨fun σ H => ∃ m', m' < m ∧ ∃ fps δ, Ok K B0 Γ fps δ σ H ∧ W m' δ, fun σ' H' q => q, hb (E := { nx := fun δ' => ∃ m', m' < m ∧ W m' δ', ct := fun δ' => ∃ m', m' < m ∧ W m' δ', bk := E.nx, rt := E.rt }) ⟨?_, fun o4 z4 => k.nx o4 z4, ?_, k.rt⟩ (o2.same s) z⟩
  · rintro fps δ σ H o4 ⟨m', h1, h2⟩
    exact ⟨m', h1, fps, δ, o4, h2⟩
  · rintro fps δ σ H o4 ⟨m', h1, h2⟩
    exact ⟨m', h1, fps, δ, o4, h2⟩
def vEach (f : D → (List D → Prop) → Prop) : List D → List D → (List D → Prop) → Prop
  | [], acc, P => P acc
  | x :: xs, acc, P => f x fun ys => vEach f xs (acc ++ ys) P
theorem vEach_mono {f : D → (List D → Prop) → Prop} (hf : ∀ x P P', (∀ z, P z → P' z) → f x P → f x P') : ∀ xs acc (P P' : List D → Prop), (∀ z, P z → P' z) → vEach f xs acc P → vEach f xs acc P'
  | [], acc, P, P', k, h => k _ h
  | x :: xs, acc, P, P', k, h => hf x _ _ (fun z h => vEach_mono hf xs _ P P' k h) h
def cbaseD (k : Nat) (idx : List Nat) (δ : Dl) : Dl := List.replicate k none ++ idx.map fun i => (δ[i]?).getD none
theorem cb_ok {k : Nat} {idx : List Nat} {B0 : Hp} {fps : Nat → List Addr} {δ : Dl} {σ : St} {H : Hp} (o : Ok K B0 Γ fps δ σ H) : Ok K H [] (fun j => match (cbaseD k idx δ)[j]? with | some (some _) => fps (idx.getD (j - k) 0) | _ => []) (cbaseD k idx δ) (cbase k idx σ) H := by
  refine ⟨by simp [cbaseD, cbase, caps], Same.refl H, fun i d e => ?_, fun i h => ?_, fun _ h => (nomatch h), fun _ h => (nomatch h)⟩
  · rw [e]
    unfold cbaseD at e
    unfold cbase caps
    by_cases hi : i < k
    · rw [List.getElem?_append_left (by simpa using hi)] at e
      simp [hi] at e
    · rw [List.getElem?_append_right (by simpa using hi), List.length_replicate, List.getElem?_map] at e
      cases ej : idx[i - k]? with
      | none => rw [ej] at e; simp at e
      | some j =>
        rw [ej] at e
        simp only [Option.map_some, Option.some.injEq] at e
        have e' : δ[j]? = some (some d) := by
          cases q : δ[j]? with
          | none => rw [q] at e; cases e
          | some x => rw [q] at e; simp at e; rw [e]
        obtain ⟨v, h1, h2⟩ := o.val j d e'
        refine ⟨v, ?_, ?_⟩
        · rw [List.getElem?_append_right (by simpa using hi), List.length_replicate, List.getElem?_map, ej]
          simp [h1]
        · show Rf K H d v (fps (idx.getD (i - k) 0))
          rw [List.getD_eq_getElem?_getD, ej]
          exact h2
  · show (match (cbaseD k idx δ)[i]? with | some (some _) => _ | _ => _) = _
    split
    · exact absurd (by assumption) (h _)
    · rfl
def vBody (dg : D → Dl → (Dl → Prop) → Prop) (dt : DT) (de : DE) (δ : Dl) (x : D) (R : List D → Prop) : Prop := dg x δ fun δ2 => dt δ2 fun b => if b = true then de δ2 fun y => R [y] else R []
def vComp (di : DI) (dg : D → Dl → (Dl → Prop) → Prop) (dt : DT) (de : DE) (k : Nat) (idx : List Nat) (δ : Dl) (P : DK) : Prop := di δ fun ds => ds.length ≤ 1000 ∧ vEach (vBody dg dt de (cbaseD k idx δ)) ds [] fun ys => P (.lst ys)
theorem vBody_mono {Γ' : List Nat} {g : TG} {dg : D → Dl → (Dl → Prop) → Prop} {tt : TT} {dt : DT} (hg : GT K Γ' g dg) (ht : TR K Γ' tt dt) (hm : ∀ δ (P P' : DK), (∀ x, P x → P' x) → de δ P → de δ P') (δ : Dl) : ∀ x P P', (∀ z, P z → P' z) → vBody dg dt de δ x P → vBody dg dt de δ x P' :=
  fun x P P' k h => hg.mono _ _ _ _ (fun δ2 h => ht.mono _ _ _ (fun b h => ite_imp (hm _ _ _ fun y h => k _ h) (k _) h) h) h
theorem em_comp {wi : TI} {di : DI} {g : TG} {dg : D → Dl → (Dl → Prop) → Prop} {tt : TT} {dt : DT} {k : Nat} {idx : List Nat} (hi : IT K [] wi di) (hg : GT K [] g dg) (ht : TR K [] tt dt) (he : EM K [] [] te de) :
    EM K Γ [] (tComp wi g tt te k idx) (vComp di dg dt de k idx) := by
  have hm := vBody_mono hg ht he.mono
  refine ⟨fun δ P P' k h => hi.mono _ _ _ (fun ds z => ⟨z.1, vEach_mono (hm _) _ _ _ _ (fun ys h => k _ h) z.2⟩) h, fun {B0 fps δ σ H Q} o h => hi.run (o.sub (Γ' := []) fun _ h => (nomatch h)) (hi.mono _ _ _ (fun ds z J H1 fq s1 n1 hit => ?_) h)⟩
  have hJ : ItOk K J H1 ds := hit H1 (Same.refl _) (fun _ _ => rfl) fun a u e im => e
  obtain ⟨hz, z⟩ := z
  refine ⟨fun i m vs H2 => m = ds.length - i ∧ i ≤ ds.length ∧ Same H1 H2 ∧ vs.length ≤ i ∧ ∃ ys fp, Rfs K H2 ys vs fp ∧ Nw H1 H2 nf [] fp ∧ vEach (vBody dg dt de (cbaseD k idx δ)) (ds.drop i) ys fun ys => ∀ v H' fp, Same H H' → Rf K H' (.lst ys) v fp → Nw H H' fps [] fp → Q v H',
    ⟨ds.length, by omega, Nat.zero_le _, Same.refl _, Nat.zero_le _, [], [], ⟨rfl, rfl⟩, Nw.nil, by rw [List.drop_zero]; exact z⟩, ?_⟩
  rintro i m vs H2 ⟨rfl, hi2, s2, hvs, ys, fp, r2, n2, z2⟩
  by_cases hlt : i < ds.length
  · refine .inr ⟨hJ.go s2 hlt, le1000 (by omega), _, fun vs' H' q => q, fun x H3 hy => ?_⟩
    obtain ⟨s3, fx, r3, n3⟩ := hJ.yld s2 hy (List.getElem?_eq_getElem hlt)
    rw [List.drop_eq_getElem_cons hlt] at z2
    have oi := (cb_ok (k := k) (idx := idx) ((o.same s1).same (s2.trans s3)))
    refine hg.run oi r3 (fun _ h => (nomatch h)) (hg.mono _ _ _ _ (fun δ' z' fps' σ' o' e' => ?_) z2)
    refine ht.run o' (ht.mono _ _ _ (fun b z' H4 s4 => ite_imp (fun z' => he.run (o'.same s4) (he.mono _ _ _ (fun y z' v H5 f5 s5 r5 n5 => ?_) z')) (fun z' => ?_) z') z')
    · have s25 := s3.trans (s4.trans s5)
      refine ⟨ds.length - (i + 1), by omega, rfl, hlt, s2.trans s25, by simp; omega, ys ++ [y], fp ++ f5, (r2.same s25).append (Rfs.one r5), ⟨?_, fun a ha => ?_, fun a ha => ?_⟩, z'⟩
      · refine List.nodup_append.mpr ⟨n2.nd, n5.nd, fun a h1 b h2 e => ?_⟩
        subst e
        exact ((n2.mu a h1).same (s3.trans s4)).some (n5.fresh a h2)
      · rcases List.mem_append.mp ha with h | h
        · exact (n2.mu a h).same s25
        · exact n5.mu a h
      · rcases List.mem_append.mp ha with h | h
        · exact n2.src a h
        · exact .inl ((s2.trans (s3.trans s4)).free (n5.fresh a h))
    · have s24 := s3.trans s4
      dsimp only at z'
      rw [List.append_nil] at z'
      exact ⟨ds.length - (i + 1), by omega, rfl, hlt, s2.trans s24, by omega, ys, fp, r2.same s24, n2.same s24, z'⟩
  · have e : i = ds.length := by omega
    subst e
    rw [List.drop_length] at z2
    refine .inl ⟨hJ.stop s2 (Nat.le_refl _), le1000 (by omega), fun p hp => ?_⟩
    have hs : Same H2 (upd H2 p (.lst vs)) := Same.new' hp
    refine z2 _ _ (p :: fp) ((s1.trans s2).trans hs) ⟨p, vs, fp, rfl, upd_same, rfl, r2.same hs⟩ ⟨List.nodup_cons.mpr ⟨fun h => (n2.mu p h).some hp, n2.nd⟩, fun a ha => ?_, fun a ha => ?_⟩
    · rcases List.mem_cons.mp ha with e | h
      · subst e; exact .inl ⟨vs, upd_same⟩
      · exact (n2.mu a h).same hs
    · rcases List.mem_cons.mp ha with e | h
      · subst e; exact .inl ((s1.trans s2).free hp)
      · exact .inl (s1.free (n2.fresh a h))
def vYes (_u0 : Dl) (P : Bool → Prop) : Prop := P true
theorem tr_yes : TR K Γ tYes vYes := ⟨fun _ _ _ k h => k _ h, fun {_ _ _ _ H _} o q => q H (Same.refl H)⟩
def startD (N : List Str) (ds : List D) : Dl := ds.map some ++ List.replicate (N.length - ds.length) none
theorem Rfs.split {H : Hp} : ∀ {ds : List D} {vs : List V} {fp : List Addr}, Rfs K H ds vs fp → ∃ fps : Nat → List Addr, (∀ i d, ds[i]? = some d → ∃ v, vs[i]? = some v ∧ Rf K H d v (fps i)) ∧ ∀ i, ds.length ≤ i → fps i = []
  | [], vs, fp, h => ⟨fun _ => [], fun i d e => by simp at e, fun _ _ => rfl⟩
  | d :: ds, vs, fp, h => by
    obtain ⟨x, r, f1, f2, rfl, rfl, h1, h2⟩ := h
    obtain ⟨fps, k1, k2⟩ := Rfs.split h2
    refine ⟨fun i => match i with | 0 => f1 | j + 1 => fps j, fun i d' e => ?_, fun i hi => ?_⟩
    · cases i with
      | zero => simp at e; subst e; exact ⟨x, rfl, h1⟩
      | succ j => simpa using k1 j d' (by simpa using e)
    · cases i with
      | zero => simp at hi
      | succ j => exact k2 j (by simpa using hi)
theorem start_ok {N : List Str} {ds : List D} {vs : List V} {H : Hp} (h : Rps K H ds vs) : ∃ fps, Ok K H [] fps (startD N ds) (L2.start N vs) H := by
  obtain ⟨fp, h⟩ := h
  have hl := h.length
  obtain ⟨fps, k1, k2⟩ := h.split
  refine ⟨fps, by simp [startD, L2.start, hl], Same.refl H, fun i d e => ?_, fun i e => ?_, fun _ h => (nomatch h), fun _ h => (nomatch h)⟩
  · unfold startD at e
    unfold L2.start
    by_cases hi : i < ds.length
    · rw [List.getElem?_append_left (by simpa using hi), List.getElem?_map, List.getElem?_eq_getElem hi] at e
      simp at e
      obtain ⟨v, h1, h2⟩ := k1 i d (by rw [List.getElem?_eq_getElem hi, e])
      exact ⟨v, by rw [List.getElem?_append_left (by simpa [hl] using hi), List.getElem?_map, h1]; rfl, h2⟩
    · rw [List.getElem?_append_right (by simpa using hi), List.getElem?_replicate] at e
      split at e <;> cases e
  · by_cases hi : i < ds.length
    · refine absurd ?_ (e ds[i])
      unfold startD
      rw [List.getElem?_append_left (by simpa using hi), List.getElem?_map, List.getElem?_eq_getElem hi]
      rfl
    · exact k2 i (by omega)
abbrev endsD (P : DK) : DEnds := ⟨fun _ => P .non, fun x _ => P x, fun _ => False, fun _ => False⟩
theorem fn_val {N : List Str} {S : DSp} (hs : ST K true [] [] t [] Γn d) (hd : ∀ ds P, S ds P → d (endsD P) (startD N ds)) :
    ∀ {vs H Q E}, spP K S vs H Q E → t { nx := fun _ H' => Q .non H', rt := Q } (L2.start N vs) H := by
  rintro vs H Q E ⟨ds, r, h⟩
  obtain ⟨fps, o⟩ := start_ok (N := N) r
  refine hs (E := endsD _) ⟨fun {fps δ σ H'} o z => ?_, fun o (z : False) => z.elim, fun o (z : False) => z.elim, fun o r i z => ?_⟩ o (hd ds _ h)
  · exact z _ H' [] o.b0 ⟨rfl, rfl⟩ Nw.nil
  · exact z _ _ _ o.b0 r ⟨(i rfl).nd, (i rfl).mu, fun a ha => .inl ((i rfl).nw a ha)⟩
theorem fn_valR {N : List Str} {S : DSp} (hs : ST K false [] [] t [] Γn d) (hd : ∀ ds P, S ds P → d (endsD P) (startD N ds)) :
    ∀ {vs H Q E}, spR K S vs H Q E → t { nx := fun _ H' => Q .non H', rt := Q } (L2.start N vs) H := by
  rintro vs H Q E ⟨ds, r, h⟩
  obtain ⟨fps, o⟩ := start_ok (N := N) r
  refine hs (E := endsD _) ⟨fun {fps δ σ H'} o z => ?_, fun o (z : False) => z.elim, fun o (z : False) => z.elim, fun o r i z => ?_⟩ o (hd ds _ h)
  · exact z _ H' o.b0 ⟨[], rfl, rfl⟩
  · exact z _ _ o.b0 ⟨_, r⟩
end
end L3
set_option Elab.async false
set_option linter.all false
set_option maxRecDepth 100000
set_option maxHeartbeats 4000000
namespace L3
open PySem L2
section
variable {K : PySem.W.Frag} {ρ : Bool} {Γr Γl Γ Γ1 Γ2 Γn M : List Nat} {t u : TS} {te ta tb tx t1 t2 : TE} {de da db dx d1 d2 : DE} {d e : DS}
variable {B0 : Hp} {fps : Nat → List Addr} {δ : Dl} {σ : St} {H H' : Hp}
theorem Ok.write (o : Ok K B0 Γ fps δ σ H) {i : Nat} (hi : i ∈ Γ) {d' : D} {v : V} {fp' : List Addr} (hv : σ[i]? = some (some v)) (r : Rf K H' d' v fp') (nd : fp'.Nodup) (mu : ∀ a ∈ fp', Mu H' a)
    (src : ∀ a ∈ fp', a ∈ fps i ∨ (B0 a = none ∧ ∀ j, a ∉ fps j)) (keep : ∀ b u, b ∉ fps i → H b = some u → H' b = some u) :
    Ok K B0 Γ (fun j => if j = i then fp' else fps j) (δ.set i (some d')) σ H' := by
  have hlt : i < δ.length := by rw [← o.len]; exact (List.getElem?_eq_some_iff.mp hv).1
  refine ⟨by simp [o.len], fun b u e => ?_, fun j d e => ?_, fun j h => ?_, fun j hj => ?_, fun j hj k hk a ha => ?_⟩
  · refine keep b u (fun z => ?_) (o.b0 b u e)
    have := ((o.own i hi).2 b z).1
    rw [e] at this; cases this
  · by_cases h : j = i
    · subst h
      rw [List.getElem?_set] at e
      simp [hlt] at e
      subst e
      exact ⟨v, hv, by rw [if_pos rfl]; exact r⟩
    · rw [List.getElem?_set_ne (Ne.symm h)] at e
      obtain ⟨w, h1, h2⟩ := o.val j d e
      refine ⟨w, h1, ?_⟩
      rw [if_neg h]
      exact h2.mono (fun a ha u e => keep a u (fun z => o.dj i hi j h a z ha) e) fun a u e im => keep a u (fun z => ((o.own i hi).2 a z).2.notup u e im) e
  · by_cases h' : j = i
    · subst h'
      exact absurd (by rw [List.getElem?_set]; simp [hlt]) (h d')
    · rw [if_neg h']
      exact o.non j fun d z => h d (by rw [List.getElem?_set_ne (Ne.symm h')]; exact z)
  · by_cases h : j = i
    · subst h
      rw [if_pos rfl]
      refine ⟨nd, fun a ha => ⟨?_, mu a ha⟩⟩
      rcases src a ha with z | z
      · exact ((o.own j hi).2 a z).1
      · exact z.1
    · rw [if_neg h]
      refine ⟨(o.own j hj).1, fun a ha => ⟨((o.own j hj).2 a ha).1, ?_⟩⟩
      have hn : a ∉ fps i := fun z => o.dj i hi j h a z ha
      rcases ((o.own j hj).2 a ha).2 with ⟨x, z⟩ | ⟨x, z⟩ | ⟨x, z⟩ | ⟨C, dx, fs, z⟩
      · exact .inl ⟨x, keep a _ hn z⟩
      · exact .inr (.inl ⟨x, keep a _ hn z⟩)
      · exact .inr (.inr (.inl ⟨x, keep a _ hn z⟩))
      · exact .inr (.inr (.inr ⟨C, dx, fs, keep a _ hn z⟩))
  · by_cases h : j = i
    · subst h
      rw [if_pos rfl] at ha
      rw [if_neg hk]
      rcases src a ha with z | z
      · exact o.dj j hi k hk a z
      · exact z.2 k
    · rw [if_neg h] at ha
      by_cases hki : k = i
      · rw [if_pos hki]
        intro z
        rcases src a z with y | y
        · exact o.dj j hj i (Ne.symm h) a ha y
        · exact y.2 j ha
      · rw [if_neg hki]
        exact o.dj j hj k hk a ha
def slotL (δ : Dl) (i : Nat) (P : List D → Prop) : Prop := match δ[i]? with | some (some (.lst ds)) => P ds | _ => False
theorem slotL_out {δ : Dl} {i : Nat} {P : List D → Prop} (h : slotL δ i P) : ∃ ds, δ[i]? = some (some (.lst ds)) ∧ P ds := by
  unfold slotL at h; split at h
  · exact ⟨_, by assumption, h⟩
  · exact h.elim
theorem Ok.ownL (o : Ok K B0 Γ fps δ σ H) {i : Nat} {ds : List D} (e : δ[i]? = some (some (.lst ds))) : ∃ a xs fq, σ[i]? = some (some (.ref a)) ∧ H a = some (.lst xs) ∧ fps i = a :: fq ∧ Rfs K H ds xs fq := by
  obtain ⟨v, h1, a, xs, fq, rfl, h2, h3, h4⟩ := o.val i _ e
  exact ⟨a, xs, fq, h1, h2, h3, h4⟩
theorem updKeep {a : Addr} {w : HO} {fp : List Addr} (ha : a ∈ fp) : ∀ b u, b ∉ fp → H b = some u → upd H a w b = some u := fun b u hb e => by
  rw [upd_ne (fun z => hb (by rw [z]; exact ha))]; exact e
def vAppend (M : List Nat) (i : Nat) (de : DE) (E : DEnds) (δ : Dl) : Prop := slotL δ i fun ds => de δ fun x => ds.length < 1000 ∧ E.nx ((kill M δ).set i (some (.lst (ds ++ [x]))))
theorem st_append (i : Nat) (he : EM K Γ M te de) (hi : i ∈ Γ ∧ i ∉ M := by decide) (hM : ∀ j ∈ M, j ∈ Γ := by decide) : ST K ρ Γr Γl (tDrop (tBM K "list" rAppend (tVar i) (tCons te tNil))) Γ (minus Γ M) (vAppend M i de) := by
  intro B0 Dn E fps δ σ H k o h
  obtain ⟨ds, e, h⟩ := slotL_out h
  obtain ⟨a, xs, fq, h1, h2, h3, h4⟩ := o.ownL e
  refine ⟨.ref a, h1, .inl ⟨rfl, xs, .inl (.inl h2)⟩, he.run o (he.mono _ _ _ (fun x z v H1 fp s r n => ?_) h)⟩
  refine ⟨a, xs, v, rfl, rfl, s _ _ h2, by rw [h4.length]; exact Nat.lt_of_lt_of_le z.1 (le1000 (Nat.le_refl _)), ?_⟩
  have ok := (o.kill M).same s
  have hil : i ∈ minus Γ M := mem_minus.mpr hi
  have hown := o.own i hi.1
  rw [h3] at hown
  obtain ⟨nd, hmu⟩ := hown
  obtain ⟨na, ndq⟩ := List.nodup_cons.mp nd
  have hfa : ∀ b ∈ fp, b ≠ a ∧ b ∉ fq := fun b hb => by
    have : b ∉ fps i := fun z => by
      rcases n.src b hb with y | ⟨j, hj, y⟩
      · exact o.dom z y
      · exact o.dj j (hM j hj) i (fun w => hi.2 (by rw [w]; exact hj)) b y z
    rw [h3] at this
    exact ⟨fun z => this (by rw [z]; exact List.mem_cons_self), fun z => this (List.mem_cons_of_mem _ z)⟩
  have nt := ((hmu a List.mem_cons_self).2.same s).notup
  refine k.nx (ok.write hil (d' := .lst (ds ++ [x])) (fp' := a :: (fq ++ fp)) h1 ⟨a, xs ++ [v], fq ++ fp, rfl, upd_same, rfl, ?_⟩ ?_ (fun b hb => ?_) (fun b hb => ?_) ?_) z.2
  · exact ((h4.same s).upd na nt).append ((Rfs.one r).upd (fun w => (hfa a w).1 rfl) nt)
  · refine List.nodup_cons.mpr ⟨fun w => ?_, List.nodup_append.mpr ⟨ndq, n.nd, fun b h1 c h2 z => ?_⟩⟩
    · rcases List.mem_append.mp w with w | w
      · exact na w
      · exact (hfa a w).1 rfl
    · subst z; exact (hfa b h2).2 h1
  · refine Mu.upd ?_ (.inl ⟨_, rfl⟩)
    rcases List.mem_cons.mp hb with w | w
    · subst w; exact .inl ⟨xs, s _ _ h2⟩
    · rcases List.mem_append.mp w with w | w
      · exact (hmu b (List.mem_cons_of_mem _ w)).2.same s
      · exact n.mu b w
  · show b ∈ (if i ∈ M then [] else fps i) ∨ _
    rw [if_neg hi.2, h3]
    rcases List.mem_cons.mp hb with w | w
    · subst w; exact .inl List.mem_cons_self
    · rcases List.mem_append.mp w with w | w
      · exact .inl (List.mem_cons_of_mem _ w)
      · refine .inr ⟨?_, fun j => ?_⟩
        · rcases n.src b w with y | ⟨j, hj, y⟩
          · exact o.b0.free y
          · exact ((o.own j (hM j hj)).2 b y).1
        · show b ∉ (if j ∈ M then [] else fps j)
          split
          · exact List.not_mem_nil
          · rename_i hj
            intro z
            rcases n.src b w with y | ⟨j', hj', y⟩
            · exact o.dom z y
            · exact o.dj j' (hM j' hj') j (fun q => hj (by rw [q]; exact hj')) b y z
  · show ∀ b u, b ∉ (if i ∈ M then [] else fps i) → _
    rw [if_neg hi.2, h3]
    exact updKeep List.mem_cons_self
theorem Rfs.set {H : Hp} {x : D} {v : V} {fp : List Addr} (r : Rf K H x v fp) (nd : fp.Nodup) : ∀ {ds : List D} {xs : List V} {fq : List Addr} {j : Nat}, Rfs K H ds xs fq → fq.Nodup → (∀ a ∈ fp, a ∉ fq) → j < ds.length →
    ∃ fq', Rfs K H (ds.set j x) (xs.set j v) fq' ∧ fq'.Nodup ∧ ∀ a ∈ fq', a ∈ fq ∨ a ∈ fp
  | [], xs, fq, j, h, _, _, hj => by simp at hj
  | d :: ds, xs, fq, j, h, hn, hd, hj => by
    obtain ⟨y, ys, f1, f2, rfl, rfl, h1, h2⟩ := h
    obtain ⟨n1, n2, n3⟩ := List.nodup_append.mp hn
    cases j with
    | zero =>
      refine ⟨fp ++ f2, ⟨v, ys, fp, f2, rfl, rfl, r, h2⟩, List.nodup_append.mpr ⟨nd, n2, fun a ha b hb z => ?_⟩, fun a ha => ?_⟩
      · subst z; exact hd a ha (List.mem_append_right _ hb)
      · exact (List.mem_append.mp ha).elim .inr fun z => .inl (List.mem_append_right _ z)
    | succ j =>
      obtain ⟨fq', r', nd', k'⟩ := Rfs.set r nd (j := j) h2 n2 (fun a ha z => hd a ha (List.mem_append_right _ z)) (by simpa using hj)
      refine ⟨f1 ++ fq', ⟨y, ys.set j v, f1, fq', rfl, rfl, h1, r'⟩, List.nodup_append.mpr ⟨n1, nd', fun a ha b hb z => ?_⟩, fun a ha => ?_⟩
      · subst z
        rcases k' a hb with w | w
        · exact n3 a ha a w rfl
        · exact hd a w (List.mem_append_left _ ha)
      · rcases List.mem_append.mp ha with w | w
        · exact .inl (List.mem_append_left _ w)
        · exact (k' a w).imp (List.mem_append_right _) id
theorem asI1_out {x : D} {P : Int → Prop} (h : asI [x] P) : ∃ j, x = .int j ∧ P j := by
  obtain ⟨j, e, h⟩ := asI_out h; cases e; exact ⟨j, rfl, h⟩
def asLst (o : Option D) (P : List D → Prop) : Prop := match o with | some (.lst es) => P es | _ => False
def vClear (i : Nat) (E : DEnds) (δ : Dl) : Prop := slotL δ i fun _ => E.nx (δ.set i (some (.lst [])))
def cutD (ds : List D) (lo hi : Option Int) : List D := (ds.drop (HT.sIx ds.length 0 lo)).take (HT.sIx ds.length ds.length hi - HT.sIx ds.length 0 lo)
abbrev DO := Dl → (Option Int → Prop) → Prop
structure OR (K : PySem.W.Frag) (Γ : List Nat) (t : TO) (d : DO) : Prop where
  mono : ∀ δ (P P' : Option Int → Prop), (∀ x, P x → P' x) → d δ P → d δ P'
  run : ∀ {B0 fps δ σ H Q}, Ok K B0 Γ fps δ σ H → d δ (fun x => ∀ H', Same H H' → Q x H') → t σ H Q
def vNoPart (_u0 : Dl) (P : Option Int → Prop) : Prop := P none
def vPart (d : DE) (δ : Dl) (P : Option Int → Prop) : Prop := d δ fun x => asI [x] fun i => P (some i)
theorem or_none : OR K Γ tNoPart vNoPart := ⟨fun _ _ _ k h => k _ h, fun {_ _ _ _ H _} o q => q H (Same.refl H)⟩
theorem or_some (h : ER K Γ te de) : OR K Γ (tPart te) (vPart de) := ⟨fun δ P P' k q => h.mono _ _ _ (fun x z => by obtain ⟨j, rfl, z⟩ := asI1_out z; exact k _ z) q,
  fun o q => h.run o (h.mono _ _ _ (fun x z v H' s r => by obtain ⟨j, rfl, z⟩ := asI1_out z; exact ⟨j, r.int, z H' s⟩) q)⟩
def vSl (de : DE) (dl dh : DO) (δ : Dl) (P : DK) : Prop := de δ fun x => dl δ fun l => dh δ fun u => asL x fun ds => ds.all D.scal = true ∧ P (.lst (cutD ds l u))
theorem cut_map {ds : List D} {lo hi : Option Int} : cutV (ds.map D.toV) lo hi = (cutD ds lo hi).map D.toV := by
  unfold cutV cutD
  rw [List.length_map, List.map_take, List.map_drop]
theorem cut_scal {ds : List D} {lo hi : Option Int} (h : ds.all D.scal = true) : (cutD ds lo hi).all D.scal = true := by
  unfold cutD
  rw [List.all_eq_true] at h ⊢
  exact fun x hx => h x (List.mem_of_mem_drop (List.mem_of_mem_take hx))
theorem em_sl {tl th : TO} {dl dh : DO} (he : ER K Γ te de) (hl : OR K Γ tl dl) (hh : OR K Γ th dh) : EM K Γ [] (tSl (rSlL K) te tl th) (vSl de dl dh) :=
  ⟨fun δ P P' k h => he.mono _ _ _ (fun x z => hl.mono _ _ _ (fun l z => hh.mono _ _ _ (fun u z => by obtain ⟨ds, e, z⟩ := asL_out z; exact asL_in e ⟨z.1, k _ z.2⟩) z) z) h,
   fun {B0 fps δ σ H Q} o h => he.run o (he.mono _ _ _ (fun x z v H1 s1 r1 => hl.run (o.same s1) (hl.mono _ _ _ (fun l z H2 s2 => hh.run ((o.same s1).same s2) (hh.mono _ _ _ (fun u z H3 s3 => by
    obtain ⟨ds, e, z⟩ := asL_out z
    obtain ⟨a, xs, fq, rfl, hs, hr⟩ := (r1.same (s2.trans s3)).seq e
    obtain ⟨rfl, rfl⟩ := hr.scals z.1
    refine ⟨a, _, rfl, hs, fun p hp => ?_⟩
    rw [cut_map]
    have s4 : Same H3 (upd H3 p (.lst ((cutD ds l u).map D.toV))) := Same.new' hp
    refine z.2 _ _ [p] (((s1.trans s2).trans s3).trans s4) ⟨p, _, [], rfl, upd_same, rfl, Rfs.ofScals (cut_scal z.1)⟩ ⟨by simp, fun b hb => ?_, fun b hb => ?_⟩
    · cases List.mem_singleton.mp hb; exact .inl ⟨_, upd_same⟩
    · cases List.mem_singleton.mp hb; exact .inl (((s1.trans s2).trans s3).free hp)) z)) z)) h)⟩
def vCat (x : D) (y : D) (P : DK) : Prop := match x, y with | .lst a, .lst b => (a.all D.scal = true ∧ b.all D.scal = true ∧ a.length + b.length ≤ 1000) ∧ P (.lst (a ++ b)) | _, _ => False
theorem new1 {H : Hp} {p : Addr} {ds : List D} (h : ds.all D.scal = true) (hp : H p = none) : Same H (upd H p (.lst (ds.map D.toV))) ∧ Rf K (upd H p (.lst (ds.map D.toV))) (.lst ds) (.ref p) [p] ∧ Nw H (upd H p (.lst (ds.map D.toV))) nf [] [p] :=
  ⟨Same.new' hp, ⟨p, _, [], rfl, upd_same, rfl, Rfs.ofScals h⟩, ⟨by simp, fun b hb => by cases List.mem_singleton.mp hb; exact .inl ⟨_, upd_same⟩, fun b hb => by cases List.mem_singleton.mp hb; exact .inl hp⟩⟩
def repD (xs : List D) (k : Nat) : List D := (List.replicate k xs).flatten
def vRep (x : D) (y : D) (P : DK) : Prop := match x, y with | .lst a, .int k => (a.all D.scal = true ∧ (-(2 ^ 63) ≤ k ∧ k < 2 ^ 63) ∧ a.length * k.toNat ≤ 1000) ∧ P (.lst (repD a k.toNat)) | _, _ => False
theorem o_rep : OpV K rRep vRep := ⟨fun x y P P' k h => by unfold vRep at h ⊢; revert h; split <;> first | exact fun h => ⟨h.1, k _ h.2⟩ | exact id, fun {H x y v w Q} r1 r2 h => by
  unfold vRep at h
  split at h
  · rename_i a n
    obtain ⟨⟨s1, ⟨b1, b2⟩, hl⟩, h⟩ := h
    obtain ⟨f1, l1, xs, q1, rfl, e1, _, hr1⟩ := r1
    obtain ⟨rfl, _⟩ := hr1.scals s1
    refine ⟨l1, n, _, rfl, r2.int, e1, b1, b2, by rw [List.length_map]; exact le1000 hl, fun p hp => ?_⟩
    have : (List.replicate n.toNat (a.map D.toV)).flatten = (repD a n.toNat).map D.toV := by unfold repD; rw [List.map_flatten, List.map_replicate]
    rw [this]
    obtain ⟨n1, n2, n3⟩ := new1 (K := K) (ds := repD a n.toNat) (by
      rw [List.all_eq_true] at s1 ⊢
      intro x hx
      unfold repD at hx
      obtain ⟨l, h1, h2⟩ := List.mem_flatten.mp hx
      rw [(List.mem_replicate.mp h1).2] at h2
      exact s1 x h2) hp
    exact h _ _ _ n1 n2 n3
  · exact h.elim⟩
def vLen (xs : List D) (P : DK) : Prop := match xs with | [x] => (match x with | .tup ds => P (.int ds.length) | x => asL x fun ds => P (.int ds.length)) | _ => False
theorem Rps.one {H : Hp} {x : D} {vs : List V} (h : Rps K H [x] vs) : ∃ v, vs = [v] ∧ Rp K H x v := by
  obtain ⟨fp, y, r, f1, f2, rfl, _, h1, ⟨rfl, _⟩⟩ := h
  exact ⟨y, rfl, f1, h1⟩
theorem c_len : CallV K (fun xs H Q => ∃ p ys, xs = [.ref p] ∧ (SqL K H p ys ∨ SqT K H p ys) ∧ Q (.int ys.length) H) vLen := ⟨fun xs P P' k h => by
    unfold vLen at h ⊢
    revert h
    split
    · split
      · exact fun h => k _ h
      · exact fun h => by obtain ⟨ds, e, z⟩ := asL_out h; exact asL_in e (k _ z)
    · exact id,
  fun {H xs vs Q} r h => by
    unfold vLen at h
    split at h
    · obtain ⟨v, rfl, r0⟩ := r.one
      split at h
      · obtain ⟨a, ys, fq, rfl, hs, hr⟩ := r0.tup
        refine ⟨a, ys, rfl, .inr hs, ?_⟩
        rw [hr.length]
        exact h _ H [] (Same.refl H) ⟨rfl, rfl⟩ Nw.nil
      · obtain ⟨ds, e, h⟩ := asL_out h
        obtain ⟨a, ys, fq, rfl, hs, hr⟩ := r0.seq e
        refine ⟨a, ys, rfl, .inl hs, ?_⟩
        rw [hr.length]
        exact h _ H [] (Same.refl H) ⟨rfl, rfl⟩ Nw.nil
    · exact h.elim⟩
theorem vLen_lst {ds : List D} {P : DK} : vLen [.lst ds] P ↔ P (.int ds.length) := Iff.rfl
theorem vLen_scr {ds : List Int} {P : DK} : vLen [.scr ds] P ↔ P (.int ds.length) := by
  show P (.int ((ds.map D.int).length : Nat)) ↔ _
  rw [List.length_map]
def toInts : List D → Option (List Int)
  | [] => some []
  | .int i :: ds => (toInts ds).map (i :: ·)
  | _ => none
theorem toInts_map : ∀ {ns : List Int}, toInts (ns.map D.int) = some ns
  | [] => rfl
  | n :: ns => by rw [List.map_cons, toInts, toInts_map]; rfl
def asNs (x : D) (P : List Int → Prop) : Prop := asL x fun ds => match toInts ds with | some ns => P ns | none => False
def vSum (xs : List D) (P : DK) : Prop := match xs with | [x] => asNs x fun ns => P (.int ns.sum) | _ => False
def vList (xs : List D) (P : DK) : Prop := match xs with | [x] => asL x fun ds => ds.all D.scal = true ∧ P (.lst ds) | _ => False
end
end L3
set_option Elab.async false
set_option linter.all false
set_option maxRecDepth 100000
set_option maxHeartbeats 4000000
namespace L3
open PySem L2
open PyProof.Rows (Ordered)
section
variable {K : PySem.W.Frag} {Γ M : List Nat} {te ta tb : TE} {de da db : DE}
theorem em_comp0 {wi : TI} {di : DI} {g : TG} {dg : D → Dl → (Dl → Prop) → Prop} {k : Nat} {idx : List Nat} (hi : IT K [] wi di) (hg : GT K [] g dg) (he : EM K [] [] te de) : EM K Γ [] (tComp0 wi g te k idx) (vComp di dg vYes de k idx) := by
  rw [tComp0_eq]; exact em_comp hi hg tr_yes he
def D.tyn : D → Option String
  | .non => some "NoneType" | .bl _ => some "bool" | .int _ => some "int" | .str _ => some "str" | .lst _ => some "list" | .tup _ => some "tuple" | .dic _ => some "dict" | .dit _ => some "dict" | .scr _ => none | .pin _ _ => none | .ins _ _ _ => none
theorem Rp.ty {H : Hp} {d : D} {v : V} {n : String} (h : Rp K H d v) (e : d.tyn = some n) : TyOf K H v (.type n) := by
  obtain ⟨fp, h⟩ := h
  cases d with
  | non => cases e; obtain ⟨rfl, _⟩ := h; exact .non
  | bl b => cases e; obtain ⟨rfl, _⟩ := h; exact .bl _
  | int b => cases e; obtain ⟨rfl, _⟩ := h; exact .int _
  | str b => cases e; obtain ⟨rfl, _⟩ := h; exact .str _
  | lst ds => cases e; obtain ⟨a, xs, fq, rfl, h2, _⟩ := h; exact .lst h2
  | tup ds => cases e; obtain ⟨a, xs, rfl, h2, _⟩ := h; exact .tup h2
  | dic ds => cases e; obtain ⟨a, rfl, h2, _⟩ := h; exact .dK h2
  | dit ds => cases e; obtain ⟨a, rfl, h2, _⟩ := h; exact .dT h2
  | scr ns => cases e
  | pin a d => cases e
  | ins C ns ds => cases e
def isB (m n : String) : Bool := m == n || (m == "bool" && n == "int")
def KitOk (n : String) : Prop := ∀ (K : PySem.W.Frag) (d : D) (m : String), d.tyn = some m → PySem.W.kitOne K (.type m) (.type n) = some (isB m n)
theorem kit_tuple : KitOk "tuple" := fun K d m e => by cases d <;> cases e <;> first | exact kit_same | with_unfolding_all rfl
theorem kit_str : KitOk "str" := fun K d m e => by cases d <;> cases e <;> first | exact kit_same | with_unfolding_all rfl
def vIs (n : String) (da : DE) (δ : Dl) (P : DK) : Prop := da δ fun x => match x.tyn with | some m => P (.bl (isB m n)) | none => False
theorem em_isinst {n : String} (hk : KitOk n) (ha : ER K Γ ta da) : EM K Γ [] (tCB (fun xs H Q => ∃ x n t b, xs = [x, .ty n] ∧ TyOf K H x t ∧ PySem.W.kitOne K t (.type n) = some b ∧ Q (.bl b) H) (tCons ta (tCons (tC (.ty n)) tNil))) (vIs n da) :=
  ⟨fun δ P P' k h => ha.mono _ _ _ (fun x z => by
      revert z; split
      · exact fun z => k _ z
      · exact id) h,
   fun {B0 fps δ σ H Q} o h => ha.run o (ha.mono _ _ _ (fun x z v H1 s1 r1 => by
      split at z
      · rename_i m e
        exact ⟨v, n, _, _, rfl, r1.ty e, hk K x m e, z _ H1 [] s1 ⟨rfl, rfl⟩ Nw.nil⟩
      · exact z.elim) h)⟩
mutual
def D.old : D → Option L2.D
  | .non => some .non | .bl b => some (.bl b) | .int i => some (.int i) | .str x => some (.str x)
  | .lst ds => (D.olds ds).map L2.D.lst | .tup ds => (D.olds ds).map L2.D.tup
  | .dic _ => none | .dit _ => none | .scr _ => none | .pin _ _ => none | .ins _ _ _ => none
def D.olds : List D → Option (List L2.D)
  | [] => some []
  | d :: ds => match D.old d, D.olds ds with | some x, some xs => some (x :: xs) | _, _ => none
end
mutual
theorem Rf.old {H : Hp} : ∀ {d : D} {d' : L2.D} {v : V} {fp : List Addr}, Rf K H d v fp → d.old = some d' → L2.Rf H d' v fp
  | .non, d', v, fp, h, e => by rw [D.old] at e; cases e; rw [L2.Rf]; exact h
  | .bl _, d', v, fp, h, e => by rw [D.old] at e; cases e; rw [L2.Rf]; exact h
  | .int _, d', v, fp, h, e => by rw [D.old] at e; cases e; rw [L2.Rf]; exact h
  | .str _, d', v, fp, h, e => by rw [D.old] at e; cases e; rw [L2.Rf]; exact h
  | .lst ds, d', v, fp, h, e => by
    rw [D.old] at e
    cases q : D.olds ds with
    | none => rw [q] at e; cases e
    | some es =>
      rw [q] at e; cases e
      obtain ⟨a, xs, fq, e1, e2, e3, h⟩ := h
      rw [L2.Rf]
      exact ⟨a, xs, fq, e1, e2, e3, Rfs.old h q⟩
  | .tup ds, d', v, fp, h, e => by
    rw [D.old] at e
    cases q : D.olds ds with
    | none => rw [q] at e; cases e
    | some es =>
      rw [q] at e; cases e
      obtain ⟨a, xs, e1, e2, h⟩ := h
      rw [L2.Rf]
      exact ⟨a, xs, e1, e2, Rfs.old h q⟩
  | .dic _, d', v, fp, h, e => by rw [D.old] at e; cases e
  | .dit _, d', v, fp, h, e => by rw [D.old] at e; cases e
  | .scr _, d', v, fp, h, e => by rw [D.old] at e; cases e
  | .pin _ _, d', v, fp, h, e => by rw [D.old] at e; cases e
  | .ins _ _ _, d', v, fp, h, e => by rw [D.old] at e; cases e
theorem Rfs.old {H : Hp} : ∀ {ds : List D} {ds' : List L2.D} {vs : List V} {fp : List Addr}, Rfs K H ds vs fp → D.olds ds = some ds' → L2.Rfs H ds' vs fp
  | [], ds', vs, fp, h, e => by rw [D.olds] at e; cases e; rw [L2.Rfs]; exact h
  | d :: ds, ds', vs, fp, h, e => by
    rw [D.olds] at e
    obtain ⟨x, r, f1, f2, e1, e2, h1, h2⟩ := h
    cases q1 : d.old with
    | none => rw [q1] at e; simp at e
    | some x' =>
      cases q2 : D.olds ds with
      | none => rw [q1, q2] at e; simp at e
      | some xs' =>
        rw [q1, q2] at e
        cases e
        rw [L2.Rfs]
        exact ⟨x, r, f1, f2, e1, e2, Rf.old h1 q1, Rfs.old h2 q2⟩
end
abbrev dI (xs : List Int) : D := .lst (xs.map D.int)
abbrev dT (t : List (List Int)) : D := .lst (t.map dI)
theorem olds_ints : ∀ {ns : List Int}, D.olds (ns.map D.int) = some (ns.map L2.D.int)
  | [] => by rw [List.map_nil, D.olds]; rfl
  | n :: ns => by rw [List.map_cons, D.olds, olds_ints, D.old]; rfl
theorem old_dI {ns : List Int} : (dI ns).old = some (L2.dI ns) := by rw [D.old, olds_ints]; rfl
theorem olds_rows : ∀ {t : List (List Int)}, D.olds (t.map dI) = some (t.map L2.dI)
  | [] => by rw [List.map_nil, D.olds]; rfl
  | n :: ns => by rw [List.map_cons, D.olds, olds_rows, old_dI]; rfl
theorem old_dT {t : List (List Int)} : (dT t).old = some (L2.dT t) := by rw [D.old, olds_rows]; rfl
def vSorted (b : Bool) (xs : List D) (P : DK) : Prop := match xs with | [x] => asNs x fun ns => ns.length < 64 ∧ ∀ ms : List Int, ms.Perm ns → Ordered b ms → P (dI ms) | _ => False
def vRev (da : DE) (δ : Dl) (P : DK) : Prop := da δ fun x => asL x fun ds => ds.all D.scal = true ∧ P (.lst ds.reverse)
def vAbs (xs : List D) (P : DK) : Prop := asI xs fun i => P (.int (if i < 0 then -i else i))
theorem c_abs : CallV K (fun xs H Q => ∃ i, xs = [.int i] ∧ Q (.int (if i < 0 then -i else i)) H) vAbs := ⟨fun xs P P' k h => by obtain ⟨i, rfl, z⟩ := asI_out h; exact k _ z,
  fun {H xs vs Q} r h => by obtain ⟨i, rfl, z⟩ := asI_out h; exact ⟨i, r.ints1, z _ H [] (Same.refl H) ⟨rfl, rfl⟩ Nw.nil⟩⟩
def vMax2 (xs : List D) (P : DK) : Prop := asII xs fun i j => P (.int (if j > i then j else i))
def vMin2 (xs : List D) (P : DK) : Prop := asII xs fun i j => P (.int (if j < i then j else i))
def D.isNon : D → Bool | .non => true | _ => false
theorem Rp.non_iff {H : Hp} {d : D} {v : V} (h : Rp K H d v) : decide (v = .non) = d.isNon := by
  obtain ⟨fp, h⟩ := h
  cases d with
  | non => obtain ⟨rfl, _⟩ := h; rfl
  | bl b => obtain ⟨rfl, _⟩ := h; rfl
  | int b => obtain ⟨rfl, _⟩ := h; rfl
  | str b => obtain ⟨rfl, _⟩ := h; rfl
  | lst ds => obtain ⟨a, xs, fq, rfl, _⟩ := h; rfl
  | tup ds => obtain ⟨a, xs, rfl, _⟩ := h; rfl
  | dic ds => obtain ⟨a, rfl, _⟩ := h; rfl
  | dit ds => obtain ⟨a, rfl, _⟩ := h; rfl
  | scr ns => obtain ⟨a, rfl, _⟩ := h; rfl
  | pin a d => obtain ⟨rfl, _⟩ := h; rfl
  | ins C ns ds => obtain ⟨a, dx, xs, fq, rfl, _⟩ := h; rfl
def vIsN (neg : Bool) (x : D) (y : D) (P : DK) : Prop := match y with | .non => P (.bl (if neg then !x.isNon else x.isNon)) | _ => False
theorem vIsN_mono {neg : Bool} : ∀ x y (P P' : DK), (∀ z, P z → P' z) → vIsN neg x y P → vIsN neg x y P' := fun x y P P' k h => by
  unfold vIsN at h ⊢; revert h; split <;> first | exact k _ | exact id
theorem o_notN : OpV K (fun x y H Q => y = .non ∧ Q (.bl (!decide (x = .non))) H) (vIsN true) := ⟨vIsN_mono, fun {H x y v w Q} r1 r2 h => by
  unfold vIsN at h
  split at h
  · refine ⟨r2.choose_spec.1, ?_⟩
    rw [r1.non_iff]; exact h _ H [] (Same.refl H) ⟨rfl, rfl⟩ Nw.nil
  · exact h.elim⟩
end
theorem spP_len {K : PySem.W.Frag} {S : DSp} {n : Nat} (hS : ∀ ds P, S ds P → ds.length = n) {vs : List V} {H : Hp} {Q : VK} {E : XK} (h : spP K S vs H Q E) : vs.length = n := by
  obtain ⟨ds, ⟨fp, r⟩, h⟩ := h
  rw [r.length]; exact hS _ _ h
theorem spR_len {K : PySem.W.Frag} {S : DSp} {n : Nat} (hS : ∀ ds P, S ds P → ds.length = n) {vs : List V} {H : Hp} {Q : VK} {E : XK} (h : spR K S vs H Q E) : vs.length = n := by
  obtain ⟨ds, ⟨fp, r⟩, h⟩ := h
  rw [r.length]; exact hS _ _ h
theorem loop_inv {dg : D → Dl → (Dl → Prop) → Prop} {db : DS} {E : DEnds} (I : Nat → Dl → Prop) {ds : List D} {δ : Dl} (h0 : I 0 δ)
    (hs : ∀ i d δ (N : Dl → Prop), ds[i]? = some d → I i δ → (∀ δ', I (i + 1) δ' → N δ') → dg d δ fun δ' => db { nx := N, ct := N, bk := E.nx, rt := E.rt } δ')
    (hd : ∀ δ, I ds.length δ → E.nx δ) : vLoop dg db E ds δ := by
  have key : ∀ (n : Nat) (i : Nat) (δ : Dl), ds.length - i = n → i ≤ ds.length → I i δ → vLoop dg db E (ds.drop i) δ := by
    intro n
    induction n with
    | zero =>
      intro i δ h1 h2 hI
      have : i = ds.length := by omega
      subst this
      rw [List.drop_length]
      exact hd δ hI
    | succ n ih =>
      intro i δ h1 h2 hI
      have hlt : i < ds.length := by omega
      rw [List.drop_eq_getElem_cons hlt]
      exact hs i _ δ _ (List.getElem?_eq_getElem hlt) hI fun δ' h' => ih (i + 1) δ' (by omega) hlt h'
  have := key ds.length 0 δ (by omega) (Nat.zero_le _) h0
  rwa [List.drop_zero] at this
end L3
namespace L3
open PySem L2
theorem sc_of {K : PySem.W.Frag} {H : Hp} {a : Addr} {xs : List V} (hO : Only H) (h : SqL K H a xs) : Sc K H a xs := by
  rcases h with (h | h) | h
  · rcases hO a with z | ⟨o, ys, z⟩
    · rw [z] at h; cases h
    · rw [z] at h; cases h
  · exact .inl h
  · exact .inr h
end L3
set_option Elab.async false
set_option linter.all false
set_option maxRecDepth 100000
set_option maxHeartbeats 4000000
namespace L3
open PySem
open L2 hiding D Rf Rfs Rp dI dT
section
variable {di : DI} {dg : D → Dl → (Dl → Prop) → Prop} {dt : DT} {de : DE} {k : Nat} {idx : List Nat} {δ : Dl} {P : DK}
theorem comp_any {α : Type} {as : List α} {f : α → D} {p : α → Bool} {g : α → D} (hdi : ∀ R : List D → Prop, R (as.map f) → di δ R) (hl : as.length ≤ 1000)
    (hb : ∀ a ∈ as, ∀ R : List D → Prop, R (if p a then [g a] else []) → vBody dg dt de (cbaseD k idx δ) (f a) R) (h : P (.lst ((as.filter p).map g))) : vComp di dg dt de k idx δ P := by
  refine hdi _ ⟨by rw [List.length_map]; exact hl, ?_⟩
  have key : ∀ (as : List α) (acc : List D), (∀ a ∈ as, ∀ R : List D → Prop, R (if p a then [g a] else []) → vBody dg dt de (cbaseD k idx δ) (f a) R) → P (.lst (acc ++ (as.filter p).map g)) → vEach (vBody dg dt de (cbaseD k idx δ)) (as.map f) acc fun ys => P (.lst ys) := by
    intro as
    induction as with
    | nil => intro acc _ h; rw [List.filter_nil, List.map_nil, List.append_nil] at h; exact h
    | cons a as ih =>
      intro acc hb h
      refine hb a List.mem_cons_self _ (ih _ (fun x hx => hb x (List.mem_cons_of_mem _ hx)) ?_)
      by_cases hp : p a = true
      · rw [if_pos hp, List.append_assoc]; rwa [List.filter_cons_of_pos hp] at h
      · rw [if_neg hp, List.append_nil]; rwa [List.filter_cons_of_neg hp] at h
  exact key as [] hb h
theorem comp_all {α : Type} {as : List α} {f : α → D} {g : α → D} (hdi : ∀ R : List D → Prop, R (as.map f) → di δ R) (hl : as.length ≤ 1000)
    (hb : ∀ a ∈ as, ∀ R : List D → Prop, R [g a] → vBody dg dt de (cbaseD k idx δ) (f a) R) (h : P (.lst (as.map g))) : vComp di dg dt de k idx δ P := by
  refine comp_any (p := fun _ => true) hdi hl (fun a ha R h => hb a ha R h) ?_
  rw [List.filter_eq_self.mpr (fun _ _ => rfl)]
  exact h
variable {db : DS} {E : DEnds}
theorem loop_any {α : Type} {as : List α} {f : α → D} (I : Nat → Dl → Prop) (h0 : I 0 δ)
    (hs : ∀ i a δ (N : Dl → Prop), as[i]? = some a → I i δ → (∀ δ', I (i + 1) δ' → N δ') → dg (f a) δ fun δ' => db { nx := N, ct := N, bk := E.nx, rt := E.rt } δ')
    (hd : ∀ δ, I as.length δ → E.nx δ) : vLoop dg db E (as.map f) δ := by
  refine loop_inv I h0 (fun i d δ N e hI hN => ?_) (fun δ hI => hd δ (by rwa [List.length_map] at hI))
  rw [List.getElem?_map] at e
  cases q : as[i]? with
  | none => rw [q] at e; cases e
  | some a => rw [q] at e; cases e; exact hs i a δ N q hI hN
theorem loop_rng {lo : Int} {n : Nat} (I : Nat → Dl → Prop) (h0 : I 0 δ)
    (hs : ∀ i δ (N : Dl → Prop), i < n → I i δ → (∀ δ', I (i + 1) δ' → N δ') → dg (.int (lo + (i : Int))) δ fun δ' => db { nx := N, ct := N, bk := E.nx, rt := E.rt } δ')
    (hd : ∀ δ, I n δ → E.nx δ) : vLoop dg db E (intsD lo n) δ := by
  refine loop_any (as := List.range n) (f := fun (k : Nat) => D.int (lo + (k : Int))) I h0 (fun i a δ N e hI hN => ?_) (fun δ hI => hd δ (by rwa [List.length_range] at hI))
  obtain ⟨h1, h2⟩ := List.getElem?_eq_some_iff.mp e
  rw [List.getElem_range] at h2
  subst h2
  exact hs i δ N (by simpa using h1) hI hN
end
theorem scal_ints {ns : List Int} : (ns.map D.int).all D.scal = true := by rw [List.all_map, List.all_eq_true]; exact fun _ _ => rfl
theorem ixN_nat {n : Nat} {i : Int} (h0 : 0 ≤ i) (h : i < n) : ixN n i = some i.toNat := by unfold ixN; rw [if_pos h0, if_pos h]
theorem emod_lt {x n : Int} (h : 0 < n) : 0 ≤ x % n ∧ x % n < n := ⟨Int.emod_nonneg x (by omega), Int.emod_lt_of_pos x h⟩
section
variable {P : DK}
def asO (o : Option D) (P : DK) : Prop := match o with | some d => P d | none => False
theorem asO_some {d : D} : asO (some d) P ↔ P d := Iff.rfl
theorem asB_bl {k : Bool} {Q : Bool → Prop} : asB (.bl k) Q ↔ Q k := Iff.rfl
theorem vI0_int {g : Int → Int → D} {i j : Int} : vI0 g (.int i) (.int j) P ↔ P (g i j) := Iff.rfl
theorem vI_int {C : Int → Int → Prop} {g : Int → Int → D} {i j : Int} : vI C g (.int i) (.int j) P ↔ C i j ∧ P (g i j) := Iff.rfl
theorem vU_int {g : Int → D} {i : Int} : vU g (.int i) P ↔ P (g i) := Iff.rfl
theorem asI_int {i : Int} {Q : Int → Prop} : asI [.int i] Q ↔ Q i := Iff.rfl
theorem asII_int {i j : Int} {Q : Int → Int → Prop} : asII [.int i, .int j] Q ↔ Q i j := Iff.rfl
theorem asL_lst {ds : List D} {Q : List D → Prop} : asL (.lst ds) Q ↔ Q ds := Iff.rfl
theorem asL_scr {ns : List Int} {Q : List D → Prop} : asL (.scr ns) Q ↔ Q (ns.map D.int) := Iff.rfl
theorem vIxL_lst {ds : List D} {i : Int} : vIxL (.lst ds) (.int i) P ↔ asO (atI ds i) P := Iff.rfl
theorem vIxL_scr {ns : List Int} {i : Int} : vIxL (.scr ns) (.int i) P ↔ asO (atI (ns.map D.int) i) P := Iff.rfl
theorem vIxT_tup {ds : List D} {i : Int} : vIxT (.tup ds) (.int i) P ↔ asO (atI ds i) P := Iff.rfl
theorem vLen_tup {ds : List D} : vLen [.tup ds] P ↔ P (.int ds.length) := Iff.rfl
theorem vIsN_non {neg : Bool} {x : D} : vIsN neg x .non P ↔ P (.bl (if neg then !x.isNon else x.isNon)) := Iff.rfl
theorem vCat_lst {a b : List D} : vCat (.lst a) (.lst b) P ↔ (a.all D.scal = true ∧ b.all D.scal = true ∧ a.length + b.length ≤ 1000) ∧ P (.lst (a ++ b)) := Iff.rfl
theorem vRep_lst {a : List D} {k : Int} : vRep (.lst a) (.int k) P ↔ (a.all D.scal = true ∧ (-(2 ^ 63) ≤ k ∧ k < 2 ^ 63) ∧ a.length * k.toNat ≤ 1000) ∧ P (.lst (repD a k.toNat)) := Iff.rfl
theorem vList_lst {ds : List D} : vList [.lst ds] P ↔ ds.all D.scal = true ∧ P (.lst ds) := Iff.rfl
theorem vList_scr {ns : List Int} : vList [.scr ns] P ↔ P (dI ns) := by
  show ((ns.map D.int).all D.scal = true ∧ P _) ↔ _
  rw [scal_ints]; exact ⟨fun h => h.2, fun h => ⟨rfl, h⟩⟩
theorem vSum_ints {ns : List Int} : vSum [dI ns] P ↔ P (.int ns.sum) := by
  show (match toInts (ns.map D.int) with | some ns => P (.int ns.sum) | none => False) ↔ _
  rw [toInts_map]
theorem asNs_ints {ns : List Int} {Q : List Int → Prop} : asNs (dI ns) Q ↔ Q ns := by
  show (match toInts (ns.map D.int) with | some ns => Q ns | none => False) ↔ _
  rw [toInts_map]
theorem vgTup2 {g : List D → Dl → (Dl → Prop) → Prop} {n : Nat} {ds : List D} {δ : Dl} {Q : Dl → Prop} : vgTup n g (.tup ds) δ Q ↔ ds.length = n ∧ g ds δ Q := Iff.rfl
theorem vgCons_c {g : D → Dl → (Dl → Prop) → Prop} {gs : List D → Dl → (Dl → Prop) → Prop} {x : D} {xs : List D} {δ : Dl} {Q : Dl → Prop} : vgCons g gs (x :: xs) δ Q ↔ g x δ fun δ' => gs xs δ' Q := Iff.rfl
theorem vgNil_n {δ : Dl} {Q : Dl → Prop} : vgNil [] δ Q ↔ Q δ := Iff.rfl
theorem tyn_int {i : Int} : (D.int i).tyn = some "int" := rfl
theorem tyn_bl {i : Bool} : (D.bl i).tyn = some "bool" := rfl
theorem tyn_lst {i : List D} : (D.lst i).tyn = some "list" := rfl
theorem tyn_tup {i : List D} : (D.tup i).tyn = some "tuple" := rfl
theorem tyn_str {i : Str} : (D.str i).tyn = some "str" := rfl
theorem tyn_non : D.non.tyn = some "NoneType" := rfl
theorem isB_ii : isB "int" "int" = true := rfl
theorem isB_ib : isB "int" "bool" = false := rfl
theorem isB_ll : isB "list" "list" = true := rfl
theorem isB_tt : isB "tuple" "tuple" = true := rfl
theorem isB_ss : isB "str" "str" = true := rfl
theorem isB_bb : isB "bool" "bool" = true := rfl
theorem isB_bi : isB "bool" "int" = true := rfl
theorem isB_il : isB "int" "list" = false := rfl
theorem isB_nl : isB "NoneType" "list" = false := rfl
end
end L3
set_option Elab.async false
set_option linter.all false
set_option maxRecDepth 100000
set_option maxHeartbeats 4000000
namespace L2
open PySem PySem.Spec PyProof.Rows
section
variable {X : Cx} {K : PySem.W.Frag}
theorem bools_are : ∀ {bs : List Bool} {its : List Value}, Vals (bs.map V.bl) its → LSm.BoolsAre its bs
  | [], _, .nil => .nil
  | b :: bs, _, .cons r t => by
    cases (show _ = Value.bool b from r)
    exact .cons b (bools_are t)
theorem call_allL (hK : X.K = K) (hc : X.calm = true) : CallR X (.builtin "all") (fun xs H Q => ∃ (a : Addr) (bs : List Bool), xs = [.ref a] ∧ SqL K H a (bs.map V.bl) ∧ Q (.bl (bs.all id)) H) := by
  subst hK
  intro pins s σ H xs us Q I r h
  obtain ⟨l, bs, rfl, hS, q⟩ := h
  obtain ⟨u, rfl, ru⟩ := vals1 r
  obtain rfl : u = Value.ref l := ru
  obtain ⟨vs, rv, pl, hz⟩ := I.list hS
  have hb := bools_are rv
  have hl := pl.isList
  have hlt : l < s.heap.objs.size := by obtain ⟨_, e, _⟩ := hl; exact Heap.lt_size e
  refine PySem.call_all_walk (wpAny_pyIter_list hl ?_)
  refine ⟨s.heap.objs.size, [s.heap.objs.size, l], [s.heap.objs.size], vs.toArray.size, _, _, fun i => (bs[i]?).getD true, rfl, Walks.list (A := X.A.in1) (I.ok.hd hc) _ l (Nat.ne_of_lt hlt) vs.toArray,
    ⟨⟨_, Heap.get?_push_size _ rfl, rfl, rfl⟩, hl.push _⟩, fun i v s' Q' E' hP hQ => ?_, fun h' tk hk => ?_⟩
  · obtain ⟨b, e, rfl⟩ := hb.get i v (by simpa using hP)
    simp only [e, Option.getD_some] at hQ
    exact wpAny_truthy_bool hQ
  · have e : ((List.range vs.toArray.size).all fun i => (bs[i]?).getD true) = bs.all id := by
      rw [List.size_toArray, hb.length]; exact LSm.range_all bs
    rw [e]
    exact ⟨.bl _, H, I.kept (LSm.kept_iter hk), rfl, q⟩
end
end L2
namespace L2
open PySem PySem.Spec PyProof.Rows
section
variable {X : Cx} {K : PySem.W.Frag}
end
end L2
namespace L2
open PySem PySem.Spec PyProof.Rows
section
variable {X : Cx}
def constInts : List Expr → Option (List Int)
  | [] => some []
  | .Constant (.int n) _ _ :: es => (constInts es).map (n :: ·)
  | _ => none
def tInts : List Int → TA
  | [] => tNil
  | n :: ns => tCons (tC (.int n)) (tInts ns)
theorem pa_consts : ∀ {es : List Expr} {ns : List Int}, constInts es = some ns → PA X es (tInts ns)
  | [], ns, h => by cases h; exact pa_nil
  | .Constant (.int n) j p :: es, ns, h => by
    rw [constInts] at h
    cases e : constInts es with
    | none => rw [e] at h; cases h
    | some ms =>
      rw [e] at h; cases h
      exact pa_cons pe_int (pa_consts e)
end
end L2
set_option Elab.async false
set_option linter.all false
set_option maxRecDepth 100000
set_option maxHeartbeats 4000000
namespace L3
open PySem
open L2 hiding D Rf Rfs Rp dI dT
section
variable {K : PySem.W.Frag} {ρ : Bool} {Γr Γl Γ Γ1 Γ2 Γn M : List Nat} {t u : TS} {te ta tb tx t1 t2 : TE} {de da db dx d1 d2 : DE} {d e : DS}
variable {B0 : Hp} {fps : Nat → List Addr} {δ : Dl} {σ : St} {H H' : Hp}
def vMinL (xs : List D) (P : DK) : Prop := match xs with | [x] => asNs x fun ns => 0 < ns.length ∧ ∀ M, M ∈ ns → (∀ x ∈ ns, M ≤ x) → P (.int M) | _ => False
def vMaxL (xs : List D) (P : DK) : Prop := match xs with | [x] => asNs x fun ns => 0 < ns.length ∧ ∀ M, M ∈ ns → (∀ x ∈ ns, x ≤ M) → P (.int M) | _ => False
def toBools : List D → Option (List Bool)
  | [] => some []
  | .bl i :: ds => (toBools ds).map (i :: ·)
  | _ => none
theorem toBools_map : ∀ {ns : List Bool}, toBools (ns.map D.bl) = some ns
  | [] => rfl
  | n :: ns => by rw [List.map_cons, toBools, toBools_map]; rfl
theorem toBools_eq : ∀ {ds : List D} {ns : List Bool}, toBools ds = some ns → ds = ns.map D.bl
  | [], ns, h => by cases h; rfl
  | .bl i :: ds, ns, h => by
    rw [toBools] at h
    cases e : toBools ds with
    | none => rw [e] at h; cases h
    | some ms => rw [e] at h; cases h; rw [toBools_eq e]; rfl
  | .non :: _, _, h => by cases h
  | .int _ :: _, _, h => by cases h
  | .str _ :: _, _, h => by cases h
  | .lst _ :: _, _, h => by cases h
  | .tup _ :: _, _, h => by cases h
  | .dic _ :: _, _, h => by cases h
  | .dit _ :: _, _, h => by cases h
  | .scr _ :: _, _, h => by cases h
def asBs (x : D) (P : List Bool → Prop) : Prop := asL x fun ds => match toBools ds with | some ns => P ns | none => False
theorem asBs_out {x : D} {P : List Bool → Prop} (h : asBs x P) : ∃ ns, x.items = some (ns.map D.bl) ∧ P ns := by
  obtain ⟨ds, e, h⟩ := asL_out h
  cases q : toBools ds with
  | none => rw [q] at h; exact h.elim
  | some ns => rw [q] at h; rw [toBools_eq q] at e; exact ⟨ns, e, h⟩
theorem asBs_in {x : D} {ns : List Bool} {P : List Bool → Prop} (e : x.items = some (ns.map D.bl)) (h : P ns) : asBs x P := by
  refine asL_in e ?_
  rw [toBools_map]; exact h
theorem Rfs.boolsV {ns : List Bool} {vs : List V} {fp : List Addr} (h : Rfs K H (ns.map D.bl) vs fp) : vs = ns.map V.bl := by
  have hs : (ns.map D.bl).all D.scal = true := by rw [List.all_map, List.all_eq_true]; exact fun _ _ => rfl
  rw [(h.scals hs).1, List.map_map]
  rfl
def vAll (xs : List D) (P : DK) : Prop := match xs with | [x] => asBs x fun ns => P (.bl (ns.all id)) | _ => False
def vAny (xs : List D) (P : DK) : Prop := match xs with | [x] => asBs x fun ns => P (.bl (ns.any id)) | _ => False
theorem c_allL : CallV K (fun xs H Q => ∃ (a : Addr) (bs : List Bool), xs = [.ref a] ∧ SqL K H a (bs.map V.bl) ∧ Q (.bl (bs.all id)) H) vAll := ⟨fun xs P P' k h => by
    unfold vAll at h ⊢
    revert h
    split
    · exact fun h => by obtain ⟨ns, e, z⟩ := asBs_out h; exact asBs_in e (k _ z)
    · exact id,
  fun {H xs vs Q} r h => by
    unfold vAll at h
    split at h
    · obtain ⟨v, rfl, r0⟩ := r.one
      obtain ⟨ns, e, h⟩ := asBs_out h
      obtain ⟨a, ys, fq, rfl, hs, hr⟩ := r0.seq e
      rw [hr.boolsV] at hs
      exact ⟨a, ns, rfl, hs, h _ H [] (Same.refl H) ⟨rfl, rfl⟩ Nw.nil⟩
    · exact h.elim⟩
theorem vAll_bools {ns : List Bool} {P : DK} : vAll [.lst (ns.map D.bl)] P ↔ P (.bl (ns.all id)) := by
  show (match toBools (ns.map D.bl) with | some ns => P (.bl (ns.all id)) | none => False) ↔ _
  rw [toBools_map]
theorem vAny_bools {ns : List Bool} {P : DK} : vAny [.lst (ns.map D.bl)] P ↔ P (.bl (ns.any id)) := by
  show (match toBools (ns.map D.bl) with | some ns => P (.bl (ns.any id)) | none => False) ↔ _
  rw [toBools_map]
theorem vMinL_ints {ns : List Int} {P : DK} : vMinL [dI ns] P ↔ 0 < ns.length ∧ ∀ M, M ∈ ns → (∀ x ∈ ns, M ≤ x) → P (.int M) := asNs_ints
theorem vMaxL_ints {ns : List Int} {P : DK} : vMaxL [dI ns] P ↔ 0 < ns.length ∧ ∀ M, M ∈ ns → (∀ x ∈ ns, x ≤ M) → P (.int M) := asNs_ints
def rngI (n : Nat) : List Int := (List.range n).map fun (k : Nat) => (k : Int)
def vListRng (de : DE) (δ : Dl) (P : DK) : Prop := de δ fun x => asI [x] fun j => (j ≤ 100000 ∧ -(2 ^ 62) ≤ j) ∧ P (dI (rngI j.toNat))
theorem Ok.dead (o : Ok K B0 Γ fps δ σ H) (j : Nat) (v : V) (hj : j ∉ Γ) : Ok K B0 Γ (fun i => if i = j then [] else fps i) (δ.set j none) (σ.set j (some v)) H := by
  refine ⟨by simp [o.len], o.b0, fun i d e => ?_, fun i h => ?_, fun i hi => ?_, fun i hi k hk a ha => ?_⟩
  · by_cases h : i = j
    · subst h
      rw [List.getElem?_set] at e
      by_cases hl : i < δ.length
      · simp [hl] at e
      · simp [hl] at e
    · rw [List.getElem?_set_ne (Ne.symm h)] at e
      rw [List.getElem?_set_ne (Ne.symm h), if_neg h]
      exact o.val i d e
  · by_cases h' : i = j
    · rw [if_pos h']
    · rw [if_neg h']; exact o.non i fun d z => h d (by rw [List.getElem?_set_ne (Ne.symm h')]; exact z)
  · have h : i ≠ j := fun z => hj (by rw [← z]; exact hi)
    rw [if_neg h]; exact o.own i hi
  · have h : i ≠ j := fun z => hj (by rw [← z]; exact hi)
    rw [if_neg h] at ha
    split
    · exact List.not_mem_nil
    · exact o.dj i hi k hk a ha
theorem Rfs.take : ∀ {ds : List D} {xs : List V} {fq : List Addr} (n : Nat), Rfs K H ds xs fq → ∃ fq', Rfs K H (ds.take n) (xs.take n) fq'
  | ds, xs, fq, 0, h => ⟨[], rfl, rfl⟩
  | [], xs, fq, n + 1, h => by obtain ⟨rfl, rfl⟩ := h; exact ⟨[], rfl, rfl⟩
  | d :: ds, xs, fq, n + 1, h => by
    obtain ⟨x, r, f1, f2, rfl, rfl, h1, h2⟩ := h
    obtain ⟨fq', h3⟩ := Rfs.take n h2
    exact ⟨f1 ++ fq', x, r.take n, f1, fq', rfl, rfl, h1, h3⟩
def vSlR (de : DE) (dl dh : DO) (δ : Dl) (P : DK) : Prop := de δ fun x => dl δ fun l => dh δ fun u => asL x fun ds => P (.lst (cutD ds l u))
def vCatR (x y : D) (P : DK) : Prop := match x, y with | .lst a, .lst b => a.length + b.length ≤ 1000 ∧ P (.lst (a ++ b)) | _, _ => False
theorem vCatR_lst {a b : List D} {P : DK} : vCatR (.lst a) (.lst b) P ↔ a.length + b.length ≤ 1000 ∧ P (.lst (a ++ b)) := Iff.rfl
def vRepR (x y : D) (P : DK) : Prop := match x, y with | .lst a, .int k => ((-(2 ^ 63) ≤ k ∧ k < 2 ^ 63) ∧ a.length * k.toNat ≤ 1000) ∧ P (.lst (repD a k.toNat)) | _, _ => False
theorem vRepR_lst {a : List D} {k : Int} {P : DK} : vRepR (.lst a) (.int k) P ↔ ((-(2 ^ 63) ≤ k ∧ k < 2 ^ 63) ∧ a.length * k.toNat ≤ 1000) ∧ P (.lst (repD a k.toNat)) := Iff.rfl
def vListR (xs : List D) (P : DK) : Prop := match xs with | [x] => asL x fun ds => P (.lst ds) | _ => False
theorem vListR_lst {ds : List D} {P : DK} : vListR [.lst ds] P ↔ P (.lst ds) := Iff.rfl
def vRevR (da : DE) (δ : Dl) (P : DK) : Prop := da δ fun x => asL x fun ds => P (.lst ds.reverse)
def vAppPop (i k : Nat) (dn : DE) (E : DEnds) (δ : Dl) : Prop := slotL δ i fun ds => slotL δ k fun es => dn δ fun x => asI [x] fun n => (ds.length < 1000 ∧ es.all D.scal = true ∧ 0 ≤ n ∧ n < 2 ^ 63) ∧ asO (es[n.toNat]?) fun y => E.nx ((δ.set k (some (.lst (es.eraseIdx n.toNat)))).set i (some (.lst (ds ++ [y]))))
theorem vEqS_bl {neg : Bool} {i j : Bool} {P : DK} : vEqS neg (.bl i) (.bl j) P ↔ P (.bl (if neg then !decide (i = j) else decide (i = j))) := by
  unfold vEqS
  simp only [D.scal, D.toV, scal, true_and, V.bl.injEq]
theorem vEqS_str {neg : Bool} {i j : Str} {P : DK} : vEqS neg (.str i) (.str j) P ↔ P (.bl (if neg then !decide (i = j) else decide (i = j))) := by
  unfold vEqS
  simp only [D.scal, D.toV, scal, true_and, V.str.injEq]
end
end L3
set_option Elab.async false
set_option linter.all false
set_option maxRecDepth 100000
set_option maxHeartbeats 4000000
namespace L3
open PySem
open L2 hiding D Rf Rfs Rp dI dT
def Rect (n m : Nat) (t : List (List Int)) : Prop := t.length = n ∧ ∀ r ∈ t, r.length = m
abbrev rowAt (t : List (List Int)) (i : Nat) : List Int := t.getD i []
abbrev cellAt (t : List (List Int)) (i j : Nat) : Int := (t.getD i []).getD j 0
abbrev setCell (t : List (List Int)) (i j : Nat) (v : Int) : List (List Int) := t.set i ((t.getD i []).set j v)
theorem rowAt_mem {t : List (List Int)} {i : Nat} (h : i < t.length) : rowAt t i ∈ t := by
  unfold rowAt
  rw [List.getD_eq_getElem?_getD, List.getElem?_eq_getElem h]
  exact List.getElem_mem h
theorem Rect.row {n m : Nat} {t : List (List Int)} (h : Rect n m t) {i : Nat} (hi : i < n) : (rowAt t i).length = m := h.2 _ (rowAt_mem (by rw [h.1]; exact hi))
theorem Rect.set {n m : Nat} {t : List (List Int)} (h : Rect n m t) {i : Nat} {r : List Int} (hr : r.length = m) : Rect n m (t.set i r) := by
  refine ⟨by rw [List.length_set]; exact h.1, fun x hx => ?_⟩
  rcases List.mem_or_eq_of_mem_set hx with z | z
  · exact h.2 x z
  · rw [z]; exact hr
theorem Rect.setCell {n m : Nat} {t : List (List Int)} (h : Rect n m t) {i j : Nat} {v : Int} (hi : i < n) : Rect n m (setCell t i j v) := h.set (by rw [List.length_set]; exact h.row hi)
section
variable {i j : Nat} {δ : Dl} {de d1 d2 dx : DE} {E : DEnds} {t : List (List Int)} {r : List Int} {a b v : Int}
end
theorem map_int {α : Type} {as : List α} {f : α → Int} : as.map (fun a => D.int (f a)) = (as.map f).map D.int := by rw [List.map_map]; rfl
theorem am_cons0 {K : PySem.W.Frag} {Γ : List Nat} {ta : TE} {da : DE} {tr : TA} {dr : DA} (ha : EM K Γ [] ta da) (hr : AM K Γ [] tr dr) : AM K Γ [] (tCons ta tr) (vCons da dr) := am_cons ha hr (fun _ h => (nomatch h)) (fun _ h => (nomatch h))
theorem asO_idx {ds : List D} {a : Int} {P : DK} (h0 : 0 ≤ a) (h : a < ds.length) (k : asO (ds[a.toNat]?) P) : asO (atI ds a) P := by
  unfold atI; rw [ixN_nat h0 h]; exact k
end L3
namespace L3
open PySem
open L2 hiding D Rf Rfs Rp dI dT
def vInts (ns : List Int) (δ : Dl) (P : List D → Prop) : Prop := P (ns.map D.int)
theorem am_consts {K : PySem.W.Frag} {Γ : List Nat} : ∀ {ns : List Int}, AM K Γ [] (tInts ns) (vInts ns)
  | [] => ⟨fun _ _ _ k h => k _ h, fun {_ _ _ _ H _} o q => q [] H [] (Same.refl H) ⟨rfl, rfl⟩ Nw.nil⟩
  | n :: ns => ⟨fun _ _ _ k h => k _ h, fun {B0 fps δ σ H Q} o q => (am_consts (ns := ns)).run o fun vs H' fp s r nw => q (.int n :: vs) H' fp s ⟨.int n, vs, [], fp, rfl, rfl, ⟨rfl, rfl⟩, r⟩ nw⟩
end L3
namespace L3
open PySem
open L2 hiding D Rf Rfs Rp dI dT
theorem cutD_to {ds : List D} {k : Int} (h : 0 ≤ k) : cutD ds none (some k) = ds.take k.toNat := by
  obtain ⟨n, rfl⟩ := Int.eq_ofNat_of_zero_le h
  unfold cutD
  rw [HT.sIx_nat, HT.sIx_none, Nat.sub_zero, List.drop_zero, ← List.take_eq_take_min]
  rfl
theorem atI_c0 {a : D} {ds : List D} : atI (a :: ds) 0 = some a := by
  unfold atI; rw [ixN_nat (by omega) (by rw [List.length_cons]; omega)]; rfl
theorem atI_c1 {a b : D} {ds : List D} : atI (a :: b :: ds) 1 = some b := by
  unfold atI; rw [ixN_nat (by omega) (by rw [List.length_cons, List.length_cons]; omega)]; rfl
theorem atI_c2 {a b c : D} {ds : List D} : atI (a :: b :: c :: ds) 2 = some c := by
  unfold atI; rw [ixN_nat (by omega) (by rw [List.length_cons, List.length_cons, List.length_cons]; omega)]; rfl
theorem atI_c3 {a b c d : D} {ds : List D} : atI (a :: b :: c :: d :: ds) 3 = some d := by
  unfold atI; rw [ixN_nat (by omega) (by rw [List.length_cons, List.length_cons, List.length_cons, List.length_cons]; omega)]; rfl
end L3
set_option Elab.async false
set_option linter.all false
set_option maxRecDepth 100000
set_option maxHeartbeats 4000000
namespace L2
open PySem PySem.Spec PyProof.Rows
section
variable {prog : Program} {w : World} {A : Around} {E : Value → Shared → Prop} {s : Shared}
end
section
variable {X : Cx} {K : PySem.W.Frag}
def GSets (k : Nat) (g : TGs) : Prop := ∀ x σ H Q, g x σ H Q → g x σ H fun σ2 H2 => Q σ2 H2 ∧ σ2.length = σ.length ∧ ∀ j, k ≤ j → σ2[j]? = σ[j]?
theorem GSets.nil {k : Nat} : GSets k gNil := fun x σ H Q q => ⟨q.1, q.2, rfl, fun _ _ => rfl⟩
end
end L2
set_option Elab.async false
set_option linter.all false
set_option maxRecDepth 100000
set_option maxHeartbeats 4000000
namespace Maj
open L2 (fall fall_perm fall_desc fall_length)
def topk (xs : List Int) (k : Nat) : Int := ((fall xs).take k).sum
def msum : List Bool → List Int → Int
  | true :: m, x :: xs => x + msum m xs
  | false :: m, _ :: xs => msum m xs
  | _, _ => 0
def above (one other : List Int) : List Nat := (List.range one.length).filter fun p => decide (topk other (p + 1) < topk one (p + 1))
end Maj
namespace L3
open PySem
open L2 hiding D Rf Rfs Rp dI dT
section
variable {K : PySem.W.Frag} {ρ : Bool} {Γr Γl Γ Γn : List Nat} {te : TE} {de : DE}
def vgLst (n : Nat) (dg : List D → Dl → (Dl → Prop) → Prop) (x : D) (δ : Dl) (P : Dl → Prop) : Prop := asL x fun ds => ds.length = n ∧ dg ds δ P
def vPar (i j : Nat) (da : DA) (E : DEnds) (δ : Dl) : Prop := da δ fun xs => match xs with | [x, y] => E.nx ((δ.set i (some x)).set j (some y)) | _ => False
theorem st_par {u : TA} {da : DA} (i j : Nat) (ha : AS K Γ u da) (hi : i ∉ Γ := by decide) (hj : j ∉ Γ := by decide) : ST K ρ Γr Γl (tPar i j u) Γ Γ (vPar i j da) := by
  intro B0 Dn E fps δ σ H k o h
  refine ha.run o (ha.mono _ _ _ (fun xs z vs H' fp s r n => ?_) h)
  match xs, r, z with
  | [x, y], r, z =>
    obtain ⟨v, r1, f1, f2, rfl, rfl, h1, h2⟩ := r
    obtain ⟨w, r2, f3, f4, rfl, rfl, h3, rfl, rfl⟩ := h2
    refine ⟨v, w, rfl, ?_⟩
    have sub : ∀ {q : Nat}, q ∉ Γ → ∀ a ∈ Γ, a ∈ minus Γ [q] := fun hq a ha => mem_minus.mpr ⟨ha, fun z => hq (by rw [← List.mem_singleton.mp z]; exact ha)⟩
    have o1 := (o.setSh i s h1 fun a ha b hb => n a ha b (List.mem_append_left _ hb)).sub (sub hi)
    refine k.nx ((o1.setSh j (Same.refl H') h3 fun a ha b hb => ?_).sub (sub hj)) z
    rw [if_neg (fun z => hi (by rw [← z]; exact ha))]
    exact n a ha b (List.mem_append_right _ (List.mem_append_left _ hb))
  | [], _, z => exact z.elim
  | [_], _, z => exact z.elim
  | _ :: _ :: _ :: _, _, z => exact z.elim
end
end L3
set_option linter.all false
set_option maxRecDepth 100000
namespace L2
open PySem PySem.Spec PyProof.Rows
theorem ObjOk.there {P : Program} {w : World} {H : Hp} {h : Heap} {a : Addr} {o : HO} (x : ObjOk P w H h a o) : ∃ ob, h.get? a = some ob := by
  cases o with
  | lst xs => obtain ⟨_, _, _, _, e⟩ := x; exact ⟨_, e⟩
  | tup xs => obtain ⟨_, _, _, ob, e, _⟩ := x; exact ⟨_, e⟩
  | dK kvs => obtain ⟨_, _, _, _, o, _, _, e, _⟩ := x; exact ⟨_, e⟩
  | dT kvs => obtain ⟨_, _, _, _, o, _, _, e, _⟩ := x; exact ⟨_, e⟩
  | set S n => obtain ⟨o, _, _, _, e, _⟩ := x; exact ⟨_, e⟩
  | ins C dx fs => obtain ⟨_, _, _, e, _⟩ := x; exact ⟨_, e⟩
  | own y => exact x
  | xd fs => obtain ⟨_, ⟨_, _, _, e, _⟩, _⟩ := x; exact ⟨_, e⟩
  | rng lo hi => obtain ⟨_, _, _, e⟩ := x; exact ⟨_, e⟩
  | frz ob u => obtain ⟨e, _⟩ := x; exact ⟨_, e⟩
  | tbl ps => exact ⟨_, (show h.get? a = some _ from x)⟩
  | met f y => exact ⟨_, (show h.get? a = some _ from x)⟩
  | ext φ => obtain ⟨_, e, _⟩ := x; exact e
def Fly (h : Heap) (H : Hp) (lo : Heap) (a : Addr) (C : Value) : Prop :=
  (H a = none ∧ lo.get? a = none) ∧ ∃ oe vs a0 T oT ts, h.get? a = some oe ∧ (oe.cls = C ∧ vs[0]? = some a0) ∧ oe.data = .fields vs ∧ vs[1]? = some (.ref T) ∧ T ≠ a ∧ h.get? T = some oT ∧ oT.data = .fields ts ∧ ts[3]? = some .none ∧ H T = none ∧ lo.get? T = none
def FlyN (h : Heap) (H : Hp) (lo : Heap) (a : Addr) (C : Value) : Prop :=
  (H a = none ∧ lo.get? a = none) ∧ ∃ oe vs a0, h.get? a = some oe ∧ (oe.cls = C ∧ vs[0]? = some a0) ∧ oe.data = .fields vs ∧ vs[1]? = some .none
def CXR (P : Program) (w : World) : CXT := fun outer H s E e s' => ∃ (a C : Addr) (H' : Hp), e = .ref a ∧ s'.os = s.os ∧ AllBare s'.gens ∧ Un (frs outer) [] H H' s.heap s'.heap ∧ HOk P w H' s'.heap ∧
  Fly s'.heap H' s.heap a (.ref C) ∧ E (.ref C) none H'
section
variable {P : Program} {w : World} {K : PySem.W.Frag} {mg : Str → Option Value} {base : Heap} {N : List Str} {qual : Str} {scope : Scope} {f : Addr} {cd : Value} {A : Around} {outer : List Env} {s0 : Shared} {H0 : Hp} {E : XK}
variable {pins : List (Addr × Obj)} {σ : St} {H' : Hp} {s' : Shared} {a C : Addr} {h2 : Heap}
theorem left_done {as : List Addr} {a0 : Value} (J : Inv (cxOf (CXR P w) P w K mg base N qual scope f cd A outer s0 H0 E) pins σ H' s')
    (has : ∀ b ∈ as, b ∈ frs (envOfC qual scope s0.heap.objs.size f cd :: outer) ∨ (H' b = none ∧ s0.heap.get? b = none))
    (L : Heap.LeftW (PySem.W.hideAll s'.heap as) (envOfC qual scope s0.heap.objs.size f cd :: outer) a (.ref C) a0 s'.heap h2) (ha : H' a = none ∧ s0.heap.get? a = none) (q : E (.ref C) none H') :
    CXR P w outer H0 s0 E (.ref a) { s' with heap := h2 } := by
  obtain ⟨k1, k2, k3, k4⟩ := L
  have bs : Un (frs outer) [] H0 H' s0.heap s'.heap := J.base
  have keepB : ∀ b o, s'.heap.get? b = some o → b ∉ as → h2.get? b = some o := fun b o e n => k1 b o (PySem.W.hideAll_get _ e n)
  have stf : ∀ b ∈ frs (envOfC qual scope s0.heap.objs.size f cd :: outer), H' b = none := J.stkFree
  have sts : ∀ b ∈ frs (envOfC qual scope s0.heap.objs.size f cd :: outer), b ∈ s0.heap.objs.size :: frs outer := J.stkSub
  have trk : ∀ b u, H' b = some u → b ∉ as := fun b u e z => by
    rcases has b z with z | ⟨z, _⟩
    · rw [stf b z] at e; cases e
    · rw [z] at e; cases e
  have nofld : ∀ b ∈ frs (envOfC qual scope s0.heap.objs.size f cd :: outer), ∃ o, s'.heap.get? b = some o ∧ ∀ vs, o.data ≠ .fields vs := fun b hb => (J.stack.mem hb).2
  refine ⟨a, C, H', rfl, J.os, J.bare, ⟨fun b o e n hb hx => ?_, fun b o e n hb hx => ?_, bs.free, fun b o e hx => ?_, bs.tups, bs.frzs, bs.tbls⟩, fun c o e => ?_, ⟨ha, ?_⟩, q⟩
  · refine keepB b o (bs.keep b o e n hb hx) fun z => ?_
    rcases has b z with z | ⟨_, z⟩
    · rcases List.mem_cons.mp (sts b z) with z | z
      · rw [z] at e; exact absurd (Heap.lt_size e) (Nat.lt_irrefl _)
      · exact hb z
    · rw [z] at e; cases e
  · obtain ⟨sl, e1⟩ := bs.slot b o e n hb hx
    obtain ⟨_, o', e', nf⟩ := J.ok.funs.mem hb
    have e' : s0.heap.get? b = some o' := e'
    rw [e] at e'; cases e'
    obtain ⟨sl2, e2⟩ := k4 b { o with slots := sl } e1 nf
    exact ⟨sl2, e2⟩
  · obtain ⟨o', e1⟩ := bs.there b o e hx
    by_cases z : b ∈ as
    · rcases has b z with z | ⟨_, z⟩
      · obtain ⟨o2, e2, nf⟩ := nofld b z
        obtain ⟨sl, e3⟩ := k4 b o2 e2 nf
        exact ⟨_, e3⟩
      · rw [z] at e; cases e
    · exact ⟨o', keepB b o' e1 z⟩
  · refine (J.hok c o e).stay (fun b u hb q => keepB b u q ?_) (fun _ q => q) fun _ _ q => q
    rcases hb with rfl | hb
    · exact trk _ _ e
    · exact trk _ _ hb
  · obtain ⟨oe, vs, T, oT, ts, g1, g2, g3, g4, g5, g6, g7, g8, g9⟩ := k3
    refine ⟨oe, vs, a0, T, oT, ts, g1, g2, g3, g4, g6, g7, g8, g9, ?_, ?_⟩
    · cases r : H' T with
      | none => rfl
      | some u =>
        obtain ⟨ob, e⟩ := (J.hok T u r).there
        rw [PySem.W.hideAll_get as e (trk T u r)] at g5
        cases g5
    · cases r : s0.heap.get? T with
      | none => rfl
      | some u =>
        obtain ⟨o', e1⟩ := bs.there T u r (fun z => (nomatch z))
        by_cases z : T ∈ as
        · rcases has T z with z | ⟨_, z⟩
          · obtain ⟨_, o2, e2, nf⟩ := k2.mem z
            rw [g7] at e2; cases e2
            exact absurd g8 (nf ts)
          · rw [z] at r; cases r
        · rw [PySem.W.hideAll_get as e1 z] at g5; cases g5
theorem leave_x {H : Hp} {s : Shared} (I : Inv (cxOf (CXR P w) P w K mg base N qual scope f cd A outer s0 H0 E) pins σ H s) (os : s'.os = s.os) (bare : AllBare s'.gens)
    (U : Un (frs (envOfC qual scope s0.heap.objs.size f cd :: outer)) [] H H' s.heap s'.heap) (ok : HOk P w H' s'.heap) (fl : FlyN s'.heap H' s.heap a (.ref C) ∨ Fly s'.heap H' s.heap a (.ref C)) (q : E (.ref C) none H') :
    (cxOf (CXR P w) P w K mg base N qual scope f cd A outer s0 H0 E).xe (.ref a) s' := by
  have J : Inv (cxOf (CXR P w) P w K mg base N qual scope f cd A outer s0 H0 E) pins σ H' s' := I.call' os U ok bare fun b hb => (nomatch hb)
  have up : ∀ b, s.heap.get? b = none → s0.heap.get? b = none := fun b n => by
    cases r : s0.heap.get? b with
    | none => rfl
    | some u =>
      obtain ⟨o', e1⟩ := I.base.there b u r (fun z => (nomatch z))
      rw [n] at e1; cases e1
  have hfr : (A.deeper (envOfC qual scope s0.heap.objs.size f cd)).frames = some (envOfC qual scope s0.heap.objs.size f cd :: outer) := J.ok.frames
  have hst : s'.heap.FunFrames base (envOfC qual scope s0.heap.objs.size f cd :: outer) := J.stack
  have hin : ∀ env ∈ (envOfC qual scope s0.heap.objs.size f cd :: outer), ∀ b, env.frame = some b → b ∈ frs (envOfC qual scope s0.heap.objs.size f cd :: outer) := fun env he b hb => List.mem_filterMap.mpr ⟨env, he, hb⟩
  show wpAny _ _ _ _ _ _
  rcases fl with ⟨⟨na, fa⟩, oe, vs, a0, ge, ⟨gc, g0⟩, gd, g1⟩ | ⟨⟨na, fa⟩, oe, vs, a0, T, oT, ts, ge, gc, gd, g1, g2, g3, g4, g5, nT, fT⟩
  · refine wpAny_leaving_firstW (base := PySem.W.hideAll s'.heap (a :: frs (envOfC qual scope s0.heap.objs.size f cd :: outer))) hfr
      (PySem.W.funFrames_hide hst fun env he b hb => List.mem_cons_of_mem _ (hin env he b hb)) rfl ge (fun b o e => PySem.W.of_hideAll _ e) (PySem.W.hideAll_none _ (List.mem_cons_self ..)) gd g1 g0 fun h2 L => ?_
    rw [gc] at L
    refine left_done J (fun b hb => ?_) L ⟨na, up a fa⟩ q
    rcases List.mem_cons.mp hb with rfl | hb
    · exact .inr ⟨na, up _ fa⟩
    · exact .inl hb
  · refine wpAny_leaving_nextW (a0 := a0) (base := PySem.W.hideAll s'.heap (a :: T :: frs (envOfC qual scope s0.heap.objs.size f cd :: outer))) (cls := .ref C) hfr
      (PySem.W.funFrames_hide hst fun env he b hb => List.mem_cons_of_mem _ (List.mem_cons_of_mem _ (hin env he b hb))) rfl
      ⟨oe, vs, T, oT, ts, ge, gc, gd, g1, PySem.W.hideAll_none _ (List.mem_cons_of_mem _ (List.mem_cons_self ..)), g2, g3, g4, g5⟩ (fun b o e => PySem.W.of_hideAll _ e) (PySem.W.hideAll_none _ (List.mem_cons_self ..)) fun h2 L => ?_
    refine left_done J (fun b hb => ?_) L ⟨na, up a fa⟩ q
    rcases List.mem_cons.mp hb with rfl | hb
    · exact .inr ⟨na, up _ fa⟩
    · rcases List.mem_cons.mp hb with rfl | hb
      · exact .inr ⟨nT, up _ fT⟩
      · exact .inl hb
end
def tRaise (C : Addr) (E : XK) (ta : TA) : TS := fun _ σ H => ta σ H fun vs H1 => vs.length ≤ 1000 ∧ E (.ref C) none H1
def Raises (X : Cx) (C : Addr) (E : XK) : Prop := ∀ (pins : List (Addr × Obj)) (σ : St) (H : Hp) (s : Shared) (h' : Heap) (a : Addr) (us : List Value), Inv X pins σ H s → Heap.MadeExcOf s.heap h' a (.ref C) us → E (.ref C) none H → X.xe (.ref a) { s with heap := h' }
theorem raise_x {P : Program} {w : World} {K : PySem.W.Frag} {mg : Str → Option Value} {base : Heap} {N : List Str} {qual : Str} {scope : Scope} {f : Addr} {cd : Value} {A : Around} {outer : List Env} {s0 : Shared} {H0 : Hp} {E : XK} {C : Addr} :
    Raises (cxOf (CXR P w) P w K mg base N qual scope f cd A outer s0 H0 E) C E := fun pins σ H s h' a us I hx q => by
  obtain ⟨t, ht, _, _⟩ := hx.there
  refine leave_x (s' := { s with heap := h' }) I rfl I.bare (Un.kept hx.keeps) (I.hok.kept hx.keeps) (.inl ⟨⟨?_, hx.new⟩, _, _, _, ht, ⟨rfl, rfl⟩, rfl, rfl⟩) q
  cases r : H a with
  | none => rfl
  | some u =>
    obtain ⟨ob, e⟩ := (I.hok a u r).there
    rw [hx.new] at e; cases e
section
variable {X : Cx} {x : Str} {C : Addr} {bmB : List Value} {B newId initId : String} {E : XK} {e : Expr} {es : List Expr} {ta : TA} {np cpos pos : Pos}
theorem ps_raise (O : OwnCls x C bmB newId X.mg X.base) (FB : ExcBaseFacts B newId initId bmB) (hc : X.calm = true) (hg : Gl X x) (hxe : Raises X C E) (ha : PA X (e :: es) ta) (hdb : (x == ("__debug__" : Str)) = false := by decide)
    (he : starEach (e :: es) X.env = (false, eval e X.env) :: starEach es X.env := by rfl) (hpl : (backTo cpos (starEach es X.env)).any (·.1) = false := by rfl) :
    PS X (.Raise (some (.Call (.Name x np) (e :: es) [] cpos)) none pos) (tRaise C E ta) := by
  intro pins s σ H D I h
  obtain ⟨tl, N, nm, q, bs, hdct, sn, sub, ab, col, dd, k0, k1, k2, k3, k5, mN, hC, hN, hni, T⟩ := O.obj
  refine wpAny_Raise_call_subT (C := C) (nm := nm) (q := q) (N := N) (bs := bs) (bm := tl) (hdct := hdct) (sn := sn) (sub := sub) (ab := ab) (col := col) (dd := dd) (k0 := k0) (k1 := k1) (k2 := k2) (k3 := k3) (k5 := k5)
    FB (mN := mN) (T.hasType FB.hasBase) (I.ok.hd hc) (by rw [he]; show (false || (backTo cpos (starEach es X.env)).any (·.1)) = false; rw [hpl]; rfl) hni (ld_glob I hg O.bound ⟨rfl, ?_⟩ hdb)
  have h1 := ha cpos pins s σ H _ I h
  rw [he] at h1 ⊢
  refine Calls.evalArgs_plain (thn h1 fun us s1 ⟨vs, H1, I1, r, q1, q2⟩ => ?_)
  exact ⟨rfl, by show us.length ≤ _; rw [← r.length]; exact Nat.le_of_lt (small1000 q1), I1.bk _ _ hC, hN.keeps I1.bk, T.keeps I1.bk, fun h' a hx => hxe pins σ H1 s1 h' a us I1 hx q2⟩
end
end L2
set_option linter.all false
set_option maxRecDepth 100000
namespace L2
open PySem PySem.Spec PyProof.Rows
abbrev VB : List Value := [.type "ValueError", .type "Exception", .type "BaseException", .type "object"]
def ExcObj (h : Heap) (C : Addr) (ups : List Addr) : Prop := ∃ N nm q bs hdct sn sub ab col dd k0 k1 k2 k3 k5 mN,
  h.get? C = some (excClassObj nm q C N bs (ups.map Value.ref ++ VB) hdct sn sub ab col dd k0 k1 k2 k3 k5 "ValueError.__new__") ∧ h.Ns N mN ∧ mN "__init__" = none ∧ OwnTail h VB (ups.map Value.ref ++ VB)
theorem ExcObj.keeps {h h' : Heap} {C : Addr} {ups : List Addr} (O : ExcObj h C ups) (hk : ∀ b o, h.get? b = some o → h'.get? b = some o) : ExcObj h' C ups :=
  let ⟨N, nm, q, bs, hdct, sn, sub, ab, col, dd, k0, k1, k2, k3, k5, mN, hC, hN, hni, T⟩ := O
  ⟨N, nm, q, bs, hdct, sn, sub, ab, col, dd, k0, k1, k2, k3, k5, mN, hk _ _ hC, hN.keeps hk, hni, T.keeps hk⟩
theorem ExcObj.own {h : Heap} {C : Addr} {ups : List Addr} {mg : Str → Option Value} {x : Str} (O : ExcObj h C ups) (hm : mg x = some (.ref C)) : OwnCls x C VB "ValueError.__new__" mg h :=
  let ⟨N, nm, q, bs, hdct, sn, sub, ab, col, dd, k0, k1, k2, k3, k5, mN, hC, hN, hni, T⟩ := O
  ⟨hm, _, N, nm, q, bs, hdct, sn, sub, ab, col, dd, k0, k1, k2, k3, k5, mN, hC, hN, hni, T⟩
theorem excMatches_own {M : Model} {A : Around} {E : Value → Shared → Prop} {s : Shared} {C D e : Addr} {ups upD : List Addr} {oe : Obj} {Q : Bool → Shared → Prop} (OC : ExcObj s.heap C ups) (OD : ExcObj s.heap D upD)
    (he : s.heap.get? e = some oe) (hcls : oe.cls = .ref C) (hb : (C :: ups).contains D = true) (hq : Q true s) : wpAny M A (excMatches (.ref e) (.ref D)) Q E s := by
  obtain ⟨h, g, d, t, os⟩ := s
  obtain ⟨N, nm, q, bs, hdct, sn, sub, ab, col, dd, k0, k1, k2, k3, k5, mN, hC, hN, hni, T⟩ := OC
  obtain ⟨N', nm', q', bs', hdct', sn', sub', ab', col', dd', l0, l1, l2, l3, l5, mN', hD, hN', hni', T'⟩ := OD
  have hcB : (Value.ref D :: (upD.map Value.ref ++ VB)).contains (.type "BaseException") = true := by
    rw [List.contains_cons, T'.hasType (b := true) rfl, Bool.or_true]
  have hcC : (Value.ref C :: (ups.map Value.ref ++ VB)).contains (.ref D) = true := by
    rw [List.contains_iff_mem] at hb ⊢
    rcases List.mem_cons.mp hb with rfl | hb
    · exact List.mem_cons_self ..
    · exact List.mem_cons_of_mem _ (List.mem_append_left _ (List.mem_map_of_mem hb))
  have f := tc_notTuple
  unfold excMatches
  repeat (first | (with_reducible refine wpAny_loadPart_at he ?_; rw [hcls]) | with_reducible refine wpAny_loadPart_at hD ?_ | (with_reducible refine wpAny_isSubtype_exc hD ?_; rw [hcB]) | (with_reducible refine wpAny_isSubtype_exc hC ?_; rw [hcC]) | wp_step)
  exact hq
section
variable {X : Cx} {pins : List (Addr × Obj)} {σ : St} {H H' : Hp} {s s' : Shared} {a C : Addr} {a0 : Value} {h : Heap}
theorem inv_flying {T : Addr} (I : Inv X pins σ H s) (os : s'.os = s.os) (bare : AllBare s'.gens) (U : Un (frs X.stack) [] H H' s.heap s'.heap) (ok : HOk X.prog X.w H' s'.heap)
    (na : H' a = none) (fa : s.heap.get? a = none) (nT : H' T = none) (fT : s.heap.get? T = none)
    (hfl : Heap.FlyingW (PySem.W.hideAll s'.heap (a :: T :: frs X.stack)) X.stack a (.ref C) a0 h) (hup : s'.heap.UpToSlots h) :
    ∃ oe, Inv X ((a, oe) :: pins) σ H' { s' with heap := h } ∧ oe.cls = .ref C ∧ h.get? a = some oe := by
  obtain ⟨k1, k2, k3, oe, vs, T', oT, ts, g1, ⟨g2, _⟩, g3, _⟩ := hfl
  have keepB : ∀ b o, s'.heap.get? b = some o → b ≠ a → b ≠ T → b ∉ frs X.stack → h.get? b = some o := fun b o e n1 n2 n3 => k1 b o (PySem.W.hideAll_get _ e fun z => by
    rcases List.mem_cons.mp z with z | z
    · exact n1 z
    · rcases List.mem_cons.mp z with z | z
      · exact n2 z
      · exact n3 z)
  have old : ∀ b o, s.heap.get? b = some o → b ≠ a ∧ b ≠ T := fun b o e => ⟨fun z => (by rw [z, fa] at e; cases e), fun z => (by rw [z, fT] at e; cases e)⟩
  have J : Inv X pins σ H' s' := I.call' os U ok bare fun b hb => (nomatch hb)
  have un : Un (frs X.stack) [] H H' s.heap h := by
    refine ⟨fun b o e n hb hx => keepB b o (U.keep b o e n hb hx) (old b o e).1 (old b o e).2 hb, fun b o e n hb hx => ?_, U.free, fun b o e hx => ?_, U.tups, U.frzs, U.tbls⟩
    · obtain ⟨sl, e1⟩ := U.slot b o e n hb hx
      obtain ⟨_, o', e', nf⟩ := I.stack.mem hb
      rw [e] at e'; cases e'
      obtain ⟨sl2, e2⟩ := hup b { o with slots := sl } e1 nf
      exact ⟨sl2, e2⟩
    · obtain ⟨o', e1⟩ := U.there b o e hx
      by_cases z : b ∈ frs X.stack
      · obtain ⟨_, o2, e2, nf⟩ := J.stack.mem z
        obtain ⟨sl, e3⟩ := hup b o2 e2 nf
        exact ⟨_, e3⟩
      · exact ⟨o', keepB b o' e1 (old b o e).1 (old b o e).2 z⟩
  have trk : ∀ b u, H' b = some u → b ≠ a ∧ b ≠ T ∧ b ∉ frs X.stack := fun b u e => ⟨fun z => (by rw [z, na] at e; cases e), fun z => (by rw [z, nT] at e; cases e), fun z => (by rw [J.stkFree b z] at e; cases e)⟩
  have ok' : HOk X.prog X.w H' h := fun c o e => (ok c o e).stay (fun b u hb q => by
    have t : b ≠ a ∧ b ≠ T ∧ b ∉ frs X.stack := by
      rcases hb with rfl | hb
      · exact trk _ _ e
      · exact trk _ _ hb
    exact keepB b u q t.1 t.2.1 t.2.2) (fun _ q => q) fun _ _ q => q
  have J6 : Inv X pins σ H' { s' with heap := h } := I.call' (s' := { s' with heap := h }) os un ok' bare fun b hb => (nomatch hb)
  refine ⟨oe, J6.pins_of fun p hp => ?_, g2, g1⟩
  rcases List.mem_cons.mp hp with rfl | hp
  · refine ⟨g1, na, fun z => ?_, fun z => ?_, fun v z => by rw [g3] at z; cases z⟩
    · obtain ⟨m, ⟨o, _, _, e, _⟩, _⟩ := I.loc
      have z : a = X.env.locals := z
      rw [← z, fa] at e; cases e
    · have z : a ∈ frs X.stack := by
        rcases I.ok.stk with e | ⟨e, _⟩
        · rw [e]; exact z
        · rw [e]; unfold frs; rw [List.filterMap_cons]
          split
          · exact z
          · exact List.mem_cons_of_mem _ z
      obtain ⟨_, o, e, _⟩ := I.stack.mem z
      rw [fa] at e; cases e
  · exact J6.pin p (List.mem_append_right _ hp)
end
end L2
set_option linter.all false
set_option maxRecDepth 100000
namespace L2
open PySem PySem.Spec PyProof.Rows
abbrev Cx.held (X : Cx) (a : Addr) (oe : Obj) : Cx := { X with A := X.A.mark (some (.ref a)), calm := false, pn := (a, oe) :: X.pn, xe := fun _ _ => False }
section
variable {X : Cx} {pins : List (Addr × Obj)} {σ : St} {H : Hp} {s : Shared} {a : Addr} {oe : Obj}
theorem mark_frames {A : Around} {u : Option Value} : (A.mark u).frames = A.frames := by cases A; rfl
theorem Cx.Ok.held (ok : X.Ok) : (X.held a oe).Ok :=
  ⟨ok.mod, ok.kind, ok.glob, ok.blt, ok.above, ok.inj, ok.has, ok.cab, (fun z => absurd z (by show ¬ (false = true); decide)), mark_frames.trans ok.frames, ok.stk, ok.exf, ok.bs, ok.bsz, ok.noex, ok.exfs, ok.funs, ok.frf⟩
theorem Inv.held (I : Inv X ((a, oe) :: pins) σ H s) : Inv (X.held a oe) pins σ H s :=
  ⟨I.ok.held, I.os, I.bare, I.base, I.loc, I.cell, I.free, I.freeC, fun p hp => I.pin p (by
    have hp : p ∈ ((a, oe) :: X.pn) ++ pins := hp
    simp only [List.cons_append, List.mem_cons, List.mem_append] at hp ⊢
    rcases hp with h | h | h
    · exact .inr (.inl h)
    · exact .inl h
    · exact .inr (.inr h)), I.hok, I.len⟩
theorem Inv.unheld (ok : X.Ok) (I : Inv (X.held a oe) pins σ H s) : Inv X pins σ H s :=
  ⟨ok, I.os, I.bare, I.base, I.loc, I.cell, I.free, I.freeC, fun p hp => I.pin p (List.mem_cons_of_mem _ hp), I.hok, I.len⟩
theorem goes_ok {M : Model} {A : Around} {E : Value → Shared → Prop} {i : Nat} {n : Str} {pos : Pos} {Q : Unit → Shared → Prop} (I : Inv X pins σ H s) (hN : X.N.Nodup) (hi : X.N[i]? = some n) (hk : X.env.scope.names.lookup n = some .local)
    (h : ∀ s', Inv X pins (σ.set i none) H s' → Q () s') : wpAny M A (do bindName X.env n .none; unbindBehindTheSuite X.env n pos) Q E s := by
  obtain ⟨m, hn, hl⟩ := id I.loc
  have hcls : (X.env.scope.kind == .class || (X.env.scope.kind == .module && X.env.locals != X.env.globals)) = false := by rw [I.ok.kind]; rfl
  have hiσ : i < σ.length := by rw [I.len]; exact (List.getElem?_eq_some_iff.mp hi).1
  have cne := I.cne
  have tracked : ∀ {a : Addr} {h' : Heap}, (∃ o, s.heap.get? a = some o ∧ H a = none) → Heap.SameBut a s.heap h' → HOk X.prog X.w H h' := fun {a h'} ha hs b ob e => by
    obtain ⟨_, _, hfree⟩ := ha
    refine (I.hok b ob e).stay (fun c w' hc q => (hs.2 c ?_).trans q) (fun _ q => q) fun _ _ q => q
    rintro rfl
    rcases hc with rfl | hc
    · rw [hfree] at e; cases e
    · rw [hfree] at hc; cases hc
  refine wpAny_nameGoes_keeps hk hn hcls fun h' v hn' hs => ?_
  obtain ⟨oL, _, _, hoL, _⟩ := id hn
  refine h _ ⟨I.ok, I.os, I.bare, ⟨fun b o e n hb hx => ?_, fun b o e n hb hx => ?_, I.base.free, fun b o e hx => ?_, I.base.tups, I.base.frzs, I.base.tbls⟩, ⟨_, hn', fun j y v' e1 e2 e3 => ?_⟩, fun y c e => ?_, I.free, I.freeC, fun p hp => ?_, tracked ⟨oL, hoL, I.free⟩ hs, by simpa using I.len⟩
  · exact (hs.2 b (Nat.ne_of_lt (Nat.lt_of_lt_of_le (Heap.lt_size e) I.ok.above))).trans (I.base.keep b o e n hb hx)
  · obtain ⟨sl, e1⟩ := I.base.slot b o e n hb hx
    exact ⟨sl, (hs.2 b (Nat.ne_of_lt (Nat.lt_of_lt_of_le (Heap.lt_size e) I.ok.above))).trans e1⟩
  · obtain ⟨o', e1⟩ := I.base.there b o e hx
    exact ⟨o', (hs.2 b (Nat.ne_of_lt (Nat.lt_of_lt_of_le (Heap.lt_size e) I.ok.above))).trans e1⟩
  · by_cases hj : j = i
    · subst hj
      rw [List.getElem?_set_self hiσ] at e2
      cases e2
    · rw [List.getElem?_set_ne (Ne.symm hj)] at e2
      obtain ⟨u', r', q⟩ := hl j y v' e1 e2 e3
      refine ⟨u', r', ?_⟩
      rcases q with ⟨k, e⟩ | ⟨k, c, e, z⟩
      · refine .inl ⟨k, ?_⟩
        have : y ≠ n := fun e => hj (nodup_ix hN e1 (e ▸ hi))
        simp [this, e]
      · exact .inr ⟨k, c, e, z.sameBut hs (cne y c e)⟩
  · obtain ⟨w', z⟩ := I.cell y c e
    exact ⟨w', z.sameBut hs (cne y c e)⟩
  · obtain ⟨e, n, ne, nf, d⟩ := I.pin p hp
    exact ⟨(hs.2 p.1 ne).trans e, n, ne, nf, d⟩
end
section
variable {X : Cx} {CX : CXT} {k : Nat} {f C D : Addr} {fd : FuncData} {ps : List Str} {sp : Sp} {E : XK} {x y n : Str} {p np cp ep hp pos : Pos} {e : Expr} {es : List Expr} {ta : TA} {b₀ : Stmt} {suite : List Stmt} {i : Nat} {ups upD : List Addr}
theorem run_fnX {XE : Value → Shared → Prop} {pins : List (Addr × Obj)} {σ : St} {H : Hp} {s : Shared} {Q : VK} {us : List Value} {vs : List V} (F : FnOk X.prog X.w X.K X.mg X.base CX k f fd ps sp) (hr : Room k X.A) (hb : Binds X.K fd ps [])
    (I : Inv X pins σ H s) (r : Vals vs us) (h : sp vs H Q E) (hx : ∀ e s', CX X.stack H s E e s' → XE e s') : wpAny (model X.prog X.w) X.A (call (.ref f) us) (EP X pins σ Q) XE s := by
  have hl : (us ++ []).length = ps.length := by rw [List.append_nil, ← r.length]; exact F.len _ _ _ _ h
  have hb' := hb s us I.kIn hl
  rw [List.append_nil] at hb'
  refine wpAny_call (codeAny_mono (F.run X.A X.stack s H ⟨us, []⟩ us vs Q E hr I.env0 hb' r h) fun r s' hq => ?_)
  cases r with
  | error e => exact hx e s' hq
  | ok fl =>
    cases fl with
    | ret u => exact I.after hq
    | next => exact False.elim hq
    | brk => exact False.elim hq
    | cont => exact False.elim hq
def tTry (i : Nat) (C : Addr) (sp : Sp) (ta : TA) (th : Addr → TS) : TS := fun Dn σ H => ta σ H fun vs H1 => sp vs H1 (fun _ H2 => Dn.nx σ H2) fun cls _ H2 => cls = .ref C ∧ ∀ a, H2 a = none →
  th a { nx := fun σ' H' => Dn.nx (σ'.set i none) H', rt := fun _ _ => False } (σ.set i (some (.ref a))) H2
theorem ps_try {th : Addr → TS} (hst : X.stack = X.env :: X.outer) (hfm : X.env.frame = some X.env.locals) (F : FnOk X.prog X.w X.K X.mg X.base (CXR X.prog X.w) k f fd ps sp) (hr : Room k X.A) (hgf : Gl X y) (hmf : X.mg y = some (.ref f))
    (hkf : PySem.W.keepIn X.K (.ref f) = true) (hb : Binds X.K fd ps []) (ha : PA X.nox (e :: es) ta) (OC : ExcObj X.base C ups) (OD : ExcObj X.base D upD) (hmD : X.mg x = some (.ref D)) (hgx : Gl X x) (hcon : (C :: ups).contains D = true)
    (hN : X.N.Nodup) (hi : X.N[i]? = some n) (hln : X.env.scope.names.lookup n = some .local) (hs : ∀ a oe, oe.cls = .ref C → PSs (X.held a oe) (b₀ :: suite) (th a))
    (hdx : (x == ("__debug__" : Str)) = false := by decide) (hdy : (y == ("__debug__" : Str)) = false := by decide) (he : starEach (e :: es) X.env = (false, eval e X.env) :: starEach es X.env := by rfl) (hpl : (backTo cp (starEach es X.env)).any (·.1) = false := by rfl)
    (hsw : swapsWith (.Call (.Name y p) (e :: es) [] cp) none ep.line X.env = pure false := by rfl) :
    PS X (.Try [.Expr (.Call (.Name y p) (e :: es) [] cp) ep] [.ExceptHandler (some (.Name x np)) (some n) (b₀ :: suite) hp] [] [] pos) (tTry i C sp ta th) := by
  intro pins s σ H Dn I h
  refine wpAny_Try_except (wpAny_execs_cons (wpAny_Expr_any ?_ I.quiet hsw))
  refine wpAny_Call_Name_kw (ld_glob I hgf hmf ?_ hdy)
  refine PySem.W.callWith_K (h₀ := X.base) I.ok.mod.kin hkf (wpAny_mono (ha cp pins s σ H _ (I.wish _) h) (fun us s1 q1 => ?_) fun _ _ z => z.elim) he hpl
  obtain ⟨vs, H1, I1, r, q⟩ := q1
  have I1 : Inv X pins σ H1 s1 := I1.unwish
  refine ⟨I1.kIn, wpAny_mono (run_fnX (XE := fun ev s' => CXR X.prog X.w X.stack H1 s1 _ ev s') F hr hb I1 r q fun _ _ z => z) (fun u s2 z => ?_) fun ev s' z => ?_⟩
  · obtain ⟨v, H2, I2, _, q2⟩ := z
    exact wpAny_execs_nil (wpAny_execs_nil ⟨σ, H2, I2, q2⟩)
  obtain ⟨a, C', H', rfl, os, bare, U, ok, fl, qC, q⟩ := z
  cases qC
  obtain ⟨⟨na, fa⟩, oe, ws, a0, T, oT, ts, ge, gc, gd, g1, g2, g3, g4, g5, nT, fT⟩ := fl
  have J : Inv X pins σ H' s' := I1.call' os U ok bare fun b hb => (nomatch hb)
  have hfl : Heap.FlyingW (PySem.W.hideAll s'.heap (a :: T :: frs X.stack)) (X.env :: X.outer) a (.ref C) a0 s'.heap := by
    refine ⟨fun b o e => PySem.W.of_hideAll _ e, PySem.W.hideAll_none _ (List.mem_cons_self ..), ?_, oe, ws, T, oT, ts, ge, gc, gd, g1, PySem.W.hideAll_none _ (List.mem_cons_of_mem _ (List.mem_cons_self ..)), g2, g3, g4, g5⟩
    rw [← hst]
    exact PySem.W.funFrames_hide J.stack fun env he b hb => List.mem_cons_of_mem _ (List.mem_cons_of_mem _ (List.mem_filterMap.mpr ⟨env, he, hb⟩))
  have hfr : X.A.frames = some (X.env :: X.outer) := by rw [← hst]; exact J.ok.frames
  refine wpAny_looks_onW hfr hfm hfl fun h₄ hheld₄ hsm₄ => ?_
  refine wpAny_landsW hheld₄ fun h₅ hfl₅ hsm₅ => ?_
  obtain ⟨oe5, I5, c5, e5⟩ := inv_flying I1 os bare U ok na fa nT fT (by rw [hst] at hfl₅ ⊢; exact hfl₅) (hsm₄.trans hsm₅)
  have I5' : Inv (X.held a oe5) pins σ H' { s' with heap := h₅ } := I5.held
  refine wpAny_handleBy_cons (codeAny_handlers_test (ld_glob (X := X.held a oe5) I5' hgx hmD ?_ hdx)) (by intro q; cases q)
  refine excMatches_own (OC.keeps I5.bk) (OD.keeps I5.bk) e5 c5 hcon ?_
  refine codeAny_handlers_suite_as ?_
  refine lands_againW hfl₅ fun h₆ hfl₆ hsm₆ => ?_
  obtain ⟨oe6, I6, c6, e6⟩ := inv_flying I1 os bare U ok na fa nT fT (by rw [hst] at hfl₆ ⊢; exact hfl₆) ((hsm₄.trans hsm₅).trans hsm₆)
  have I6' : Inv (X.held a oe6) pins σ H' { s' with heap := h₆ } := I6.held
  refine store_ok (X := X.held a oe6) (v := .ref a) I6' hN hi (.inl hln) rfl (fun s7 I7 => ?_) (.inr hln)
  refine wpAny_mono (hs a oe6 c6 pins s7 _ H' _ I7 (q a na)) (fun fl s8 q8 => ?_) fun _ _ z => z.elim
  cases fl with
  | next =>
    obtain ⟨σ', H8, I8, q8⟩ := q8
    exact goes_ok (I8.unheld J.ok) hN hi hln fun s9 I9 => ⟨_, H8, I9, q8⟩
  | brk => obtain ⟨_, _, _, z⟩ := q8; exact False.elim z
  | cont => obtain ⟨_, _, _, z⟩ := q8; exact False.elim z
  | ret u => obtain ⟨_, _, _, _, _, z⟩ := q8; exact False.elim z
end
end L2
set_option Elab.async false
set_option linter.all false
set_option maxRecDepth 100000
set_option maxHeartbeats 4000000
namespace L3
open PySem L2
abbrev DSX := List D → DK → (Addr → Prop) → Prop
def DMonoX (S : DSX) : Prop := ∀ xs (P P' : DK) (R R' : Addr → Prop), (∀ z, P z → P' z) → (∀ C, R C → R' C) → S xs P R → S xs P' R'
def spX (K : PySem.W.Frag) (S : DSX) : Sp := fun vs H Q E => ∃ ds, Rps K H ds vs ∧ S ds (fun x => ∀ v H' fp, Same H H' → Rf K H' x v fp → Nw H H' nf [] fp → Q v H') (fun C => ∀ H', Same H H' → E (.ref C) none H')
def SX (K : PySem.W.Frag) (ρ : Bool) (Γr Γl : List Nat) (R : Addr → Prop) (t : XK → TS) (Γ Γn : List Nat) (d : DS) : Prop :=
  ∀ ⦃B0 : Hp⦄ ⦃Dn : Ends⦄ ⦃E : DEnds⦄ ⦃Ex : XK⦄ ⦃fps : Nat → List Addr⦄ ⦃δ : Dl⦄ ⦃σ : St⦄ ⦃H : Hp⦄, (∀ C H', Same B0 H' → R C → Ex (.ref C) none H') → EOk K ρ Γr Γl Γn B0 Dn E → Ok K B0 Γ fps δ σ H → d E δ → t Ex Dn σ H
section
variable {K : PySem.W.Frag} {ρ : Bool} {Γr Γl Γ Γ1 Γ2 Γn M : List Nat} {R : Addr → Prop} {t u : XK → TS} {t0 : TS} {d e : DS} {C : Addr} {S : DSX} {ta : TA} {da : DA}
theorem ST.sx (h : ST K ρ Γr Γl t0 Γ Γn d) : SX K ρ Γr Γl R (fun _ => t0) Γ Γn d := fun _ _ _ _ _ _ _ _ _ k o q => h k o q
theorem sx_seq (h1 : SX K ρ Γr Γl R t Γ Γ1 d) (h2 : SX K ρ Γr Γl R u Γ1 Γ2 e) : SX K ρ Γr Γl R (fun Ex => tSeq (t Ex) (u Ex)) Γ Γ2 (vSeq d e) :=
  fun {B0 Dn E Ex fps δ σ H} x k o h => h1 (Dn := { Dn with nx := u Ex Dn }) (E := { E with nx := e E }) x ⟨fun o h => h2 x k o h, k.bk, k.ct, k.rt⟩ o h
theorem sx_if {c : TT} {dc : DT} (hc : TR K Γ c dc) (h1 : SX K ρ Γr Γl R t Γ Γn d) (h2 : SX K ρ Γr Γl R u Γ Γn e) : SX K ρ Γr Γl R (fun Ex => tIfS c (t Ex) (u Ex)) Γ Γn (vIfS dc d e) :=
  fun _ _ _ _ _ _ _ _ x k o h => hc.run o (hc.mono _ _ _ (fun b z H' s => ite_imp (fun z => h1 x k (o.same s) z) (fun z => h2 x k (o.same s) z) z) h)
def vRaise (C : Addr) (R : Addr → Prop) (da : DA) (_ : DEnds) (δ : Dl) : Prop := da δ fun xs => xs.length ≤ 1000 ∧ R C
theorem sx_raise (ha : AR K Γ ta da) : SX K ρ Γr Γl R (fun Ex => tRaise C Ex ta) Γ Γn (vRaise C R da) :=
  fun {B0 Dn E Ex fps δ σ H} x k o h => ha.run o (ha.mono _ _ _ (fun xs z vs H' s r => by
    obtain ⟨fp, r⟩ := r
    exact ⟨by rw [r.length]; exact z.1, x C H' (o.b0.trans s) z.2⟩) h)
def vDropX (S : DSX) (R : Addr → Prop) (da : DA) (E : DEnds) (δ : Dl) : Prop := da δ fun xs => S xs (fun _ => E.nx δ) R
def vSetX (S : DSX) (R : Addr → Prop) (i : Nat) (da : DA) (E : DEnds) (δ : Dl) : Prop := da δ fun xs => S xs (fun x => E.nx (δ.set i (some x))) R
theorem em_callX {Ex : XK} {B0 : Hp} {fps : Nat → List Addr} {δ : Dl} {σ : St} {H : Hp} {Q : VK} (hS : DMonoX S) (ha : AR K Γ ta da) (x : ∀ C H', Same B0 H' → R C → Ex (.ref C) none H') (o : Ok K B0 Γ fps δ σ H)
    (h : da δ fun xs => S xs (fun z => ∀ v H' fp, Same H H' → Rf K H' z v fp → Nw H H' fps [] fp → Q v H') R) : tCall (spX K S) [] Ex ta σ H Q :=
  ha.run o (ha.mono _ _ _ (fun xs z vs H1 s1 r1 => ⟨xs, by rw [List.append_nil]; exact r1, hS _ _ _ _ _ (fun u z u' H' fp s r n => z u' H' fp (s1.trans s) r (n.any.later s1)) (fun C z H2 s2 => x C H2 (o.b0.trans (s1.trans s2)) z) z⟩) h)
def vRetX (S : DSX) (R : Addr → Prop) (da : DA) (E : DEnds) (δ : Dl) : Prop := da δ fun xs => S xs (fun x => E.rt x δ) R
theorem fn_valX {N : List Str} {dR : (Addr → Prop) → DS} (hs : ∀ R, SX K true [] [] R t [] Γn (dR R)) (hd : ∀ ds P R, S ds P R → dR R (endsD P) (startD N ds)) :
    ∀ {vs H Q E}, spX K S vs H Q E → t E { nx := fun _ H' => Q .non H', rt := Q } (L2.start N vs) H := by
  rintro vs H Q E ⟨ds, r, h⟩
  obtain ⟨fps, o⟩ := start_ok (N := N) r
  refine hs _ (E := endsD _) (Ex := E) (fun C H' s z => z H' s) ⟨fun {fps δ σ H'} o z => ?_, fun o (z : False) => z.elim, fun o (z : False) => z.elim, fun o r i z => ?_⟩ o (hd ds _ _ h)
  · exact z _ H' [] o.b0 ⟨rfl, rfl⟩ Nw.nil
  · exact z _ _ _ o.b0 r ⟨(i rfl).nd, (i rfl).mu, fun a ha => .inl ((i rfl).nw a ha)⟩
def noX (S : DSX) : DSp := fun ds P => S ds P fun _ => False
theorem noX_mono (hS : DMonoX S) : DMono (noX S) := fun xs P P' k h => hS _ _ _ _ _ k (fun _ z => z) h
theorem em_noX {Ex : XK} (hS : DMonoX S) (ha : AR K Γ ta da) : EM K Γ [] (tCall (spX K S) [] Ex ta) (vCall (noX S) da) :=
  ⟨fun δ P P' k h => ha.mono _ _ _ (fun y z => noX_mono hS _ _ _ k z) h, fun {B0 fps δ σ H Q} o q => em_callX (R := fun _ => False) hS ha (fun _ _ _ z => z.elim) o q⟩
theorem Ok.gone {B0 : Hp} {fps : Nat → List Addr} {δ : Dl} {σ : St} {H : Hp} (o : Ok K B0 Γ fps δ σ H) (j : Nat) (hj : j ∉ Γ) : Ok K B0 Γ (fun i => if i = j then [] else fps i) (δ.set j none) (σ.set j none) H := by
  have o1 := o.dead j .non hj
  refine ⟨by simp [o.len], o.b0, fun i d e => ?_, o1.non, o1.own, o1.dj⟩
  obtain ⟨v, h1, h2⟩ := o1.val i d e
  refine ⟨v, ?_, h2⟩
  by_cases h : i = j
  · subst h
    rw [List.getElem?_set] at e
    by_cases hl : i < δ.length
    · simp [hl] at e
    · simp [hl] at e
  · rw [List.getElem?_set_ne (Ne.symm h)] at h1 ⊢
    exact h1
def vTry (i : Nat) (C : Addr) (S : DSX) (da : DA) (dh : DS) (E : DEnds) (δ : Dl) : Prop :=
  da δ fun xs => S xs (fun _ => E.nx δ) fun C' => C' = C ∧ dh { nx := fun δ' => E.nx (δ'.set i none), rt := fun _ _ => False, bk := fun _ => False, ct := fun _ => False } (δ.set i none)
end
end L3
set_option linter.all false
set_option maxRecDepth 100000
namespace PySem.W
open PySem PySem.Spec PySem.Calls PyProof.Rows
section
variable {prog : Program} {w : World} {A : Around} {E : Value → Shared → Prop} {s : Shared} {K : Frag} {x C : Addr} {ox : Obj}
theorem xc_get {R : Result → Shared → Prop} {tp : Value} (hm : mroIn K C (.type "object") = some true) (X : K.In s.heap) (L0 : Looks (model prog w) s.heap (typeOf (.ref x)) (.ref C)) (h : R (.ok (.ret (.ref C))) s) :
    codeAny (model prog w) A (.call (.builtin "getset_descriptor.__get__") ⟨[.builtin "object.__class__", .ref x, tp], []⟩) R s := by
  obtain ⟨hh, g, dr, t, os⟩ := s
  have hT5 : (⟨hh, g, dr, t, os⟩ : Shared).TypeIs (.builtin "object.__class__") "getset_descriptor" := F.typeOf_object_class
  have L1 : Looks (model prog w) hh (isSubtype (.ref C) (.type (".".intercalate ("object.__class__".cutAt '.').dropLast))) true := by
    rw [F.owner_object_class]; exact looks_mroIn (M := model prog w) X hm
  refine codeAny_call_builtin F.slot_gs_get.plain F.entry_gs_get (F.slot_gs_get.check _ _ _ _ _ _ _ _ hT5 (F.args_gs_get _ _ _) ?_)
  repeat (any_goals (first | assumption | with_reducible refine L0.at ?_ | with_reducible refine L1.at ?_ | wp_step))
  refine ⟨Code.quiet_builtin _ (by decide +kernel), codeAny_builtin F.entry_object_class ?_⟩
  repeat (any_goals (first | assumption | with_reducible refine L0.at ?_ | with_reducible refine L1.at ?_ | wp_step))
theorem xc_entry {tk : Tok} {Q : Fin → Shared → Prop} (hcl : findIn K (.ref C) "__class__" = some (some (.builtin "object.__class__"))) (hm : mroIn K C (.type "object") = some true)
    (X : K.In s.heap) (L0 : Looks (model prog w) s.heap (typeOf (.ref x)) (.ref C)) (h : Q (.done (.ret (.ref C))) s) : wpAny (model prog w) A (Builtin.«object.__getattribute__» ⟨[.ref x, .str "__class__" tk], []⟩) Q E s := by
  obtain ⟨hh, g, d, t, os⟩ := s
  have L1 := looks_findIn (M := model prog w) X hcl
  have hT5 : (⟨hh, g, d, t, os⟩ : Shared).TypeIs (.builtin "object.__class__") "getset_descriptor" := F.typeOf_object_class
  have f5 := F.typeOf_object_class
  have f6 := F.slot_gs_get.lookup
  have f7 := F.slot_gs_set.lookup
  repeat (any_goals (first | assumption | with_reducible refine L0.at ?_ | with_reducible refine L1.at ?_ | wp_step))
  refine xc_get hm X L0 ?_
  repeat (any_goals (first | assumption | wp_step))
theorem xc_check {M : Model} {nameV : Value} {Q : Unit → Shared → Prop} (hmB : mroIn K C (.type "BaseException") = some true) (X : K.In s.heap) (L0 : Looks M s.heap (typeOf (.ref x)) (.ref C)) (h : Q () s) :
    wpAny M A (checkBuiltinCall "BaseException.__getattribute__" ⟨[.ref x, nameV], []⟩) Q E s := by
  obtain ⟨hh, g, d, t, os⟩ := s
  have hk : builtinKind "BaseException.__getattribute__" = some .slot := by decide +kernel
  have hsplit : splitId "BaseException.__getattribute__" = some ("BaseException", "__getattribute__") := by decide +kernel
  have L1 := looks_mroIn (M := M) X hmB
  have ha := F.args_bexc_ga (.ref x) nameV
  simp only [checkBuiltinCall, hk, hsplit]
  refine wpAny_bind ?_
  unfold isInstance
  repeat (first | with_reducible refine L0.at ?_ | with_reducible refine L1.at ?_ | wp_step)
  exact h
theorem xc_class {Q : Option Value → Shared → Prop} (hga : findIn K (.ref C) "__getattribute__" = some (some (.builtin "BaseException.__getattribute__"))) (hge : findIn K (.ref C) "__getattr__" = some none)
    (hcl : findIn K (.ref C) "__class__" = some (some (.builtin "object.__class__"))) (hm : mroIn K C (.type "object") = some true) (hmB : mroIn K C (.type "BaseException") = some true)
    (X : K.In s.heap) (L0 : Looks (model prog w) s.heap (typeOf (.ref x)) (.ref C)) (h : Q (some (.ref C)) { s with toks := s.toks + 1 }) : wpAny (model prog w) A (getAttr? (.ref x) "__class__") Q E s := by
  obtain ⟨hh, g, d, t, os⟩ := s
  have L1 := looks_findIn (M := model prog w) X hga
  have L2 := looks_findIn (M := model prog w) X hge
  have f3 := F.attr_ValueError.ga.bind (.ref x)
  have hx2 : (Value.builtin "BaseException.__getattribute__" == Value.builtin "object.__getattribute__") = false := by decide +kernel
  have hx1 : (onTheHeap (Value.ref C) && Value.builtin "BaseException.__getattribute__" == Value.builtin "object.__getattribute__") = false := by rw [hx2]; rfl
  unfold getAttr? getAttrBy?
  repeat (any_goals (first | assumption | with_reducible refine L0.at ?_ | with_reducible refine L1.at ?_ | with_reducible refine L2.at ?_ | wp_step))
  refine codeAny_call_builtin F.attr_ValueError.ga.plain F.entry_bexc_ga (xc_check hmB X L0 (xc_entry hcl hm X L0 ?_))
  repeat (any_goals (first | assumption | wp_step))
structure ExcK (K : Frag) (C : Addr) : Prop where
  ga : findIn K (.ref C) "__getattribute__" = some (some (.builtin "BaseException.__getattribute__"))
  ge : findIn K (.ref C) "__getattr__" = some none
  cl : findIn K (.ref C) "__class__" = some (some (.builtin "object.__class__"))
  ob : mroIn K C (.type "object") = some true
  be : mroIn K C (.type "BaseException") = some true
  is : (clsIn K C).isSome = true
def ExcAt (x C : Addr) (h : Heap) : Prop := ∃ o, h.get? x = some o ∧ o.cls = .ref C
theorem ExcAt.ty {h : Heap} (M : Model) (p : ExcAt x C h) : Looks M h (typeOf (.ref x)) (.ref C) := by
  obtain ⟨o, h1, h2⟩ := p
  exact h2 ▸ (Looks.ld h1).andThen .now
theorem kitx_exc (k : ExcK K C) : KitX K (.ref x) (.ref C) (ExcAt x C) where
  ty := fun M _ _ p => p.ty M
  it := fun _ _ X _ => by
    have z0 := k.is
    unfold clsIn at z0
    split at z0
    · rename_i c' d' cd' sl' ho
      intro A' Q' E' s' k q
      unfold isType loadHead
      exact wpAny_bind (wpAny_loadPart (k _ _ (X _ _ ho)) (wpAny_pure q))
    · cases z0
  ne := fun h tp dd its n sl X htp => by
    have z0 := k.is
    refine Bool.eq_false_iff.mpr fun q => ?_
    have e : C = tp := Value.ref.inj (beq_iff_eq.mp q)
    subst e
    unfold clsIn at z0
    split at z0
    · rename_i c' d' cd' sl' ho
      have z := (X _ _ ho).symm.trans htp
      cases z
    · cases z0
  ca := fun X p q => xc_class k.ga k.ge k.cl k.ob k.be X (p.ty _) q
end
end PySem.W
namespace L2
open PySem PySem.Spec PyProof.Rows
section
variable {X : Cx} {pins : List (Addr × Obj)} {σ : St} {H : Hp} {s : Shared} {a C : Addr} {oe : Obj} {i : Nat} {n x : Str} {np p cp : Pos} {b : Bool}
theorem Inv.excAt (I : Inv (X.held a oe) pins σ H s) (hc : oe.cls = .ref C) : PySem.W.ExcAt a C s.heap := ⟨oe, (I.pin (a, oe) (List.mem_append_left _ (List.mem_cons_self ..))).1, hc⟩
end
end L2
set_option linter.all false
set_option maxRecDepth 100000
namespace L2
open PySem PySem.Spec PyProof.Rows
section
variable {X : Cx} {a C : Addr} {oe : Obj}
theorem vals_refs : ∀ {cs : List Addr} {us : List Value}, Vals (cs.map V.ref) us → us = cs.map Value.ref
  | [], us, r => by cases r; rfl
  | c :: cs, us, r => by
    cases r with
    | cons r rr =>
      have e := vals_refs rr
      have e1 : _ = Value.ref c := r
      rw [e, e1]; rfl
def isxR (K : PySem.W.Frag) (a C : Addr) : List V → Hp → VK → Prop := fun xs H Q => ∃ b, Q (.bl b) H ∧
    ((∃ (p : Addr) (cs : List Addr), xs = [.ref a, .ref p] ∧ H p = some (.tup (cs.map V.ref)) ∧ PySem.W.kitAny K (.ref C) (cs.map Value.ref) = some b) ∨ ∃ T, xs = [.ref a, .ty T] ∧ PySem.W.kitOne K (.ref C) (.type T) = some b)
theorem call_isx (hc : oe.cls = .ref C) (k : PySem.W.ExcK X.K C) : CallR (X.held a oe) (.builtin "isinstance") (isxR X.K a C) := by
  intro pins s σ H xs us Q I r h
  obtain ⟨b, q, ⟨p, cs, rfl, hp, e⟩ | ⟨T, rfl, e⟩⟩ := h
  · obtain ⟨u, v, rfl, ru, rv⟩ := vals2 r
    obtain rfl : u = Value.ref a := ru
    obtain rfl : v = Value.ref p := rv
    obtain ⟨_, its, rv, ho⟩ := (show ObjOk X.prog X.w H s.heap p (.tup (cs.map V.ref)) from I.hok p _ hp)
    obtain rfl := vals_refs rv
    obtain ⟨o, h1, h2, n, h3⟩ := ho
    obtain ⟨oc, od, oda, osl⟩ := o
    dsimp only at h2 h3
    subst h2 h3
    exact PySem.W.kia_tup (PySem.W.kitx_exc k) I.kIn (I.excAt hc) h1 e (fun z => nomatch z) fun tk => ⟨.bl b, H, I.tok _, rfl, q⟩
  · obtain ⟨u, v, rfl, ru, rv⟩ := vals2 r
    obtain rfl : u = Value.ref a := ru
    obtain rfl : v = Value.type T := rv
    exact PySem.W.kia_one (PySem.W.kitx_exc k) I.kIn (I.excAt hc) e (fun z => nomatch z) fun tk => ⟨.bl b, H, I.tok _, rfl, q⟩
end
section
variable {P : Program} {w : World} {K : PySem.W.Frag} {mg : Str → Option Value} {base : Heap} {CX : CXT}
theorem Fun.okX {x qual : Str} {st : Stmt} {f : Addr} {fd : FuncData} {N ps : List Str} {k : Nat} {sp : Sp} (F : Fun K x qual st f fd) (S : FnScope N ps (defScope st)) (len : ∀ vs H Q E, sp vs H Q E → vs.length = ps.length)
    (hbody : ∀ (cdv : Value) (A : Around) (outer : List Env) (s : Shared) (H : Hp) (vs : List V) (Q : VK) (E : XK), Room k (A.deeper (envOfC qual (defScope st) s.heap.objs.size f cdv)) → sp vs H Q E →
      ∃ t, PSs (cxOf (CXR P w) P w K mg base N qual (defScope st) f cdv A outer s H E) (defBody st) t ∧ t { nx := fun _ H' => Q .non H', rt := Q } (start N vs) H) : FnOk P w K mg base (CXR P w) (k + 1) f fd ps sp := by
  obtain ⟨oc, od, kV, doc, pm, an, cdv, ct, osl, rfl, lk, hcd⟩ := F.ex
  exact fn_of lk hcd S len fun A outer s H vs Q E hr hsp => hbody cdv A outer s H vs Q E hr hsp
end
theorem ExcObj.of_lookup {K : PySem.W.Frag} {h : Heap} {C : Addr} {ups : List Addr} {mro : List Value} {dd : Option Addr} {nm qn : Str} {bs : List Value} {ns : Addr} {hd : Bool} {sn : List Str} {sub : List Value} {ab : Bool} {col : Option Bool} {k0 k1 k2 k3 k5 : Option Value} (X : K.In h)
    (u : K.lookup C = some ⟨.type "type", dd, .cls ⟨nm, bs, mro, ns, qn, hd, sn, sub, ab, col, false⟩, #[k0, k1, k2, k3, some (.builtin "ValueError.__new__"), k5]⟩) (hm : mro = .ref C :: (ups.map Value.ref ++ VB)) (v : PySem.W.excIn K C VB "ValueError.__new__" = true) : ExcObj h C ups := by
  subst hm
  unfold PySem.W.excIn at v
  rw [u] at v
  simp only [Bool.and_eq_true, beq_iff_eq, Bool.not_eq_true'] at v
  obtain ⟨⟨⟨_, ht⟩, hok⟩, hni⟩ := v
  exact ⟨ns, nm, qn, bs, hd, sn, sub, ab, col, dd, k0, k1, k2, k3, k5, _, X _ _ u, .of_isNs (PySem.W.isNs_of_in X hok), PySem.W.nsMap_none_of_in X hok hni, PySem.W.tail_of_in X ht⟩
theorem passN {X : Cx} {P : Program} {w : World} : Passes (CXR P w) X E0 := fun _ _ _ _ _ _ _ h => by
  obtain ⟨_, _, _, _, _, _, _, _, _, q⟩ := h
  exact q.elim
end L2
set_option Elab.async false
set_option linter.all false
set_option maxRecDepth 100000
set_option maxHeartbeats 4000000
namespace L3
open PySem L2
def STi (K : PySem.W.Frag) (i : Nat) (t : Addr → TS) (Γ : List Nat) (d : DS) : Prop :=
  ∀ ⦃a : Addr⦄ ⦃B0 : Hp⦄ ⦃Dn : Ends⦄ ⦃E : DEnds⦄ ⦃fps : Nat → List Addr⦄ ⦃δ : Dl⦄ ⦃σ : St⦄ ⦃H : Hp⦄, (∀ {fps δ σ H}, Ok K B0 Γ fps δ σ H → σ[i]? = some (some (.ref a)) → E.nx δ → Dn.nx σ H) →
    Ok K B0 Γ fps δ σ H → σ[i]? = some (some (.ref a)) → d E δ → t a Dn σ H
section
variable {K : PySem.W.Frag} {ρ : Bool} {Γr Γl Γ : List Nat} {i : Nat} {t u : Addr → TS} {d e : DS} {C : Addr} {S : DSX} {ta : TA} {da : DA}
def vKnow (j : Nat) (n : Int) (E : DEnds) (δ : Dl) : Prop := E.nx (δ.set j (some (.int n)))
theorem sti_know (j : Nat) {te : Addr → TE} {n : Int} (he : ∀ a σ H (Q : VK), σ[i]? = some (some (.ref a)) → (∀ H', Same H H' → Q (.int n) H') → te a σ H Q) (hj : j ∉ Γ := by decide) (hij : j ≠ i := by decide) :
    STi K i (fun a => tAsg (te a) (gName j)) Γ (vKnow j n) :=
  fun {a B0 Dn E fps δ σ H} k o hi h => he a σ H _ hi fun H' s => k ((o.setSh j s (Rf.ofScal (d := .int n) rfl) (fun _ _ _ z => (nomatch z))).sub fun l hl => mem_minus.mpr ⟨hl, fun q => hj (by rw [← List.mem_singleton.mp q]; exact hl)⟩)
    (by rw [List.getElem?_set_ne hij]; exact hi) h
def vWhen (b : Bool) (d e : DS) (E : DEnds) (δ : Dl) : Prop := if b = true then d E δ else e E δ
def vTryI (i : Nat) (C : Addr) (S : DSX) (da : DA) (dh : DS) (E : DEnds) (δ : Dl) : Prop := i < δ.length ∧ vTry i C S da dh E δ
theorem st_tryI {dh : DS} (i : Nat) (hS : DMonoX S) (ha : AR K Γ ta da) (hh : STi K i t Γ dh) (hi : i ∉ Γ := by decide) : ST K ρ Γr Γl (tTry i C (spX K S) ta t) Γ Γ (vTryI i C S da dh) :=
  fun {B0 Dn E fps δ σ H} k o h => ha.run o (ha.mono _ _ _ (fun xs z vs H1 s1 r1 => ⟨xs, r1, hS _ _ _ _ _ (fun _ z v H2 fp s2 _ _ => k.nx (o.same (s1.trans s2)) z)
    (fun C' z H2 s2 => ⟨congrArg Value.ref z.1, fun a _ => hh (E := { nx := fun δ' => E.nx (δ'.set i none), rt := fun _ _ => False, bk := fun _ => False, ct := fun _ => False })
      (fun o3 _ z3 => k.nx (o3.gone i hi) z3) ((o.same (s1.trans s2)).dead i (.ref a) hi) (List.getElem?_set_self (by rw [o.len]; exact h.1)) z.2⟩) z⟩) h.2)
theorem isx_tup {Q : VK} {b : Bool} {a : Addr} {cs : List Addr} {v : TA} {σ : St} {H : Hp} (hv : ∀ σ H (Q : List V → Hp → Prop), Q (cs.map V.ref) H → v σ H Q) (hl : cs.length ≤ 1000) (e : PySem.W.kitAny K (.ref C) (cs.map Value.ref) = some b)
    (hi : σ[i]? = some (some (.ref a))) (q : ∀ H', Same H H' → Q (.bl b) H') : tCB (isxR K a C) (tCons (tVar i) (tCons (tTup v) tNil)) σ H Q :=
  ⟨_, hi, hv _ _ _ ⟨by rw [List.length_map]; exact Nat.le_of_lt (small1000 hl), fun p hp => ⟨b, q _ (Same.new hp), .inl ⟨p, cs, rfl, upd_same, e⟩⟩⟩⟩
theorem isx_one {Q : VK} {b : Bool} {a : Addr} {T : String} {σ : St} {H : Hp} (e : PySem.W.kitOne K (.ref C) (.type T) = some b)
    (hi : σ[i]? = some (some (.ref a))) (q : Q (.bl b) H) : tCB (isxR K a C) (tCons (tVar i) (tCons (tC (.ty T)) tNil)) σ H Q := ⟨_, hi, b, q, .inr ⟨T, rfl, e⟩⟩
end
theorem spX_len {K : PySem.W.Frag} {S : DSX} {n : Nat} (hS : ∀ ds P R, S ds P R → ds.length = n) {vs : List V} {H : Hp} {Q : VK} {E : XK} (h : spX K S vs H Q E) : vs.length = n := by
  obtain ⟨ds, ⟨fp, r⟩, h⟩ := h
  rw [r.length]; exact hS _ _ _ h
end L3
set_option Elab.async false
set_option linter.all false
set_option maxRecDepth 100000
set_option maxHeartbeats 4000000
namespace L3
open PySem L2
section
variable {K : PySem.W.Frag}
def asIB (xs : List D) (P : Int → Prop) : Prop := match xs with | [.int j] => P j | [.bl b] => P (if b then 1 else 0) | _ => False
theorem asIB_int {i : Int} {P : Int → Prop} : asIB [.int i] P ↔ P i := Iff.rfl
theorem asIB_bl {b : Bool} {P : Int → Prop} : asIB [.bl b] P ↔ P (if b then 1 else 0) := Iff.rfl
theorem asIB_out {xs : List D} {P : Int → Prop} (h : asIB xs P) : (∃ i, xs = [.int i] ∧ P i) ∨ ∃ b, xs = [.bl b] ∧ P (if b then 1 else 0) := by
  unfold asIB at h; split at h
  · exact .inl ⟨_, rfl, h⟩
  · exact .inr ⟨_, rfl, h⟩
  · exact h.elim
def vIntB (xs : List D) (P : DK) : Prop := asIB xs fun i => P (.int i)
theorem c_int : CallV K (fun xs H Q => (∃ i, xs = [.int i] ∧ Q (.int i) H) ∨ ∃ k, xs = [.bl k] ∧ Q (.int (if k then 1 else 0)) H) vIntB :=
  ⟨fun xs P P' k h => by
    rcases asIB_out h with ⟨i, rfl, z⟩ | ⟨b, rfl, z⟩
    · exact k _ z
    · exact k _ z,
   fun {H xs vs Q} r h => by
    rcases asIB_out h with ⟨i, rfl, z⟩ | ⟨b, rfl, z⟩
    · exact .inl ⟨i, r.ints1, z _ H [] (Same.refl H) ⟨rfl, rfl⟩ Nw.nil⟩
    · refine .inr ⟨b, ?_, z _ H [] (Same.refl H) ⟨rfl, rfl⟩ Nw.nil⟩
      obtain ⟨fp, x, r, f1, f2, rfl, _, ⟨rfl, _⟩, ⟨rfl, _⟩⟩ := r
      rfl⟩
end
end L3
namespace L3
open PySem
open L2 hiding D Rf Rfs Rp dI dT
end L3
set_option Elab.async false
set_option linter.all false
set_option maxRecDepth 100000
set_option maxHeartbeats 4000000
namespace L3
open PySem L2
section
variable {K : PySem.W.Frag} {ρ : Bool} {Γr Γl Γ : List Nat} {B0 : Hp} {i j m : Nat} {a0 : Addr} {fps : Nat → List Addr} {δ : Dl} {σ : St} {H H' : Hp} {t u : TS} {d e : Nat → DS} {te tx t1 : TE} {de dx d1 : DE}
end
end L3
namespace L3
open PySem
open L2 hiding D Rf Rfs Rp dI dT
section
variable {δ : Dl} {i j : Nat} {t : List (List Int)} {a b v : Int} {d1 de dx : DE} {d : Nat → DS} {E : DEnds}
end
end L3
set_option Elab.async false
set_option linter.all false
set_option maxRecDepth 100000
set_option maxHeartbeats 4000000
namespace L3
open PySem L2
def D.flat : D → Bool
  | .tup ds => ds.all D.scal
  | d => d.scal
theorem Rf.flat {K : PySem.W.Frag} {H : Hp} {d : D} {v : V} {fp : List Addr} (h : Rf K H d v fp) (s : d.flat = true) : fp = [] := by
  cases d with
  | tup ds =>
    obtain ⟨a, xs, rfl, h2, h3⟩ := h
    exact (h3.scals s).2
  | _ => first | exact (h.scal s).2 | cases s
theorem flat_int {i : Int} : (D.int i).flat = true := rfl
theorem flat_bl {b : Bool} : (D.bl b).flat = true := rfl
theorem flat_tup4 {a b c d : Int} : (D.tup [.int a, .int b, .int c, .int d]).flat = true := rfl
theorem flat_tup3 {a b c : Int} : (D.tup [.int a, .int b, .int c]).flat = true := rfl
theorem flat_tup2 {a b : Int} : (D.tup [.int a, .int b]).flat = true := rfl
def vFlat (d : DE) (δ : Dl) (P : DK) : Prop := d δ fun x => x.flat = true ∧ P x
theorem ER.flat {K : PySem.W.Frag} {Γ : List Nat} {t : TE} {d : DE} (h : ER K Γ t d) : EM K Γ [] t (vFlat d) := ⟨fun δ P P' k q => h.mono _ _ _ (fun x z => ⟨z.1, k x z.2⟩) q, fun o q => h.run o (h.mono _ _ _ (fun x z v H' s r => by
  obtain ⟨fp, r⟩ := r
  have e := r.flat z.1
  subst e
  exact z.2 v H' [] s r Nw.nil) q)⟩
end L3
namespace L3
open PySem
open L2 hiding D Rf Rfs Rp dI dT
def Ones (n m : Nat) (t : List (List Int)) : Prop := Rect n m t ∧ ∀ r ∈ t, ∀ x ∈ r, x = 0 ∨ x = 1
theorem Ones.set {n m a b : Nat} {t : List (List Int)} {v : Int} (h : Ones n m t) (ha : a < n) (hv : v = 0 ∨ v = 1) : Ones n m (setCell t a b v) := by
  refine ⟨h.1.setCell ha, fun r hr x hx => ?_⟩
  have hl := h.1.1
  rcases List.mem_or_eq_of_mem_set hr with z | z
  · exact h.2 r z x hx
  · rw [z] at hx
    rcases List.mem_or_eq_of_mem_set hx with w | w
    · exact h.2 _ (rowAt_mem (by omega)) x w
    · rw [w]; exact hv
def CanSwap (n m : Nat) (t : List (List Int)) (i j k l : Int) : Prop := (0 ≤ i ∧ i < n) ∧ (0 ≤ k ∧ k < n) ∧ (0 ≤ j ∧ j < m) ∧ (0 ≤ l ∧ l < m) ∧ cellAt t i.toNat j.toNat = 1 ∧ cellAt t i.toNat l.toNat = 0 ∧ cellAt t k.toNat j.toNat = 0 ∧ cellAt t k.toNat l.toNat = 1
instance {n m : Nat} {t : List (List Int)} {i j k l : Int} : Decidable (CanSwap n m t i j k l) := by unfold CanSwap; infer_instance
end L3
set_option linter.all false
set_option maxRecDepth 100000
namespace L2
open PySem PySem.Spec PyProof.Rows
section
variable {κ : Type} [DecidableEq κ]
def valV (kvs : List (κ × V)) (k : κ) : Option V := (kvs.find? fun kv => decide (kv.1 = k)).map (·.2)
def putK (kvs : List (κ × V)) (k : κ) (v : V) : List (κ × V) :=
  if (kvs.any fun kv => decide (kv.1 = k)) = true then kvs.map (fun kv => if kv.1 = k then (kv.1, v) else kv) else kvs ++ [(k, v)]
theorem RelO.getD {o : Option V} {u : Option Value} {d : V} {d' : Value} (r : RelO o u) (rd : RelV d d') : RelV (o.getD d) (u.getD d') := by
  cases o with
  | none => cases u with
    | none => exact rd
    | some _ => exact (show False from r).elim
  | some _ => cases u with
    | none => exact (show False from r).elim
    | some _ => exact r
theorem KV.any {kvs : List (κ × V)} {vs : List (κ × Value)} (r : KV kvs vs) (k : κ) : (kvs.any fun kv => decide (kv.1 = k)) = vs.any fun kv => decide (kv.1 = k) := by
  unfold KV at r
  induction r with
  | nil => rfl
  | cons h t ih => rw [List.any_cons, List.any_cons, ih, h.1]
theorem KV.length {kvs : List (κ × V)} {vs : List (κ × Value)} (r : KV kvs vs) : kvs.length = vs.length := Paired.length r
end
section
variable {P : Program} {w : World} {H : Hp} {h : Heap} {a : Addr}
end
section
variable {X : Cx} {pins : List (Addr × Obj)} {σ : St} {H : Hp} {s : Shared} {a : Addr} {y v : V} {u r : Value} {o : Option V} {A : Around} {E : Value → Shared → Prop}
end
section
variable {X : Cx} {pins : List (Addr × Obj)} {σ : St} {H : Hp} {s : Shared} {a : Addr} {kvs : List (Key × V)} {k : Key} {u : Value} {A : Around} {E : Value → Shared → Prop}
end
section
variable {X : Cx} {o i e value : Expr} {pos pos' tpos : Pos} {td ty tv : TE}
end
section
variable {X : Cx} {pos : Pos}
end
section
variable {X : Cx} {pins : List (Addr × Obj)} {σ : St} {H : Hp} {s : Shared} {a : Addr} {y d : V} {u r : Value} {o : Option V} {A : Around} {E : Value → Shared → Prop}
end
section
variable {X : Cx} {o e f : Expr} {apos cpos : Pos} {td ty tx : TE}
end
section
variable {X : Cx} {pins : List (Addr × Obj)} {σ : St} {H : Hp} {s : Shared} {a : Addr} {kvs : List (Key × V)} {A : Around} {E : Value → Shared → Prop}
end
section
variable {X : Cx} {pins : List (Addr × Obj)} {σ : St} {H : Hp} {s : Shared} {a : Addr} {y : V} {u : Value} {A : Around} {E : Value → Shared → Prop}
end
end L2
set_option Elab.async false
set_option linter.all false
set_option maxRecDepth 100000
set_option maxHeartbeats 4000000
namespace L3
open PySem L2
section
variable {K : PySem.W.Frag} {ρ : Bool} {Γr Γl Γ Γ1 Γ2 Γn M : List Nat} {t u : TS} {te ta tb tx t1 t2 : TE} {de da db dx d1 d2 : DE} {d e : DS}
variable {B0 : Hp} {fps : Nat → List Addr} {δ : Dl} {σ : St} {H H' : Hp}
def slotP (δ : Dl) (i : Nat) (P : Addr → D → Prop) : Prop := match δ[i]? with | some (some (.pin a d)) => P a d | _ => False
def vPin (i : Nat) (d : DS) (E : DEnds) (δ : Dl) : Prop := slotP δ i fun a x => d { E with nx := fun δ' => vVar i δ' fun x' => E.nx (δ'.set i (some (.pin a x'))) } (δ.set i (some x))
def vVarP (i : Nat) (δ : Dl) (P : DK) : Prop := slotP δ i fun _ x => P x
def D.isRef : D → Bool | .lst _ => true | .dic _ => true | .pin _ _ => true | .ins _ _ _ => true | _ => false
theorem Rf.isRef {x : D} {v : V} {fp : List Addr} (h : Rf K H x v fp) (e : x.isRef = true) : ∃ a, v = .ref a := by
  cases x with
  | lst ds => obtain ⟨a, xs, fq, rfl, _⟩ := h; exact ⟨a, rfl⟩
  | dic ds => obtain ⟨a, rfl, _⟩ := h; exact ⟨a, rfl⟩
  | pin a d => exact ⟨a, h.1⟩
  | ins C ns ds => obtain ⟨a, dx, xs, fq, rfl, _⟩ := h; exact ⟨a, rfl⟩
  | _ => cases e
abbrev DSI := List D → (D → D → Prop) → Prop
def vCallI (i p : Nat) (S : DSI) (da : DA) (E : DEnds) (δ : Dl) : Prop := da δ fun xs => (∀ x, xs[p]? = some x → x.isRef = true) ∧ S xs fun _ x' => E.nx (δ.set i (some x'))
def vSetI (i p j : Nat) (S : DSI) (da : DA) (E : DEnds) (δ : Dl) : Prop := da δ fun xs => (∀ x, xs[p]? = some x → x.isRef = true) ∧ S xs fun r x' => E.nx ((δ.set i (some x')).set j (some r))
end
end L3
set_option Elab.async false
set_option linter.all false
set_option maxRecDepth 100000
set_option maxHeartbeats 4000000
namespace L2
open PySem PySem.Spec PyProof.Rows
section
variable {X : Cx}
end
end L2
namespace L2
open PySem PySem.Spec PyProof.Rows
section
variable {X : Cx} {K : PySem.W.Frag}
end
end L2
set_option Elab.async false
set_option linter.all false
set_option maxRecDepth 100000
set_option maxHeartbeats 4000000
namespace L2
open PySem PySem.Spec PyProof.Rows
end L2
namespace L3
open PySem L2
section
variable {K : PySem.W.Frag} {ρ : Bool} {Γr Γl Γ Γ1 Γ2 Γn M : List Nat} {t u : TS} {te ta tb td ty tv : TE} {de da db dd dk dv : DE} {d e : DS}
def ofV : V → D | .non => .non | .bl b => .bl b | .int i => .int i | .str x => .str x | _ => .non
def asDic (x : D) (P : List (Key × V) → Prop) : Prop := match x with | .dic kvs => P kvs | _ => False
theorem asDic_dic {kvs : List (Key × V)} {P : List (Key × V) → Prop} : asDic (.dic kvs) P ↔ P kvs := Iff.rfl
def asV (o : Option V) (P : V → Prop) : Prop := match o with | some v => P v | none => False
def vDGet (dd dk : DE) (δ : Dl) (P : DK) : Prop := dd δ fun x => dk δ fun y => asI [y] fun n => asDic x fun kvs => asV (valV kvs (.inl n)) fun v => P (ofV v)
def vDIn (neg : Bool) (dk dd : DE) (δ : Dl) (P : DK) : Prop := dk δ fun y => dd δ fun x => asI [y] fun n => asDic x fun kvs => P (.bl (if neg then !(valV kvs (.inl n)).isSome else (valV kvs (.inl n)).isSome))
def slotD (δ : Dl) (i : Nat) (P : List (Key × V) → Prop) : Prop := vVar i δ fun x => asDic x P
def vDPut (i : Nat) (dk dv : DE) (E : DEnds) (δ : Dl) : Prop := dv δ fun x => x.scal = true ∧ slotD δ i fun kvs => dk δ fun y => asI [y] fun n => kvs.length < 1000 ∧ E.nx (δ.set i (some (.dic (putK kvs (.inl n) x.toV))))
def vIndex (da dk : DE) (δ : Dl) (P : DK) : Prop := da δ fun x => asLst (some x) fun ds => ds.all D.scal = true ∧ dk δ fun y => y.scal = true ∧ ∃ j : Nat, (∃ z, ds[j]? = some z ∧ eqV z.toV y.toV = true) ∧ (∀ m z, m < j → ds[m]? = some z → eqV z.toV y.toV = false) ∧ P (.int j)
def vSort (xs : List D) (P : DK) : Prop := match xs with | [x] => asNs x fun ns => ns.length < 64 ∧ ∀ ms : List Int, ms.Perm ns → ms.Pairwise (· ≤ ·) → P (dI ms) | _ => False
theorem vSort_ints {ns : List Int} {P : DK} : vSort [dI ns] P ↔ ns.length < 64 ∧ ∀ ms : List Int, ms.Perm ns → ms.Pairwise (· ≤ ·) → P (dI ms) := asNs_ints
def slotT (δ : Dl) (i : Nat) (P : List D → Prop) : Prop := match δ[i]? with | some (some (.tup ds)) => P ds | _ => False
def vClearT (i : Nat) (dk : DE) (E : DEnds) (δ : Dl) : Prop := slotT δ i fun ds => dk δ fun y => asI [y] fun m => 0 ≤ m ∧ asLst (ds[m.toNat]?) fun _ => E.nx (δ.set i none)
theorem isRef_lst {ds : List D} : (D.lst ds).isRef = true := rfl
theorem isRef_dic {ds : List (Key × V)} : (D.dic ds).isRef = true := rfl
theorem ofV_int {i : Int} : ofV (.int i) = .int i := rfl
theorem ofV_bl {b : Bool} : ofV (.bl b) = .bl b := rfl
theorem ofV_non : ofV .non = .non := rfl
def vLenD (xs : List D) (P : DK) : Prop := match xs with | [.dic kvs] => P (.int kvs.length) | _ => False
theorem vLenD_dic {kvs : List (Key × V)} {P : DK} : vLenD [.dic kvs] P ↔ P (.int kvs.length) := Iff.rfl
end
end L3
set_option Elab.async false
set_option linter.all false
set_option maxRecDepth 100000
set_option maxHeartbeats 4000000
namespace Mat
theorem nodup_sub : ∀ {l l' : List Nat}, l.Nodup → (∀ x ∈ l, x ∈ l') → l.length ≤ l'.length
  | [], _, _, _ => Nat.zero_le _
  | x :: l, l', h, s => by
    obtain ⟨h1, h2⟩ := List.nodup_cons.mp h
    have hx := s x List.mem_cons_self
    have := nodup_sub (l' := l'.erase x) h2 fun y hy => (List.mem_erase_of_ne (fun z => h1 (by rw [← z]; exact hy))).mpr (s y (List.mem_cons_of_mem _ hy))
    rw [List.length_erase_of_mem hx] at this
    have : 0 < l'.length := List.length_pos_of_mem hx
    rw [List.length_cons]; omega
theorem nodup_lt {l : List Nat} {n : Nat} (h : l.Nodup) (hl : ∀ x ∈ l, x < n) : l.length ≤ n := by
  have := nodup_sub h (l' := List.range n) fun x hx => List.mem_range.mpr (hl x hx)
  rwa [List.length_range] at this
def put (src : Nat → Option Nat) (c s : Nat) : Nat → Option Nat := fun d => if d = c then some s else src d
end Mat
namespace Mat
end Mat
namespace Mat
end Mat
set_option Elab.async false
set_option linter.all false
set_option maxRecDepth 100000
set_option maxHeartbeats 4000000
namespace L2
open PySem PySem.Spec PyProof.Rows
theorem GSets.cons {i k : Nat} {u : TGs} (h : i < k) (hu : GSets k u) : GSets k (gCons (gName i) u) := fun x σ H Q ⟨v, r, e, q⟩ => ⟨v, r, e, by
  have q2 := hu r (σ.set i (some v)) H Q q
  have e1 : (fun (σ2 : St) (H2 : Hp) => Q σ2 H2 ∧ σ2.length = (σ.set i (some v)).length ∧ ∀ j, k ≤ j → σ2[j]? = (σ.set i (some v))[j]?) = fun σ2 H2 => Q σ2 H2 ∧ σ2.length = σ.length ∧ ∀ j, k ≤ j → σ2[j]? = σ[j]? := by
    funext σ2 H2
    refine propext ⟨fun z => ⟨z.1, by rw [z.2.1, List.length_set], fun j hj => by rw [z.2.2 j hj, List.getElem?_set_ne (by omega)]⟩, fun z => ⟨z.1, by rw [z.2.1, List.length_set], fun j hj => by rw [z.2.2 j hj, List.getElem?_set_ne (by omega)]⟩⟩
  rw [e1] at q2
  exact q2⟩
theorem GSet.tup {K : PySem.W.Frag} {k n : Nat} {u : TGs} (hu : GSets k u) : GSet k (gTup K n u) := fun x σ H Q ⟨a, xs, e, hs, hl, q⟩ => ⟨a, xs, e, hs, hl, hu xs σ H Q q⟩
end L2
set_option Elab.async false
set_option linter.all false
set_option maxRecDepth 100000
set_option maxHeartbeats 4000000
namespace L3
open PySem L2
section
variable {K : PySem.W.Frag} {ρ : Bool} {Γr Γl Γ Γ1 Γ2 Γn M : List Nat} {t u : TS} {te ta tb : TE} {de da db : DE} {d e : DS}
structure OpS (K : PySem.W.Frag) (r : R2) (rv : D2) : Prop where
  mono : ∀ x y (P P' : DK), (∀ z, P z → P' z) → rv x y P → rv x y P'
  run : ∀ {H x y v w f1 f2 Q}, Rf K H x v f1 → Rf K H y w f2 → rv x y (fun z => ∀ u H' fp, Same H H' → Rf K H' z u fp → (∀ a ∈ fp, H a = none ∨ a ∈ f1 ∨ a ∈ f2) → Q u H') → r v w H Q
theorem es_op {r : R2} {rv : D2} (ho : OpS K r rv) (ha : ES K Γ ta da) (hb : ES K Γ tb db) : ES K Γ (tOp r ta tb) (vOp rv da db) :=
  ⟨fun δ P P' k h => ha.mono _ _ _ (fun x z => hb.mono _ _ _ (fun y z => ho.mono x y _ _ k z) z) h,
   fun o q => ha.run o (ha.mono _ _ _ (fun x z v H1 f1 s1 r1 n1 => hb.run (o.same s1) (hb.mono _ _ _ (fun y z w H2 f2 s2 r2 n2 => ho.run (r1.same s2) r2 (ho.mono _ _ _ _ (fun u z u' H' fp s r n => z u' H' fp ((s1.trans s2).trans s) r fun j hj a ha hz => by
      rcases n a ha with q | q | q
      · exact ((o.same s1).same s2).dom hz q
      · exact n1 j hj a q hz
      · exact n2 j hj a q hz) z)) z)) q)⟩
theorem o_catS : OpS K rCat vCatR := ⟨fun x y P P' k h => by unfold vCatR at h ⊢; revert h; split <;> first | exact fun h => ⟨h.1, k _ h.2⟩ | exact id, fun {H x y v w f1 f2 Q} r1 r2 h => by
  unfold vCatR at h
  split at h
  · rename_i a b
    obtain ⟨hl, h⟩ := h
    obtain ⟨l1, xs, q1, rfl, e1, rfl, hr1⟩ := r1
    obtain ⟨l2, ys, q2, rfl, e2, rfl, hr2⟩ := r2
    refine ⟨l1, l2, _, _, rfl, rfl, e1, e2, by rw [hr1.length, hr2.length]; exact le1000 hl, fun p hp => ?_⟩
    refine h _ _ (p :: (q1 ++ q2)) (Same.new' hp) ⟨p, _, _, rfl, upd_same, rfl, (hr1.append hr2).same (Same.new' hp)⟩ fun c hc => ?_
    rcases List.mem_cons.mp hc with z | z
    · subst z; exact .inl hp
    · rcases List.mem_append.mp z with z | z
      · exact .inr (.inl (List.mem_cons_of_mem _ z))
      · exact .inr (.inr (List.mem_cons_of_mem _ z))
  · exact h.elim⟩
def vClearTs (i j : Nat) (k : Nat) (E : DEnds) (δ : Dl) : Prop := slotL δ i fun ds => j < δ.length ∧ (∀ (m : Nat) (d : D), ds[m]? = some d → ∃ (es e : List D), d = D.tup es ∧ es[k]? = some (D.lst e)) ∧ E.nx ((δ.set j none).set i (some (.lst [])))
end
end L3
namespace L3
open PySem L2
end L3
set_option Elab.async false
set_option linter.all false
set_option maxRecDepth 100000
set_option maxHeartbeats 4000000
namespace Bir
section
variable {κ : Type} [DecidableEq κ]
end
def S (m : Nat) (f : Nat → Int) : Int := ((List.range m).map f).sum
theorem S_succ {m : Nat} {f : Nat → Int} : S (m + 1) f = S m f + f m := by
  unfold S; rw [List.range_succ, List.map_append, List.sum_append]; simp
theorem S_zero {f : Nat → Int} : S 0 f = 0 := rfl
theorem S_one {f : Nat → Int} {c : Nat} : ∀ {m : Nat}, (∀ i, i < m → i ≠ c → f i = 0) → S m f = if c < m then f c else 0
  | 0, _ => by simp [S_zero]
  | m + 1, h => by
    rw [S_succ, S_one (m := m) fun i hi hn => h i (by omega) hn]
    by_cases h1 : c < m
    · rw [if_pos h1, if_pos (by omega), h m (by omega) (by omega)]; omega
    · rw [if_neg h1]
      by_cases h2 : c = m
      · subst h2; rw [if_pos (by omega)]; omega
      · rw [if_neg (by omega), h m (by omega) (Ne.symm h2)]; omega
abbrev Cd := Option (Nat × Nat)
def e (p : List Nat) (i j : Nat) : Int := if p[i]? = some j then 1 else 0
def fn (m r c : Nat) : Cd → Int
  | none => if r = m then (if c = m then 1 - (m : Int) else 1) else (if c = m then 1 else 0)
  | some (i, j) => if r = m then (if c = m then 1 else if j = c then -1 else 0) else (if c = m then (if i = r then -1 else 0) else if i = r ∧ j = c then 1 else 0)
structure Pm (n : Nat) (p : List Nat) : Prop where
  len : p.length = n
  lt : ∀ (i c : Nat), p[i]? = some c → c < n
  nd : p.Nodup
theorem Pm.row {n : Nat} {p : List Nat} (h : Pm n p) {i : Nat} (hi : i < n) : S n (e p i) = 1 := by
  obtain ⟨c, hc⟩ : ∃ c, p[i]? = some c := ⟨_, List.getElem?_eq_getElem (by rw [h.len]; exact hi)⟩
  rw [S_one (c := c) fun j hj hn => by unfold e; rw [if_neg (fun z => hn (by rw [hc] at z; exact (Option.some.inj z).symm))], if_pos (h.lt i c hc)]
  unfold e; rw [if_pos hc]
end Bir
set_option Elab.async false
set_option linter.all false
set_option maxRecDepth 100000
set_option maxHeartbeats 4000000
namespace Bir
open L3
end Bir
set_option Elab.async false
set_option linter.all false
set_option maxRecDepth 100000
set_option maxHeartbeats 4000000
namespace L2
open PySem
end L2
namespace L3
open PySem L2
section
variable {K : PySem.W.Frag} {ρ : Bool} {Γr Γl Γ Γ1 Γ2 Γn M : List Nat} {t u : TS} {te ta tb td ty tv ti : TE} {de da db dd dk dv di : DE} {d e : DS}
theorem Rfs.getN {H : Hp} : ∀ {ds : List D} {vs : List V} {fp : List Addr} {i : Nat} {d : D}, Rfs K H ds vs fp → fp.Nodup → ds[i]? = some d → ∃ v f, vs[i]? = some v ∧ Rf K H d v f ∧ (∀ a ∈ f, a ∈ fp) ∧ f.Nodup
  | [], _, _, _, _, _, _, e => by simp at e
  | d :: ds, vs, fp, 0, d', h, n, e => by
    obtain ⟨x, r, f1, f2, rfl, rfl, h1, h2⟩ := h
    simp at e; subst e
    exact ⟨x, f1, rfl, h1, fun a ha => List.mem_append_left _ ha, (List.nodup_append.mp n).1⟩
  | d :: ds, vs, fp, i + 1, d', h, n, e => by
    obtain ⟨x, r, f1, f2, rfl, rfl, h1, h2⟩ := h
    obtain ⟨v, f, e1, h3, k, n'⟩ := Rfs.getN (i := i) h2 (List.nodup_append.mp n).2.1 (by simpa using e)
    exact ⟨v, f, by simpa using e1, h3, fun a ha => List.mem_append_right _ (k a ha), n'⟩
theorem vIxT_o {x y : D} {P : DK} (h : vIxT x y P) : ∃ ds i d, x = .tup ds ∧ y = .int i ∧ atI ds i = some d ∧ P d := by
  unfold vIxT at h
  split at h
  · split at h
    · exact ⟨_, _, _, rfl, rfl, by assumption, h⟩
    · exact h.elim
  · exact h.elim
theorem vIxT_i {ds : List D} {i : Int} {d : D} {P : DK} (e : atI ds i = some d) (h : P d) : vIxT (.tup ds) (.int i) P := by
  show (match atI ds i with | some d => P d | none => False)
  rw [e]; exact h
theorem em_ixT (ha : EM K Γ [] ta da) (hi : ER K Γ ti di) : EM K Γ [] (tOp (rIxT K) ta ti) (vOp vIxT da di) :=
  ⟨fun δ P P' k h => ha.mono _ _ _ (fun x z => hi.mono _ _ _ (fun y z => by
      obtain ⟨ds, i, d, rfl, rfl, e, z1⟩ := vIxT_o z
      exact vIxT_i e (k _ z1)) z) h,
   fun {B0 fps δ σ H Q} o h => ha.run o (ha.mono _ _ _ (fun x z v H1 fp s1 r1 n1 => hi.run (o.same s1) (hi.mono _ _ _ (fun y z w H2 s2 r2 => by
      obtain ⟨ds, i, d, rfl, rfl, ed, z1⟩ := vIxT_o z
      obtain ⟨a, xs, rfl, ha, hr⟩ := r1
      have ei : ∃ j, ixN ds.length i = some j ∧ ds[j]? = some d := by
        unfold atI at ed
        cases q : ixN ds.length i with
        | none => rw [q] at ed; cases ed
        | some j => rw [q] at ed; exact ⟨j, rfl, ed⟩
      obtain ⟨j, ej, edj⟩ := ei
      obtain ⟨u, f, hu, ru, hf, hn⟩ := hr.getN n1.nd edj
      exact ⟨a, xs, i, u, rfl, r2.int, .inl (.inl (s2 _ _ ha)), by unfold atI; rw [hr.length, ej]; exact hu, z1 u H2 f (s1.trans s2) (ru.same s2) ⟨hn, fun b hb => (n1.mu b (hf b hb)).same s2, fun b hb => n1.src b (hf b hb)⟩⟩) z)) h)⟩
def vTupOf (xs : List D) (P : DK) : Prop := match xs with | [x] => asL x fun ds => ds.all D.scal = true ∧ P (.tup ds) | _ => False
theorem vTupOf_lst {ds : List D} {P : DK} : vTupOf [.lst ds] P ↔ ds.all D.scal = true ∧ P (.tup ds) := Iff.rfl
def keyT (ns : List Int) : List Key := ns.map fun n => .inl n
def asTI (x : D) (P : List Int → Prop) : Prop := match x with | .tup ds => (match toInts ds with | some ns => P ns | none => False) | _ => False
theorem asTI_in {ns : List Int} {P : List Int → Prop} : asTI (.tup (ns.map D.int)) P ↔ P ns := by
  unfold asTI
  show (match toInts (ns.map D.int) with | some ns => P ns | none => False) ↔ P ns
  rw [toInts_map]
def asDit (x : D) (P : List (List Key × V) → Prop) : Prop := match x with | .dit kvs => P kvs | _ => False
theorem asDit_dit {kvs : List (List Key × V)} {P : List (List Key × V) → Prop} : asDit (.dit kvs) P ↔ P kvs := Iff.rfl
def vDInT (dk dd : DE) (δ : Dl) (P : DK) : Prop := dk δ fun y => dd δ fun x => asTI y fun ns => asDit x fun kvs => P (.bl (valV kvs (keyT ns)).isSome)
def vDPutT (i : Nat) (dk dv : DE) (E : DEnds) (δ : Dl) : Prop := dv δ fun x => x.scal = true ∧ vVar i δ fun d => asDit d fun kvs => dk δ fun y => asTI y fun ns => kvs.length < 1000 ∧ E.nx (δ.set i (some (.dit (putK kvs (keyT ns) x.toV))))
end
end L3
set_option Elab.async false
set_option linter.all false
set_option maxRecDepth 100000
set_option maxHeartbeats 4000000
namespace L3
open PySem L2
section
variable {K : PySem.W.Frag} {Γ : List Nat}
def vTupR (xs : List D) (P : DK) : Prop := match xs with | [x] => asL x fun ds => P (.tup ds) | _ => False
theorem vTupR_lst {ds : List D} {P : DK} : vTupR [.lst ds] P ↔ P (.tup ds) := Iff.rfl
end
end L3
set_option Elab.async false
set_option linter.all false
set_option maxRecDepth 100000
set_option maxHeartbeats 4000000
namespace L2
open PySem
theorem PS.nox {X : Cx} {st : Stmt} {t : TS} (h : PS X.nox st t) : PS X st t := fun pins s σ H D I hw =>
  wpAny_mono (h pins s σ H D (I.wish _) hw) (fun _ _ q => q.unwish) fun _ _ z => False.elim z
end L2
set_option Elab.async false
set_option linter.all false
set_option maxRecDepth 100000
set_option maxHeartbeats 4000000
namespace L3
open PySem L2
section
variable {K : PySem.W.Frag} {ρ : Bool} {Γr Γl Γ : List Nat}
def vClearTL (i j k : Nat) (E : DEnds) (δ : Dl) : Prop := slotT δ i fun es => j < δ.length ∧ asLst (es[k]?) fun ds => (∀ d ∈ ds, ∃ e, d = D.lst e) ∧ E.nx ((δ.set j none).set i none)
end
end L3
set_option Elab.async false
set_option linter.all false
set_option maxRecDepth 100000
namespace L2
open PySem PySem.Spec PyProof.Rows
section
variable {P : Program} {w : World} {K : PySem.W.Frag} {mg : Str → Option Value} {base : Heap} {x qual : Str} {st : Stmt} {dv : List Value} {f : Addr} {fd : FuncData} {N ps : List Str} {k : Nat} {sp : Sp}
end
end L2
set_option Elab.async false
set_option linter.all false
set_option maxRecDepth 100000
namespace L3
open PySem L2
section
variable {K : PySem.W.Frag} {Γ : List Nat} {t : TA} {d : DA}
def vDef (d : DA) (z : Int) : DA := fun δ P => d δ fun xs => P (xs ++ [.int z])
end
end L3
set_option Elab.async false
set_option linter.all false
set_option maxRecDepth 100000
set_option maxHeartbeats 4000000
namespace L2
open PySem PySem.Spec PyProof.Rows PySem.Builtin PySem.Builtin.Str
section
variable {X : Cx}
theorem vals_strs : ∀ (l : List (Str × Tok)), Vals ((l.map (·.1)).map V.str) (strValues l)
  | [] => .nil
  | p :: r => .cons ⟨p.2, rfl⟩ (vals_strs r)
def rSplit : V → List V → Hp → VK → Prop := fun x vs H Q => ∃ (a b : Str), x = .str a ∧ vs = [.str b] ∧ (b.length == 0) = false ∧ a.length + 2 ≤ sizeLine ∧ ∀ p, H p = none → Q (.ref p) (upd H p (.lst ((Txt.split a b).map V.str)))
theorem split_len {a b : Str} (h : a.length + 2 ≤ sizeLine) : (Txt.split a b).length ≤ sizeLine := by
  have s1 : (1 : Nat) ≤ sizeLine := by decide
  unfold Txt.split
  split
  · exact s1
  · split
    · exact s1
    · have e1 := StrLaws.occ_length_le a b 0 a.length (a.length + 1)
      rw [length_partsBetween]; omega
theorem mt_split : MtR X "str.split" rSplit := by
  intro pins s σ H x vs v us Q I rx rv h
  obtain ⟨a, b, rfl, rfl, hb, hz, q⟩ := h
  obtain ⟨t, rfl⟩ := rx
  obtain ⟨u, rfl, ⟨t2, rfl⟩⟩ := rv.one
  have hn : (partsBetween a (occurrences a b 0 a.length (a.length + 1)) b.length).length ≤ sizeLine := by
    have e1 := StrLaws.occ_length_le a b 0 a.length (a.length + 1)
    rw [length_partsBetween]; omega
  have key : ∀ (l : List (Str × Tok)) (k : Nat), l.map (·.1) = Txt.split a b → EP X pins σ Q (.ref s.heap.objs.size) { s with heap := s.heap.push { cls := .type "list", data := .seq (strValues l).toArray }, toks := k } := fun l k e => by
    have v := vals_strs l
    rw [e] at v
    exact ⟨.ref s.heap.objs.size, _, I.lnew (t' := k) v (by rw [List.length_map]; exact split_len hz), rfl, q _ I.fresh⟩
  cases h1 : (decide (a.length < b.length) || decide (strKind a < strKind b))
  · cases hf : (occurrences a b 0 a.length (a.length + 1)).isEmpty
    · refine call_meets F.slot_str_split (typeIs_str _ _ _) F.entry_str_split (F.args_str_split_2 _ _) (meets_str_split_sep a b t t2 h1 hb hf (by omega) hn) ?_
      show wants _ _ _ { s with toks := _, heap := s.heap.push { cls := .type "list", data := .seq (strsFrom s.toks (partsBetween a (occurrences a b 0 a.length (a.length + 1)) b.length)).toArray } }
      rw [strsFrom_eq]
      exact key (numbered s.toks _) _ ((numbered_texts _ _).trans ((if_neg (ne_true_of_eq_false h1)).trans (if_neg (ne_true_of_eq_false hf))).symm)
    · exact call_meets F.slot_str_split (typeIs_str _ _ _) F.entry_str_split (F.args_str_split_2 _ _) (meets_str_split_not_found a b t t2 h1 hb hf)
        (key [(a, t)] s.toks ((if_neg (ne_true_of_eq_false h1)).trans (if_pos hf)).symm)
  · exact call_meets F.slot_str_split (typeIs_str _ _ _) F.entry_str_split (F.args_str_split_2 _ _) (meets_str_split_cannot_occur a b t t2 h1)
      (key [(a, t)] s.toks (if_pos h1).symm)
def rStarts : V → List V → Hp → VK → Prop := fun x vs H Q => ∃ (a b : Str), x = .str a ∧ vs = [.str b] ∧ Q (.bl (Txt.startswith a b)) H
theorem mt_starts : MtR X "str.startswith" rStarts := by
  intro pins s σ H x vs v us Q I rx rv h
  obtain ⟨a, b, rfl, rfl, q⟩ := h
  obtain ⟨t, rfl⟩ := rx
  obtain ⟨u, rfl, ⟨t2, rfl⟩⟩ := rv.one
  exact call_meets F.slot_str_startswith (typeIs_str _ _ _) F.entry_str_startswith (F.args_str_startswith_2 _ _) (gives_str_startswith a b t t2).meets ⟨.bl _, H, I, rfl, q⟩
def partL (a b : Str) : List Str := match occurrences a b 0 a.length 1 with
  | i :: _ => [strSub a 0 i, b, strSub a (i + b.length) a.length]
  | [] => [a, Str.empty, Str.empty]
def rPartition : V → List V → Hp → VK → Prop := fun x vs H Q => ∃ (a b : Str), x = .str a ∧ vs = [.str b] ∧ (b.length == 0) = false ∧ a.length ≤ sizeLine ∧ ∀ p, H p = none → Q (.ref p) (upd H p (.tup ((partL a b).map V.str)))
theorem mt_partition : MtR X "str.partition" rPartition := by
  intro pins s σ H x vs v us Q I rx rv h
  obtain ⟨a, b, rfl, rfl, hb, hz, q⟩ := h
  obtain ⟨t, rfl⟩ := rx
  obtain ⟨u, rfl, ⟨t2, rfl⟩⟩ := rv.one
  refine call_meets F.slot_str_partition (typeIs_str _ _ _) F.entry_str_partition (F.args_str_partition_2 _ _) (meets_str_partition a b t t2 hb hz) ?_
  have q' := q _ I.fresh
  unfold partL at q'
  show wants _ _ (.ok (.ret (.ref s.heap.objs.size))) _
  cases e : occurrences a b 0 a.length 1 with
  | nil =>
    rw [e] at q'
    exact ⟨.ref s.heap.objs.size, upd H s.heap.objs.size (.tup [.str a, .str Str.empty, .str Str.empty]), I.laid (t' := s.toks + 1) (fun b u e => Heap.get?_push_of_some _ e) (Nat.le_refl _) ⟨show 3 ≤ sizeLine by decide, _, .cons ⟨t, rfl⟩ (.cons ⟨s.toks, rfl⟩ (.cons ⟨s.toks, rfl⟩ .nil)), ⟨_, Heap.get?_push_size _ rfl, rfl, _, rfl⟩⟩, rfl, q'⟩
  | cons i r =>
    rw [e] at q'
    exact ⟨.ref s.heap.objs.size, upd H s.heap.objs.size (.tup [.str (strSub a 0 i), .str b, .str (strSub a (i + b.length) a.length)]), I.laid (t' := s.toks + 1 + 1) (fun b u e => Heap.get?_push_of_some _ e) (Nat.le_refl _) ⟨show 3 ≤ sizeLine by decide, _, .cons ⟨s.toks, rfl⟩ (.cons ⟨t2, rfl⟩ (.cons ⟨s.toks + 1, rfl⟩ .nil)), ⟨_, Heap.get?_push_size _ rfl, rfl, _, rfl⟩⟩, rfl, q'⟩
theorem call_int_text : CallR X (.type "int") (fun xs H Q => ∃ (x : Str) (n : Int), xs = [.str x] ∧ intText? x = some n ∧ x.length ≤ 640 ∧ Q (.int n) H) := by
  intro pins s σ H xs vs Q I rv h
  obtain ⟨x, n, rfl, hn, hl, q⟩ := h
  obtain ⟨u, rfl, ⟨t, rfl⟩⟩ := rv.one
  exact PySem.W.KIN.call_text hn hl ⟨.int n, H, I.tok _, ⟨_, rfl⟩, q⟩
end
end L2
set_option Elab.async false
set_option linter.all false
set_option maxRecDepth 100000
set_option maxHeartbeats 4000000
namespace L2
open PySem PySem.Spec PyProof.Rows PySem.Builtin PySem.Builtin.Str
section
variable {X : Cx}
theorem strs_of_vals : ∀ {ts : List Str} {us : List Value}, Vals (ts.map V.str) us → ∃ l : List (Str × Tok), us = strValues l ∧ l.map (·.1) = ts
  | [], _, .nil => ⟨[], rfl, rfl⟩
  | a :: ts, _, .cons r1 r2 => by
    obtain ⟨t, rfl⟩ := r1
    obtain ⟨l, rfl, e⟩ := strs_of_vals r2
    exact ⟨(a, t) :: l, rfl, by rw [List.map_cons, e]⟩
def rJoin (K : PySem.W.Frag) : V → List V → Hp → VK → Prop := fun x vs H Q => ∃ (a : Str) (p : Addr) (ts : List Str), x = .str a ∧ vs = [.ref p] ∧ SqL K H p (ts.map V.str) ∧ JoinOk a ts = true ∧ (Str.join a ts).length ≤ sizeLine ∧ Q (.str (Str.join a ts)) H
theorem mt_join : MtR X "str.join" (rJoin X.K) := by
  intro pins s σ H x vs v us Q I rx rv h
  obtain ⟨a, p, ts, rfl, rfl, hH, hz, hn, q⟩ := h
  obtain ⟨t, rfl⟩ := rx
  obtain ⟨u, rfl, rfl⟩ := rv.one
  obtain ⟨its, r, pl, _⟩ := I.list hH
  obtain ⟨l, rfl, e⟩ := strs_of_vals r
  subst e
  have hz' : tooLong ((l.map (·.1)).toArray.foldl (· + ·.length + a.length) 0) = false := by
    unfold JoinOk at hz
    simpa using hz
  refine call_meets F.slot_str_join (typeIs_str _ _ _) F.entry_str_join (F.args_str_join_2 _ _) (meets_str_join_list a t p l hz') ⟨pl.isList, ?_⟩
  rw [← StrLaws.glued_eq_join] at q hn
  unfold joinMade
  match l, q, hn with
  | [y], q, hn => exact ⟨.str _, H, I, ⟨_, rfl⟩, q⟩
  | [], q, hn => exact ⟨hn, .str _, H, I.tok _, ⟨_, rfl⟩, q⟩
  | y :: z :: r, q, hn => exact ⟨hn, .str _, H, I.tok _, ⟨_, rfl⟩, q⟩
theorem mt_joinK {K : PySem.W.Frag} (h : X.K = K) : MtR X "str.join" (rJoin K) := by subst h; exact mt_join
def rSlS : V → Option Int → Option Int → Hp → VK → Prop := fun x lo hi H Q => ∃ (a : Str) (i : Int), x = .str a ∧ lo = some i ∧ hi = none ∧ a.length ≤ sizeLine ∧ Q (.str (Txt.slice a (some i) none)) H
theorem sl_str : SlR X rSlS := by
  intro pins s σ H x v vl vu lo hi sl Q I rx hs pl pu h
  obtain ⟨a, i, rfl, rfl, rfl, hz, q⟩ := h
  obtain ⟨t, rfl⟩ := rx
  cases pl
  cases pu
  rename_i ui
  refine ⟨"str", _, F.slot_str_getitem.lookup, typeIs_str _ _ _, ?_⟩
  refine wpAny_getItem_str_slice (l := some (i, ui)) (u := none) (st := none) hs rfl (post_val_or_str ⟨Nat.le_trans (Txt.slice_le a _ _) hz, fun t' k => ?_⟩)
  exact ⟨.str _, H, I.kept (t' := k) fun b o e => e, ⟨t', rfl⟩, q⟩
def Its (x : Str) : It := ⟨fun i _ => i < x.cps.size, fun i H v H' => H' = H ∧ ∃ c, x.cps[i]? = some c ∧ v = .str ⟨#[c]⟩, fun i _ => x.cps.size ≤ i⟩
theorem turn_str {P : Program} {w : World} {K : PySem.W.Frag} {tg : Expr} (x : Str) (t : Tok) (it : Addr) : Turn P w K tg (Its x) [it] it (fun i h => h.IsStrIter it "str_ascii_iterator" x t i) where
  mem := by simp
  obj := fun i h st b hb => by
    have e : b = it := by simpa using hb
    subst e
    obtain ⟨o, e, c, d⟩ := st
    exact ⟨o, e, fun v z => by rw [d] at z; cases z⟩
  keep := fun i h h' st k => by
    obtain ⟨o, e, c, d⟩ := st
    exact ⟨o, k it (by simp) o e, c, d⟩
  item := by
    intro X hP hw hK hc i pins s σ H E I hf st hg
    subst hP hw hK
    have hg : i < x.cps.size := hg
    obtain ⟨f0, f1, f2, f3, f4, f5⟩ := hf it (by simp)
    have hx : x.cps[i]? = some x.cps[i] := Array.getElem?_eq_getElem hg
    refine wpAny_pyNext_ascii_item st hx fun h' st' sb => ?_
    have I1 : Inv X pins σ H { s with heap := h', toks := s.toks + 1 } := I.turned (fun b o hb e => (sb.2 b hb).trans e) f0 f1 f3 f4 f5
    obtain ⟨o, e, c, d⟩ := id st'
    exact ⟨_, rfl, go_of (s := { s with heap := h', toks := s.toks + 1 }) e c d (by decide) ⟨.str ⟨#[x.cps[i]]⟩, H, I1, ⟨_, rfl⟩, ⟨rfl, _, hx, rfl⟩, st', fun b hb => (hf b hb).1⟩⟩
  done := by
    intro X hP hw hK hc i pins s σ H E I hf st hg
    subst hP hw hK
    have hg : x.cps.size ≤ i := hg
    obtain ⟨f0, f1, f2, f3, f4, f5⟩ := hf it (by simp)
    exact wpAny_pyNext_ascii_end (I.ok.hd hc) st (Array.getElem?_eq_none hg) fun h' eb => ⟨rfl, I.turned (t' := s.toks) (fun b o hb e => eb b o hb e) f0 f1 f3 f4 f5⟩
  self := fun _ _ _ _ _ st h => wpAny_pyIter_striter_ascii st h
def iStr (tl : TE) : TI := fun σ H R => tl σ H fun x H1 => ∃ z, x = .str z ∧ z.cps.all (· < 128) = true ∧ R (Its z) H1
theorem pi_str {tg l : Expr} {tl : TE} (hl : PE X l tl) : PI X tg l (iStr tl) := by
  intro pins s σ H R I h
  refine thn (hl pins s σ H _ I h) fun v s1 ⟨x, H1, I1, r1, q1⟩ => ?_
  obtain ⟨z, e, ha, q⟩ := q1
  subst e
  obtain ⟨t, rfl⟩ := r1
  refine wpAny_pyIter_ascii ha ?_
  refine ⟨s1.heap.objs.size, [s1.heap.objs.size], _, _, H1, rfl, I1.kept (t' := s1.toks) fun b o e => Heap.get?_push_of_some _ e, turn_str z t _, ⟨_, Heap.get?_push_size _ rfl, rfl, rfl⟩, fun b hb => ?_, q⟩
  have e : b = s1.heap.objs.size := by simpa using hb
  subst e
  exact I1.fpOk (Nat.le_refl _) (I1.hok.fresh (Nat.le_refl _))
end
end L2
set_option Elab.async false
set_option linter.all false
set_option maxRecDepth 100000
set_option maxHeartbeats 4000000
namespace L3
open PySem L2 PySem.Builtin PySem.Builtin.Str
section
variable {K : PySem.W.Frag} {ρ : Bool} {Γr Γl Γ Γ1 Γ2 Γn M : List Nat} {te ta tb tx t1 t2 tz : TE} {de da db dx d1 d2 dz : DE} {u : TA} {dr : DA}
variable {B0 : Hp} {fps : Nat → List Addr} {δ : Dl} {σ : St} {H H' : Hp}
structure MetV (K : PySem.W.Frag) (r : V → List V → Hp → VK → Prop) (S : DSp) : Prop where
  mono : DMono S
  run : ∀ {H x xs v vs Q}, Rp K H (.str x) v → Rps K H xs vs → S (.str x :: xs) (fun z => ∀ u H' fp, Same H H' → Rf K H' z u fp → Nw H H' nf [] fp → Q u H') → r v vs H Q
def asS (x : D) (P : Str → Prop) : Prop := match x with | .str a => P a | _ => False
theorem asS_out {x : D} {P : Str → Prop} (h : asS x P) : ∃ a, x = .str a ∧ P a := by
  unfold asS at h; split at h
  · exact ⟨_, rfl, h⟩
  · exact h.elim
theorem asS_str {a : Str} {P : Str → Prop} : asS (.str a) P = P a := rfl
def vMS (S : DSp) (da : DE) (dr : DA) (δ : Dl) (P : DK) : Prop := da δ fun x => asS x fun a => dr δ fun xs => S (.str a :: xs) P
theorem em_ms {r : V → List V → Hp → VK → Prop} {S : DSp} (hc : MetV K r S) (ha : ER K Γ ta da) (hr : AR K Γ u dr) : EM K Γ [] (tBM K "str" r ta u) (vMS S da dr) :=
  ⟨fun δ P P' k h => ha.mono _ _ _ (fun x z => by
      obtain ⟨a, rfl, z⟩ := asS_out z
      exact hr.mono _ _ _ (fun y z => hc.mono _ _ _ k z) z) h,
   fun {B0 fps δ σ H Q} o h => ha.run o (ha.mono _ _ _ (fun x z v H1 s1 r1 => by
    obtain ⟨a, rfl, z⟩ := asS_out z
    have e : v = .str a := r1.choose_spec.1
    subst e
    refine ⟨rfl, hr.run (o.same s1) (hr.mono _ _ _ (fun xs z vs H2 s2 r2 => ?_) z)⟩
    exact hc.run (r1.same s2) r2 (hc.mono _ _ _ (fun u z u' H' fp s r n => z u' H' fp ((s1.trans s2).trans s) r (n.any.later (s1.trans s2))) z)) h)⟩
theorem strs1 {H : Hp} {b : Str} {vs : List V} (h : Rps K H [.str b] vs) : vs = [.str b] := by
  obtain ⟨v, rfl, r⟩ := Rps.one h
  have e : v = .str b := r.choose_spec.1
  rw [e]
theorem strs_scal {ts : List Str} : (ts.map D.str).all D.scal = true := by rw [List.all_map, List.all_eq_true]; exact fun _ _ => rfl
theorem strs_toV {ts : List Str} : (ts.map D.str).map D.toV = ts.map V.str := by rw [List.map_map]; rfl
def vSplit : DSp := fun xs P => match xs with | [.str a, .str b] => ((b.length == 0) = false ∧ a.length + 2 ≤ sizeLine) ∧ P (.lst ((Txt.split a b).map D.str)) | _ => False
theorem m_split : MetV K rSplit vSplit := ⟨fun xs P P' k h => by
    unfold vSplit at h ⊢
    revert h
    split
    · exact fun h => ⟨h.1, k _ h.2⟩
    · exact id,
  fun {H x xs v vs Q} r1 r2 h => by
    unfold vSplit at h
    split at h
    · rename_i a b e
      cases e
      obtain ⟨⟨h1, h2⟩, h⟩ := h
      have e : v = .str x := r1.choose_spec.1
      subst e
      have e2 := strs1 r2
      subst e2
      refine ⟨x, b, rfl, rfl, h1, h2, fun p hp => ?_⟩
      rw [← strs_toV]
      obtain ⟨n1, n2, n3⟩ := new1 (K := K) (strs_scal (ts := Txt.split x b)) hp
      exact h _ _ _ n1 n2 n3
    · exact h.elim⟩
def vStarts : DSp := fun xs P => match xs with | [.str a, .str b] => P (.bl (Txt.startswith a b)) | _ => False
theorem m_starts : MetV K rStarts vStarts := ⟨fun xs P P' k h => by
    unfold vStarts at h ⊢
    revert h
    split
    · exact fun h => k _ h
    · exact id,
  fun {H x xs v vs Q} r1 r2 h => by
    unfold vStarts at h
    split at h
    · rename_i a b e
      cases e
      have e : v = .str x := r1.choose_spec.1
      subst e
      have e2 := strs1 r2
      subst e2
      exact ⟨x, b, rfl, rfl, h _ H [] (Same.refl H) ⟨rfl, rfl⟩ Nw.nil⟩
    · exact h.elim⟩
def vPartition : DSp := fun xs P => match xs with | [.str a, .str b] => ((b.length == 0) = false ∧ a.length ≤ sizeLine) ∧ P (.tup ((partL a b).map D.str)) | _ => False
theorem m_partition : MetV K rPartition vPartition := ⟨fun xs P P' k h => by
    unfold vPartition at h ⊢
    revert h
    split
    · exact fun h => ⟨h.1, k _ h.2⟩
    · exact id,
  fun {H x xs v vs Q} r1 r2 h => by
    unfold vPartition at h
    split at h
    · rename_i a b e
      cases e
      obtain ⟨⟨h1, h2⟩, h⟩ := h
      have e : v = .str x := r1.choose_spec.1
      subst e
      have e2 := strs1 r2
      subst e2
      refine ⟨x, b, rfl, rfl, h1, h2, fun p hp => ?_⟩
      rw [← strs_toV]
      exact h _ _ [] (Same.new' hp) ⟨p, _, rfl, upd_same, Rfs.ofScals strs_scal⟩ Nw.nil
    · exact h.elim⟩
def vJoin : DSp := fun xs P => match xs with | [.str a, y] => asL y fun ds => ∃ ts : List Str, ds = ts.map D.str ∧ (JoinOk a ts = true ∧ (Str.join a ts).length ≤ sizeLine) ∧ P (.str (Str.join a ts)) | _ => False
theorem m_join : MetV K (rJoin K) vJoin := ⟨fun xs P P' k h => by
    unfold vJoin at h ⊢
    revert h
    split
    · intro h
      obtain ⟨ds, e, ts, z1, z2, z3⟩ := asL_out h
      exact asL_in e ⟨ts, z1, z2, k _ z3⟩
    · exact id,
  fun {H x xs v vs Q} r1 r2 h => by
    unfold vJoin at h
    split at h
    · rename_i a y e
      cases e
      obtain ⟨ds, e, ts, rfl, ⟨z1, z2⟩, z3⟩ := asL_out h
      have e0 : v = .str x := r1.choose_spec.1
      subst e0
      obtain ⟨w, rfl, r0⟩ := Rps.one r2
      obtain ⟨p, ys, fq, rfl, hs, hr⟩ := r0.seq e
      obtain ⟨rfl, _⟩ := hr.scals strs_scal
      rw [strs_toV] at hs
      exact ⟨x, p, ts, rfl, rfl, hs, z1, z2, z3 _ H [] (Same.refl H) ⟨rfl, rfl⟩ Nw.nil⟩
    · exact h.elim⟩
def vSlS (de : DE) (dl dh : DO) (δ : Dl) (P : DK) : Prop := de δ fun x => dl δ fun l => dh δ fun u => asS x fun a => ∃ i, (l = some i ∧ u = none ∧ a.length ≤ sizeLine) ∧ P (.str (Txt.slice a (some i) none))
theorem em_slS {tl th : TO} {dl dh : DO} (he : ER K Γ te de) (hl : OR K Γ tl dl) (hh : OR K Γ th dh) : EM K Γ [] (tSl rSlS te tl th) (vSlS de dl dh) :=
  ⟨fun δ P P' k h => he.mono _ _ _ (fun x z => hl.mono _ _ _ (fun l z => hh.mono _ _ _ (fun u z => by obtain ⟨a, rfl, i, z1, z2⟩ := asS_out z; exact ⟨i, z1, k _ z2⟩) z) z) h,
   fun {B0 fps δ σ H Q} o h => he.run o (he.mono _ _ _ (fun x z v H1 s1 r1 => hl.run (o.same s1) (hl.mono _ _ _ (fun l z H2 s2 => hh.run ((o.same s1).same s2) (hh.mono _ _ _ (fun u z H3 s3 => by
    obtain ⟨a, rfl, i, ⟨rfl, rfl, z1⟩, z2⟩ := asS_out z
    have e : v = .str a := r1.choose_spec.1
    subst e
    exact ⟨a, i, rfl, rfl, rfl, z1, z2 _ H3 [] ((s1.trans s2).trans s3) ⟨rfl, rfl⟩ Nw.nil⟩) z)) z)) h)⟩
def vIntT : DSp := fun xs P => match xs with | [.str a] => ∃ n, (intText? a = some n ∧ a.length ≤ 640) ∧ P (.int n) | _ => False
theorem c_intT : CallV K (fun xs H Q => ∃ (x : Str) (n : Int), xs = [.str x] ∧ intText? x = some n ∧ x.length ≤ 640 ∧ Q (.int n) H) vIntT := ⟨fun xs P P' k h => by
    unfold vIntT at h ⊢
    revert h
    split
    · exact fun ⟨n, h1, h2⟩ => ⟨n, h1, k _ h2⟩
    · exact id,
  fun {H xs vs Q} r h => by
    unfold vIntT at h
    split at h
    · obtain ⟨n, ⟨h1, h2⟩, h⟩ := h
      have e := strs1 r
      subst e
      exact ⟨_, n, rfl, h1, h2, h _ H [] (Same.refl H) ⟨rfl, rfl⟩ Nw.nil⟩
    · exact h.elim⟩
def vStrI : DSp := fun xs P => match xs with | [.int i] => i.natAbs.log2 < 1920 ∧ P (.str (toString i)) | _ => False
theorem c_strI : CallV K (fun xs H Q => ∃ i, xs = [.int i] ∧ i.natAbs.log2 < 1920 ∧ Q (.str (toString i)) H) vStrI := ⟨fun xs P P' k h => by
    unfold vStrI at h ⊢
    revert h
    split
    · exact fun h => ⟨h.1, k _ h.2⟩
    · exact id,
  fun {H xs vs Q} r h => by
    unfold vStrI at h
    split at h
    · have e := Rps.ints1 r
      subst e
      exact ⟨_, rfl, h.1, h.2 _ H [] (Same.refl H) ⟨rfl, rfl⟩ Nw.nil⟩
    · exact h.elim⟩
def vLenS : DSp := fun xs P => match xs with | [.str a] => a.length ≤ sizeLine ∧ P (.int a.length) | _ => False
theorem c_lenS : CallV K (fun xs H Q => ∃ z, xs = [.str z] ∧ z.length ≤ sizeLine ∧ Q (.int z.length) H) vLenS := ⟨fun xs P P' k h => by
    unfold vLenS at h ⊢
    revert h
    split
    · exact fun h => ⟨h.1, k _ h.2⟩
    · exact id,
  fun {H xs vs Q} r h => by
    unfold vLenS at h
    split at h
    · have e := strs1 r
      subst e
      exact ⟨_, rfl, h.1, h.2 _ H [] (Same.refl H) ⟨rfl, rfl⟩ Nw.nil⟩
    · exact h.elim⟩
def vInS (x y : D) (P : DK) : Prop := asS x fun i => asS y fun j => P (.bl (!(occurrences j i 0 j.length 1).isEmpty))
theorem o_inS : OpV K (fun x y H Q => ∃ i j, x = .str i ∧ y = .str j ∧ Q (.bl (!(occurrences j i 0 j.length 1).isEmpty)) H) vInS := ⟨fun x y P P' k h => by
    obtain ⟨i, rfl, h0⟩ := asS_out h
    clear h
    obtain ⟨j, rfl, h⟩ := asS_out h0
    exact k _ h,
  fun {H x y v w Q} r1 r2 h => by
    obtain ⟨i, rfl, h0⟩ := asS_out h
    clear h
    obtain ⟨j, rfl, h⟩ := asS_out h0
    exact ⟨i, j, r1.choose_spec.1, r2.choose_spec.1, h _ H [] (Same.refl H) ⟨rfl, rfl⟩ Nw.nil⟩⟩
def vCatT (x y : D) (P : DK) : Prop := asS x fun i => asS y fun j => i.length + j.length ≤ sizeLine ∧ P (.str (i ++ j))
theorem o_catT : OpV K (fun x y H Q => ∃ i j, x = .str i ∧ y = .str j ∧ i.length + j.length ≤ sizeLine ∧ Q (.str (i ++ j)) H) vCatT := ⟨fun x y P P' k h => by
    obtain ⟨i, rfl, h0⟩ := asS_out h
    clear h
    obtain ⟨j, rfl, h⟩ := asS_out h0
    exact ⟨h.1, k _ h.2⟩,
  fun {H x y v w Q} r1 r2 h => by
    obtain ⟨i, rfl, h0⟩ := asS_out h
    clear h
    obtain ⟨j, rfl, h⟩ := asS_out h0
    exact ⟨i, j, r1.choose_spec.1, r2.choose_spec.1, h.1, h.2 _ H [] (Same.refl H) ⟨rfl, rfl⟩ Nw.nil⟩⟩
def vItemS (x y : D) (P : DK) : Prop := asS x fun z => asI [y] fun i => ∃ c, (0 ≤ i ∧ i < 2 ^ 63 ∧ i < z.length ∧ z.cps[i.toNat]? = some c) ∧ P (.str ⟨#[c]⟩)
theorem o_itemS : OpV K (fun x y H Q => ∃ z i c, x = .str z ∧ y = .int i ∧ 0 ≤ i ∧ i < 2 ^ 63 ∧ i < z.length ∧ z.cps[i.toNat]? = some c ∧ Q (.str ⟨#[c]⟩) H) vItemS := ⟨fun x y P P' k h => by
    obtain ⟨z, rfl, h0⟩ := asS_out h
    clear h
    obtain ⟨i, rfl, c, h1, h2⟩ := asI1_out h0
    exact ⟨c, h1, k _ h2⟩,
  fun {H x y v w Q} r1 r2 h => by
    obtain ⟨z, rfl, h0⟩ := asS_out h
    clear h
    obtain ⟨i, rfl, c, ⟨a1, a2, a3, a4⟩, h2⟩ := asI1_out h0
    exact ⟨z, i, c, r1.choose_spec.1, r2.int, a1, a2, a3, a4, h2 _ H [] (Same.refl H) ⟨rfl, rfl⟩ Nw.nil⟩⟩
def signs (x : Str) : List D := x.cps.toList.map fun c => .str ⟨#[c]⟩
def vItS (de : DE) (δ : Dl) (P : List D → Prop) : Prop := de δ fun x => asS x fun a => a.cps.all (· < 128) = true ∧ P (signs a)
theorem it_str (he : ER K Γ te de) : IT K Γ (iStr te) (vItS de) :=
  ⟨fun δ P P' k h => he.mono _ _ _ (fun x z => by obtain ⟨a, rfl, z1, z2⟩ := asS_out z; exact ⟨z1, k _ z2⟩) h,
   fun {B0 fps δ σ H R} o h => he.run o (he.mono _ _ _ (fun x z v H' s r => by
    obtain ⟨a, rfl, z1, z2⟩ := asS_out z
    refine ⟨a, r.choose_spec.1, z1, z2 (Its a) H' [] s (fun _ _ _ h => nomatch h) fun B sB ag im => ?_⟩
    have hl : (signs a).length = a.cps.size := by unfold signs; rw [List.length_map, Array.length_toList]
    refine ⟨fun {i H2} s2 hi => ?_, fun {i H2 y H3 d} s2 hy hd => ?_, fun {i H2} s2 hi => ?_⟩
    · show i < a.cps.size
      omega
    · obtain ⟨rfl, c, hc, rfl⟩ := hy
      unfold signs at hd
      rw [List.getElem?_map, Array.getElem?_toList, hc] at hd
      cases hd
      exact ⟨Same.refl _, [], ⟨rfl, rfl⟩, fun _ h => nomatch h⟩
    · show a.cps.size ≤ i
      omega) h)⟩
end
end L3
set_option Elab.async false
set_option linter.all false
set_option maxRecDepth 100000
set_option maxHeartbeats 4000000
namespace L3
open PySem PySem.Builtin PySem.Builtin.Str
def mkS (l : List Nat) : Str := ⟨l.toArray⟩
theorem mkS_list {l : List Nat} : (mkS l).cps.toList = l := rfl
theorem mkS_of (x : Str) : mkS x.cps.toList = x := by cases x; rfl
theorem mkS_len {l : List Nat} : (mkS l).length = l.length := rfl
theorem mkS_inj {a b : List Nat} (h : mkS a = mkS b) : a = b := by
  have := congrArg (fun z : Str => z.cps.toList) h
  exact this
theorem mkS_app {a b : List Nat} : mkS a ++ mkS b = mkS (a ++ b) := by
  show (⟨a.toArray ++ b.toArray⟩ : Str) = ⟨(a ++ b).toArray⟩
  rw [List.append_toArray]
def joinL (s : List Nat) : List (List Nat) → List Nat
  | [] => []
  | [p] => p
  | p :: q :: r => p ++ (s ++ joinL s (q :: r))
theorem join_mk (s : List Nat) : ∀ ps : List (List Nat), Str.join (mkS s) (ps.map mkS) = mkS (joinL s ps)
  | [] => rfl
  | [p] => rfl
  | p :: q :: r => by
    show mkS p ++ mkS s ++ Str.join (mkS s) ((q :: r).map mkS) = mkS (p ++ (s ++ joinL s (q :: r)))
    rw [join_mk s (q :: r), mkS_app, mkS_app, List.append_assoc]
theorem take_free {c : Nat} {r : List Nat} : ∀ {p : List Nat}, c ∉ p → (p ++ c :: r).takeWhile (fun z => z != c) = p ∧ (p ++ c :: r).dropWhile (fun z => z != c) = c :: r
  | [], _ => by simp
  | a :: p, h => by
    have ha : a ≠ c := fun e => h (by rw [e]; exact List.mem_cons_self)
    have ih := take_free (c := c) (r := r) (p := p) fun z => h (List.mem_cons_of_mem _ z)
    have e : (a != c) = true := by simp [ha]
    rw [List.cons_append, List.takeWhile_cons, List.dropWhile_cons, e, if_pos rfl, if_pos rfl, ih.1, ih.2]
    exact ⟨rfl, rfl⟩
theorem joinL_inj {c : Nat} {s : List Nat} : ∀ {ps qs : List (List Nat)}, ps ≠ [] → qs ≠ [] → (∀ p ∈ ps, c ∉ p) → (∀ p ∈ qs, c ∉ p) → joinL (c :: s) ps = joinL (c :: s) qs → ps = qs
  | [], _, h, _, _, _, _ => absurd rfl h
  | _, [], _, h, _, _, _ => absurd rfl h
  | [p], [q], _, _, _, _, e => by
    have e : p = q := e
    rw [e]
  | [p], q :: q' :: r, _, _, hp, hq, e => by
    exfalso
    have e : p = q ++ c :: (s ++ joinL (c :: s) (q' :: r)) := e
    exact hp p List.mem_cons_self (by rw [e]; simp)
  | p :: p' :: r, [q], _, _, hp, hq, e => by
    exfalso
    have e : p ++ c :: (s ++ joinL (c :: s) (p' :: r)) = q := e
    exact hq q List.mem_cons_self (by rw [← e]; simp)
  | p :: p' :: r, q :: q' :: t, _, _, hp, hq, e => by
    have e : p ++ c :: (s ++ joinL (c :: s) (p' :: r)) = q ++ c :: (s ++ joinL (c :: s) (q' :: t)) := e
    have a := take_free (r := s ++ joinL (c :: s) (p' :: r)) (hp p List.mem_cons_self)
    have b := take_free (r := s ++ joinL (c :: s) (q' :: t)) (hq q List.mem_cons_self)
    rw [e] at a
    have e1 : p = q := a.1.symm.trans b.1
    have e2 := List.cons.inj (a.2.symm.trans b.2)
    rw [e1, joinL_inj (by simp) (by simp) (fun z hz => hp z (List.mem_cons_of_mem _ hz)) (fun z hz => hq z (List.mem_cons_of_mem _ hz)) (List.append_cancel_left e2.2)]
theorem joinL_at {c : Nat} {s : List Nat} (hs : c ∉ s) : ∀ {ps : List (List Nat)}, (∀ p ∈ ps, c ∉ p) → ∀ k, (joinL (c :: s) ps)[k]? = some c → ∃ r, (joinL (c :: s) ps).drop k = (c :: s) ++ r
  | [], _, k, h => by cases k <;> cases h
  | [p], hp, k, h => absurd (List.mem_of_getElem? (show p[k]? = some c from h)) (hp p List.mem_cons_self)
  | p :: q :: t, hp, k, h => by
    have e : joinL (c :: s) (p :: q :: t) = p ++ ((c :: s) ++ joinL (c :: s) (q :: t)) := rfl
    rw [e] at h ⊢
    rcases Nat.lt_or_ge k p.length with h1 | h1
    · rw [List.getElem?_append_left h1] at h
      exact absurd (List.mem_of_getElem? h) (hp p List.mem_cons_self)
    · rw [List.getElem?_append_right h1] at h
      rw [List.drop_append, List.drop_of_length_le h1, List.nil_append]
      generalize k - p.length = j at h ⊢
      rcases Nat.lt_or_ge j (c :: s).length with h2 | h2
      · cases j with
        | zero => exact ⟨_, rfl⟩
        | succ j =>
          rw [List.getElem?_append_left h2] at h
          exact absurd (List.mem_of_getElem? (show s[j]? = some c from h)) hs
      · rw [List.getElem?_append_right h2] at h
        rw [List.drop_append, List.drop_of_length_le h2, List.nil_append]
        exact joinL_at hs (fun z hz => hp z (List.mem_cons_of_mem _ hz)) _ h
theorem sub_free {x y : Str} {c : Nat} (hx : ∀ k, x.cps.toList[k]? = some c → StrLaws.At x y x.length k) {a b : Nat} (hn : ∀ k, a ≤ k → k < b → ¬ StrLaws.At x y x.length k) : c ∉ (strSub x a b).cps.toList := fun hm => by
  rw [StrLaws.strSub_toList] at hm
  obtain ⟨j, hj⟩ := List.getElem?_of_mem hm
  rcases Nat.lt_or_ge j (b - a) with h | h
  · rw [List.getElem?_take_of_lt h, List.getElem?_drop] at hj
    exact hn (a + j) (by omega) (by omega) (hx _ hj)
  · rw [List.getElem?_eq_none (by rw [List.length_take]; omega)] at hj
    cases hj
theorem from_free {x y : Str} {c : Nat} (hx : ∀ k, x.cps.toList[k]? = some c → StrLaws.At x y x.length k) : ∀ {cuts : List Nat} {a f : Nat}, StrLaws.ChainG x y x.length a cuts f → (∀ k, f ≤ k → ¬ StrLaws.At x y x.length k) → ∀ p ∈ StrLaws.partsFrom x y.length a cuts, c ∉ p.cps.toList
  | [], a, f, g, hn, p, hp => by
    have e : f = a := g
    rw [List.mem_singleton.mp hp]
    exact sub_free hx fun k h1 _ => hn k (by omega)
  | d :: r, a, f, g, hn, p, hp => by
    rcases List.mem_cons.mp hp with e | hp
    · rw [e]; exact sub_free hx g.2.2.1
    · exact from_free hx g.2.2.2 hn p hp
theorem split_ne {x y : Str} : Txt.split x y ≠ [] := by
  unfold Txt.split
  split
  · simp
  · split
    · simp
    · intro e
      have := congrArg List.length e
      rw [length_partsBetween] at this
      simp at this
theorem kind_low {l : List Nat} (h : ∀ c ∈ l, c < 128) : PySem.Builtin.Str.strKind (mkS l) = PySem.Builtin.Str.strKind (mkS []) := by
  have e : (mkS l).cps.all (· < 256) = true := by
    rw [← Array.all_toList, List.all_eq_true]
    intro c hc
    have := h c hc
    exact decide_eq_true (by omega)
  have e2 : (mkS []).cps.all (· < 256) = true := by rw [← Array.all_toList]; rfl
  unfold PySem.Builtin.Str.strKind
  rw [e, e2, if_pos rfl, if_pos rfl]
theorem split_join {c : Nat} {s : List Nat} {ps : List (List Nat)} (hs : c ∉ s) (hne : ps ≠ []) (hp : ∀ p ∈ ps, c ∉ p) (l1 : ∀ z ∈ c :: s, z < 128) (l2 : ∀ p ∈ ps, ∀ z ∈ p, z < 128) : Txt.split (mkS (joinL (c :: s) ps)) (mkS (c :: s)) = ps.map mkS := by
  have at_ : ∀ k, (mkS (joinL (c :: s) ps)).cps.toList[k]? = some c → StrLaws.At (mkS (joinL (c :: s) ps)) (mkS (c :: s)) (mkS (joinL (c :: s) ps)).length k := fun k h => by
    obtain ⟨r, hr⟩ := joinL_at hs hp k h
    refine ⟨?_, ?_⟩
    · have := congrArg List.length hr
      rw [List.length_drop, List.length_append] at this
      have hk := (List.getElem?_eq_some_iff.mp h).1
      rw [mkS_list] at hk
      rw [mkS_len, mkS_len]
      omega
    · rw [StrLaws.subAt_eq, mkS_list, mkS_list, hr, mkS_len, List.take_left]
      exact beq_self_eq_true _
  have low : ∀ z ∈ joinL (c :: s) ps, z < 128 := by
    clear at_ hne hp
    induction ps with
    | nil => exact fun _ h => nomatch h
    | cons p r ih =>
      cases r with
      | nil => exact fun z hz => l2 p List.mem_cons_self z hz
      | cons q t =>
        intro z hz
        rcases List.mem_append.mp (show z ∈ p ++ ((c :: s) ++ joinL (c :: s) (q :: t)) from hz) with h | h
        · exact l2 p List.mem_cons_self z h
        · rcases List.mem_append.mp h with h | h
          · exact l1 z h
          · exact ih (fun p hp => l2 p (List.mem_cons_of_mem _ hp)) z h
  have free : ∀ p ∈ Txt.split (mkS (joinL (c :: s) ps)) (mkS (c :: s)), c ∉ p.cps.toList := by
    obtain ⟨f, g, hn⟩ := StrLaws.occ_tight (mkS (joinL (c :: s) ps)) (mkS (c :: s)) (by rw [mkS_len]; exact Nat.succ_le_succ (Nat.zero_le _))
    have one : (∀ k, ¬ StrLaws.At (mkS (joinL (c :: s) ps)) (mkS (c :: s)) (mkS (joinL (c :: s) ps)).length k) → c ∉ (mkS (joinL (c :: s) ps)).cps.toList := fun no hm => by
      obtain ⟨k, hk⟩ := List.getElem?_of_mem hm
      exact no k (at_ k hk)
    intro p hp
    unfold Txt.split at hp
    split at hp
    · rename_i h
      rw [List.mem_singleton.mp hp]
      refine one fun k hk => ?_
      rw [kind_low low, kind_low l1] at h
      have := hk.1
      simp at h
      omega
    · split at hp
      · rename_i h
        rw [List.mem_singleton.mp hp]
        rw [List.isEmpty_iff] at h
        rw [h] at g
        have e : f = 0 := g
        exact one fun k => hn k (by omega)
      · rw [StrLaws.partsBetween_eq] at hp
        exact from_free at_ g hn p hp
  have j := StrLaws.join_split (mkS (joinL (c :: s) ps)) (mkS (c :: s))
  have e : Txt.split (mkS (joinL (c :: s) ps)) (mkS (c :: s)) = ((Txt.split (mkS (joinL (c :: s) ps)) (mkS (c :: s))).map fun z => z.cps.toList).map mkS := by
    rw [List.map_map]
    conv => lhs; rw [← List.map_id (Txt.split (mkS (joinL (c :: s) ps)) (mkS (c :: s)))]
    exact List.map_congr_left fun z _ => (mkS_of z).symm
  rw [e, join_mk] at j
  have k := joinL_inj (c := c) (s := s) (by
      intro z
      exact split_ne (List.map_eq_nil_iff.mp z)) hne (fun p h => by
    obtain ⟨q, hq, rfl⟩ := List.mem_map.mp h
    exact free q hq) hp (mkS_inj j)
  rw [e, k]
def dg (n : Nat) : List Nat := (Nat.toDigits 10 n).map Char.toNat
theorem dg_val {n : Nat} : NumText.digitsVal (dg n) = n := PySem.W.KIN.val_back n
theorem dg_small {n : Nat} (h : n < 10) : dg n = [(Nat.digitChar n).toNat] := by unfold dg; rw [Nat.toDigits_of_lt_base h]; rfl
theorem dg_big {n : Nat} (h : 10 ≤ n) : dg n = dg (n / 10) ++ dg (n % 10) := by
  have hm : n % 10 < 10 := Nat.mod_lt n (by decide)
  have t := Nat.toDigits_append_toDigits (b := 10) (n := n / 10) (d := n % 10) (by decide) (by omega) hm
  rw [Nat.div_add_mod] at t
  unfold dg
  rw [← t, List.map_append]
theorem dg_dig {n : Nat} : ∀ c ∈ dg n, 48 ≤ c ∧ c ≤ 57 := by
  induction n using Nat.strongRecOn with
  | _ n ih =>
    rcases Nat.lt_or_ge n 10 with h | h
    · rw [dg_small h]
      intro c hc
      rw [List.mem_singleton.mp hc]
      exact (show ∀ d : Nat, d < 10 → 48 ≤ (Nat.digitChar d).toNat ∧ (Nat.digitChar d).toNat ≤ 57 by decide) n h
    · rw [dg_big h]
      intro c hc
      rcases List.mem_append.mp hc with z | z
      · exact ih (n / 10) (by omega) c z
      · exact ih (n % 10) (by omega) c z
theorem dg_ne {n : Nat} : dg n ≠ [] := by
  induction n using Nat.strongRecOn with
  | _ n ih =>
    rcases Nat.lt_or_ge n 10 with h | h
    · rw [dg_small h]; simp
    · rw [dg_big h]
      intro e
      exact ih (n / 10) (by omega) (List.append_eq_nil_iff.mp e).1
theorem dg_len : ∀ {k n : Nat}, n < 10 ^ (k + 1) → (dg n).length ≤ k + 1
  | 0, n, h => by rw [dg_small (by omega)]; simp
  | k + 1, n, h => by
    rcases Nat.lt_or_ge n 10 with h1 | h1
    · rw [dg_small h1]; simp
    · rw [dg_big h1, List.length_append, dg_small (n := n % 10) (by omega)]
      have := dg_len (k := k) (n := n / 10) (by rw [Nat.pow_succ] at h; omega)
      simp
      omega
theorem dg_head {n : Nat} (h : n ≠ 0) : ∃ c r, dg n = c :: r ∧ c ≠ 48 := by
  induction n using Nat.strongRecOn with
  | _ n ih =>
    rcases Nat.lt_or_ge n 10 with h1 | h1
    · rw [dg_small h1]
      exact ⟨_, [], rfl, (show ∀ d : Nat, d < 10 → d ≠ 0 → (Nat.digitChar d).toNat ≠ 48 by decide) n h1 h⟩
    · obtain ⟨c, r, e, hc⟩ := ih (n / 10) (by omega) (by omega)
      rw [dg_big h1, e]
      exact ⟨c, _, rfl, hc⟩
theorem dg_zero : dg 0 = [48] := by decide
def sI (i : Int) : List Nat := if i < 0 then 45 :: dg i.natAbs else dg i.natAbs
theorem sI_nat {n : Nat} : sI (n : Int) = dg n := by unfold sI; rw [if_neg (by omega)]; rfl
theorem sI_neg {n : Nat} : sI (-((n + 1 : Nat) : Int)) = 45 :: dg (n + 1) := by unfold sI; rw [if_pos (by omega)]; congr 1
theorem str_int (i : Int) : Str.ofString (toString i) = mkS (sI i) := by
  rw [← mkS_of (Str.ofString (toString i))]
  congr 1
  rcases Int.lt_or_le i 0 with h | h
  · obtain ⟨m, rfl⟩ : ∃ m : Nat, i = -((m + 1 : Nat) : Int) := ⟨(-i - 1).toNat, by omega⟩
    rw [sI_neg, PyProof.Rows.signs_ofString]
    show (("-" : String) ++ Nat.repr (m + 1)).toList.map Char.toNat = _
    rw [String.toList_append, List.map_append, Nat.toList_repr]
    rfl
  · obtain ⟨m, rfl⟩ := Int.eq_ofNat_of_zero_le h
    rw [PySem.W.KIN.signs_num, sI_nat]; rfl
theorem sI_len {i : Int} (h : i.natAbs < 10 ^ 30) : (sI i).length ≤ 31 := by
  have := dg_len (k := 29) h
  unfold sI
  split
  · rw [List.length_cons]; omega
  · omega
theorem sI_signs {i : Int} : ∀ c ∈ sI i, c = 45 ∨ (48 ≤ c ∧ c ≤ 57) := fun c hc => by
  unfold sI at hc
  split at hc
  · rcases List.mem_cons.mp hc with z | z
    · exact .inl z
    · exact .inr (dg_dig c z)
  · exact .inr (dg_dig c hc)
theorem read_int {i : Int} (h : i.natAbs < 10 ^ 30) : intText? (mkS (sI i)) = some i := by
  have hl := sI_len h
  have dd : NumText.AllDigits (dg i.natAbs) := fun c hc => dg_dig c hc
  rcases Int.lt_or_le i 0 with h0 | h0
  · have e : sI i = 45 :: dg i.natAbs := by unfold sI; rw [if_pos h0]
    rw [PySem.intText_neg (x := mkS (sI i)) (cs := dg i.natAbs) e dd dg_ne (by rw [mkS_len]; omega), dg_val]
    congr 1
    omega
  · have e : sI i = dg i.natAbs := by unfold sI; rw [if_neg (by omega)]
    rw [e, PySem.intText_digits (x := mkS (dg i.natAbs)) dd dg_ne (by rw [mkS_len]; rw [e] at hl; omega)]
    rw [show (mkS (dg i.natAbs)).cps.toList = dg i.natAbs from rfl, dg_val]
    congr 1
    omega
end L3
set_option Elab.async false
set_option linter.all false
set_option maxRecDepth 100000
set_option maxHeartbeats 4000000
namespace L3
open PySem L2 PySem.Builtin PySem.Builtin.Str
theorem at_one {l : List Nat} {c k : Nat} : StrLaws.At (mkS l) (mkS [c]) (mkS l).length k ↔ l[k]? = some c := StrLaws.subAt_one (mkS l) c k
theorem part_at {p q : List Nat} {c : Nat} (h : c ∉ p) : partL (mkS (p ++ c :: q)) (mkS [c]) = [mkS p, mkS [c], mkS q] := by
  have hA : StrLaws.At (mkS (p ++ c :: q)) (mkS [c]) (mkS (p ++ c :: q)).length p.length := at_one.mpr (by rw [List.getElem?_append_right (Nat.le_refl _), Nat.sub_self]; rfl)
  unfold partL
  rcases StrLaws.occ_head (mkS (p ++ c :: q)) (mkS [c]) 1 (Nat.le_refl _) with ⟨_, hn⟩ | ⟨i, r, e, hi, hn⟩
  · exact absurd hA (hn _)
  · have ei : i = p.length := by
      rcases Nat.lt_trichotomy i p.length with z | z | z
      · have := at_one.mp hi
        rw [List.getElem?_append_left z] at this
        exact absurd (List.mem_of_getElem? this) h
      · exact z
      · exact absurd hA (hn _ z)
    subst ei
    rw [e]
    have e1 : strSub (mkS (p ++ c :: q)) 0 p.length = mkS p := by
      rw [← mkS_of (strSub (mkS (p ++ c :: q)) 0 p.length), StrLaws.strSub_toList, mkS_list, List.drop_zero, Nat.sub_zero, List.take_left]
    have e2 : strSub (mkS (p ++ c :: q)) (p.length + (mkS [c]).length) (mkS (p ++ c :: q)).length = mkS q := by
      rw [← mkS_of (strSub (mkS (p ++ c :: q)) _ _), StrLaws.strSub_toList, mkS_list]
      congr 1
      have : (p ++ c :: q).drop (p.length + (mkS [c]).length) = q := by
        rw [show p.length + (mkS [c]).length = p.length + 1 from rfl, ← List.drop_drop, List.drop_left]; rfl
      rw [this]
      exact List.take_of_length_le (by rw [mkS_len, mkS_len, List.length_append]; simp; omega)
    show [strSub (mkS (p ++ c :: q)) 0 p.length, mkS [c], strSub (mkS (p ++ c :: q)) (p.length + (mkS [c]).length) (mkS (p ++ c :: q)).length] = _
    rw [e1, e2]
theorem part_no {p : List Nat} {c : Nat} (h : c ∉ p) : partL (mkS p) (mkS [c]) = [mkS p, mkS [], mkS []] := by
  unfold partL
  rcases StrLaws.occ_head (mkS p) (mkS [c]) 1 (Nat.le_refl _) with ⟨e, _⟩ | ⟨i, r, e, hi, _⟩
  · rw [e]; rfl
  · exact absurd (List.mem_of_getElem? (at_one.mp hi)) h
theorem starts_one {c : Nat} : ∀ {l : List Nat}, Txt.startswith (mkS l) (mkS [c]) = decide (l.head? = some c)
  | [] => rfl
  | a :: r => by
    unfold Txt.startswith
    rw [StrLaws.subAt_eq, mkS_list, mkS_list, mkS_len, mkS_len]
    show (decide (0 + 1 ≤ r.length + 1) && ([a] == [c])) = decide (some a = some c)
    rw [decide_eq_true (by omega), Bool.true_and, Bool.eq_iff_iff, decide_eq_true_eq, beq_iff_eq]
    simp
theorem slice_one {a : Nat} {r : List Nat} : Txt.slice (mkS (a :: r)) (some 1) none = mkS r := by
  have := StrLaws.sliceText_from (x := mkS (a :: r)) (i := 1) ⟨by decide, by rw [mkS_list, List.length_cons]; omega⟩
  have e : Txt.slice (mkS (a :: r)) (some 1) none = StrLaws.sliceText (mkS (a :: r)) (some 1) none := rfl
  rw [e, this, mkS_list]
  show mkS (((a :: r).drop 1).take _) = mkS r
  congr 1
  exact List.take_of_length_le (by rw [List.length_cons]; simp)
theorem in_text {c : Nat} {l : List Nat} : (!(occurrences (mkS l) (mkS [c]) 0 (mkS l).length 1).isEmpty) = decide (c ∈ l) := StrLaws.found_one (mkS l) c
theorem low_all {l : List Nat} (h : ∀ c ∈ l, c < 128) : (mkS l).cps.all (· < 128) = true := by
  rw [← Array.all_toList, List.all_eq_true]
  exact fun c hc => decide_eq_true (h c hc)
theorem sSp : Str.ofString " " = mkS [32] := by decide
theorem sSemi : Str.ofString "; " = mkS [59, 32] := by decide
theorem sSlash : Str.ofString "/" = mkS [47] := by decide
theorem sMinus : Str.ofString "-" = mkS [45] := by decide
theorem sZero : Str.ofString "0" = mkS [48] := by decide
theorem sEmpty : Str.ofString "" = mkS [] := by decide
theorem sFig : Str.ofString "0123456789" = mkS [48, 49, 50, 51, 52, 53, 54, 55, 56, 57] := by decide
end L3
set_option Elab.async false
set_option linter.all false
set_option maxRecDepth 100000
set_option maxHeartbeats 4000000
namespace L3
open PySem L2
section
variable {K : PySem.W.Frag} {ρ : Bool} {Γr Γl Γ : List Nat} {H : Hp}
end
end L3
set_option Elab.async false
set_option linter.all false
set_option maxRecDepth 100000
namespace L2
open PySem PySem.Spec PyProof.Rows
def XAt (outer : List Env) (s : Shared) (H : Hp) (a C : Addr) : Prop := ∃ oe, s.heap.get? a = some oe ∧ oe.cls = .ref C ∧ H a = none ∧ a ∉ frs outer
def calmed (A : Around) : Around := { A with handled := none }
def cxE (P : Program) (w : World) (K : PySem.W.Frag) (mg : Str → Option Value) (base : Heap) (N : List Str) (qual : Str) (sc : Scope) (f : Addr) (cdv : Value) (A : Around) (outer : List Env) (s : Shared) (H : Hp) : Cx :=
  { cxOf CX0 P w K mg base N qual sc f cdv A outer s H (fun _ _ _ => False) with calm := false, xe := fun _ _ => False }
structure FnE (P : Program) (w : World) (K : PySem.W.Frag) (mg : Str → Option Value) (base : Heap) (k : Nat) (f : Addr) (fd : FuncData) (ps : List Str) (C : Addr) (sp : Addr → Sp) : Prop where
  len : ∀ a vs H Q E, sp a vs H Q E → vs.length = ps.length
  run : ∀ (a : Addr) (A : Around) (outer : List Env) (s : Shared) (H : Hp) (args : Args) (us : List Value) (vs : List V) (Q : VK) (E : XK), Room k (calmed A) → Env0 P w K mg base A outer s H → XAt outer s H a C → BindsTo s fd args (ps.zip us) → Vals vs us → sp a vs H Q E →
    codeAny (model P w) A (.call (.ref f) args) (CR CX0 outer P w H s Q E) s
section
variable {P : Program} {w : World} {K : PySem.W.Frag} {mg : Str → Option Value} {base : Heap}
section
variable {CX : CXT} {N : List Str} {qual : Str} {sc : Scope} {f : Addr} {cdv : Value} {A : Around} {outer : List Env} {s s' : Shared} {H H' : Hp} {E : XK} {σ' : St} {Q : VK} {v : V} {u : Value}
theorem ce_of (J : Inv (cxE P w K mg base N qual sc f cdv A outer s H) [] σ' H' s') (rv : RelV v u) (q : Q v H') : CE outer P w H s Q u s' := ⟨v, H', J.os, J.bare, J.base, J.hok, rv, q⟩
theorem inv_E (J : Inv (cxOf CX0 P w K mg base N qual sc f cdv (calmed A) outer s H E) [] σ' H' s') : Inv (cxE P w K mg base N qual sc f cdv A outer s H) [] σ' H' s' :=
  ⟨⟨J.ok.mod, J.ok.kind, J.ok.glob, J.ok.blt, J.ok.above, J.ok.inj, J.ok.has, J.ok.cab, (fun z => nomatch z), J.ok.frames, J.ok.stk, J.ok.exf, J.ok.bs, J.ok.bsz, J.ok.noex, J.ok.exfs, J.ok.funs, J.ok.frf⟩, J.os, J.bare, J.base, J.loc, J.cell, J.free, J.freeC, J.pin, J.hok, J.len⟩
end
theorem Fun.okE {x qual : Str} {st : Stmt} {f : Addr} {fd : FuncData} {N ps : List Str} {k : Nat} {C : Addr} {sp : Addr → Sp} (F : Fun K x qual st f fd) (S : FnScope N ps (defScope st)) (len : ∀ a vs H Q E, sp a vs H Q E → vs.length = ps.length)
    (hbody : ∀ (a : Addr) (cdv : Value) (A : Around) (outer : List Env) (s : Shared) (H : Hp) (vs : List V) (Q : VK) (E : XK), XAt outer s H a C → sp a vs H Q E →
      ∃ t, PSs (cxE P w K mg base N qual (defScope st) f cdv A outer s H) (defBody st) t ∧ t { nx := fun _ H' => Q .non H', rt := Q } (start N vs) H) : FnE P w K mg base (k + 1) f fd ps C sp := by
  refine ⟨len, fun a A outer s H args us vs Q E hr e0 hx hb r hsp => ?_⟩
  obtain ⟨oc, od, kV, doc, pm, an, cdv, ct, osl, rfl, lk, hcd⟩ := F.ex
  have kp : ∀ b o, base.get? b = some o → s.heap.get? b = some o := fun b o z => (e0.bs b o z).1
  have kin := e0.mod.kin.keeps kp
  obtain ⟨t, ht, hq⟩ := hbody a cdv A outer s H vs Q E hx hsp
  have e1 : Env0 P w K mg base (calmed A) outer s H := ⟨e0.frames, e0.mod, e0.bs, e0.bsz, e0.funs, e0.frf, e0.hok, e0.bare⟩
  refine codeAny_call_function hr.depth (kin _ _ lk) rfl S.co S.gen rfl (PySem.W.codeRec_of kin hcd) (hb _ _ _ _ (wpAny_newFunctionEnv_cells S.kind (fun y hy => ?_) fun env he s1 j => ?_))
  · exact (S.par y.1 (List.of_mem_zip (show (y.1, y.2) ∈ _ from hy)).1).imp id fun q => ⟨q, PySem.W.cellsFrom_some _ _ _ (.inl q)⟩
  · cases he
    refine ⟨(e0.mod.nolimit.keeps kp).keeps j.toInCall.keep, codeAny_func (wpAny_mono (ht [] s1 _ H _ (inv_E (inv_start (E := E) S hr.hd e1 (len _ _ _ _ _ hsp) r j)) hq) (fun fl s' z => ?_) fun _ _ z => z.elim)⟩
    match fl, z with
    | .ret u, ⟨v, σ', H', J, rv, q⟩ => exact ce_of J rv q
    | .next, ⟨σ', H', J, q⟩ => exact ce_of (v := V.non) J rfl q
    | .brk, ⟨_, _, _, q⟩ => exact q.elim
    | .cont, ⟨_, _, _, q⟩ => exact q.elim
end
section
variable {X : Cx} {a C : Addr}
theorem call_isE (hx : XAt X.outer X.s₀ X.H₀ a C) (hex : X.ex = []) (k : PySem.W.ExcK X.K C) : CallR X (.builtin "isinstance") (isxR X.K a C) := by
  intro pins s σ H xs us Q I r h
  have at' : PySem.W.ExcAt a C s.heap := by
    obtain ⟨oe, h1, h2, h3, h4⟩ := hx
    exact ⟨oe, I.base.keep a oe h1 h3 h4 (by rw [hex]; exact List.not_mem_nil), h2⟩
  obtain ⟨b, q, ⟨p, cs, rfl, hp, e⟩ | ⟨T, rfl, e⟩⟩ := h
  · obtain ⟨u, v, rfl, ru, rv⟩ := vals2 r
    obtain rfl : u = Value.ref a := ru
    obtain rfl : v = Value.ref p := rv
    obtain ⟨_, its, rv, ho⟩ := (show ObjOk X.prog X.w H s.heap p (.tup (cs.map V.ref)) from I.hok p _ hp)
    obtain rfl := vals_refs rv
    obtain ⟨o, h1, h2, n, h3⟩ := ho
    obtain ⟨oc, od, oda, osl⟩ := o
    dsimp only at h2 h3
    subst h2 h3
    exact PySem.W.kia_tup (PySem.W.kitx_exc k) I.kIn at' h1 e (fun z => nomatch z) fun tk => ⟨.bl b, H, I.tok _, rfl, q⟩
  · obtain ⟨u, v, rfl, ru, rv⟩ := vals2 r
    obtain rfl : u = Value.ref a := ru
    obtain rfl : v = Value.type T := rv
    exact PySem.W.kia_one (PySem.W.kitx_exc k) I.kIn at' e (fun z => nomatch z) fun tk => ⟨.bl b, H, I.tok _, rfl, q⟩
end
section
variable {X : Cx} {k : Nat} {f a C : Addr} {oe : Obj} {fd : FuncData} {ps : List Str} {sp : Addr → Sp} {E : XK} {x : Str} {p pos : Pos} {e : Expr} {es : List Expr} {t : TA}
theorem Inv.xAt {pins : List (Addr × Obj)} {σ : St} {H : Hp} {s : Shared} (I : Inv (X.held a oe) pins σ H s) (hc : oe.cls = .ref C) : XAt (X.held a oe).stack s H a C := by
  obtain ⟨h1, h2, h3, h4, _⟩ := I.pin (a, oe) (List.mem_append_left _ (List.mem_cons_self ..))
  refine ⟨oe, h1, hc, h2, fun z => ?_⟩
  rcases List.mem_cons.mp (I.stkSub a z) with q | q
  · exact h3 q
  · exact h4 q
theorem pe_callE (F : FnE X.prog X.w X.K X.mg X.base k f fd ps C sp) (hc : oe.cls = .ref C) (hr : Room k X.A) (hg : Gl (X.held a oe) x) (hm : X.mg x = some (.ref f)) (hk : PySem.W.keepIn X.K (.ref f) = true) (hb : Binds X.K fd ps [])
    (ha : PA (X.held a oe) (e :: es) t) (hdb : (x == ("__debug__" : Str)) = false := by decide) (he : starEach (e :: es) (X.held a oe).env = (false, eval e (X.held a oe).env) :: starEach es (X.held a oe).env := by rfl) (hpl : (backTo pos (starEach es (X.held a oe).env)).any (·.1) = false := by rfl) :
    PE (X.held a oe) (.Call (.Name x p) (e :: es) [] pos) (tCall (sp a) [] E t) := by
  intro pins s σ H Q I h
  refine wpAny_Call_Name_kw (ld_glob I hg hm ?_ hdb)
  refine PySem.W.callWith_K (h₀ := X.base) I.ok.mod.kin hk (thn (ha pos pins s σ H _ I h) fun us s1 ⟨vs, H1, I1, r, q⟩ => ⟨I1.kIn, ?_⟩) he hpl
  have q : sp a (vs ++ []) H1 Q E := q
  rw [List.append_nil] at q
  have hl : (us ++ []).length = ps.length := by rw [List.append_nil, ← r.length]; exact F.len _ _ _ _ _ q
  have hb' := hb s1 us I1.kIn hl
  rw [List.append_nil] at hb'
  refine wpAny_call (codeAny_mono (F.run a _ _ s1 H1 ⟨us, []⟩ us vs Q E ⟨rfl, hr.dp, hr.un⟩ I1.env0 (I1.xAt hc) hb' r q) fun res s' z => ?_)
  match res, z with
  | .error _, z => exact False.elim z
  | .ok (.ret u), z => exact I1.after z
end
end L2
set_option Elab.async false
set_option linter.all false
set_option maxRecDepth 100000
namespace L3
open PySem L2
def spE (b : Bool) (a : Addr) : Sp := fun vs H Q _ => vs = [.ref a] ∧ ∀ H', Same H H' → Q (.bl b) H'
theorem spE_len {b : Bool} {a : Addr} {vs : List V} {H : Hp} {Q : VK} {E : XK} (h : spE b a vs H Q E) : vs.length = 1 := by rw [h.1]; rfl
section
variable {K : PySem.W.Frag} {a C : Addr} {cs1 cs2 : List Addr} {v1 v2 : TA} {Q : VK} {H : Hp} {nx : St → Hp → Prop}
theorem alone_b (e1 : PySem.W.kitAny K (.ref C) (cs1.map Value.ref) = some false) (e2 : PySem.W.kitAny K (.ref C) (cs2.map Value.ref) = some false) 
    (hv1 : ∀ σ H (Q : List V → Hp → Prop), Q (cs1.map V.ref) H → v1 σ H Q) (hv2 : ∀ σ H (Q : List V → Hp → Prop), Q (cs2.map V.ref) H → v2 σ H Q) (l1 : cs1.length ≤ 1000) (l2 : cs2.length ≤ 1000) (q : ∀ H', Same H H' → Q (.bl true) H') :
    tSeq (tIfS (tB (tCB (isxR K a C) (tCons (tVar 0) (tCons (tTup v1) tNil)))) (tRet (tC (.bl false))) tNext)
      (tRet (tNotV (tCB (isxR K a C) (tCons (tVar 0) (tCons (tTup v2) tNil))))) { nx := nx, rt := Q } [some (.ref a)] H := by
  refine isx_tup hv1 l1 e1 rfl fun H1 s1 => ⟨_, rfl, ?_⟩
  refine isx_tup (Q := fun v H2 => _) hv2 l2 e2 rfl fun H2 s2 => ?_
  exact ⟨false, rfl, q _ (s1.trans s2)⟩
end
end L3
set_option Elab.async false
set_option linter.all false
set_option maxRecDepth 100000
set_option maxHeartbeats 4000000
namespace L2
open PySem PySem.Spec PyProof.Rows PySem.Builtin PySem.Builtin.Str
section
variable {X : Cx}
end
section
variable {prog : Program} {w : World} {A : Around} {E : Value → Shared → Prop} {s : Shared}
end
section
variable {X : Cx} {K : PySem.W.Frag} {o e : Expr} {to te : TE} {p2 pos2 apos cpos : Pos}
end
end L2
set_option Elab.async false
set_option linter.all false
set_option maxRecDepth 100000
set_option maxHeartbeats 4000000
namespace L3
open PySem L2 PySem.Builtin PySem.Builtin.Str
section
variable {K : PySem.W.Frag} {Γ : List Nat} {ta tb : TE} {da db : DE}
end
end L3
set_option Elab.async false
set_option linter.all false
set_option maxRecDepth 100000
set_option maxHeartbeats 4000000
namespace L3
open PySem L2 PySem.Builtin PySem.Builtin.Str
end L3
set_option Elab.async false
set_option linter.all false
set_option maxRecDepth 100000
set_option maxHeartbeats 4000000
namespace L2
open PySem PySem.Spec PyProof.Rows PySem.Builtin PySem.Builtin.Str
section
variable {X : Cx}
def rSlSt : V → Option Int → Option Int → Hp → VK → Prop := fun x lo hi H Q => ∃ (a : Str), x = .str a ∧ a.length ≤ sizeLine ∧ Q (.str (Txt.slice a lo hi)) H
theorem sl_strAny : SlR X rSlSt := by
  intro pins s σ H x v vl vu lo hi sl Q I rx hs pl pu h
  obtain ⟨a, rfl, hz, q⟩ := h
  obtain ⟨t, rfl⟩ := rx
  have fin : ∀ (l u : Option (Int × Tok)), s.heap.IsSlice sl l u none → l.map (·.1) = lo → u.map (·.1) = hi → wpAny (model X.prog X.w) X.A (getItem (.str a t) (.ref sl)) (EP X pins σ Q) X.xe s := fun l u hs e1 e2 => by
    subst e1 e2
    refine wpAny_getItem_str_slice (st := none) hs rfl (post_val_or_str ⟨Nat.le_trans (Txt.slice_le a _ _) hz, fun t' k => ?_⟩)
    exact ⟨.str _, H, I.kept (t' := k) fun b o e => e, ⟨t', rfl⟩, q⟩
  refine ⟨"str", _, F.slot_str_getitem.lookup, typeIs_str _ _ _, ?_⟩
  cases pl <;> cases pu
  · exact fin none none hs rfl rfl
  · rename_i j uj
    exact fin none (some (j, uj)) hs rfl rfl
  · rename_i i ui
    exact fin (some (i, ui)) none hs rfl rfl
  · rename_i i ui j uj
    exact fin (some (i, ui)) (some (j, uj)) hs rfl rfl
def repS (x : Str) (n : Nat) : Str := ⟨(List.replicate n x.cps).foldl (· ++ ·) #[]⟩
theorem op_mul_str : OpR X (binaryOp .Mult) (fun x y H Q => ∃ (i : Str) (n : Nat), x = .str i ∧ y = .int n ∧ 2 ≤ n ∧ i.length ≠ 0 ∧ i.length * n ≤ 1000 ∧ (repS i n).length ≤ sizeLine ∧ Q (.str (repS i n)) H) := by
  intro pins s σ H x y v u Q I rx ry h
  obtain ⟨i, n, rfl, rfl, h2, h0, hm, hz, q⟩ := h
  obtain ⟨t, rfl⟩ := rx
  obtain ⟨t', rfl⟩ := ry
  have hn : n ≤ 1000 := Nat.le_trans (Nat.le_mul_of_pos_left n (Nat.pos_of_ne_zero h0)) hm
  have e1 : ¬ ((n : Int) < 1) := by omega
  have e2 : ((n : Int) == 1 || i.length == 0) = false := by simp; omega
  refine P.mul_str (by simp; omega) (fun _ _ z => ?_) (fun _ _ => ?_) ?_
  · have : (2 ^ 63 - 1 : Int) / (n : Int) ≥ i.length := by
      refine (Int.le_ediv_iff_mul_le (by omega)).mpr ?_
      have : ((i.length * n : Nat) : Int) ≤ 1000 := by omega
      rw [Int.natCast_mul] at this
      omega
    omega
  · rw [Int.toNat_natCast]
    have s1 : (1000 : Nat) ≤ sizeLine := by decide
    unfold tooLong
    first | (simp; omega) | (exact decide_eq_false (by omega))
  · rw [if_neg e1, if_neg (by rw [e2]; decide), Int.toNat_natCast]
    exact ⟨hz, ⟨.str _, H, I.tok _, ⟨_, rfl⟩, q⟩⟩
end
end L2
set_option Elab.async false
set_option linter.all false
set_option maxRecDepth 100000
set_option maxHeartbeats 4000000
namespace L3
open PySem L2 PySem.Builtin PySem.Builtin.Str
section
variable {K : PySem.W.Frag} {Γ : List Nat} {te : TE} {de : DE}
def vSlSt (de : DE) (dl dh : DO) (δ : Dl) (P : DK) : Prop := de δ fun x => dl δ fun l => dh δ fun u => asS x fun a => a.length ≤ sizeLine ∧ P (.str (Txt.slice a l u))
theorem em_slSt {tl th : TO} {dl dh : DO} (he : ER K Γ te de) (hl : OR K Γ tl dl) (hh : OR K Γ th dh) : EM K Γ [] (tSl rSlSt te tl th) (vSlSt de dl dh) :=
  ⟨fun δ P P' k h => he.mono _ _ _ (fun x z => hl.mono _ _ _ (fun l z => hh.mono _ _ _ (fun u z => by obtain ⟨a, rfl, z1, z2⟩ := asS_out z; exact ⟨z1, k _ z2⟩) z) z) h,
   fun {B0 fps δ σ H Q} o h => he.run o (he.mono _ _ _ (fun x z v H1 s1 r1 => hl.run (o.same s1) (hl.mono _ _ _ (fun l z H2 s2 => hh.run ((o.same s1).same s2) (hh.mono _ _ _ (fun u z H3 s3 => by
    obtain ⟨a, rfl, z1, z2⟩ := asS_out z
    have e : v = .str a := r1.choose_spec.1
    subst e
    exact ⟨a, rfl, z1, z2 _ H3 [] ((s1.trans s2).trans s3) ⟨rfl, rfl⟩ Nw.nil⟩) z)) z)) h)⟩
def vMulT (x y : D) (P : DK) : Prop := asS x fun i => asI [y] fun j => ∃ n : Nat, (j = n ∧ 2 ≤ n ∧ i.length ≠ 0 ∧ i.length * n ≤ 1000 ∧ (repS i n).length ≤ sizeLine) ∧ P (.str (repS i n))
theorem o_mulT : OpV K (fun x y H Q => ∃ (i : Str) (n : Nat), x = .str i ∧ y = .int n ∧ 2 ≤ n ∧ i.length ≠ 0 ∧ i.length * n ≤ 1000 ∧ (repS i n).length ≤ sizeLine ∧ Q (.str (repS i n)) H) vMulT := ⟨fun x y P P' k h => by
    obtain ⟨i, rfl, h0⟩ := asS_out h
    clear h
    obtain ⟨j, rfl, n, h1, h2⟩ := asI1_out h0
    exact ⟨n, h1, k _ h2⟩,
  fun {H x y v w Q} r1 r2 h => by
    obtain ⟨i, rfl, h0⟩ := asS_out h
    clear h
    obtain ⟨j, rfl, n, ⟨rfl, a2, a3, a4, a5⟩, h2⟩ := asI1_out h0
    exact ⟨i, n, r1.choose_spec.1, r2.int, a2, a3, a4, a5, h2 _ H [] (Same.refl H) ⟨rfl, rfl⟩ Nw.nil⟩⟩
end
end L3
set_option Elab.async false
set_option linter.all false
namespace L3
open PySem L2 PySem.Builtin PySem.Builtin.Str
def figB (l : List Nat) : Bool := decide (1 ≤ l.length ∧ l.length ≤ 30) && l.all (fun c => decide (48 ≤ c ∧ c ≤ 57)) && (l == [48] || l.head? != some 48)
theorem dig_of {c : Nat} (h : 48 ≤ c ∧ c ≤ 57) : dg (c - 48) = [c] := by
  have : c = 48 ∨ c = 49 ∨ c = 50 ∨ c = 51 ∨ c = 52 ∨ c = 53 ∨ c = 54 ∨ c = 55 ∨ c = 56 ∨ c = 57 := by omega
  rcases this with rfl | rfl | rfl | rfl | rfl | rfl | rfl | rfl | rfl | rfl <;> decide
theorem dg_of : ∀ {l : List Nat}, l ≠ [] → (∀ c ∈ l, 48 ≤ c ∧ c ≤ 57) → (l = [48] ∨ l.head? ≠ some 48) → ∃ n, l = dg n := by
  intro l
  induction hk : l.length using Nat.strongRecOn generalizing l with
  | _ k ih =>
    intro hne hd hh
    obtain ⟨m, d, rfl⟩ : ∃ m d, l = m ++ [d] := ⟨l.dropLast, l.getLast hne, (List.dropLast_concat_getLast hne).symm⟩
    have hd1 := hd d (by simp)
    rcases Classical.em (m = []) with z | z
    · subst z
      exact ⟨d - 48, (dig_of hd1).symm⟩
    · have hm : m.head? ≠ some 48 := by
        rcases hh with e | e
        · exfalso
          have := congrArg List.length e
          rw [List.length_append] at this
          simp at this
          exact z this
        · intro q
          apply e
          rw [List.head?_append, q]; rfl
      obtain ⟨n, hn⟩ := ih m.length (by rw [← hk, List.length_append]; simp) rfl z (fun c hc => hd c (List.mem_append_left _ hc)) (.inr hm)
      have n0 : n ≠ 0 := fun q => by rw [hn, q, dg_zero] at hm; exact hm rfl
      refine ⟨n * 10 + (d - 48), ?_⟩
      rw [dg_big (by omega), show (n * 10 + (d - 48)) / 10 = n by omega, show (n * 10 + (d - 48)) % 10 = d - 48 by omega, dig_of hd1, ← hn]
theorem dg_lt : ∀ {k n : Nat}, (dg n).length ≤ k → n < 10 ^ k
  | 0, n, h => absurd (List.eq_nil_of_length_eq_zero (Nat.le_zero.mp h)) dg_ne
  | k + 1, n, h => by
    rcases Nat.lt_or_ge n 10 with h1 | h1
    · exact Nat.lt_of_lt_of_le h1 (by rw [Nat.pow_succ]; exact Nat.le_mul_of_pos_left 10 (Nat.pow_pos (by decide)))
    · rw [dg_big h1, List.length_append, dg_small (n := n % 10) (Nat.mod_lt n (by decide))] at h
      have := dg_lt (k := k) (n := n / 10) (by simp at h; omega)
      rw [Nat.pow_succ]
      omega
theorem fig_iff {l : List Nat} : figB l = true ↔ ∃ n, l = dg n ∧ n < 10 ^ 30 := by
  unfold figB
  simp only [Bool.and_eq_true, Bool.or_eq_true, decide_eq_true_eq, beq_iff_eq, bne_iff_ne, List.all_eq_true]
  constructor
  · rintro ⟨⟨⟨h1, h2⟩, h3⟩, h4⟩
    obtain ⟨n, rfl⟩ := dg_of (List.length_pos_iff.mp h1) h3 h4
    exact ⟨n, rfl, dg_lt h2⟩
  · rintro ⟨n, rfl, hn⟩
    refine ⟨⟨⟨List.length_pos_iff.mpr dg_ne, dg_len (k := 29) hn⟩, dg_dig⟩, ?_⟩
    rcases Classical.em (n = 0) with z | z
    · subst z; exact .inl dg_zero
    · obtain ⟨c, r, e, hc⟩ := dg_head z
      rw [e]
      exact .inr fun q => hc (Option.some.inj q)
end L3
set_option Elab.async false
set_option linter.all false
set_option maxRecDepth 100000
namespace L3
open PySem L2 PySem.Builtin PySem.Builtin.Str
def splitL (c : Nat) : List Nat → List (List Nat)
  | [] => [[]]
  | a :: l => if a = c then [] :: splitL c l else match splitL c l with
    | p :: r => (a :: p) :: r
    | [] => [[a]]
theorem splitL_ne {c : Nat} : ∀ {l : List Nat}, splitL c l ≠ []
  | [] => by unfold splitL; simp
  | a :: l => by
    unfold splitL
    split
    · simp
    · split <;> simp
theorem splitL_cons {c a : Nat} {l : List Nat} (h : a ≠ c) : ∃ p r, splitL c l = p :: r ∧ splitL c (a :: l) = (a :: p) :: r := by
  cases e : splitL c l with
  | nil => exact absurd e splitL_ne
  | cons p r => exact ⟨p, r, rfl, by rw [splitL, if_neg h, e]⟩
theorem joinL_splitL {c : Nat} : ∀ {l : List Nat}, joinL [c] (splitL c l) = l
  | [] => rfl
  | a :: l => by
    by_cases h : a = c
    · subst h
      rw [splitL, if_pos rfl]
      have ih := joinL_splitL (c := a) (l := l)
      cases e : splitL a l with
      | nil => exact absurd e splitL_ne
      | cons p r =>
        rw [e] at ih
        show [] ++ ([a] ++ joinL [a] (p :: r)) = a :: l
        rw [ih]; rfl
    · obtain ⟨p, r, e1, e2⟩ := splitL_cons (l := l) h
      have ih := joinL_splitL (c := c) (l := l)
      rw [e2]
      rw [e1] at ih
      cases r with
      | nil =>
        have ih : p = l := ih
        rw [ih]; rfl
      | cons q t =>
        show a :: (p ++ ([c] ++ joinL [c] (q :: t))) = a :: l
        exact congrArg (a :: ·) ih
theorem splitL_free {c : Nat} : ∀ {l : List Nat}, ∀ p ∈ splitL c l, c ∉ p
  | [], p, hp => by rw [List.mem_singleton.mp hp]; simp
  | a :: l, p, hp => by
    by_cases h : a = c
    · subst h
      rw [splitL, if_pos rfl] at hp
      rcases List.mem_cons.mp hp with z | z
      · rw [z]; simp
      · exact splitL_free p z
    · obtain ⟨q, r, e1, e2⟩ := splitL_cons (l := l) h
      rw [e2] at hp
      rcases List.mem_cons.mp hp with z | z
      · rw [z]
        intro m
        rcases List.mem_cons.mp m with m | m
        · exact h m.symm
        · exact splitL_free q (by rw [e1]; exact List.mem_cons_self) m
      · exact splitL_free p (by rw [e1]; exact List.mem_cons_of_mem _ z)
theorem splitL_mem {c : Nat} : ∀ {l : List Nat}, ∀ p ∈ splitL c l, ∀ x ∈ p, x ∈ l
  | [], p, hp, x, hx => by rw [List.mem_singleton.mp hp] at hx; exact hx
  | a :: l, p, hp, x, hx => by
    by_cases h : a = c
    · subst h
      rw [splitL, if_pos rfl] at hp
      rcases List.mem_cons.mp hp with z | z
      · rw [z] at hx; cases hx
      · exact List.mem_cons_of_mem _ (splitL_mem p z x hx)
    · obtain ⟨q, r, e1, e2⟩ := splitL_cons (l := l) h
      rw [e2] at hp
      rcases List.mem_cons.mp hp with z | z
      · rw [z] at hx
        rcases List.mem_cons.mp hx with m | m
        · rw [m]; exact List.mem_cons_self
        · exact List.mem_cons_of_mem _ (splitL_mem q (by rw [e1]; exact List.mem_cons_self) x m)
      · exact List.mem_cons_of_mem _ (splitL_mem p (by rw [e1]; exact List.mem_cons_of_mem _ z) x hx)
theorem split_one {c : Nat} {l : List Nat} (hc : c < 128) (hl : ∀ x ∈ l, x < 128) : Txt.split (mkS l) (mkS [c]) = (splitL c l).map mkS := by
  have := split_join (c := c) (s := []) (ps := splitL c l) (by simp) splitL_ne splitL_free (fun z hz => by rw [List.mem_singleton.mp hz]; exact hc) (fun p hp z hz => hl z (splitL_mem p hp z hz))
  rw [joinL_splitL] at this
  exact this
theorem part_any {c : Nat} {l : List Nat} : partL (mkS l) (mkS [c]) = match splitL c l with
    | [p] => [mkS p, mkS [], mkS []]
    | p :: r => [mkS p, mkS [c], mkS (joinL [c] r)]
    | [] => [] := by
  have hj := joinL_splitL (c := c) (l := l)
  cases e : splitL c l with
  | nil => exact absurd e splitL_ne
  | cons p r =>
    have hp : c ∉ p := splitL_free p (by rw [e]; exact List.mem_cons_self)
    rw [e] at hj
    cases r with
    | nil =>
      have hj : p = l := hj
      rw [← hj]
      exact part_no hp
    | cons q t =>
      have hj : p ++ ([c] ++ joinL [c] (q :: t)) = l := hj
      rw [← hj]
      exact part_at hp
theorem joinL_part {s : List Nat} : ∀ {ps : List (List Nat)} {p : List Nat}, p ∈ ps → (∀ x ∈ p, x ∈ joinL s ps) ∧ p.length ≤ (joinL s ps).length
  | [q], p, h => by rw [List.mem_singleton.mp h]; exact ⟨fun x hx => hx, Nat.le_refl _⟩
  | q :: r :: t, p, h => by
    have e : joinL s (q :: r :: t) = q ++ (s ++ joinL s (r :: t)) := rfl
    rw [e, List.length_append, List.length_append]
    rcases List.mem_cons.mp h with z | z
    · rw [z]
      exact ⟨fun x hx => List.mem_append_left _ hx, by omega⟩
    · have ih := joinL_part (s := s) z
      exact ⟨fun x hx => List.mem_append_right _ (List.mem_append_right _ (ih.1 x hx)), by omega⟩
theorem split_part {l s : List Nat} {p : Str} (hp : p ∈ Txt.split (mkS l) (mkS s)) : (∀ x ∈ p.cps.toList, x ∈ l) ∧ p.length ≤ l.length := by
  have j := StrLaws.join_split (mkS l) (mkS s)
  have e : Txt.split (mkS l) (mkS s) = ((Txt.split (mkS l) (mkS s)).map fun z => z.cps.toList).map mkS := by
    rw [List.map_map]
    conv => lhs; rw [← List.map_id (Txt.split (mkS l) (mkS s))]
    exact List.map_congr_left fun z _ => (mkS_of z).symm
  rw [e, join_mk] at j
  have k := mkS_inj j
  have m := joinL_part (s := s) (ps := (Txt.split (mkS l) (mkS s)).map fun z => z.cps.toList) (List.mem_map.mpr ⟨p, hp, rfl⟩)
  rw [k] at m
  exact m
theorem split_many {l s : List Nat} : (Txt.split (mkS l) (mkS s)).length ≤ l.length + 2 := by
  unfold Txt.split
  split
  · simp
  · split
    · simp
    · have e1 := StrLaws.occ_length_le (mkS l) (mkS s) 0 (mkS l).length ((mkS l).length + 1)
      rw [length_partsBetween]
      rw [mkS_len] at e1 ⊢
      omega
end L3
set_option Elab.async false
set_option linter.all false
set_option maxRecDepth 100000
namespace L3
open PySem L2 PySem.Builtin PySem.Builtin.Str
end L3
set_option linter.all false
set_option maxRecDepth 100000
namespace L2
open PySem PySem.Spec PyProof.Rows
section
variable {X : Cx}
def isNoneU : Value → Bool | .none => true | _ => false
def NoneIt (H : Hp) (z : V) : Prop := flatV z = true ∨ ∃ a ys, z = .ref a ∧ H a = some (.tup ys)
theorem none_items {H : Hp} {pins : List (Addr × Obj)} {s : Shared} {σ : St} (I : Inv X pins σ H s) {A : Around} (hu : A.units < cLine) : ∀ {xs : List V} {us : List Value}, Vals xs us → (∀ z ∈ xs, NoneIt H z) → (∀ u ∈ us, SeqAt.EqAt A s u .none (isNoneU u)) ∧ us.any isNoneU = xs.any (fun z => decide (z = .non))
  | _, _, .nil, _ => ⟨fun u hm => absurd hm (List.not_mem_nil), rfl⟩
  | y :: xs, u :: us, .cons r t, f => by
    have ih := none_items I hu t (fun z hz => f z (List.mem_cons_of_mem _ hz))
    have key : SeqAt.EqAt A s u .none (isNoneU u) ∧ isNoneU u = decide (y = .non) := by
      rcases f y List.mem_cons_self with fy | ⟨a, ys, rfl, ha⟩
      · have := eqAt_V (A := A) (s := s) r (show RelV .non .none from rfl) fy rfl
        cases y with
        | non => cases r; exact ⟨this, rfl⟩
        | bl b => cases r; exact ⟨this, rfl⟩
        | int i => obtain ⟨t, rfl⟩ := r; exact ⟨this, rfl⟩
        | str z => obtain ⟨t, rfl⟩ := r; exact ⟨this, rfl⟩
        | _ => exact absurd (show false = true from fy) Bool.false_ne_true
      · obtain rfl : u = .ref a := r
        obtain ⟨_, _, pl2, _⟩ := I.tuple (SqT.of ha)
        exact ⟨SeqAt.EqAt.tuple_none pl2 hu, rfl⟩
    refine ⟨fun w hw => ?_, by rw [List.any_cons, List.any_cons, ih.2, key.2]⟩
    rcases List.mem_cons.mp hw with rfl | hw
    · exact key.1
    · exact ih.1 w hw
def rInN (K : PySem.W.Frag) : R2 := fun x y H Q => x = .non ∧ ∃ p xs, y = .ref p ∧ SqL K H p xs ∧ (∀ z ∈ xs, NoneIt H z) ∧ Q (.bl (xs.any fun z => decide (z = .non))) H
theorem op_inN {K : PySem.W.Frag} (hK : X.K = K) (hu : X.A.units + 64 < cLine) : OpR X (compareOp .In) (rInN K) := by
  subst hK
  intro pins s σ H x y v u Q I rx ry h
  obtain ⟨rfl, p, xs, rfl, hq, hx, q⟩ := h
  obtain rfl : v = .none := rx
  cases ry
  obtain ⟨its, r, pl, hz⟩ := I.list hq
  have nn := none_items (A := X.A.in1) I (by have : X.A.in1.units = X.A.units + 1 := rfl; omega) r hx
  refine SeqAt.in_listAt isNoneU pl.isList (fun w hw => nn.1 w (by simpa using hw)) ⟨.bl _, H, I, rfl, ?_⟩
  rw [show its.toArray.any isNoneU = its.any isNoneU by simp, nn.2]
  exact q
def rEqT : R2 := fun x y H Q => ∃ ds es, Rp H (.tup ds) x ∧ Rp H (.tup es) y ∧ D.plains ds = true ∧ D.plains es = true ∧ D.depths ds ≤ 60 ∧ Q (.bl (D.eqbs ds es)) H
theorem op_eqT (hu : X.A.units + 64 < cLine) : OpR X (compareOp .Eq) rEqT := by
  intro pins s σ H x y v u Q I rx ry h
  obtain ⟨ds, es, ⟨f, a, xs, rfl, e1, hd⟩, ⟨g, b, ys, rfl, e2, he⟩, pd, pe, hdp, q⟩ := h
  obtain rfl : v = .ref a := rx
  obtain rfl : u = .ref b := ry
  obtain ⟨its, rv, pl, hz⟩ := I.tuple (SqT.of e1)
  obtain ⟨its2, rv2, pl2, hz2⟩ := I.tuple (SqT.of e2)
  have l1 := rv.length
  have l2 := rv2.length
  have m1 := hd.length
  have m2 := he.length
  refine SeqAt.eq_tupleAt pl pl2 (by omega) (items_eq I hd he rv rv2 pd pe (by omega)) (fin_bl I q ?_)
  have z1 : its.toArray.size = ds.length := by simp; omega
  have z2 : its2.toArray.size = es.length := by simp; omega
  rw [z1, z2]
  by_cases hl : ds.length = es.length
  · rw [eqbs_range hl, hl, Nat.min_self, beq_self_eq_true, Bool.and_true]
    all_goals rfl
  · rw [D.eqbs_len hl]
    have : (ds.length == es.length) = false := beq_eq_false_iff_ne.mpr hl
    rw [this, Bool.and_false]
    all_goals rfl
def constV : Expr → Option V
  | .Constant (.int n) _ _ => some (.int n)
  | .Constant (.str x) _ _ => some (.str x)
  | .Constant .none _ _ => some .non
  | _ => none
def constVs : List Expr → List V
  | [] => []
  | e :: es => match constV e with
    | some v => v :: constVs es
    | none => []
def constR : List Expr → List Expr
  | [] => []
  | e :: es => match constV e with
    | some _ => constR es
    | none => e :: es
def tPre : List V → TA → TA
  | [], t => t
  | v :: vs, t => tCons (tC v) (tPre vs t)
theorem pa_pre {t : TA} {rest : List Expr} : ∀ {es : List Expr} {vs : List V}, constVs es = vs → constR es = rest → PA X rest t → PA X es (tPre vs t)
  | [], vs, h, h2, ht => by cases h; cases h2; exact ht
  | e :: es, vs, h, h2, ht => by
    rw [constVs] at h
    rw [constR] at h2
    cases ce : constV e with
    | none => rw [ce] at h h2; cases h; cases h2; exact ht
    | some v =>
      rw [ce] at h h2
      subst h
      have ih := pa_pre (es := es) rfl h2 ht
      unfold constV at ce
      split at ce
      · cases ce; exact pa_cons pe_int ih
      · cases ce; exact pa_cons pe_str ih
      · cases ce; exact pa_cons pe_non ih
      · cases ce
end
end L2
set_option Elab.async false
set_option linter.all false
set_option maxRecDepth 100000
namespace L3
open PySem L2
section
variable {K : PySem.W.Frag}
def D.okN : D → Bool | .non => true | .bl _ => true | .int _ => true | .str _ => true | .tup _ => true | _ => false
theorem Rfs.noneIt {H : Hp} : ∀ {ds : List D} {vs : List V} {fp : List Addr}, Rfs K H ds vs fp → ds.all D.okN = true → (∀ z ∈ vs, L2.NoneIt H z) ∧ vs.any (fun z => decide (z = .non)) = ds.any D.isNon
  | [], vs, fp, h, _ => by obtain ⟨rfl, _⟩ : vs = [] ∧ _ := h; exact ⟨fun z hz => absurd hz List.not_mem_nil, rfl⟩
  | d :: ds, vs, fp, h, e => by
    rw [List.all_cons, Bool.and_eq_true] at e
    obtain ⟨x, r, f1, f2, rfl, _, h1, h2⟩ := h
    have ih := Rfs.noneIt h2 e.2
    have hn := Rp.non_iff (K := K) ⟨f1, h1⟩
    refine ⟨fun z hz => ?_, by rw [List.any_cons, List.any_cons, ih.2, hn]⟩
    rcases List.mem_cons.mp hz with rfl | hz
    · cases d with
      | non => obtain ⟨rfl, _⟩ := h1; exact .inl rfl
      | bl b => obtain ⟨rfl, _⟩ := h1; exact .inl rfl
      | int i => obtain ⟨rfl, _⟩ := h1; exact .inl rfl
      | str s => obtain ⟨rfl, _⟩ := h1; exact .inl rfl
      | tup ts => obtain ⟨a, xs, rfl, ha, _⟩ := h1; exact .inr ⟨a, xs, rfl, ha⟩
      | _ => cases e.1
    · exact ih.1 z hz
def vInN (x : D) (y : D) (P : DK) : Prop := x.isNon = true ∧ asL y fun ds => ds.all D.okN = true ∧ P (.bl (ds.any D.isNon))
theorem o_inN : OpV K (rInN K) vInN := ⟨fun x y P P' k h => ⟨h.1, by obtain ⟨ds, e, z⟩ := asL_out h.2; exact asL_in e ⟨z.1, k _ z.2⟩⟩, fun {H x y v w Q} r1 r2 h => by
  obtain ⟨hx, h⟩ := h
  obtain ⟨ds, e, hs, h⟩ := asL_out h
  have hv : v = .non := by
    have := r1.non_iff
    rw [hx] at this
    exact of_decide_eq_true this
  obtain ⟨a, xs, fq, rfl, hsq, hr⟩ := r2.seq e
  have nn := hr.noneIt hs
  refine ⟨hv, a, xs, rfl, hsq, nn.1, ?_⟩
  rw [nn.2]
  exact h _ H [] (Same.refl H) ⟨rfl, rfl⟩ Nw.nil⟩
def vEqTp (x : D) (y : D) (P : DK) : Prop := ∃ a b, x.old = some (.tup a) ∧ y.old = some (.tup b) ∧ L2.D.plains a = true ∧ L2.D.plains b = true ∧ L2.D.depths a ≤ 60 ∧ P (.bl (L2.D.eqbs a b))
theorem o_eqTp : OpV K rEqT vEqTp := ⟨fun x y P P' k h => by
    obtain ⟨a, b, h1, h2, h3, h4, h5, h⟩ := h
    exact ⟨a, b, h1, h2, h3, h4, h5, k _ h⟩,
  fun {H x y v w Q} ⟨f1, r1⟩ ⟨f2, r2⟩ h => by
    obtain ⟨a, b, h1, h2, h3, h4, h5, h⟩ := h
    exact ⟨a, b, ⟨f1, r1.old h1⟩, ⟨f2, r2.old h2⟩, h3, h4, h5, h _ H [] (Same.refl H) ⟨rfl, rfl⟩ Nw.nil⟩⟩
theorem vEqTp_tab {t : List (List Int)} {b : Int} {P : DK} (h : P (.bl true)) : vEqTp (.tup [dT t, .int b]) (.tup [dT t, .int b]) P := by
  have e : (L3.D.tup [dT t, .int b]).old = some (.tup [L2.dT t, .int b]) := by
    rw [D.old, D.olds, D.olds, D.olds, old_dT, D.old]; rfl
  have hp : L2.D.plains [L2.dT t, .int b] = true := by rw [L2.D.plains, L2.D.plains, L2.D.plains, L2.D.plain, L2.D.plain, L2.D.plains_rows]; rfl
  refine ⟨_, _, e, e, hp, hp, ?_, ?_⟩
  · have := L2.D.depths_rows t
    simp only [L2.D.depths, L2.D.depth]
    omega
  · have z : L2.D.eqbs [L2.dT t, .int b] [L2.dT t, .int b] = true := by
      rw [L2.D.eqbs, L2.D.eqbs, L2.D.eqbs, L2.D.eqb, L2.D.eqb, L2.D.eqbs_rows]
      simp
    rw [z]
    exact h
def vPre (vs : List V) (d : DA) (δ : Dl) (P : List D → Prop) : Prop := d δ fun xs => P (vs.map ofV ++ xs)
theorem am_pre {Γ : List Nat} {t : TA} {d : DA} : ∀ {vs : List V}, (h : vs.all flatV = true := by rfl) → AM K Γ [] t d → AM K Γ [] (tPre vs t) (vPre vs d)
  | [], _, ht => ht
  | v :: vs, h, ht => by
    rw [List.all_cons, Bool.and_eq_true] at h
    have ih := am_pre h.2 ht
    refine ⟨fun δ P P' k z => ht.mono _ _ _ (fun x z => k _ z) z, fun {B0 fps δ σ H Q} o q => ?_⟩
    refine ih.run o ?_
    unfold vPre at q ⊢
    refine ht.mono _ _ _ (fun xs z us H' fp s r nw => z (v :: us) H' fp s ⟨v, us, [], fp, rfl, rfl, ?_, r⟩ nw) q
    cases v with
    | non => exact ⟨rfl, rfl⟩
    | bl b => exact ⟨rfl, rfl⟩
    | int i => exact ⟨rfl, rfl⟩
    | str x => exact ⟨rfl, rfl⟩
    | _ => cases h.1
end
end L3
set_option linter.all false
set_option maxRecDepth 100000
namespace L2
open PySem PySem.Spec PyProof.Rows
structure QE (X : Cx) (e : Expr) (t : TE) : Prop where out : PE X e t
structure QA (X : Cx) (es : List Expr) (t : TA) : Prop where out : PA X es t
structure QS (X : Cx) (st : Stmt) (t : TS) : Prop where out : PS X st t
structure QSs (X : Cx) (ss : List Stmt) (t : TS) : Prop where out : PSs X ss t
section
variable {X : Cx}
theorem seal_out {ss : List Stmt} {R : TS → Prop} (h : ∃ t, QSs X ss t ∧ R t) : ∃ t, PSs X ss t ∧ R t := h.elim fun t z => ⟨t, z.1.out, z.2⟩
theorem qss_cons {st : Stmt} {rest : List Stmt} {t u : TS} (h1 : QS X st t) (h2 : QSs X rest u) : QSs X (st :: rest) (tSeq t u) := ⟨pss_cons h1.out h2.out⟩
theorem qss_one {st : Stmt} {t : TS} (h1 : QS X st t) : QSs X [st] t := ⟨pss_one h1.out⟩
theorem qs_set {pos : Pos} {i : Nat} {x : Str} {e : Expr} {te : TE} {pos' : Pos} (hN : X.N.Nodup) (hi : X.N[i]? = some x) (hx : Loc X.env.scope x) (he : QE X e te) (hs : swapsWith e (some (.Name x pos')) pos.line X.env = pure false := by rfl) (hf : X.fn x = true ∨ X.env.scope.names.lookup x = some .local := by first | exact .inl rfl | exact .inr rfl | assumption) : QS X (.Assign [.Name x pos'] e pos) (tAsg te (gName i)) := ⟨ps_set hN hi hx he.out hs hf⟩
theorem qs_ret {e : Expr} {te : TE} {pos : Pos} (h : QE X e te) : QS X (.Return (some e) pos) (tRet te) := ⟨ps_ret h.out⟩
theorem qe_lst {es : List Expr} {t : TA} {pos : Pos} (h : QA X es t) : QE X (.List es pos) (tLst t) := ⟨pe_lst h.out⟩
theorem qa_cons {e : Expr} {es : List Expr} {te : TE} {t : TA} (ha : QE X e te) (hr : QA X es t) (hs : starEach (e :: es) X.env = (false, eval e X.env) :: starEach es X.env := by rfl) : QA X (e :: es) (tCons te t) := ⟨pa_cons ha.out hr.out hs⟩
theorem qa_nil : QA X [] tNil := ⟨pa_nil⟩
theorem qa_pre {t : TA} {rest es : List Expr} {vs : List V} (h1 : constVs es = vs) (h2 : constR es = rest) (h : QA X rest t) : QA X es (tPre vs t) := ⟨pa_pre h1 h2 h.out⟩
theorem qe_op {a b : Expr} {ta tb : TE} {pos : Pos} {op : Operator} {r : R2} (h : OpR X (binaryOp op) r) (ha : QE X a ta) (hb : QE X b tb) : QE X (a.BinOp op b pos) (tOp r ta tb) := ⟨pe_op h ha.out hb.out⟩
theorem qe_str {x : Str} {j : Nat} {pos : Pos} : QE X (.Constant (.str x) j pos) (tC (.str x)) := ⟨pe_str⟩
theorem qe_int {x : Int} {j : Nat} {pos : Pos} : QE X (.Constant (.int x) j pos) (tC (.int x)) := ⟨pe_int⟩
theorem qe_mk {e : Expr} {t : TE} (h : PE X e t) : QE X e t := ⟨h⟩
end
end L2
set_option Elab.async false
set_option linter.all false
set_option maxRecDepth 100000
namespace L3
open PySem L2 PySem.Builtin PySem.Builtin.Str
theorem idx_to {a n : Nat} : strSliceIndices none (some (a : Int)) 1 n = strSliceIndices none (some ((min a n : Nat) : Int)) 1 n := by
  unfold strSliceIndices
  simp only [show ((1 : Int) > 0) = True from by simp, if_true]
  have h1 : ¬ ((a : Int) < 0) := by omega
  have h2 : ¬ (((min a n : Nat) : Int) < 0) := by omega
  rw [if_neg h1, if_neg h2]
  congr 1
  omega
theorem idx_fr {a n : Nat} : strSliceIndices (some (a : Int)) none 1 n = strSliceIndices (some ((min a n : Nat) : Int)) none 1 n := by
  unfold strSliceIndices
  simp only [show ((1 : Int) > 0) = True from by simp, if_true]
  have h1 : ¬ ((a : Int) < 0) := by omega
  have h2 : ¬ (((min a n : Nat) : Int) < 0) := by omega
  rw [if_neg h1, if_neg h2]
  congr 1
  omega
theorem slice_to {l : List Nat} {a : Nat} : Txt.slice (mkS l) none (some (a : Int)) = mkS (l.take a) := by
  have e : Txt.slice (mkS l) none (some (a : Int)) = Txt.slice (mkS l) none (some ((min a l.length : Nat) : Int)) := by
    unfold Txt.slice
    rw [show (mkS l).length = l.length from rfl, idx_to]
  rw [e]
  have := StrLaws.sliceText_to (x := mkS l) (j := ((min a l.length : Nat) : Int)) ⟨by omega, by rw [mkS_list]; omega⟩
  rw [show Txt.slice (mkS l) none (some ((min a l.length : Nat) : Int)) = StrLaws.sliceText (mkS l) none (some ((min a l.length : Nat) : Int)) from rfl, this, mkS_list]
  show mkS ((l.drop _).take _) = _
  congr 1
  rw [List.drop_zero]
  rw [show ((((min a l.length : Nat) : Int)) - 0).toNat = min a l.length by omega]
  rcases Nat.le_total a l.length with h | h
  · rw [Nat.min_eq_left h]
  · rw [Nat.min_eq_right h, List.take_of_length_le (Nat.le_refl _), List.take_of_length_le h]
theorem slice_fr {l : List Nat} {a : Nat} : Txt.slice (mkS l) (some (a : Int)) none = mkS (l.drop a) := by
  have e : Txt.slice (mkS l) (some (a : Int)) none = Txt.slice (mkS l) (some ((min a l.length : Nat) : Int)) none := by
    unfold Txt.slice
    rw [show (mkS l).length = l.length from rfl, idx_fr]
  rw [e]
  have := StrLaws.sliceText_from (x := mkS l) (i := ((min a l.length : Nat) : Int)) ⟨by omega, by rw [mkS_list]; omega⟩
  rw [show Txt.slice (mkS l) (some ((min a l.length : Nat) : Int)) none = StrLaws.sliceText (mkS l) (some ((min a l.length : Nat) : Int)) none from rfl, this, mkS_list]
  show mkS ((l.drop _).take _) = _
  congr 1
  rw [Int.toNat_natCast, List.take_of_length_le (by rw [List.length_drop]; omega)]
  rcases Nat.le_total a l.length with h | h
  · rw [Nat.min_eq_left h]
  · rw [Nat.min_eq_right h, List.drop_of_length_le (Nat.le_refl _), List.drop_of_length_le h]
end L3
set_option Elab.async false
set_option linter.all false
set_option maxRecDepth 100000
set_option maxHeartbeats 4000000
namespace Mine
open PySem L3
open L2 hiding D Rf Rfs Rp dI dT
open PyProof.Rows hiding St
local macro_rules | `(tactic| walk_at "v1") => `(tactic| simp only [vMS, asS_str, vSplit, vStarts, vPartition, vSlS, vSlSt, vMulT, vIntT, vStrI, vLenS, vInS, vCatT, vItemS, vItS, sSp, sSemi, sSlash, sMinus, sZero, sEmpty, sFig, vNext, vSeq, vSetM, vSet, vDrop, vRet, vRetN, vIfS, vAsg, vgName, vgTup2, vgCons_c, vgNil_n, vFor, vIf, vVar, vC, vOp, vUn, vI0_int, vI_int, vU_int, vTest, asB_bl, vAnd, vOr, vNot, vAndV, vOrV, vNotV, vChain, vNil, vCons, vInts, vLst, vTup, vCall, vItL, vRng1, vRng2, asI_int, asII_int, asL_lst, asL_scr, vIxL_lst, vIxL_scr, vIxT_tup, vNoPart, vPart, vLen_lst, vLen_scr, vLen_tup, slotL, vAppend, vClear, vIs, tyn_int, tyn_bl, tyn_lst, tyn_tup, tyn_str, tyn_non, isB_ii, isB_ib, isB_ll, isB_tt, isB_ss, isB_bb, isB_bi, isB_il, isB_nl, vIsN_non, D.isNon, vScal, D.scal, vFlat, flat_int, flat_bl, flat_tup2, flat_tup3, flat_tup4, vAbs, vIntB, asIB_int, asIB_bl, vMax2, vMin2, vYes, vCat_lst, vRep_lst, vList_lst, vList_scr, vSum_ints, asNs_ints, vSorted, vRev, vSl, vSlR, vCatR_lst, vRepR_lst, vListR_lst, vRevR, vAll_bools, vAny_bools, vMinL_ints, vMaxL_ints, vListRng, vAppPop, vPin, slotP, vVarP, vCallI, vSetI, vDGet, vDIn, vDPut, slotD, asDic_dic, vIndex, vSort_ints, vLenD_dic, vClearTs, vClearTL, vTupOf_lst, vTupR_lst, asTI_in, asDit_dit, vDInT, vDPutT, vClearT, slotT, isRef_lst, isRef_dic, ofV_int, ofV_bl, ofV_non, D.toV, Option.some.injEq, forall_eq', vEqS_bl, vEqS_str, vPar, vgLst, vTryI, vTry, vKnow, vWhen, vRaise, vDropX, vSetX, vRetX, noX, vDef, atI_c0, atI_c1, atI_c2, atI_c3, asO_some, kill, List.foldl_nil, List.foldl_cons, List.set_cons_zero, List.set_cons_succ, List.getElem?_cons_zero, List.getElem?_cons_succ, List.getElem?_nil, endsD, vEqS_int, Bool.false_eq_true, Bool.not_false, Bool.not_true, if_true, if_false, ite_true, ite_false, true_and, and_true, List.length_cons, List.length_nil, decide_eq_true_eq, Bool.not_eq_true', decide_eq_false_iff_not, List.length_map, Bool.true_eq_false, eq_self, not_true_eq_false, not_false_eq_true, Int.reduceToNat, Int.reduceEq, Int.reduceLT, Int.reduceLE, Int.reducePow, Int.reduceAdd, Int.reduceMul, Int.reduceSub, Int.reduceNeg, Int.toNat_natCast])
local macro_rules | `(tactic| walk_at "vb1") => `(tactic| simp only [vMS, asS_str, vSplit, vStarts, vPartition, vSlS, vSlSt, vMulT, vIntT, vStrI, vLenS, vInS, vCatT, vItemS, vItS, sSp, sSemi, sSlash, sMinus, sZero, sEmpty, sFig, vNext, vSeq, vSetM, vSet, vDrop, vRet, vRetN, vIfS, vAsg, vgName, vgTup2, vgCons_c, vgNil_n, vFor, vIf, vVar, vC, vOp, vUn, vI0_int, vI_int, vU_int, vTest, asB_bl, vAnd, vOr, vNot, vAndV, vOrV, vNotV, vChain, vNil, vCons, vInts, vLst, vTup, vCall, vItL, vRng1, vRng2, asI_int, asII_int, asL_lst, asL_scr, vIxL_lst, vIxL_scr, vIxT_tup, vNoPart, vPart, vLen_lst, vLen_scr, vLen_tup, slotL, vAppend, vClear, vIs, tyn_int, tyn_bl, tyn_lst, tyn_tup, tyn_str, tyn_non, isB_ii, isB_ib, isB_ll, isB_tt, isB_ss, isB_bb, isB_bi, isB_il, isB_nl, vIsN_non, D.isNon, vScal, D.scal, vFlat, flat_int, flat_bl, flat_tup2, flat_tup3, flat_tup4, vAbs, vIntB, asIB_int, asIB_bl, vMax2, vMin2, vYes, vCat_lst, vRep_lst, vList_lst, vList_scr, vSum_ints, asNs_ints, vSorted, vRev, vSl, vSlR, vCatR_lst, vRepR_lst, vListR_lst, vRevR, vAll_bools, vAny_bools, vMinL_ints, vMaxL_ints, vListRng, vAppPop, vPin, slotP, vVarP, vCallI, vSetI, vDGet, vDIn, vDPut, slotD, asDic_dic, vIndex, vSort_ints, vLenD_dic, vClearTs, vClearTL, vTupOf_lst, vTupR_lst, asTI_in, asDit_dit, vDInT, vDPutT, vClearT, slotT, isRef_lst, isRef_dic, ofV_int, ofV_bl, ofV_non, D.toV, Option.some.injEq, forall_eq', vEqS_bl, vEqS_str, vPar, vgLst, vTryI, vTry, vKnow, vWhen, vRaise, vDropX, vSetX, vRetX, noX, vDef, atI_c0, atI_c1, atI_c2, atI_c3, asO_some, kill, List.foldl_nil, List.foldl_cons, List.set_cons_zero, List.set_cons_succ, List.getElem?_cons_zero, List.getElem?_cons_succ, List.getElem?_nil, endsD, vEqS_int, Bool.false_eq_true, Bool.not_false, Bool.not_true, if_true, if_false, ite_true, ite_false, true_and, and_true, List.length_cons, List.length_nil, decide_eq_true_eq, Bool.not_eq_true', decide_eq_false_iff_not, List.length_map, Bool.true_eq_false, eq_self, not_true_eq_false, not_false_eq_true, Int.reduceToNat, Int.reduceEq, Int.reduceLT, Int.reduceLE, Int.reducePow, Int.reduceAdd, Int.reduceMul, Int.reduceSub, Int.reduceNeg, Int.toNat_natCast, vBody, cbaseD, List.reduceReplicate, List.replicate_succ, List.replicate_zero, List.map_cons, List.map_nil, Option.getD_some, List.cons_append, List.nil_append, Nat.reduceAdd])
local macro_rules | `(tactic| walk_at "v") => `(tactic| try (walk_at "v1"))
local macro_rules | `(tactic| walk_at "vb") => `(tactic| try (walk_at "vb1"))
local macro_rules | `(tactic| walk_at "cd") => `(tactic| first | exact ⟨by decide, 100, by decide, by decide⟩ | exact ⟨by omega, 100, by omega, by decide⟩ | omega | decide | rfl | exact ⟨by decide, by decide, by decide⟩ | exact ⟨64, 64, by omega, by omega, by decide⟩ | exact ⟨200, 200, by omega, by omega, by decide⟩ | exact scal_ints)
local macro_rules | `(tactic| walk_at "go") => `(tactic| repeat (first | (walk_at "v1") | ((with_reducible refine And.intro ?k1 ?_); (case k1 => walk_at "cd"))))
local macro_rules | `(tactic| walk_at "gb") => `(tactic| repeat (first | (walk_at "vb1") | ((with_reducible refine And.intro ?k1 ?_); (case k1 => walk_at "cd"))))
def top (i : Nat) : Stmt := PySem.Challenge.pw_evenmix_k63_texts_refused.main.body.getD i (.Pass ⟨0, 0, 0, 0⟩)
abbrev s_greatest_divisor : Stmt := top 17
abbrev N_greatest_divisor : List Str := ["one", "other", "rest"]
abbrev P_greatest_divisor : List Str := ["one", "other"]
theorem sc_greatest_divisor : FnScope N_greatest_divisor P_greatest_divisor (defScope s_greatest_divisor) := ⟨rfl, rfl, rfl, by decide +kernel, rfl, by decide +kernel, by decide +kernel⟩
abbrev s_read_table : Stmt := top 21
abbrev N_read_table : List Str := ["text", "lines", "bottom"]
abbrev P_read_table : List Str := ["text"]
theorem sc_read_table : FnScope N_read_table P_read_table (defScope s_read_table) := ⟨rfl, rfl, rfl, by decide +kernel, rfl, by decide +kernel, by decide +kernel⟩
abbrev s_is_shaped : Stmt := top 22
abbrev N_is_shaped : List Str := ["lines"]
abbrev P_is_shaped : List Str := ["lines"]
theorem sc_is_shaped : FnScope N_is_shaped P_is_shaped (defScope s_is_shaped) := ⟨rfl, rfl, rfl, by decide +kernel, rfl, by decide +kernel, by decide +kernel⟩
abbrev s_is_written : Stmt := top 23
abbrev N_is_written : List Str := ["line"]
abbrev P_is_written : List Str := ["line"]
theorem sc_is_written : FnScope N_is_written P_is_written (defScope s_is_written) := ⟨rfl, rfl, rfl, by decide +kernel, rfl, by decide +kernel, by decide +kernel⟩
abbrev s_is_fraction : Stmt := top 24
abbrev N_is_fraction : List Str := ["word", "parts"]
abbrev P_is_fraction : List Str := ["word"]
theorem sc_is_fraction : FnScope N_is_fraction P_is_fraction (defScope s_is_fraction) := ⟨rfl, rfl, rfl, by decide +kernel, rfl, by decide +kernel, by decide +kernel⟩
abbrev s_without_sign : Stmt := top 25
abbrev N_without_sign : List Str := ["word"]
abbrev P_without_sign : List Str := ["word"]
theorem sc_without_sign : FnScope N_without_sign P_without_sign (defScope s_without_sign) := ⟨rfl, rfl, rfl, by decide +kernel, rfl, by decide +kernel, by decide +kernel⟩
abbrev s_is_figures : Stmt := top 26
abbrev N_is_figures : List Str := ["part"]
abbrev P_is_figures : List Str := ["part"]
theorem sc_is_figures : FnScope N_is_figures P_is_figures (defScope s_is_figures) := ⟨rfl, rfl, rfl, by decide +kernel, rfl, by decide +kernel, by decide +kernel⟩
abbrev s_is_lowest : Stmt := top 27
abbrev N_is_lowest : List Str := ["top", "bottom"]
abbrev P_is_lowest : List Str := ["top", "bottom"]
theorem sc_is_lowest : FnScope N_is_lowest P_is_lowest (defScope s_is_lowest) := ⟨rfl, rfl, rfl, by decide +kernel, rfl, by decide +kernel, by decide +kernel⟩
abbrev s_top_of : Stmt := top 28
abbrev N_top_of : List Str := ["word"]
abbrev P_top_of : List Str := ["word"]
theorem sc_top_of : FnScope N_top_of P_top_of (defScope s_top_of) := ⟨rfl, rfl, rfl, by decide +kernel, rfl, by decide +kernel, by decide +kernel⟩
abbrev s_bottom_of : Stmt := top 29
abbrev N_bottom_of : List Str := ["word", "bottom"]
abbrev P_bottom_of : List Str := ["word"]
theorem sc_bottom_of : FnScope N_bottom_of P_bottom_of (defScope s_bottom_of) := ⟨rfl, rfl, rfl, by decide +kernel, rfl, by decide +kernel, by decide +kernel⟩
abbrev s_common_bottom : Stmt := top 30
abbrev N_common_bottom : List Str := ["lines", "common", "line", "word", "bottom"]
abbrev P_common_bottom : List Str := ["lines"]
theorem sc_common_bottom : FnScope N_common_bottom P_common_bottom (defScope s_common_bottom) := ⟨rfl, rfl, rfl, by decide +kernel, rfl, by decide +kernel, by decide +kernel⟩
abbrev s_raised_tops : Stmt := top 31
abbrev N_raised_tops : List Str := ["line", "bottom"]
abbrev P_raised_tops : List Str := ["line", "bottom"]
theorem sc_raised_tops : FnScope N_raised_tops P_raised_tops (defScope s_raised_tops) := ⟨rfl, rfl, rfl, by decide +kernel, rfl, by decide +kernel, by decide +kernel⟩
abbrev s_law_mixed : Stmt := top 33
abbrev N_law_mixed : List Str := ["_law_script", "_law_number_here", "_law_cell"]
abbrev P_law_mixed : List Str := ["_law_script", "_law_number_here"]
theorem sc_law_mixed : FnScope N_law_mixed P_law_mixed (defScope s_law_mixed) := ⟨rfl, rfl, rfl, by decide +kernel, rfl, by decide +kernel, by decide +kernel⟩
abbrev s_law_shared : Stmt := top 34
abbrev N_law_shared : List Str := ["_law_one", "_law_other"]
abbrev P_law_shared : List Str := ["_law_one", "_law_other"]
theorem sc_law_shared : FnScope N_law_shared P_law_shared (defScope s_law_shared) := ⟨rfl, rfl, rfl, by decide +kernel, rfl, by decide +kernel, by decide +kernel⟩
abbrev s_law_written : Stmt := top 35
abbrev N_law_written : List Str := ["_law_script", "_law_number_here", "_law_wide", "_law_lines", "_law_row", "_law_words", "_law_column", "_law_top", "_law_bottom"]
abbrev P_law_written : List Str := ["_law_script"]
theorem sc_law_written : FnScope N_law_written P_law_written (defScope s_law_written) := ⟨rfl, rfl, rfl, by decide +kernel, rfl, by decide +kernel, by decide +kernel⟩
abbrev s_law_spoiled : Stmt := top 36
abbrev N_law_spoiled : List Str := ["_law_text", "_law_script", "_law_cell", "_law_number_here", "_law_sign", "_law_at"]
abbrev P_law_spoiled : List Str := ["_law_text", "_law_script"]
theorem sc_law_spoiled : FnScope N_law_spoiled P_law_spoiled (defScope s_law_spoiled) := ⟨rfl, rfl, rfl, by decide +kernel, rfl, by decide +kernel, by decide +kernel⟩
abbrev s_law_odd : Stmt := top 37
abbrev N_law_odd : List Str := ["_law_number_here", "_law_some"]
abbrev P_law_odd : List Str := ["_law_number_here"]
theorem sc_law_odd : FnScope N_law_odd P_law_odd (defScope s_law_odd) := ⟨rfl, rfl, rfl, by decide +kernel, rfl, by decide +kernel, by decide +kernel⟩
abbrev s_law_number : Stmt := top 38
abbrev N_law_number : List Str := ["_law_word"]
abbrev P_law_number : List Str := ["_law_word"]
theorem sc_law_number : FnScope N_law_number P_law_number (defScope s_law_number) := ⟨rfl, rfl, rfl, by decide +kernel, rfl, by decide +kernel, by decide +kernel⟩
abbrev s_law_fraction : Stmt := top 39
abbrev N_law_fraction : List Str := ["_law_word", "_law_top", "_law_slash", "_law_bottom", "_law_found"]
abbrev P_law_fraction : List Str := ["_law_word"]
theorem sc_law_fraction : FnScope N_law_fraction P_law_fraction (defScope s_law_fraction) := ⟨rfl, rfl, rfl, by decide +kernel, rfl, by decide +kernel, by decide +kernel⟩
abbrev s_law_due : Stmt := top 40
abbrev N_law_due : List Str := ["_law_text", "_law_cells", "_law_bottom", "_law_line", "_law_top", "_law_own"]
abbrev P_law_due : List Str := ["_law_text"]
theorem sc_law_due : FnScope N_law_due P_law_due (defScope s_law_due) := ⟨rfl, rfl, rfl, by decide +kernel, rfl, by decide +kernel, by decide +kernel⟩
abbrev s_law_alone : Stmt := top 41
abbrev N_law_alone : List Str := ["_law_error"]
abbrev P_law_alone : List Str := ["_law_error"]
theorem sc_law_alone : FnScope N_law_alone P_law_alone (defScope s_law_alone) := ⟨rfl, rfl, rfl, by decide +kernel, rfl, by decide +kernel, by decide +kernel⟩
abbrev s_law_asked : Stmt := top 42
abbrev N_law_asked : List Str := ["_law_text", "_law_due_here", "_law_found", "_law_seen", "_law_error"]
abbrev P_law_asked : List Str := ["_law_text"]
theorem sc_law_asked : FnScope N_law_asked P_law_asked (defScope s_law_asked) := ⟨rfl, rfl, rfl, by decide +kernel, rfl, by decide +kernel, by decide +kernel⟩
abbrev s_law : Stmt := top 43
abbrev N_law : List Str := ["_law_script", "_law_text"]
abbrev P_law : List Str := ["_law_script"]
theorem sc_law : FnScope N_law P_law (defScope s_law) := ⟨rfl, rfl, rfl, by decide +kernel, rfl, by decide +kernel, by decide +kernel⟩
structure Txt (K : PySem.W.Frag) (mg : Str → Option Value) : Prop where
  len_ : mg "len" = none
  isinstance_ : mg "isinstance" = none
  int_ : mg "int" = none
  bool_ : mg "bool" = none
  list_ : mg "list" = none
  range_ : mg "range" = none
  all_ : mg "all" = none
  tuple_ : mg "tuple" = none
  str_ : mg "str" = none
  abs_ : mg "abs" = none
  ValueError_ : mg "ValueError" = none
  FIGURES_ : ∃ t, mg "FIGURES" = some (Value.str "0123456789" t)
  MOST_ : ∃ t, mg "MOST" = some (Value.int 8 t)
  MOST_FIGURES_ : ∃ t, mg "MOST_FIGURES" = some (Value.int 30 t)
structure Fns (K : PySem.W.Frag) (mg : Str → Option Value) : Prop where
  h_greatest_divisor : ∃ f fd, FnAt K mg "greatest_divisor" s_greatest_divisor P_greatest_divisor f fd
  h_read_table : ∃ f fd, FnAt K mg "read_table" s_read_table P_read_table f fd
  h_is_shaped : ∃ f fd, FnAt K mg "is_shaped" s_is_shaped P_is_shaped f fd
  h_is_written : ∃ f fd, FnAt K mg "is_written" s_is_written P_is_written f fd
  h_is_fraction : ∃ f fd, FnAt K mg "is_fraction" s_is_fraction P_is_fraction f fd
  h_without_sign : ∃ f fd, FnAt K mg "without_sign" s_without_sign P_without_sign f fd
  h_is_figures : ∃ f fd, FnAt K mg "is_figures" s_is_figures P_is_figures f fd
  h_is_lowest : ∃ f fd, FnAt K mg "is_lowest" s_is_lowest P_is_lowest f fd
  h_top_of : ∃ f fd, FnAt K mg "top_of" s_top_of P_top_of f fd
  h_bottom_of : ∃ f fd, FnAt K mg "bottom_of" s_bottom_of P_bottom_of f fd
  h_common_bottom : ∃ f fd, FnAt K mg "common_bottom" s_common_bottom P_common_bottom f fd
  h_raised_tops : ∃ f fd, FnAt K mg "raised_tops" s_raised_tops P_raised_tops f fd
  h_law_mixed : ∃ f fd, FnAt K mg "_law_mixed" s_law_mixed P_law_mixed f fd
  h_law_shared : ∃ f fd, FnAt K mg "_law_shared" s_law_shared P_law_shared f fd
  h_law_written : ∃ f fd, FnAt K mg "_law_written" s_law_written P_law_written f fd
  h_law_spoiled : ∃ f fd, FnAt K mg "_law_spoiled" s_law_spoiled P_law_spoiled f fd
  h_law_odd : ∃ f fd, FnAt K mg "_law_odd" s_law_odd P_law_odd f fd
  h_law_number : ∃ f fd, FnAt K mg "_law_number" s_law_number P_law_number f fd
  h_law_fraction : ∃ f fd, FnAt K mg "_law_fraction" s_law_fraction P_law_fraction f fd
  h_law_due : ∃ f fd, FnAt K mg "_law_due" s_law_due P_law_due f fd
  h_law_alone : ∃ f fd, FnAt K mg "_law_alone" s_law_alone P_law_alone f fd
  h_law_asked : ∃ f fd, FnAt K mg "_law_asked" s_law_asked P_law_asked f fd
  h_law : ∃ f fd, FnAt K mg "law" s_law P_law f fd
structure Cs where
  (MixError NoTable NoBottom NotAlike NoStep NoMix NotEven NoSwap NoBounds NoPlace NoSums TooGreat NoNumber NoText : Addr)
structure Exs (K : PySem.W.Frag) (mg : Str → Option Value) (base : Heap) (c : Cs) : Prop where
  m_MixError : mg "MixError" = some (.ref c.MixError)
  m_NoTable : mg "NoTable" = some (.ref c.NoTable)
  m_NoBottom : mg "NoBottom" = some (.ref c.NoBottom)
  m_NotAlike : mg "NotAlike" = some (.ref c.NotAlike)
  m_NoStep : mg "NoStep" = some (.ref c.NoStep)
  m_NoMix : mg "NoMix" = some (.ref c.NoMix)
  m_NotEven : mg "NotEven" = some (.ref c.NotEven)
  m_NoSwap : mg "NoSwap" = some (.ref c.NoSwap)
  m_NoBounds : mg "NoBounds" = some (.ref c.NoBounds)
  m_NoPlace : mg "NoPlace" = some (.ref c.NoPlace)
  m_NoSums : mg "NoSums" = some (.ref c.NoSums)
  m_TooGreat : mg "TooGreat" = some (.ref c.TooGreat)
  m_NoNumber : mg "NoNumber" = some (.ref c.NoNumber)
  m_NoText : mg "NoText" = some (.ref c.NoText)
  o_MixError : ExcObj base c.MixError []
  o_NoText : ExcObj base c.NoText [c.MixError]
  k_NoText : PySem.W.ExcK K c.NoText
  t1 : PySem.W.kitAny K (.ref c.NoText) ([c.NoNumber, c.NoTable, c.NotAlike, c.NoStep, c.NoMix, c.NotEven].map Value.ref) = some false
  t2 : PySem.W.kitAny K (.ref c.NoText) ([c.NoSwap, c.NoBounds, c.NoPlace, c.NoSums, c.NoBottom, c.TooGreat].map Value.ref) = some false
  v_NoText : PySem.W.kitOne K (.ref c.NoText) (.type "ValueError") = some true
section
variable {P : Program} {w : World} {K : PySem.W.Frag} {mg : Str → Option Value} {base : Heap}
theorem size1000 : (1000 : Nat) ≤ sizeLine := by decide
def S_greatest_divisor : DSp := fun ds P => ∃ a b : Nat, ds = [.int a, .int b] ∧ P (.int (Nat.gcd a b : Nat))
theorem mono_greatest_divisor : DMono S_greatest_divisor := by
  intro xs P P' k h
  unfold S_greatest_divisor at h ⊢
  grind
theorem len_greatest_divisor : ∀ ds P, S_greatest_divisor ds P → ds.length = 2 := by
  intro ds P h
  obtain ⟨_, _, e, _⟩ := h
  rw [e]; rfl
theorem ok_greatest_divisor {f : Addr} {fd : FuncData} (F : FnAt K mg "greatest_divisor" s_greatest_divisor P_greatest_divisor f fd) (A_ : Fns K mg) (T : Txt K mg) {c : Cs} (xs : Exs K mg base c) : FnOk P w K mg base CX0 1 f fd P_greatest_divisor (spP K S_greatest_divisor) := by
  refine F.fn.ok sc_greatest_divisor (fun vs H Q E h => spP_len len_greatest_divisor h) (fun cdv A outer s H vs Q E hr h => ?_)
  refine ⟨_, (pss_cons (ps_while PassesOwn.never (pt_cmpR op_ne (pv 1) pe_int (nomark _)) (pss_cons (ps_set (i := 2) sc_greatest_divisor.nd rfl (by first | exact Or.inl rfl | exact Or.inr rfl) (pe_op op_mod (pv 0) (pv 1)))
      (pss_cons (ps_set (i := 0) sc_greatest_divisor.nd rfl (by first | exact Or.inl rfl | exact Or.inr rfl) (pv 1))
      (pss_one (ps_set (i := 1) sc_greatest_divisor.nd rfl (by first | exact Or.inl rfl | exact Or.inr rfl) (pv 2))))))
      (pss_one (ps_ret (pv 0)))), fn_val (Γn := []) (N := N_greatest_divisor) (st_seq (st_while (tr_test (EM.er (em_op o_ne (ES.er (es_var 1)) (EM.er em_int)))) (st_seq (ST.post (Γn := []) (st_setS 2 (EM.es (em_op o_intC (ES.er (es_var 0)) (ES.er (es_var 1))))))
      (st_seq (ST.post (Γn := []) (st_setS 0 (es_var 1)))
      (ST.post (Γn := []) (st_setS 1 (es_var 2))))))
      (st_ret (M := []) (ER.scal (ES.er (es_var 0))))) (fun ds P hS => ?_) h⟩
  obtain ⟨a, b, rfl, hP⟩ := hS
  rw [show startD N_greatest_divisor [.int a, .int b] = [some (.int a), some (.int b), none] from rfl]
  walk_at "go"
  refine ⟨fun m δ => ∃ (x y : Nat) (o : Option D), δ = [some (.int x), some (.int y), o] ∧ Nat.gcd x y = Nat.gcd a b ∧ m = y, ⟨b, a, b, none, rfl, rfl, rfl⟩, ?_⟩
  rintro m δ ⟨x, y, o, rfl, hg, rfl⟩
  walk_at "go"
  by_cases h0 : m = 0
  · subst h0
    rw [if_neg (by simp)]
    rw [Nat.gcd_zero_right] at hg
    rw [hg]
    exact hP
  · rw [if_pos (by omega)]
    refine ⟨by omega, x % m, Nat.mod_lt _ (by omega), m, x % m, _, by rw [Int.natCast_emod], ?_, rfl⟩
    rw [← hg, Nat.gcd_comm x m, Nat.gcd_rec m x, Nat.gcd_comm]
def Low (l : List Nat) : Prop := (∀ c ∈ l, c < 128) ∧ l.length ≤ 900
def S_is_figures : DSp := fun ds P => ∃ l : List Nat, ds = [.str (mkS l)] ∧ Low l ∧ P (.bl (figB l))
theorem fig_in {c : Nat} : decide (c ∈ [48, 49, 50, 51, 52, 53, 54, 55, 56, 57]) = decide (48 ≤ c ∧ c ≤ 57) := by
  rw [Bool.eq_iff_iff, decide_eq_true_eq, decide_eq_true_eq]
  simp
  omega
theorem mono_is_figures : DMono S_is_figures := by
  intro xs P P' k h
  unfold S_is_figures at h ⊢
  grind
theorem len_is_figures : ∀ ds P, S_is_figures ds P → ds.length = 1 := by
  intro ds P h
  obtain ⟨_, e, _⟩ := h
  rw [e]; rfl
theorem ok_is_figures {f : Addr} {fd : FuncData} (F : FnAt K mg "is_figures" s_is_figures P_is_figures f fd) (A_ : Fns K mg) (T : Txt K mg) {c : Cs} (xs : Exs K mg base c) : FnOk P w K mg base CX0 1 f fd P_is_figures (spP K S_is_figures) := by
  refine F.fn.ok sc_is_figures (fun vs H Q E h => spP_len len_is_figures h) (fun cdv A outer s H vs Q E hr h => ?_)
  refine ⟨_, (pss_cons (ps_if (PW.pt (pw_or (pt_not (pt_chain op_le op_le pe_int (pe_callB call_len_str (by rfl) T.len_ PySem.boot_len (pa_cons (pv 0) pa_nil)) (pe_glob (v := .int 30) rfl T.MOST_FIGURES_.choose_spec ⟨_, rfl⟩))) (pw_or1 (pt_not (pt_val (pe_callB (call_allL (K := K) rfl rfl) (by rfl) T.all_ boot_all (pa_cons (pe_comp0 (CompScope.of (sc0 := (defScope s_is_figures)) (tn := ["sign"]) (cap := []) (idx := []) (by decide +kernel) rfl rfl) (pi_str (pv 0)) (GSet.name (by decide)) (fun _ _ _ _ _ => pg_name (i := 0) (nodupB_iff (l := ["sign"]) (by decide +kernel)) rfl (by first | exact Or.inl rfl | exact Or.inr rfl) (by first | exact .inl rfl | exact .inr rfl)) (fun _ _ _ _ _ => (pe_cmpR op_in_str (pv 0) (pe_glob (v := .str "0123456789") rfl T.FIGURES_.choose_spec ⟨_, rfl⟩) (by with_unfolding_all rfl)))) pa_nil))))))) (pss_one (ps_ret pe_bl)) pss_nil)
      (pss_one (ps_ret (pe_or (pe_cmpR op_eq (pv 0) pe_str (nomark _)) (pe_one (pe_cmpR op_ne (pe_item_str (pv 0) pe_int (fun _ _ => rfl)) pe_str (nomark _))))))), fn_val (Γn := []) (N := N_is_figures) (st_seq (st_if (tr_or (tr_not (tr_test (EM.er (em_chain o_bl o_bl (EM.er em_int) (EM.er (em_cb c_lenS (ar_cons (ES.er (es_var 0)) ar_nil))) (EM.er em_int))))) (tr_not (tr_b (EM.er (em_cb c_allL (ar_cons (EM.er (em_comp0 (it_str (ES.er (es_var 0))) (gt_name 0) (em_op o_inS (ES.er (es_var 0)) (EM.er em_str)))) ar_nil)))))) (st_ret (M := []) em_bl) st_next)
      (st_ret (M := []) (em_orV (EM.er (em_op o_eq (ES.er (es_var 0)) (EM.er em_str))) (em_op o_ne (EM.er (em_op o_itemS (ES.er (es_var 0)) (EM.er em_int))) (EM.er em_str))))) (fun ds P hS => ?_) h⟩
  obtain ⟨l, rfl, ⟨hlo, hl⟩, hP⟩ := hS
  rw [show startD N_is_figures [.str (mkS l)] = [some (.str (mkS l))] from rfl]
  have s1 := size1000
  walk_at "go"
  refine ⟨by rw [mkS_len]; omega, ?_⟩
  rw [mkS_len]
  unfold figB at hP
  by_cases h1 : 1 ≤ l.length ∧ l.length ≤ 30
  · rw [decide_eq_true h1, Bool.true_and] at hP
    rw [if_pos (by omega), if_neg (by omega)]
    refine comp_all (as := l) (f := fun c => L3.D.str (mkS [c])) (g := fun c => .bl (decide (48 ≤ c ∧ c ≤ 57))) (fun R h => ?_) (by omega) (fun c hc R h => ?_) ?_
    · walk_at "go"
      exact ⟨low_all hlo, h⟩
    · walk_at "gb"
      rw [in_text, fig_in]
      exact h
    rw [show l.map (fun c => L3.D.bl (decide (48 ≤ c ∧ c ≤ 57))) = (l.map fun c => decide (48 ≤ c ∧ c ≤ 57)).map L3.D.bl by rw [List.map_map]; rfl]
    refine vAll_bools.mpr ?_
    rw [show ((l.map fun c => decide (48 ≤ c ∧ c ≤ 57)).all id) = l.all (fun c => decide (48 ≤ c ∧ c ≤ 57)) by rw [List.all_map]; rfl]
    cases ha : l.all (fun c => decide (48 ≤ c ∧ c ≤ 57))
    · rw [ha, Bool.false_and] at hP
      walk_at "go"
      exact hP
    · rw [ha, Bool.true_and] at hP
      walk_at "go"
      by_cases h0 : l = [48]
      · subst h0
        rw [if_pos rfl]
        exact hP
      · rw [if_neg (fun z => h0 (mkS_inj z))]
        obtain ⟨c, r, rfl⟩ : ∃ c r, l = c :: r := by
          cases l with
          | nil => exact absurd h1.1 (by decide)
          | cons c r => exact ⟨c, r, rfl⟩
        refine ⟨c, ⟨by have := h1.1; omega, rfl⟩, ?_⟩
        have e : (!decide (({ cps := #[c] } : Str) = mkS [48])) = ((c :: r) == [48] || (c :: r).head? != some 48) := by
          have e1 : ((c :: r) == [48]) = false := by rw [Bool.eq_false_iff]; intro z; exact h0 (beq_iff_eq.mp z)
          rw [e1, Bool.false_or]
          by_cases hc : c = 48
          · subst hc; rfl
          · have nz : ¬ (({ cps := #[c] } : Str) = mkS [48]) := fun z => hc (List.cons.inj (mkS_inj (show mkS [c] = mkS [48] from z))).1
            rw [decide_eq_false nz]
            have : ((c :: r).head? != some 48) = true := by simp; exact hc
            rw [this]; rfl
        rw [e]
        exact hP
  · rw [decide_eq_false h1, Bool.false_and, Bool.false_and] at hP
    by_cases h2 : 1 ≤ l.length
    · rw [if_pos (by omega), if_pos (by omega)]
      exact hP
    · rw [if_neg (by omega)]
      exact hP
def S_is_lowest : DSp := fun ds P => ∃ a b : Nat, ds = [.int a, .int b] ∧ P (.bl (decide (2 ≤ b) && decide (Nat.gcd a b = 1)))
theorem mono_is_lowest : DMono S_is_lowest := by
  intro xs P P' k h
  unfold S_is_lowest at h ⊢
  grind
theorem len_is_lowest : ∀ ds P, S_is_lowest ds P → ds.length = 2 := by
  intro ds P h
  obtain ⟨_, _, e, _⟩ := h
  rw [e]; rfl
theorem ok_is_lowest {f : Addr} {fd : FuncData} (F : FnAt K mg "is_lowest" s_is_lowest P_is_lowest f fd) (A_ : Fns K mg) (T : Txt K mg) {c : Cs} (xs : Exs K mg base c) : FnOk P w K mg base CX0 2 f fd P_is_lowest (spP K S_is_lowest) := by
  obtain ⟨f0, d0, E_greatest_divisor⟩ := A_.h_greatest_divisor
  have G_greatest_divisor : FnOk P w K mg base CX0 1 f0 d0 P_greatest_divisor (spP K S_greatest_divisor) := ok_greatest_divisor E_greatest_divisor A_ T xs
  refine F.fn.ok sc_is_lowest (fun vs H Q E h => spP_len len_is_lowest h) (fun cdv A outer s H vs Q E hr h => ?_)
  refine ⟨_, (pss_one (ps_ret (pe_and (pe_cmpR op_ge (pv 1) pe_int (nomark _)) (pe_one (pe_cmpR op_eq (pe_call G_greatest_divisor (hr.mono (by decide)) rfl E_greatest_divisor.mg E_greatest_divisor.fn.kp E_greatest_divisor.bd .nil pass0 (pa_cons (pv 0) (pa_cons (pv 1) pa_nil))) pe_int (nomark _)))))), fn_val (Γn := []) (N := N_is_lowest) (st_ret (M := []) (em_andV (EM.er (em_op o_bl (ES.er (es_var 1)) (EM.er em_int))) (em_op o_eq (EM.er (em_call (S := S_greatest_divisor) mono_greatest_divisor (ar_cons (ES.er (es_var 0)) (ar_cons (ES.er (es_var 1)) ar_nil)))) (EM.er em_int)))) (fun ds P hS => ?_) h⟩
  obtain ⟨a, b, rfl, hP⟩ := hS
  rw [show startD N_is_lowest [.int a, .int b] = [some (.int a), some (.int b)] from rfl]
  walk_at "go"
  by_cases h : 2 ≤ b
  · rw [decide_eq_true h, Bool.true_and] at hP
    rw [if_pos (by omega)]
    refine ⟨a, b, rfl, ?_⟩
    walk_at "go"
    rw [show decide (((Nat.gcd a b : Nat) : Int) = 1) = decide (Nat.gcd a b = 1) from by rw [Bool.eq_iff_iff, decide_eq_true_eq, decide_eq_true_eq]; omega]
    exact hP
  · rw [decide_eq_false h, Bool.false_and] at hP
    rw [if_neg (by omega)]
    exact hP
def unS (l : List Nat) : List Nat := if l.head? = some 45 then l.tail else l
def S_without_sign : DSp := fun ds P => ∃ l : List Nat, ds = [.str (mkS l)] ∧ Low l ∧ P (.str (mkS (unS l)))
theorem mono_without_sign : DMono S_without_sign := by
  intro xs P P' k h
  unfold S_without_sign at h ⊢
  grind
theorem len_without_sign : ∀ ds P, S_without_sign ds P → ds.length = 1 := by
  intro ds P h
  obtain ⟨_, e, _⟩ := h
  rw [e]; rfl
theorem ok_without_sign {f : Addr} {fd : FuncData} (F : FnAt K mg "without_sign" s_without_sign P_without_sign f fd) (A_ : Fns K mg) (T : Txt K mg) {c : Cs} (xs : Exs K mg base c) : FnOk P w K mg base CX0 1 f fd P_without_sign (spP K S_without_sign) := by
  refine F.fn.ok sc_without_sign (fun vs H Q E h => spP_len len_without_sign h) (fun cdv A outer s H vs Q E hr h => ?_)
  refine ⟨_, (pss_one (ps_ret (pe_ifExp (pt_val (pe_bm PySem.F.plainAttrs_str PySem.F.slot_str_startswith PySem.F.type_str_startswith mt_starts (pv 0) (pa_cons pe_str pa_nil))) (pe_slice sl_str (pv 0) (po_some pe_int) po_none) (pv 0)))), fn_val (Γn := []) (N := N_without_sign) (st_ret (M := []) (em_if (tr_b (EM.er (em_ms m_starts (ES.er (es_var 0)) (ar_cons (EM.er em_str) ar_nil)))) (em_slS (ES.er (es_var 0)) (or_some (EM.er em_int)) or_none) (ER.scal (ES.er (es_var 0))))) (fun ds P hS => ?_) h⟩
  obtain ⟨l, rfl, ⟨hlo, hl⟩, hP⟩ := hS
  rw [show startD N_without_sign [.str (mkS l)] = [some (.str (mkS l))] from rfl]
  have s1 := size1000
  unfold unS at hP
  walk_at "go"
  rw [starts_one]
  by_cases h : l.head? = some 45
  · rw [if_pos h] at hP
    rw [decide_eq_true h, if_pos rfl]
    obtain ⟨r, rfl⟩ : ∃ r, l = 45 :: r := by
      cases l with
      | nil => cases h
      | cons c r => cases h; exact ⟨r, rfl⟩
    refine ⟨1, ⟨rfl, by rw [mkS_len]; omega⟩, ?_⟩
    rw [slice_one]
    exact hP
  · rw [if_neg h] at hP
    rw [decide_eq_false h]
    walk_at "go"
    exact hP
def vl (p : List Nat) : Nat := NumText.digitsVal p
def fracB (l : List Nat) : Bool := match splitL 47 (unS l) with
  | [p] => figB p && (if p = [48] then decide (l = [48]) else true)
  | [p, q] => figB p && figB q && (if p = [48] then decide (l = [48]) else decide (2 ≤ vl q) && decide (Nat.gcd (vl p) (vl q) = 1))
  | _ => false
theorem low_un {l : List Nat} (h : Low l) : Low (unS l) := by
  unfold unS
  split
  · refine ⟨fun c hc => h.1 c (List.mem_of_mem_tail hc), ?_⟩
    have := h.2
    rw [List.length_tail]
    omega
  · exact h
theorem low_part {l p : List Nat} {c : Nat} (h : Low l) (hp : p ∈ splitL c l) : Low p := by
  refine ⟨fun x hx => h.1 x (splitL_mem p hp x hx), ?_⟩
  have := (joinL_part (s := [c]) hp).2
  rw [joinL_splitL] at this
  have := h.2
  omega
theorem read_fig {p : List Nat} (h : figB p = true) : intText? (mkS p) = some ((vl p : Nat) : Int) ∧ (mkS p).length ≤ 640 := by
  obtain ⟨n, rfl, hn⟩ := fig_iff.mp h
  have := read_int (i := (n : Int)) (by omega)
  rw [sI_nat] at this
  have l30 := dg_len (k := 29) hn
  exact ⟨by rw [this]; unfold vl; rw [dg_val], by rw [mkS_len]; omega⟩
theorem eq48 {l : List Nat} : decide (mkS l = mkS [48]) = decide (l = [48]) := by
  rw [Bool.eq_iff_iff, decide_eq_true_eq, decide_eq_true_eq]
  exact ⟨mkS_inj, congrArg mkS⟩
def S_is_fraction : DSp := fun ds P => ∃ l : List Nat, ds = [.str (mkS l)] ∧ Low l ∧ P (.bl (fracB l))
theorem mono_is_fraction : DMono S_is_fraction := by
  intro xs P P' k h
  unfold S_is_fraction at h ⊢
  grind
theorem len_is_fraction : ∀ ds P, S_is_fraction ds P → ds.length = 1 := by
  intro ds P h
  obtain ⟨_, e, _⟩ := h
  rw [e]; rfl
theorem ok_is_fraction {f : Addr} {fd : FuncData} (F : FnAt K mg "is_fraction" s_is_fraction P_is_fraction f fd) (A_ : Fns K mg) (T : Txt K mg) {c : Cs} (xs : Exs K mg base c) : FnOk P w K mg base CX0 3 f fd P_is_fraction (spP K S_is_fraction) := by
  obtain ⟨f0, d0, E_is_lowest⟩ := A_.h_is_lowest
  have G_is_lowest : FnOk P w K mg base CX0 2 f0 d0 P_is_lowest (spP K S_is_lowest) := ok_is_lowest E_is_lowest A_ T xs
  obtain ⟨f1, d1, E_without_sign⟩ := A_.h_without_sign
  have G_without_sign : FnOk P w K mg base CX0 1 f1 d1 P_without_sign (spP K S_without_sign) := ok_without_sign E_without_sign A_ T xs
  obtain ⟨f2, d2, E_is_figures⟩ := A_.h_is_figures
  have G_is_figures : FnOk P w K mg base CX0 1 f2 d2 P_is_figures (spP K S_is_figures) := ok_is_figures E_is_figures A_ T xs
  refine F.fn.ok sc_is_fraction (fun vs H Q E h => spP_len len_is_fraction h) (fun cdv A outer s H vs Q E hr h => ?_)
  refine ⟨_, (pss_cons (ps_set (i := 1) sc_is_fraction.nd rfl (by first | exact Or.inl rfl | exact Or.inr rfl) (pe_bm PySem.F.plainAttrs_str PySem.F.slot_str_split PySem.F.type_str_split mt_split (pe_call G_without_sign (hr.mono (by decide)) rfl E_without_sign.mg E_without_sign.fn.kp E_without_sign.bd .nil pass0 (pa_cons (pv 0) pa_nil)) (pa_cons pe_str pa_nil)))
      (pss_cons (ps_if (PW.pt (pw_or (pt_cmpR op_gt (pe_callB (call_lenK (K := K) rfl) (by rfl) T.len_ PySem.boot_len (pa_cons (pv 1) pa_nil)) pe_int (nomark _)) (pw_or1 (pt_not (pt_val (pe_callB (call_allL (K := K) rfl rfl) (by rfl) T.all_ boot_all (pa_cons (pe_comp0 (CompScope.of (sc0 := (defScope s_is_fraction)) (tn := ["part"]) (cap := []) (idx := []) (by decide +kernel) rfl rfl) (pi_listK (K := K) rfl (pv 1)) (GSet.name (by decide)) (fun _ _ _ _ _ => pg_name (i := 0) (nodupB_iff (l := ["part"]) (by decide +kernel)) rfl (by first | exact Or.inl rfl | exact Or.inr rfl) (by first | exact .inl rfl | exact .inr rfl)) (fun _ _ _ _ _ => (pe_call G_is_figures (hr.mono (by decide)) rfl E_is_figures.mg E_is_figures.fn.kp E_is_figures.bd .nil pass0 (pa_cons (pv 0) pa_nil)))) pa_nil))))))) (pss_one (ps_ret pe_bl)) pss_nil)
      (pss_cons (ps_if (pt_cmpR op_eq (pe_ix (ix_listK (K := K) rfl) (pv 1) pe_int (fun _ _ => rfl)) pe_str (nomark _)) (pss_one (ps_ret (pe_cmpR op_eq (pv 0) pe_str (nomark _)))) pss_nil)
      (pss_one (ps_ret (pe_or (pe_cmpR op_eq (pe_callB (call_lenK (K := K) rfl) (by rfl) T.len_ PySem.boot_len (pa_cons (pv 1) pa_nil)) pe_int (nomark _)) (pe_one (pe_call G_is_lowest (hr.mono (by decide)) rfl E_is_lowest.mg E_is_lowest.fn.kp E_is_lowest.bd .nil pass0 (pa_cons (pe_callTy call_int_text (by rfl) T.int_ boot_int (pa_cons (pe_ix (ix_listK (K := K) rfl) (pv 1) pe_int (fun _ _ => rfl)) pa_nil)) (pa_cons (pe_callTy call_int_text (by rfl) T.int_ boot_int (pa_cons (pe_ix (ix_listK (K := K) rfl) (pv 1) pe_int (fun _ _ => rfl)) pa_nil)) pa_nil)))))))))), fn_val (Γn := []) (N := N_is_fraction) (st_seq (ST.post (Γn := []) (st_setS 1 (EM.es (em_ms m_split (EM.er (em_call (S := S_without_sign) mono_without_sign (ar_cons (ES.er (es_var 0)) ar_nil))) (ar_cons (EM.er em_str) ar_nil)))))
      (st_seq (st_if (tr_or (tr_test (EM.er (em_op o_bl (EM.er (em_cb c_len (ar_cons (ES.er (es_var 1)) ar_nil))) (EM.er em_int)))) (tr_not (tr_b (EM.er (em_cb c_allL (ar_cons (EM.er (em_comp0 (it_list (es_var 1)) (gt_name 0) (em_call (S := S_is_figures) mono_is_figures (ar_cons (ES.er (es_var 0)) ar_nil)))) ar_nil)))))) (st_ret (M := []) em_bl) st_next)
      (st_seq (st_if (tr_test (EM.er (em_op o_eq (ES.er (es_ixL (es_var 1) (EM.er em_int))) (EM.er em_str)))) (st_ret (M := []) (em_op o_eq (ES.er (es_var 0)) (EM.er em_str))) st_next)
      (st_ret (M := []) (em_orV (EM.er (em_op o_eq (EM.er (em_cb c_len (ar_cons (ES.er (es_var 1)) ar_nil))) (EM.er em_int))) (em_call (S := S_is_lowest) mono_is_lowest (ar_cons (EM.er (em_cb c_intT (ar_cons (ES.er (es_ixL (es_var 1) (EM.er em_int))) ar_nil))) (ar_cons (EM.er (em_cb c_intT (ar_cons (ES.er (es_ixL (es_var 1) (EM.er em_int))) ar_nil))) ar_nil)))))))) (fun ds P hS => ?_) h⟩
  obtain ⟨l, rfl, hL, hP⟩ := hS
  rw [show startD N_is_fraction [.str (mkS l)] = [some (.str (mkS l)), none] from rfl]
  have s1 := size1000
  have hU := low_un hL
  have hu2 := hU.2
  walk_at "go"
  refine ⟨l, rfl, hL, ?_⟩
  walk_at "go"
  refine ⟨⟨rfl, by rw [mkS_len]; omega⟩, ?_⟩
  rw [split_one (by decide) hU.1]
  unfold fracB at hP
  have hpl : ∀ p ∈ splitL 47 (unS l), Low p := fun p hp => low_part hU hp
  revert hP hpl
  cases e : splitL 47 (unS l) with
  | nil => exact absurd e splitL_ne
  | cons p r =>
    cases r with
    | nil =>
      intro hP hpl
      simp only [List.map_cons, List.map_nil] at hP ⊢
      walk_at "go"
      rw [if_neg (by decide)]
      refine comp_all (as := [p]) (f := fun z => L3.D.str (mkS z)) (g := fun z => .bl (figB z)) (fun R h => h) (Nat.le_of_ble_eq_true rfl) (fun z hz R h => ?_) ?_
      · walk_at "gb"
        exact ⟨z, rfl, hpl z hz, h⟩
      rw [show [p].map (fun z => L3.D.bl (figB z)) = ([p].map figB).map L3.D.bl from rfl]
      refine vAll_bools.mpr ?_
      rw [show (([p].map figB).all id) = figB p by simp]
      cases hf : figB p
      · rw [hf, Bool.false_and] at hP
        walk_at "go"
        exact hP
      · rw [hf, Bool.true_and] at hP
        walk_at "go"
        by_cases h0 : p = [48]
        · rw [if_pos h0] at hP
          rw [if_pos (congrArg mkS h0), eq48]
          exact hP
        · rw [if_neg h0] at hP
          rw [if_neg (fun z => h0 (mkS_inj z)), if_pos (by decide)]
          exact hP
    | cons q t =>
      cases t with
      | nil =>
        intro hP hpl
        simp only [List.map_cons, List.map_nil] at hP ⊢
        walk_at "go"
        rw [if_neg (by decide)]
        refine comp_all (as := [p, q]) (f := fun z => L3.D.str (mkS z)) (g := fun z => .bl (figB z)) (fun R h => h) (Nat.le_of_ble_eq_true rfl) (fun z hz R h => ?_) ?_
        · walk_at "gb"
          exact ⟨z, rfl, hpl z hz, h⟩
        rw [show [p, q].map (fun z => L3.D.bl (figB z)) = ([p, q].map figB).map L3.D.bl from rfl]
        refine vAll_bools.mpr ?_
        rw [show (([p, q].map figB).all id) = (figB p && figB q) by simp]
        cases hf : (figB p && figB q)
        · rw [hf, Bool.false_and] at hP
          walk_at "go"
          exact hP
        · rw [hf, Bool.true_and] at hP
          obtain ⟨f1, f2⟩ := Bool.and_eq_true_iff.mp hf
          walk_at "go"
          by_cases h0 : p = [48]
          · rw [if_pos h0] at hP
            rw [if_pos (congrArg mkS h0), eq48]
            exact hP
          · rw [if_neg h0] at hP
            rw [if_neg (fun z => h0 (mkS_inj z)), if_neg (by decide)]
            exact ⟨_, read_fig f1, _, read_fig f2, _, _, rfl, hP⟩
      | cons q2 t2 =>
        intro hP hpl
        simp only [List.map_cons] at hP ⊢
        walk_at "go"
        rw [if_pos (by omega)]
        exact hP
def wsD (ws : List (List Nat)) : D := .lst (ws.map fun l => .str (mkS l))
def LowW (ws : List (List Nat)) : Prop := ws.length ≤ 900 ∧ ∀ l ∈ ws, Low l
def S_is_written : DSp := fun ds P => ∃ ws : List (List Nat), ds = [wsD ws] ∧ LowW ws ∧ P (.bl (ws.all fracB))
theorem mono_is_written : DMono S_is_written := by
  intro xs P P' k h
  unfold S_is_written at h ⊢
  grind
theorem len_is_written : ∀ ds P, S_is_written ds P → ds.length = 1 := by
  intro ds P h
  obtain ⟨_, e, _⟩ := h
  rw [e]; rfl
theorem ok_is_written {f : Addr} {fd : FuncData} (F : FnAt K mg "is_written" s_is_written P_is_written f fd) (A_ : Fns K mg) (T : Txt K mg) {c : Cs} (xs : Exs K mg base c) : FnOk P w K mg base CX0 4 f fd P_is_written (spP K S_is_written) := by
  obtain ⟨f0, d0, E_is_fraction⟩ := A_.h_is_fraction
  have G_is_fraction : FnOk P w K mg base CX0 3 f0 d0 P_is_fraction (spP K S_is_fraction) := ok_is_fraction E_is_fraction A_ T xs
  refine F.fn.ok sc_is_written (fun vs H Q E h => spP_len len_is_written h) (fun cdv A outer s H vs Q E hr h => ?_)
  refine ⟨_, (pss_one (ps_ret (pe_callB (call_allL (K := K) rfl rfl) (by rfl) T.all_ boot_all (pa_cons (pe_comp0 (CompScope.of (sc0 := (defScope s_is_written)) (tn := ["word"]) (cap := []) (idx := []) (by decide +kernel) rfl rfl) (pi_listK (K := K) rfl (pv 0)) (GSet.name (by decide)) (fun _ _ _ _ _ => pg_name (i := 0) (nodupB_iff (l := ["word"]) (by decide +kernel)) rfl (by first | exact Or.inl rfl | exact Or.inr rfl) (by first | exact .inl rfl | exact .inr rfl)) (fun _ _ _ _ _ => (pe_call G_is_fraction (hr.mono (by decide)) rfl E_is_fraction.mg E_is_fraction.fn.kp E_is_fraction.bd .nil pass0 (pa_cons (pv 0) pa_nil)))) pa_nil)))), fn_val (Γn := []) (N := N_is_written) (st_ret (M := []) (em_cb c_allL (ar_cons (EM.er (em_comp0 (it_list (es_var 0)) (gt_name 0) (em_call (S := S_is_fraction) mono_is_fraction (ar_cons (ES.er (es_var 0)) ar_nil)))) ar_nil))) (fun ds P hS => ?_) h⟩
  obtain ⟨ws, rfl, ⟨hl, hw⟩, hP⟩ := hS
  rw [show startD N_is_written [wsD ws] = [some (wsD ws)] from rfl]
  unfold wsD
  walk_at "go"
  refine comp_all (as := ws) (f := fun l => L3.D.str (mkS l)) (g := fun l => .bl (fracB l)) (fun R h => h) (by omega) (fun l hq R h => ?_) ?_
  · walk_at "gb"
    exact ⟨l, rfl, hw l hq, h⟩
  rw [show ws.map (fun l => L3.D.bl (fracB l)) = (ws.map fracB).map L3.D.bl by rw [List.map_map]; rfl]
  refine vAll_bools.mpr ?_
  rw [show ((ws.map fracB).all id) = ws.all fracB by rw [List.all_map]; rfl]
  exact hP
def lsD (ls : List (List (List Nat))) : D := .lst (ls.map wsD)
theorem ws_eq {ws : List (List Nat)} : wsD ws = .lst (ws.map fun l => .str (mkS l)) := rfl
def shB (ls : List (List (List Nat))) : Bool := decide (ls.length ≤ 8 ∧ (ls.headD []).length ≤ 8) && ls.all fun ws => decide (ws.length = (ls.headD []).length)
def LowL (ls : List (List (List Nat))) : Prop := 1 ≤ ls.length ∧ ls.length ≤ 900 ∧ ∀ ws ∈ ls, LowW ws
def S_is_shaped : DSp := fun ds P => ∃ ls : List (List (List Nat)), ds = [lsD ls] ∧ LowL ls ∧ P (.bl (shB ls))
theorem at_ls {ls : List (List (List Nat))} {P : DK} (h0 : 1 ≤ ls.length) (h : P (wsD (ls.headD []))) : asO (atI (ls.map wsD) 0) P := by
  refine asO_idx (by decide) (by rw [List.length_map]; omega) ?_
  show asO ((ls.map wsD)[0]?) P
  cases ls with
  | nil => exact absurd h0 (by decide)
  | cons a r => exact h
theorem mono_is_shaped : DMono S_is_shaped := by
  intro xs P P' k h
  unfold S_is_shaped at h ⊢
  grind
theorem len_is_shaped : ∀ ds P, S_is_shaped ds P → ds.length = 1 := by
  intro ds P h
  obtain ⟨_, e, _⟩ := h
  rw [e]; rfl
theorem ok_is_shaped {f : Addr} {fd : FuncData} (F : FnAt K mg "is_shaped" s_is_shaped P_is_shaped f fd) (A_ : Fns K mg) (T : Txt K mg) {c : Cs} (xs : Exs K mg base c) : FnOk P w K mg base CX0 1 f fd P_is_shaped (spP K S_is_shaped) := by
  refine F.fn.ok sc_is_shaped (fun vs H Q E h => spP_len len_is_shaped h) (fun cdv A outer s H vs Q E hr h => ?_)
  refine ⟨_, (pss_cons (ps_if (PW.pt (pw_or (pt_cmpR op_gt (pe_callB (call_lenK (K := K) rfl) (by rfl) T.len_ PySem.boot_len (pa_cons (pv 0) pa_nil)) (pe_glob (v := .int 8) rfl T.MOST_.choose_spec ⟨_, rfl⟩) (nomark _)) (pw_or1 (pt_cmpR op_gt (pe_callB (call_lenK (K := K) rfl) (by rfl) T.len_ PySem.boot_len (pa_cons (pe_ix (ix_listK (K := K) rfl) (pv 0) pe_int (fun _ _ => rfl)) pa_nil)) (pe_glob (v := .int 8) rfl T.MOST_.choose_spec ⟨_, rfl⟩) (nomark _))))) (pss_one (ps_ret pe_bl)) pss_nil)
      (pss_one (ps_ret (pe_callB (call_allL (K := K) rfl rfl) (by rfl) T.all_ boot_all (pa_cons (pe_comp0 (CompScope.of (sc0 := (defScope s_is_shaped)) (tn := ["line"]) (cap := ["lines"]) (idx := [0]) (by decide +kernel) rfl rfl) (pi_listK (K := K) rfl (pv 0)) (GSet.name (by decide)) (fun _ _ _ _ _ => pg_name (i := 0) (nodupB_iff (l := ["line", "lines"]) (by decide +kernel)) rfl (by first | exact Or.inl rfl | exact Or.inr rfl) (by first | exact .inl rfl | exact .inr rfl)) (fun _ _ _ _ _ => (pe_cmpR op_eq (pe_callB (call_lenK (K := K) rfl) (by rfl) T.len_ PySem.boot_len (pa_cons (pv 0) pa_nil)) (pe_callB (call_lenK (K := K) rfl) (by rfl) T.len_ PySem.boot_len (pa_cons (pe_ix (ix_listK (K := K) rfl) (pv 1) pe_int (fun _ _ => rfl)) pa_nil)) (nomark _)))) pa_nil))))), fn_val (Γn := []) (N := N_is_shaped) (st_seq (st_if (tr_or (tr_test (EM.er (em_op o_bl (EM.er (em_cb c_len (ar_cons (ES.er (es_var 0)) ar_nil))) (EM.er em_int)))) (tr_test (EM.er (em_op o_bl (EM.er (em_cb c_len (ar_cons (ES.er (es_ixL (es_var 0) (EM.er em_int))) ar_nil))) (EM.er em_int))))) (st_ret (M := []) em_bl) st_next)
      (st_ret (M := []) (em_cb c_allL (ar_cons (EM.er (em_comp0 (it_list (es_var 0)) (gt_name 0) (em_op o_eq (EM.er (em_cb c_len (ar_cons (ES.er (es_var 0)) ar_nil))) (EM.er (em_cb c_len (ar_cons (ES.er (es_ixL (es_var 1) (EM.er em_int))) ar_nil)))))) ar_nil)))) (fun ds P hS => ?_) h⟩
  obtain ⟨ls, rfl, ⟨h1, h9, hw⟩, hP⟩ := hS
  rw [show startD N_is_shaped [lsD ls] = [some (lsD ls)] from rfl]
  unfold lsD
  unfold shB at hP
  generalize hn : (ls.headD []).length = n at hP
  walk_at "go"
  by_cases h8 : ls.length ≤ 8
  · rw [if_neg (by omega)]
    refine at_ls h1 ?_
    rw [ws_eq]
    walk_at "go"
    rw [hn]
    by_cases hn8 : n ≤ 8
    · rw [if_neg (by omega)]
      rw [decide_eq_true ⟨h8, hn8⟩, Bool.true_and] at hP
      refine comp_all (as := ls) (f := wsD) (g := fun ws => .bl (decide (ws.length = n))) (fun R h => h) (by omega) (fun ws hq R h => ?_) ?_
      · rw [ws_eq]
        walk_at "gb"
        refine at_ls h1 ?_
        rw [ws_eq]
        walk_at "gb"
        rw [hn, show decide ((ws.length : Int) = (n : Int)) = decide (ws.length = n) from by rw [Bool.eq_iff_iff, decide_eq_true_eq, decide_eq_true_eq]; omega]
        exact h
      rw [show ls.map (fun ws => L3.D.bl (decide (ws.length = n))) = (ls.map fun ws => decide (ws.length = n)).map L3.D.bl by rw [List.map_map]; rfl]
      refine vAll_bools.mpr ?_
      rw [show ((ls.map fun ws => decide (ws.length = n)).all id) = ls.all (fun ws => decide (ws.length = n)) by rw [List.all_map]; rfl]
      exact hP
    · rw [if_pos (by omega)]
      rw [decide_eq_false (fun z => hn8 z.2), Bool.false_and] at hP
      exact hP
  · rw [if_pos (by omega)]
    rw [decide_eq_false (fun z => h8 z.1), Bool.false_and] at hP
    exact hP
abbrev Cell := Int × Int
def Good (q : Cell) : Prop := q.1.natAbs < 10 ^ 30 ∧ 1 ≤ q.2 ∧ q.2 < 10 ^ 30 ∧ Nat.gcd q.1.natAbs q.2.natAbs = 1
def wordL (q : Cell) : List Nat := if q.2 = 1 then sI q.1 else sI q.1 ++ 47 :: dg q.2.natAbs
def wordS (q : Cell) : Str := mkS (wordL q)
theorem word1 {q : Cell} (h : q.2 = 1) : wordL q = sI q.1 := if_pos h
theorem word2 {q : Cell} (h : ¬ q.2 = 1) : wordL q = sI q.1 ++ 47 :: dg q.2.natAbs := if_neg h
theorem sI_no {i : Int} {c : Nat} (h : c ≠ 45) (h2 : c < 48) : c ∉ sI i := fun z => by have := sI_signs c z; omega
theorem len_word {q : Cell} (h : Good q) : (wordL q).length ≤ 62 := by
  have a := sI_len h.1
  have b := dg_len (k := 29) (n := q.2.natAbs) (by have := h.2.1; have := h.2.2.1; omega)
  unfold wordL
  split
  · omega
  · rw [List.length_append, List.length_cons]; omega
theorem read_nat {n : Nat} (h : n < 10 ^ 30) : intText? (mkS (dg n)) = some (n : Int) := by
  have := read_int (i := (n : Int)) (by omega)
  rw [sI_nat] at this
  exact this
def lineD (qs : List Cell) : D := .lst (qs.map fun q => .str (wordS q))
theorem all_t {α : Type} (as : List α) : ((as.map fun _ => true).all id) = true := by rw [List.all_map, List.all_eq_true]; exact fun _ _ => rfl
theorem line_eq {qs : List Cell} : lineD qs = .lst (qs.map fun q => .str (wordS q)) := rfl
def Shape (w : Nat) (cs : List (List Cell)) : Prop := 1 ≤ cs.length ∧ cs.length ≤ 8 ∧ 1 ≤ w ∧ w ≤ 8 ∧ (∀ qs ∈ cs, qs.length = w) ∧ ∀ qs ∈ cs, ∀ q ∈ qs, Good q
def linesD (cs : List (List Cell)) : D := .lst (cs.map lineD)
def sgn (l : List Nat) (n : Nat) : Int := if l.head? = some 45 then -(n : Int) else n
def qOf (l : List Nat) : Cell := match splitL 47 (unS l) with
  | [p, q] => (sgn l (vl p), (vl q : Nat))
  | p :: _ => (sgn l (vl p), 1)
  | [] => (0, 1)
theorem sgn_abs {l : List Nat} {n : Nat} : (sgn l n).natAbs = n := by unfold sgn; split <;> omega
theorem sI_sgn {l : List Nat} {n : Nat} (h : l.head? = some 45 → n ≠ 0) : sI (sgn l n) = if l.head? = some 45 then 45 :: dg n else dg n := by
  unfold sgn
  split
  · rename_i z
    have := h z
    unfold sI
    rw [if_pos (by omega), Int.natAbs_neg, Int.natAbs_natCast]
  · exact sI_nat
theorem un_back {l r : List Nat} (h : unS l = r) : l = if l.head? = some 45 then 45 :: r else r := by
  subst h
  unfold unS
  split
  · rename_i z
    cases l with
    | nil => cases z
    | cons a t => cases z; rfl
  · rfl
theorem frac_word {l : List Nat} (h : fracB l = true) : Good (qOf l) ∧ l = wordL (qOf l) := by
  have hj := joinL_splitL (c := 47) (l := unS l)
  unfold fracB at h
  unfold qOf
  split at h
  · rename_i p e
    rw [e] at hj ⊢
    have hj : p = unS l := hj
    obtain ⟨h1, h2⟩ := Bool.and_eq_true_iff.mp h
    obtain ⟨n, rfl, hn⟩ := fig_iff.mp h1
    have vn : vl (dg n) = n := dg_val
    show Good (sgn l (vl (dg n)), 1) ∧ l = wordL (sgn l (vl (dg n)), 1)
    rw [vn, word1 rfl]
    refine ⟨⟨by show (sgn l n).natAbs < _; rw [sgn_abs]; exact hn, by show (1 : Int) ≤ 1; decide, by show (1 : Int) < 10 ^ 30; decide, Nat.gcd_one_right _⟩, ?_⟩
    rw [sI_sgn]
    · exact un_back hj.symm
    · intro z0 z
      subst z
      rw [dg_zero, if_pos rfl] at h2
      have := of_decide_eq_true h2
      rw [this] at z0
      cases z0
  · rename_i p q e
    rw [e] at hj ⊢
    have hj : p ++ ([47] ++ q) = unS l := hj
    obtain ⟨h1, h2⟩ := Bool.and_eq_true_iff.mp h
    obtain ⟨h3, h4⟩ := Bool.and_eq_true_iff.mp h1
    obtain ⟨n, rfl, hn⟩ := fig_iff.mp h3
    obtain ⟨m, rfl, hm⟩ := fig_iff.mp h4
    have vn : vl (dg n) = n := dg_val
    have vm : vl (dg m) = m := dg_val
    have n0 : dg n ≠ [48] := fun z => by
      rw [if_pos z] at h2
      have := of_decide_eq_true h2
      subst this
      have k : (splitL 47 (unS [48])).length = 1 := by decide
      rw [e] at k
      simp at k
    rw [if_neg n0, vn, vm] at h2
    obtain ⟨h5, h6⟩ := Bool.and_eq_true_iff.mp h2
    have h5 := of_decide_eq_true h5
    have h6 := of_decide_eq_true h6
    show Good (sgn l (vl (dg n)), ((vl (dg m) : Nat) : Int)) ∧ l = wordL (sgn l (vl (dg n)), ((vl (dg m) : Nat) : Int))
    rw [vn, vm, word2 (by show ¬ ((m : Int) = 1); omega)]
    refine ⟨⟨by show (sgn l n).natAbs < _; rw [sgn_abs]; exact hn, by show (1 : Int) ≤ m; omega, by show (m : Int) < _; omega, ?_⟩, ?_⟩
    · show Nat.gcd (sgn l n).natAbs (m : Int).natAbs = 1
      rw [sgn_abs, Int.natAbs_natCast]
      exact h6
    show l = sI (sgn l n) ++ 47 :: dg (m : Int).natAbs
    rw [Int.natAbs_natCast, sI_sgn]
    · conv => lhs; rw [un_back hj.symm]
      split <;> rfl
    · intro z0 z
      subst z
      exact n0 dg_zero
  · cases h
theorem part_word {q : Cell} : partL (wordS q) (mkS [47]) = [mkS (sI q.1), (if q.2 = 1 then mkS [] else mkS [47]), (if q.2 = 1 then mkS [] else mkS (dg q.2.natAbs))] := by
  unfold wordS wordL
  split
  · exact part_no (sI_no (by decide) (by decide))
  · exact part_at (sI_no (by decide) (by decide))
def S_top_of : DSp := fun ds P => ∃ q : Cell, ds = [.str (wordS q)] ∧ Good q ∧ P (.int q.1)
theorem mono_top_of : DMono S_top_of := by
  intro xs P P' k h
  unfold S_top_of at h ⊢
  grind
theorem len_top_of : ∀ ds P, S_top_of ds P → ds.length = 1 := by
  intro ds P h
  obtain ⟨_, e, _⟩ := h
  rw [e]; rfl
theorem ok_top_of {f : Addr} {fd : FuncData} (F : FnAt K mg "top_of" s_top_of P_top_of f fd) (A_ : Fns K mg) (T : Txt K mg) {c : Cs} (xs : Exs K mg base c) : FnOk P w K mg base CX0 1 f fd P_top_of (spP K S_top_of) := by
  refine F.fn.ok sc_top_of (fun vs H Q E h => spP_len len_top_of h) (fun cdv A outer s H vs Q E hr h => ?_)
  refine ⟨_, (pss_one (ps_ret (pe_callTy call_int_text (by rfl) T.int_ boot_int (pa_cons (pe_ix (ix_tupK (K := K) rfl) (pe_bm PySem.F.plainAttrs_str PySem.F.slot_str_partition PySem.F.type_str_partition mt_partition (pv 0) (pa_cons pe_str pa_nil)) pe_int (fun _ _ => rfl)) pa_nil)))), fn_val (Γn := []) (N := N_top_of) (st_ret (M := []) (em_cb c_intT (ar_cons (EM.er (em_ixT (em_ms m_partition (ES.er (es_var 0)) (ar_cons (EM.er em_str) ar_nil)) (EM.er em_int))) ar_nil))) (fun ds P hS => ?_) h⟩
  obtain ⟨q, rfl, hg, hP⟩ := hS
  rw [show startD N_top_of [.str (wordS q)] = [some (.str (wordS q))] from rfl]
  have hl := len_word hg
  have s1 := size1000
  have hs := sI_len hg.1
  walk_at "go"
  refine ⟨⟨rfl, by show (wordL q).length ≤ _; omega⟩, ?_⟩
  rw [part_word]
  simp only [List.map_cons, List.map_nil]
  walk_at "go"
  exact ⟨q.1, ⟨read_int hg.1, by rw [mkS_len]; omega⟩, hP⟩
def S_bottom_of : DSp := fun ds P => ∃ q : Cell, ds = [.str (wordS q)] ∧ Good q ∧ P (.int q.2)
theorem mono_bottom_of : DMono S_bottom_of := by
  intro xs P P' k h
  unfold S_bottom_of at h ⊢
  grind
theorem len_bottom_of : ∀ ds P, S_bottom_of ds P → ds.length = 1 := by
  intro ds P h
  obtain ⟨_, e, _⟩ := h
  rw [e]; rfl
theorem ok_bottom_of {f : Addr} {fd : FuncData} (F : FnAt K mg "bottom_of" s_bottom_of P_bottom_of f fd) (A_ : Fns K mg) (T : Txt K mg) {c : Cs} (xs : Exs K mg base c) : FnOk P w K mg base CX0 1 f fd P_bottom_of (spP K S_bottom_of) := by
  refine F.fn.ok sc_bottom_of (fun vs H Q E h => spP_len len_bottom_of h) (fun cdv A outer s H vs Q E hr h => ?_)
  refine ⟨_, (pss_cons (ps_set (i := 1) sc_bottom_of.nd rfl (by first | exact Or.inl rfl | exact Or.inr rfl) (pe_ix (ix_tupK (K := K) rfl) (pe_bm PySem.F.plainAttrs_str PySem.F.slot_str_partition PySem.F.type_str_partition mt_partition (pv 0) (pa_cons pe_str pa_nil)) pe_int (fun _ _ => rfl)))
      (pss_one (ps_ret (pe_ifExp (pt_cmpR op_ne (pv 1) pe_str (nomark _)) (pe_callTy call_int_text (by rfl) T.int_ boot_int (pa_cons (pv 1) pa_nil)) pe_int)))), fn_val (Γn := []) (N := N_bottom_of) (st_seq (ST.post (Γn := []) (st_setS 1 (EM.es (em_ixT (em_ms m_partition (ES.er (es_var 0)) (ar_cons (EM.er em_str) ar_nil)) (EM.er em_int)))))
      (st_ret (M := []) (em_if (tr_test (EM.er (em_op o_ne (ES.er (es_var 1)) (EM.er em_str)))) (em_cb c_intT (ar_cons (ES.er (es_var 1)) ar_nil)) em_int))) (fun ds P hS => ?_) h⟩
  obtain ⟨q, rfl, hg, hP⟩ := hS
  rw [show startD N_bottom_of [.str (wordS q)] = [some (.str (wordS q)), none] from rfl]
  have hl := len_word hg
  have s1 := size1000
  have b30 : q.2.natAbs < 10 ^ 30 := by have := hg.2.1; have := hg.2.2.1; omega
  have hb := dg_len (k := 29) b30
  walk_at "go"
  refine ⟨⟨rfl, by show (wordL q).length ≤ _; omega⟩, ?_⟩
  rw [part_word]
  simp only [List.map_cons, List.map_nil]
  walk_at "go"
  by_cases h : q.2 = 1
  · rw [if_pos h]
    walk_at "go"
    rw [h] at hP
    exact hP
  · rw [if_neg h]
    walk_at "go"
    rw [if_pos (fun z => dg_ne (mkS_inj z))]
    refine ⟨q.2, ⟨?_, by rw [mkS_len]; omega⟩, hP⟩
    rw [read_nat b30]
    have := hg.2.1
    congr 1
    omega
def botW (a : Nat) (q : Cell) : Nat := a / Nat.gcd a q.2.natAbs * q.2.natAbs
def botL (a : Nat) (qs : List Cell) : Nat := qs.foldl botW a
def botT (cs : List (List Cell)) : Nat := cs.foldl botL 1
theorem gcd_pos {a : Nat} {q : Cell} (h : Good q) : 1 ≤ Nat.gcd a q.2.natAbs ∧ Nat.gcd a q.2.natAbs < 2 ^ 100 := by
  have hb : 0 < q.2.natAbs := by have := h.2.1; omega
  have h2 : q.2.natAbs < 10 ^ 30 := by have := h.2.1; have := h.2.2.1; omega
  have := Nat.le_of_dvd hb (Nat.gcd_dvd_right a q.2.natAbs)
  exact ⟨Nat.gcd_pos_of_pos_right _ hb, Nat.lt_of_le_of_lt this (Nat.lt_trans h2 (by decide))⟩
theorem botW_lt {a k : Nat} {q : Cell} (h : Good q) (ha : a < 2 ^ k) : botW a q < 2 ^ (k + 100) := by
  have h2 : q.2.natAbs < 2 ^ 100 := by have := h.2.1; have := h.2.2.1; exact Nat.lt_trans (show q.2.natAbs < 10 ^ 30 by omega) (by decide)
  unfold botW
  rw [Nat.pow_add]
  exact Nat.mul_lt_mul'' (Nat.lt_of_le_of_lt (Nat.div_le_self _ _) ha) h2
def S_common_bottom : DSp := fun ds P => ∃ (cs : List (List Cell)) (w : Nat), ds = [linesD cs] ∧ Shape w cs ∧ (botT cs < 2 ^ 6401 → P (.int (botT cs : Nat)))
theorem mono_common_bottom : DMono S_common_bottom := by
  intro xs P P' k h
  obtain ⟨cs, w, e, h1, h⟩ := h
  exact ⟨cs, w, e, h1, fun z => k _ (h z)⟩
theorem len_common_bottom : ∀ ds P, S_common_bottom ds P → ds.length = 1 := by
  intro ds P h
  obtain ⟨_, _, e, _⟩ := h
  rw [e]; rfl
theorem ok_common_bottom {f : Addr} {fd : FuncData} (F : FnAt K mg "common_bottom" s_common_bottom P_common_bottom f fd) (A_ : Fns K mg) (T : Txt K mg) {c : Cs} (xs : Exs K mg base c) : FnOk P w K mg base CX0 2 f fd P_common_bottom (spP K S_common_bottom) := by
  obtain ⟨f0, d0, E_bottom_of⟩ := A_.h_bottom_of
  have G_bottom_of : FnOk P w K mg base CX0 1 f0 d0 P_bottom_of (spP K S_bottom_of) := ok_bottom_of E_bottom_of A_ T xs
  obtain ⟨f1, d1, E_greatest_divisor⟩ := A_.h_greatest_divisor
  have G_greatest_divisor : FnOk P w K mg base CX0 1 f1 d1 P_greatest_divisor (spP K S_greatest_divisor) := ok_greatest_divisor E_greatest_divisor A_ T xs
  refine F.fn.ok sc_common_bottom (fun vs H Q E h => spP_len len_common_bottom h) (fun cdv A outer s H vs Q E hr h => ?_)
  refine ⟨_, (pss_cons (ps_set (i := 1) sc_common_bottom.nd rfl (by first | exact Or.inl rfl | exact Or.inr rfl) pe_int)
      (pss_cons (ps_for PassesOwn.never rfl (pi_listK (K := K) rfl (pv 0)) (pg_name (i := 2) sc_common_bottom.nd rfl (by first | exact Or.inl rfl | exact Or.inr rfl)) (pss_one (ps_for PassesOwn.never rfl (pi_listK (K := K) rfl (pv 2)) (pg_name (i := 3) sc_common_bottom.nd rfl (by first | exact Or.inl rfl | exact Or.inr rfl)) (pss_cons (ps_set (i := 4) sc_common_bottom.nd rfl (by first | exact Or.inl rfl | exact Or.inr rfl) (pe_call G_bottom_of (hr.mono (by decide)) rfl E_bottom_of.mg E_bottom_of.fn.kp E_bottom_of.bd .nil pass0 (pa_cons (pv 3) pa_nil)))
      (pss_one (ps_set (i := 1) sc_common_bottom.nd rfl (by first | exact Or.inl rfl | exact Or.inr rfl) (pe_op op_mulB (pe_op op_fdivB (pv 1) (pe_call G_greatest_divisor (hr.mono (by decide)) rfl E_greatest_divisor.mg E_greatest_divisor.fn.kp E_greatest_divisor.bd .nil pass0 (pa_cons (pv 1) (pa_cons (pv 4) pa_nil)))) (pv 4))))))))
      (pss_one (ps_ret (pv 1))))), fn_val (Γn := [1]) (N := N_common_bottom) (st_seq (ST.post (Γn := [1]) (st_setM (M := []) 1 em_int))
      (st_seq (st_for (it_list (es_var 0)) (gt_name 2) (st_for (it_list (es_var 2)) (gt_name 3) (st_seq (ST.post (Γn := [1]) (st_setS 4 (EM.es (em_call (S := S_bottom_of) mono_bottom_of (ar_cons (ES.er (es_var 3)) ar_nil)))))
      (ST.post (Γn := [1]) (st_setM (M := []) 1 (em_op o_intC (EM.er (em_op o_intC (er_var 1) (EM.er (em_call (S := S_greatest_divisor) mono_greatest_divisor (ar_cons (er_var 1) (ar_cons (ES.er (es_var 4)) ar_nil)))))) (ES.er (es_var 4))))))))
      (st_ret (M := [1]) (em_var 1)))) (fun ds P hS => ?_) h⟩
  obtain ⟨cs, w, rfl, ⟨h1, h8, w1, w8, hr, hg⟩, hP⟩ := hS
  rw [show startD N_common_bottom [linesD cs] = [some (linesD cs), none, none, none, none] from rfl]
  unfold linesD
  walk_at "go"
  refine loop_any (as := cs) (f := lineD) (fun i δ => ∃ (o2 o3 o4 : Option D), δ = [some (.lst (cs.map lineD)), some (.int ((cs.take i).foldl botL 1 : Nat)), o2, o3, o4] ∧ (cs.take i).foldl botL 1 < 2 ^ (800 * i + 1)) ⟨none, none, none, rfl, by show (1 : Nat) < 2 ^ 1; decide⟩ ?_ ?_
  · rintro i qs δ N e ⟨o2, o3, o4, rfl, hb⟩ hN
    obtain ⟨q1, q2⟩ := List.getElem?_eq_some_iff.mp e
    have hm := List.mem_of_getElem? e
    have hw := hr qs hm
    have hgq := hg qs hm
    have et : (cs.take (i + 1)).foldl botL 1 = qs.foldl botW ((cs.take i).foldl botL 1) := by
      rw [List.take_succ_eq_append_getElem q1, List.foldl_append, q2]; rfl
    generalize (cs.take i).foldl botL 1 = a at *
    rw [line_eq]
    walk_at "go"
    refine loop_any (as := qs) (f := fun q => L3.D.str (wordS q)) (fun j δ => ∃ (o3 o4 : Option D), δ = [some (.lst (cs.map lineD)), some (.int ((qs.take j).foldl botW a : Nat)), some (lineD qs), o3, o4] ∧ (qs.take j).foldl botW a < 2 ^ (800 * i + 1 + 100 * j)) ⟨_, _, rfl, hb⟩ ?_ ?_
    · rintro j q δ N' e' ⟨o3, o4, rfl, hb'⟩ hN'
      obtain ⟨p1, p2⟩ := List.getElem?_eq_some_iff.mp e'
      have hq := hgq q (List.mem_of_getElem? e')
      have ej : (qs.take (j + 1)).foldl botW a = botW ((qs.take j).foldl botW a) q := by
        rw [List.take_succ_eq_append_getElem p1, List.foldl_append, p2]; rfl
      generalize (qs.take j).foldl botW a = b at *
      have bw := botW_lt hq hb'
      have gp := gcd_pos (a := b) hq
      have q2p := hq.2.1
      have q2n : (q.2.natAbs : Int) = q.2 := by omega
      have q100 : q.2.natAbs < 2 ^ 100 := Nat.lt_trans (show q.2.natAbs < 10 ^ 30 by have := hq.2.2.1; omega) (by decide)
      walk_at "go"
      refine ⟨q, rfl, hq, ?_⟩
      walk_at "go"
      refine ⟨b, q.2.natAbs, by rw [q2n], ?_⟩
      walk_at "go"
      refine ⟨⟨800 * i + 1 + 100 * j, 100, ?_, q100, by omega⟩, ?_⟩
      · rw [← Int.natCast_ediv, Int.natAbs_natCast]
        exact Nat.lt_of_le_of_lt (Nat.div_le_self _ _) hb'
      · refine hN' _ ⟨some (.str (wordS q)), some (.int q.2), ?_, ?_⟩
        · rw [ej]
          unfold botW
          rw [Int.natCast_mul, Int.natCast_ediv, q2n]
        · rw [ej, show 800 * i + 1 + 100 * (j + 1) = 800 * i + 1 + 100 * j + 100 by omega]; exact bw
    · rintro δ ⟨o3, o4, rfl, hb'⟩
      rw [List.take_of_length_le (Nat.le_refl _)] at hb' ⊢
      refine hN _ ⟨some (lineD qs), o3, o4, by rw [et], ?_⟩
      rw [et]
      exact Nat.lt_of_lt_of_le hb' (Nat.pow_le_pow_right (by decide) (by omega))
  · rintro δ ⟨o2, o3, o4, rfl, hb⟩
    rw [List.take_of_length_le (Nat.le_refl _)] at hb ⊢
    walk_at "go"
    exact hP (Nat.lt_of_lt_of_le hb (Nat.pow_le_pow_right (by decide) (by omega)))
def raiL (B : Nat) (qs : List Cell) : List Int := qs.map fun q => q.1 * ((B : Int) / q.2)
def S_raised_tops : DSp := fun ds P => ∃ (qs : List Cell) (B : Nat), ds = [lineD qs, .int B] ∧ qs.length ≤ 8 ∧ (∀ q ∈ qs, Good q) ∧ B < 2 ^ 6401 ∧ P (dI (raiL B qs))
theorem rai_mul {B : Nat} {q : Cell} (h : Good q) (hB : B < 2 ^ 6401) : CMulB q.1 ((B : Int) / q.2) := by
  refine ⟨100, 6401, Nat.lt_trans h.1 (by decide), ?_, by decide⟩
  exact Nat.lt_of_le_of_lt (Int.natAbs_ediv_le_natAbs _ _) (by rw [Int.natAbs_natCast]; exact hB)
theorem rai_div {B : Nat} {q : Cell} (h : Good q) : CDivB (B : Int) q.2 := ⟨by have := h.2.1; omega, 100, Nat.lt_trans (show q.2.natAbs < 10 ^ 30 by have := h.2.1; have := h.2.2.1; omega) (by decide), by decide⟩
theorem mono_raised_tops : DMono S_raised_tops := by
  intro xs P P' k h
  unfold S_raised_tops at h ⊢
  grind
theorem len_raised_tops : ∀ ds P, S_raised_tops ds P → ds.length = 2 := by
  intro ds P h
  obtain ⟨_, _, e, _⟩ := h
  rw [e]; rfl
theorem ok_raised_tops {f : Addr} {fd : FuncData} (F : FnAt K mg "raised_tops" s_raised_tops P_raised_tops f fd) (A_ : Fns K mg) (T : Txt K mg) {c : Cs} (xs : Exs K mg base c) : FnOk P w K mg base CX0 2 f fd P_raised_tops (spP K S_raised_tops) := by
  obtain ⟨f0, d0, E_top_of⟩ := A_.h_top_of
  have G_top_of : FnOk P w K mg base CX0 1 f0 d0 P_top_of (spP K S_top_of) := ok_top_of E_top_of A_ T xs
  obtain ⟨f1, d1, E_bottom_of⟩ := A_.h_bottom_of
  have G_bottom_of : FnOk P w K mg base CX0 1 f1 d1 P_bottom_of (spP K S_bottom_of) := ok_bottom_of E_bottom_of A_ T xs
  refine F.fn.ok sc_raised_tops (fun vs H Q E h => spP_len len_raised_tops h) (fun cdv A outer s H vs Q E hr h => ?_)
  refine ⟨_, (pss_one (ps_ret (pe_comp0 (CompScope.of (sc0 := (defScope s_raised_tops)) (tn := ["word"]) (cap := ["bottom"]) (idx := [1]) (by decide +kernel) rfl rfl) (pi_listK (K := K) rfl (pv 0)) (GSet.name (by decide)) (fun _ _ _ _ _ => pg_name (i := 0) (nodupB_iff (l := ["word", "bottom"]) (by decide +kernel)) rfl (by first | exact Or.inl rfl | exact Or.inr rfl) (by first | exact .inl rfl | exact .inr rfl)) (fun _ _ _ _ _ => (pe_op op_mulB (pe_call G_top_of (hr.mono (by decide)) rfl E_top_of.mg E_top_of.fn.kp E_top_of.bd .nil pass0 (pa_cons (pv 0) pa_nil)) (pe_op op_fdivB (pv 1) (pe_call G_bottom_of (hr.mono (by decide)) rfl E_bottom_of.mg E_bottom_of.fn.kp E_bottom_of.bd .nil pass0 (pa_cons (pv 0) pa_nil)))))))), fn_val (Γn := []) (N := N_raised_tops) (st_ret (M := []) (em_comp0 (it_list (es_var 0)) (gt_name 0) (em_op o_intC (EM.er (em_call (S := S_top_of) mono_top_of (ar_cons (ES.er (es_var 0)) ar_nil))) (EM.er (em_op o_intC (ES.er (es_var 1)) (EM.er (em_call (S := S_bottom_of) mono_bottom_of (ar_cons (ES.er (es_var 0)) ar_nil)))))))) (fun ds P hS => ?_) h⟩
  obtain ⟨qs, B, rfl, hl, hg, hB, hP⟩ := hS
  rw [show startD N_raised_tops [lineD qs, .int B] = [some (lineD qs), some (.int B)] from rfl]
  rw [line_eq]
  walk_at "go"
  refine comp_all (as := qs) (f := fun q => L3.D.str (wordS q)) (g := fun q => .int (q.1 * ((B : Int) / q.2))) (fun R h => h) (by omega) (fun q hq R h => ?_) ?_
  · walk_at "gb"
    refine ⟨q, rfl, hg q hq, ?_⟩
    walk_at "gb"
    refine ⟨q, rfl, hg q hq, ?_⟩
    walk_at "gb"
    exact ⟨rai_div (hg q hq), rai_mul (hg q hq) hB, h⟩
  · rw [show qs.map (fun q => L3.D.int (q.1 * ((B : Int) / q.2))) = (raiL B qs).map L3.D.int from map_int]
    exact hP
def tabT (cs : List (List Cell)) : List (List Int) := cs.map (raiL (botT cs))
def LowT (l : List Nat) : Prop := (∀ c ∈ l, c < 128) ∧ l.length ≤ 700
def lns (l : List Nat) : List (List (List Nat)) := (Txt.split (mkS l) (mkS [59, 32])).map fun s => splitL 32 s.cps.toList
def okB (l : List Nat) : Bool := shB (lns l) && (lns l).all fun ws => ws.all fracB
def csOf (l : List Nat) : List (List Cell) := (lns l).map fun ws => ws.map qOf
theorem split_pos {l s : List Nat} : 1 ≤ (Txt.split (mkS l) (mkS s)).length := by
  unfold Txt.split
  split
  · simp
  · split
    · simp
    · rw [length_partsBetween]
      omega
theorem low_sp {l s : List Nat} (h : LowT l) {p : Str} (hp : p ∈ Txt.split (mkS l) (mkS s)) : Low p.cps.toList := by
  have := split_part hp
  refine ⟨fun c hc => h.1 c (this.1 c hc), ?_⟩
  have h2 := h.2
  have e : p.cps.toList.length = p.length := rfl
  omega
theorem split_lo {p : Str} (h : Low p.cps.toList) : Txt.split p (mkS [32]) = (splitL 32 p.cps.toList).map mkS := by
  have := split_one (c := 32) (by decide) h.1
  rw [mkS_of] at this
  exact this
theorem low_ws {l : List Nat} (h : Low l) (h2 : l.length ≤ 700) : LowW (splitL 32 l) := by
  refine ⟨?_, fun w hw => low_part h hw⟩
  have := split_many (l := l) (s := [32])
  rw [split_one (by decide) h.1, List.length_map] at this
  omega
theorem low_lns {l : List Nat} (h : LowT l) : LowL (lns l) := by
  have h2 := h.2
  refine ⟨?_, ?_, fun ws hw => ?_⟩
  · unfold lns; rw [List.length_map]; exact split_pos
  · unfold lns
    rw [List.length_map]
    have := split_many (l := l) (s := [59, 32])
    omega
  · obtain ⟨p, hp, rfl⟩ := List.mem_map.mp hw
    refine low_ws (low_sp h hp) ?_
    have := (split_part hp).2
    have e : p.cps.toList.length = p.length := rfl
    omega
theorem lns_ne {l : List Nat} : ∀ ws ∈ lns l, ws ≠ [] := fun ws hw => by
  obtain ⟨p, hp, rfl⟩ := List.mem_map.mp hw
  exact splitL_ne
theorem ws_qs {ws : List (List Nat)} (h : ws.all fracB = true) : wsD ws = lineD (ws.map qOf) := by
  unfold wsD lineD
  rw [List.map_map]
  refine congrArg L3.D.lst (List.map_congr_left fun l hl => ?_)
  have := (frac_word (List.all_eq_true.mp h l hl)).2
  show L3.D.str (mkS l) = L3.D.str (mkS (wordL (qOf l)))
  rw [← this]
theorem ok_shape {l : List Nat} (h : LowT l) (ok : okB l = true) : (∃ w, Shape w (csOf l)) ∧ lsD (lns l) = linesD (csOf l) := by
  obtain ⟨o1, o2⟩ := Bool.and_eq_true_iff.mp ok
  obtain ⟨o3, o4⟩ := Bool.and_eq_true_iff.mp o1
  obtain ⟨o5, o6⟩ := of_decide_eq_true o3
  have L0 := (low_lns h).1
  have hne := lns_ne (l := l)
  rw [List.all_eq_true] at o2 o4
  have hw1 : 1 ≤ ((lns l).headD []).length := by
    cases e : lns l with
    | nil => rw [e] at L0; exact absurd L0 (by decide)
    | cons a r => exact List.length_pos_iff.mpr (hne a (by rw [e]; exact List.mem_cons_self))
  refine ⟨⟨((lns l).headD []).length, ?_, ?_, hw1, o6, fun qs hq => ?_, fun qs hq q hq2 => ?_⟩, ?_⟩
  · unfold csOf; rw [List.length_map]; exact L0
  · unfold csOf; rw [List.length_map]; exact o5
  · obtain ⟨ws, hw, rfl⟩ := List.mem_map.mp hq
    rw [List.length_map]
    exact of_decide_eq_true (o4 ws hw)
  · obtain ⟨ws, hw, rfl⟩ := List.mem_map.mp hq
    obtain ⟨z, hz, rfl⟩ := List.mem_map.mp hq2
    exact (frac_word (List.all_eq_true.mp (o2 ws hw) z hz)).1
  · unfold lsD linesD csOf
    rw [List.map_map]
    exact congrArg L3.D.lst (List.map_congr_left fun ws hw => ws_qs (o2 ws hw))
def S_read_table (c : Cs) : DSX := fun ds P R => (∃ d m, ds = [d] ∧ d.tyn = some m ∧ isB m "str" = false ∧ R c.NoText) ∨ (∃ l, ds = [.str (mkS l)] ∧ LowT l ∧ (okB l = true → P (.tup [dT (tabT (csOf l)), .int (botT (csOf l) : Nat)])) ∧ (okB l = false → R c.NoText))
theorem mono_read_table {c : Cs} : DMonoX (S_read_table c) := by
  intro xs P P' R R' k kr h
  rcases h with ⟨d, m, e, h1, h2, h3⟩ | ⟨l, e, h0, h1, h2⟩
  · exact .inl ⟨d, m, e, h1, h2, kr _ h3⟩
  · exact .inr ⟨l, e, h0, fun z => k _ (h1 z), fun z => kr _ (h2 z)⟩
theorem len_read_table {c : Cs} : ∀ ds P R, S_read_table c ds P R → ds.length = 1 := by
  intro ds P R h
  rcases h with ⟨d, m, e, _⟩ | ⟨l, e, _⟩
  · rw [e]; rfl
  · rw [e]; rfl
theorem ok_read_table {f : Addr} {fd : FuncData} (F : FnAt K mg "read_table" s_read_table P_read_table f fd) (A_ : Fns K mg) (T : Txt K mg) {c : Cs} (xs : Exs K mg base c) : FnOk P w K mg base (CXR P w) 5 f fd P_read_table (spX K (S_read_table c)) := by
  obtain ⟨f0, d0, E_common_bottom⟩ := A_.h_common_bottom
  have G_common_bottom : FnOk P w K mg base CX0 2 f0 d0 P_common_bottom (spP K S_common_bottom) := ok_common_bottom E_common_bottom A_ T xs
  obtain ⟨f1, d1, E_is_shaped⟩ := A_.h_is_shaped
  have G_is_shaped : FnOk P w K mg base CX0 1 f1 d1 P_is_shaped (spP K S_is_shaped) := ok_is_shaped E_is_shaped A_ T xs
  obtain ⟨f2, d2, E_raised_tops⟩ := A_.h_raised_tops
  have G_raised_tops : FnOk P w K mg base CX0 2 f2 d2 P_raised_tops (spP K S_raised_tops) := ok_raised_tops E_raised_tops A_ T xs
  obtain ⟨f3, d3, E_is_written⟩ := A_.h_is_written
  have G_is_written : FnOk P w K mg base CX0 4 f3 d3 P_is_written (spP K S_is_written) := ok_is_written E_is_written A_ T xs
  refine F.fn.okX sc_read_table (fun vs H Q E h => spX_len len_read_table h) (fun cdv A outer s H vs Q E hr h => ?_)
  refine ⟨_, (pss_cons (ps_if (PT.nox (pt_not (pt_val (pe_callB (call_isinstK (K := K) rfl) (by rfl) T.isinstance_ boot_isinstance (pa_cons (pv 0) (pa_cons (pe_bltn (v := .ty "str") rfl T.str_ boot_str rfl) pa_nil)))))) (pss_one (ps_raise (xs.o_NoText.own xs.m_NoText) PySem.F.excBase_ValueError rfl rfl raise_x (pa_cons pe_str pa_nil))) pss_nil)
      (pss_cons (PS.nox (ps_setC0 (i := 1) (CompScope.of (sc0 := (defScope s_read_table)) (tn := ["line"]) (cap := []) (idx := []) (by decide +kernel) rfl rfl) sc_read_table.nd rfl (by first | exact Or.inl rfl | exact Or.inr rfl) (pi_listK (K := K) rfl (pe_bm PySem.F.plainAttrs_str PySem.F.slot_str_split PySem.F.type_str_split mt_split (pv 0) (pa_cons pe_str pa_nil))) (GSet.name (by decide)) (fun _ _ _ _ _ => pg_name (i := 0) (nodupB_iff (l := ["line"]) (by decide +kernel)) rfl (by first | exact Or.inl rfl | exact Or.inr rfl) (by first | exact .inl rfl | exact .inr rfl)) (fun _ _ _ _ _ => (pe_bm PySem.F.plainAttrs_str PySem.F.slot_str_split PySem.F.type_str_split mt_split (pv 0) (pa_cons pe_str pa_nil)))))
      (pss_cons (ps_if (PT.nox (PW.pt (pw_or (pt_not (pt_val (pe_call G_is_shaped (hr.mono (by decide)) rfl E_is_shaped.mg E_is_shaped.fn.kp E_is_shaped.bd .nil pass0 (pa_cons (pv 1) pa_nil)))) (pw_or1 (pt_not (pt_val (pe_callB (call_allL (K := K) rfl rfl) (by rfl) T.all_ boot_all (pa_cons (pe_comp0 (CompScope.of (sc0 := (defScope s_read_table)) (tn := ["line"]) (cap := []) (idx := []) (by decide +kernel) rfl rfl) (pi_listK (K := K) rfl (pv 1)) (GSet.name (by decide)) (fun _ _ _ _ _ => pg_name (i := 0) (nodupB_iff (l := ["line"]) (by decide +kernel)) rfl (by first | exact Or.inl rfl | exact Or.inr rfl) (by first | exact .inl rfl | exact .inr rfl)) (fun _ _ _ _ _ => (pe_call G_is_written (hr.mono (by decide)) rfl E_is_written.mg E_is_written.fn.kp E_is_written.bd .nil pass0 (pa_cons (pv 0) pa_nil)))) pa_nil)))))))) (pss_one (ps_raise (xs.o_NoText.own xs.m_NoText) PySem.F.excBase_ValueError rfl rfl raise_x (pa_cons pe_str pa_nil))) pss_nil)
      (PSs.nox (pss_cons (ps_set (i := 2) sc_read_table.nd rfl (by first | exact Or.inl rfl | exact Or.inr rfl) (pe_call G_common_bottom (hr.mono (by decide)) rfl E_common_bottom.mg E_common_bottom.fn.kp E_common_bottom.bd .nil pass0 (pa_cons (pv 1) pa_nil)))
      (pss_one (ps_ret (pe_tup (pa_cons (pe_comp0 (CompScope.of (sc0 := (defScope s_read_table)) (tn := ["line"]) (cap := ["bottom"]) (idx := [2]) (by decide +kernel) rfl rfl) (pi_listK (K := K) rfl (pv 1)) (GSet.name (by decide)) (fun _ _ _ _ _ => pg_name (i := 0) (nodupB_iff (l := ["line", "bottom"]) (by decide +kernel)) rfl (by first | exact Or.inl rfl | exact Or.inr rfl) (by first | exact .inl rfl | exact .inr rfl)) (fun _ _ _ _ _ => (pe_call G_raised_tops (hr.mono (by decide)) rfl E_raised_tops.mg E_raised_tops.fn.kp E_raised_tops.bd .nil pass0 (pa_cons (pv 0) (pa_cons (pv 1) pa_nil))))) (pa_cons (pv 2) pa_nil)))))))))), fn_valX (Γn := [2]) (N := N_read_table) (fun R => (sx_seq (sx_if (tr_not (tr_b (EM.er (em_isinst kit_str (ES.er (es_var 0)))))) (sx_raise (ar_cons (EM.er em_str) ar_nil)) (ST.sx st_next))
      (sx_seq (ST.sx (ST.post (Γn := []) (st_setS 1 (EM.es (em_comp0 (it_list (EM.es (em_ms m_split (ES.er (es_var 0)) (ar_cons (EM.er em_str) ar_nil)))) (gt_name 0) (em_ms m_split (ES.er (es_var 0)) (ar_cons (EM.er em_str) ar_nil)))))))
      (sx_seq (sx_if (tr_or (tr_not (tr_b (EM.er (em_call (S := S_is_shaped) mono_is_shaped (ar_cons (ES.er (es_var 1)) ar_nil))))) (tr_not (tr_b (EM.er (em_cb c_allL (ar_cons (EM.er (em_comp0 (it_list (es_var 1)) (gt_name 0) (em_call (S := S_is_written) mono_is_written (ar_cons (ES.er (es_var 0)) ar_nil)))) ar_nil)))))) (sx_raise (ar_cons (EM.er em_str) ar_nil)) (ST.sx st_next))
      (ST.sx (st_seq (ST.post (Γn := [2]) (st_setM (M := []) 2 (em_call (S := S_common_bottom) mono_common_bottom (ar_cons (ES.er (es_var 1)) ar_nil))))
      (st_ret (M := [2]) (em_tup (am_cons (em_comp0 (it_list (es_var 1)) (gt_name 0) (em_call (S := S_raised_tops) mono_raised_tops (ar_cons (ES.er (es_var 0)) (ar_cons (ES.er (es_var 1)) ar_nil)))) (am_cons (em_var 2) am_nil)))))))))) (fun ds P R hS => ?_) h⟩
  rcases hS with ⟨d, m, rfl, ht, hm, hR⟩ | ⟨l, rfl, hL, hP, hR⟩
  · rw [show startD N_read_table [d] = [some (d), none, none] from rfl]
    walk_at "go"
    rw [ht]
    simp only [hm]
    walk_at "go"
    exact hR
  rw [show startD N_read_table [.str (mkS l)] = [some (.str (mkS l)), none, none] from rfl]
  have s1 := size1000
  have hl2 := hL.2
  walk_at "go"
  refine comp_all (as := Txt.split (mkS l) (mkS [59, 32])) (f := L3.D.str) (g := fun s => wsD (splitL 32 s.cps.toList)) (fun R h => ?_) (by have := split_many (l := l) (s := [59, 32]); omega) (fun p hq R h => ?_) ?_
  · walk_at "go"
    exact ⟨⟨rfl, by rw [mkS_len]; omega⟩, h⟩
  · walk_at "gb"
    have lp := low_sp hL hq
    have l3 := lp.2
    refine ⟨⟨rfl, by show p.cps.toList.length + _ ≤ _; omega⟩, ?_⟩
    rw [split_lo lp]
    rw [List.map_map]
    exact h
  rw [show L3.D.lst ((Txt.split (mkS l) (mkS [59, 32])).map fun s => wsD (splitL 32 s.cps.toList)) = lsD (lns l) from by unfold lsD lns; rw [List.map_map]; rfl]
  have lo := low_lns hL
  refine ⟨lns l, rfl, lo, ?_⟩
  unfold okB at hP hR
  have ok := ok_shape hL
  unfold okB at ok
  walk_at "go"
  cases h1 : shB (lns l)
  · rw [h1, Bool.false_and] at hR
    walk_at "go"
    exact hR rfl
  rw [h1, Bool.true_and] at hP hR ok
  walk_at "go"
  have lsd : lsD (lns l) = .lst ((lns l).map wsD) := rfl
  rw [lsd]
  refine comp_all (as := lns l) (f := wsD) (g := fun ws => .bl (ws.all fracB)) (fun R h => h) (by have := lo.2.1; omega) (fun ws hq R h => ?_) ?_
  · walk_at "gb"
    exact ⟨ws, rfl, lo.2.2 ws hq, h⟩
  rw [show (lns l).map (fun ws => L3.D.bl (ws.all fracB)) = ((lns l).map fun ws => ws.all fracB).map L3.D.bl by rw [List.map_map]; rfl]
  refine vAll_bools.mpr ?_
  rw [show (((lns l).map fun ws => ws.all fracB).all id) = (lns l).all (fun ws => ws.all fracB) by rw [List.all_map]; rfl]
  cases h2 : (lns l).all (fun ws => ws.all fracB)
  · rw [h2] at hR
    walk_at "go"
    exact hR rfl
  rw [h2] at hP ok
  obtain ⟨⟨w, hS⟩, e2⟩ := ok rfl
  have hP := hP rfl
  rw [← lsd, e2]
  clear ok hR e2 h1 h2 lsd lo
  generalize csOf l = cs at *
  obtain ⟨h1, h8, w1, w8, hr, hg⟩ := id hS
  walk_at "go"
  refine ⟨cs, w, rfl, hS, fun hB => ?_⟩
  unfold linesD
  walk_at "go"
  refine comp_all (as := cs) (f := lineD) (g := fun qs => dI (raiL (botT cs) qs)) (fun R h => h) (by omega) (fun qs hq R h => ?_) ?_
  · walk_at "gb"
    exact ⟨qs, botT cs, rfl, by rw [hr qs hq]; exact w8, hg qs hq, hB, h⟩
  rw [show cs.map (fun qs => dI (raiL (botT cs) qs)) = (tabT cs).map dI by unfold tabT; rw [List.map_map]; rfl]
  exact ⟨by decide, hP⟩
def M36 : Int := 1000000000000000000000000000000000067
def S_law_mixed : DSp := fun ds P => ∃ (ns : List Int) (x : Int), ds = [.scr ns, .int x] ∧ 0 ≤ x ∧ x < M36 ∧ ∀ y : Int, 0 ≤ y → y < M36 → P (.int y)
theorem mono_law_mixed : DMono S_law_mixed := by
  intro xs P P' k h
  obtain ⟨ns, x, e, h0, h1, h⟩ := h
  exact ⟨ns, x, e, h0, h1, fun y a b => k _ (h y a b)⟩
theorem len_law_mixed : ∀ ds P, S_law_mixed ds P → ds.length = 2 := by
  intro ds P h
  obtain ⟨_, _, e, _⟩ := h
  rw [e]; rfl
theorem ok_law_mixed {f : Addr} {fd : FuncData} (F : FnAt K mg "_law_mixed" s_law_mixed P_law_mixed f fd) (A_ : Fns K mg) (T : Txt K mg) {c : Cs} (xs : Exs K mg base c) : FnOk P w K mg base CX0 1 f fd P_law_mixed (spP K S_law_mixed) := by
  refine F.fn.ok sc_law_mixed (fun vs H Q E h => spP_len len_law_mixed h) (fun cdv A outer s H vs Q E hr h => ?_)
  refine ⟨_, (pss_cons (ps_for PassesOwn.never rfl (pi_listK (K := K) rfl (pv 0)) (pg_name (i := 2) sc_law_mixed.nd rfl (by first | exact Or.inl rfl | exact Or.inr rfl)) (pss_one (ps_set (i := 1) sc_law_mixed.nd rfl (by first | exact Or.inl rfl | exact Or.inr rfl) (pe_op op_mod (pe_op op_add (pe_op op_mulB (pv 1) pe_int) (pv 2)) (pe_op op_add (pe_op op_pow pe_int pe_int) pe_int)))))
      (pss_one (ps_ret (pv 1)))), fn_val (Γn := []) (N := N_law_mixed) (st_seq (st_for (it_list (es_var 0)) (gt_name 2) (ST.post (Γn := []) (st_setS 1 (EM.es (em_op o_intC (EM.er (em_op o_int (EM.er (em_op o_intC (ES.er (es_var 1)) (EM.er em_int))) (ES.er (es_var 2)))) (EM.er (em_op o_int (EM.er (em_op o_intC (EM.er em_int) (EM.er em_int))) (EM.er em_int))))))))
      (st_ret (M := []) (ER.scal (ES.er (es_var 1))))) (fun ds P hS => ?_) h⟩
  obtain ⟨ns, x, rfl, x0, x1, hP⟩ := hS
  rw [show startD N_law_mixed [.scr ns, .int x] = [some (.scr ns), some (.int x), none] from rfl]
  unfold M36 at *
  walk_at "go"
  refine loop_any (as := ns) (f := L3.D.int) (fun i δ => ∃ (y : Int) (o2 : Option D), δ = [some (.scr ns), some (.int y), o2] ∧ 0 ≤ y ∧ y < 1000000000000000000000000000000000067) ⟨x, none, rfl, x0, x1⟩ ?_ ?_
  · rintro i a δ N e ⟨y, o2, rfl, y0, y1⟩ hN
    walk_at "go"
    have := emod_lt (x := y * 69621 + a) (n := 1000000000000000000000000000000000067) (by decide)
    first
      | exact hN _ ⟨_, _, rfl, this.1, this.2⟩
      | exact ⟨⟨130, 20, by omega, by decide, by decide⟩, hN _ ⟨_, _, rfl, this.1, this.2⟩⟩
  · rintro δ ⟨y, o2, rfl, y0, y1⟩
    walk_at "go"
    exact hP y y0 y1
def S_law_shared : DSp := fun ds P => ∃ (a : Int) (b : Nat), ds = [.int a, .int b] ∧ P (.int (Nat.gcd a.natAbs b : Nat))
theorem gcd_mod {x y : Int} : Int.gcd y (x % y) = Int.gcd x y := by
  have e := Int.emod_add_mul_ediv x y
  have key : ∀ d : Nat, (d : Int) ∣ y → ((d : Int) ∣ x % y ↔ (d : Int) ∣ x) := fun d hd => by
    have hm : (d : Int) ∣ y * (x / y) := Int.dvd_trans hd (Int.dvd_mul_right y (x / y))
    constructor
    · intro h
      rw [← e]
      exact Int.dvd_add h hm
    · intro h
      have e2 : x % y = x - y * (x / y) := by omega
      rw [e2]
      exact Int.dvd_sub h hm
  have a1 : ((Int.gcd y (x % y) : Nat) : Int) ∣ y := Int.ofNat_dvd_left.mpr (Nat.gcd_dvd_left ..)
  have a2 : ((Int.gcd y (x % y) : Nat) : Int) ∣ x % y := Int.ofNat_dvd_left.mpr (Nat.gcd_dvd_right ..)
  have b1 : ((Int.gcd x y : Nat) : Int) ∣ x := Int.ofNat_dvd_left.mpr (Nat.gcd_dvd_left ..)
  have b2 : ((Int.gcd x y : Nat) : Int) ∣ y := Int.ofNat_dvd_left.mpr (Nat.gcd_dvd_right ..)
  exact Nat.dvd_antisymm (Nat.dvd_gcd (Int.ofNat_dvd_left.mp ((key _ a1).mp a2)) (Int.ofNat_dvd_left.mp a1)) (Nat.dvd_gcd (Int.ofNat_dvd_left.mp b2) (Int.ofNat_dvd_left.mp ((key _ b2).mpr b1)))
theorem mono_law_shared : DMono S_law_shared := by
  intro xs P P' k h
  unfold S_law_shared at h ⊢
  grind
theorem len_law_shared : ∀ ds P, S_law_shared ds P → ds.length = 2 := by
  intro ds P h
  obtain ⟨_, _, e, _⟩ := h
  rw [e]; rfl
theorem ok_law_shared {f : Addr} {fd : FuncData} (F : FnAt K mg "_law_shared" s_law_shared P_law_shared f fd) (A_ : Fns K mg) (T : Txt K mg) {c : Cs} (xs : Exs K mg base c) : FnOk P w K mg base CX0 1 f fd P_law_shared (spP K S_law_shared) := by
  refine F.fn.ok sc_law_shared (fun vs H Q E h => spP_len len_law_shared h) (fun cdv A outer s H vs Q E hr h => ?_)
  refine ⟨_, (pss_cons (ps_while PassesOwn.never (pt_cmpR op_ne (pv 1) pe_int (nomark _)) (pss_one (ps_par (i := 0) (j := 1) rfl sc_law_shared.nd rfl rfl (by decide) rfl rfl (pa_cons (pv 1) (pa_cons (pe_op op_mod (pv 0) (pv 1)) pa_nil)) rfl)))
      (pss_one (ps_ret (pe_callB call_abs (by rfl) T.abs_ boot_abs (pa_cons (pv 0) pa_nil))))), fn_val (Γn := []) (N := N_law_shared) (st_seq (st_while (tr_test (EM.er (em_op o_ne (ES.er (es_var 1)) (EM.er em_int)))) (st_par 0 1 (as_cons (es_var 1) (as_cons (EM.es (em_op o_intC (ES.er (es_var 0)) (ES.er (es_var 1)))) as_nil))))
      (st_ret (M := []) (em_cb c_abs (ar_cons (ES.er (es_var 0)) ar_nil)))) (fun ds P hS => ?_) h⟩
  obtain ⟨a, b, rfl, hP⟩ := hS
  rw [show startD N_law_shared [.int a, .int b] = [some (.int a), some (.int b)] from rfl]
  walk_at "go"
  refine ⟨fun m δ => ∃ (x : Int) (y : Nat), δ = [some (.int x), some (.int y)] ∧ Int.gcd x y = Nat.gcd a.natAbs b ∧ m = y, ⟨b, a, b, rfl, rfl, rfl⟩, ?_⟩
  rintro m δ ⟨x, y, rfl, hg, rfl⟩
  walk_at "go"
  by_cases h0 : m = 0
  · subst h0
    rw [if_neg (fun z => z rfl)]
    have e : Nat.gcd a.natAbs b = x.natAbs := by rw [← hg]; exact Int.gcd_zero_right x
    rw [e] at hP
    rw [show (if x < 0 then -x else x) = ((x.natAbs : Nat) : Int) by split <;> omega]
    exact hP
  · rw [if_pos (by omega)]
    have r := emod_lt (x := x) (n := (m : Int)) (by omega)
    refine ⟨by omega, (x % (m : Int)).toNat, by omega, (m : Int), (x % (m : Int)).toNat, by rw [Int.toNat_of_nonneg r.1], ?_, rfl⟩
    rw [Int.toNat_of_nonneg r.1, gcd_mod]
    exact hg
theorem peel {A R : DS} {E : DEnds} {δ : Dl} (h : ∀ R', R' = R → vSeq A R' E δ) : vSeq A R E δ := h R rfl
theorem ifS {dc : DT} {d e : DS} {E : DEnds} {δ : Dl} (p : Prop) [Decidable p] (ht : ∀ Q : Bool → Prop, Q (decide p) → dc δ Q) (h1 : p → d E δ) (h2 : ¬ p → e E δ) : vIfS dc d e E δ := by
  unfold vIfS
  refine ht _ ?_
  by_cases h : p
  · rw [decide_eq_true h]; exact h1 h
  · rw [decide_eq_false h]; exact h2 h
theorem join_in {s : List Nat} {ps : List (List Nat)} {P : DK} (h1 : JoinOk (mkS s) (ps.map mkS) = true) (h2 : (joinL s ps).length ≤ sizeLine) (h : P (.str (mkS (joinL s ps)))) : vJoin [.str (mkS s), .lst ((ps.map mkS).map L3.D.str)] P := by
  unfold vJoin
  exact asL_in (ds := (ps.map mkS).map L3.D.str) rfl ⟨ps.map mkS, rfl, ⟨h1, by rw [join_mk]; exact h2⟩, by rw [join_mk]; exact h⟩
theorem join_ok {s : Str} {ts : List Str} {B : Nat} (hB : ∀ y ∈ ts, y.length ≤ B) (h : ts.length * B + ts.length * s.length ≤ 16777216) : JoinOk s ts = true := by
  have := StrLaws.joinFits hB h
  unfold JoinOk
  simpa using this
theorem joinL_mem {s : List Nat} : ∀ {ps : List (List Nat)} {c : Nat}, c ∈ joinL s ps → c ∈ s ∨ ∃ p ∈ ps, c ∈ p
  | [p], c, h => .inr ⟨p, List.mem_cons_self, h⟩
  | p :: q :: r, c, h => by
    rcases List.mem_append.mp (show c ∈ p ++ (s ++ joinL s (q :: r)) from h) with z | z
    · exact .inr ⟨p, List.mem_cons_self, z⟩
    · rcases List.mem_append.mp z with z | z
      · exact .inl z
      · rcases joinL_mem z with z | ⟨t, ht, z⟩
        · exact .inl z
        · exact .inr ⟨t, List.mem_cons_of_mem _ ht, z⟩
theorem joinL_len {s : List Nat} {B : Nat} : ∀ {ps : List (List Nat)}, (∀ p ∈ ps, p.length ≤ B) → (joinL s ps).length ≤ ps.length * (B + s.length)
  | [], _ => Nat.zero_le _
  | [p], h => by have := h p List.mem_cons_self; show p.length ≤ 1 * _; omega
  | p :: q :: r, h => by
    have a := h p List.mem_cons_self
    have b := joinL_len (s := s) (B := B) (ps := q :: r) fun z hz => h z (List.mem_cons_of_mem _ hz)
    show (p ++ (s ++ joinL s (q :: r))).length ≤ _
    rw [List.length_append, List.length_append, List.length_cons, Nat.succ_mul]
    omega
theorem peelE {A R : DS} {E : DEnds} {δ : Dl} (h : ∀ R' E', R' = R → E' = E → vSeq A R' E' δ) : vSeq A R E δ := h R E rfl rfl
theorem log_lt {n : Nat} (h : n < 10 ^ 30) : n.log2 < 1920 := by
  rcases Nat.eq_zero_or_pos n with z | z
  · subst z; decide
  · have := (Nat.log2_lt (by omega)).mpr (Nat.lt_trans h (show (10 : Nat) ^ 30 < 2 ^ 100 by decide))
    omega
def LowK (k : Nat) (l : List Nat) : Prop := (∀ c ∈ l, c < 128) ∧ l.length ≤ k
theorem pick4 {i : Int} {P : DK} (hi : 0 ≤ i ∧ i < 4) (h : ∀ v : Int, 1 ≤ v → v ≤ 7 → P (.int v)) : asO (atI [L3.D.int 1, L3.D.int 2, L3.D.int 3, L3.D.int 7] i) P := by
  rcases (show i = 0 ∨ i = 1 ∨ i = 2 ∨ i = 3 by omega) with rfl | rfl | rfl | rfl
  · exact h _ (by decide) (by decide)
  · exact h _ (by decide) (by decide)
  · exact h _ (by decide) (by decide)
  · exact h _ (by decide) (by decide)
def S_law_written : DSp := fun ds P => ∃ ns : List Int, ds = [.scr ns] ∧ ns.length ≤ 63 ∧ ∀ l, (∀ c ∈ l, c < 128) → l.length ≤ 600 → P (.str (mkS l))
theorem mono_law_written : DMono S_law_written := by
  intro xs P P' k h
  obtain ⟨ns, e, h0, h⟩ := h
  exact ⟨ns, e, h0, fun l a b => k _ (h l a b)⟩
theorem len_law_written : ∀ ds P, S_law_written ds P → ds.length = 1 := by
  intro ds P h
  obtain ⟨_, e, _⟩ := h
  rw [e]; rfl
theorem ok_law_written {f : Addr} {fd : FuncData} (F : FnAt K mg "_law_written" s_law_written P_law_written f fd) (A_ : Fns K mg) (T : Txt K mg) {c : Cs} (xs : Exs K mg base c) : FnOk P w K mg base CX0 2 f fd P_law_written (spP K S_law_written) := by
  obtain ⟨f0, d0, E_law_mixed⟩ := A_.h_law_mixed
  have G_law_mixed : FnOk P w K mg base CX0 1 f0 d0 P_law_mixed (spP K S_law_mixed) := ok_law_mixed E_law_mixed A_ T xs
  obtain ⟨f1, d1, E_law_shared⟩ := A_.h_law_shared
  have G_law_shared : FnOk P w K mg base CX0 1 f1 d1 P_law_shared (spP K S_law_shared) := ok_law_shared E_law_shared A_ T xs
  refine F.fn.ok sc_law_written (fun vs H Q E h => spP_len len_law_written h) (fun cdv A outer s H vs Q E hr h => ?_)
  refine ⟨_, (pss_cons (ps_set (i := 1) sc_law_written.nd rfl (by first | exact Or.inl rfl | exact Or.inr rfl) (pe_call G_law_mixed (hr.mono (by decide)) rfl E_law_mixed.mg E_law_mixed.fn.kp E_law_mixed.bd .nil pass0 (pa_cons (pv 0) (pa_cons pe_int pa_nil))))
      (pss_cons (ps_set (i := 2) sc_law_written.nd rfl (by first | exact Or.inl rfl | exact Or.inr rfl) (pe_op op_add pe_int (pe_op op_mod (pe_op op_fdivB (pv 1) pe_int) pe_int)))
      (pss_cons (ps_set (i := 3) sc_law_written.nd rfl (by first | exact Or.inl rfl | exact Or.inr rfl) (pe_lst pa_nil))
      (pss_cons (ps_for PassesOwn.never rfl (pi_range1 rfl T.range_ (pa_cons (pe_op op_add pe_int (pe_op op_mod (pv 1) pe_int)) pa_nil)) (pg_name (i := 4) sc_law_written.nd rfl (by first | exact Or.inl rfl | exact Or.inr rfl)) (pss_cons (ps_set (i := 5) sc_law_written.nd rfl (by first | exact Or.inl rfl | exact Or.inr rfl) (pe_lst pa_nil))
      (pss_cons (ps_for PassesOwn.never rfl (pi_range1 rfl T.range_ (pa_cons (pv 2) pa_nil)) (pg_name (i := 6) sc_law_written.nd rfl (by first | exact Or.inl rfl | exact Or.inr rfl)) (pss_cons (ps_set (i := 1) sc_law_written.nd rfl (by first | exact Or.inl rfl | exact Or.inr rfl) (pe_op op_mod (pe_op op_add (pe_op op_mulB (pv 1) pe_int) pe_int) (pe_op op_add (pe_op op_pow pe_int pe_int) pe_int)))
      (pss_cons (ps_set (i := 7) sc_law_written.nd rfl (by first | exact Or.inl rfl | exact Or.inr rfl) (pe_op op_sub (pe_op op_mod (pe_op op_fdivB (pv 1) pe_int) pe_int) pe_int))
      (pss_cons (ps_set (i := 8) sc_law_written.nd rfl (by first | exact Or.inl rfl | exact Or.inr rfl) (pe_ix (ix_listK (K := K) rfl) (pe_lst (pa_consts (ns := [1, 2, 3, 7]) rfl)) (pe_op op_mod (pe_op op_fdivB (pv 1) pe_int) pe_int) (fun _ _ => rfl)))
      (pss_cons (ps_if (pt_cmpR op_ne (pe_call G_law_shared (hr.mono (by decide)) rfl E_law_shared.mg E_law_shared.fn.kp E_law_shared.bd .nil pass0 (pa_cons (pv 7) (pa_cons (pv 8) pa_nil))) pe_int (nomark _)) (pss_one (ps_set (i := 8) sc_law_written.nd rfl (by first | exact Or.inl rfl | exact Or.inr rfl) pe_int)) pss_nil)
      (pss_one (ps_expr (pe_bm PySem.F.plainAttrs_list PySem.F.slot_list_append PySem.F.type_list_append mt_append (pv 5) (pa_cons (pe_op op_add_str (pe_callTy call_str_int (by rfl) T.str_ boot_str (pa_cons (pv 7) pa_nil)) (pe_ix (ix_listK (K := K) rfl) (pe_lst (pa_cons pe_str (pa_cons (pe_op op_add_str pe_str (pe_callTy call_str_int (by rfl) T.str_ boot_str (pa_cons (pv 8) pa_nil))) pa_nil))) (pe_callTy call_int1 (by rfl) T.int_ boot_int (pa_cons (pe_cmpR op_gt (pv 8) pe_int (nomark _)) pa_nil)) (fun _ _ => rfl))) pa_nil)))))))))
      (pss_one (ps_expr (pe_bm PySem.F.plainAttrs_list PySem.F.slot_list_append PySem.F.type_list_append mt_append (pv 3) (pa_cons (pe_bm PySem.F.plainAttrs_str PySem.F.slot_str_join PySem.F.type_str_join (mt_joinK (K := K) rfl) pe_str (pa_cons (pv 5) pa_nil)) pa_nil)))))))
      (pss_one (ps_ret (pe_bm PySem.F.plainAttrs_str PySem.F.slot_str_join PySem.F.type_str_join (mt_joinK (K := K) rfl) pe_str (pa_cons (pv 3) pa_nil)))))))), fn_val (Γn := [3]) (N := N_law_written) (st_seq (ST.post (Γn := []) (st_setS 1 (EM.es (em_call (S := S_law_mixed) mono_law_mixed (ar_cons (ES.er (es_var 0)) (ar_cons (EM.er em_int) ar_nil))))))
      (st_seq (ST.post (Γn := []) (st_setS 2 (EM.es (em_op o_int (EM.er em_int) (EM.er (em_op o_intC (EM.er (em_op o_intC (ES.er (es_var 1)) (EM.er em_int))) (EM.er em_int)))))))
      (st_seq (ST.post (Γn := [3]) (st_setM (M := []) 3 (em_lst am_nil)))
      (st_seq (st_for (it_rng1 (ar_cons (EM.er (em_op o_int (EM.er em_int) (EM.er (em_op o_intC (ES.er (es_var 1)) (EM.er em_int))))) ar_nil)) (gt_name 4) (ST.post (Γn := [3]) (st_seq (ST.post (Γn := [5, 3]) (st_setM (M := []) 5 (em_lst am_nil)))
      (st_seq (st_for (it_rng1 (ar_cons (ES.er (es_var 2)) ar_nil)) (gt_name 6) (st_seq (ST.post (Γn := [5, 3]) (st_setS 1 (EM.es (em_op o_intC (EM.er (em_op o_int (EM.er (em_op o_intC (ES.er (es_var 1)) (EM.er em_int))) (EM.er em_int))) (EM.er (em_op o_int (EM.er (em_op o_intC (EM.er em_int) (EM.er em_int))) (EM.er em_int)))))))
      (st_seq (ST.post (Γn := [5, 3]) (st_setS 7 (EM.es (em_op o_int (EM.er (em_op o_intC (EM.er (em_op o_intC (ES.er (es_var 1)) (EM.er em_int))) (EM.er em_int))) (EM.er em_int)))))
      (st_seq (ST.post (Γn := [5, 3]) (st_setS 8 (es_ixL (EM.es (em_lst am_consts)) (EM.er (em_op o_intC (EM.er (em_op o_intC (ES.er (es_var 1)) (EM.er em_int))) (EM.er em_int))))))
      (st_seq (st_if (tr_test (EM.er (em_op o_ne (EM.er (em_call (S := S_law_shared) mono_law_shared (ar_cons (ES.er (es_var 7)) (ar_cons (ES.er (es_var 8)) ar_nil)))) (EM.er em_int)))) (ST.post (Γn := [5, 3]) (st_setS 8 (EM.es em_int))) st_next)
      (ST.post (Γn := [5, 3]) (st_append (M := []) 5 (em_op o_catT (EM.er (em_cb c_strI (ar_cons (ES.er (es_var 7)) ar_nil))) (ES.er (es_ixL (EM.es (em_lst (am_cons0 em_str (am_cons0 (em_op o_catT (EM.er em_str) (EM.er (em_cb c_strI (ar_cons (ES.er (es_var 8)) ar_nil)))) am_nil)))) (EM.er (em_cb c_int (ar_cons (EM.er (em_op o_bl (ES.er (es_var 8)) (EM.er em_int))) ar_nil)))))))))))))
      (ST.post (Γn := [5, 3]) (st_append (M := []) 3 (em_ms m_join (EM.er em_str) (ar_cons (er_var 5) ar_nil))))))))
      (st_ret (M := []) (em_ms m_join (EM.er em_str) (ar_cons (er_var 3) ar_nil))))))) (fun ds P hS => ?_) h⟩
  obtain ⟨ns, rfl, hz, hP⟩ := hS
  rw [show startD N_law_written [.scr ns] = [some (.scr ns), none, none, none, none, none, none, none, none] from rfl]
  refine peel fun R0 e0 => ?_
  walk_at "go"
  refine ⟨ns, 13, rfl, by decide, by decide, fun y y0 y1 => ?_⟩
  subst e0
  walk_at "go"
  have a3 := emod_lt (x := y / 3) (n := 3) (by decide)
  have b3 := emod_lt (x := y) (n := 3) (by decide)
  obtain ⟨w, hw⟩ : ∃ w : Nat, 1 + y / 3 % 3 = (w : Int) := ⟨(1 + y / 3 % 3).toNat, by omega⟩
  rw [hw]
  have w3 : w ≤ 3 := by omega
  generalize hh : (1 + y % 3).toNat = h
  have h3 : h ≤ 3 := by omega
  clear hh hw a3 b3
  have s1 := size1000
  refine loop_rng (lo := 0) (n := h) (fun i δ => ∃ (ws : List (List Nat)) (y : Int) (o4 o5 o6 o7 o8 : Option D), δ = [some (.scr ns), some (.int y), some (.int w), some (.lst ((ws.map mkS).map L3.D.str)), o4, o5, o6, o7, o8] ∧ 0 ≤ y ∧ y < M36 ∧ ws.length = i ∧ ∀ l ∈ ws, LowK 192 l) ⟨[], y, none, none, none, none, none, rfl, y0, y1, rfl, (fun l z => absurd z List.not_mem_nil)⟩ ?_ ?_
  · clear y0 y1 y
    rintro i δ N hi ⟨ws, y, o4, o5, o6, o7, o8, rfl, y0, y1, hl, hw⟩ hN
    walk_at "go"
    refine loop_rng (lo := 0) (n := w) (fun j δ => ∃ (us : List (List Nat)) (y : Int) (o6 o7 o8 : Option D), δ = [some (.scr ns), some (.int y), some (.int w), some (.lst ((ws.map mkS).map L3.D.str)), some (.int (0 + (i : Int))), some (.lst ((us.map mkS).map L3.D.str)), o6, o7, o8] ∧ 0 ≤ y ∧ y < M36 ∧ us.length = j ∧ ∀ l ∈ us, LowK 63 l) ⟨[], y, _, _, _, rfl, y0, y1, rfl, (fun l z => absurd z List.not_mem_nil)⟩ ?_ ?_
    · clear y0 y1 y
      rintro j δ N' hj ⟨us, y, o6, o7, o8, rfl, y0, y1, hu, hk⟩ hN'
      simp only [vgName, List.set_cons_succ, List.set_cons_zero]
      refine peelE fun R0 E0 e0 hE => ?_
      walk_at "go"
      have ym := emod_lt (x := y * 48271 + 11) (n := 1000000000000000000000000000000000067) (by decide)
      have ok : CMulB y 48271 := ⟨130, 20, by unfold M36 at y1; omega, by decide, by decide⟩
      refine ⟨ok, ?_⟩
      walk_at "go"
      have y0' : 0 ≤ (y * 48271 + 11) % 1000000000000000000000000000000000067 := ym.1
      have y1' : (y * 48271 + 11) % 1000000000000000000000000000000000067 < M36 := ym.2
      generalize (y * 48271 + 11) % 1000000000000000000000000000000000067 = z at *
      clear ym ok y0 y1
      subst e0
      refine peel fun R1 e1 => ?_
      walk_at "go"
      have tb := emod_lt (x := z / 97) (n := 41) (by decide)
      obtain ⟨t, ht⟩ : ∃ t : Int, z / 97 % 41 - 20 = t := ⟨_, rfl⟩
      rw [ht]
      have t20 : t.natAbs < 10 ^ 30 := by omega
      clear ht tb
      subst e1
      refine peel fun R2 e2 => ?_
      walk_at "go"
      refine pick4 (emod_lt (by decide)) fun b b1 b7 => ?_
      subst e2
      refine peel fun R3 e3 => ?_
      have k3 : ∀ b : Int, 1 ≤ b → b ≤ 7 → R3 E0 [some (.scr ns), some (.int z), some (.int w), some (.lst ((ws.map mkS).map L3.D.str)), some (.int (0 + (i : Int))), some (.lst ((us.map mkS).map L3.D.str)), some (.int (0 + (j : Int))), some (.int t), some (.int b)] := by
        subst e3
        clear b1 b7 b
        intro b b1 b7
        have b30 : b.natAbs < 10 ^ 30 := by omega
        have lt := sI_len t20
        have lb := sI_len b30
        walk_at "go"
        refine ⟨log_lt t20, log_lt b30, ?_⟩
        rw [str_int, str_int, mkS_app]
        have lowI : ∀ k : Int, ∀ c ∈ sI k, c < 128 := fun k c hc => by have := sI_signs c hc; omega
        have fin : ∀ m : List Nat, LowK 32 m → (mkS (sI t)).length + (mkS m).length ≤ sizeLine ∧ us.length < 1000 ∧ E0.nx [some (.scr ns), some (.int z), some (.int w), some (.lst ((ws.map mkS).map L3.D.str)), some (.int (0 + (i : Int))), some (.lst ((us.map mkS).map L3.D.str ++ [.str (mkS (sI t) ++ mkS m)])), some (.int (0 + (j : Int))), some (.int t), some (.int b)] := fun m hm => by
          have hm2 := hm.2
          refine ⟨by rw [mkS_len, mkS_len]; omega, by omega, ?_⟩
          rw [hE, mkS_app]
          refine hN' _ ⟨us ++ [sI t ++ m], z, _, _, _, by rw [List.map_append, List.map_append]; rfl, y0', y1', by rw [List.length_append, hu]; rfl, fun l hl2 => ?_⟩
          rcases List.mem_append.mp hl2 with q | q
          · exact hk l q
          · rw [List.mem_singleton.mp q]
            refine ⟨fun c hc => (List.mem_append.mp hc).elim (lowI t c) (hm.1 c), by rw [List.length_append]; omega⟩
        refine ⟨by rw [mkS_len, mkS_len, List.length_singleton]; omega, by decide, ?_⟩
        by_cases hb : 1 < b
        · rw [if_pos hb]
          walk_at "go"
          exact fin _ ⟨fun c hc => (List.mem_cons.mp hc).elim (fun q => by rw [q]; decide) (lowI b c), by rw [List.singleton_append, List.length_cons]; omega⟩
        · rw [if_neg hb]
          walk_at "go"
          exact fin [] ⟨fun c hc => absurd hc List.not_mem_nil, Nat.zero_le _⟩
      walk_at "go"
      refine ⟨t, b.natAbs, by rw [show ((b.natAbs : Nat) : Int) = b by omega], ?_⟩
      walk_at "go"
      split
      · exact k3 1 (by decide) (by decide)
      · exact k3 b b1 b7
    · rintro δ ⟨us, y', o6, o7, o8, rfl, y0', y1', hu, hk⟩
      walk_at "go"
      have lj := joinL_len (s := [32]) (B := 63) (ps := us) fun p hp => (hk p hp).2
      rw [hu, List.length_singleton] at lj
      have lm : w * (63 + 1) ≤ 3 * 64 := Nat.mul_le_mul_right _ w3
      refine join_in (join_ok (B := 63) (fun y hy => ?_) ?_) (by omega) ⟨by omega, hN _ ⟨ws ++ [joinL [32] us], y', _, _, _, _, _, by rw [List.map_append, List.map_append]; rfl, y0', y1', by rw [List.length_append, hl]; rfl, fun l hl2 => ?_⟩⟩
      · obtain ⟨p, hp, rfl⟩ := List.mem_map.mp hy
        rw [mkS_len]
        exact (hk p hp).2
      · rw [List.length_map, mkS_len, List.length_singleton]
        omega
      · rcases List.mem_append.mp hl2 with q | q
        · exact hw l q
        · rw [List.mem_singleton.mp q]
          refine ⟨fun c hc => ?_, by omega⟩
          rcases joinL_mem hc with q | ⟨p, hp, q⟩
          · rw [List.mem_singleton.mp q]; decide
          · exact (hk p hp).1 c q
  · rintro δ ⟨ws, y', o4, o5, o6, o7, o8, rfl, y0', y1', hl, hw⟩
    walk_at "go"
    have lj := joinL_len (s := [59, 32]) (B := 192) (ps := ws) fun p hp => (hw p hp).2
    rw [hl] at lj
    have lm : h * (192 + 2) ≤ 3 * 194 := Nat.mul_le_mul_right _ h3
    have lj : (joinL [59, 32] ws).length ≤ h * (192 + 2) := lj
    refine join_in (join_ok (B := 192) (fun y hy => ?_) ?_) (by omega) (hP _ (fun c hc => ?_) (by omega))
    · obtain ⟨p, hp, rfl⟩ := List.mem_map.mp hy
      rw [mkS_len]
      exact (hw p hp).2
    · rw [List.length_map, mkS_len]
      show ws.length * 192 + ws.length * 2 ≤ _
      omega
    · rcases joinL_mem hc with q | ⟨p, hp, q⟩
      · simp at q; omega
      · exact (hw p hp).1 c q
theorem s18 : Str.ofString "0123/- ;9+.a1 -\n\t_" = mkS [48, 49, 50, 51, 47, 45, 32, 59, 57, 43, 46, 97, 49, 32, 45, 10, 9, 95] := by decide
theorem pick18 {i : Nat} (h : i < 18) : ∃ c, (mkS [48, 49, 50, 51, 47, 45, 32, 59, 57, 43, 46, 97, 49, 32, 45, 10, 9, 95]).cps[i]? = some c ∧ c < 128 := by
  have key : ∀ j : Fin 18, ∃ c, (mkS [48, 49, 50, 51, 47, 45, 32, 59, 57, 43, 46, 97, 49, 32, 45, 10, 9, 95]).cps[j.1]? = some c ∧ c < 128 := fun j => by
    refine ⟨[48, 49, 50, 51, 47, 45, 32, 59, 57, 43, 46, 97, 49, 32, 45, 10, 9, 95].getD j.1 0, ?_, ?_⟩
    · revert j; decide
    · revert j; decide
  exact key ⟨i, h⟩
theorem low_app {a b : List Nat} (h1 : ∀ x ∈ a, x < 128) (h2 : ∀ x ∈ b, x < 128) : ∀ x ∈ a ++ b, x < 128 := fun x hx => (List.mem_append.mp hx).elim (h1 x) (h2 x)
def S_law_spoiled : DSp := fun ds P => ∃ (ns : List Int) (l : List Nat), ds = [.str (mkS l), .scr ns] ∧ (∀ c ∈ l, c < 128) ∧ l.length ≤ 600 ∧ ∀ l', LowT l' → P (.str (mkS l'))
theorem mono_law_spoiled : DMono S_law_spoiled := by
  intro xs P P' k h
  obtain ⟨ns, l, e, h0, h1, h⟩ := h
  exact ⟨ns, l, e, h0, h1, fun l a => k _ (h l a)⟩
theorem len_law_spoiled : ∀ ds P, S_law_spoiled ds P → ds.length = 2 := by
  intro ds P h
  obtain ⟨_, _, e, _⟩ := h
  rw [e]; rfl
theorem ok_law_spoiled {f : Addr} {fd : FuncData} (F : FnAt K mg "_law_spoiled" s_law_spoiled P_law_spoiled f fd) (A_ : Fns K mg) (T : Txt K mg) {c : Cs} (xs : Exs K mg base c) : FnOk P w K mg base CX0 1 f fd P_law_spoiled (spP K S_law_spoiled) := by
  refine F.fn.ok sc_law_spoiled (fun vs H Q E h => spP_len len_law_spoiled h) (fun cdv A outer s H vs Q E hr h => ?_)
  refine ⟨_, (pss_cons (ps_for PassesOwn.never rfl (pi_listK (K := K) rfl (pe_slice (sl_listK (K := K) rfl) (pv 1) po_none (po_some pe_int))) (pg_name (i := 2) sc_law_spoiled.nd rfl (by first | exact Or.inl rfl | exact Or.inr rfl)) (pss_cons (ps_set (i := 3) sc_law_spoiled.nd rfl (by first | exact Or.inl rfl | exact Or.inr rfl) (pe_op op_mod (pe_op op_mulB (pe_op op_mod (pv 2) pe_int) pe_int) pe_int))
      (pss_cons (ps_set (i := 4) sc_law_spoiled.nd rfl (by first | exact Or.inl rfl | exact Or.inr rfl) (pe_item_str pe_str (pe_op op_mod (pe_op op_fdivB (pv 3) pe_int) pe_int) (fun _ _ => rfl)))
      (pss_cons (ps_set (i := 5) sc_law_spoiled.nd rfl (by first | exact Or.inl rfl | exact Or.inr rfl) (pe_op op_mod (pe_op op_fdivB (pv 3) pe_int) (pe_op op_add (pe_callB call_len_str (by rfl) T.len_ PySem.boot_len (pa_cons (pv 0) pa_nil)) pe_int)))
      (pss_one (ps_if (pt_cmpR op_eq (pe_op op_mod (pv 3) pe_int) pe_int (nomark _)) (pss_one (ps_set (i := 0) sc_law_spoiled.nd rfl (by first | exact Or.inl rfl | exact Or.inr rfl) (pe_op op_add_str (pe_op op_add_str (pe_slice sl_strAny (pv 0) po_none (po_some (pv 5))) (pv 4)) (pe_slice sl_strAny (pv 0) (po_some (pv 5)) po_none)))) (pss_one (ps_if (pt_cmpR op_eq (pe_op op_mod (pv 3) pe_int) pe_int (nomark _)) (pss_one (ps_set (i := 0) sc_law_spoiled.nd rfl (by first | exact Or.inl rfl | exact Or.inr rfl) (pe_op op_add_str (pe_slice sl_strAny (pv 0) po_none (po_some (pv 5))) (pe_slice sl_strAny (pv 0) (po_some (pe_op op_add (pv 5) pe_int)) po_none)))) (pss_one (ps_if (pt_cmpR op_eq (pe_op op_mod (pv 3) pe_int) pe_int (nomark _)) (pss_one (ps_set (i := 0) sc_law_spoiled.nd rfl (by first | exact Or.inl rfl | exact Or.inr rfl) (pe_op op_add_str (pe_op op_add_str (pe_slice sl_strAny (pv 0) po_none (po_some (pv 5))) (pv 4)) (pe_slice sl_strAny (pv 0) (po_some (pe_op op_add (pv 5) pe_int)) po_none)))) pss_nil))))))))))
      (pss_one (ps_ret (pv 0)))), fn_val (Γn := []) (N := N_law_spoiled) (st_seq (st_for (it_list (EM.es (em_sl (ES.er (es_var 1)) or_none (or_some (EM.er em_int))))) (gt_name 2) (st_seq (ST.post (Γn := []) (st_setS 3 (EM.es (em_op o_intC (EM.er (em_op o_intC (EM.er (em_op o_intC (ES.er (es_var 2)) (EM.er em_int))) (EM.er em_int))) (EM.er em_int)))))
      (st_seq (ST.post (Γn := []) (st_setS 4 (EM.es (em_op o_itemS (EM.er em_str) (EM.er (em_op o_intC (EM.er (em_op o_intC (ES.er (es_var 3)) (EM.er em_int))) (EM.er em_int)))))))
      (st_seq (ST.post (Γn := []) (st_setS 5 (EM.es (em_op o_intC (EM.er (em_op o_intC (ES.er (es_var 3)) (EM.er em_int))) (EM.er (em_op o_int (EM.er (em_cb c_lenS (ar_cons (ES.er (es_var 0)) ar_nil))) (EM.er em_int)))))))
      (st_if (tr_test (EM.er (em_op o_eq (EM.er (em_op o_intC (ES.er (es_var 3)) (EM.er em_int))) (EM.er em_int)))) (ST.post (Γn := []) (st_setS 0 (EM.es (em_op o_catT (EM.er (em_op o_catT (EM.er (em_slSt (ES.er (es_var 0)) or_none (or_some (ES.er (es_var 5))))) (ES.er (es_var 4)))) (EM.er (em_slSt (ES.er (es_var 0)) (or_some (ES.er (es_var 5))) or_none)))))) (st_if (tr_test (EM.er (em_op o_eq (EM.er (em_op o_intC (ES.er (es_var 3)) (EM.er em_int))) (EM.er em_int)))) (ST.post (Γn := []) (st_setS 0 (EM.es (em_op o_catT (EM.er (em_slSt (ES.er (es_var 0)) or_none (or_some (ES.er (es_var 5))))) (EM.er (em_slSt (ES.er (es_var 0)) (or_some (EM.er (em_op o_int (ES.er (es_var 5)) (EM.er em_int)))) or_none)))))) (st_if (tr_test (EM.er (em_op o_eq (EM.er (em_op o_intC (ES.er (es_var 3)) (EM.er em_int))) (EM.er em_int)))) (ST.post (Γn := []) (st_setS 0 (EM.es (em_op o_catT (EM.er (em_op o_catT (EM.er (em_slSt (ES.er (es_var 0)) or_none (or_some (ES.er (es_var 5))))) (ES.er (es_var 4)))) (EM.er (em_slSt (ES.er (es_var 0)) (or_some (EM.er (em_op o_int (ES.er (es_var 5)) (EM.er em_int)))) or_none)))))) st_next)))))))
      (st_ret (M := []) (ER.scal (ES.er (es_var 0))))) (fun ds P hS => ?_) h⟩
  obtain ⟨ns, l, rfl, hl, hl2, hP⟩ := hS
  rw [show startD N_law_spoiled [.str (mkS l), .scr ns] = [some (.str (mkS l)), some (.scr ns), none, none, none, none] from rfl]
  have s1 := size1000
  have hcut : L3.cutD (ns.map L3.D.int) none (some 6) = (ns.take 6).map L3.D.int := by rw [cutD_to (by decide), ← List.map_take]; rfl
  walk_at "go"
  rw [hcut]
  have h6 : (ns.take 6).length ≤ 6 := by rw [List.length_take]; omega
  refine loop_any (as := ns.take 6) (f := L3.D.int) (fun i δ => ∃ (l : List Nat) (o2 o3 o4 o5 : Option D), δ = [some (.str (mkS l)), some (.scr ns), o2, o3, o4, o5] ∧ (∀ c ∈ l, c < 128) ∧ l.length ≤ 600 + i) ⟨l, none, none, none, none, rfl, hl, hl2⟩ ?_ ?_
  · clear hl hl2 l
    rintro i x δ N e ⟨l, o2, o3, o4, o5, rfl, hl, hl2⟩ hN
    have i6 : i < 6 := by have := (List.getElem?_eq_some_iff.mp e).1; omega
    clear e hcut h6
    have go : ∀ (m : List Nat) (o2 o3 o4 o5 : Option D), (∀ c ∈ m, c < 128) → m.length ≤ l.length + 1 → N [some (.str (mkS m)), some (.scr ns), o2, o3, o4, o5] := fun m o2 o3 o4 o5 h1 h2 => hN _ ⟨m, o2, o3, o4, o5, rfl, h1, by omega⟩
    clear hN
    simp only [vgName, List.set_cons_succ, List.set_cons_zero]
    refine peel fun R0 e0 => ?_
    have b1 := emod_lt (x := x) (n := 2147483647) (by decide)
    walk_at "go"
    have b2 := emod_lt (x := x % 2147483647 * 48271) (n := 2147483647) (by decide)
    generalize x % 2147483647 * 48271 % 2147483647 = y at *
    clear b1
    subst e0
    refine peel fun R1 e1 => ?_
    walk_at "go"
    rw [s18]
    have b3 := emod_lt (x := y / 4) (n := 18) (by decide)
    obtain ⟨c, hc, hc2⟩ := pick18 (i := (y / 4 % 18).toNat) (by omega)
    refine ⟨c, ⟨b3.1, by omega, by show y / 4 % 18 < 18; exact b3.2, hc⟩, ?_⟩
    rw [show ({ cps := #[c] } : Str) = mkS [c] from rfl]
    subst e1
    refine peel fun R2 e2 => ?_
    walk_at "go"
    refine ⟨by rw [mkS_len]; omega, ?_⟩
    rw [mkS_len]
    walk_at "go"
    have b4 := emod_lt (x := y / 64) (n := (l.length : Int) + 1) (by omega)
    obtain ⟨a, ha⟩ : ∃ a : Nat, y / 64 % ((l.length : Int) + 1) = (a : Int) := ⟨(y / 64 % ((l.length : Int) + 1)).toNat, by omega⟩
    rw [ha] at b4
    rw [ha]
    subst e2
    walk_at "go"
    have ea : ((a : Int) + 1) = ((a + 1 : Nat) : Int) := rfl
    have s5 : (5000 : Nat) ≤ sizeLine := by decide
    have lt : ∀ x ∈ l.take a, x < 128 := fun x hx => hl x (List.mem_of_mem_take hx)
    have ld : ∀ k, ∀ x ∈ l.drop k, x < 128 := fun k x hx => hl x (List.mem_of_mem_drop hx)
    have lc : ∀ x ∈ [c], x < 128 := fun x hx => by rw [List.mem_singleton.mp hx]; exact hc2
    rw [ea, slice_to, slice_fr, slice_fr]
    simp only [mkS_app, mkS_len, List.length_append, List.length_take, List.length_drop, List.length_singleton]
    split
    · exact ⟨by omega, by omega, by omega, by omega, go _ _ _ _ _ (low_app (low_app lt lc) (ld a)) (by simp only [List.length_append, List.length_take, List.length_drop, List.length_singleton]; omega)⟩
    · split
      · exact ⟨by omega, by omega, by omega, go _ _ _ _ _ (low_app lt (ld (a + 1))) (by simp only [List.length_append, List.length_take, List.length_drop, List.length_singleton]; omega)⟩
      · split
        · exact ⟨by omega, by omega, by omega, by omega, go _ _ _ _ _ (low_app (low_app lt lc) (ld (a + 1))) (by simp only [List.length_append, List.length_take, List.length_drop, List.length_singleton]; omega)⟩
        · exact go _ _ _ _ _ hl (by omega)
  · rintro δ ⟨l, o2, o3, o4, o5, rfl, hl, hl2⟩
    walk_at "go"
    exact hP l ⟨hl, by omega⟩
def AnyD (d : D) : Prop := (∃ l, d = .str (mkS l) ∧ LowT l) ∨ (∃ m, d.tyn = some m ∧ isB m "str" = false)
def anyV : V → Bool
  | .str x => x.cps.toList.all (fun c => decide (c < 128)) && decide (x.cps.toList.length ≤ 700)
  | .int _ => true
  | .non => true
  | _ => false
theorem any_ofV {v : V} (h : anyV v = true) : AnyD (ofV v) := by
  cases v with
  | str x =>
    obtain ⟨h1, h2⟩ := Bool.and_eq_true_iff.mp (show (x.cps.toList.all (fun c => decide (c < 128)) && decide (x.cps.toList.length ≤ 700)) = true from h)
    refine .inl ⟨x.cps.toList, by rw [mkS_of]; rfl, fun c hc => of_decide_eq_true (List.all_eq_true.mp h1 c hc), of_decide_eq_true h2⟩
  | int i => exact .inr ⟨"int", rfl, rfl⟩
  | non => exact .inr ⟨"NoneType", rfl, rfl⟩
  | _ => cases h
theorem any_all {vs : List V} (h : vs.all anyV = true) : ∀ d ∈ vs.map ofV, AnyD d := fun d hd => by
  obtain ⟨v, hv, rfl⟩ := List.mem_map.mp hd
  exact any_ofV (List.all_eq_true.mp h v hv)
theorem any_str {x : Str} (h : anyV (.str x) = true) : AnyD (.str x) := any_ofV h
theorem any_app {ds es : List D} (h1 : ∀ d ∈ ds, AnyD d) (h2 : ∀ d ∈ es, AnyD d) : ∀ d ∈ ds ++ es, AnyD d := fun d hd => (List.mem_append.mp hd).elim (h1 d) (h2 d)
theorem any_cons {x : D} {es : List D} (h1 : AnyD x) (h2 : ∀ d ∈ es, AnyD d) : ∀ d ∈ x :: es, AnyD d := fun d hd => (List.mem_cons.mp hd).elim (fun z => z ▸ h1) (h2 d)
theorem any_nil : ∀ d ∈ ([] : List D), AnyD d := fun d hd => absurd hd List.not_mem_nil
theorem pre_nil {vs : List V} {δ : Dl} {Q : List D → Prop} (h : Q (vs.map ofV)) : vPre vs vNil δ Q := by
  show Q (vs.map ofV ++ [])
  rw [List.append_nil]
  exact h
theorem cut36 {n : Nat} {ds : List D} {R : DS} {E : DEnds} {o : Option D} (h1 : ds.length = n) (h2 : ∀ d ∈ ds, AnyD d) (h : ∀ ds : List D, ds.length = n → (∀ d ∈ ds, AnyD d) → R E [o, some (.lst ds)]) : R E [o, some (.lst ds)] := h ds h1 h2
def S_law_odd : DSp := fun ds P => ∃ i : Int, ds = [.int i] ∧ ∀ d, AnyD d → P d
theorem mono_law_odd : DMono S_law_odd := by
  intro xs P P' k h
  obtain ⟨i, e, h⟩ := h
  exact ⟨i, e, fun d a => k _ (h d a)⟩
theorem len_law_odd : ∀ ds P, S_law_odd ds P → ds.length = 1 := by
  intro ds P h
  obtain ⟨_, e, _⟩ := h
  rw [e]; rfl
theorem ok_law_odd {f : Addr} {fd : FuncData} (F : FnAt K mg "_law_odd" s_law_odd P_law_odd f fd) (A_ : Fns K mg) (T : Txt K mg) {c : Cs} (xs : Exs K mg base c) : FnOk P w K mg base CX0 1 f fd P_law_odd (spR K S_law_odd) := by
  refine F.fn.ok sc_law_odd (fun vs H Q E h => spR_len len_law_odd h) (fun cdv A outer s H vs Q E hr h => ?_)
  refine seal_out ?_
  refine ⟨_, (qss_cons (qs_set (i := 1) sc_law_odd.nd rfl (by first | exact Or.inl rfl | exact Or.inr rfl) (qe_lst (qa_pre (vs := [.str (Str.ofString ""), .str (Str.ofString " "), .str (Str.ofString "1 "), .str (Str.ofString " 1"), .str (Str.ofString "1;"), .str (Str.ofString "1; "), .str (Str.ofString "; 1"), .str (Str.ofString "1;2"), .str (Str.ofString "1 ; 2"), .str (Str.ofString "1  2"), .str (Str.ofString "2/4"), .str (Str.ofString "3/1"), .str (Str.ofString "0/5"), .str (Str.ofString "+1"), .str (Str.ofString "-0"), .str (Str.ofString "01")]) rfl rfl qa_nil)))
      (qss_cons (qs_set (i := 1) sc_law_odd.nd rfl (by first | exact Or.inl rfl | exact Or.inr rfl) (qe_op op_cat (qe_mk (pv 1)) (qe_lst (qa_pre (vs := [.str (Str.ofString "1\n2"), .str (Str.ofString "1 2;\n3 4"), .str (Str.ofString "1_0"), .str (Str.ofString "1\t2")]) rfl rfl qa_nil))))
      (qss_cons (qs_set (i := 1) sc_law_odd.nd rfl (by first | exact Or.inl rfl | exact Or.inr rfl) (qe_op op_cat (qe_mk (pv 1)) (qe_lst (qa_pre (vs := [.str (Str.ofString "1//2"), .str (Str.ofString "1/-2"), .str (Str.ofString "1/0"), .str (Str.ofString "-"), .str (Str.ofString "/2"), .str (Str.ofString "1; 1 2"), .non, .int 3]) rfl rfl (qa_cons (qe_lst (qa_cons qe_str qa_nil)) (qa_cons qe_str qa_nil))))))
      (qss_cons (qs_set (i := 1) sc_law_odd.nd rfl (by first | exact Or.inl rfl | exact Or.inr rfl) (qe_op op_cat (qe_mk (pv 1)) (qe_lst (qa_cons (qe_op op_add_str (qe_op op_add_str (qe_op op_add_str (qe_op op_mul_str qe_str qe_int) qe_str) (qe_op op_mul_str qe_str qe_int)) qe_str) (qa_cons (qe_op op_mul_str qe_str qe_int) (qa_cons (qe_op op_add_str qe_str (qe_op op_mul_str qe_str qe_int)) qa_nil))))))
      (qss_cons (qs_set (i := 1) sc_law_odd.nd rfl (by first | exact Or.inl rfl | exact Or.inr rfl) (qe_op op_cat (qe_mk (pv 1)) (qe_lst (qa_cons (qe_mk (pe_bm PySem.F.plainAttrs_str PySem.F.slot_str_join PySem.F.type_str_join (mt_joinK (K := K) rfl) pe_str (pa_cons (pe_op op_rep (pe_lst (pa_cons pe_str pa_nil)) pe_int) pa_nil))) (qa_cons (qe_mk (pe_bm PySem.F.plainAttrs_str PySem.F.slot_str_join PySem.F.type_str_join (mt_joinK (K := K) rfl) pe_str (pa_cons (pe_op op_rep (pe_lst (pa_cons pe_str pa_nil)) pe_int) pa_nil))) (qa_cons (qe_mk (pe_bm PySem.F.plainAttrs_str PySem.F.slot_str_join PySem.F.type_str_join (mt_joinK (K := K) rfl) pe_str (pa_cons (pe_op op_rep (pe_lst (pa_cons pe_str pa_nil)) pe_int) pa_nil))) qa_nil))))))
      (qss_one (qs_ret (qe_mk (pe_ix (ix_listK (K := K) rfl) (pv 1) (pe_op op_mod (pv 0) (pe_callB (call_lenK (K := K) rfl) (by rfl) T.len_ PySem.boot_len (pa_cons (pv 1) pa_nil))) (fun _ _ => rfl)))))))))), fn_valR (Γn := []) (N := N_law_odd) (st_seq (ST.post (Γn := []) (st_setS 1 (EM.es (em_lst (am_pre (by rfl) am_nil)))))
      (st_seq (ST.post (Γn := []) (st_setS 1 (es_op o_catS (es_var 1) (EM.es (em_lst (am_pre (by rfl) am_nil))))))
      (st_seq (ST.post (Γn := []) (st_setS 1 (es_op o_catS (es_var 1) (EM.es (em_lst (am_pre (by rfl) (am_cons0 (em_lst (am_cons0 em_str am_nil)) (am_cons0 em_str am_nil))))))))
      (st_seq (ST.post (Γn := []) (st_setS 1 (es_op o_catS (es_var 1) (EM.es (em_lst (am_cons0 (em_op o_catT (EM.er (em_op o_catT (EM.er (em_op o_catT (EM.er (em_op o_mulT (EM.er em_str) (EM.er em_int))) (EM.er em_str))) (EM.er (em_op o_mulT (EM.er em_str) (EM.er em_int))))) (EM.er em_str)) (am_cons0 (em_op o_mulT (EM.er em_str) (EM.er em_int)) (am_cons0 (em_op o_catT (EM.er em_str) (EM.er (em_op o_mulT (EM.er em_str) (EM.er em_int)))) am_nil))))))))
      (st_seq (ST.post (Γn := []) (st_setS 1 (es_op o_catS (es_var 1) (EM.es (em_lst (am_cons0 (em_ms m_join (EM.er em_str) (ar_cons (EM.er (em_op o_rep (EM.er (em_lst (am_cons0 em_str am_nil))) (EM.er em_int))) ar_nil)) (am_cons0 (em_ms m_join (EM.er em_str) (ar_cons (EM.er (em_op o_rep (EM.er (em_lst (am_cons0 em_str am_nil))) (EM.er em_int))) ar_nil)) (am_cons0 (em_ms m_join (EM.er em_str) (ar_cons (EM.er (em_op o_rep (EM.er (em_lst (am_cons0 em_str am_nil))) (EM.er em_int))) ar_nil)) am_nil))))))))
      (st_retR (ES.er (es_ixL (es_var 1) (EM.er (em_op o_intC (ES.er (es_var 0)) (EM.er (em_cb c_len (ar_cons (ES.er (es_var 1)) ar_nil))))))))))))) (fun ds P hS => ?_) h⟩
  obtain ⟨i, rfl, hP⟩ := hS
  rw [show startD N_law_odd [.int i] = [some (.int i), none] from rfl]
  have fin : ∀ ds : List D, ds.length = 36 → (∀ d ∈ ds, AnyD d) → asO (atI ds (i % 36)) P := fun ds hl hd => by
    have := emod_lt (x := i) (n := 36) (by decide)
    refine asO_idx (by omega) (by omega) ?_
    rw [List.getElem?_eq_getElem (by omega)]
    exact hP _ (hd _ (List.getElem_mem _))
  refine peel fun R0 e0 => ?_
  walk_at "go"
  refine pre_nil ?_
  refine ⟨by decide +kernel, ?_⟩
  refine cut36 (n := 16) (by decide +kernel) (any_all (by decide +kernel)) fun ds hl hd => ?_
  subst e0
  refine peel fun R0 e0 => ?_
  walk_at "go"
  refine pre_nil ?_
  refine ⟨by decide +kernel, by rw [hl]; decide +kernel, ?_⟩
  refine cut36 (n := 20) (by rw [List.length_append, hl]; rfl) (any_app hd (any_all (by decide +kernel))) ?_
  clear hl hd ds
  intro ds hl hd
  subst e0
  refine peel fun R0 e0 => ?_
  walk_at "go"
  unfold vPre
  walk_at "go"
  refine ⟨by rw [hl]; decide +kernel, ?_⟩
  refine cut36 (n := 30) (by rw [List.length_append, hl]; rfl) (any_app hd (any_app (any_all (by decide +kernel)) (any_cons (.inr ⟨"list", rfl, rfl⟩) (any_cons (any_str (by decide +kernel)) any_nil)))) ?_
  clear hl hd ds
  intro ds hl hd
  subst e0
  refine peel fun R0 e0 => ?_
  walk_at "go"
  refine ⟨30, ⟨rfl, by decide, by decide +kernel, by decide +kernel, by decide +kernel⟩, by decide +kernel, 29, ⟨rfl, by decide, by decide +kernel, by decide +kernel, by decide +kernel⟩, by decide +kernel, by decide +kernel, 31, ⟨rfl, by decide, by decide +kernel, by decide +kernel, by decide +kernel⟩, 30, ⟨rfl, by decide, by decide +kernel, by decide +kernel, by decide +kernel⟩, by decide +kernel, by decide, by rw [hl]; decide, ?_⟩
  refine cut36 (n := 33) (by rw [List.length_append, hl]; rfl) (any_app hd (any_cons (any_str (by decide +kernel)) (any_cons (any_str (by decide +kernel)) (any_cons (any_str (by decide +kernel)) any_nil)))) ?_
  clear hl hd ds
  intro ds hl hd
  subst e0
  refine peel fun R0 e0 => ?_
  walk_at "go"
  rw [show Str.ofString "1" = mkS [49] from by decide, show Str.ofString "1/2" = mkS [49, 47, 50] from by decide, show Str.ofString "1 2 3 4 5 6 7 8" = mkS [49, 32, 50, 32, 51, 32, 52, 32, 53, 32, 54, 32, 55, 32, 56] from by decide]
  rw [show repD [L3.D.str (mkS [49])] 9 = ((List.replicate 9 [49]).map mkS).map L3.D.str from rfl, show repD [L3.D.str (mkS [49, 47, 50])] 9 = ((List.replicate 9 [49, 47, 50]).map mkS).map L3.D.str from rfl, show repD [L3.D.str (mkS [49, 32, 50, 32, 51, 32, 52, 32, 53, 32, 54, 32, 55, 32, 56])] 8 = ((List.replicate 8 [49, 32, 50, 32, 51, 32, 52, 32, 53, 32, 54, 32, 55, 32, 56]).map mkS).map L3.D.str from rfl]
  refine join_in (by decide +kernel) (by decide +kernel) ⟨by decide, ⟨rfl, by decide⟩, ?_⟩
  refine join_in (by decide +kernel) (by decide +kernel) ⟨by decide, ⟨rfl, by decide⟩, ?_⟩
  refine join_in (by decide +kernel) (by decide +kernel) ⟨by decide, by rw [hl]; decide, ?_⟩
  refine cut36 (n := 36) (by rw [List.length_append, hl]; rfl) (any_app hd (any_cons (any_str (by decide +kernel)) (any_cons (any_str (by decide +kernel)) (any_cons (any_str (by decide +kernel)) any_nil)))) ?_
  clear hl hd ds
  intro ds hl hd
  subst e0
  walk_at "go"
  rw [hl]
  walk_at "go"
  exact fin ds hl hd
def numD (l : List Nat) : D := if figB l then .int (vl l : Nat) else .non
theorem num_non {l : List Nat} (h : figB l = false) : numD l = .non := by unfold numD; rw [h]; rfl
theorem num_int {l : List Nat} (h : figB l = true) : numD l = .int (vl l : Nat) := by unfold numD; rw [h]; rfl
theorem occ_fig {c : Nat} : (Builtin.Str.occurrences (mkS [48, 49, 50, 51, 52, 53, 54, 55, 56, 57]) (mkS [c]) 0 (mkS [48, 49, 50, 51, 52, 53, 54, 55, 56, 57]).length 1).isEmpty = !decide (48 ≤ c ∧ c ≤ 57) := by
  rw [← fig_in, ← in_text, Bool.not_not]
def S_law_number : DSp := fun ds P => ∃ l : List Nat, ds = [.str (mkS l)] ∧ Low l ∧ P (numD l)
theorem mono_law_number : DMono S_law_number := by
  intro xs P P' k h
  unfold S_law_number at h ⊢
  grind
theorem len_law_number : ∀ ds P, S_law_number ds P → ds.length = 1 := by
  intro ds P h
  obtain ⟨_, e, _⟩ := h
  rw [e]; rfl
theorem ok_law_number {f : Addr} {fd : FuncData} (F : FnAt K mg "_law_number" s_law_number P_law_number f fd) (A_ : Fns K mg) (T : Txt K mg) {c : Cs} (xs : Exs K mg base c) : FnOk P w K mg base CX0 1 f fd P_law_number (spP K S_law_number) := by
  refine F.fn.ok sc_law_number (fun vs H Q E h => spP_len len_law_number h) (fun cdv A outer s H vs Q E hr h => ?_)
  refine ⟨_, (pss_cons (ps_if (PW.pt (pw_or (pt_cmpR op_eq (pv 0) pe_str (nomark _)) (pw_or (pt_cmpR op_gt (pe_callB call_len_str (by rfl) T.len_ PySem.boot_len (pa_cons (pv 0) pa_nil)) pe_int (nomark _)) (pw_or1 (PW.pt (pw_and (pt_cmpR op_gt (pe_callB call_len_str (by rfl) T.len_ PySem.boot_len (pa_cons (pv 0) pa_nil)) pe_int (nomark _)) (pw_and1 (pt_cmpR op_eq (pe_item_str (pv 0) pe_int (fun _ _ => rfl)) pe_str (nomark _))))))))) (pss_one (ps_ret pe_non)) pss_nil)
      (pss_cons (ps_if (pt_cmpR op_ne (pe_callB (call_lenK (K := K) rfl) (by rfl) T.len_ PySem.boot_len (pa_cons (pe_comp rfl (CompScope.of (sc0 := (defScope s_law_number)) (tn := ["_law_sign"]) (cap := []) (idx := []) (by decide +kernel) rfl rfl) (pi_str (pv 0)) (GSet.name (by decide)) (fun _ _ _ _ _ => pg_name (i := 0) (nodupB_iff (l := ["_law_sign"]) (by decide +kernel)) rfl (by first | exact Or.inl rfl | exact Or.inr rfl) (by first | exact .inl rfl | exact .inr rfl)) (fun _ _ _ _ _ => pts_one (pt_cmpR op_in_str (pv 0) pe_str (by with_unfolding_all rfl))) (fun _ _ _ _ _ => (pv 0)) (by intro _; rfl)) pa_nil)) (pe_callB call_len_str (by rfl) T.len_ PySem.boot_len (pa_cons (pv 0) pa_nil)) (nomark _)) (pss_one (ps_ret pe_non)) pss_nil)
      (pss_one (ps_ret (pe_callTy call_int_text (by rfl) T.int_ boot_int (pa_cons (pv 0) pa_nil)))))), fn_val (Γn := []) (N := N_law_number) (st_seq (st_if (tr_or (tr_test (EM.er (em_op o_eq (ES.er (es_var 0)) (EM.er em_str)))) (tr_or (tr_test (EM.er (em_op o_bl (EM.er (em_cb c_lenS (ar_cons (ES.er (es_var 0)) ar_nil))) (EM.er em_int)))) (tr_and (tr_test (EM.er (em_op o_bl (EM.er (em_cb c_lenS (ar_cons (ES.er (es_var 0)) ar_nil))) (EM.er em_int)))) (tr_test (EM.er (em_op o_eq (EM.er (em_op o_itemS (ES.er (es_var 0)) (EM.er em_int))) (EM.er em_str))))))) (st_ret (M := []) em_non) st_next)
      (st_seq (st_if (tr_test (EM.er (em_op o_ne (EM.er (em_cb c_len (ar_cons (EM.er (em_comp (it_str (ES.er (es_var 0))) (gt_name 0) (tr_test (EM.er (em_op o_inS (ES.er (es_var 0)) (EM.er em_str)))) (ER.scal (ES.er (es_var 0))))) ar_nil))) (EM.er (em_cb c_lenS (ar_cons (ES.er (es_var 0)) ar_nil)))))) (st_ret (M := []) em_non) st_next)
      (st_ret (M := []) (em_cb c_intT (ar_cons (ES.er (es_var 0)) ar_nil))))) (fun ds P hS => ?_) h⟩
  obtain ⟨l, rfl, hL, hP⟩ := hS
  rw [show startD N_law_number [.str (mkS l)] = [some (.str (mkS l))] from rfl]
  have s1 := size1000
  have hl2 := hL.2
  walk_at "go"
  by_cases h0 : l = []
  · subst h0
    rw [if_pos rfl]
    exact hP
  rw [if_neg (fun z => h0 (mkS_inj z))]
  obtain ⟨c0, r0, e0⟩ : ∃ c r, l = c :: r := by
    cases l with
    | nil => exact absurd rfl h0
    | cons c r => exact ⟨c, r, rfl⟩
  have h1 : 1 ≤ l.length := by rw [e0, List.length_cons]; omega
  rw [mkS_len]
  refine ⟨by omega, ?_⟩
  by_cases h30 : 30 < l.length
  · rw [if_pos (by omega)]
    rw [num_non (by unfold figB; rw [decide_eq_false (by omega), Bool.false_and, Bool.false_and])] at hP
    exact hP
  rw [if_neg (by omega)]
  refine ⟨by omega, ?_⟩
  by_cases h2 : 1 < l.length
  · rw [if_pos (by omega)]
    refine ⟨c0, ⟨by omega, by rw [e0]; rfl⟩, ?_⟩
    by_cases hc : c0 = 48
    · rw [if_pos (by rw [hc]; rfl)]
      rw [num_non (by
        unfold figB
        have a1 : (l == [48]) = false := by rw [Bool.eq_false_iff]; intro z; have := congrArg List.length (beq_iff_eq.mp z); rw [List.length_singleton] at this; omega
        have a2 : (l.head? != some 48) = false := by rw [e0, hc]; rfl
        rw [a1, a2, Bool.false_or, Bool.and_false])] at hP
      exact hP
    have nz : ¬ (({ cps := #[c0] } : Str) = mkS [48]) := fun z => hc (List.cons.inj (mkS_inj (show mkS [c0] = mkS [48] from z))).1
    rw [if_neg nz]
    have hh : (l == [48] || l.head? != some 48) = true := by
      rw [Bool.or_eq_true]
      refine .inr ?_
      rw [e0]
      simp
      exact hc
    clear e0
    refine comp_any (as := l) (f := fun c => L3.D.str (mkS [c])) (p := fun c => decide (48 ≤ c ∧ c ≤ 57)) (g := fun c => L3.D.str (mkS [c])) (fun R h => ?_) (by omega) (fun c hc R h => ?_) ?_
    · walk_at "go"
      exact ⟨low_all hL.1, h⟩
    · walk_at "gb"
      rw [occ_fig]
      revert h
      cases decide (48 ≤ c ∧ c ≤ 57) <;> exact id
    walk_at "go"
    cases ha : l.all (fun c => decide (48 ≤ c ∧ c ≤ 57))
    · have lt : (l.filter fun c => decide (48 ≤ c ∧ c ≤ 57)).length ≠ l.length := fun z => by
        have := List.length_filter_eq_length_iff.mp z
        rw [List.all_eq_true.mpr this] at ha
        cases ha
      rw [num_non (by unfold figB; rw [ha, Bool.and_false, Bool.false_and])] at hP
      rw [if_pos (by omega)]
      exact hP
    · rw [List.filter_eq_self.mpr (List.all_eq_true.mp ha), if_neg (fun z => z rfl)]
      have hf : figB l = true := by
        unfold figB
        rw [ha, decide_eq_true ⟨by omega, by omega⟩, Bool.true_and, Bool.true_and]
        exact hh
      rw [num_int hf] at hP
      exact ⟨_, read_fig hf, hP⟩
  rw [if_neg (by omega)]
  have hh : (l == [48] || l.head? != some 48) = true := by
    have er : r0 = [] := by rw [e0, List.length_cons] at h2; exact List.eq_nil_of_length_eq_zero (by omega)
    rw [e0, er]
    by_cases hc : c0 = 48
    · rw [hc]; rfl
    · rw [Bool.or_eq_true]
      refine .inr ?_
      simp
      exact hc
  clear e0
  refine comp_any (as := l) (f := fun c => L3.D.str (mkS [c])) (p := fun c => decide (48 ≤ c ∧ c ≤ 57)) (g := fun c => L3.D.str (mkS [c])) (fun R h => ?_) (by omega) (fun c hc R h => ?_) ?_
  · walk_at "go"
    exact ⟨low_all hL.1, h⟩
  · walk_at "gb"
    rw [occ_fig]
    revert h
    cases decide (48 ≤ c ∧ c ≤ 57) <;> exact id
  walk_at "go"
  cases ha : l.all (fun c => decide (48 ≤ c ∧ c ≤ 57))
  · have lt : (l.filter fun c => decide (48 ≤ c ∧ c ≤ 57)).length ≠ l.length := fun z => by
      have := List.length_filter_eq_length_iff.mp z
      rw [List.all_eq_true.mpr this] at ha
      cases ha
    rw [num_non (by unfold figB; rw [ha, Bool.and_false, Bool.false_and])] at hP
    rw [if_pos (by omega)]
    exact hP
  · rw [List.filter_eq_self.mpr (List.all_eq_true.mp ha), if_neg (fun z => z rfl)]
    have hf : figB l = true := by
      unfold figB
      rw [ha, decide_eq_true ⟨by omega, by omega⟩, Bool.true_and, Bool.true_and]
      exact hh
    rw [num_int hf] at hP
    exact ⟨_, read_fig hf, hP⟩
def cellD (q : Cell) : D := .tup [.int q.1, .int q.2]
def fracD (l : List Nat) : D := if fracB l then cellD (qOf l) else .non
theorem frac_non {l : List Nat} (h : fracB l = false) : fracD l = .non := by unfold fracD; rw [h]; rfl
theorem frac_cell {l : List Nat} (h : fracB l = true) : fracD l = cellD (qOf l) := by unfold fracD; rw [h]; rfl
theorem no_m0 {r : List Nat} : fracB (45 :: 48 :: r) = false := by
  rw [Bool.eq_false_iff]
  intro h
  obtain ⟨g, e⟩ := frac_word h
  generalize qOf _ = q at *
  have hs : ∃ t, 45 :: 48 :: r = sI q.1 ++ t := by
    unfold wordL at e
    split at e
    · exact ⟨[], by rw [List.append_nil]; exact e⟩
    · exact ⟨_, e⟩
  obtain ⟨t, ht⟩ := hs
  unfold sI at ht
  split at ht
  · obtain ⟨c, r', ec, hc⟩ := dg_head (n := q.1.natAbs) (by omega)
    rw [ec] at ht
    exact hc (List.cons.inj (List.cons.inj ht).2).1.symm
  · cases z : dg q.1.natAbs with
    | nil => exact dg_ne z
    | cons c r' =>
      have d := dg_dig (n := q.1.natAbs) c (by rw [z]; exact List.mem_cons_self)
      rw [z] at ht
      have := (List.cons.inj ht).1
      omega
theorem fig_no {x : List Nat} (h : 47 ∈ x) : figB x = false := by
  cases hf : figB x
  · rfl
  · obtain ⟨n, rfl, _⟩ := fig_iff.mp hf
    have := dg_dig (n := n) 47 h
    omega
theorem take1 {l : List Nat} : mkS (l.take 1) = mkS [45] ↔ l.head? = some 45 := by
  constructor
  · intro h
    have := mkS_inj h
    cases l with
    | nil => cases this
    | cons a r => simp at this; rw [this]; rfl
  · intro h
    cases l with
    | nil => cases h
    | cons a r => cases h; rfl
theorem cut_un {l : List Nat} : Txt.slice (mkS l) (some (if mkS (l.take 1) = mkS [45] then 1 else 0)) none = mkS (unS l) := by
  unfold unS
  by_cases h : l.head? = some 45
  · rw [if_pos (take1.mpr h), if_pos h, show (1 : Int) = ((1 : Nat) : Int) from rfl, slice_fr, List.drop_one]
  · rw [if_neg (fun z => h (take1.mp z)), if_neg h, show (0 : Int) = ((0 : Nat) : Int) from rfl, slice_fr, List.drop_zero]
theorem sgn_mul {l : List Nat} {n : Nat} : (n : Int) * (1 - 2 * (if mkS (l.take 1) = mkS [45] then 1 else 0)) = sgn l n := by
  unfold sgn
  by_cases h : l.head? = some 45
  · rw [if_pos (take1.mpr h), if_pos h]; omega
  · rw [if_neg (fun z => h (take1.mp z)), if_neg h]; omega
theorem s49 : Str.ofString "1" = mkS [49] := by decide
theorem sM0 : Str.ofString "-0" = mkS [45, 48] := by decide
theorem inN_yes {a b : D} {P : DK} (ha : a.okN = true) (hb : b.okN = true) (h : a.isNon = true ∨ b.isNon = true) (hP : P (.bl true)) : vInN .non (.lst [a, b]) P := by
  refine ⟨rfl, ?_⟩
  show [a, b].all L3.D.okN = true ∧ P (.bl ([a, b].any L3.D.isNon))
  refine ⟨by simp [ha, hb], ?_⟩
  rw [show [a, b].any L3.D.isNon = true by simp; exact h]
  exact hP
theorem inN_no {i j : Int} {P : DK} (hP : P (.bl false)) : vInN .non (.lst [.int i, .int j]) P := ⟨rfl, rfl, hP⟩
theorem num_ok {l : List Nat} : (numD l).okN = true := by unfold numD; split <;> rfl
theorem vl_lt {p : List Nat} (h : figB p = true) : vl p < 10 ^ 30 := by
  obtain ⟨n, rfl, hn⟩ := fig_iff.mp h
  unfold vl
  rw [dg_val]
  exact hn
theorem mul_sg {q : Prop} [Decidable q] : CMulB 2 (if q then 1 else 0) := by
  split
  · exact ⟨8, 8, by decide, by decide, by decide⟩
  · exact ⟨8, 8, by decide, by decide, by decide⟩
theorem mul_vl {n : Nat} {q : Prop} [Decidable q] (h : n < 10 ^ 30) : CMulB (n : Int) (1 - 2 * (if q then 1 else 0)) := by
  refine ⟨100, 8, by rw [Int.natAbs_natCast]; exact Nat.lt_trans h (by decide), ?_, by decide⟩
  split <;> decide
def S_law_fraction : DSp := fun ds P => ∃ l : List Nat, ds = [.str (mkS l)] ∧ Low l ∧ P (fracD l)
theorem mono_law_fraction : DMono S_law_fraction := by
  intro xs P P' k h
  unfold S_law_fraction at h ⊢
  grind
theorem len_law_fraction : ∀ ds P, S_law_fraction ds P → ds.length = 1 := by
  intro ds P h
  obtain ⟨_, e, _⟩ := h
  rw [e]; rfl
theorem ok_law_fraction {f : Addr} {fd : FuncData} (F : FnAt K mg "_law_fraction" s_law_fraction P_law_fraction f fd) (A_ : Fns K mg) (T : Txt K mg) {c : Cs} (xs : Exs K mg base c) : FnOk P w K mg base CX0 2 f fd P_law_fraction (spP K S_law_fraction) := by
  obtain ⟨f0, d0, E_law_number⟩ := A_.h_law_number
  have G_law_number : FnOk P w K mg base CX0 1 f0 d0 P_law_number (spP K S_law_number) := ok_law_number E_law_number A_ T xs
  obtain ⟨f1, d1, E_law_shared⟩ := A_.h_law_shared
  have G_law_shared : FnOk P w K mg base CX0 1 f1 d1 P_law_shared (spP K S_law_shared) := ok_law_shared E_law_shared A_ T xs
  refine F.fn.ok sc_law_fraction (fun vs H Q E h => spP_len len_law_fraction h) (fun cdv A outer s H vs Q E hr h => ?_)
  refine ⟨_, (pss_cons (ps_if (pt_cmpR op_eq (pe_slice sl_strAny (pv 0) po_none (po_some pe_int)) pe_str (nomark _)) (pss_one (ps_ret pe_non)) pss_nil)
      (pss_cons (ps_asg (pe_bm PySem.F.plainAttrs_str PySem.F.slot_str_partition PySem.F.type_str_partition mt_partition (pe_slice sl_strAny (pv 0) (po_some (pe_callTy call_int1 (by rfl) T.int_ boot_int (pa_cons (pe_cmpR op_eq (pe_slice sl_strAny (pv 0) po_none (po_some pe_int)) pe_str (nomark _)) pa_nil))) po_none) (pa_cons pe_str pa_nil)) (pg_tupK (K := K) rfl rfl (pgs_cons (pg_name (i := 1) sc_law_fraction.nd rfl (by first | exact Or.inl rfl | exact Or.inr rfl)) (pgs_cons (pg_name (i := 2) sc_law_fraction.nd rfl (by first | exact Or.inl rfl | exact Or.inr rfl)) (pgs_cons (pg_name (i := 3) sc_law_fraction.nd rfl (by first | exact Or.inl rfl | exact Or.inr rfl)) pgs_nil)))))
      (pss_cons (ps_if (pt_cmpR op_eq (pv 2) pe_str (nomark _)) (pss_one (ps_set (i := 3) sc_law_fraction.nd rfl (by first | exact Or.inl rfl | exact Or.inr rfl) pe_str)) pss_nil)
      (pss_cons (ps_set (i := 4) sc_law_fraction.nd rfl (by first | exact Or.inl rfl | exact Or.inr rfl) (pe_lst (pa_cons (pe_call G_law_number (hr.mono (by decide)) rfl E_law_number.mg E_law_number.fn.kp E_law_number.bd .nil pass0 (pa_cons (pv 1) pa_nil)) (pa_cons (pe_call G_law_number (hr.mono (by decide)) rfl E_law_number.mg E_law_number.fn.kp E_law_number.bd .nil pass0 (pa_cons (pv 3) pa_nil)) pa_nil))))
      (pss_cons (ps_if (PW.pt (pw_or (pt_cmpR (op_inN (K := K) rfl hr.units) pe_non (pv 4) (by with_unfolding_all rfl)) (pw_or1 (PW.pt (pw_and (pt_cmpR op_ne (pv 2) pe_str (nomark _)) (pw_and1 (PW.pt (pw_or (pt_cmpR op_lt (pe_ix (ix_listK (K := K) rfl) (pv 4) pe_int (fun _ _ => rfl)) pe_int (nomark _)) (pw_or1 (pt_cmpR op_ne (pe_call G_law_shared (hr.mono (by decide)) rfl E_law_shared.mg E_law_shared.fn.kp E_law_shared.bd .nil pass0 (pa_cons (pe_ix (ix_listK (K := K) rfl) (pv 4) pe_int (fun _ _ => rfl)) (pa_cons (pe_ix (ix_listK (K := K) rfl) (pv 4) pe_int (fun _ _ => rfl)) pa_nil))) pe_int (nomark _))))))))))) (pss_one (ps_ret pe_non)) pss_nil)
      (pss_one (ps_ret (pe_tup (pa_cons (pe_op op_mulB (pe_ix (ix_listK (K := K) rfl) (pv 4) pe_int (fun _ _ => rfl)) (pe_op op_sub pe_int (pe_op op_mulB pe_int (pe_callTy call_int1 (by rfl) T.int_ boot_int (pa_cons (pe_cmpR op_eq (pe_slice sl_strAny (pv 0) po_none (po_some pe_int)) pe_str (nomark _)) pa_nil))))) (pa_cons (pe_ix (ix_listK (K := K) rfl) (pv 4) pe_int (fun _ _ => rfl)) pa_nil)))))))))), fn_val (Γn := []) (N := N_law_fraction) (st_seq (st_if (tr_test (EM.er (em_op o_eq (EM.er (em_slSt (ES.er (es_var 0)) or_none (or_some (EM.er em_int)))) (EM.er em_str)))) (st_ret (M := []) em_non) st_next)
      (st_seq (st_asgS (EM.es (em_ms m_partition (EM.er (em_slSt (ES.er (es_var 0)) (or_some (EM.er (em_cb c_int (ar_cons (EM.er (em_op o_eq (EM.er (em_slSt (ES.er (es_var 0)) or_none (or_some (EM.er em_int)))) (EM.er em_str))) ar_nil)))) or_none)) (ar_cons (EM.er em_str) ar_nil))) (gt_tup (gts_cons (gt_name 1) (gts_cons (gt_name 2) (gts_cons (gt_name 3) gts_nil)))))
      (st_seq (st_if (tr_test (EM.er (em_op o_eq (ES.er (es_var 2)) (EM.er em_str)))) (ST.post (Γn := []) (st_setS 3 (EM.es em_str))) st_next)
      (st_seq (ST.post (Γn := []) (st_setS 4 (EM.es (em_lst (am_cons0 (em_call (S := S_law_number) mono_law_number (ar_cons (ES.er (es_var 1)) ar_nil)) (am_cons0 (em_call (S := S_law_number) mono_law_number (ar_cons (ES.er (es_var 3)) ar_nil)) am_nil))))))
      (st_seq (st_if (tr_or (tr_test (EM.er (em_op o_inN (EM.er em_non) (ES.er (es_var 4))))) (tr_and (tr_test (EM.er (em_op o_ne (ES.er (es_var 2)) (EM.er em_str)))) (tr_or (tr_test (EM.er (em_op o_bl (ES.er (es_ixL (es_var 4) (EM.er em_int))) (EM.er em_int)))) (tr_test (EM.er (em_op o_ne (EM.er (em_call (S := S_law_shared) mono_law_shared (ar_cons (ES.er (es_ixL (es_var 4) (EM.er em_int))) (ar_cons (ES.er (es_ixL (es_var 4) (EM.er em_int))) ar_nil)))) (EM.er em_int))))))) (st_ret (M := []) em_non) st_next)
      (st_ret (M := []) (em_tup (am_cons0 (em_op o_intC (ES.er (es_ixL (es_var 4) (EM.er em_int))) (EM.er (em_op o_int (EM.er em_int) (EM.er (em_op o_intC (EM.er em_int) (EM.er (em_cb c_int (ar_cons (EM.er (em_op o_eq (EM.er (em_slSt (ES.er (es_var 0)) or_none (or_some (EM.er em_int)))) (EM.er em_str))) ar_nil)))))))) (am_cons0 (ER.scal (ES.er (es_ixL (es_var 4) (EM.er em_int)))) am_nil))))))))) (fun ds P hS => ?_) h⟩
  obtain ⟨l, rfl, hL, hP⟩ := hS
  rw [show startD N_law_fraction [.str (mkS l)] = [some (.str (mkS l)), none, none, none, none] from rfl]
  have s1 := size1000
  have hl2 := hL.2
  have hU := low_un hL
  have hu2 := hU.2
  walk_at "go"
  have e1 : Txt.slice (mkS l) none (some 1) = mkS (l.take 1) := slice_to (a := 1)
  have e2 : Txt.slice (mkS l) none (some 2) = mkS (l.take 2) := slice_to (a := 2)
  rw [e1, e2, sM0, s49, cut_un]
  refine ⟨by rw [mkS_len]; omega, ?_⟩
  by_cases h2 : l.take 2 = [45, 48]
  · rw [if_pos (congrArg mkS h2)]
    obtain ⟨r, rfl⟩ : ∃ r, l = 45 :: 48 :: r := by
      cases l with
      | nil => cases h2
      | cons a t =>
        cases t with
        | nil => cases h2
        | cons b t => cases h2; exact ⟨t, rfl⟩
    rw [frac_non no_m0] at hP
    exact hP
  rw [if_neg (fun z => h2 (mkS_inj z))]
  refine ⟨by rw [mkS_len]; omega, by rw [mkS_len]; omega, ⟨rfl, by rw [mkS_len]; omega⟩, ?_⟩
  rw [part_any]
  have hj := joinL_splitL (c := 47) (l := unS l)
  have hpl : ∀ p ∈ splitL 47 (unS l), Low p := fun p hp => low_part hU hp
  have hq : qOf l = match splitL 47 (unS l) with
    | [p, q] => (sgn l (vl p), ((vl q : Nat) : Int))
    | p :: _ => (sgn l (vl p), 1)
    | [] => (0, 1) := rfl
  have hf : fracB l = match splitL 47 (unS l) with
    | [p] => figB p && (if p = [48] then decide (l = [48]) else true)
    | [p, q] => figB p && figB q && (if p = [48] then decide (l = [48]) else decide (2 ≤ vl q) && decide (Nat.gcd (vl p) (vl q) = 1))
    | _ => false := rfl
  revert hj hpl hq hf
  cases e : splitL 47 (unS l) with
  | nil => exact absurd e splitL_ne
  | cons p r =>
    cases r with
    | nil =>
      intro hj hpl hq hf
      simp only at hq hf ⊢
      refine ⟨rfl, ?_⟩
      simp only [List.map_cons, List.map_nil]
      walk_at "go"
      refine ⟨p, rfl, hpl p List.mem_cons_self, [49], rfl, ⟨by decide, by decide⟩, ?_⟩
      rw [show numD [49] = .int 1 from rfl]
      refine ⟨by decide, ?_⟩
      cases h1 : figB p
      · rw [h1, Bool.false_and] at hf
        rw [frac_non hf] at hP
        rw [num_non h1]
        refine inN_yes rfl rfl (.inl rfl) ?_
        walk_at "go"
        exact hP
      rw [h1, Bool.true_and] at hf
      have hj : p = unS l := hj
      have hf : fracB l = true := by
        rw [hf]
        split
        · rename_i hz
          rw [hz] at hj
          have := un_back hj.symm
          by_cases hh : l.head? = some 45
          · rw [if_pos hh] at this
            rw [this] at h2
            exact absurd rfl h2
          · rw [if_neg hh] at this
            exact decide_eq_true this
        · rfl
      rw [frac_cell hf, hq] at hP
      rw [num_int h1]
      refine inN_no ?_
      walk_at "go"
      rw [e1]
      refine ⟨by rw [mkS_len]; omega, mul_sg, mul_vl (vl_lt h1), ?_⟩
      rw [sgn_mul]
      exact ⟨by decide, hP⟩
    | cons q t =>
      cases t with
      | nil =>
        intro hj hpl hq hf
        simp only at hq hf ⊢
        refine ⟨rfl, ?_⟩
        simp only [List.map_cons, List.map_nil]
        walk_at "go"
        have ne : ¬ mkS [47] = mkS [] := fun z => by cases mkS_inj z
        rw [if_neg ne]
        refine ⟨p, rfl, hpl p List.mem_cons_self, q, rfl, hpl q (List.mem_cons_of_mem _ List.mem_cons_self), ?_⟩
        refine ⟨by decide, ?_⟩
        cases h1 : figB p
        · rw [h1, Bool.false_and, Bool.false_and] at hf
          rw [frac_non hf] at hP
          rw [num_non h1]
          refine inN_yes rfl num_ok (.inl rfl) ?_
          walk_at "go"
          exact hP
        cases h3 : figB q
        · rw [h3, Bool.and_false, Bool.false_and] at hf
          rw [frac_non hf] at hP
          rw [num_non h3]
          refine inN_yes num_ok rfl (.inr rfl) ?_
          walk_at "go"
          exact hP
        rw [h1, h3, Bool.true_and, Bool.true_and] at hf
        have l48 : l ≠ [48] := fun z => by
          rw [z] at e
          have k : (splitL 47 (unS [48])).length = 1 := by decide
          rw [e] at k
          simp at k
        rw [num_int h1, num_int h3]
        refine inN_no ?_
        walk_at "go"
        rw [if_pos ne]
        by_cases hq2 : ¬ 2 ≤ vl q
        · rw [if_pos (by omega)]
          rw [decide_eq_false hq2, Bool.false_and, decide_eq_false l48] at hf
          rw [frac_non (by rw [hf]; split <;> rfl)] at hP
          exact hP
        rw [if_neg (by omega)]
        refine ⟨(vl p : Nat), vl q, rfl, ?_⟩
        rw [Int.natAbs_natCast]
        walk_at "go"
        have hq2 := Classical.not_not.mp hq2
        by_cases hg : ¬ Nat.gcd (vl p) (vl q) = 1
        · rw [if_pos (by omega)]
          rw [decide_eq_false hg, Bool.and_false, decide_eq_false l48] at hf
          rw [frac_non (by rw [hf]; split <;> rfl)] at hP
          exact hP
        rw [if_neg (by omega)]
        have hg := Classical.not_not.mp hg
        have p48 : p ≠ [48] := fun z => by
          rw [z, show vl [48] = 0 from rfl, Nat.gcd_zero_left] at hg
          omega
        rw [if_neg p48, decide_eq_true hq2, decide_eq_true hg, Bool.true_and] at hf
        rw [frac_cell hf, hq] at hP
        rw [e1]
        refine ⟨by rw [mkS_len]; omega, mul_sg, mul_vl (vl_lt h1), ?_⟩
        rw [sgn_mul]
        exact ⟨by decide, hP⟩
      | cons q2 t2 =>
        intro hj hpl hq hf
        simp only at hq hf ⊢
        refine ⟨rfl, ?_⟩
        simp only [List.map_cons, List.map_nil]
        walk_at "go"
        have ne : ¬ mkS [47] = mkS [] := fun z => by cases mkS_inj z
        rw [if_neg ne]
        rw [frac_non hf] at hP
        have hj : p ++ (47 :: joinL [47] (q :: q2 :: t2)) = unS l := hj
        have hb : Low (joinL [47] (q :: q2 :: t2)) := by
          refine ⟨fun c hc => hU.1 c (by rw [← hj]; exact List.mem_append_right _ (List.mem_cons_of_mem _ hc)), ?_⟩
          have := congrArg List.length hj
          rw [List.length_append, List.length_cons] at this
          omega
        have hn : figB (joinL [47] (q :: q2 :: t2)) = false := fig_no (by
          show 47 ∈ q ++ ([47] ++ joinL [47] (q2 :: t2))
          simp)
        refine ⟨p, rfl, hpl p List.mem_cons_self, _, rfl, hb, ?_⟩
        refine ⟨by decide, ?_⟩
        rw [num_non hn]
        refine inN_yes num_ok rfl (.inr rfl) ?_
        walk_at "go"
        exact hP
def rowD (qs : List Cell) : D := .lst (qs.map cellD)
theorem cell_eq {q : Cell} : cellD q = .tup [.int q.1, .int q.2] := rfl
theorem row_eq {qs : List Cell} : rowD qs = .lst (qs.map cellD) := rfl
def rowO (ws : List (List Nat)) : D := .lst (ws.map fracD)
theorem rowO_eq {ws : List (List Nat)} : rowO ws = .lst (ws.map fracD) := rfl
theorem row_frac {ws : List (List Nat)} (h : ws.all fracB = true) : rowO ws = rowD (ws.map qOf) := by
  unfold rowO rowD
  rw [List.map_map]
  exact congrArg L3.D.lst (List.map_congr_left fun l hl => frac_cell (List.all_eq_true.mp h l hl))
theorem frac_okN {ws : List (List Nat)} : (ws.map fracD).all L3.D.okN = true := by
  rw [List.all_map, List.all_eq_true]
  intro l _
  show (fracD l).okN = true
  unfold fracD
  split <;> rfl
theorem frac_any {ws : List (List Nat)} : (ws.map fracD).any L3.D.isNon = !ws.all fracB := by
  rw [List.any_map]
  induction ws with
  | nil => rfl
  | cons l ws ih =>
    rw [List.any_cons, List.all_cons, ih, Bool.not_and]
    congr 1
    show (fracD l).isNon = !fracB l
    cases h : fracB l
    · rw [frac_non h]; rfl
    · rw [frac_cell h]; rfl
theorem inN_row {ws : List (List Nat)} {P : DK} (h : P (.bl (!ws.all fracB))) : vInN .non (.lst (ws.map fracD)) P := by
  refine ⟨rfl, ?_⟩
  show (ws.map fracD).all L3.D.okN = true ∧ P (.bl ((ws.map fracD).any L3.D.isNon))
  rw [frac_any]
  exact ⟨frac_okN, h⟩
theorem at_row {ls : List (List (List Nat))} {P : DK} (h0 : 1 ≤ ls.length) (h : P (rowO (ls.headD []))) : asO (atI (ls.map rowO) 0) P := by
  refine asO_idx (by decide) (by rw [List.length_map]; omega) ?_
  show asO ((ls.map rowO)[0]?) P
  cases ls with
  | nil => exact absurd h0 (by decide)
  | cons a r => exact h
def S_law_due : DSp := fun ds P => (∃ d m, ds = [d] ∧ d.tyn = some m ∧ isB m "str" = false ∧ P .non) ∨ (∃ l, ds = [.str (mkS l)] ∧ LowT l ∧ (okB l = true → P (.tup [dT (tabT (csOf l)), .int (botT (csOf l) : Nat)])) ∧ (okB l = false → P .non))
theorem mono_law_due : DMono S_law_due := by
  intro xs P P' k h
  rcases h with ⟨d, m, e, h1, h2, h3⟩ | ⟨l, e, h0, h1, h2⟩
  · exact .inl ⟨d, m, e, h1, h2, k _ h3⟩
  · exact .inr ⟨l, e, h0, fun z => k _ (h1 z), fun z => k _ (h2 z)⟩
theorem len_law_due : ∀ ds P, S_law_due ds P → ds.length = 1 := by
  intro ds P h
  unfold S_law_due at h
  grind
theorem ok_law_due {f : Addr} {fd : FuncData} (F : FnAt K mg "_law_due" s_law_due P_law_due f fd) (A_ : Fns K mg) (T : Txt K mg) {c : Cs} (xs : Exs K mg base c) : FnOk P w K mg base CX0 3 f fd P_law_due (spP K S_law_due) := by
  obtain ⟨f0, d0, E_law_fraction⟩ := A_.h_law_fraction
  have G_law_fraction : FnOk P w K mg base CX0 2 f0 d0 P_law_fraction (spP K S_law_fraction) := ok_law_fraction E_law_fraction A_ T xs
  obtain ⟨f1, d1, E_law_shared⟩ := A_.h_law_shared
  have G_law_shared : FnOk P w K mg base CX0 1 f1 d1 P_law_shared (spP K S_law_shared) := ok_law_shared E_law_shared A_ T xs
  refine F.fn.ok sc_law_due (fun vs H Q E h => spP_len len_law_due h) (fun cdv A outer s H vs Q E hr h => ?_)
  refine ⟨_, (pss_cons (ps_if (pt_not (pt_val (pe_callB (call_isinstK (K := K) rfl) (by rfl) T.isinstance_ boot_isinstance (pa_cons (pv 0) (pa_cons (pe_bltn (v := .ty "str") rfl T.str_ boot_str rfl) pa_nil))))) (pss_one (ps_ret pe_non)) pss_nil)
      (pss_cons (ps_setC0 (i := 1) (CompScope.of (sc0 := (defScope s_law_due)) (tn := ["_law_line"]) (cap := []) (idx := []) (by decide +kernel) rfl rfl) sc_law_due.nd rfl (by first | exact Or.inl rfl | exact Or.inr rfl) (pi_listK (K := K) rfl (pe_bm PySem.F.plainAttrs_str PySem.F.slot_str_split PySem.F.type_str_split mt_split (pv 0) (pa_cons pe_str pa_nil))) (GSet.name (by decide)) (fun _ _ _ _ _ => pg_name (i := 0) (nodupB_iff (l := ["_law_line"]) (by decide +kernel)) rfl (by first | exact Or.inl rfl | exact Or.inr rfl) (by first | exact .inl rfl | exact .inr rfl)) (fun _ _ _ _ _ => (pe_comp0 (CompScope.of (sc0 := (relabelS _ (defScope s_law_due))) (tn := ["_law_word"]) (cap := []) (idx := []) (by decide +kernel) rfl rfl) (pi_listK (K := K) rfl (pe_bm PySem.F.plainAttrs_str PySem.F.slot_str_split PySem.F.type_str_split mt_split (pv 0) (pa_cons pe_str pa_nil))) (GSet.name (by decide)) (fun _ _ _ _ _ => pg_name (i := 0) (nodupB_iff (l := ["_law_word"]) (by decide +kernel)) rfl (by first | exact Or.inl rfl | exact Or.inr rfl) (by first | exact .inl rfl | exact .inr rfl)) (fun _ _ _ _ _ => (pe_call G_law_fraction (hr.mono (by decide)) rfl E_law_fraction.mg E_law_fraction.fn.kp E_law_fraction.bd .nil pass0 (pa_cons (pv 0) pa_nil))))))
      (pss_cons (ps_set (i := 2) sc_law_due.nd rfl (by first | exact Or.inl rfl | exact Or.inr rfl) pe_int)
      (pss_cons (ps_for PassesOwn.never rfl (pi_listK (K := K) rfl (pv 1)) (pg_name (i := 3) sc_law_due.nd rfl (by first | exact Or.inl rfl | exact Or.inr rfl)) (pss_cons (ps_if (PW.pt (pw_or (pt_cmpR (op_inN (K := K) rfl hr.units) pe_non (pv 3) (by with_unfolding_all rfl)) (pw_or (pt_cmpR op_ne (pe_callB (call_lenK (K := K) rfl) (by rfl) T.len_ PySem.boot_len (pa_cons (pv 3) pa_nil)) (pe_callB (call_lenK (K := K) rfl) (by rfl) T.len_ PySem.boot_len (pa_cons (pe_ix (ix_listK (K := K) rfl) (pv 1) pe_int (fun _ _ => rfl)) pa_nil)) (nomark _)) (pw_or (pt_cmpR op_gt (pe_callB (call_lenK (K := K) rfl) (by rfl) T.len_ PySem.boot_len (pa_cons (pv 3) pa_nil)) pe_int (nomark _)) (pw_or1 (pt_cmpR op_gt (pe_callB (call_lenK (K := K) rfl) (by rfl) T.len_ PySem.boot_len (pa_cons (pv 1) pa_nil)) pe_int (nomark _))))))) (pss_one (ps_ret pe_non)) pss_nil)
      (pss_one (ps_for PassesOwn.never rfl (pi_listK (K := K) rfl (pv 3)) (pg_tupK (K := K) rfl rfl (pgs_cons (pg_name (i := 4) sc_law_due.nd rfl (by first | exact Or.inl rfl | exact Or.inr rfl)) (pgs_cons (pg_name (i := 5) sc_law_due.nd rfl (by first | exact Or.inl rfl | exact Or.inr rfl)) pgs_nil))) (pss_one (ps_set (i := 2) sc_law_due.nd rfl (by first | exact Or.inl rfl | exact Or.inr rfl) (pe_op op_mulB (pe_op op_fdivB (pv 2) (pe_call G_law_shared (hr.mono (by decide)) rfl E_law_shared.mg E_law_shared.fn.kp E_law_shared.bd .nil pass0 (pa_cons (pv 2) (pa_cons (pv 5) pa_nil)))) (pv 5))))))))
      (pss_one (ps_ret (pe_tup (pa_cons (pe_comp0 (CompScope.of (sc0 := (defScope s_law_due)) (tn := ["_law_line"]) (cap := ["_law_bottom"]) (idx := [2]) (by decide +kernel) rfl rfl) (pi_listK (K := K) rfl (pv 1)) (GSet.name (by decide)) (fun _ _ _ _ _ => pg_name (i := 0) (nodupB_iff (l := ["_law_line", "_law_bottom"]) (by decide +kernel)) rfl (by first | exact Or.inl rfl | exact Or.inr rfl) (by first | exact .inl rfl | exact .inr rfl)) (fun _ _ _ _ _ => (pe_comp0 (CompScope.of (sc0 := (relabelS _ (defScope s_law_due))) (tn := ["_law_top", "_law_own"]) (cap := ["_law_bottom"]) (idx := [1]) (by decide +kernel) rfl rfl) (pi_listK (K := K) rfl (pv 0)) (GSet.tup (GSets.cons (by decide) (GSets.cons (by decide) GSets.nil))) (fun _ _ _ _ _ => pg_tupK (K := K) (n := 2) rfl rfl (pgs_cons (pg_name (i := 0) (nodupB_iff (l := ["_law_top", "_law_own", "_law_bottom"]) (by decide +kernel)) rfl (by first | exact Or.inl rfl | exact Or.inr rfl) (by first | exact .inl rfl | exact .inr rfl)) (pgs_cons (pg_name (i := 1) (nodupB_iff (l := ["_law_top", "_law_own", "_law_bottom"]) (by decide +kernel)) rfl (by first | exact Or.inl rfl | exact Or.inr rfl) (by first | exact .inl rfl | exact .inr rfl)) pgs_nil))) (fun _ _ _ _ _ => (pe_op op_mulB (pv 0) (pe_op op_fdivB (pv 2) (pv 1))))))) (pa_cons (pv 2) pa_nil))))))))), fn_val (Γn := [2]) (N := N_law_due) (st_seq (st_if (tr_not (tr_b (EM.er (em_isinst kit_str (ES.er (es_var 0)))))) (st_ret (M := []) em_non) st_next)
      (st_seq (ST.post (Γn := []) (st_setS 1 (EM.es (em_comp0 (it_list (EM.es (em_ms m_split (ES.er (es_var 0)) (ar_cons (EM.er em_str) ar_nil)))) (gt_name 0) (em_comp0 (it_list (EM.es (em_ms m_split (ES.er (es_var 0)) (ar_cons (EM.er em_str) ar_nil)))) (gt_name 0) (em_call (S := S_law_fraction) mono_law_fraction (ar_cons (ES.er (es_var 0)) ar_nil)))))))
      (st_seq (ST.post (Γn := [2]) (st_setM (M := []) 2 em_int))
      (st_seq (st_for (it_list (es_var 1)) (gt_name 3) (st_seq (st_if (tr_or (tr_test (EM.er (em_op o_inN (EM.er em_non) (ES.er (es_var 3))))) (tr_or (tr_test (EM.er (em_op o_ne (EM.er (em_cb c_len (ar_cons (ES.er (es_var 3)) ar_nil))) (EM.er (em_cb c_len (ar_cons (ES.er (es_ixL (es_var 1) (EM.er em_int))) ar_nil)))))) (tr_or (tr_test (EM.er (em_op o_bl (EM.er (em_cb c_len (ar_cons (ES.er (es_var 3)) ar_nil))) (EM.er em_int)))) (tr_test (EM.er (em_op o_bl (EM.er (em_cb c_len (ar_cons (ES.er (es_var 1)) ar_nil))) (EM.er em_int))))))) (st_ret (M := []) em_non) st_next)
      (st_for (it_list (es_var 3)) (gt_tup (gts_cons (gt_name 4) (gts_cons (gt_name 5) gts_nil))) (ST.post (Γn := [2]) (st_setM (M := []) 2 (em_op o_intC (EM.er (em_op o_intC (er_var 2) (EM.er (em_call (S := S_law_shared) mono_law_shared (ar_cons (er_var 2) (ar_cons (ES.er (es_var 5)) ar_nil)))))) (ES.er (es_var 5))))))))
      (st_ret (M := [2]) (em_tup (am_cons (em_comp0 (it_list (es_var 1)) (gt_name 0) (em_comp0 (it_list (es_var 0)) (gt_tup (gts_cons (gt_name 0) (gts_cons (gt_name 1) gts_nil))) (em_op o_intC (ES.er (es_var 0)) (EM.er (em_op o_intC (ES.er (es_var 2)) (ES.er (es_var 1))))))) (am_cons (em_var 2) am_nil)))))))) (fun ds P hS => ?_) h⟩
  rcases hS with ⟨d, m, rfl, ht, hm, hR⟩ | ⟨l, rfl, hL, hP, hR⟩
  · rw [show startD N_law_due [d] = [some (d), none, none, none, none, none] from rfl]
    walk_at "go"
    rw [ht]
    simp only [hm]
    walk_at "go"
    exact hR
  rw [show startD N_law_due [.str (mkS l)] = [some (.str (mkS l)), none, none, none, none, none] from rfl]
  have s1 := size1000
  have hl2 := hL.2
  walk_at "go"
  refine comp_all (as := Txt.split (mkS l) (mkS [59, 32])) (f := L3.D.str) (g := fun s => rowO (splitL 32 s.cps.toList)) (fun R h => ?_) (by have := split_many (l := l) (s := [59, 32]); omega) (fun p hq R h => ?_) ?_
  · walk_at "go"
    exact ⟨⟨rfl, by rw [mkS_len]; omega⟩, h⟩
  · have lp := low_sp hL hq
    have l3 := lp.2
    have lw := low_ws lp (by have := (split_part hq).2; have e : p.cps.toList.length = p.length := rfl; omega)
    walk_at "gb"
    refine comp_all (as := splitL 32 p.cps.toList) (f := fun w => L3.D.str (mkS w)) (g := fracD) (fun R h => ?_) (by have := lw.1; omega) (fun w hw R h => ?_) h
    · walk_at "gb"
      refine ⟨⟨rfl, by show p.cps.toList.length + _ ≤ _; omega⟩, ?_⟩
      rw [split_lo lp, List.map_map]
      exact h
    · walk_at "gb"
      exact ⟨w, rfl, lw.2 w hw, h⟩
  rw [show L3.D.lst ((Txt.split (mkS l) (mkS [59, 32])).map fun s => rowO (splitL 32 s.cps.toList)) = .lst ((lns l).map rowO) from by unfold lns; rw [List.map_map]; rfl]
  have lo := low_lns hL
  unfold okB at hP hR
  have hcs : csOf l = (lns l).map fun ws => ws.map qOf := rfl
  have hcells : ((lns l).all fun ws => ws.all fracB) = true → (lns l).map rowO = (csOf l).map rowD := fun ha => by
    rw [hcs, List.map_map]
    exact List.map_congr_left fun ws hw => row_frac (List.all_eq_true.mp ha ws hw)
  obtain ⟨lo1, lo2, lo3⟩ := lo
  rw [hcs] at hP hcells
  generalize lns l = ls at *
  clear hcs
  walk_at "go"
  refine loop_any (as := ls) (f := rowO) (fun i δ => ∃ (o3 o4 o5 : Option D), δ = [some (.str (mkS l)), some (.lst (ls.map rowO)), some (.int (((ls.take i).map fun ws => ws.map qOf).foldl botL 1 : Nat)), o3, o4, o5] ∧ ((ls.take i).map fun ws => ws.map qOf).foldl botL 1 < 2 ^ (800 * i + 1) ∧ ∀ ws ∈ ls.take i, ws.all fracB = true ∧ ws.length = (ls.headD []).length ∧ ws.length ≤ 8 ∧ ls.length ≤ 8) ⟨none, none, none, rfl, by show (1 : Nat) < 2 ^ 1; decide, fun ws hw => absurd hw (by rw [List.take_zero]; exact List.not_mem_nil)⟩ ?_ ?_
  · rintro i ws δ N e ⟨o3, o4, o5, rfl, hb, hpre⟩ hN
    obtain ⟨q1, q2⟩ := List.getElem?_eq_some_iff.mp e
    have hm := List.mem_of_getElem? e
    have bad : ∀ {Q : Prop}, (ws.all fracB = true → ws.length = (ls.headD []).length → ws.length ≤ 8 → ls.length ≤ 8 → Q) → (P .non → Q) → Q := fun {Q} h1 h2 => by
      cases ha : ws.all fracB
      · refine h2 (hR ?_)
        rw [show (ls.all fun ws => ws.all fracB) = false from by rw [Bool.eq_false_iff]; intro z; rw [List.all_eq_true.mp z ws hm] at ha; exact absurd ha (by decide), Bool.and_false]
      by_cases hl : ws.length = (ls.headD []).length
      · by_cases h8 : ws.length ≤ 8 ∧ ls.length ≤ 8
        · exact h1 ha hl h8.1 h8.2
        · refine h2 (hR ?_)
          unfold shB
          rw [decide_eq_false (fun z => h8 ⟨by omega, z.1⟩), Bool.false_and, Bool.false_and]
      · refine h2 (hR ?_)
        unfold shB
        rw [show (ls.all fun ws => decide (ws.length = (ls.headD []).length)) = false from by rw [Bool.eq_false_iff]; intro z; exact hl (of_decide_eq_true (List.all_eq_true.mp z ws hm)), Bool.and_false, Bool.false_and]
    rw [rowO_eq]
    walk_at "go"
    refine inN_row ?_
    cases ha : ws.all fracB
    · rw [Bool.not_false]
      walk_at "go"
      exact bad (fun z _ _ _ => by rw [ha] at z; cases z) id
    rw [Bool.not_true]
    walk_at "go"
    refine at_row lo1 ?_
    rw [rowO_eq]
    walk_at "go"
    by_cases hl : ws.length = (ls.headD []).length
    case neg => rw [if_pos (by omega)]; exact bad (fun _ z _ _ => absurd z hl) id
    rw [if_neg (by omega)]
    by_cases h8 : ws.length ≤ 8
    case neg => rw [if_pos (by omega)]; exact bad (fun _ _ z _ => absurd z h8) id
    rw [if_neg (by omega)]
    by_cases h9 : ls.length ≤ 8
    case neg => rw [if_pos (by omega)]; exact bad (fun _ _ _ z => absurd z h9) id
    rw [if_neg (by omega)]
    have hgq : ∀ q ∈ ws.map qOf, Good q := fun q hq => by
      obtain ⟨z, hz, rfl⟩ := List.mem_map.mp hq
      exact (frac_word (List.all_eq_true.mp ha z hz)).1
    have hw8 : (ws.map qOf).length ≤ 8 := by rw [List.length_map]; exact h8
    have hpost : ∀ vs ∈ ls.take (i + 1), vs.all fracB = true ∧ vs.length = (ls.headD []).length ∧ vs.length ≤ 8 ∧ ls.length ≤ 8 := fun vs hv => by
      rw [List.take_succ_eq_append_getElem q1, q2] at hv
      rcases List.mem_append.mp hv with z | z
      · exact hpre vs z
      · rw [List.mem_singleton.mp z]; exact ⟨ha, hl, h8, h9⟩
    have et : ((ls.take (i + 1)).map fun ws => ws.map qOf).foldl botL 1 = (ws.map qOf).foldl botW (((ls.take i).map fun ws => ws.map qOf).foldl botL 1) := by
      rw [List.take_succ_eq_append_getElem q1, List.map_append, List.foldl_append, q2]; rfl
    have hrow : ws.map fracD = (ws.map qOf).map cellD := by
      have := row_frac ha
      exact L3.D.lst.inj this
    rw [hrow]
    clear hrow bad hR hP hcells
    generalize hqs : ws.map qOf = qs at *
    generalize ((ls.take i).map fun ws => ws.map qOf).foldl botL 1 = a at *
    refine loop_any (as := qs) (f := cellD) (fun j δ => ∃ (o4 o5 : Option D), δ = [some (.str (mkS l)), some (.lst (ls.map rowO)), some (.int ((qs.take j).foldl botW a : Nat)), some (.lst (qs.map cellD)), o4, o5] ∧ (qs.take j).foldl botW a < 2 ^ (800 * i + 1 + 100 * j)) ⟨_, _, rfl, hb⟩ ?_ ?_
    · rintro j q δ N' e' ⟨o4, o5, rfl, hb'⟩ hN'
      obtain ⟨p1, p2⟩ := List.getElem?_eq_some_iff.mp e'
      have hq := hgq q (List.mem_of_getElem? e')
      have ej : (qs.take (j + 1)).foldl botW a = botW ((qs.take j).foldl botW a) q := by
        rw [List.take_succ_eq_append_getElem p1, List.foldl_append, p2]; rfl
      generalize (qs.take j).foldl botW a = b at *
      have bw := botW_lt hq hb'
      have gp := gcd_pos (a := b) hq
      have q2p := hq.2.1
      have q2n : (q.2.natAbs : Int) = q.2 := by omega
      have q100 : q.2.natAbs < 2 ^ 100 := Nat.lt_trans (show q.2.natAbs < 10 ^ 30 by have := hq.2.2.1; omega) (by decide)
      rw [cell_eq]
      walk_at "go"
      refine ⟨(b : Int), q.2.natAbs, by rw [q2n], ?_⟩
      rw [Int.natAbs_natCast]
      walk_at "go"
      refine ⟨⟨800 * i + 1 + 100 * j, 100, ?_, q100, by omega⟩, ?_⟩
      · rw [← Int.natCast_ediv, Int.natAbs_natCast]
        exact Nat.lt_of_le_of_lt (Nat.div_le_self _ _) hb'
      · refine hN' _ ⟨some (.int q.1), some (.int q.2), ?_, ?_⟩
        · rw [ej]
          unfold botW
          rw [Int.natCast_mul, Int.natCast_ediv, q2n]
        · rw [ej, show 800 * i + 1 + 100 * (j + 1) = 800 * i + 1 + 100 * j + 100 by omega]; exact bw
    · rintro δ ⟨o4, o5, rfl, hb'⟩
      rw [List.take_of_length_le (Nat.le_refl _)] at hb' ⊢
      refine hN _ ⟨_, o4, o5, by rw [et], ?_, hpost⟩
      rw [et]
      exact Nat.lt_of_lt_of_le hb' (Nat.pow_le_pow_right (by decide) (by omega))
  · rintro δ ⟨o3, o4, o5, rfl, hb, hpre⟩
    rw [List.take_of_length_le (Nat.le_refl _)] at hb hpre ⊢
    have ha : (ls.all fun ws => ws.all fracB) = true := List.all_eq_true.mpr fun ws hw => (hpre ws hw).1
    have h0 : ∃ w0, w0 ∈ ls ∧ w0.length = (ls.headD []).length := by
      cases ls with
      | nil => exact absurd lo1 (by decide)
      | cons w0 r => exact ⟨w0, List.mem_cons_self, rfl⟩
    obtain ⟨w0, hw0, e0⟩ := h0
    obtain ⟨_, _, h08, hls8⟩ := hpre w0 hw0
    have hsh : shB ls = true := by
      unfold shB
      rw [decide_eq_true ⟨hls8, by omega⟩, Bool.true_and, List.all_eq_true]
      exact fun ws hw => decide_eq_true (hpre ws hw).2.1
    have hP := hP (by rw [hsh, ha]; rfl)
    rw [hcells ha]
    have hg : ∀ qs ∈ ls.map (fun ws => ws.map qOf), qs.length ≤ 8 ∧ ∀ q ∈ qs, Good q := fun qs hq => by
      obtain ⟨ws, hw, rfl⟩ := List.mem_map.mp hq
      refine ⟨by rw [List.length_map]; exact (hpre ws hw).2.2.1, fun q hq => ?_⟩
      obtain ⟨z, hz, rfl⟩ := List.mem_map.mp hq
      exact (frac_word (List.all_eq_true.mp (hpre ws hw).1 z hz)).1
    have hcl : (ls.map (fun ws => ws.map qOf)).length ≤ 8 := by rw [List.length_map]; exact hls8
    have hB : botT (ls.map fun ws => ws.map qOf) < 2 ^ 6401 := Nat.lt_of_lt_of_le hb (Nat.pow_le_pow_right (by decide) (by omega))
    clear hcells hR hpre hb hsh ha
    generalize ls.map (fun ws => ws.map qOf) = cs at *
    rw [show cs.foldl botL 1 = botT cs from rfl]
    walk_at "go"
    refine comp_all (as := cs) (f := rowD) (g := fun qs => dI (raiL (botT cs) qs)) (fun R h => h) (by omega) (fun qs hq R h => ?_) ?_
    · rw [row_eq]
      walk_at "gb"
      have := (hg qs hq).1
      refine comp_all (as := qs) (f := cellD) (g := fun q => .int (q.1 * ((botT cs : Nat) / q.2))) (fun R h => h) (by omega) (fun q hq2 R h => ?_) ?_
      · rw [cell_eq]
        walk_at "gb"
        exact ⟨rai_div ((hg qs hq).2 q hq2), rai_mul ((hg qs hq).2 q hq2) hB, h⟩
      · rw [show qs.map (fun q => L3.D.int (q.1 * (((botT cs : Nat) : Int) / q.2))) = (raiL (botT cs) qs).map L3.D.int from map_int]
        exact h
    rw [show cs.map (fun qs => dI (raiL (botT cs) qs)) = (tabT cs).map dI by unfold tabT; rw [List.map_map]; rfl]
    exact ⟨by decide, hP⟩
theorem ok_law_alone {f : Addr} {fd : FuncData} (F : FnAt K mg "_law_alone" s_law_alone P_law_alone f fd) (T : Txt K mg) {c : Cs} (xs : Exs K mg base c) : FnE P w K mg base 1 f fd P_law_alone c.NoText (spE true) := by
  refine F.fn.okE (k := 0) sc_law_alone (fun a vs H Q E h => spE_len h) (fun a cdv A outer s H vs Q E hx h => ?_)
  obtain ⟨rfl, q⟩ := h
  refine ⟨_, (pss_cons (ps_if (pt_val (pe_callB (call_isE hx rfl xs.k_NoText) (by rfl) T.isinstance_ boot_isinstance (pa_cons (pv 0) (pa_cons (pe_tup (pa_cons (pe_glob (v := .ref c.NoNumber) rfl xs.m_NoNumber rfl) (pa_cons (pe_glob (v := .ref c.NoTable) rfl xs.m_NoTable rfl) (pa_cons (pe_glob (v := .ref c.NotAlike) rfl xs.m_NotAlike rfl) (pa_cons (pe_glob (v := .ref c.NoStep) rfl xs.m_NoStep rfl) (pa_cons (pe_glob (v := .ref c.NoMix) rfl xs.m_NoMix rfl) (pa_cons (pe_glob (v := .ref c.NotEven) rfl xs.m_NotEven rfl) pa_nil))))))) pa_nil)))) (pss_one (ps_ret pe_bl)) pss_nil)
      (pss_one (ps_ret (pe_not (pe_callB (call_isE hx rfl xs.k_NoText) (by rfl) T.isinstance_ boot_isinstance (pa_cons (pv 0) (pa_cons (pe_tup (pa_cons (pe_glob (v := .ref c.NoSwap) rfl xs.m_NoSwap rfl) (pa_cons (pe_glob (v := .ref c.NoBounds) rfl xs.m_NoBounds rfl) (pa_cons (pe_glob (v := .ref c.NoPlace) rfl xs.m_NoPlace rfl) (pa_cons (pe_glob (v := .ref c.NoSums) rfl xs.m_NoSums rfl) (pa_cons (pe_glob (v := .ref c.NoBottom) rfl xs.m_NoBottom rfl) (pa_cons (pe_glob (v := .ref c.TooGreat) rfl xs.m_TooGreat rfl) pa_nil))))))) pa_nil))))))), ?_⟩
  exact alone_b xs.t1 xs.t2 (fun _ _ _ h => h) (fun _ _ _ h => h) (by simp) (by simp) q
def S_law_asked : DSp := fun ds P => ∃ d, ds = [d] ∧ AnyD d ∧ P (.bl true)
theorem mono_law_asked : DMono S_law_asked := by
  intro xs P P' k h
  unfold S_law_asked at h ⊢
  grind
theorem len_law_asked : ∀ ds P, S_law_asked ds P → ds.length = 1 := by
  intro ds P h
  obtain ⟨_, e, _⟩ := h
  rw [e]; rfl
theorem ok_law_asked {f : Addr} {fd : FuncData} (F : FnAt K mg "_law_asked" s_law_asked P_law_asked f fd) (A_ : Fns K mg) (T : Txt K mg) {c : Cs} (xs : Exs K mg base c) : FnOk P w K mg base CX0 6 f fd P_law_asked (spP K S_law_asked) := by
  obtain ⟨f0, d0, E_law_due⟩ := A_.h_law_due
  have G_law_due : FnOk P w K mg base CX0 3 f0 d0 P_law_due (spP K S_law_due) := ok_law_due E_law_due A_ T xs
  obtain ⟨f1, d1, E_read_table⟩ := A_.h_read_table
  have G_read_table : FnOk P w K mg base (CXR P w) 5 f1 d1 P_read_table (spX K (S_read_table c)) := ok_read_table E_read_table A_ T xs
  obtain ⟨f2, d2, E_law_alone⟩ := A_.h_law_alone
  have G_law_alone : FnE P w K mg base 1 f2 d2 P_law_alone c.NoText (spE true) := ok_law_alone E_law_alone T xs
  refine F.fn.ok sc_law_asked (fun vs H Q E h => spP_len len_law_asked h) (fun cdv A outer s H vs Q E hr h => ?_)
  refine ⟨_, (pss_cons (ps_set (i := 1) sc_law_asked.nd rfl (by first | exact Or.inl rfl | exact Or.inr rfl) (pe_call G_law_due (hr.mono (by decide)) rfl E_law_due.mg E_law_due.fn.kp E_law_due.bd .nil pass0 (pa_cons (pv 0) pa_nil)))
      (pss_cons (ps_if (pt_cmpR op_notN (pv 1) pe_non (nomark _)) (pss_cons (ps_set (i := 2) sc_law_asked.nd rfl (by first | exact Or.inl rfl | exact Or.inr rfl) (pe_call G_read_table (hr.mono (by decide)) rfl E_read_table.mg E_read_table.fn.kp E_read_table.bd .nil passN (pa_cons (pv 0) pa_nil)))
      (pss_one (ps_ret (pe_and (pe_callB (call_isinstK (K := K) rfl) (by rfl) T.isinstance_ boot_isinstance (pa_cons (pv 2) (pa_cons (pe_bltn (v := .ty "tuple") rfl T.tuple_ boot_tuple rfl) pa_nil))) (pe_one (pe_cmpR (op_eqT hr.units) (pv 2) (pv 1) (nomark _))))))) pss_nil)
      (pss_cons (ps_set (i := 3) sc_law_asked.nd rfl (by first | exact Or.inl rfl | exact Or.inr rfl) pe_int)
      (pss_cons (ps_try (i := 4) rfl rfl G_read_table (hr.mono (by decide)) rfl E_read_table.mg E_read_table.fn.kp E_read_table.bd (pa_cons (pv 0) pa_nil) xs.o_NoText xs.o_NoText xs.m_NoText rfl (by simp) sc_law_asked.nd rfl rfl (fun a oe hc => (pss_one (ps_set (i := 3) sc_law_asked.nd rfl (by first | exact Or.inl rfl | exact Or.inr rfl) (pe_op op_add pe_int (pe_callTy call_int1 (by rfl) T.int_ boot_int (pa_cons (pe_callE (E := E0) G_law_alone hc (hr.mono (by decide)) rfl E_law_alone.mg E_law_alone.fn.kp E_law_alone.bd (pa_cons (pv 4) pa_nil)) pa_nil)))))))
      (pss_cons (ps_if (pt_cmpR op_ne (pv 3) pe_int (nomark _)) (pss_one (ps_ret pe_bl)) pss_nil)
      (pss_cons (ps_try (i := 4) rfl rfl G_read_table (hr.mono (by decide)) rfl E_read_table.mg E_read_table.fn.kp E_read_table.bd (pa_cons (pv 0) pa_nil) xs.o_NoText xs.o_MixError xs.m_MixError rfl (by simp) sc_law_asked.nd rfl rfl (fun a oe hc => (pss_one (ps_set (i := 3) sc_law_asked.nd rfl (by first | exact Or.inl rfl | exact Or.inr rfl) (pe_op op_mulB pe_int (pe_callTy call_int1 (by rfl) T.int_ boot_int (pa_cons (pe_callB (call_isx hc xs.k_NoText) (by rfl) T.isinstance_ boot_isinstance (pa_cons (pv 4) (pa_cons (pe_bltn (v := .ty "ValueError") rfl T.ValueError_ (by rfl) rfl) pa_nil))) pa_nil)))))))
      (pss_one (ps_ret (pe_cmpR op_eq (pv 3) pe_int (nomark _)))))))))), fn_val (Γn := []) (N := N_law_asked) (st_seq (ST.post (Γn := []) (st_setS 1 (EM.es (em_call (S := S_law_due) mono_law_due (ar_cons (ES.er (es_var 0)) ar_nil)))))
      (st_seq (st_if (tr_test (EM.er (em_op o_notN (ES.er (es_var 1)) (EM.er em_non)))) (st_seq (ST.post (Γn := []) (st_setS 2 (EM.es (em_noX mono_read_table (ar_cons (ES.er (es_var 0)) ar_nil)))))
      (st_ret (M := []) (em_andV (EM.er (em_isinst kit_tuple (ES.er (es_var 2)))) (em_op o_eqTp (ES.er (es_var 2)) (ES.er (es_var 1)))))) st_next)
      (st_seq (ST.post (Γn := []) (st_setS 3 (EM.es em_int)))
      (st_seq (st_tryI 4 mono_read_table (ar_cons (ES.er (es_var 0)) ar_nil) (sti_know 3 (n := 2) (fun a σ H Q hi q => ⟨_, hi, rfl, fun H' s => .inr ⟨true, rfl, ⟨1, 1, rfl, rfl, q _ s⟩⟩⟩)))
      (st_seq (st_if (tr_test (EM.er (em_op o_ne (ES.er (es_var 3)) (EM.er em_int)))) (st_ret (M := []) em_bl) st_next)
      (st_seq (st_tryI 4 mono_read_table (ar_cons (ES.er (es_var 0)) ar_nil) (sti_know 3 (n := 3) (fun a σ H Q hi q => isx_one xs.v_NoText hi (.inr ⟨true, rfl, ⟨3, 1, rfl, rfl, ⟨64, 64, by decide, by decide, by decide⟩, q _ (Same.refl _)⟩⟩))))
      (st_ret (M := []) (em_op o_eq (ES.er (es_var 3)) (EM.er em_int))))))))) (fun ds P hS => ?_) h⟩
  obtain ⟨d, rfl, hd, hP⟩ := hS
  rw [show startD N_law_asked [d] = [some (d), none, none, none, none] from rfl]
  walk_at "go"
  rcases hd with ⟨l, rfl, hL⟩ | ⟨m, hm, hn⟩
  · cases ok : okB l
    · have no : ∀ {Q : Prop}, okB l = true → Q := fun z => by rw [ok] at z; cases z
      refine .inr ⟨l, rfl, hL, no, fun _ => ?_⟩
      dsimp only
      rw [if_neg (by decide)]
      refine ⟨by omega, .inr ⟨l, rfl, hL, no, fun _ => ⟨rfl, by omega, .inr ⟨l, rfl, hL, no, fun _ => ⟨rfl, ?_⟩⟩⟩⟩⟩
      rw [decide_true]
      exact hP
    · have no : ∀ {Q : Prop}, okB l = false → Q := fun z => by rw [ok] at z; cases z
      refine .inr ⟨l, rfl, hL, fun _ => ?_, no⟩
      dsimp only
      rw [if_pos rfl]
      refine .inr ⟨l, rfl, hL, fun _ => ?_, no⟩
      walk_at "go"
      exact vEqTp_tab hP
  · refine .inl ⟨d, m, rfl, hm, hn, ?_⟩
    dsimp only
    rw [if_neg (by decide)]
    refine ⟨by omega, .inl ⟨d, m, rfl, hm, hn, rfl, by omega, .inl ⟨d, m, rfl, hm, hn, rfl, ?_⟩⟩⟩
    rw [decide_true]
    exact hP
def S_law : DSp := fun ds P => ∃ ns, ds = [.scr ns] ∧ ns.length ≤ 63 ∧ P (.bl true)
theorem law_goal {ns : List Int} {P : DK} (hl : ns.length ≤ 63) (h : P (.bl true)) : S_law [.scr ns] P := ⟨ns, rfl, hl, h⟩
theorem mono_law : DMono S_law := by
  intro xs P P' k h
  unfold S_law at h ⊢
  grind
theorem len_law : ∀ ds P, S_law ds P → ds.length = 1 := by
  intro ds P h
  obtain ⟨_, e, _⟩ := h
  rw [e]; rfl
theorem ok_law {f : Addr} {fd : FuncData} (F : FnAt K mg "law" s_law P_law f fd) (A_ : Fns K mg) (T : Txt K mg) {c : Cs} (xs : Exs K mg base c) : FnOk P w K mg base CX0 7 f fd P_law (spP K S_law) := by
  obtain ⟨f0, d0, E_law_written⟩ := A_.h_law_written
  have G_law_written : FnOk P w K mg base CX0 2 f0 d0 P_law_written (spP K S_law_written) := ok_law_written E_law_written A_ T xs
  obtain ⟨f1, d1, E_law_asked⟩ := A_.h_law_asked
  have G_law_asked : FnOk P w K mg base CX0 6 f1 d1 P_law_asked (spP K S_law_asked) := ok_law_asked E_law_asked A_ T xs
  obtain ⟨f2, d2, E_law_odd⟩ := A_.h_law_odd
  have G_law_odd : FnOk P w K mg base CX0 1 f2 d2 P_law_odd (spR K S_law_odd) := ok_law_odd E_law_odd A_ T xs
  obtain ⟨f3, d3, E_law_spoiled⟩ := A_.h_law_spoiled
  have G_law_spoiled : FnOk P w K mg base CX0 1 f3 d3 P_law_spoiled (spP K S_law_spoiled) := ok_law_spoiled E_law_spoiled A_ T xs
  obtain ⟨f4, d4, E_law_mixed⟩ := A_.h_law_mixed
  have G_law_mixed : FnOk P w K mg base CX0 1 f4 d4 P_law_mixed (spP K S_law_mixed) := ok_law_mixed E_law_mixed A_ T xs
  refine F.fn.ok sc_law (fun vs H Q E h => spP_len len_law h) (fun cdv A outer s H vs Q E hr h => ?_)
  refine ⟨_, (pss_cons (ps_set (i := 1) sc_law.nd rfl (by first | exact Or.inl rfl | exact Or.inr rfl) (pe_call G_law_written (hr.mono (by decide)) rfl E_law_written.mg E_law_written.fn.kp E_law_written.bd .nil pass0 (pa_cons (pv 0) pa_nil)))
      (pss_cons (ps_if (PW.pt (pw_or (pt_not (pt_val (pe_call G_law_asked (hr.mono (by decide)) rfl E_law_asked.mg E_law_asked.fn.kp E_law_asked.bd .nil pass0 (pa_cons (pv 1) pa_nil)))) (pw_or1 (pt_not (pt_val (pe_call G_law_asked (hr.mono (by decide)) rfl E_law_asked.mg E_law_asked.fn.kp E_law_asked.bd .nil pass0 (pa_cons (pe_call G_law_spoiled (hr.mono (by decide)) rfl E_law_spoiled.mg E_law_spoiled.fn.kp E_law_spoiled.bd .nil pass0 (pa_cons (pv 1) (pa_cons (pv 0) pa_nil))) pa_nil))))))) (pss_one (ps_ret pe_bl)) pss_nil)
      (pss_one (ps_ret (pe_and (pe_call G_law_asked (hr.mono (by decide)) rfl E_law_asked.mg E_law_asked.fn.kp E_law_asked.bd .nil pass0 (pa_cons (pe_call G_law_odd (hr.mono (by decide)) rfl E_law_odd.mg E_law_odd.fn.kp E_law_odd.bd .nil pass0 (pa_cons (pe_op op_fdivB (pe_call G_law_mixed (hr.mono (by decide)) rfl E_law_mixed.mg E_law_mixed.fn.kp E_law_mixed.bd .nil pass0 (pa_cons (pv 0) (pa_cons pe_int pa_nil))) pe_int) pa_nil)) pa_nil)) (pe_one (pe_call G_law_asked (hr.mono (by decide)) rfl E_law_asked.mg E_law_asked.fn.kp E_law_asked.bd .nil pass0 (pa_cons (pv 1) pa_nil)))))))), fn_val (Γn := []) (N := N_law) (st_seq (ST.post (Γn := []) (st_setS 1 (EM.es (em_call (S := S_law_written) mono_law_written (ar_cons (ES.er (es_var 0)) ar_nil)))))
      (st_seq (st_if (tr_or (tr_not (tr_b (EM.er (em_call (S := S_law_asked) mono_law_asked (ar_cons (ES.er (es_var 1)) ar_nil))))) (tr_not (tr_b (EM.er (em_call (S := S_law_asked) mono_law_asked (ar_cons (EM.er (em_call (S := S_law_spoiled) mono_law_spoiled (ar_cons (ES.er (es_var 1)) (ar_cons (ES.er (es_var 0)) ar_nil)))) ar_nil)))))) (st_ret (M := []) em_bl) st_next)
      (st_ret (M := []) (em_andV (EM.er (em_call (S := S_law_asked) mono_law_asked (ar_cons (er_call (S := S_law_odd) mono_law_odd (ar_cons (EM.er (em_op o_intC (EM.er (em_call (S := S_law_mixed) mono_law_mixed (ar_cons (ES.er (es_var 0)) (ar_cons (EM.er em_int) ar_nil)))) (EM.er em_int))) ar_nil)) ar_nil))) (em_call (S := S_law_asked) mono_law_asked (ar_cons (ES.er (es_var 1)) ar_nil)))))) (fun ds P hS => ?_) h⟩
  obtain ⟨ns, rfl, hz, hP⟩ := hS
  rw [show startD N_law [.scr ns] = [some (.scr ns), none] from rfl]
  walk_at "go"
  refine ⟨ns, rfl, hz, fun l hl hl2 => ?_⟩
  have LT : LowT l := ⟨hl, by omega⟩
  refine ⟨_, rfl, .inl ⟨l, rfl, LT⟩, ?_⟩
  walk_at "go"
  refine ⟨ns, l, rfl, hl, hl2, fun l' h' => ?_⟩
  refine ⟨_, rfl, .inl ⟨l', rfl, h'⟩, ?_⟩
  walk_at "go"
  refine ⟨ns, 17, rfl, by decide, by decide, fun y _ _ => ?_⟩
  walk_at "go"
  refine ⟨_, rfl, fun d hd => ?_⟩
  refine ⟨d, rfl, hd, ?_⟩
  walk_at "go"
  exact ⟨_, rfl, .inl ⟨l, rfl, LT⟩, hP⟩
end
end Mine
set_option Elab.async false
set_option linter.all false
set_option maxRecDepth 100000
set_option maxHeartbeats 16000000
namespace Mine
open PySem L2 PyProof.Rows
theorem all_mk {l : PySem.W.OpenLaw} {w : World} {K : PySem.W.Frag} {h : Heap} {mg : Str → Option Value} {fa f0 f1 f2 f3 f4 f5 f6 f7 f8 f9 f10 f11 f12 f13 f14 f15 f16 f17 f18 f19 f20 f21 f22 : Addr} (X : K.In h) (G : h.Ns mainGlobals mg) (hfa : mg "law" = some (.ref fa))
    {od0 an0 od1 an1 od2 an2 od3 an3 od4 an4 od5 an5 od6 an6 od7 an7 od8 an8 od9 an9 od10 an10 od11 an11 od12 an12 od13 an13 od14 an14 od15 an15 od16 an16 od17 an17 od18 an18 od19 an19 od20 an20 od21 an21 od22 an22 : Option Addr} {sl0 sl1 sl2 sl3 sl4 sl5 sl6 sl7 sl8 sl9 sl10 sl11 sl12 sl13 sl14 sl15 sl16 sl17 sl18 sl19 sl20 sl21 sl22 : Array (Option Value)} {oc0 kV0 dc0 pm0 cd0 ct0 oc1 kV1 dc1 pm1 cd1 ct1 oc2 kV2 dc2 pm2 cd2 ct2 oc3 kV3 dc3 pm3 cd3 ct3 oc4 kV4 dc4 pm4 cd4 ct4 oc5 kV5 dc5 pm5 cd5 ct5 oc6 kV6 dc6 pm6 cd6 ct6 oc7 kV7 dc7 pm7 cd7 ct7 oc8 kV8 dc8 pm8 cd8 ct8 oc9 kV9 dc9 pm9 cd9 ct9 oc10 kV10 dc10 pm10 cd10 ct10 oc11 kV11 dc11 pm11 cd11 ct11 oc12 kV12 dc12 pm12 cd12 ct12 oc13 kV13 dc13 pm13 cd13 ct13 oc14 kV14 dc14 pm14 cd14 ct14 oc15 kV15 dc15 pm15 cd15 ct15 oc16 kV16 dc16 pm16 cd16 ct16 oc17 kV17 dc17 pm17 cd17 ct17 oc18 kV18 dc18 pm18 cd18 ct18 oc19 kV19 dc19 pm19 cd19 ct19 oc20 kV20 dc20 pm20 cd20 ct20 oc21 kV21 dc21 pm21 cd21 ct21 oc22 kV22 dc22 pm22 cd22 ct22 : Value}
    (a0 : PySem.W.nsIn K mainGlobals "greatest_divisor" = some (some (.ref f0))) (l0 : K.lookup f0 = some ⟨oc0, od0, .func (PySem.W.fnOf "greatest_divisor" "greatest_divisor" (defArgs s_greatest_divisor) (defBody s_greatest_divisor) (defScope s_greatest_divisor) .none kV0 dc0 pm0 an0 cd0 ct0), sl0⟩) (c0 : PySem.W.codeIn K cd0 "greatest_divisor" = true) (k0 : PySem.W.keepIn K (.ref f0) = true)
    (a1 : PySem.W.nsIn K mainGlobals "read_table" = some (some (.ref f1))) (l1 : K.lookup f1 = some ⟨oc1, od1, .func (PySem.W.fnOf "read_table" "read_table" (defArgs s_read_table) (defBody s_read_table) (defScope s_read_table) .none kV1 dc1 pm1 an1 cd1 ct1), sl1⟩) (c1 : PySem.W.codeIn K cd1 "read_table" = true) (k1 : PySem.W.keepIn K (.ref f1) = true)
    (a2 : PySem.W.nsIn K mainGlobals "is_shaped" = some (some (.ref f2))) (l2 : K.lookup f2 = some ⟨oc2, od2, .func (PySem.W.fnOf "is_shaped" "is_shaped" (defArgs s_is_shaped) (defBody s_is_shaped) (defScope s_is_shaped) .none kV2 dc2 pm2 an2 cd2 ct2), sl2⟩) (c2 : PySem.W.codeIn K cd2 "is_shaped" = true) (k2 : PySem.W.keepIn K (.ref f2) = true)
    (a3 : PySem.W.nsIn K mainGlobals "is_written" = some (some (.ref f3))) (l3 : K.lookup f3 = some ⟨oc3, od3, .func (PySem.W.fnOf "is_written" "is_written" (defArgs s_is_written) (defBody s_is_written) (defScope s_is_written) .none kV3 dc3 pm3 an3 cd3 ct3), sl3⟩) (c3 : PySem.W.codeIn K cd3 "is_written" = true) (k3 : PySem.W.keepIn K (.ref f3) = true)
    (a4 : PySem.W.nsIn K mainGlobals "is_fraction" = some (some (.ref f4))) (l4 : K.lookup f4 = some ⟨oc4, od4, .func (PySem.W.fnOf "is_fraction" "is_fraction" (defArgs s_is_fraction) (defBody s_is_fraction) (defScope s_is_fraction) .none kV4 dc4 pm4 an4 cd4 ct4), sl4⟩) (c4 : PySem.W.codeIn K cd4 "is_fraction" = true) (k4 : PySem.W.keepIn K (.ref f4) = true)
    (a5 : PySem.W.nsIn K mainGlobals "without_sign" = some (some (.ref f5))) (l5 : K.lookup f5 = some ⟨oc5, od5, .func (PySem.W.fnOf "without_sign" "without_sign" (defArgs s_without_sign) (defBody s_without_sign) (defScope s_without_sign) .none kV5 dc5 pm5 an5 cd5 ct5), sl5⟩) (c5 : PySem.W.codeIn K cd5 "without_sign" = true) (k5 : PySem.W.keepIn K (.ref f5) = true)
    (a6 : PySem.W.nsIn K mainGlobals "is_figures" = some (some (.ref f6))) (l6 : K.lookup f6 = some ⟨oc6, od6, .func (PySem.W.fnOf "is_figures" "is_figures" (defArgs s_is_figures) (defBody s_is_figures) (defScope s_is_figures) .none kV6 dc6 pm6 an6 cd6 ct6), sl6⟩) (c6 : PySem.W.codeIn K cd6 "is_figures" = true) (k6 : PySem.W.keepIn K (.ref f6) = true)
    (a7 : PySem.W.nsIn K mainGlobals "is_lowest" = some (some (.ref f7))) (l7 : K.lookup f7 = some ⟨oc7, od7, .func (PySem.W.fnOf "is_lowest" "is_lowest" (defArgs s_is_lowest) (defBody s_is_lowest) (defScope s_is_lowest) .none kV7 dc7 pm7 an7 cd7 ct7), sl7⟩) (c7 : PySem.W.codeIn K cd7 "is_lowest" = true) (k7 : PySem.W.keepIn K (.ref f7) = true)
    (a8 : PySem.W.nsIn K mainGlobals "top_of" = some (some (.ref f8))) (l8 : K.lookup f8 = some ⟨oc8, od8, .func (PySem.W.fnOf "top_of" "top_of" (defArgs s_top_of) (defBody s_top_of) (defScope s_top_of) .none kV8 dc8 pm8 an8 cd8 ct8), sl8⟩) (c8 : PySem.W.codeIn K cd8 "top_of" = true) (k8 : PySem.W.keepIn K (.ref f8) = true)
    (a9 : PySem.W.nsIn K mainGlobals "bottom_of" = some (some (.ref f9))) (l9 : K.lookup f9 = some ⟨oc9, od9, .func (PySem.W.fnOf "bottom_of" "bottom_of" (defArgs s_bottom_of) (defBody s_bottom_of) (defScope s_bottom_of) .none kV9 dc9 pm9 an9 cd9 ct9), sl9⟩) (c9 : PySem.W.codeIn K cd9 "bottom_of" = true) (k9 : PySem.W.keepIn K (.ref f9) = true)
    (a10 : PySem.W.nsIn K mainGlobals "common_bottom" = some (some (.ref f10))) (l10 : K.lookup f10 = some ⟨oc10, od10, .func (PySem.W.fnOf "common_bottom" "common_bottom" (defArgs s_common_bottom) (defBody s_common_bottom) (defScope s_common_bottom) .none kV10 dc10 pm10 an10 cd10 ct10), sl10⟩) (c10 : PySem.W.codeIn K cd10 "common_bottom" = true) (k10 : PySem.W.keepIn K (.ref f10) = true)
    (a11 : PySem.W.nsIn K mainGlobals "raised_tops" = some (some (.ref f11))) (l11 : K.lookup f11 = some ⟨oc11, od11, .func (PySem.W.fnOf "raised_tops" "raised_tops" (defArgs s_raised_tops) (defBody s_raised_tops) (defScope s_raised_tops) .none kV11 dc11 pm11 an11 cd11 ct11), sl11⟩) (c11 : PySem.W.codeIn K cd11 "raised_tops" = true) (k11 : PySem.W.keepIn K (.ref f11) = true)
    (a12 : PySem.W.nsIn K mainGlobals "_law_mixed" = some (some (.ref f12))) (l12 : K.lookup f12 = some ⟨oc12, od12, .func (PySem.W.fnOf "_law_mixed" "_law_mixed" (defArgs s_law_mixed) (defBody s_law_mixed) (defScope s_law_mixed) .none kV12 dc12 pm12 an12 cd12 ct12), sl12⟩) (c12 : PySem.W.codeIn K cd12 "_law_mixed" = true) (k12 : PySem.W.keepIn K (.ref f12) = true)
    (a13 : PySem.W.nsIn K mainGlobals "_law_shared" = some (some (.ref f13))) (l13 : K.lookup f13 = some ⟨oc13, od13, .func (PySem.W.fnOf "_law_shared" "_law_shared" (defArgs s_law_shared) (defBody s_law_shared) (defScope s_law_shared) .none kV13 dc13 pm13 an13 cd13 ct13), sl13⟩) (c13 : PySem.W.codeIn K cd13 "_law_shared" = true) (k13 : PySem.W.keepIn K (.ref f13) = true)
    (a14 : PySem.W.nsIn K mainGlobals "_law_written" = some (some (.ref f14))) (l14 : K.lookup f14 = some ⟨oc14, od14, .func (PySem.W.fnOf "_law_written" "_law_written" (defArgs s_law_written) (defBody s_law_written) (defScope s_law_written) .none kV14 dc14 pm14 an14 cd14 ct14), sl14⟩) (c14 : PySem.W.codeIn K cd14 "_law_written" = true) (k14 : PySem.W.keepIn K (.ref f14) = true)
    (a15 : PySem.W.nsIn K mainGlobals "_law_spoiled" = some (some (.ref f15))) (l15 : K.lookup f15 = some ⟨oc15, od15, .func (PySem.W.fnOf "_law_spoiled" "_law_spoiled" (defArgs s_law_spoiled) (defBody s_law_spoiled) (defScope s_law_spoiled) .none kV15 dc15 pm15 an15 cd15 ct15), sl15⟩) (c15 : PySem.W.codeIn K cd15 "_law_spoiled" = true) (k15 : PySem.W.keepIn K (.ref f15) = true)
    (a16 : PySem.W.nsIn K mainGlobals "_law_odd" = some (some (.ref f16))) (l16 : K.lookup f16 = some ⟨oc16, od16, .func (PySem.W.fnOf "_law_odd" "_law_odd" (defArgs s_law_odd) (defBody s_law_odd) (defScope s_law_odd) .none kV16 dc16 pm16 an16 cd16 ct16), sl16⟩) (c16 : PySem.W.codeIn K cd16 "_law_odd" = true) (k16 : PySem.W.keepIn K (.ref f16) = true)
    (a17 : PySem.W.nsIn K mainGlobals "_law_number" = some (some (.ref f17))) (l17 : K.lookup f17 = some ⟨oc17, od17, .func (PySem.W.fnOf "_law_number" "_law_number" (defArgs s_law_number) (defBody s_law_number) (defScope s_law_number) .none kV17 dc17 pm17 an17 cd17 ct17), sl17⟩) (c17 : PySem.W.codeIn K cd17 "_law_number" = true) (k17 : PySem.W.keepIn K (.ref f17) = true)
    (a18 : PySem.W.nsIn K mainGlobals "_law_fraction" = some (some (.ref f18))) (l18 : K.lookup f18 = some ⟨oc18, od18, .func (PySem.W.fnOf "_law_fraction" "_law_fraction" (defArgs s_law_fraction) (defBody s_law_fraction) (defScope s_law_fraction) .none kV18 dc18 pm18 an18 cd18 ct18), sl18⟩) (c18 : PySem.W.codeIn K cd18 "_law_fraction" = true) (k18 : PySem.W.keepIn K (.ref f18) = true)
    (a19 : PySem.W.nsIn K mainGlobals "_law_due" = some (some (.ref f19))) (l19 : K.lookup f19 = some ⟨oc19, od19, .func (PySem.W.fnOf "_law_due" "_law_due" (defArgs s_law_due) (defBody s_law_due) (defScope s_law_due) .none kV19 dc19 pm19 an19 cd19 ct19), sl19⟩) (c19 : PySem.W.codeIn K cd19 "_law_due" = true) (k19 : PySem.W.keepIn K (.ref f19) = true)
    (a20 : PySem.W.nsIn K mainGlobals "_law_alone" = some (some (.ref f20))) (l20 : K.lookup f20 = some ⟨oc20, od20, .func (PySem.W.fnOf "_law_alone" "_law_alone" (defArgs s_law_alone) (defBody s_law_alone) (defScope s_law_alone) .none kV20 dc20 pm20 an20 cd20 ct20), sl20⟩) (c20 : PySem.W.codeIn K cd20 "_law_alone" = true) (k20 : PySem.W.keepIn K (.ref f20) = true)
    (a21 : PySem.W.nsIn K mainGlobals "_law_asked" = some (some (.ref f21))) (l21 : K.lookup f21 = some ⟨oc21, od21, .func (PySem.W.fnOf "_law_asked" "_law_asked" (defArgs s_law_asked) (defBody s_law_asked) (defScope s_law_asked) .none kV21 dc21 pm21 an21 cd21 ct21), sl21⟩) (c21 : PySem.W.codeIn K cd21 "_law_asked" = true) (k21 : PySem.W.keepIn K (.ref f21) = true)
    (a22 : PySem.W.nsIn K mainGlobals "law" = some (some (.ref f22))) (l22 : K.lookup f22 = some ⟨oc22, od22, .func (PySem.W.fnOf "law" "law" (defArgs s_law) (defBody s_law) (defScope s_law) .none kV22 dc22 pm22 an22 cd22 ct22), sl22⟩) (c22 : PySem.W.codeIn K cd22 "law" = true) (k22 : PySem.W.keepIn K (.ref f22) = true)
    {C_MixError C_NoTable C_NoBottom C_NotAlike C_NoStep C_NoMix C_NotEven C_NoSwap C_NoBounds C_NoPlace C_NoSums C_TooGreat C_NoNumber C_NoText : Addr}
    {dd_MixError : Option Addr} {nm_MixError qn_MixError : Str} {bs_MixError : List Value} {ns_MixError : Addr} {hd_MixError : Bool} {sn_MixError : List Str} {sub_MixError : List Value} {ab_MixError : Bool} {col_MixError : Option Bool} {k0_MixError k1_MixError k2_MixError k3_MixError k5_MixError : Option Value}
    {dd_NoText : Option Addr} {nm_NoText qn_NoText : Str} {bs_NoText : List Value} {ns_NoText : Addr} {hd_NoText : Bool} {sn_NoText : List Str} {sub_NoText : List Value} {ab_NoText : Bool} {col_NoText : Option Bool} {k0_NoText k1_NoText k2_NoText k3_NoText k5_NoText : Option Value}
    (e_MixError : PySem.W.nsIn K mainGlobals "MixError" = some (some (.ref C_MixError)))
    (e_NoTable : PySem.W.nsIn K mainGlobals "NoTable" = some (some (.ref C_NoTable)))
    (e_NoBottom : PySem.W.nsIn K mainGlobals "NoBottom" = some (some (.ref C_NoBottom)))
    (e_NotAlike : PySem.W.nsIn K mainGlobals "NotAlike" = some (some (.ref C_NotAlike)))
    (e_NoStep : PySem.W.nsIn K mainGlobals "NoStep" = some (some (.ref C_NoStep)))
    (e_NoMix : PySem.W.nsIn K mainGlobals "NoMix" = some (some (.ref C_NoMix)))
    (e_NotEven : PySem.W.nsIn K mainGlobals "NotEven" = some (some (.ref C_NotEven)))
    (e_NoSwap : PySem.W.nsIn K mainGlobals "NoSwap" = some (some (.ref C_NoSwap)))
    (e_NoBounds : PySem.W.nsIn K mainGlobals "NoBounds" = some (some (.ref C_NoBounds)))
    (e_NoPlace : PySem.W.nsIn K mainGlobals "NoPlace" = some (some (.ref C_NoPlace)))
    (e_NoSums : PySem.W.nsIn K mainGlobals "NoSums" = some (some (.ref C_NoSums)))
    (e_TooGreat : PySem.W.nsIn K mainGlobals "TooGreat" = some (some (.ref C_TooGreat)))
    (e_NoNumber : PySem.W.nsIn K mainGlobals "NoNumber" = some (some (.ref C_NoNumber)))
    (e_NoText : PySem.W.nsIn K mainGlobals "NoText" = some (some (.ref C_NoText)))
    (u_MixError : K.lookup C_MixError = some ⟨.type "type", dd_MixError, .cls ⟨nm_MixError, bs_MixError, .ref C_MixError :: VB, ns_MixError, qn_MixError, hd_MixError, sn_MixError, sub_MixError, ab_MixError, col_MixError, false⟩, #[k0_MixError, k1_MixError, k2_MixError, k3_MixError, some (.builtin "ValueError.__new__"), k5_MixError]⟩) (v_MixError : PySem.W.excIn K C_MixError VB "ValueError.__new__" = true)
    (u_NoText : K.lookup C_NoText = some ⟨.type "type", dd_NoText, .cls ⟨nm_NoText, bs_NoText, .ref C_NoText :: .ref C_MixError :: VB, ns_NoText, qn_NoText, hd_NoText, sn_NoText, sub_NoText, ab_NoText, col_NoText, false⟩, #[k0_NoText, k1_NoText, k2_NoText, k3_NoText, some (.builtin "ValueError.__new__"), k5_NoText]⟩) (v_NoText : PySem.W.excIn K C_NoText VB "ValueError.__new__" = true)
    (ga_NoText : PySem.W.findIn K (.ref C_NoText) "__getattribute__" = some (some (.builtin "BaseException.__getattribute__"))) (ge_NoText : PySem.W.findIn K (.ref C_NoText) "__getattr__" = some none) (cl_NoText : PySem.W.findIn K (.ref C_NoText) "__class__" = some (some (.builtin "object.__class__"))) (ob_NoText : PySem.W.mroIn K C_NoText (.type "object") = some true) (be_NoText : PySem.W.mroIn K C_NoText (.type "BaseException") = some true)
    (kt1 : PySem.W.kitAny K (.ref C_NoText) [.ref C_NoNumber, .ref C_NoTable, .ref C_NotAlike, .ref C_NoStep, .ref C_NoMix, .ref C_NotEven] = some false)
    (kt2 : PySem.W.kitAny K (.ref C_NoText) [.ref C_NoSwap, .ref C_NoBounds, .ref C_NoPlace, .ref C_NoSums, .ref C_NoBottom, .ref C_TooGreat] = some false)
    (kv_NoText : PySem.W.kitOne K (.ref C_NoText) (.type "ValueError") = some true)
    {tk_FIGURES : Tok} (g_FIGURES : PySem.W.nsIn K mainGlobals "FIGURES" = some (some (Value.str "0123456789" tk_FIGURES)))
    {tk_MOST : Tok} (g_MOST : PySem.W.nsIn K mainGlobals "MOST" = some (some (Value.int 8 tk_MOST)))
    {tk_MOST_FIGURES : Tok} (g_MOST_FIGURES : PySem.W.nsIn K mainGlobals "MOST_FIGURES" = some (some (Value.int 30 tk_MOST_FIGURES)))
    (z_len : PySem.W.nsIn K mainGlobals "len" = some none) (z_isinstance : PySem.W.nsIn K mainGlobals "isinstance" = some none) (z_int : PySem.W.nsIn K mainGlobals "int" = some none) (z_bool : PySem.W.nsIn K mainGlobals "bool" = some none) (z_list : PySem.W.nsIn K mainGlobals "list" = some none) (z_range : PySem.W.nsIn K mainGlobals "range" = some none) (z_all : PySem.W.nsIn K mainGlobals "all" = some none) (z_tuple : PySem.W.nsIn K mainGlobals "tuple" = some none) (z_str : PySem.W.nsIn K mainGlobals "str" = some none) (z_abs : PySem.W.nsIn K mainGlobals "abs" = some none) (z_ValueError : PySem.W.nsIn K mainGlobals "ValueError" = some none) :
    ∃ fd : FuncData, (∀ (s : Shared) (v : Value), BindsTo s fd ⟨[v], []⟩ [("_law_script", v)]) ∧ ∀ base : Heap, K.In base → base.Ns mainGlobals mg → FnOk l.prog w K mg base CX0 7 fa fd P_law (L3.spP K S_law) := by
  have e := hfa.symm.trans (PySem.W.mg_of X G a22)
  cases e
  have T : Txt K mg := ⟨PySem.W.mg_none_of X G z_len, PySem.W.mg_none_of X G z_isinstance, PySem.W.mg_none_of X G z_int, PySem.W.mg_none_of X G z_bool, PySem.W.mg_none_of X G z_list, PySem.W.mg_none_of X G z_range, PySem.W.mg_none_of X G z_all, PySem.W.mg_none_of X G z_tuple, PySem.W.mg_none_of X G z_str, PySem.W.mg_none_of X G z_abs, PySem.W.mg_none_of X G z_ValueError, ⟨_, PySem.W.mg_of X G g_FIGURES⟩, ⟨_, PySem.W.mg_of X G g_MOST⟩, ⟨_, PySem.W.mg_of X G g_MOST_FIGURES⟩⟩
  have F0 := fun_mk (st := s_greatest_divisor) l0 c0 k0
  have E0 : FnAt K mg "greatest_divisor" s_greatest_divisor P_greatest_divisor f0 _ := ⟨F0, PySem.W.mg_of X G a0, F0.binds (ps := P_greatest_divisor) fun _ _ _ _ _ _ us hl => match us, hl with | [_, _], _ => rfl⟩
  have F1 := fun_mk (st := s_read_table) l1 c1 k1
  have E1 : FnAt K mg "read_table" s_read_table P_read_table f1 _ := ⟨F1, PySem.W.mg_of X G a1, F1.binds (ps := P_read_table) fun _ _ _ _ _ _ us hl => match us, hl with | [_], _ => rfl⟩
  have F2 := fun_mk (st := s_is_shaped) l2 c2 k2
  have E2 : FnAt K mg "is_shaped" s_is_shaped P_is_shaped f2 _ := ⟨F2, PySem.W.mg_of X G a2, F2.binds (ps := P_is_shaped) fun _ _ _ _ _ _ us hl => match us, hl with | [_], _ => rfl⟩
  have F3 := fun_mk (st := s_is_written) l3 c3 k3
  have E3 : FnAt K mg "is_written" s_is_written P_is_written f3 _ := ⟨F3, PySem.W.mg_of X G a3, F3.binds (ps := P_is_written) fun _ _ _ _ _ _ us hl => match us, hl with | [_], _ => rfl⟩
  have F4 := fun_mk (st := s_is_fraction) l4 c4 k4
  have E4 : FnAt K mg "is_fraction" s_is_fraction P_is_fraction f4 _ := ⟨F4, PySem.W.mg_of X G a4, F4.binds (ps := P_is_fraction) fun _ _ _ _ _ _ us hl => match us, hl with | [_], _ => rfl⟩
  have F5 := fun_mk (st := s_without_sign) l5 c5 k5
  have E5 : FnAt K mg "without_sign" s_without_sign P_without_sign f5 _ := ⟨F5, PySem.W.mg_of X G a5, F5.binds (ps := P_without_sign) fun _ _ _ _ _ _ us hl => match us, hl with | [_], _ => rfl⟩
  have F6 := fun_mk (st := s_is_figures) l6 c6 k6
  have E6 : FnAt K mg "is_figures" s_is_figures P_is_figures f6 _ := ⟨F6, PySem.W.mg_of X G a6, F6.binds (ps := P_is_figures) fun _ _ _ _ _ _ us hl => match us, hl with | [_], _ => rfl⟩
  have F7 := fun_mk (st := s_is_lowest) l7 c7 k7
  have E7 : FnAt K mg "is_lowest" s_is_lowest P_is_lowest f7 _ := ⟨F7, PySem.W.mg_of X G a7, F7.binds (ps := P_is_lowest) fun _ _ _ _ _ _ us hl => match us, hl with | [_, _], _ => rfl⟩
  have F8 := fun_mk (st := s_top_of) l8 c8 k8
  have E8 : FnAt K mg "top_of" s_top_of P_top_of f8 _ := ⟨F8, PySem.W.mg_of X G a8, F8.binds (ps := P_top_of) fun _ _ _ _ _ _ us hl => match us, hl with | [_], _ => rfl⟩
  have F9 := fun_mk (st := s_bottom_of) l9 c9 k9
  have E9 : FnAt K mg "bottom_of" s_bottom_of P_bottom_of f9 _ := ⟨F9, PySem.W.mg_of X G a9, F9.binds (ps := P_bottom_of) fun _ _ _ _ _ _ us hl => match us, hl with | [_], _ => rfl⟩
  have F10 := fun_mk (st := s_common_bottom) l10 c10 k10
  have E10 : FnAt K mg "common_bottom" s_common_bottom P_common_bottom f10 _ := ⟨F10, PySem.W.mg_of X G a10, F10.binds (ps := P_common_bottom) fun _ _ _ _ _ _ us hl => match us, hl with | [_], _ => rfl⟩
  have F11 := fun_mk (st := s_raised_tops) l11 c11 k11
  have E11 : FnAt K mg "raised_tops" s_raised_tops P_raised_tops f11 _ := ⟨F11, PySem.W.mg_of X G a11, F11.binds (ps := P_raised_tops) fun _ _ _ _ _ _ us hl => match us, hl with | [_, _], _ => rfl⟩
  have F12 := fun_mk (st := s_law_mixed) l12 c12 k12
  have E12 : FnAt K mg "_law_mixed" s_law_mixed P_law_mixed f12 _ := ⟨F12, PySem.W.mg_of X G a12, F12.binds (ps := P_law_mixed) fun _ _ _ _ _ _ us hl => match us, hl with | [_, _], _ => rfl⟩
  have F13 := fun_mk (st := s_law_shared) l13 c13 k13
  have E13 : FnAt K mg "_law_shared" s_law_shared P_law_shared f13 _ := ⟨F13, PySem.W.mg_of X G a13, F13.binds (ps := P_law_shared) fun _ _ _ _ _ _ us hl => match us, hl with | [_, _], _ => rfl⟩
  have F14 := fun_mk (st := s_law_written) l14 c14 k14
  have E14 : FnAt K mg "_law_written" s_law_written P_law_written f14 _ := ⟨F14, PySem.W.mg_of X G a14, F14.binds (ps := P_law_written) fun _ _ _ _ _ _ us hl => match us, hl with | [_], _ => rfl⟩
  have F15 := fun_mk (st := s_law_spoiled) l15 c15 k15
  have E15 : FnAt K mg "_law_spoiled" s_law_spoiled P_law_spoiled f15 _ := ⟨F15, PySem.W.mg_of X G a15, F15.binds (ps := P_law_spoiled) fun _ _ _ _ _ _ us hl => match us, hl with | [_, _], _ => rfl⟩
  have F16 := fun_mk (st := s_law_odd) l16 c16 k16
  have E16 : FnAt K mg "_law_odd" s_law_odd P_law_odd f16 _ := ⟨F16, PySem.W.mg_of X G a16, F16.binds (ps := P_law_odd) fun _ _ _ _ _ _ us hl => match us, hl with | [_], _ => rfl⟩
  have F17 := fun_mk (st := s_law_number) l17 c17 k17
  have E17 : FnAt K mg "_law_number" s_law_number P_law_number f17 _ := ⟨F17, PySem.W.mg_of X G a17, F17.binds (ps := P_law_number) fun _ _ _ _ _ _ us hl => match us, hl with | [_], _ => rfl⟩
  have F18 := fun_mk (st := s_law_fraction) l18 c18 k18
  have E18 : FnAt K mg "_law_fraction" s_law_fraction P_law_fraction f18 _ := ⟨F18, PySem.W.mg_of X G a18, F18.binds (ps := P_law_fraction) fun _ _ _ _ _ _ us hl => match us, hl with | [_], _ => rfl⟩
  have F19 := fun_mk (st := s_law_due) l19 c19 k19
  have E19 : FnAt K mg "_law_due" s_law_due P_law_due f19 _ := ⟨F19, PySem.W.mg_of X G a19, F19.binds (ps := P_law_due) fun _ _ _ _ _ _ us hl => match us, hl with | [_], _ => rfl⟩
  have F20 := fun_mk (st := s_law_alone) l20 c20 k20
  have E20 : FnAt K mg "_law_alone" s_law_alone P_law_alone f20 _ := ⟨F20, PySem.W.mg_of X G a20, F20.binds (ps := P_law_alone) fun _ _ _ _ _ _ us hl => match us, hl with | [_], _ => rfl⟩
  have F21 := fun_mk (st := s_law_asked) l21 c21 k21
  have E21 : FnAt K mg "_law_asked" s_law_asked P_law_asked f21 _ := ⟨F21, PySem.W.mg_of X G a21, F21.binds (ps := P_law_asked) fun _ _ _ _ _ _ us hl => match us, hl with | [_], _ => rfl⟩
  have F22 := fun_mk (st := s_law) l22 c22 k22
  have E22 : FnAt K mg "law" s_law P_law fa _ := ⟨F22, PySem.W.mg_of X G a22, F22.binds (ps := P_law) fun _ _ _ _ _ _ us hl => match us, hl with | [_], _ => rfl⟩
  have A_ : Fns K mg := ⟨⟨_, _, E0⟩, ⟨_, _, E1⟩, ⟨_, _, E2⟩, ⟨_, _, E3⟩, ⟨_, _, E4⟩, ⟨_, _, E5⟩, ⟨_, _, E6⟩, ⟨_, _, E7⟩, ⟨_, _, E8⟩, ⟨_, _, E9⟩, ⟨_, _, E10⟩, ⟨_, _, E11⟩, ⟨_, _, E12⟩, ⟨_, _, E13⟩, ⟨_, _, E14⟩, ⟨_, _, E15⟩, ⟨_, _, E16⟩, ⟨_, _, E17⟩, ⟨_, _, E18⟩, ⟨_, _, E19⟩, ⟨_, _, E20⟩, ⟨_, _, E21⟩, ⟨_, _, E22⟩⟩
  exact ⟨PySem.W.fnOf "law" "law" (defArgs s_law) (defBody s_law) (defScope s_law) .none kV22 dc22 pm22 an22 cd22 ct22, fun s v => .of_eq rfl, fun base hb _ => ok_law E22 A_ T (c := ⟨C_MixError, C_NoTable, C_NoBottom, C_NotAlike, C_NoStep, C_NoMix, C_NotEven, C_NoSwap, C_NoBounds, C_NoPlace, C_NoSums, C_TooGreat, C_NoNumber, C_NoText⟩) ⟨PySem.W.mg_of X G e_MixError, PySem.W.mg_of X G e_NoTable, PySem.W.mg_of X G e_NoBottom, PySem.W.mg_of X G e_NotAlike, PySem.W.mg_of X G e_NoStep, PySem.W.mg_of X G e_NoMix, PySem.W.mg_of X G e_NotEven, PySem.W.mg_of X G e_NoSwap, PySem.W.mg_of X G e_NoBounds, PySem.W.mg_of X G e_NoPlace, PySem.W.mg_of X G e_NoSums, PySem.W.mg_of X G e_TooGreat, PySem.W.mg_of X G e_NoNumber, PySem.W.mg_of X G e_NoText, ExcObj.of_lookup (ups := []) hb u_MixError rfl v_MixError, ExcObj.of_lookup (ups := [C_MixError]) hb u_NoText rfl v_NoText, ⟨ga_NoText, ge_NoText, cl_NoText, ob_NoText, be_NoText, by unfold PySem.W.clsIn; rw [u_NoText]; rfl⟩, kt1, kt2, kv_NoText⟩⟩
theorem walk {l : PySem.W.OpenLaw} {q : Program} {loose : List Str} {XP : (Str → Option Value) → Heap → Prop} {YP : World → Heap → Prop} {d : DefRec} {K : Params → PySem.W.Frag} (hn : l.most = some 63) (hdf : d.params.defaults = [])
    (hY : ∀ (w : World) (h : Heap), YP w h → (K w.params).In h)
    (F : ∀ (w : World) (mg : Str → Option Value) (fa : Addr) (h : Heap), (K w.params).In h → h.Ns mainGlobals mg → mg d.name = some (.ref fa) →
      ∃ fd : FuncData, (∀ (s : Shared) (u : Value), BindsTo s fd ⟨[u], []⟩ [("_law_script", u)]) ∧ ∀ base : Heap, (K w.params).In base → base.Ns mainGlobals mg → FnOk l.prog w (K w.params) mg base CX0 7 fa fd ["_law_script"] (L3.spP (K w.params) S_law)) :
    PySem.W.WalkO q loose XP YP l.row.toRowW d [] (fun f vs => PySem.call f vs) :=
  L2.walk_of (n := 63) (k := 7) (x := "_law_script") (CX := fun _ => CX0) (sp := fun w => L3.spP (K w.params) S_law) hn (by decide) hdf ⟨rfl, by decide, by decide⟩ hY F (fun w H a ns hl hO hS => ⟨[.scr ns], ⟨[], _, _, [], [], rfl, rfl, ⟨a, rfl, L3.sc_of hO hS, rfl⟩, rfl, rfl⟩, law_goal hl (fun v H' fp s r n => r.1)⟩) fun _ _ _ _ _ z => z
end Mine
open PySem PySem.W PyProof.Rows
def PySem.W.Fast.tw14355382533602469992 : Unit := ()
def PySem.W.Fast.tw6861692637689452401 : Unit := ()
def PySem.W.Fast.tw17742152742436622786 : Unit := ()
def PySem.W.Fast.tw13122075631328119731 : Unit := ()
def PySem.W.Fast.tw13386382453181208409 : Unit := ()
def PySem.W.Fast.tw11037446100234332934 : Unit := ()
def PySem.W.Fast.tw1796604958997338229 : Unit := ()
def PySem.W.Fast.tw17728940052446255421 : Unit := ()
def PySem.W.Fast.tw14106131094045994867 : Unit := ()
def PySem.W.Fast.tw18040911753961878399 : Unit := ()
def PySem.W.Fast.tw7949798349699929147 : Unit := ()
def PySem.W.Fast.tw13187697172588271980 : Unit := ()
def PySem.W.Fast.tw18100332626984906444 : Unit := ()
def PySem.W.Fast.tw16242426644571547021 : Unit := ()
def PySem.W.Fast.tw14295668754298384619 : Unit := ()
def PySem.W.Fast.tw12509722400993487835 : Unit := ()
def PySem.W.Fast.tw11122986724875107856 : Unit := ()
def PySem.W.Fast.tw1618705824108475489 : Unit := ()
def PySem.W.Fast.tw3705321479790853953 : Unit := ()
def PySem.W.Fast.tw16279694869257996856 : Unit := ()
set_option maxRecDepth 100000 in
set_option maxHeartbeats 0 in
theorem PySem.Challenge.cw_evenmix_k63_texts_refused_holds : PySem.Challenge.rw_evenmix_k63_texts_refused.Holds := by
  w_on; o_law; k_head; (case hw => w_witness2)
  k_fill
  refine Mine.walk (l := PySem.Challenge.rw_evenmix_k63_texts_refused) rfl rfl (fun w h Y => PySem.W.kIn_of Y) ?F
  case F =>
    intro w mg fa h KX G hmg
    refine' Mine.all_mk KX G hmg ?a0 ?l0 ?c0 ?k0 ?a1 ?l1 ?c1 ?k1 ?a2 ?l2 ?c2 ?k2 ?a3 ?l3 ?c3 ?k3 ?a4 ?l4 ?c4 ?k4 ?a5 ?l5 ?c5 ?k5 ?a6 ?l6 ?c6 ?k6 ?a7 ?l7 ?c7 ?k7 ?a8 ?l8 ?c8 ?k8 ?a9 ?l9 ?c9 ?k9 ?a10 ?l10 ?c10 ?k10 ?a11 ?l11 ?c11 ?k11 ?a12 ?l12 ?c12 ?k12 ?a13 ?l13 ?c13 ?k13 ?a14 ?l14 ?c14 ?k14 ?a15 ?l15 ?c15 ?k15 ?a16 ?l16 ?c16 ?k16 ?a17 ?l17 ?c17 ?k17 ?a18 ?l18 ?c18 ?k18 ?a19 ?l19 ?c19 ?k19 ?a20 ?l20 ?c20 ?k20 ?a21 ?l21 ?c21 ?k21 ?a22 ?l22 ?c22 ?k22 ?e_MixError ?e_NoTable ?e_NoBottom ?e_NotAlike ?e_NoStep ?e_NoMix ?e_NotEven ?e_NoSwap ?e_NoBounds ?e_NoPlace ?e_NoSums ?e_TooGreat ?e_NoNumber ?e_NoText ?u_MixError ?v_MixError ?u_NoText ?v_NoText ?ga_NoText ?ge_NoText ?cl_NoText ?ob_NoText ?be_NoText ?kt1 ?kt2 ?kv_NoText ?g_FIGURES ?g_MOST ?g_MOST_FIGURES ?z_len ?z_isinstance ?z_int ?z_bool ?z_list ?z_range ?z_all ?z_tuple ?z_str ?z_abs ?z_ValueError
    (case e_MixError => k_is)
    (case e_NoTable => k_is)
    (case e_NoBottom => k_is)
    (case e_NotAlike => k_is)
    (case e_NoStep => k_is)
    (case e_NoMix => k_is)
    (case e_NotEven => k_is)
    (case e_NoSwap => k_is)
    (case e_NoBounds => k_is)
    (case e_NoPlace => k_is)
    (case e_NoSums => k_is)
    (case e_TooGreat => k_is)
    (case e_NoNumber => k_is)
    (case e_NoText => k_is)
    (case a0 => k_is)
    (case l0 => k_is)
    (case c0 => k_is)
    (case k0 => k_is)
    (case a1 => k_is)
    (case l1 => k_is)
    (case c1 => k_is)
    (case k1 => k_is)
    (case a2 => k_is)
    (case l2 => k_is)
    (case c2 => k_is)
    (case k2 => k_is)
    (case a3 => k_is)
    (case l3 => k_is)
    (case c3 => k_is)
    (case k3 => k_is)
    (case a4 => k_is)
    (case l4 => k_is)
    (case c4 => k_is)
    (case k4 => k_is)
    (case a5 => k_is)
    (case l5 => k_is)
    (case c5 => k_is)
    (case k5 => k_is)
    (case a6 => k_is)
    (case l6 => k_is)
    (case c6 => k_is)
    (case k6 => k_is)
    (case a7 => k_is)
    (case l7 => k_is)
    (case c7 => k_is)
    (case k7 => k_is)
    (case a8 => k_is)
    (case l8 => k_is)
    (case c8 => k_is)
    (case k8 => k_is)
    (case a9 => k_is)
    (case l9 => k_is)
    (case c9 => k_is)
    (case k9 => k_is)
    (case a10 => k_is)
    (case l10 => k_is)
    (case c10 => k_is)
    (case k10 => k_is)
    (case a11 => k_is)
    (case l11 => k_is)
    (case c11 => k_is)
    (case k11 => k_is)
    (case a12 => k_is)
    (case l12 => k_is)
    (case c12 => k_is)
    (case k12 => k_is)
    (case a13 => k_is)
    (case l13 => k_is)
    (case c13 => k_is)
    (case k13 => k_is)
    (case a14 => k_is)
    (case l14 => k_is)
    (case c14 => k_is)
    (case k14 => k_is)
    (case a15 => k_is)
    (case l15 => k_is)
    (case c15 => k_is)
    (case k15 => k_is)
    (case a16 => k_is)
    (case l16 => k_is)
    (case c16 => k_is)
    (case k16 => k_is)
    (case a17 => k_is)
    (case l17 => k_is)
    (case c17 => k_is)
    (case k17 => k_is)
    (case a18 => k_is)
    (case l18 => k_is)
    (case c18 => k_is)
    (case k18 => k_is)
    (case a19 => k_is)
    (case l19 => k_is)
    (case c19 => k_is)
    (case k19 => k_is)
    (case a20 => k_is)
    (case l20 => k_is)
    (case c20 => k_is)
    (case k20 => k_is)
    (case a21 => k_is)
    (case l21 => k_is)
    (case c21 => k_is)
    (case k21 => k_is)
    (case a22 => k_is)
    (case l22 => k_is)
    (case c22 => k_is)
    (case k22 => k_is)
    (case u_MixError => k_is)
    (case v_MixError => k_exc)
    (case u_NoText => k_is)
    (case v_NoText => k_exc)
    (case ga_NoText => k_is)
    (case ge_NoText => k_is)
    (case cl_NoText => k_is)
    (case ob_NoText => k_is)
    (case be_NoText => k_is)
    (case kt1 => kit_is)
    (case kt2 => kit_is)
    (case kv_NoText => kit_is)
    (case g_FIGURES => k_is)
    (case g_MOST => k_is)
    (case g_MOST_FIGURES => k_is)
    (case z_len => k_is)
    (case z_isinstance => k_is)
    (case z_int => k_is)
    (case z_bool => k_is)
    (case z_list => k_is)
    (case z_range => k_is)
    (case z_all => k_is)
    (case z_tuple => k_is)
    (case z_str => k_is)
    (case z_abs => k_is)
    (case z_ValueError => k_is)
